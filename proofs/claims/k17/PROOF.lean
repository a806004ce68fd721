import PyProof.Rows.All
import Wide.All
import OpenK.AllK
import Wide.FinOn
import Lean
import PyProof.EqAt
import PyProof.EqKinds
import PyProof.TupleCall
import PyProof.Rows.SetFrom
import KE.KSortTup
import PyProof.Draws
import PyProof.EnumMake
import PyProof.ListRange
import PyProof.Rows.EnumRows
import PyProof.SetRoads
import PyProof.Rows.MinMaxN
import PyProof.Rows.MaxTwoN
import PySem.Challenge.RW_ringtrade_k17_not_all_owned
noncomputable section
set_option Elab.async false
set_option linter.all false
set_option maxRecDepth 100000
set_option maxHeartbeats 4000000
section
namespace L2
open PySem PySem.Spec PyProof.Rows
abbrev Key:=Sum Int Str
def zjk:Key→Value→Bool
 | .inl k,v=>Value.isInt k v
 | .inr x,v=>Value.isStrOf x v
def keyH (w:World):Key→Int
 | .inl k=>hashInt k
 | .inr x=>hashStr w x
theorem keyIs_shape:∀{k:Key} {v:Value},zjk k v=true→(∃i t,k=Sum.inl i∧v=Value.int i t)∨(∃x t,k=Sum.inr x∧v=Value.str x t)
 | .inl i,v,h=>by
  obtain ⟨t,e⟩:=Value.isInt_shape (k:=i) (v:=v) h
  exact .inl ⟨i,t,rfl,e⟩
 | .inr x,v,h=>by
  obtain ⟨t,e⟩:=Value.isStrOf_shape (x:=x) (v:=v) h
  exact .inr ⟨x,t,rfl,e⟩
theorem zky (i:Int) (t:Tok):zjk (.inl i) (.int i t)=true:=by simp [zjk,Value.isInt]
theorem zkx (x:Str) (t:Tok):zjk (.inr x) (.str x t)=true:=by simp [zjk,Value.isStrOf]
theorem zqL (a b:Int):decide ((Sum.inl a:Key)=Sum.inl b)=(a == b):=by
 by_cases e:a=b
 ·subst e; simp
 ·have h:¬ (Sum.inl a:Key)=Sum.inl b:=fun q=>e (Sum.inl.inj q)
  rw [decide_eq_false h]
  exact (beq_eq_false_iff_ne.mpr e).symm
theorem zqI (a b:Str):decide ((Sum.inr a:Key)=Sum.inr b)=decide (a=b):=by
 by_cases e:a=b
 ·subst e; simp
 ·have h:¬ (Sum.inr a:Key)=Sum.inr b:=fun q=>e (Sum.inr.inj q)
  rw [decide_eq_false h,decide_eq_false e]
theorem zqK (a:Int) (b:Str):decide ((Sum.inl a:Key)=Sum.inr b)=false:=decide_eq_false (fun q=>nomatch q)
theorem zqJ (a:Str) (b:Int):decide ((Sum.inr a:Key)=Sum.inl b)=false:=decide_eq_false (fun q=>nomatch q)
def zbp (prog:Program) (w:World):PySem.KeyKind prog w Key where
 is:=zjk
 hash:=keyH w
 inj:=fun v a b ha hb=>by
  rcases keyIs_shape ha with ⟨i,t,rfl,rfl⟩ | ⟨x,t,rfl,rfl⟩
  ·rcases keyIs_shape hb with ⟨j,u,rfl,e⟩ | ⟨y,u,rfl,e⟩
   ·injection e with e1 _; rw [e1]
   ·exact nomatch e
  ·rcases keyIs_shape hb with ⟨j,u,rfl,e⟩ | ⟨y,u,rfl,e⟩
   ·exact nomatch e
   ·injection e with e1 _; rw [e1]
 byValue:=fun k v h=>by
  rcases keyIs_shape h with ⟨i,t,rfl,rfl⟩ | ⟨x,t,rfl,rfl⟩ <;> rfl
 pyHash:=fun hv h=>by
  rcases keyIs_shape hv with ⟨i,t,rfl,rfl⟩ | ⟨x,t,rfl,rfl⟩
  ·exact wpAny_pyHash_int h
  ·exact wpAny_pyHash_str h
 eqBool:=fun hu hv h=>by
  rcases keyIs_shape hu with ⟨i,t,rfl,rfl⟩ | ⟨x,t,rfl,rfl⟩
  ·rcases keyIs_shape hv with ⟨j,u,rfl,rfl⟩ | ⟨y,u,rfl,rfl⟩
   ·rw [zqL] at h; exact wpAny_eqBool_int h
   ·rw [zqK] at h; exact SeqAt.EqAt.int_str i t y u _ _ _ _ h
  ·rcases keyIs_shape hv with ⟨j,u,rfl,rfl⟩ | ⟨y,u,rfl,rfl⟩
   ·rw [zqJ] at h; exact SeqAt.EqAt.str_int x t j u _ _ _ _ h
   ·rw [zqI] at h; exact wpAny_eqBool_str h
 «strs»:=fun k x t v h=>by
  rcases keyIs_shape h with ⟨i,u,rfl,e⟩ | ⟨y,u,rfl,e⟩
  ·exact nomatch e
  ·injection e with e1 _
   subst e1
   cases v <;> rfl
theorem zhR (prog:Program) (w:World) (i:Int) (t:Tok):(zbp prog w).is (.inl i) (.int i t)=true:=zky i t
theorem zhQ (prog:Program) (w:World) (x:Str) (t:Tok):(zbp prog w).is (.inr x) (.str x t)=true:=zkx x t
end L2
namespace L2
open PySem PySem.Spec PyProof.Rows
inductive V where
 | non | bl (b:Bool) | int (i:Int) | str (x:Str) | byt (b:Array UInt8) | flt (b:UInt64) | ref (a:Addr) | ty (n:String)
 deriving DecidableEq
def RelV:V→Value→Prop
 | .non,u=>u=Value.none
 | .bl b,u=>u=Value.bool b
 | .int i,u=>∃t,u=Value.int i t
 | .str x,u=>∃t,u=Value.str x t
 | .byt b,u=>∃t,u=Value.bytes b t
 | .flt b,u=>∃t,u=Value.float b t
 | .ref a,u=>u=Value.ref a
 | .ty n,u=>u=Value.type n
abbrev Vals:List V→List Value→Prop:=Paired RelV
theorem Vals.length {xs:List V} {us:List Value} (r:Vals xs us):xs.length=us.length:=Paired.length r
theorem Vals.get:∀{xs:List V} {us:List Value} {i:Nat} {x:V},Vals xs us→xs[i]? = some x→∃u,us[i]? = some u∧RelV x u
 | _,_,_,_,.nil,e=>by simp at e
 | _,_,0,_,.cons r _,e=>by simp at e; subst e; exact ⟨_,rfl,r⟩
 | _,_,i + 1,x,.cons _ t,e=>by
  obtain ⟨u,h1,h2⟩:=Vals.get (i:=i) (x:=x) t (by simpa using e)
  exact ⟨u,by simpa using h1,h2⟩
theorem Vals.set {x:V} {u:Value} (r:RelV x u):∀{xs:List V} {us:List Value} (i:Nat),Vals xs us→Vals (xs.set i x) (us.set i u)
 | _,_,_,.nil=>.nil
 | _,_,0,.cons _ t=>.cons r t
 | _,_,i + 1,.cons q t=>.cons q (Vals.set r i t)
theorem Vals.append {xs ys:List V} {us ws:List Value} (h:Vals xs us) (h':Vals ys ws):Vals (xs++ys) (us++ws):=by
 induction h with
 | nil=>exact h'
 | cons r _ ih=>exact .cons r ih
theorem Vals.take:∀{xs:List V} {us:List Value} (n:Nat),Vals xs us→Vals (xs.take n) (us.take n)
 | _,_,0,_=>.nil
 | _,_,_ + 1,.nil=>.nil
 | _,_,n + 1,.cons r t=>.cons r (Vals.take n t)
theorem Vals.drop:∀{xs:List V} {us:List Value} (n:Nat),Vals xs us→Vals (xs.drop n) (us.drop n)
 | _,_,0,r=>r
 | _,_,_ + 1,.nil=>.nil
 | _,_,n + 1,.cons _ t=>Vals.drop n t
def RelO:Option V→Option Value→Prop
 | some v,some u=>RelV v u
 | none,none=>True
 | _,_=>False
def KV {κ:Type}:List (κ × V)→List (κ × Value)→Prop:=Paired fun (p:κ × V) (q:κ × Value)=>p.1=q.1∧RelV p.2 q.2
def kV:Key→V
 | .inl i=>.int i
 | .inr x=>.str x
inductive HO where
 | lst (xs:List V)
 | tup (xs:List V)
 | dK (kvs:List (Key × V)) | dT (kvs:List (List Key × V))
 | set (S:Int→Bool) (n:Nat)
 | ins (C dx:Addr) (fs:List (Str × V))
 | own (x:Addr)
 | xd (fs:List (Str × V))
 | met (f x:Addr)
 | rng (lo hi:Int)
 | frz (o:Obj) (u:HO)
 | tbl (ps:Array Value)
 | ext (φ:Heap→Prop)
abbrev Hp:=Addr→Option HO
def upd (H:Hp) (a:Addr) (o:HO):Hp:=fun b=>if b=a then some o else H b
theorem zak {H:Hp} {a:Addr} {o:HO}:upd H a o a=some o:=by unfold upd; rw [if_pos rfl]
theorem zal {H:Hp} {a b:Addr} {o:HO} (h:b≠a):upd H a o b=H b:=by unfold upd; rw [if_neg h]
theorem zrW {H:Hp} {a b:Addr} {o u:HO} (h:H a=some o) (h':H b=some u) (d:o≠u):a≠b:=by
 intro e; subst e; rw [h] at h'; exact d (Option.some.inj h')
theorem zbv {H:Hp} {a b:Addr} {o:HO} (h:H a=some o) (h':H b=none):a≠b:=by
 intro e; subst e; rw [h] at h'; cases h'
section
variable (P:Program) (w:World)
def za6 (H:Hp) (h:Heap) (a:Addr):HO→Prop
 | .lst xs=>xs.length≤sizeLine∧∃(its:List Value) (n:Nat),Vals xs its∧h.get? a=some { cls:=.type "list",data:=.seq its.toArray n }
 | .tup xs=>xs.length≤sizeLine∧∃its:List Value,Vals xs its∧IsTup h a its.toArray∧∃o,h.get? a=some o∧o.dict=none
 | .dK kvs=>kvs.length≤sizeLine∧(a == sysModules)=false∧∃vs,KV kvs vs∧h.DictOf (zbp P w) a vs
 | .dT kvs=>kvs.length≤sizeLine∧(a == sysModules)=false∧∃xs:List (List Key × Addr × Value),
   Paired (fun (p:List Key × V) (q:List Key × Addr × Value)=>p.1=q.1∧H q.2.1=some (.tup (p.1.map kV))∧RelV p.2 q.2.2) kvs xs ∧
   ∃o es ep,h.get? a=some o∧o.ExactDict∧o.data=.dict es ep∧es.toList=xs.map (entryOfKey (tupleKind (zbp P w)))∧(xs.map (·.1)).Nodup
 | .set S n=>h.SetOf (intKind P w) a S n
 | .ins C dx fs=>H dx=some (.own a)∧fs.length≤1000∧dx≠a∧h.get? a=some (PySem.W.instObj C dx) ∧
   ∃mA,h.Ns1 dx mA∧(∀f,RelO (fs.lookup f) (mA f))∧PySem.Within mA (fs.map (·.1))
 | .own _=>∃o,h.get? a=some o
 | .xd fs=>∃mA,h.Ns1 a mA∧∀f,RelO (fs.lookup f) (mA f)
 | .rng lo hi=>∃t u v,h.get? a=some { cls:=.type "range",data:=.fields #[.int lo t,.int hi u,.int 1 v] }
 | .frz o u=>h.get? a=some o∧za6 H h a u
 | .tbl ps=>h.get? a=some { cls:=.none,data:=.fields ps }
 | .met f x=>h.get? a=some (PySem.W.methodObj (.ref f) (.ref x))
 | .ext φ=>φ h∧(∃o,h.get? a=some o)∧∀h1 h2:Heap,φ h1→(∀o,h1.get? a=some o→h2.get? a=some o)→φ h2
def HOk (H:Hp) (h:Heap):Prop:=∀a o,H a=some o→za6 P w H h a o
end
section
variable {P:Program} {w:World} {H H':Hp} {h h':Heap} {a:Addr} {o:HO}
theorem za6.lt (x:za6 P w H h a o):a < h.objs.size:=by
 cases o with
 | lst xs=>obtain ⟨_,_,_,_,e⟩:=x; exact Heap.lt_size e
 | tup xs=>obtain ⟨_,_,_,p,_⟩:=x; exact p.lt
 | dK kvs=>obtain ⟨_,_,_,_,o,_,_,e,_⟩:=x; exact Heap.lt_size e
 | dT kvs=>obtain ⟨_,_,_,_,o,_,_,e,_⟩:=x; exact Heap.lt_size e
 | set S n=>obtain ⟨o,_,_,_,e,_⟩:=x; exact Heap.lt_size e
 | ins C dx fs=>obtain ⟨_,_,_,e,_⟩:=x; exact Heap.lt_size e
 | own y=>obtain ⟨_,e⟩:=x; exact Heap.lt_size e
 | xd fs=>obtain ⟨_,⟨_,_,_,e,_⟩,_⟩:=x; exact Heap.lt_size e
 | rng lo hi=>obtain ⟨_,_,_,e⟩:=x; exact Heap.lt_size e
 | frz ob u=>obtain ⟨e,_⟩:=x; exact Heap.lt_size e
 | tbl ps=>exact Heap.lt_size (show h.get? a=some _ from x)
 | met f y=>exact Heap.lt_size (show h.get? a=some _ from x)
 | ext φ=>obtain ⟨_,⟨_,e⟩,_⟩:=x; exact Heap.lt_size e
theorem Paired.mapP {α β:Type} {F G:α→β→Prop} {l₁:List α} {l₂:List β} (h:Paired F l₁ l₂) (f:∀a b,F a b→G a b):Paired G l₁ l₂:=by
 induction h with
 | nil=>exact .nil
 | cons r _ ih=>exact .cons (f _ _ r) ih
theorem za6.stay (x:za6 P w H h a o) (k:∀b u,(b=a∨H b=some (.own a))→h.get? b=some u→h'.get? b=some u)
  (ho:∀b,H b=some (.own a)→H' b=some (.own a)) (ht:∀b xs,H b=some (.tup xs)→H' b=some (.tup xs)):za6 P w H' h' a o:=by
 induction o with
 | lst xs=>obtain ⟨z,its,n,r,e⟩:=x; exact ⟨z,its,n,r,k _ _ (.inl rfl) e⟩
 | tup xs=>obtain ⟨z,its,r,⟨ob,e,c⟩,ob2,e2,c2⟩:=x; exact ⟨z,its,r,⟨ob,k _ _ (.inl rfl) e,c⟩,ob2,k _ _ (.inl rfl) e2,c2⟩
 | dK kvs=>obtain ⟨z,y,vs,r,ob,es,ep,e,c⟩:=x; exact ⟨z,y,vs,r,ob,es,ep,k _ _ (.inl rfl) e,c⟩
 | dT kvs=>
  obtain ⟨z,y,xs,r,ob,es,ep,e,c⟩:=x
  exact ⟨z,y,xs,Paired.mapP r fun p q z=>⟨z.1,ht _ _ z.2.1,z.2.2⟩,ob,es,ep,k _ _ (.inl rfl) e,c⟩
 | set S n=>obtain ⟨ob,es,ep,t,e,c⟩:=x; exact ⟨ob,es,ep,t,k _ _ (.inl rfl) e,c⟩
 | ins C dx fs=>
  obtain ⟨d,z,ne,e,mA,⟨od,es,ep,e2,c⟩,r⟩:=x
  exact ⟨ho _ d,z,ne,k _ _ (.inl rfl) e,mA,⟨od,es,ep,k _ _ (.inr d) e2,c⟩,r⟩
 | own y=>obtain ⟨ob,e⟩:=x; exact ⟨ob,k _ _ (.inl rfl) e⟩
 | xd fs=>obtain ⟨mA,⟨od,es,ep,e,c⟩,r⟩:=x; exact ⟨mA,⟨od,es,ep,k _ _ (.inl rfl) e,c⟩,r⟩
 | rng lo hi=>obtain ⟨t,u,v,e⟩:=x; exact ⟨t,u,v,k _ _ (.inl rfl) e⟩
 | frz ob u ih=>obtain ⟨e,q⟩:=x; exact ⟨k _ _ (.inl rfl) e,ih q⟩
 | tbl ps=>
  have e:h.get? a=some { cls:=.none,data:=.fields ps }:=x
  show h'.get? a=some { cls:=.none,data:=.fields ps }
  exact k a _ (.inl rfl) e
 | met f y=>
  have e:h.get? a=some (PySem.W.methodObj (.ref f) (.ref y)):=x
  show h'.get? a=some (PySem.W.methodObj (.ref f) (.ref y))
  exact k a _ (.inl rfl) e
 | ext φ=>obtain ⟨p,⟨o,e⟩,st⟩:=x; exact ⟨st _ _ p fun o q=>k _ _ (.inl rfl) q,⟨o,k _ _ (.inl rfl) e⟩,st⟩
theorem HOk.lt (x:HOk P w H h) (e:H a=some o):a < h.objs.size:=(x a o e).lt
theorem HOk.fresh (x:HOk P w H h) (e:h.objs.size≤a):H a=none:=by
 cases q:H a with
 | none=>rfl
 | some u=>exact absurd (Nat.lt_of_lt_of_le (x.lt q) e) (Nat.lt_irrefl _)
theorem HOk.kept (x:HOk P w H h) (k:∀b u,h.get? b=some u→h'.get? b=some u):HOk P w H h':=fun a o e=>
 (x a o e).stay (fun b u _ q=>k b u q) (fun _ q=>q) fun _ _ q=>q
theorem HOk.laid (x:HOk P w H h) (k:∀b u,h.get? b=some u→h'.get? b=some u) (hp:h.objs.size≤a) (new:za6 P w (upd H a o) h' a o):HOk P w (upd H a o) h':=fun b u e=>by
 have hn:=x.fresh hp
 by_cases hb:b=a
 ·subst hb; rw [zak] at e; cases e; exact new
 ·rw [zal hb] at e
  exact (x b u e).stay (fun c v _ q=>k c v q) (fun c q=>by rw [zal (zbv q hn)]; exact q) fun c xs q=>by rw [zal (zbv q hn)]; exact q
end
def Rd (H:Hp) (a:Addr) (u:HO):Prop:=H a=some u∨∃o,H a=some (.frz o u)
theorem Rd.ok {P:Program} {w:World} {H:Hp} {h:Heap} {a:Addr} {u:HO} (r:Rd H a u) (x:HOk P w H h):za6 P w H h a u:=by
 rcases r with r | ⟨o,r⟩
 ·exact x a u r
 ·obtain ⟨_,q⟩:=x a _ r
  exact q
def Mut:Option HO→Prop
 | some (.lst _)=>True
 | some (.dK _)=>True
 | some (.dT _)=>True
 | some (.set _ _)=>True
 | some (.ins _ _ _)=>True
 | some (.ext _)=>True
 | _=>False
section
variable {P:Program} {w:World} {H:Hp} {h h':Heap} {x e:Addr} {o':HO}
theorem HOk.write (ok:HOk P w H h) (mu:Mut (H x)) (he:e=x∨H e=some (.own x)) (k:∀b u,b≠e→h.get? b=some u→h'.get? b=some u) (heo:∃u,h'.get? e=some u)
  (new:za6 P w (upd H x o') h' x o'):HOk P w (upd H x o') h':=fun b u q=>by
 have nown:∀c y,H c=some (.own y)→c≠x:=fun c y r z=>by subst z; rw [r] at mu; exact mu
 have ntup:∀c xs,H c=some (.tup xs)→c≠x:=fun c xs r z=>by subst z; rw [r] at mu; exact mu
 by_cases hb:b=x
 ·subst hb; rw [zak] at q; cases q; exact new
 ·rw [zal hb] at q
  by_cases hbe:b=e
  ·have q':H b=some (.own x):=by
    rcases he with z | z
    ·exact absurd (hbe.trans z) hb
    ·rw [hbe]; exact z
   rw [q] at q'; cases q'
   obtain ⟨v,hv⟩:=heo
   exact ⟨v,by rw [hbe]; exact hv⟩
  ·refine (ok b u q).stay (fun c v hc r=>k c v ?_ r) (fun c r=>by rw [zal (nown c b r)]; exact r) fun c xs r=>by rw [zal (ntup c xs r)]; exact r
   rcases hc with rfl | hc
   ·exact hbe
   ·rintro rfl
    rcases he with z | z
    ·exact nown c b hc z
    ·rw [hc] at z; cases z; exact hb rfl
end
structure Un (fs ex:List Addr) (H H':Hp) (h h':Heap):Prop where
 keep:∀b o,h.get? b=some o→H b=none→b∉fs→b∉ex→h'.get? b=some o
 slot:∀b o,h.get? b=some o→H b=none→b∈fs→b∉ex→∃sl,h'.get? b=some { o with slots:=sl }
 free:∀b o,h.get? b=some o→H b=none→b∉ex→H' b=none
 there:∀b o,h.get? b=some o→b∉ex→∃o',h'.get? b=some o'
 tups:∀b xs,H b=some (.tup xs)→H' b=some (.tup xs)
 frzs:∀b o u,H b=some (.frz o u)→H' b=some (.frz o u)
 tbls:∀b ps,H b=some (.tbl ps)→∃more,H' b=some (.tbl (ps++more))
section
variable {fs fs' ex ex':List Addr} {H H1 H2:Hp} {h h1 h2 h':Heap} {a x e:Addr} {o:HO}
theorem Un.any (u:Un fs ex H H1 h h1) {b:Addr} {ob:Obj} (q:h.get? b=some ob) (n:H b=none) (hx:b∉ex):∃sl,h1.get? b=some { ob with slots:=sl }:=by
 by_cases hb:b∈fs
 ·exact u.slot b ob q n hb hx
 ·exact ⟨ob.slots,u.keep b ob q n hb hx⟩
theorem Un.trans (a:Un fs ex H H1 h h1) (b:Un fs ex H1 H2 h1 h2):Un fs ex H H2 h h2 where
 keep:=fun c ob q n hc hx=>b.keep c ob (a.keep c ob q n hc hx) (a.free c ob q n hx) hc hx
 slot:=fun c ob q n hc hx=>by
  obtain ⟨sl,e1⟩:=a.slot c ob q n hc hx
  obtain ⟨sl',e2⟩:=b.slot c _ e1 (a.free c ob q n hx) hc hx
  exact ⟨sl',e2⟩
 free:=fun c ob q n hx=>by
  obtain ⟨o',e1⟩:=a.there c ob q hx
  exact b.free c o' e1 (a.free c ob q n hx) hx
 there:=fun c ob q hx=>by
  obtain ⟨o',e1⟩:=a.there c ob q hx
  exact b.there c o' e1 hx
 tups:=fun c xs q=>b.tups c xs (a.tups c xs q)
 frzs:=fun c ob xs q=>b.frzs c ob xs (a.frzs c ob xs q)
 tbls:=fun c ps q=>by
  obtain ⟨m1,e1⟩:=a.tbls c ps q
  obtain ⟨m2,e2⟩:=b.tbls c _ e1
  exact ⟨m1++m2,by rw [e2,Array.append_assoc]⟩
theorem Un.kept (k:∀b u,h.get? b=some u→h'.get? b=some u):Un fs ex H H h h':=
 ⟨fun b ob q _ _ _=>k b ob q,fun b ob q _ _ _=>⟨ob.slots,k b ob q⟩,fun _ _ _ n _=>n,fun b ob q _=>⟨ob,k b ob q⟩,fun _ _ q=>q,fun _ _ _ q=>q,fun _ ps q=>⟨#[],by rw [q]; simp⟩⟩
theorem Un.refl:Un fs ex H H h h:=Un.kept fun _ _ q=>q
theorem Un.laid (k:∀b u,h.get? b=some u→h'.get? b=some u) (hp:h.objs.size≤a) (hn:H a=none):Un fs ex H (upd H a o) h h' where
 keep:=fun b u q _ _ _=>k b u q
 slot:=fun b u q _ _ _=>⟨u.slots,k b u q⟩
 free:=fun b u q n _=>by rw [zal (Nat.ne_of_lt (Nat.lt_of_lt_of_le (Heap.lt_size q) hp))]; exact n
 there:=fun b u q _=>⟨u,k b u q⟩
 tups:=fun b xs q=>by rw [zal (zbv q hn)]; exact q
 frzs:=fun b u xs q=>by rw [zal (zbv q hn)]; exact q
 tbls:=fun b ps q=>⟨#[],by rw [zal (zbv q hn),q]; simp⟩
theorem Un.write (mu:Mut (H x)) (he:e=x∨H e=some (.own x)) (k:∀b u,b≠e→h.get? b=some u→h'.get? b=some u) (heo:∃u,h'.get? e=some u):Un fs ex H (upd H x o) h h':=by
 have hx:∀b,H b=none→b≠x:=fun b n z=>by subst z; rw [n] at mu; exact mu
 have hb:∀b,H b=none→b≠e:=fun b n z=>by
  subst z
  rcases he with r | r
  ·exact hx b n r
  ·rw [n] at r; cases r
 have hm:∀b u,H b=some u→¬ Mut (some u)→b≠x:=fun b u q nm z=>by subst z; rw [q] at mu; exact nm mu
 refine ⟨fun b u q n _ _=>k b u (hb b n) q,fun b u q n _ _=>⟨u.slots,k b u (hb b n) q⟩,fun b u q n _=>by rw [zal (hx b n)]; exact n,fun b u q _=>?_,
  fun b xs q=>by rw [zal (hm b _ q fun z=>z)]; exact q,fun b u xs q=>by rw [zal (hm b _ q fun z=>z)]; exact q,fun b ps q=>⟨#[],by rw [zal (hm b _ q fun z=>z),q]; simp⟩⟩
 by_cases hbe:b=e
 ·subst hbe; exact heo
 ·exact ⟨u,k b u hbe q⟩
theorem Un.mono (u:Un fs ex H H1 h h1) (hs:∀b∈fs,b∈fs') (hx:∀b∈ex,b∈ex'):Un fs' ex' H H1 h h1:=
 ⟨fun b ob q n hb he=>u.keep b ob q n (fun z=>hb (hs b z)) fun z=>he (hx b z),fun _ _ q n _ he=>u.any q n fun z=>he (hx _ z),fun b ob q n he=>u.free b ob q n fun z=>he (hx b z),fun b ob q he=>u.there b ob q fun z=>he (hx b z),u.tups,u.frzs,u.tbls⟩
end
def trk (h:Heap) (H:Hp):List Addr:=(List.range h.objs.size).filter fun a=>(H a).isSome
def hidT (h:Heap) (H:Hp):Heap:=PySem.W.hideAll h (trk h H)
theorem zkK (h:Heap) (H:Hp):(hidT h H).objs.size=h.objs.size:=PySem.W.hideAll_size _ _
theorem zmk {h:Heap} {H:Hp} {b:Addr} {o:Obj} (e:h.get? b=some o) (n:H b=none):(hidT h H).get? b=some o:=
 PySem.W.hideAll_get _ e fun hm=>by
  have q:(H b).isSome=true:=(List.mem_filter.mp hm).2
  rw [n] at q; simp at q
theorem zop {h:Heap} {H:Hp} {b:Addr} {o:Obj} (e:(hidT h H).get? b=some o):h.get? b=some o∧H b=none:=by
 have e':h.get? b=some o:=PySem.W.of_hideAll (trk h H) e
 refine ⟨e',?_⟩
 cases q:H b with
 | none=>rfl
 | some x=>
  have hm:b∈trk h H:=List.mem_filter.mpr ⟨List.mem_range.mpr (Heap.lt_size e'),by simp [q]⟩
  have z:(hidT h H).get? b=none:=PySem.W.hideAll_none (trk h H) hm
  rw [z] at e; cases e
def zfC (g h:Heap) (L:Addr):List (Addr × Obj):=(List.range h.objs.size).filterMap fun a=>if a=L∨(g.get? a).isSome=true then none else (h.get? a).map fun o=>(a,o)
theorem zfm {g h:Heap} {L a:Addr} {o:Obj} (h1:a≠L) (h2:g.get? a=none) (h3:h.get? a=some o):(a,o)∈zfC g h L:=
 List.mem_filterMap.mpr ⟨a,List.mem_range.mpr (Heap.lt_size h3),by simp [h1,h2,h3]⟩
theorem zfQ {g h:Heap} {L:Addr} {p:Addr × Obj} (hp:p∈zfC g h L):p.1≠L∧g.get? p.1=none∧h.get? p.1=some p.2:=by
 obtain ⟨b,_,e⟩:=List.mem_filterMap.mp hp
 split at e
 ·cases e
 ·rename_i hn
  cases q:h.get? b with
  | none=>rw [q] at e; simp at e
  | some u=>
   rw [q] at e
   simp only [Option.map_some,Option.some.injEq] at e
   subst e
   refine ⟨fun z=>hn (.inl z),?_,q⟩
   show g.get? b=none
   cases r:g.get? b with
   | none=>rfl
   | some v=>exact (hn (.inr (by simp [r]))).elim
def rest (g h:Heap) (L d:Addr):List (Addr × Obj):=(zfC g h L).filter fun p=>decide (p.1≠d)
theorem zl4 {g h:Heap} {L:Addr}:News g L h (zfC g h L):=fun p hp=>let ⟨a,b,c⟩:=zfQ hp; ⟨c,a,b⟩
end L2
namespace L2
open PySem PySem.Spec PyProof.Rows
structure Mod (K:PySem.W.Frag) (mg:Str→Option Value) (base:Heap):Prop where
 kin:K.In base
 glob:base.Ns mainGlobals mg
 blt:∃mb,base.Ns builtinsNs mb∧∀x:Str,x≠"__name__"→mb x=bootBuiltins x
 nolimit:base.NoLimit
structure Cx where
 prog:Program
 w:World
 K:PySem.W.Frag
 mg:Str→Option Value
 base:Heap
 A:Around
 N:List Str
 s₀:Shared
 H₀:Hp
 env:Env
 outer:List Env
 stack:List Env
 ex:List Addr
 fn:Str→Bool
 calm:Bool
 pn:List (Addr × Obj)
 xe:Value→Shared→Prop
def frs (l:List Env):List Addr:=l.filterMap (·.frame)
abbrev Cx.fs (X:Cx):List Addr:=frs X.outer
def Vis (sc:Scope) (x:Str):Prop:=sc.names.lookup x=some .local∨sc.names.lookup x=some .cell∨sc.names.lookup x=some .free
def Loc (sc:Scope) (x:Str):Prop:=sc.names.lookup x=some .local∨sc.names.lookup x=some .cell
def Look (env:Env) (h:Heap) (m:Str→Option Value) (x:Str) (u:Value):Prop:=
 (env.kindOf x=some .local∧m x=some u)∨((env.kindOf x=some .cell∨env.kindOf x=some .free)∧∃c,env.cells.lookup x=some c∧h.IsCell c (some u))
structure Cx.Ok (X:Cx):Prop where
 mod:Mod X.K X.mg X.base
 kind:X.env.scope.kind=.function
 glob:X.env.globals=mainGlobals
 blt:X.env.builtins=builtinsNs
 above:X.s₀.heap.objs.size≤X.env.locals
 inj:∀x y c,X.env.cells.lookup x=some c→X.env.cells.lookup y=some c→x=y
 has:∀x,(X.env.kindOf x=some .cell∨X.env.kindOf x=some .free)→∃c,X.env.cells.lookup x=some c
 cab:∀x c,X.fn x=true→X.env.cells.lookup x=some c→X.s₀.heap.objs.size≤c
 hd:X.calm=true→X.A.handled=none
 frames:X.A.frames=some X.stack
 stk:X.stack=X.outer∨(X.stack=X.env::X.outer∧X.env.frame=some X.env.locals)
 exf:∀b∈X.ex,b≠X.env.locals∧∀x c,X.env.cells.lookup x=some c→c≠b
 bs:∀b o,X.base.get? b=some o→X.s₀.heap.get? b=some o∧X.H₀ b=none
 bsz:X.base.objs.size≤X.s₀.heap.objs.size
 noex:∀b o,X.base.get? b=some o→b∉X.ex
 exfs:∀b∈X.ex,b∉X.fs
 funs:X.s₀.heap.FunFrames X.base X.outer
 frf:∀b∈X.fs,X.H₀ b=none
structure Inv (X:Cx) (pins:List (Addr × Obj)) (σ:List (Option V)) (H:Hp) (s:Shared):Prop where
 ok:X.Ok
 os:s.os=X.s₀.os
 bare:AllBare s.gens
 base:Un X.fs X.ex X.H₀ H X.s₀.heap s.heap
 loc:∃m,s.heap.Ns X.env.locals m∧∀(i:Nat) (x:Str) (v:V),X.N[i]? = some x→σ[i]? = some (some v)→Vis X.env.scope x→∃u,RelV v u∧Look X.env s.heap m x u
 cell:∀x c,X.env.cells.lookup x=some c→∃v,s.heap.IsCell c v
 free:H X.env.locals=none
 freeC:∀x c,X.env.cells.lookup x=some c→H c=none
 pin:∀p∈X.pn++pins,s.heap.get? p.1=some p.2∧H p.1=none∧p.1≠X.env.locals∧p.1∉X.fs∧∀v,p.2.data≠.cell v
 hok:HOk X.prog X.w H s.heap
 len:σ.length=X.N.length
section
variable {X:Cx} {pins:List (Addr × Obj)} {σ:List (Option V)} {H H':Hp} {s:Shared} {h':Heap}
theorem Cx.Ok.nofr (ok:X.Ok) {b:Addr} {o:Obj} (e:X.base.get? b=some o):b∉X.fs:=fun hb=>by
 have:=(ok.funs.mem hb).1
 rw [e] at this; cases this
theorem Inv.bs (I:Inv X pins σ H s):∀b o,X.base.get? b=some o→s.heap.get? b=some o∧H b=none:=fun b o e=>
 ⟨I.base.keep b o (I.ok.bs b o e).1 (I.ok.bs b o e).2 (I.ok.nofr e) (I.ok.noex b o e),I.base.free b o (I.ok.bs b o e).1 (I.ok.bs b o e).2 (I.ok.noex b o e)⟩
theorem Inv.bk (I:Inv X pins σ H s):∀b o,X.base.get? b=some o→s.heap.get? b=some o:=fun b o e=>(I.bs b o e).1
theorem Inv.mod (I:Inv X pins σ H s):Mod X.K X.mg X.base:=I.ok.mod
theorem Inv.kIn (I:Inv X pins σ H s):X.K.In s.heap:=I.ok.mod.kin.keeps I.bk
theorem Inv.nolimit (I:Inv X pins σ H s):s.heap.NoLimit:=I.ok.mod.nolimit.keeps I.bk
theorem Inv.fr (I:Inv X pins σ H s):∃m,Fr X.base X.env.locals s.heap m:=
 let ⟨m,hn,_⟩:=I.loc
 ⟨m,hn,I.bk,Nat.le_trans I.ok.bsz I.ok.above⟩
theorem Inv.lt (I:Inv X pins σ H s):X.env.locals < s.heap.objs.size:=let ⟨_,hn,_⟩:=I.loc; hn.lt
theorem Inv.sz (I:Inv X pins σ H s):X.s₀.heap.objs.size≤s.heap.objs.size:=Nat.le_trans I.ok.above (Nat.le_of_lt I.lt)
theorem Inv.nofs (I:Inv X pins σ H s) {a:Addr} (h:s.heap.objs.size≤a):a∉X.fs:=fun hb=>by
 obtain ⟨_,o,ho,_⟩:=I.ok.funs.mem hb
 exact absurd (Nat.lt_of_lt_of_le (Heap.lt_size ho) (Nat.le_trans I.sz h)) (Nat.lt_irrefl _)
theorem Inv.cne (I:Inv X pins σ H s):∀x c,X.env.cells.lookup x=some c→c≠X.env.locals:=fun x c e z=>by
 obtain ⟨v,o,ho,hd⟩:=I.cell x c e
 obtain ⟨m,⟨o',es,ep,ho',hd',_⟩,_⟩:=I.loc
 rw [z,ho'] at ho; cases ho; rw [hd'] at hd; cases hd
theorem Inv.funs (I:Inv X pins σ H s):s.heap.FunFrames X.base X.outer:=by
 have all:∀(l:List Env),(∀b∈frs l,b∈X.fs)→X.s₀.heap.FunFrames X.base l→s.heap.FunFrames X.base l:=by
  intro l
  induction l with
  | nil=>intro _ _; trivial
  | cons env r ih=>
   intro hs hl
   obtain ⟨hk,⟨L,o,hf,hn,ho,hd⟩,hr⟩:=hl
   have hL:L∈X.fs:=hs L (by unfold frs; rw [List.filterMap_cons,hf]; exact List.mem_cons_self)
   obtain ⟨sl,e⟩:=I.base.slot L o ho (I.ok.frf L hL) hL fun z=>I.ok.exfs L z hL
   exact ⟨hk,⟨L,_,hf,hn,e,hd⟩,ih (fun b hb=>hs b (by unfold frs; rw [List.filterMap_cons,hf]; exact List.mem_cons_of_mem _ hb)) hr⟩
 exact all X.outer (fun _ hb=>hb) I.ok.funs
theorem Inv.stack (I:Inv X pins σ H s):s.heap.FunFrames X.base X.stack:=by
 rcases I.ok.stk with e | ⟨e,hf⟩
 ·rw [e]; exact I.funs
 ·rw [e]
  obtain ⟨m,hn,_⟩:=I.loc
  refine .cons (by rw [I.ok.kind]; decide) hf hn ?_ I.funs
  exact Heap.get?_none_of_le (Nat.le_trans I.ok.bsz I.ok.above)
theorem Inv.stkSub (I:Inv X pins σ H s):∀b∈frs X.stack,b∈X.env.locals::X.fs:=fun b hb=>by
 rcases I.ok.stk with e | ⟨e,hf⟩
 ·rw [e] at hb; exact List.mem_cons_of_mem _ hb
 ·rw [e] at hb
  unfold frs at hb
  rw [List.filterMap_cons,hf] at hb
  exact hb
theorem Inv.stkFree (I:Inv X pins σ H s):∀b∈frs X.stack,H b=none:=fun b hb=>by
 rcases List.mem_cons.mp (I.stkSub b hb) with e | hb
 ·rw [e]; exact I.free
 ·obtain ⟨_,o,ho,_⟩:=I.ok.funs.mem hb
  exact I.base.free b o ho (I.ok.frf b hb) fun z=>I.ok.exfs b z hb
theorem Inv.step {g':Array GenState} {t':Nat} {d':Drawn} {ch:List Addr} (I:Inv X pins σ H s)
  (hch:∀b∈ch,(b∈X.ex∨X.s₀.heap.objs.size≤b)∧b≠X.env.locals∧(∀x c,X.env.cells.lookup x=some c→c≠b)∧∀p∈X.pn++pins,p.1≠b)
  (keep:∀b o,b≠X.env.locals→b∉X.fs→b∉ch→s.heap.get? b=some o→H b=none→h'.get? b=some o)
  (slot:∀b o,b≠X.env.locals→b∈X.fs→b∉ch→s.heap.get? b=some o→H b=none→∃sl,h'.get? b=some { o with slots:=sl }) (free:∀b o,b∉ch→s.heap.get? b=some o→H b=none→H' b=none)
  (there:∀b o,b∉ch→s.heap.get? b=some o→∃o',h'.get? b=some o')
  (tups:∀b xs,H b=some (.tup xs)→H' b=some (.tup xs)) (frzs:∀b o u,H b=some (.frz o u)→H' b=some (.frz o u)) (tbls:∀b ps,H b=some (.tbl ps)→∃more,H' b=some (.tbl (ps++more)))
  (ns:∀m,s.heap.Ns X.env.locals m→h'.Ns X.env.locals m) (hok:HOk X.prog X.w H' h') (hg:AllBare g') :
  Inv X pins σ H' { s with heap:=h',gens:=g',drawn:=d',toks:=t' }:=by
 have neL:∀b o,X.s₀.heap.get? b=some o→b≠X.env.locals:=fun b o e=>Nat.ne_of_lt (Nat.lt_of_lt_of_le (Heap.lt_size e) I.ok.above)
 have neC:∀b o,X.s₀.heap.get? b=some o→b∉X.ex→b∉ch:=fun b o e hx hb=>by
  rcases (hch b hb).1 with z | z
  ·exact hx z
  ·exact absurd (Nat.lt_of_lt_of_le (Heap.lt_size e) z) (Nat.lt_irrefl _)
 have cellK:∀x c,X.env.cells.lookup x=some c→∀v,s.heap.IsCell c v→h'.IsCell c v:=fun x c e v ⟨o,ho,hd⟩=>by
  have nch:c∉ch:=fun z=>(hch c z).2.2.1 x c e rfl
  by_cases hc:c∈X.fs
  ·obtain ⟨sl,q⟩:=slot c o (I.cne x c e) hc nch ho (I.freeC x c e)
   exact ⟨_,q,hd⟩
  ·exact ⟨o,keep c o (I.cne x c e) hc nch ho (I.freeC x c e),hd⟩
 refine ⟨I.ok,I.os,hg,⟨fun b o e n hb hx=>?_,fun b o e n hb hx=>?_,fun b o e n hx=>?_,fun b o e hx=>?_,fun b xs e=>tups b xs (I.base.tups b xs e),fun b o xs e=>frzs b o xs (I.base.frzs b o xs e),fun b ps e=>?_⟩,?_,fun x c e=>?_,?_,fun x c e=>?_,fun p hp=>?_,hok,I.len⟩
 ·exact keep b o (neL b o e) hb (neC b o e hx) (I.base.keep b o e n hb hx) (I.base.free b o e n hx)
 ·obtain ⟨sl,e1⟩:=I.base.slot b o e n hb hx
  obtain ⟨sl',e2⟩:=slot b _ (neL b o e) hb (neC b o e hx) e1 (I.base.free b o e n hx)
  exact ⟨sl',e2⟩
 ·obtain ⟨o',e1⟩:=I.base.there b o e hx
  exact free b o' (neC b o e hx) e1 (I.base.free b o e n hx)
 ·obtain ⟨o',e1⟩:=I.base.there b o e hx
  exact there b o' (neC b o e hx) e1
 ·obtain ⟨m1,e1⟩:=I.base.tbls b ps e
  obtain ⟨m2,e2⟩:=tbls b _ e1
  exact ⟨m1++m2,by rw [e2,Array.append_assoc]⟩
 ·obtain ⟨m,hn,hl⟩:=I.loc
  refine ⟨m,ns m hn,fun i x v e1 e2 e3=>?_⟩
  obtain ⟨u,r,l⟩:=hl i x v e1 e2 e3
  refine ⟨u,r,?_⟩
  rcases l with l | ⟨k,c,e,z⟩
  ·exact .inl l
  ·exact .inr ⟨k,c,e,cellK x c e _ z⟩
 ·obtain ⟨v,z⟩:=I.cell x c e
  exact ⟨v,cellK x c e v z⟩
 ·obtain ⟨m,⟨o,_,_,ho,_⟩,_⟩:=I.loc
  exact free _ o (fun z=>(hch _ z).2.1 rfl) ho I.free
 ·obtain ⟨v,o,ho,hd⟩:=I.cell x c e
  exact free c o (fun z=>(hch c z).2.2.1 x c e rfl) ho (I.freeC x c e)
 ·obtain ⟨e,n,ne,nf,d⟩:=I.pin p hp
  have nch:p.1∉ch:=fun z=>(hch p.1 z).2.2.2 p hp rfl
  exact ⟨keep p.1 p.2 ne nf nch e n,free p.1 p.2 nch e n,ne,nf,d⟩
theorem Inv.un {t':Nat} (I:Inv X pins σ H s) (u:Un X.fs [] H H' s.heap h') (hok:HOk X.prog X.w H' h'):Inv X pins σ H' { s with heap:=h',toks:=t' }:=by
 obtain ⟨m,⟨o,es,ep,ho,r⟩,_⟩:=id I.loc
 obtain ⟨sl,hL⟩:=u.any ho I.free (by simp)
 exact I.step (g':=s.gens) (d':=s.drawn) (ch:=[]) (fun _ z=>nomatch z) (fun b o _ hb _ e n=>u.keep b o e n hb (by simp)) (fun b o _ hb _ e n=>u.slot b o e n hb (by simp)) (fun b o _ e n=>u.free b o e n (by simp)) (fun b o _ e=>u.there b o e (by simp)) u.tups u.frzs u.tbls (fun m' hm=>by
  obtain ⟨o',es',ep',ho',r'⟩:=hm
  rw [ho] at ho'; cases ho'
  exact ⟨_,es',ep',hL,r'⟩) hok I.bare
theorem Inv.call {g':Array GenState} {t':Nat} {d':Drawn} {ch:List Addr} (I:Inv X pins σ H s) (u:Un (frs X.stack) ch H H' s.heap h') (hok:HOk X.prog X.w H' h') (hg:AllBare g')
  (hch:∀b∈ch,(b∈X.ex∨X.s₀.heap.objs.size≤b)∧b≠X.env.locals∧(∀x c,X.env.cells.lookup x=some c→c≠b)∧∀p∈X.pn++pins,p.1≠b) :
  Inv X pins σ H' { s with heap:=h',gens:=g',drawn:=d',toks:=t' }:=by
 obtain ⟨m,⟨o,es,ep,ho,r⟩,_⟩:=id I.loc
 obtain ⟨sl,hL⟩:=u.any ho I.free fun z=>(hch _ z).2.1 rfl
 exact I.step (ch:=ch) hch (fun b o hL hb hc e n=>u.keep b o e n (fun z=>(List.mem_cons.mp (I.stkSub b z)).elim hL hb) hc) (fun b o _ _ hc e n=>u.any e n hc) (fun b o hc e n=>u.free b o e n hc) (fun b o hc e=>u.there b o e hc) u.tups u.frzs u.tbls (fun m' hm=>by
  obtain ⟨o',es',ep',ho',r'⟩:=hm
  rw [ho] at ho'; cases ho'
  exact ⟨_,es',ep',hL,r'⟩) hok hg
theorem Inv.turned {t':Nat} {it:Addr} (I:Inv X pins σ H s) (k:∀b o,b≠it→s.heap.get? b=some o→h'.get? b=some o) (hn:H it=none) (hL:it≠X.env.locals)
  (h1:it∈X.ex∨X.s₀.heap.objs.size≤it) (h2:∀x c,X.env.cells.lookup x=some c→c≠it) (h3:∀p∈X.pn++pins,p.1≠it):Inv X pins σ H { s with heap:=h',toks:=t' }:=by
 have nit:∀b u,H b=some u→b≠it:=fun b u e z=>by rw [z,hn] at e; cases e
 refine I.step (g':=s.gens) (d':=s.drawn) (ch:=[it]) (fun b hb=>?_) (fun b o _ _ hc e _=>k b o (fun z=>hc (by simp [z])) e) (fun b o _ _ hc e _=>⟨o.slots,k b o (fun z=>hc (by simp [z])) e⟩) (fun _ _ _ _ n=>n)
  (fun b o hc e=>⟨o,k b o (fun z=>hc (by simp [z])) e⟩) (fun _ _ e=>e) (fun _ _ _ e=>e) (fun b ps e=>⟨#[],by rw [e]; simp⟩) (fun m hm=>?_) (fun b u e=>?_) I.bare
 ·have e:b=it:=by simpa using hb
  subst e
  exact ⟨h1,hL,h2,h3⟩
 ·obtain ⟨o,es,ep,ho,r⟩:=hm
  exact ⟨o,es,ep,k _ o (Ne.symm hL) ho,r⟩
 ·refine (I.hok b u e).stay (fun c v hc q=>k c v ?_ q) (fun _ q=>q) fun _ _ q=>q
  rcases hc with z | z
  ·rw [z]; exact nit b u e
  ·exact nit c _ z
theorem Inv.tok (I:Inv X pins σ H s) (t:Nat):Inv X pins σ H { s with toks:=t }:=I.un (h':=s.heap) (t':=t) Un.refl I.hok
theorem Inv.kept {t':Nat} (I:Inv X pins σ H s) (k:∀b u,s.heap.get? b=some u→h'.get? b=some u):Inv X pins σ H { s with heap:=h',toks:=t' }:=I.un (Un.kept k) (I.hok.kept k)
theorem Inv.laid {a:Addr} {o:HO} {t':Nat} (I:Inv X pins σ H s) (k:∀b u,s.heap.get? b=some u→h'.get? b=some u) (hp:s.heap.objs.size≤a) (new:za6 X.prog X.w (upd H a o) h' a o) :
  Inv X pins σ (upd H a o) { s with heap:=h',toks:=t' }:=I.un (Un.laid k hp (I.hok.fresh hp)) (I.hok.laid k hp new)
theorem Inv.write {x e:Addr} {o:HO} {t':Nat} (I:Inv X pins σ H s) (mu:Mut (H x)) (he:e=x∨H e=some (.own x)) (k:∀b u,b≠e→s.heap.get? b=some u→h'.get? b=some u) (heo:∃u,h'.get? e=some u)
  (new:za6 X.prog X.w (upd H x o) h' x o):Inv X pins σ (upd H x o) { s with heap:=h',toks:=t' }:=I.un (Un.write mu he k heo) (I.hok.write mu he k heo new)
theorem Inv.pins_of {pins':List (Addr × Obj)} (I:Inv X pins σ H s) (h:∀p∈pins',s.heap.get? p.1=some p.2∧H p.1=none∧p.1≠X.env.locals∧p.1∉X.fs∧∀v,p.2.data≠.cell v):Inv X pins' σ H s:=
 ⟨I.ok,I.os,I.bare,I.base,I.loc,I.cell,I.free,I.freeC,fun p hp=>(List.mem_append.mp hp).elim (fun z=>I.pin p (List.mem_append_left _ z)) (h p),I.hok,I.len⟩
theorem ziw {N:List Str} (hN:N.Nodup) {i j:Nat} {x:Str} (a:N[i]? = some x) (b:N[j]? = some x):i=j:=by
 obtain ⟨h1,e1⟩:=List.getElem?_eq_some_iff.mp a
 obtain ⟨h2,e2⟩:=List.getElem?_eq_some_iff.mp b
 exact (List.getElem_inj hN).mp (e1.trans e2.symm)
theorem zgJ {M:Model} {A:Around} {E:Value→Shared→Prop} {i:Nat} {x:Str} {v:V} {u:Value} {Q:Unit→Shared→Prop} (I:Inv X pins σ H s) (hN:X.N.Nodup) (hi:X.N[i]? = some x) (hx:Loc X.env.scope x) (r:RelV v u)
  (h:∀s',Inv X pins (σ.set i (some v)) H s'→(∃a,Heap.SameBut a s.heap s'.heap∧(a=X.env.locals∨X.env.cells.lookup x=some a))→Q () s') (hf:X.fn x=true∨X.env.scope.names.lookup x=some .local:=by first | exact .inl rfl | exact .inr rfl | assumption):wpAny M A (storeName X.env x u) Q E s:=by
 obtain ⟨m,hn,hl⟩:=id I.loc
 have hcls:(X.env.scope.kind == .class || (X.env.scope.kind == .module && X.env.locals != X.env.globals))=false:=by rw [I.ok.kind]; rfl
 have hiσ:i < σ.length:=by rw [I.len]; exact (List.getElem?_eq_some_iff.mp hi).1
 have cne:=I.cne
 have tracked:∀{a:Addr} {h':Heap},(∃o,s.heap.get? a=some o∧H a=none)→Heap.SameBut a s.heap h'→HOk X.prog X.w H h':=fun {a h'} ha hs b ob e=>by
  obtain ⟨_,_,hfree⟩:=ha
  refine (I.hok b ob e).stay (fun c w' hc q=>(hs.2 c ?_).trans q) (fun _ q=>q) fun _ _ q=>q
  rintro rfl
  rcases hc with rfl | hc
  ·rw [hfree] at e; cases e
  ·rw [hfree] at hc; cases hc
 rcases hx with hk | hk
 ·refine wpAny_storeName_local hk hn (fun h' hn' hs=>?_) hcls
  obtain ⟨oL,_,_,hoL,_⟩:=id hn
  refine h _ ⟨I.ok,I.os,I.bare,⟨fun b o e n hb hx=>?_,fun b o e n hb hx=>?_,I.base.free,fun b o e hx=>?_,I.base.tups,I.base.frzs,I.base.tbls⟩,⟨_,hn',fun j y v' e1 e2 e3=>?_⟩,fun y c e=>?_,I.free,I.freeC,fun p hp=>?_,tracked ⟨oL,hoL,I.free⟩ hs,by simpa using I.len⟩ ⟨_,hs,.inl rfl⟩
  ·exact (hs.2 b (Nat.ne_of_lt (Nat.lt_of_lt_of_le (Heap.lt_size e) I.ok.above))).trans (I.base.keep b o e n hb hx)
  ·obtain ⟨sl,e1⟩:=I.base.slot b o e n hb hx
   exact ⟨sl,(hs.2 b (Nat.ne_of_lt (Nat.lt_of_lt_of_le (Heap.lt_size e) I.ok.above))).trans e1⟩
  ·obtain ⟨o',e1⟩:=I.base.there b o e hx
   exact ⟨o',(hs.2 b (Nat.ne_of_lt (Nat.lt_of_lt_of_le (Heap.lt_size e) I.ok.above))).trans e1⟩
  ·by_cases hj:j=i
   ·subst hj
    rw [hi] at e1; cases e1
    rw [List.getElem?_set_self hiσ] at e2
    cases e2
    exact ⟨u,r,.inl ⟨hk,by simp⟩⟩
   ·rw [List.getElem?_set_ne (Ne.symm hj)] at e2
    obtain ⟨u',r',q⟩:=hl j y v' e1 e2 e3
    refine ⟨u',r',?_⟩
    rcases q with ⟨k,e⟩ | ⟨k,c,e,z⟩
    ·refine .inl ⟨k,?_⟩
     have:y≠x:=fun e=>hj (ziw hN e1 (e ▸ hi))
     simp [this,e]
    ·exact .inr ⟨k,c,e,z.sameBut hs (cne y c e)⟩
  ·obtain ⟨w',z⟩:=I.cell y c e
   exact ⟨w',z.sameBut hs (cne y c e)⟩
  ·obtain ⟨e,n,ne,nf,d⟩:=I.pin p hp
   exact ⟨(hs.2 p.1 ne).trans e,n,ne,nf,d⟩
 ·have hfn:X.fn x=true:=by
   rcases hf with z | z
   ·exact z
   ·rw [z] at hk; cases hk
  obtain ⟨c,hc⟩:=I.ok.has x (.inl hk)
  obtain ⟨w',z⟩:=I.cell x c hc
  refine wpAny_storeName_cell I.ok.kind hk hc z (fun h' hc' hs=>?_)
  obtain ⟨oc,hoc,hocd⟩:=id z
  refine h { s with heap:=h' } ⟨I.ok,I.os,I.bare,⟨fun b o e n hb hx=>?_,fun b o e n hb hx=>?_,I.base.free,fun b o e hx=>?_,I.base.tups,I.base.frzs,I.base.tbls⟩,⟨m,hn.sameBut hs (Ne.symm (cne x c hc)),fun j y v' e1 e2 e3=>?_⟩,fun y c' e=>?_,I.free,I.freeC,fun p hp=>?_,tracked ⟨oc,hoc,I.freeC x c hc⟩ hs,by simpa using I.len⟩ ⟨c,hs,.inr hc⟩
  ·exact (hs.2 b (Nat.ne_of_lt (Nat.lt_of_lt_of_le (Heap.lt_size e) (I.ok.cab x c hfn hc)))).trans (I.base.keep b o e n hb hx)
  ·obtain ⟨sl,e1⟩:=I.base.slot b o e n hb hx
   exact ⟨sl,(hs.2 b (Nat.ne_of_lt (Nat.lt_of_lt_of_le (Heap.lt_size e) (I.ok.cab x c hfn hc)))).trans e1⟩
  ·obtain ⟨o',e1⟩:=I.base.there b o e hx
   exact ⟨o',(hs.2 b (Nat.ne_of_lt (Nat.lt_of_lt_of_le (Heap.lt_size e) (I.ok.cab x c hfn hc)))).trans e1⟩
  ·by_cases hj:j=i
   ·subst hj
    rw [hi] at e1; cases e1
    rw [List.getElem?_set_self hiσ] at e2
    cases e2
    exact ⟨u,r,.inr ⟨.inl hk,c,hc,hc'⟩⟩
   ·rw [List.getElem?_set_ne (Ne.symm hj)] at e2
    obtain ⟨u',r',q⟩:=hl j y v' e1 e2 e3
    refine ⟨u',r',?_⟩
    rcases q with q | ⟨k,c',e,z'⟩
    ·exact .inl q
    ·refine .inr ⟨k,c',e,z'.sameBut hs ?_⟩
     rintro rfl
     exact hj (ziw hN e1 (I.ok.inj _ _ _ e hc ▸ hi))
  ·by_cases hcc:c'=c
   ·subst hcc; exact ⟨_,hc'⟩
   ·obtain ⟨w2,z2⟩:=I.cell y c' e
    exact ⟨w2,z2.sameBut hs hcc⟩
  ·obtain ⟨e,n,ne,nf,d⟩:=I.pin p hp
   refine ⟨(hs.2 p.1 ?_).trans e,n,ne,nf,d⟩
   intro q
   rw [q,hoc] at e
   have q':oc=p.2:=Option.some.inj e
   exact d w' (by rw [←q']; exact hocd)
theorem zeR {M:Model} {A:Around} {E:Value→Shared→Prop} {i:Nat} {x:Str} {v:V} {u:Value} {Q:Unit→Shared→Prop} (I:Inv X pins σ H s) (hN:X.N.Nodup) (hi:X.N[i]? = some x) (hx:Loc X.env.scope x) (r:RelV v u)
  (h:∀s',Inv X pins (σ.set i (some v)) H s'→Q () s') (hf:X.fn x=true∨X.env.scope.names.lookup x=some .local:=by first | exact .inl rfl | exact .inr rfl | assumption):wpAny M A (storeName X.env x u) Q E s:=
 zgJ I hN hi hx r (fun s' I' _=>h s' I') hf
theorem Inv.call' {s':Shared} {ch:List Addr} (I:Inv X pins σ H s) (ho:s'.os=s.os) (u:Un (frs X.stack) ch H H' s.heap s'.heap) (hok:HOk X.prog X.w H' s'.heap) (hg:AllBare s'.gens)
  (hch:∀b∈ch,(b∈X.ex∨X.s₀.heap.objs.size≤b)∧b≠X.env.locals∧(∀x c,X.env.cells.lookup x=some c→c≠b)∧∀p∈X.pn++pins,p.1≠b):Inv X pins σ H' s':=by
 obtain ⟨h',g',d',t',o'⟩:=s'
 have e:o'=s.os:=ho
 subst e
 exact I.call (g':=g') (t':=t') (d':=d') u hok hg hch
end
abbrev XK:=Value→Option Addr→Hp→Prop
abbrev St:=List (Option V)
abbrev VK:=V→Hp→Prop
abbrev TE:=St→Hp→VK→Prop
abbrev TT:=St→Hp→(Bool→Hp→Prop)→Prop
abbrev TA:=St→Hp→(List V→Hp→Prop)→Prop
structure Ends where
 nx:St→Hp→Prop
 rt:VK
 bk:St→Hp→Prop:=fun _ _=>False
 ct:St→Hp→Prop:=fun _ _=>False
abbrev TS:=Ends→St→Hp→Prop
def EP (X:Cx) (pins:List (Addr × Obj)) (σ:St) (Q:VK) (u:Value) (s':Shared):Prop:=∃v H',Inv X pins σ H' s'∧RelV v u∧Q v H'
def TP (X:Cx) (pins:List (Addr × Obj)) (σ:St) (Q:Bool→Hp→Prop) (b:Bool) (s':Shared):Prop:=∃H',Inv X pins σ H' s'∧Q b H'
def AP (X:Cx) (pins:List (Addr × Obj)) (σ:St) (Q:List V→Hp→Prop) (us:List Value) (s':Shared):Prop:=∃vs H',Inv X pins σ H' s'∧Vals vs us∧Q vs H'
def SP (X:Cx) (pins:List (Addr × Obj)) (D:Ends) (f:Flow) (s':Shared):Prop:=
 match f with
 | .next=>∃σ' H',Inv X pins σ' H' s'∧D.nx σ' H'
 | .brk=>∃σ' H',Inv X pins σ' H' s'∧D.bk σ' H'
 | .cont=>∃σ' H',Inv X pins σ' H' s'∧D.ct σ' H'
 | .ret u=>∃v σ' H',Inv X pins σ' H' s'∧RelV v u∧D.rt v H'
def PE (X:Cx) (e:Expr) (t:TE):Prop:=
 ∀(pins:List (Addr × Obj)) (s:Shared) (σ:St) (H:Hp) (Q:VK),Inv X pins σ H s→t σ H Q→wpAny (model X.prog X.w) X.A (eval e X.env) (EP X pins σ Q) X.xe s
def PT (X:Cx) (e:Expr) (t:TT):Prop:=
 ∀(pins:List (Addr × Obj)) (s:Shared) (σ:St) (H:Hp) (Q:Bool→Hp→Prop),Inv X pins σ H s→t σ H Q→wpAny (model X.prog X.w) X.A (isTrue e X.env (eval e X.env)) (TP X pins σ Q) X.xe s
def PW (X:Cx) (e:Expr) (t:TT):Prop:=
 ∀(whole:Sem Value) (pins:List (Addr × Obj)) (s:Shared) (σ:St) (H:Hp) (Q:Bool→Hp→Prop),Inv X pins σ H s→t σ H Q→wpAny (model X.prog X.w) X.A (isTrue e X.env whole) (TP X pins σ Q) X.xe s
theorem PW.pt {X:Cx} {e:Expr} {t:TT} (h:PW X e t):PT X e t:=h _
def PA (X:Cx) (es:List Expr) (t:TA):Prop:=
 ∀(pos:Pos) (pins:List (Addr × Obj)) (s:Shared) (σ:St) (H:Hp) (Q:List V→Hp→Prop),Inv X pins σ H s→t σ H Q→wpAny (model X.prog X.w) X.A (spliced (backTo pos (starEach es X.env))) (AP X pins σ Q) X.xe s
def PS (X:Cx) (st:Stmt) (t:TS):Prop:=
 ∀(pins:List (Addr × Obj)) (s:Shared) (σ:St) (H:Hp) (D:Ends),Inv X pins σ H s→t D σ H→wpAny (model X.prog X.w) X.A (exec st X.env) (SP X pins D) X.xe s
def PSs (X:Cx) (st:List Stmt) (t:TS):Prop:=
 ∀(pins:List (Addr × Obj)) (s:Shared) (σ:St) (H:Hp) (D:Ends),Inv X pins σ H s→t D σ H→wpAny (model X.prog X.w) X.A (execs st X.env) (SP X pins D) X.xe s
theorem thn {α:Type} {t:Sem α} {Q Q':α→Shared→Prop} {M:Model} {A:Around} {E:Value→Shared→Prop} {s:Shared} (h:wpAny M A t Q E s) (hQ:∀a s,Q a s→Q' a s):wpAny M A t Q' E s:=wpAny_mono h hQ fun _ _ x=>x
end L2
namespace L2
open PySem PySem.Spec PyProof.Rows
section
variable {X:Cx}
def tVar (i:Nat):TE:=fun σ H Q=>∃v,σ[i]? = some (some v)∧Q v H
def tC (v:V):TE:=fun _ H Q=>Q v H
theorem zd5 {i:Nat} {x:Str} {pos:Pos} (hN:X.N[i]? = some x) (hv:Vis X.env.scope x) (hd:(x == ("__debug__" : Str))=false:=by decide) (hcd:(x == ("__classdict__" : Str))=false:=by decide):PE X (.Name x pos) (tVar i):=by
 intro pins s σ H Q I h
 obtain ⟨v,e,h⟩:=h
 obtain ⟨m,hn,hl⟩:=I.loc
 obtain ⟨u,r,l⟩:=hl i x v hN e hv
 have fin:EP X pins σ Q u s:=⟨v,H,I,r,h⟩
 rcases l with ⟨hk,hm⟩ | ⟨hk,c,hc,hcell⟩
 ·exact wpAny_Name (wpAny_loadName_local I.ok.kind hk hn hm fin) hd
 ·rcases hk with hk | hk
  ·exact wpAny_Name (wpAny_loadName_cell I.ok.kind hk hc hcell fin) hd
  ·exact wpAny_Name (wpAny_loadName_free I.ok.kind hk hc hcell fin hcd) hd
theorem zqb {i j pos}:PE X (.Constant (.int i) j pos) (tC (.int i)):=fun _ _ _ H _ I h=>wpAny_Constant_int ⟨.int i,H,I.tok _,⟨_,rfl⟩,h⟩
theorem zrN {b j pos}:PE X (.Constant (.bool b) j pos) (tC (.bl b)):=fun _ _ _ H _ I h=>Constant_bool ⟨.bl b,H,I,rfl,h⟩
theorem zp9 {j pos}:PE X (.Constant .none j pos) (tC .non):=fun _ _ _ H _ I h=>Constant_none ⟨.non,H,I,rfl,h⟩
theorem zmY {x j pos}:PE X (.Constant (.str x) j pos) (tC (.str x)):=fun _ _ _ H _ I h=>Calls.Constant_str ⟨.str x,H,I.tok _,⟨_,rfl⟩,h⟩
def Gl (X:Cx) (x:Str):Prop:=X.env.kindOf x=some .globalImplicit
theorem zer {E:Value→Shared→Prop} {pins:List (Addr × Obj)} {s:Shared} {σ:St} {H:Hp} {x:Str} {u:Value} {pos:Pos} {Q:Value→Shared→Prop} (I:Inv X pins σ H s) (hg:Gl X x) (hm:X.mg x=some u) (h:Q u s)
  (hd:(x == ("__debug__" : Str))=false:=by decide):wpAny (model X.prog X.w) X.A (eval (.Name x pos) X.env) Q E s:=
 Calls.Name_function_global I.ok.kind hg (Calls.loadGlobal_global (by rw [I.ok.glob]; exact I.mod.glob.keeps I.bk) hm h) hd
theorem zg9 {E:Value→Shared→Prop} {pins:List (Addr × Obj)} {s:Shared} {σ:St} {H:Hp} {x:Str} {u:Value} {pos:Pos} {Q:Value→Shared→Prop} (I:Inv X pins σ H s) (hg:Gl X x) (hm:X.mg x=none) (hv:bootBuiltins x=some u) (h:Q u s)
  (hn:x≠"__name__" := by decide) (hd:(x == ("__debug__" : Str))=false:=by decide):wpAny (model X.prog X.w) X.A (eval (.Name x pos) X.env) Q E s:=by
 obtain ⟨mb,h1,h2⟩:=I.mod.blt
 exact Calls.Name_function_global I.ok.kind hg (Calls.loadGlobal_builtin (by rw [I.ok.glob]; exact I.mod.glob.keeps I.bk) hm (by rw [I.ok.blt]; exact h1.keeps I.bk) ((h2 x hn).trans hv) h) hd
theorem zoc {x:Str} {v:V} {u:Value} {pos:Pos} (hg:Gl X x) (hm:X.mg x=some u) (r:RelV v u) (hd:(x == ("__debug__" : Str))=false:=by decide):PE X (.Name x pos) (tC v):=
 fun _ _ _ H _ I h=>zer I hg hm ⟨v,H,I,r,h⟩ hd
theorem zj8 {x:Str} {v:V} {u:Value} {pos:Pos} (hg:Gl X x) (hm:X.mg x=none) (hv:bootBuiltins x=some u) (r:RelV v u) (hn:x≠"__name__" := by decide) (hd:(x == ("__debug__" : Str))=false:=by decide):PE X (.Name x pos) (tC v):=
 fun _ _ _ H _ I h=>zg9 I hg hm hv ⟨v,H,I,r,h⟩ hn hd
variable {a b:Expr} {ta tb:TE} {pos:Pos}
variable {tA tB':TT} {rest:List Expr}
def tAnd (t u:TT):TT:=fun σ H Q=>t σ H fun c H1=>if c=true then u σ H1 Q else Q false H1
def tOr (t u:TT):TT:=fun σ H Q=>t σ H fun c H1=>if c=true then Q true H1 else u σ H1 Q
def tNot (t:TT):TT:=fun σ H Q=>t σ H fun c H1=>Q (! c) H1
theorem znY (ha:PT X a tA):PW X (.BoolOp .And [a] pos) tA:=by
 intro wh pins s σ H Q I h
 refine isTrue_and (thn (ha pins s σ H Q I h) fun c s1 e=>?_)
 cases c with
 | true=>exact isTrue_and_nil e
 | false=>exact e
theorem zpS (ha:PT X a tA):PW X (.BoolOp .Or [a] pos) tA:=by
 intro wh pins s σ H Q I h
 refine isTrue_or (thn (ha pins s σ H Q I h) fun c s1 e=>?_)
 cases c with
 | false=>exact isTrue_or_nil e
 | true=>exact e
theorem zpT (ha:PT X a tA) (hb:PW X (.BoolOp .And (b::rest) pos) tB'):PW X (.BoolOp .And (a::b::rest) pos) (tAnd tA tB'):=by
 intro wh pins s σ H Q I h
 refine isTrue_and (thn (ha pins s σ H _ I h) fun c s1 ⟨H1,I1,q1⟩=>?_)
 cases c with
 | true=>exact hb wh pins s1 σ H1 Q I1 q1
 | false=>exact ⟨H1,I1,q1⟩
theorem zrG (ha:PT X a tA) (hb:PW X (.BoolOp .Or (b::rest) pos) tB'):PW X (.BoolOp .Or (a::b::rest) pos) (tOr tA tB'):=by
 intro wh pins s σ H Q I h
 refine isTrue_or (thn (ha pins s σ H _ I h) fun c s1 ⟨H1,I1,q1⟩=>?_)
 cases c with
 | true=>exact ⟨H1,I1,q1⟩
 | false=>exact hb wh pins s1 σ H1 Q I1 q1
theorem zpV (ha:PT X a tA):PT X (.UnaryOp .Not a pos) (tNot tA):=by
 intro pins s σ H Q I h
 exact isTrue_not (ha pins s σ H (fun c H1=>Q (! c) H1) I h)
def zrz (ta tb:TE):TE:=fun σ H Q=>ta σ H fun x H1=>∃c,x=.bl c∧if c=true then tb σ H1 Q else Q (.bl false) H1
def zrw (ta:TE):TE:=fun σ H Q=>ta σ H fun x H1=>∃c,x=.bl c∧Q (.bl (! c)) H1
theorem zp7 {op} {t:TE} (h:PE X a t):PE X (.BoolOp op [a] pos) t:=fun pins s σ H Q I hw=>BoolOp_one (h pins s σ H Q I hw)
theorem zqf (ha:PE X a ta) (hb:PE X (.BoolOp .And (b::rest) pos) tb):PE X (.BoolOp .And (a::b::rest) pos) (zrz ta tb):=by
 intro pins s σ H Q I h
 refine BoolOp_and (thn (ha pins s σ H _ I h) fun v s1 ⟨x,H1,I1,r1,q1⟩=>?_)
 obtain ⟨c,rfl,q1⟩:=q1
 cases r1
 refine wpAny_truthy_bool ?_
 cases c with
 | true=>exact hb pins s1 σ H1 Q I1 q1
 | false=>exact ⟨.bl false,H1,I1,rfl,q1⟩
theorem zp8 (ha:PE X a ta):PE X (.UnaryOp .Not a pos) (zrw ta):=by
 intro pins s σ H Q I h
 refine UnaryOp_ (thn (ha pins s σ H _ I h) fun v s1 ⟨x,H1,I1,r1,q1⟩=>?_)
 obtain ⟨c,rfl,q1⟩:=q1
 cases r1
 exact not_of (wpAny_truthy_bool ⟨.bl (! c),H1,I1,rfl,q1⟩)
def tIf (t:TT) (ta tb:TE):TE:=fun σ H Q=>t σ H fun c H1=>if c=true then ta σ H1 Q else tb σ H1 Q
theorem zlX {c:Expr} (hc:PT X c tA) (ha:PE X a ta) (hb:PE X b tb):PE X (.IfExp c a b pos) (tIf tA ta tb):=by
 intro pins s σ H Q I h
 refine wpAny_IfExp (thn (hc pins s σ H _ I h) fun d s1 ⟨H1,I1,q1⟩=>?_)
 cases d with
 | true=>exact ha pins s1 σ H1 Q I1 q1
 | false=>exact hb pins s1 σ H1 Q I1 q1
end
end L2
namespace L2
open PySem PySem.Spec PyProof.Rows
def SqL (K:PySem.W.Frag) (H:Hp) (a:Addr) (xs:List V):Prop:=
 Rd H a (.lst xs) ∨
  ∃(o:Obj) (its:Array Value) (n:Nat),K.lookup a=some o∧o.cls=.type "list"∧o.dict=none∧o.data=.seq its n∧its.size≤sizeLine∧Vals xs its.toList
def SqT (K:PySem.W.Frag) (H:Hp) (a:Addr) (xs:List V):Prop:=
 Rd H a (.tup xs) ∨
  ∃(o:Obj) (its:Array Value) (n:Nat),K.lookup a=some o∧o.cls=.type "tuple"∧o.data=.seq its n∧its.size≤sizeLine∧Vals xs its.toList
def absV:Value→Option V
 | .none=>some .non
 | .bool b=>some (.bl b)
 | .int i _=>some (.int i)
 | .str x _=>some (.str x)
 | .bytes b _=>some (.byt b)
 | .float b _=>some (.flt b)
 | .ref a=>some (.ref a)
 | .type n=>some (.ty n)
 | _=>none
theorem RelV.abs {x:V} {u:Value} (r:RelV x u):absV u=some x:=by
 cases x with
 | non=>cases r; rfl
 | bl _=>cases r; rfl
 | int _=>obtain ⟨t,rfl⟩:=r; rfl
 | str _=>obtain ⟨t,rfl⟩:=r; rfl
 | byt _=>obtain ⟨t,rfl⟩:=r; rfl
 | flt _=>obtain ⟨t,rfl⟩:=r; rfl
 | ref _=>cases r; rfl
 | ty _=>cases r; rfl
theorem RelV.inj {x y:V} {u:Value} (r:RelV x u) (q:RelV y u):x=y:=Option.some.inj (r.abs.symm.trans q.abs)
theorem Vals.inj {xs ys:List V} {us:List Value} (h:Vals xs us) (h':Vals ys us):xs=ys:=by
 induction h generalizing ys with
 | nil=>cases h'; rfl
 | cons r t ih=>
  cases h' with
  | cons r' t'=>rw [r.inj r',ih t']
section
variable {X:Cx} {pins:List (Addr × Obj)} {σ:St} {H:Hp} {s:Shared} {a:Addr} {xs ys:List V}
theorem SqL.of {K:PySem.W.Frag} (h:H a=some (.lst xs)):SqL K H a xs:=.inl (.inl h)
theorem Inv.list (I:Inv X pins σ H s) (h:SqL X.K H a xs):∃its:List Value,Vals xs its∧PlainL s.heap a its.toArray∧xs.length≤sizeLine:=by
 rcases h with h | ⟨o,its,n,hk,hc,hd,hs,hz,r⟩
 ·obtain ⟨z,its,n,r,e⟩:=h.ok I.hok
  exact ⟨its,r,⟨_,n,e,rfl,rfl,rfl⟩,z⟩
 ·refine ⟨its.toList,r,⟨o,n,I.kIn a o hk,hc,hd,by simpa using hs⟩,?_⟩
  have e:=r.length
  simp only [Array.length_toList] at e
  omega
theorem Inv.tuple (I:Inv X pins σ H s) (h:SqT X.K H a xs):∃its:List Value,Vals xs its∧IsTup s.heap a its.toArray∧xs.length≤sizeLine:=by
 rcases h with h | ⟨o,its,n,hk,hc,hs,hz,r⟩
 ·obtain ⟨z,its,r,p,_⟩:=h.ok I.hok
  exact ⟨its,r,p,z⟩
 ·refine ⟨its.toList,r,⟨o,I.kIn a o hk,hc,n,by simpa using hs⟩,?_⟩
  have e:=r.length
  simp only [Array.length_toList] at e
  omega
theorem Inv.list_inj (I:Inv X pins σ H s) (h:SqL X.K H a xs) (h':SqL X.K H a ys):xs=ys:=by
 obtain ⟨its,r,⟨o,n,e,_,_,d⟩,_⟩:=I.list h
 obtain ⟨its',r',⟨o',n',e',_,_,d'⟩,_⟩:=I.list h'
 rw [e] at e'; cases e'
 rw [d] at d'
 injection d' with d1 _
 have:its=its':=by simpa using congrArg Array.toList d1
 subst this
 exact r.inj r'
theorem Inv.tuple_inj (I:Inv X pins σ H s) (h:SqT X.K H a xs) (h':SqT X.K H a ys):xs=ys:=by
 obtain ⟨its,r,⟨o,e,_,n,d⟩,_⟩:=I.tuple h
 obtain ⟨its',r',⟨o',e',_,n',d'⟩,_⟩:=I.tuple h'
 rw [e] at e'; cases e'
 rw [d] at d'
 injection d' with d1 _
 have:its=its':=by simpa using congrArg Array.toList d1
 subst this
 exact r.inj r'
end
abbrev Cx.wish (X:Cx) (E:Value→Shared→Prop):Cx:={ X with xe:=E }
abbrev Cx.nox (X:Cx):Cx:=X.wish fun _ _=>False
theorem Cx.Ok.wish {X:Cx} (ok:X.Ok) (E:Value→Shared→Prop):(X.wish E).Ok:=
 ⟨ok.mod,ok.kind,ok.glob,ok.blt,ok.above,ok.inj,ok.has,ok.cab,ok.hd,ok.frames,ok.stk,ok.exf,ok.bs,ok.bsz,ok.noex,ok.exfs,ok.funs,ok.frf⟩
theorem Cx.Ok.unwish {X:Cx} {E:Value→Shared→Prop} (ok:(X.wish E).Ok):X.Ok:=
 ⟨ok.mod,ok.kind,ok.glob,ok.blt,ok.above,ok.inj,ok.has,ok.cab,ok.hd,ok.frames,ok.stk,ok.exf,ok.bs,ok.bsz,ok.noex,ok.exfs,ok.funs,ok.frf⟩
section
variable {X:Cx} {pins:List (Addr × Obj)} {σ:St} {H:Hp} {s:Shared} {E:Value→Shared→Prop}
theorem Inv.wish (I:Inv X pins σ H s) (E:Value→Shared→Prop):Inv (X.wish E) pins σ H s:=⟨I.ok.wish E,I.os,I.bare,I.base,I.loc,I.cell,I.free,I.freeC,I.pin,I.hok,I.len⟩
theorem Inv.unwish (I:Inv (X.wish E) pins σ H s):Inv X pins σ H s:=⟨I.ok.unwish,I.os,I.bare,I.base,I.loc,I.cell,I.free,I.freeC,I.pin,I.hok,I.len⟩
theorem SP.unwish {D:Ends} {f:Flow} {s':Shared} (h:SP (X.wish E) pins D f s'):SP X pins D f s':=by
 cases f with
 | next=>obtain ⟨σ',H',I,q⟩:=h; exact ⟨σ',H',I.unwish,q⟩
 | brk=>obtain ⟨σ',H',I,q⟩:=h; exact ⟨σ',H',I.unwish,q⟩
 | cont=>obtain ⟨σ',H',I,q⟩:=h; exact ⟨σ',H',I.unwish,q⟩
 | ret u=>obtain ⟨v,σ',H',I,r,q⟩:=h; exact ⟨v,σ',H',I.unwish,r,q⟩
theorem PSs.nox {st:List Stmt} {t:TS} (h:PSs X.nox st t):PSs X st t:=fun pins s σ H D I hw=>
 wpAny_mono (h pins s σ H D (I.wish _) hw) (fun _ _ q=>q.unwish) fun _ _ z=>False.elim z
end
section
variable {X:Cx} {st:Stmt} {rest:List Stmt} {t u:TS} {e:Expr} {te:TE} {pos:Pos}
def zrx:TS:=fun D σ H=>D.nx σ H
def tSeq (t u:TS):TS:=fun D σ H=>t { D with nx:=u D } σ H
theorem zn2:PSs X [] zrx:=fun _ _ σ H _ I h=>wpAny_execs_nil ⟨σ,H,I,h⟩
theorem zim (h1:PS X st t) (h2:PSs X rest u):PSs X (st::rest) (tSeq t u):=by
 intro pins s σ H D I h
 refine wpAny_execs_cons (thn (h1 pins s σ H { D with nx:=u D } I h) fun f s1 q=>?_)
 cases f with
 | next=>
  obtain ⟨σ',H',I',q⟩:=q
  exact h2 pins s1 σ' H' D I' q
 | ret v=>exact q
 | brk=>exact q
 | cont=>exact q
theorem zn1 (h1:PS X st t):PSs X [st] t:=by
 intro pins s σ H D I h
 refine wpAny_execs_cons (thn (h1 pins s σ H D I h) fun f s1 q=>?_)
 cases f with
 | next=>exact wpAny_execs_nil q
 | ret v=>exact q
 | brk=>exact q
 | cont=>exact q
theorem Inv.quiet {pins:List (Addr × Obj)} {σ:St} {H:Hp} {s:Shared} (I:Inv X pins σ H s):interactive X.env=false:=by simp [interactive,I.ok.kind]
def zpn (te:TE):TS:=fun D σ H=>te σ H fun _ H1=>D.nx σ H1
theorem zhM (he:PE X e te) (hs:swapsWith e none pos.line X.env=pure false:=by rfl):PS X (.Expr e pos) (zpn te):=by
 intro pins s σ H D I h
 exact wpAny_Expr_any (thn (he pins s σ H _ I h) fun v s1 ⟨x,H1,I1,r1,q1⟩=>⟨σ,H1,I1,q1⟩) I.quiet hs
def tRet (te:TE):TS:=fun D σ H=>te σ H D.rt
theorem zpX (he:PE X e te):PS X (.Return (some e) pos) (tRet te):=by
 intro pins s σ H D I h
 exact wpAny_Return_some (thn (he pins s σ H _ I h) fun v s1 ⟨x,H1,I1,r1,q1⟩=>⟨x,σ,H1,I1,r1,q1⟩)
def tIfS (c:TT) (t u:TS):TS:=fun D σ H=>c σ H fun b H1=>if b=true then t D σ H1 else u D σ H1
theorem zrI {c:Expr} {a b:List Stmt} {tc:TT} (hc:PT X c tc) (ha:PSs X a t) (hb:PSs X b u):PS X (.If c a b pos) (tIfS tc t u):=by
 intro pins s σ H D I h
 refine wpAny_If (thn (hc pins s σ H _ I h) fun d s1 ⟨H1,I1,q1⟩=>?_)
 cases d with
 | true=>exact ha pins s1 σ H1 D I1 q1
 | false=>exact hb pins s1 σ H1 D I1 q1
def zpm:TS:=fun _ _ _=>False
theorem zlQ:PS X st zpm:=fun _ _ _ _ _ _ h=>h.elim
end
abbrev TG:=V→St→Hp→(St→Hp→Prop)→Prop
abbrev TGs:=List V→St→Hp→(St→Hp→Prop)→Prop
def PG (X:Cx) (target:Expr) (t:TG):Prop:=
 ∀(pins:List (Addr × Obj)) (s:Shared) (σ:St) (H:Hp) (v:V) (u:Value) (Q:St→Hp→Prop),Inv X pins σ H s→RelV v u→t v σ H Q →
  wpAny (model X.prog X.w) X.A (assign target X.env u) (fun _ s'=>∃σ' H',Inv X pins σ' H' s'∧Q σ' H') X.xe s
def PGs (X:Cx) (ts:List Expr) (t:TGs):Prop:=
 ∀(pins:List (Addr × Obj)) (s:Shared) (σ:St) (H:Hp) (vs:List V) (us:List Value) (Q:St→Hp→Prop),Inv X pins σ H s→Vals vs us→t vs σ H Q →
  wpAny (model X.prog X.w) X.A (assignInOrder ((assignEach ts X.env).map (·.2)) us) (fun _ s'=>∃σ' H',Inv X pins σ' H' s'∧Q σ' H') X.xe s
abbrev TSet:=V→V→V→Hp→(Hp→Prop)→Prop
def PSet (X:Cx) (t:TSet):Prop:=
 ∀(pins:List (Addr × Obj)) (s:Shared) (σ:St) (H:Hp) (o i v:V) (ov iv u:Value) (Q:Hp→Prop),Inv X pins σ H s→RelV o ov→RelV i iv→RelV v u→t o i v H Q →
  wpAny (model X.prog X.w) X.A (setItem ov iv u) (fun _ s'=>∃H',Inv X pins σ H' s'∧Q H') X.xe s
section
variable {X:Cx} {pos:Pos}
def zq3 (i:Nat):TG:=fun v σ H Q=>Q (σ.set i (some v)) H
theorem zn9 {i:Nat} {x:Str} (hN:X.N.Nodup) (hi:X.N[i]? = some x) (hx:Loc X.env.scope x) (hf:X.fn x=true∨X.env.scope.names.lookup x=some .local:=by first | exact .inl rfl | exact .inr rfl | assumption):PG X (.Name x pos) (zq3 i):=by
 intro pins s σ H v u Q I r h
 exact wpAny_assign_Name (zeR I hN hi hx r (fun s' I'=>⟨_,H,I',h⟩) hf)
def gNil:TGs:=fun vs σ H Q=>vs=[]∧Q σ H
def zr7 (t:TG) (u:TGs):TGs:=fun vs σ H Q=>∃v r,vs=v::r∧t v σ H fun σ' H'=>u r σ' H' Q
theorem zn8:PGs X [] gNil:=by
 intro pins s σ H vs us Q I r h
 obtain ⟨e,h⟩:=h
 subst e
 cases r
 exact assignInOrder_nil ⟨σ,H,I,h⟩
theorem zlV {e:Expr} {es:List Expr} {t:TG} {u:TGs} (h1:PG X e t) (h2:PGs X es u)
  (hs:(assignEach (e::es) X.env).map (·.2)=assign e X.env::(assignEach es X.env).map (·.2):=by rfl):PGs X (e::es) (zr7 t u):=by
 intro pins s σ H vs us Q I r h
 obtain ⟨v,vr,e1,h⟩:=h
 subst e1
 cases r with
 | cons r rr=>
  rw [hs]
  refine assignInOrder_cons (thn (h1 pins s σ H _ _ _ I r h) fun _ s1 ⟨σ1,H1,I1,q1⟩=>?_)
  exact h2 pins s1 σ1 H1 _ _ Q I1 rr q1
def gTup (K:PySem.W.Frag) (n:Nat) (t:TGs):TG:=fun v σ H Q=>∃a xs,v=.ref a∧SqT K H a xs∧xs.length=n∧t xs σ H Q
theorem zp3 {es:List Expr} {k:Nat} {t:TGs} {n:Nat} (hc:X.calm=true) (h:PGs X es t)
  (hn:(assignEach es X.env).length=n:=by rfl) (hst:(assignEach es X.env).findIdx? (·.1)=none:=by rfl):PG X (.Tuple es k pos) (gTup X.K n t):=by
 intro pins s σ H v u Q I r hw
 obtain ⟨a,xs,e1,hq,hl,hw⟩:=hw
 subst e1
 cases r
 obtain ⟨its,rv,ht,hz⟩:=I.tuple hq
 refine assign_Tuple_tuple (I.ok.hd hc) ht (by simp [hn,←hl,rv.length]) hst fun h' hx=>?_
 have I1:Inv X pins σ H { s with heap:=h' }:=I.kept (t':=s.toks) fun b o e=>hx b o (Nat.ne_of_lt (Heap.lt_size e)) e
 exact h pins _ σ H xs _ Q I1 (by simpa using rv) hw
def gSub (to ti:TE) (t:TSet):TG:=fun v σ H Q=>to σ H fun o H1=>ti σ H1 fun i H2=>t o i v H2 fun H3=>Q σ H3
theorem zp4 {o i:Expr} {to ti:TE} {t:TSet} (ho:PE X o to) (hi:PE X i ti) (hs:PSet X t)
  (ha:∀v,assign (.Subscript o i pos) X.env v=(do
   let ov ←holding [v] (eval o X.env)
   let iv ←holding [v,ov] (eval i X.env)
   standAt pos
   holding [v,ov,iv] (setItem ov iv v)
   release [v,ov,iv] []):=by intro _; rfl):PG X (.Subscript o i pos) (gSub to ti t):=by
 intro pins s σ H v u Q I r h
 rw [ha]
 refine wpAny_bind (wpAny_holding (thn (ho pins s σ H _ I h) fun ov s1 ⟨x,H1,I1,r1,q1⟩=>?_))
 refine wpAny_bind (wpAny_holding (thn (hi pins s1 σ H1 _ I1 q1) fun iv s2 ⟨y,H2,I2,r2,q2⟩=>?_))
 refine wpAny_bind (wpAny_standAt (wpAny_bind (wpAny_holding (thn (hs pins s2 σ H2 x y v ov iv u _ I2 r1 r2 r q2) fun _ s3 ⟨H3,I3,q3⟩=>?_))))
 exact wpAny_release ⟨σ,H3,I3,q3⟩
def tAsg (te:TE) (g:TG):TS:=fun D σ H=>te σ H fun x H1=>g x σ H1 D.nx
theorem zpY {tg e:Expr} {te:TE} {g:TG} (he:PE X e te) (hg:PG X tg g) (hs:swapsWithSole [tg] e pos.line X.env=pure false:=by rfl) (hw:swappedStores [tg] e X.env=pure none:=by rfl)
  (h1:(assignEach [tg] X.env).map (·.2)=[assign tg X.env]:=by rfl):PS X (.Assign [tg] e pos) (tAsg te g):=by
 intro pins s σ H D I h
 refine wpAny_Assign_stores (thn (he pins s σ H _ I h) fun v s1 ⟨x,H1,I1,r1,q1⟩=>?_) hs hw
 rw [h1]
 exact thn (hg pins s1 σ H1 x v _ I1 r1 q1) fun _ s2 q=>q
theorem zmW {i:Nat} {x:Str} {e:Expr} {te:TE} {pos':Pos} (hN:X.N.Nodup) (hi:X.N[i]? = some x) (hx:Loc X.env.scope x) (he:PE X e te) (hs:swapsWith e (some (.Name x pos')) pos.line X.env=pure false:=by rfl) (hf:X.fn x=true∨X.env.scope.names.lookup x=some .local:=by first | exact .inl rfl | exact .inr rfl | assumption) :
  PS X (.Assign [.Name x pos'] e pos) (tAsg te (zq3 i)):=by
 intro pins s σ H D I h
 refine wpAny_Assign_Name (thn (he pins s σ H _ I h) fun v s1 ⟨y,H1,I1,r1,q1⟩=>?_) hs
 exact zeR I1 hN hi hx r1 (fun s2 I2=>⟨_,H1,I2,q1⟩) hf
end
section
variable {X:Cx} {pos:Pos}
def zpl (c:TT) (tb:TS):TS:=fun D σ H=>∃W:Nat→St→Hp→Prop,(∃m,W m σ H)∧∀m σ H,W m σ H →
 c σ H fun b H1=>if b=true then ∃N:St→Hp→Prop,(∀σ' H',N σ' H'→∃m',m' < m∧W m' σ' H')∧tb { D with nx:=N,ct:=N,bk:=D.nx } σ H1 else D.nx σ H1
theorem zlP {c:Expr} {body:List Stmt} {tc:TT} {tb:TS} (hp:PassesOwn (model X.prog X.w) X.A X.env X.xe) (hc:PT X c tc) (hb:PSs X body tb):PS X (.While c body [] pos) (zpl tc tb):=by
 intro pins s σ H D I h
 obtain ⟨W,⟨m0,w0⟩,turn⟩:=h
 refine wpAny_While (codeAny_whileLoop (fun n s'=>∃σ' H',Inv X pins σ' H' s'∧W n σ' H') ?_ m0 ⟨σ,H,I,w0⟩)
 rintro n s1 ⟨σ1,H1,I1,w1⟩
 refine wpAny_passesOwn hp (thn (hc pins s1 σ1 H1 _ I1 (turn n σ1 H1 w1)) fun b s2 ⟨H2,I2,q2⟩=>?_)
 cases b with
 | true=>
  obtain ⟨N,hN,q2⟩:=q2
  rw [if_pos rfl]
  refine wpAny_passesOwn hp (thn (hb pins s2 σ1 H2 _ I2 q2) fun f s3 q3=>?_)
  cases f with
  | next=>
   obtain ⟨σ3,H3,I3,n3⟩:=q3
   obtain ⟨m',hm,w3⟩:=hN σ3 H3 n3
   exact ⟨m',hm,σ3,H3,I3,w3⟩
  | cont=>
   obtain ⟨σ3,H3,I3,n3⟩:=q3
   obtain ⟨m',hm,w3⟩:=hN σ3 H3 n3
   exact ⟨m',hm,σ3,H3,I3,w3⟩
  | brk=>exact q3
  | ret v=>exact q3
 | false=>
  rw [if_neg Bool.false_ne_true]
  exact wpAny_execs_nil ⟨σ1,H2,I2,q2⟩
end
structure It where
 go:Nat→Hp→Prop
 yld:Nat→Hp→V→Hp→Prop
 stop:Nat→Hp→Prop
def FpOk (X:Cx) (pins:List (Addr × Obj)) (H:Hp) (b:Addr):Prop:=
 H b=none∧b≠X.env.locals∧b∉X.fs∧(b∈X.ex∨X.s₀.heap.objs.size≤b)∧(∀x c,X.env.cells.lookup x=some c→c≠b)∧∀p∈X.pn++pins,p.1≠b
theorem Inv.fpOk {X:Cx} {pins:List (Addr × Obj)} {σ:St} {H H':Hp} {s:Shared} {b:Addr} (I:Inv X pins σ H s) (hb:s.heap.objs.size≤b) (hn:H' b=none):FpOk X pins H' b:=by
 refine ⟨hn,Nat.ne_of_gt (Nat.lt_of_lt_of_le I.lt hb),I.nofs hb,.inr (Nat.le_trans I.sz hb),fun x c e z=>?_,fun p hp z=>?_⟩
 ·obtain ⟨v,q⟩:=I.cell x c e
  exact absurd (Nat.lt_of_lt_of_le q.lt (by rw [z]; exact hb)) (Nat.lt_irrefl _)
 ·exact absurd (Nat.lt_of_lt_of_le (Heap.lt_size (I.pin p hp).1) (by rw [z]; exact hb)) (Nat.lt_irrefl _)
structure Turn (P:Program) (w:World) (K:PySem.W.Frag) (tg:Expr) (J:It) (fp:List Addr) (it:Addr) (tn:Nat→Heap→Prop):Prop where
 mem:it∈fp
 obj:∀i h,tn i h→∀b∈fp,∃o,h.get? b=some o∧∀v,o.data≠.cell v
 keep:∀i h h',tn i h→(∀b∈fp,∀o,h.get? b=some o→h'.get? b=some o)→tn i h'
 item:∀(X:Cx),X.prog=P→X.w=w→X.K=K→X.calm=true→∀(i:Nat) (pins:List (Addr × Obj)) (s:Shared) (σ:St) (H:Hp) (E:Value→Shared→Prop),Inv X pins σ H s→(∀b∈fp,FpOk X pins H b)→tn i s.heap→J.go i H →
  wpAny (model P w) X.A (pyNext (.ref it)) (fun r s1=>∃u,r=some u ∧
   wpAny (model P w) X.A (letOwnedTupleGo tg (.ref it) u) (fun _ s2=>∃x H',Inv X pins σ H' s2∧RelV x u∧J.yld i H x H'∧tn (i + 1) s2.heap∧∀b∈fp,H' b=none) E s1) E s
 done:∀(X:Cx),X.prog=P→X.w=w→X.K=K→X.calm=true→∀(i:Nat) (pins:List (Addr × Obj)) (s:Shared) (σ:St) (H:Hp) (E:Value→Shared→Prop),Inv X pins σ H s→(∀b∈fp,FpOk X pins H b)→tn i s.heap→J.stop i H →
  wpAny (model P w) X.A (pyNext (.ref it)) (fun r s1=>r=none∧Inv X pins σ H s1) E s
 self:∀(A:Around) (i:Nat) (s:Shared) (Q:Value→Shared→Prop) (E:Value→Shared→Prop),tn i s.heap→Q (.ref it) s→wpAny (model P w) A (pyIter (.ref it)) Q E s
abbrev TI:=St→Hp→(It→Hp→Prop)→Prop
def PIE (X:Cx) (pins:List (Addr × Obj)) (σ:St) (tg:Expr) (R:It→Hp→Prop) (itv:Value) (s2:Shared):Prop:=
 ∃(it:Addr) (fp:List Addr) (tn:Nat→Heap→Prop) (J:It) (H':Hp),itv=.ref it∧Inv X pins σ H' s2∧Turn X.prog X.w X.K tg J fp it tn∧tn 0 s2.heap∧(∀b∈fp,FpOk X pins H' b)∧R J H'
def PI (X:Cx) (tg iter:Expr) (wi:TI):Prop:=
 ∀(pins:List (Addr × Obj)) (s:Shared) (σ:St) (H:Hp) (R:It→Hp→Prop),Inv X pins σ H s→wi σ H R →
  wpAny (model X.prog X.w) X.A (eval iter X.env) (fun v s1=>wpAny (model X.prog X.w) X.A (pyIter v) (PIE X pins σ tg R) X.xe s1) X.xe s
theorem zoI {M:Model} {A:Around} {E:Value→Shared→Prop} {s:Shared} {tg:Expr} {it:Addr} {u:Value} {o:Obj} {n:String} {vs:Array Value} {Q:Unit→Shared→Prop} (ho:s.heap.get? it=some o) (hc:o.cls=.type n) (hd:o.data=.fields vs)
    (hn : ["enumerate","zip","dict_itemiterator","dict_reverseitemiterator","odict_iterator","itertools.zip_longest","itertools.pairwise"].contains n=false) (hQ:Q () s):wpAny M A (letOwnedTupleGo tg (.ref it) u) Q E s:=by
  unfold letOwnedTupleGo
  cases tg <;> first
    | exact wpAny_pure hQ
    | (cases u <;> first
        | exact wpAny_pure hQ
        | (refine wpAny_bind (wpAny_load ho ?_)
           rw [hc,hd]
           show wpAny M A (if (["enumerate","zip","dict_itemiterator","dict_reverseitemiterator","odict_iterator","itertools.zip_longest","itertools.pairwise"].contains n && vs[0]? == some (rawInt _))=true then _ else _) Q E s
           rw [if_neg (by intro h; rw [hn,Bool.false_and] at h; cases h)]
           exact wpAny_pure hQ))
def Itl (K:PySem.W.Frag) (a:Addr):It:=
 ⟨fun i H=>∃xs x,SqL K H a xs∧xs[i]? = some x,fun i H x H'=>H'=H∧∀xs,SqL K H a xs→xs[i]? = some x,fun i H=>∃xs,SqL K H a xs∧xs.length≤i⟩
def Itt (K:PySem.W.Frag) (a:Addr):It:=
 ⟨fun i H=>∃xs x,SqT K H a xs∧xs[i]? = some x,fun i H x H'=>H'=H∧∀xs,SqT K H a xs→xs[i]? = some x,fun i H=>∃xs,SqT K H a xs∧xs.length≤i⟩
def Itr (lo:Int) (n:Nat):It:=⟨fun i _=>i < n,fun i H x H'=>H'=H∧x=.int (lo + i),fun i _=>n≤i⟩
theorem zjF {P:Program} {w:World} {K:PySem.W.Frag} {tg:Expr} (a it:Addr):Turn P w K tg (Itl K a) [it] it (fun i h=>h.IsListIter it a i) where
 mem:=by simp
 obj:=fun i h st b hb=>by
  have e:b=it:=by simpa using hb
  subst e
  obtain ⟨o,e,c,d⟩:=st
  exact ⟨o,e,fun v z=>by rw [d] at z; cases z⟩
 keep:=fun i h h' st k=>st.at fun o e=>k it (by simp) o e
 item:=by
  intro X hP hw hK hc i pins s σ H E I hf st hg
  subst hP hw hK
  obtain ⟨xs,x,hq,hx⟩:=hg
  obtain ⟨its,rv,p,hz⟩:=I.list hq
  obtain ⟨u,hu,ru⟩:=rv.get hx
  obtain ⟨f0,f1,f2,f3,f4,f5⟩:=hf it (by simp)
  refine wpAny_pyNext_list_item st p.isList (x:=u) (by simpa using hu) fun h' st' sb=>?_
  have I1:Inv X pins σ H { s with heap:=h' }:=I.turned (t':=s.toks) (fun b o hb e=>(sb.2 b hb).trans e) f0 f1 f3 f4 f5
  obtain ⟨o,e,c,d⟩:=id st'
  exact ⟨u,rfl,zoI (s:={ s with heap:=h' }) e c d (by decide) ⟨x,H,I1,ru,⟨rfl,fun ys hy=>by rw [I.list_inj hy hq]; exact hx⟩,st',fun b hb=>(hf b hb).1⟩⟩
 done:=by
  intro X hP hw hK hc i pins s σ H E I hf st hg
  subst hP hw hK
  obtain ⟨xs,hq,hx⟩:=hg
  obtain ⟨its,rv,p,hz⟩:=I.list hq
  obtain ⟨f0,f1,f2,f3,f4,f5⟩:=hf it (by simp)
  have hl:=rv.length
  exact wpAny_pyNext_list_end (I.ok.hd hc) st p.isList (by simp; omega) fun h' eb=>⟨rfl,I.turned (t':=s.toks) (fun b o hb e=>eb b o hb e) f0 f1 f3 f4 f5⟩
 self:=fun _ _ _ _ _ st h=>wpAny_pyIter_listiter st h
theorem ziU {P:Program} {w:World} {K:PySem.W.Frag} {tg:Expr} (a it:Addr):Turn P w K tg (Itt K a) [it] it (fun i h=>h.IsTupleIter it a i) where
 mem:=by simp
 obj:=fun i h st b hb=>by
  have e:b=it:=by simpa using hb
  subst e
  obtain ⟨o,e,c,d⟩:=st
  exact ⟨o,e,fun v z=>by rw [d] at z; cases z⟩
 keep:=fun i h h' st k=>st.at fun o e=>k it (by simp) o e
 item:=by
  intro X hP hw hK hc i pins s σ H E I hf st hg
  subst hP hw hK
  obtain ⟨xs,x,hq,hx⟩:=hg
  obtain ⟨its,rv,p,hz⟩:=I.tuple hq
  obtain ⟨u,hu,ru⟩:=rv.get hx
  obtain ⟨f0,f1,f2,f3,f4,f5⟩:=hf it (by simp)
  refine wpAny_pyNext_tuple_item st (show s.heap.IsTuple a its.toArray from p) (x:=u) (by simpa using hu) fun h' st' sb=>?_
  have I1:Inv X pins σ H { s with heap:=h' }:=I.turned (t':=s.toks) (fun b o hb e=>(sb.2 b hb).trans e) f0 f1 f3 f4 f5
  obtain ⟨o,e,c,d⟩:=id st'
  exact ⟨u,rfl,zoI (s:={ s with heap:=h' }) e c d (by decide) ⟨x,H,I1,ru,⟨rfl,fun ys hy=>by rw [I.tuple_inj hy hq]; exact hx⟩,st',fun b hb=>(hf b hb).1⟩⟩
 done:=by
  intro X hP hw hK hc i pins s σ H E I hf st hg
  subst hP hw hK
  obtain ⟨xs,hq,hx⟩:=hg
  obtain ⟨its,rv,p,hz⟩:=I.tuple hq
  obtain ⟨f0,f1,f2,f3,f4,f5⟩:=hf it (by simp)
  have hl:=rv.length
  exact wpAny_pyNext_tuple_end (I.ok.hd hc) st (show s.heap.IsTuple a its.toArray from p) (by simp; omega) fun h' eb=>⟨rfl,I.turned (t':=s.toks) (fun b o hb e=>eb b o hb e) f0 f1 f3 f4 f5⟩
 self:=fun _ _ _ _ _ st h=>wpAny_pyIter_tupleiter st h
theorem ziV {P:Program} {w:World} {K:PySem.W.Frag} {tg:Expr} (it:Addr) (lo:Int) (n:Nat):Turn P w K tg (Itr lo n) [it] it (fun i h=>IsRangeIter h it (lo + (i:Nat) * 1) ((n:Int) - (i:Nat)) 1) where
 mem:=by simp
 obj:=fun i h st b hb=>by
  have e:b=it:=by simpa using hb
  subst e
  exact ⟨_,st,fun v z=>by
   have z':Data.fields _=Data.cell v:=z
   cases z'⟩
 keep:=fun i h h' st k=>k it (by simp) _ st
 item:=by
  intro X hP hw hK hc i pins s σ H E I hf st hg
  subst hP hw hK
  obtain ⟨f0,f1,f2,f3,f4,f5⟩:=hf it (by simp)
  have W:=Walks.range (prog:=X.prog) (w:=X.w) (I.ok.hd hc) it lo 1 n
  refine W.item i s _ _ hg st fun v h' tk hv st' kk=>?_
  obtain ⟨t,rfl⟩:=hv
  have I1:Inv X pins σ H { s with heap:=h',toks:=tk }:=I.turned (fun b o hb e=>kk b o (by simpa using hb) e) f0 f1 f3 f4 f5
  refine ⟨_,rfl,zoI (s:={ s with heap:=h',toks:=tk }) (n := "range_iterator") st' rfl rfl (by decide) ⟨.int (lo + i),H,I1,⟨t,?_⟩,⟨rfl,rfl⟩,st',fun b hb=>(hf b hb).1⟩⟩
  rw [Int.mul_one]
 done:=by
  intro X hP hw hK hc i pins s σ H E I hf st hg
  subst hP hw hK
  obtain ⟨f0,f1,f2,f3,f4,f5⟩:=hf it (by simp)
  exact wpAny_pyNext_range_end (I.ok.hd hc) st (by have:n≤i:=hg; omega) fun h' eb=>⟨rfl,I.turned (t':=s.toks) (fun b o hb e=>eb b o hb e) f0 f1 f3 f4 f5⟩
 self:=fun _ _ _ _ _ st h=>wpAny_pyIter_rangeiter st h
end L2
namespace L2
open PySem PySem.Spec PyProof.Rows
section
variable {X:Cx} {tg:Expr}
theorem zlK {pins:List (Addr × Obj)} {σ:St} {H:Hp} {s:Shared} {R:It→Hp→Prop} {E:Value→Shared→Prop} {lo hi:Int} {t u v:Tok} {tk:Nat} (I:Inv X pins σ H s) (h1 : -(2 ^ 62)≤lo) (h2:lo < 2 ^ 62) (h3 : -(2 ^ 62)≤hi) (h4:hi < 2 ^ 62)
  (q:R (Itr lo (hi - lo).toNat) H):wpAny (model X.prog X.w) X.A (pyIter (.ref s.heap.objs.size)) (PIE X pins σ tg R) E { s with heap:=s.heap.push { cls:=.type "range",data:=.fields #[.int lo t,.int hi u,.int 1 v] },toks:=tk }:=by
 refine wpAny_pyIter_range (IsRange.new ..) (small_one h1 h2 h3 h4) ?_
 have I1:Inv X pins σ H { s with heap:=s.heap.push { cls:=.type "range",data:=.fields #[.int lo t,.int hi u,.int 1 v] },toks:=tk }:=I.kept fun b o e=>Heap.get?_push_of_some _ e
 refine ⟨(s.heap.push { cls:=.type "range",data:=.fields #[.int lo t,.int hi u,.int 1 v] }).objs.size,[(s.heap.push { cls:=.type "range",data:=.fields #[.int lo t,.int hi u,.int 1 v] }).objs.size],_,_,H,rfl,
  I1.kept (t':=tk) fun b o e=>Heap.get?_push_of_some _ e,ziV _ lo (hi - lo).toNat,?_,fun b hb=>?_,q⟩
 ·have e1:lo + ((0:Nat):Int) * 1=lo:=by simp
  have e2:(((hi - lo).toNat:Nat):Int) - ((0:Nat):Int)=Builtin.Range.rangeSize lo hi 1:=by rw [rangeSize_one]; split <;> omega
  show IsRangeIter _ _ (lo + ((0:Nat):Int) * 1) ((((hi - lo).toNat:Nat):Int) - ((0:Nat):Int)) 1
  rw [e1,e2]
  exact Heap.get?_push_size _ rfl
 ·have e:b=(s.heap.push { cls:=.type "range",data:=.fields #[.int lo t,.int hi u,.int 1 v] }).objs.size:=by simpa using hb
  subst e
  exact I1.fpOk (Nat.le_refl _) (I1.hok.fresh (Nat.le_refl _))
def zr5 (ta:TA):TI:=fun σ H R=>ta σ H fun vs H1=>∃j:Int,vs=[.int j]∧-(2 ^ 62)≤j∧j < 2 ^ 62∧R (Itr 0 j.toNat) H1
theorem zj6 {a:Expr} {ta:TA} {p pos:Pos} (hg:Gl X "range") (hm:X.mg "range" = none) (ha:PA X [a] ta) (hs:starEach [a] X.env=[(false,eval a X.env)]:=by rfl):PI X tg (.Call (.Name "range" p) [a] [] pos) (zr5 ta):=by
 intro pins s σ H R I h
 refine Call_ (zg9 I hg hm boot_range (PyProof.Rows.callWith_type1 (thn (ha pos pins s σ H _ I h) fun us s1 ⟨vs,H1,I1,r1,q1⟩=>?_) hs rfl))
 obtain ⟨j,e,q1,q2,q⟩:=q1
 subst e
 cases r1 with
 | cons r rr=>
  cases rr
  obtain ⟨t,rfl⟩:=r
  exact call_range_1 (zlK I1 (by omega) (by omega) q1 q2 (by simpa using q))
def tFor (wi:TI) (g:TG) (tb:TS):TS:=fun D σ H=>wi σ H fun J H1=>∃W:Nat→Nat→St→Hp→Prop,(∃m,W 0 m σ H1)∧∀i m σ H,W i m σ H →
 (J.stop i H∧D.nx σ H)∨(J.go i H∧∃N:St→Hp→Prop,(∀σ' H',N σ' H'→∃m',m' < m∧W (i + 1) m' σ' H')∧∀x H',J.yld i H x H'→g x σ H' fun σ2 H2=>tb { D with nx:=N,ct:=N,bk:=D.nx } σ2 H2)
def zfg (fp:List Addr) (h:Heap):List (Addr × Obj):=fp.filterMap fun b=>(h.get? b).map fun o=>(b,o)
theorem zbw {fp:List Addr} {h:Heap} {b:Addr} {o:Obj} (hb:b∈fp) (e:h.get? b=some o):(b,o)∈zfg fp h:=List.mem_filterMap.mpr ⟨b,hb,by rw [e]; rfl⟩
theorem zkk {fp:List Addr} {h:Heap} {p:Addr × Obj} (hp:p∈zfg fp h):p.1∈fp∧h.get? p.1=some p.2:=by
 obtain ⟨b,hb,e⟩:=List.mem_filterMap.mp hp
 cases q:h.get? b with
 | none=>rw [q] at e; cases e
 | some o=>
  rw [q] at e
  have e':(b,o)=p:=Option.some.inj e
  subst e'
  exact ⟨hb,q⟩
theorem Inv.pinned {pins:List (Addr × Obj)} {σ:St} {H:Hp} {s:Shared} {fp:List Addr} (I:Inv X pins σ H s) (hf:∀b∈fp,FpOk X pins H b) (ho:∀b∈fp,∃o,s.heap.get? b=some o∧∀v,o.data≠.cell v):Inv X (pins++zfg fp s.heap) σ H s:=
 I.pins_of fun p hp=>(List.mem_append.mp hp).elim (fun z=>I.pin p (List.mem_append_right _ z)) fun z=>by
  obtain ⟨hb,e⟩:=zkk z
  obtain ⟨f0,f1,f2,_⟩:=hf p.1 hb
  obtain ⟨o,e',d⟩:=ho p.1 hb
  rw [e] at e'; cases e'
  exact ⟨e,f0,f1,f2,d⟩
theorem Inv.unpinned {pins pl:List (Addr × Obj)} {σ:St} {H:Hp} {s:Shared} (I:Inv X (pins++pl) σ H s):Inv X pins σ H s:=I.pins_of fun p hp=>I.pin p (List.mem_append_right _ (List.mem_append_left _ hp))
theorem zj2 {iter:Expr} {body:List Stmt} {wi:TI} {g:TG} {tb:TS} {pos:Pos} (hp:PassesOwn (model X.prog X.w) X.A X.env X.xe) (hc:X.calm=true) (hi:PI X tg iter wi) (hg:PG X tg g) (hb:PSs X body tb)
  (hs:∀x,foldedSetIterable iter X.env x=pure x:=by intro _; rfl):PS X (.For tg iter body [] pos) (tFor wi g tb):=by
 intro pins s σ H D I h
 refine wpAny_For (thn (hi pins s σ H _ I h) fun v s1 h1=>thn h1 fun itv s2 h2=>?_) hs
 obtain ⟨it,fp,tn,J,H2,e,I2,T,st2,f2,W,⟨m0,w0⟩,turn⟩:=h2
 subst e
 have stat:∀{H':Hp},(∀b∈fp,H' b=none)→∀b∈fp,FpOk X pins H' b:=fun hn b hb=>⟨hn b hb,(f2 b hb).2⟩
 refine codeAny_forLoop_any (fun n s'=>∃i σ' H',Inv X pins σ' H' s'∧tn i s'.heap∧(∀b∈fp,H' b=none)∧W i n σ' H') ?_ m0 ⟨0,σ,H2,I2,st2,fun b hb=>(f2 b hb).1,w0⟩
 rintro n s3 ⟨i,σ3,H3,I3,st3,fr3,w3⟩
 rcases turn i n σ3 H3 w3 with ⟨stop,qn⟩ | ⟨go,N,hN,step⟩
 ·refine wpAny_passesOwn hp (thn (T.done X rfl rfl rfl hc i pins s3 σ3 H3 X.xe I3 (stat fr3) st3 stop) fun r s4 ⟨hr,I4⟩=>?_)
  subst hr
  exact wpAny_execs_nil ⟨σ3,H3,I4,qn⟩
 ·refine wpAny_passesOwn hp (thn (T.item X rfl rfl rfl hc i pins s3 σ3 H3 X.xe I3 (stat fr3) st3 go) fun r s4 ⟨u,hr,h4⟩=>?_)
  subst hr
  refine wpAny_passesOwn hp (thn h4 fun _ s5 ⟨x,H5,I5,r5,y5,st5,fr5⟩=>?_)
  have I5':=I5.pinned (stat fr5) (T.obj _ _ st5)
  refine wpAny_passesOwn hp (thn (hg _ s5 σ3 H5 x u _ I5' r5 (step x H5 y5)) fun _ s6 ⟨σ6,H6,I6,q6⟩=>?_)
  refine wpAny_passesOwn hp (thn (hb _ s6 σ6 H6 _ I6 q6) fun f s7 q7=>?_)
  have again:∀{σ7:St} {H7:Hp},Inv X (pins++zfg fp s5.heap) σ7 H7 s7→N σ7 H7→∃m,m < n∧∃i σ' H',Inv X pins σ' H' s7∧tn i s7.heap∧(∀b∈fp,H' b=none)∧W i m σ' H':=fun {σ7 H7} I7 n7=>by
   obtain ⟨m',hm,w7⟩:=hN σ7 H7 n7
   refine ⟨m',hm,i + 1,σ7,H7,I7.unpinned,T.keep _ _ _ st5 fun b hb o e=>(I7.pin (b,o) (List.mem_append_right _ (List.mem_append_right _ (zbw hb e)))).1,fun b hb=>?_,w7⟩
   obtain ⟨o,e,d⟩:=T.obj _ _ st5 b hb
   exact (I7.pin (b,o) (List.mem_append_right _ (List.mem_append_right _ (zbw hb e)))).2.1
  cases f with
  | next=>obtain ⟨σ7,H7,I7,n7⟩:=q7; exact again I7 n7
  | cont=>obtain ⟨σ7,H7,I7,n7⟩:=q7; exact again I7 n7
  | brk=>obtain ⟨σ7,H7,I7,q7⟩:=q7; exact ⟨σ7,H7,I7.unpinned,q7⟩
  | ret v=>obtain ⟨x7,σ7,H7,I7,r7,q7⟩:=q7; exact ⟨x7,σ7,H7,I7.unpinned,r7,q7⟩
end
end L2
namespace L2
open PySem PySem.Spec PyProof.Rows
abbrev R2:=V→V→Hp→VK→Prop
def OpR (X:Cx) (f:Value→Value→Sem Value) (r:R2):Prop:=
 ∀(pins:List (Addr × Obj)) (s:Shared) (σ:St) (H:Hp) (x y:V) (v u:Value) (Q:VK),Inv X pins σ H s→RelV x v→RelV y u→r x y H Q →
  wpAny (model X.prog X.w) X.A (f v u) (EP X pins σ Q) X.xe s
def UnR (X:Cx) (f:Value→Sem Value) (r:V→Hp→VK→Prop):Prop:=
 ∀(pins:List (Addr × Obj)) (s:Shared) (σ:St) (H:Hp) (x:V) (v:Value) (Q:VK),Inv X pins σ H s→RelV x v→r x H Q →
  wpAny (model X.prog X.w) X.A (f v) (EP X pins σ Q) X.xe s
def zc2 (X:Cx) (f:Value) (r:List V→Hp→VK→Prop):Prop:=
 ∀(pins:List (Addr × Obj)) (s:Shared) (σ:St) (H:Hp) (xs:List V) (us:List Value) (Q:VK),Inv X pins σ H s→Vals xs us→r xs H Q →
  wpAny (model X.prog X.w) X.A (call f us) (EP X pins σ Q) X.xe s
def TruR (X:Cx) (r:V→Hp→(Bool→Hp→Prop)→Prop):Prop:=
 ∀(pins:List (Addr × Obj)) (s:Shared) (σ:St) (H:Hp) (x:V) (v:Value) (Q:Bool→Hp→Prop),Inv X pins σ H s→RelV x v→r x H Q →
  wpAny (model X.prog X.w) X.A (truthy v) (TP X pins σ Q) X.xe s
def tOp (r:R2) (ta tb:TE):TE:=fun σ H Q=>ta σ H fun x H1=>tb σ H1 fun y H2=>r x y H2 Q
def tUn (r:V→Hp→VK→Prop) (ta:TE):TE:=fun σ H Q=>ta σ H fun x H1=>r x H1 Q
def rI (C:Int→Int→Prop) (g:Int→Int→V):R2:=fun x y H Q=>∃i j,x=.int i∧y=.int j∧C i j∧Q (g i j) H
def rI0 (g:Int→Int→V):R2:=fun x y H Q=>∃i j,x=.int i∧y=.int j∧Q (g i j) H
def rU (g:Int→V):V→Hp→VK→Prop:=fun x H Q=>∃i,x=.int i∧Q (g i) H
section
variable {X:Cx} {a b c:Expr} {ta tb tc:TE} {pos:Pos}
theorem binT (ha:PE X a ta) (hb:PE X b tb) {pins:List (Addr × Obj)} {s:Shared} {σ:St} {H:Hp} {R:V→V→Hp→Prop} (I:Inv X pins σ H s)
  (h:ta σ H fun x H1=>tb σ H1 fun y H2=>R x y H2) {Q:Value→Shared→Prop} {f:Value→Value→Sem Value}
  (hf:∀v u s2 x y H2,Inv X pins σ H2 s2→RelV x v→RelV y u→R x y H2→wpAny (model X.prog X.w) X.A (f v u) Q X.xe s2) :
  wpAny (model X.prog X.w) X.A (eval a X.env) (fun v s₁=>wpAny (model X.prog X.w) X.A (eval b X.env) (fun u s₂=>wpAny (model X.prog X.w) X.A (f v u) Q X.xe s₂) X.xe s₁) X.xe s:=by
 refine thn (ha pins s σ H _ I h) fun v s1 ⟨x,H1,I1,r1,q1⟩=>?_
 refine thn (hb pins s1 σ H1 _ I1 q1) fun u s2 ⟨y,H2,I2,r2,q2⟩=>?_
 exact hf v u s2 x y H2 I2 r1 r2 q2
theorem zrK {op:Operator} {r:R2} (ho:OpR X (binaryOp op) r) (ha:PE X a ta) (hb:PE X b tb):PE X (.BinOp a op b pos) (tOp r ta tb):=by
 intro pins s σ H Q I h
 exact wpAny_BinOp (binT ha hb I h fun v u s2 x y H2 I2 rx ry q=>ho pins s2 σ H2 x y v u Q I2 rx ry q)
theorem zrJ {op:UnaryOp} {r:V→Hp→VK→Prop} (ho:UnR X (unaryOp op) r) (ha:PE X a ta):PE X (.UnaryOp op a pos) (tUn r ta):=by
 intro pins s σ H Q I h
 exact UnaryOp_ (thn (ha pins s σ H _ I h) fun v s1 ⟨x,H1,I1,r1,q1⟩=>ho pins s1 σ H1 x v Q I1 r1 q1)
theorem opI {f:Value→Value→Sem Value} {C:Int→Int→Prop} {g:Int→Int→Int}
  (rule:∀(i j:Int) (t u:Tok) (s:Shared) (Q:Value→Shared→Prop) (E:Value→Shared→Prop),C i j→Q (.int (g i j) s.toks) { s with toks:=s.toks + 1 }→wpAny (model X.prog X.w) X.A (f (.int i t) (.int j u)) Q E s) :
  OpR X f (rI C fun i j=>.int (g i j)):=by
 intro pins s σ H x y v u Q I rx ry h
 obtain ⟨i,j,rfl,rfl,hc,q⟩:=h
 obtain ⟨t,rfl⟩:=rx
 obtain ⟨t',rfl⟩:=ry
 exact rule i j t t' s _ _ hc ⟨.int (g i j),H,I.tok _,⟨_,rfl⟩,q⟩
theorem opI0 {f:Value→Value→Sem Value} {g:Int→Int→Int}
  (rule:∀(i j:Int) (t u:Tok) (s:Shared) (Q:Value→Shared→Prop) (E:Value→Shared→Prop),Q (.int (g i j) s.toks) { s with toks:=s.toks + 1 }→wpAny (model X.prog X.w) X.A (f (.int i t) (.int j u)) Q E s) :
  OpR X f (rI0 fun i j=>.int (g i j)):=by
 intro pins s σ H x y v u Q I rx ry h
 obtain ⟨i,j,rfl,rfl,q⟩:=h
 obtain ⟨t,rfl⟩:=rx
 obtain ⟨t',rfl⟩:=ry
 exact rule i j t t' s _ _ ⟨.int (g i j),H,I.tok _,⟨_,rfl⟩,q⟩
theorem opB0 {f:Value→Value→Sem Value} {g:Int→Int→Bool}
  (rule:∀(i j:Int) (t u:Tok) (s:Shared) (Q:Value→Shared→Prop) (E:Value→Shared→Prop),Q (.bool (g i j)) s→wpAny (model X.prog X.w) X.A (f (.int i t) (.int j u)) Q E s) :
  OpR X f (rI0 fun i j=>.bl (g i j)):=by
 intro pins s σ H x y v u Q I rx ry h
 obtain ⟨i,j,rfl,rfl,q⟩:=h
 obtain ⟨t,rfl⟩:=rx
 obtain ⟨t',rfl⟩:=ry
 exact rule i j t t' s _ _ ⟨.bl (g i j),H,I,rfl,q⟩
def CDiv (i j:Int):Prop:=0 < j∧j < 1073741824
def CPow (i j:Int):Prop:=0≤j∧j≤1000000∧i.natAbs < 2 ^ 64
def CMul (i j:Int):Prop:=(-(2 ^ 64) < i∧i < 2 ^ 64)∨(-(2 ^ 64) < j∧j < 2 ^ 64)
theorem CMul.ok {i j:Int} (h:CMul i j):IntMulOk i j:=by
 rcases h with ⟨h1,h2⟩ | ⟨h1,h2⟩
 ·exact .of_left (intBits_le_64 h1 h2)
 ·exact .of_right (intBits_le_64 h1 h2)
theorem zmZ:OpR X (binaryOp .Add) (rI0 fun i j=>.int (i + j)):=opI0 fun _ _ _ _ _ _ _ q=>add_int q
theorem zqk:OpR X (binaryOp .Sub) (rI0 fun i j=>.int (i - j)):=opI0 fun _ _ _ _ _ _ _ q=>sub_int q
theorem zqn:OpR X (binaryOp .Mult) (rI CMul fun i j=>.int (i * j)):=opI fun _ _ _ _ _ _ _ hc q=>mul_int q hc.ok
theorem zoj:OpR X (binaryOp .FloorDiv) (rI CDiv fun i j=>.int (i / j)):=opI fun i j _ _ _ _ _ hc q=>by
 have h1:(0:Int) < j:=hc.1
 have h2:j < 1073741824:=hc.2
 exact floordiv_int (by omega) (by rw [Int.fdiv_eq_ediv_of_nonneg i (by omega)]; exact q) (.inl (PyProof.noPylong_small (by omega)))
theorem zqo:OpR X (binaryOp .Mod) (rI (fun _ j=>0 < j) fun i j=>.int (i % j)):=opI fun i j _ _ _ _ _ hc q=>by
 have h1:(0:Int) < j:=hc
 exact mod_int' (by omega) (by rw [Int.fmod_eq_emod_of_nonneg i (by omega)]; exact q)
theorem zql:OpR X (binaryOp .Pow) (rI CPow fun i j=>.int (i ^ j.toNat)):=opI fun _ _ _ _ _ _ _ hc q=>pow_int_small hc.1 hc.2.1 hc.2.2 q
theorem unI {f:Value→Sem Value} {g:Int→Int}
  (rule:∀(i:Int) (t:Tok) (s:Shared) (Q:Value→Shared→Prop) (E:Value→Shared→Prop),Q (.int (g i) s.toks) { s with toks:=s.toks + 1 }→wpAny (model X.prog X.w) X.A (f (.int i t)) Q E s) :
  UnR X f (rU fun i=>.int (g i)):=by
 intro pins s σ H x v Q I rx h
 obtain ⟨i,rfl,q⟩:=h
 obtain ⟨t,rfl⟩:=rx
 exact rule i t s _ _ ⟨.int (g i),H,I.tok _,⟨_,rfl⟩,q⟩
theorem zpd:UnR X (unaryOp .USub) (rU fun i=>.int (-i)):=unI fun _ _ _ _ _ q=>neg_int q
end
def scal:V→V→Bool
 | .non,.non=>true | .non,.int _=>true | .int _,.non=>true | .non,.bl _=>true | .bl _,.non=>true | .non,.str _=>true | .str _,.non=>true
 | .int _,.int _=>true | .bl _,.bl _=>true | .str _,.str _=>true | .byt _,.byt _=>true
 | .int _,.str _=>true | .str _,.int _=>true | .bl _,.str _=>true | .str _,.bl _=>true
 | _,_=>false
def rEq:R2:=fun x y H Q=>scal x y=true∧Q (.bl (decide (x=y))) H
def rNe:R2:=fun x y H Q=>scal x y=true∧Q (.bl (! decide (x=y))) H
theorem zh3 {i j:Int}:decide (V.int i=V.int j)=(i == j):=by
 rw [Bool.eq_iff_iff]
 simp
theorem zkR {i j:Bool}:decide (V.bl i=V.bl j)=(i == j):=by
 rw [Bool.eq_iff_iff]
 simp
theorem zh2 {i j:Str}:decide (V.str i=V.str j)=(i == j):=by
 rw [Bool.eq_iff_iff]
 simp
theorem zkQ {i j:Array UInt8}:decide (V.byt i=V.byt j)=(i.toList == j.toList):=by
 rw [Bool.eq_iff_iff]
 cases i
 cases j
 simp
section
variable {X:Cx} {a b c:Expr} {ta tb tc:TE} {pos:Pos}
theorem zaO {pins:List (Addr × Obj)} {σ:St} {H:Hp} {s:Shared} {Q:VK} {k k':Bool} (I:Inv X pins σ H s) (q:Q (.bl k) H) (e:k=k'):EP X pins σ Q (.bool k') s:=by
 subst e
 exact ⟨.bl k,H,I,rfl,q⟩
theorem zqs:OpR X (compareOp .Eq) rEq:=by
 intro pins s σ H x y v u Q I rx ry h
 obtain ⟨hs,q⟩:=h
 cases x with
 | non=>
  cases rx
  cases y with
  | non=>cases ry; exact PySem.EqNone.eq_none_none (zaO I q (by simp))
  | bl j=>cases ry; exact PySem.EqNone.eq_none_bool (zaO I q (by simp))
  | int j=>obtain ⟨t',rfl⟩:=ry; exact PySem.EqNone.eq_none_int (zaO I q (by simp))
  | str j=>obtain ⟨t',rfl⟩:=ry; exact PySem.EqNone.eq_none_str (zaO I q (by simp))
  | _=>exact absurd (show false=true from hs) Bool.false_ne_true
 | bl i=>
  cases rx
  cases y with
  | non=>cases ry; exact PySem.EqNone.eq_bool_none (zaO I q (by simp))
  | bl j=>cases ry; exact eq_bool (zaO I q zkR)
  | str j=>obtain ⟨t',rfl⟩:=ry; exact PySem.EqMixed.eq_bool_str (zaO I q (by simp))
  | _=>exact absurd (show false=true from hs) Bool.false_ne_true
 | int i=>
  obtain ⟨t,rfl⟩:=rx
  cases y with
  | non=>cases ry; exact PySem.EqNone.eq_int_none (zaO I q (by simp))
  | int j=>obtain ⟨t',rfl⟩:=ry; exact eq_int (zaO I q zh3)
  | str j=>obtain ⟨t',rfl⟩:=ry; exact PySem.EqMixed.eq_int_str (zaO I q (by simp))
  | _=>exact absurd (show false=true from hs) Bool.false_ne_true
 | str i=>
  obtain ⟨t,rfl⟩:=rx
  cases y with
  | non=>cases ry; exact PySem.EqNone.eq_str_none (zaO I q (by simp))
  | bl j=>cases ry; exact PySem.EqMixed.eq_str_bool (zaO I q (by simp))
  | int j=>obtain ⟨t',rfl⟩:=ry; exact PySem.EqMixed.eq_str_int (zaO I q (by simp))
  | str j=>obtain ⟨t',rfl⟩:=ry; exact eq_str (zaO I q zh2)
  | _=>exact absurd (show false=true from hs) Bool.false_ne_true
 | byt i=>
  obtain ⟨t,rfl⟩:=rx
  cases y with
  | byt j=>obtain ⟨t',rfl⟩:=ry; exact PySem.W.eq_bytes (zaO I q zkQ)
  | _=>exact absurd (show false=true from hs) Bool.false_ne_true
 | _=>cases y <;> exact absurd (show false=true from hs) Bool.false_ne_true
theorem zqm:OpR X (compareOp .NotEq) rNe:=by
 intro pins s σ H x y v u Q I rx ry h
 obtain ⟨hs,q⟩:=h
 cases x with
 | non=>
  cases rx
  cases y with
  | non=>cases ry; exact PySem.EqNone.ne_none_none (zaO I q (by simp))
  | bl j=>cases ry; exact PySem.EqNone.ne_none_bool (zaO I q (by simp))
  | int j=>obtain ⟨t',rfl⟩:=ry; exact PySem.EqNone.ne_none_int (zaO I q (by simp))
  | str j=>obtain ⟨t',rfl⟩:=ry; exact PySem.EqNone.ne_none_str (zaO I q (by simp))
  | _=>exact absurd (show false=true from hs) Bool.false_ne_true
 | bl i=>
  cases rx
  cases y with
  | non=>cases ry; exact PySem.EqNone.ne_bool_none (zaO I q (by simp))
  | bl j=>cases ry; exact ne_bool (zaO I q (congrArg not zkR))
  | str j=>obtain ⟨t',rfl⟩:=ry; exact PySem.EqMixed.ne_bool_str (zaO I q (by simp))
  | _=>exact absurd (show false=true from hs) Bool.false_ne_true
 | int i=>
  obtain ⟨t,rfl⟩:=rx
  cases y with
  | non=>cases ry; exact PySem.EqNone.ne_int_none (zaO I q (by simp))
  | int j=>obtain ⟨t',rfl⟩:=ry; exact ne_int (zaO I q (congrArg not zh3))
  | str j=>obtain ⟨t',rfl⟩:=ry; exact PySem.EqMixed.ne_int_str (zaO I q (by simp))
  | _=>exact absurd (show false=true from hs) Bool.false_ne_true
 | str i=>
  obtain ⟨t,rfl⟩:=rx
  cases y with
  | non=>cases ry; exact PySem.EqNone.ne_str_none (zaO I q (by simp))
  | bl j=>cases ry; exact PySem.EqMixed.ne_str_bool (zaO I q (by simp))
  | int j=>obtain ⟨t',rfl⟩:=ry; exact PySem.EqMixed.ne_str_int (zaO I q (by simp))
  | str j=>obtain ⟨t',rfl⟩:=ry; exact ne_str (zaO I q (congrArg not zh2))
  | _=>exact absurd (show false=true from hs) Bool.false_ne_true
 | byt i=>
  obtain ⟨t,rfl⟩:=rx
  cases y with
  | byt j=>obtain ⟨t',rfl⟩:=ry; exact PySem.W.ne_bytes (zaO I q (congrArg not zkQ))
  | _=>exact absurd (show false=true from hs) Bool.false_ne_true
 | _=>cases y <;> exact absurd (show false=true from hs) Bool.false_ne_true
theorem zoi:OpR X (compareOp .Lt) (rI0 fun i j=>.bl (decide (i < j))):=opB0 fun _ _ _ _ _ _ _ q=>lt_int q
theorem zrP:OpR X (compareOp .LtE) (rI0 fun i j=>.bl (decide (i≤j))):=opB0 fun _ _ _ _ _ _ _ q=>le_int q
theorem zrQ:OpR X (compareOp .Gt) (rI0 fun i j=>.bl (decide (j < i))):=opB0 fun _ _ _ _ _ _ _ q=>gt_int q
theorem zkf:OpR X (compareOp .In) (fun x y H Q=>∃i j,x=.str i∧y=.str j∧Q (.bl (!(Builtin.Str.occurrences j i 0 j.length 1).isEmpty)) H):=by
 intro pins s σ H x y v u Q I rx ry h
 obtain ⟨i,j,rfl,rfl,q⟩:=h
 obtain ⟨t,rfl⟩:=rx
 obtain ⟨t',rfl⟩:=ry
 exact in_str (zaO I q rfl)
theorem zqp:OpR X (compareOp .Is) (fun x y H Q=>y=.non∧Q (.bl (decide (x=.non))) H):=by
 intro pins s σ H x y v u Q I rx ry h
 obtain ⟨rfl,q⟩:=h
 cases ry
 refine is_none_gen (zaO I q ?_)
 cases x <;> first
  | (cases rx; rfl)
  | (obtain ⟨t,rfl⟩:=rx; rfl)
theorem zof:OpR X (compareOp .IsNot) (fun x y H Q=>y=.non∧Q (.bl (! decide (x=.non))) H):=by
 intro pins s σ H x y v u Q I rx ry h
 obtain ⟨rfl,q⟩:=h
 cases ry
 refine isnot_none_gen (zaO I q ?_)
 cases x <;> first
  | (cases rx; rfl)
  | (obtain ⟨t,rfl⟩:=rx; rfl)
theorem OpR.or {f:Value→Value→Sem Value} {r r':R2} (h:OpR X f r) (h':OpR X f r'):OpR X f (fun x y H Q=>r x y H Q∨r' x y H Q):=by
 intro pins s σ H x y v u Q I rx ry q
 rcases q with q | q
 ·exact h pins s σ H x y v u Q I rx ry q
 ·exact h' pins s σ H x y v u Q I rx ry q
theorem zd8 (b:Expr) {op:CmpOp} (h:op≠.In:=by decide) (h2:op≠.NotIn:=by decide):behindInMarks op b=false:=by
 have e1:(op == CmpOp.In)=false:=by cases op <;> first | rfl | exact absurd rfl h
 have e2:(op == CmpOp.NotIn)=false:=by cases op <;> first | rfl | exact absurd rfl h2
 cases b <;> simp [behindInMarks,e1,e2]
theorem zod {op:CmpOp} {r:R2} (ho:OpR X (compareOp op) r) (ha:PE X a ta) (hb:PE X b tb) (hm:behindInMarks op b=false):PE X (.Compare a [op] [b] pos) (tOp r ta tb):=by
 intro pins s σ H Q I h
 exact wpAny_Compare1 (binT ha hb I h fun v u s2 x y H2 I2 rx ry q=>ho pins s2 σ H2 x y v u Q I2 rx ry q) hm
def zru (t:TE):TT:=fun σ H Q=>t σ H fun x H'=>∃k,x=.bl k∧Q k H'
theorem zn0 {op:CmpOp} {r:R2} (ho:OpR X (compareOp op) r) (ha:PE X a ta) (hb:PE X b tb) (hm:behindInMarks op b=false):PT X (.Compare a [op] [b] pos) (zru (tOp r ta tb)):=by
 intro pins s σ H Q I h
 refine wpAny_isTrue_Compare1 (thn (ha pins s σ H _ I h) fun v s1 ⟨x,H1,I1,r1,q1⟩=>thn (hb pins s1 σ H1 _ I1 q1) fun u s2 ⟨y,H2,I2,r2,q2⟩=>
  thn (ho pins s2 σ H2 x y v u _ I2 r1 r2 q2) fun c s3 ⟨z,H3,I3,r3,k,e,q3⟩=>?_) hm
 subst e
 cases r3
 exact wpAny_truthy_bool ⟨H3,I3,q3⟩
def zmO (r r':R2) (ta tb tc:TE):TE:=fun σ H Q=>ta σ H fun x H1=>tb σ H1 fun y H2=>r x y H2 fun z H3=>∃k,z=.bl k ∧
 (if k=true then tc σ H3 fun w' H4=>r' y w' H4 Q else Q (.bl false) H3)
theorem zlZ {op op':CmpOp} {r r':R2} (ho:OpR X (compareOp op) r) (ho':OpR X (compareOp op') r') (ha:PE X a ta) (hb:PE X b tb) (hc:PE X c tc)
  (hm:lastMarks [op,op'] [b,c]=false:=by with_unfolding_all rfl):PE X (.Compare a [op,op'] [b,c] pos) (zmO r r' ta tb tc):=by
 intro pins s σ H Q I h
 refine Compare_chain (thn (ha pins s σ H _ I h) fun v s1 ⟨x,H1,I1,r1,q1⟩=>chain_link (thn (hb pins s1 σ H1 _ I1 q1) fun u s2 ⟨y,H2,I2,r2,q2⟩=>
  thn (ho pins s2 σ H2 x y v u _ I2 r1 r2 q2) fun d s3 ⟨z,H3,I3,r3,k,e,q3⟩=>?_)) hm
 subst e
 cases r3
 refine wpAny_truthy_bool ?_
 cases k with
 | false=>exact ite_ff ⟨.bl false,H3,I3,rfl,q3⟩
 | true=>exact ite_tt (chain_last (thn (hc pins s3 σ H3 _ I3 q3) fun w' s4 ⟨z',H4,I4,r4,q4⟩=>ho' pins s4 σ H4 y z' u w' Q I4 r2 r4 q4))
def TruV (K:PySem.W.Frag) (x:V) (H:Hp) (k:Bool):Prop:=
 match x with
 | .non=>k=false
 | .bl b=>k=b
 | .int i=>k=(i != 0)
 | .str y=>y.length≤sizeLine∧k=((y.length:Int) != 0)
 | .byt y=>y.size≤sizeLine∧k=((y.size:Int) != 0)
 | .ref p=>(∃xs,SqL K H p xs∧k = ! xs.isEmpty)∨(∃xs,SqT K H p xs∧k = ! xs.isEmpty)∨∃kvs,Rd H p (.dK kvs)∧k = ! kvs.isEmpty
 | _=>False
theorem zjm {κ:Type} {kvs:List (κ × V)} {vs:List (κ × Value)} (r:KV kvs vs):(! vs.isEmpty) = ! kvs.isEmpty:=by
 cases r <;> rfl
theorem zf1 {xs:List V} {its:List Value} (r:Vals xs its):(! its.toArray.isEmpty) = ! xs.isEmpty:=by
 cases r <;> simp
theorem zf0:(sizeLine:Nat) < 2 ^ 63:=by rw [sizeLine_eq]; decide
theorem zpi:TruR X (fun x H Q=>∃k,TruV X.K x H k∧Q k H):=by
 intro pins s σ H x v Q I rx h
 obtain ⟨k,e,q⟩:=h
 have hl:=zf0
 have hs:sizeLine=16777216:=sizeLine_eq
 cases x with
 | non=>
  cases rx
  have e':k=false:=e
  subst e'
  exact truthy_none ⟨H,I,q⟩
 | bl b=>
  cases rx
  have e':k=b:=e
  subst e'
  exact wpAny_truthy_bool ⟨H,I,q⟩
 | int i=>
  obtain ⟨t,rfl⟩:=rx
  have e':k=(i != 0):=e
  subst e'
  exact PySem.P.truthy_int ⟨H,I,q⟩
 | str y=>
  obtain ⟨t,rfl⟩:=rx
  obtain ⟨hy,e'⟩:y.length≤sizeLine∧k=((y.length:Int) != 0):=e
  subst e'
  exact PySem.P.truthy_str (by omega) ⟨H,I.tok _,q⟩
 | byt y=>
  obtain ⟨t,rfl⟩:=rx
  obtain ⟨hy,e'⟩:y.size≤sizeLine∧k=((y.size:Int) != 0):=e
  subst e'
  exact PySem.W.truthy_bytes (by omega) ⟨H,I.tok _,q⟩
 | ref p=>
  cases rx
  have e':(∃xs,SqL X.K H p xs∧k = ! xs.isEmpty)∨(∃xs,SqT X.K H p xs∧k = ! xs.isEmpty)∨∃kvs,Rd H p (.dK kvs)∧k = ! kvs.isEmpty:=e
  rcases e' with ⟨xs,hx,e'⟩ | ⟨xs,hx,e'⟩ | ⟨kvs,hx,e'⟩
  ·subst e'
   obtain ⟨its,r,pl,hz⟩:=I.list hx
   have hlen:=r.length
   exact wpAny_truthy_list pl.isList (by simp only [List.size_toArray]; omega) ⟨H,I.tok _,by rw [zf1 r]; exact q⟩
  ·subst e'
   obtain ⟨its,r,pl,hz⟩:=I.tuple hx
   have hlen:=r.length
   exact truthy_tuple pl (by simp only [List.size_toArray]; omega) ⟨H,I.tok _,by rw [zf1 r]; exact q⟩
  ·subst e'
   obtain ⟨hz,hS,vs,r,m⟩:kvs.length≤sizeLine∧(p == sysModules)=false∧∃vs,KV kvs vs∧s.heap.DictOf (zbp X.prog X.w) p vs:=hx.ok I.hok
   have hlen:kvs.length=vs.length:=Paired.length r
   exact wpAny_truthy_dict hS m (by omega) ⟨H,I.tok _,by rw [zjm r]; exact q⟩
 | _=>exact (show False from e).elim
theorem zlO (ha:PE X a ta) (he:∀whole,isTrue a X.env whole=(do let v ←whole; standAt a.pos; holding [v] (truthy v))) :
  PT X a (fun σ H Q=>ta σ H fun x H'=>∃k,TruV X.K x H' k∧Q k H'):=by
 intro pins s σ H Q I h
 exact isTrue_plain (thn (ha pins s σ H _ I h) fun v s1 ⟨x,H1,I1,r1,q1⟩=>zpi pins s1 σ H1 x v Q I1 r1 q1) (he _)
theorem zfZ:OpR X (binaryOp .Add) (fun x y H Q=>∃i j,x=.str i∧y=.str j∧i.length + j.length≤sizeLine∧Q (.str (i++j)) H):=by
 intro pins s σ H x y v u Q I rx ry h
 obtain ⟨i,j,rfl,rfl,hz,q⟩:=h
 obtain ⟨t,rfl⟩:=rx
 obtain ⟨t',rfl⟩:=ry
 exact add_str (fun t' tk=>⟨.str (i++j),H,I.tok _,⟨_,rfl⟩,q⟩) hz
theorem ze1 {x:V} {us:List Value} (r:Vals [x] us):∃u,us=[u]∧RelV x u:=by
 cases r with
 | cons r1 r2=>cases r2; exact ⟨_,rfl,r1⟩
theorem zlj {x y:V} {us:List Value} (r:Vals [x,y] us):∃u w',us=[u,w']∧RelV x u∧RelV y w':=by
 cases r with
 | cons r1 r2=>
  cases r2 with
  | cons r3 r4=>cases r4; exact ⟨_,_,rfl,r1,r3⟩
def LenV (K:PySem.W.Frag) (x:V) (H:Hp) (n:Nat):Prop:=
 match x with
 | .str y=>y.length≤sizeLine∧n=y.length
 | .byt y=>y.size≤sizeLine∧n=y.size
 | .ref p=>(∃xs,SqL K H p xs∧n=xs.length)∨∃xs,SqT K H p xs∧n=xs.length
 | _=>False
theorem zmA:zc2 X (.builtin "len") (fun xs H Q=>∃x n,xs=[x]∧LenV X.K x H n∧Q (.int n) H):=by
 intro pins s σ H xs us Q I r h
 obtain ⟨x,n,rfl,e,q⟩:=h
 obtain ⟨u,rfl,rx⟩:=ze1 r
 have hl:=zf0
 have hs:sizeLine=16777216:=sizeLine_eq
 cases x with
 | str y=>
  obtain ⟨t,rfl⟩:=rx
  obtain ⟨hy,e'⟩:y.length≤sizeLine∧n=y.length:=e
  subst e'
  exact len_str (by omega) ⟨.int _,H,I.tok _,⟨_,rfl⟩,q⟩
 | byt y=>
  obtain ⟨t,rfl⟩:=rx
  obtain ⟨hy,e'⟩:y.size≤sizeLine∧n=y.size:=e
  subst e'
  exact PySem.W.len_bytes (by omega) ⟨.int _,H,I.tok _,⟨_,rfl⟩,q⟩
 | ref p=>
  cases rx
  have e':(∃xs,SqL X.K H p xs∧n=xs.length)∨∃xs,SqT X.K H p xs∧n=xs.length:=e
  rcases e' with ⟨xs,hx,e'⟩ | ⟨xs,hx,e'⟩
  ·subst e'
   obtain ⟨its,r',pl,hz⟩:=I.list hx
   have hlen:=r'.length
   exact Calls.call_len_list pl.isList (by simp only [List.size_toArray]; omega) ⟨.int xs.length,H,I.tok _,⟨_,by simp only [List.size_toArray]; rw [hlen]⟩,q⟩
  ·subst e'
   obtain ⟨its,r',pl,hz⟩:=I.tuple hx
   have hlen:=r'.length
   exact len_tuple pl (by simp only [List.size_toArray]; omega) ⟨.int xs.length,H,I.tok _,⟨_,by simp only [List.size_toArray]; rw [hlen]⟩,q⟩
 | _=>exact (show False from e).elim
end
end L2
namespace L2
open PySem PySem.Spec PyProof.Rows
structure ObjM (h:Heap) (x dx C:Addr) (mA:Str→Option Value):Prop where
 obj:h.get? x=some (PySem.W.instObj C dx)
 ns:h.Ns1 dx mA
 ne:dx≠x
section
variable {prog:Program} {w:World} {A:Around} {E:Value→Shared→Prop} {s:Shared} {K:PySem.W.Frag} {x dx C f:Addr} {mA:Str→Option Value} {name:Str} {v:Value}
end
theorem RelO.some_of {v:V} {o:Option Value} (r:RelO (some v) o):∃u,o=some u∧RelV v u:=by
 cases o with
 | none=>exact (show False from r).elim
 | some u=>exact ⟨u,rfl,r⟩
section
variable {P:Program} {w:World} {H H':Hp} {h h':Heap} {a C dx:Addr} {fs fs':List (Str × V)}
end
structure Cls (K:PySem.W.Frag) (C:Addr):Prop where
 pg:PySem.W.plainGet K C Str.empty=true
 hd:PySem.W.hasDictIn K C=true
 po:PySem.W.plainOver K C=true
 sa:PySem.W.findIn K (.ref C) "__setattr__" = some (some (.builtin "object.__setattr__"))
theorem Cls.get {K:PySem.W.Frag} {C:Addr} (c:Cls K C) (f:Str):PySem.W.plainGet K C f=true:=c.pg
structure Con (K:PySem.W.Frag) (C:Addr) (f:Str) (v:V) (u:Value):Prop where
 at_:PySem.W.findIn K (.ref C) f=some (some u)
 rel:RelV v u
 get:PySem.W.specialIn K u "__get__" = some none
 cp:PySem.W.copiedNames.contains f=false
structure Meth (K:PySem.W.Frag) (C:Addr) (m:Str) (f:Addr):Prop where
 at_:PySem.W.findIn K (.ref C) m=some (some (.ref f))
 fn:PySem.W.isFn K (.ref f)=true
 kp:PySem.W.keepIn K (.ref f)=true
section
variable {X:Cx} {pins:List (Addr × Obj)} {σ:St} {H:Hp} {s:Shared} {a C dx:Addr} {fs:List (Str × V)} {f:Str} {v:V} {A:Around} {E:Value→Shared→Prop}
theorem zoZ {prog:Program} {w:World} {env:Env} {e:Expr} {f:Str} {pos:Pos} {s:Shared} {Q:Value→Shared→Prop} (hb:attributeBase e f env (eval e env)=eval e env)
  (h:wpAny (model prog w) A (eval e env) (fun o s₁=>wpAny (model prog w) A (getAttr o f true) Q E s₁) E s):wpAny (model prog w) A (eval (.Attribute e f pos) env) Q E s:=
 Attribute_any_ h (by rw [arm_eval_Attribute,hb])
end
section
variable {X:Cx} {o e value:Expr} {f:Str} {pos pos' tpos:Pos} {ta tv:TE}
end
section
variable {X:Cx} {pins:List (Addr × Obj)} {σ:St} {H:Hp} {s:Shared} {A:Around} {E:Value→Shared→Prop} {Q:Value→Shared→Prop} {c:Value} {b:Bool}
inductive TyOf (K:PySem.W.Frag) (H:Hp):V→Value→Prop where
 | non:TyOf K H .non (.type "NoneType")
 | bl (x:Bool):TyOf K H (.bl x) (.type "bool")
 | int (i:Int):TyOf K H (.int i) (.type "int")
 | str (x:Str):TyOf K H (.str x) (.type "str")
 | flt (x:UInt64):TyOf K H (.flt x) (.type "float")
 | lst {a:Addr} {xs:List V} (e:H a=some (.lst xs)):TyOf K H (.ref a) (.type "list")
 | frz {a:Addr} {o:Obj} {xs:List V} (e:H a=some (.frz o (.lst xs))):TyOf K H (.ref a) (.type "list")
 | tup {a:Addr} {xs:List V} (e:H a=some (.tup xs)):TyOf K H (.ref a) (.type "tuple")
 | dK {a:Addr} {kvs:List (Key × V)} (e:H a=some (.dK kvs)):TyOf K H (.ref a) (.type "dict")
 | dT {a:Addr} {kvs:List (List Key × V)} (e:H a=some (.dT kvs)):TyOf K H (.ref a) (.type "dict")
 | ins {a C dx:Addr} {fs:List (Str × V)} (e:H a=some (.ins C dx fs)) (cl:Cls K C) (ha:PySem.W.findIn K (.ref C) "__class__" = some (some (.builtin "object.__class__")))
   (hn:PySem.W.specialIn K (.builtin "object.__class__") "__get__" = some (some (.builtin "getset_descriptor.__get__"))) (htk:PySem.W.takesIn K (.builtin "object.__class__")=some true)
   (hm:PySem.W.mroIn K C (.type "object")=some true):TyOf K H (.ref a) (.ref C)
end
end L2
namespace L2
open PySem PySem.Spec PyProof.Rows
structure Room (k:Nat) (A:Around):Prop where
 hd:A.handled=none
 dp:A.depth + 3 * k + 5 < recursionLimit
 un:A.units + 16 * k + 200 < cLine
theorem Room.mono {j k:Nat} {A:Around} (r:Room k A) (h:j≤k):Room j A:=⟨r.hd,by have:=r.dp; omega,by have:=r.un; omega⟩
theorem Room.deeper {k:Nat} {A:Around} (r:Room (k + 1) A) (env:Env):Room k (A.deeper env):=
 ⟨r.hd,by have:=r.dp; show A.depth + 1 + 3 * k + 5 < _; omega,by have:=r.un; show A.units + 3 + 16 * k + 200 < _; omega⟩
theorem zjf {A:Around} {C:Addr} {us:List Value} {kw:List (Str × Value)}:(A.under (.builtin "type.__call__" ⟨.ref C::us,kw⟩)).depth=A.depth + 1:=by
 first | rfl | simp [Around.under,Code.weight,Code.isCreation,Code.isGuard,Code.isCaller,Code.frames,Code.isFrame,guardIds]
theorem zje {A:Around} {C:Addr} {us:List Value} {kw:List (Str × Value)}:(A.under (.builtin "type.__call__" ⟨.ref C::us,kw⟩)).units=A.units + 1:=by
 first | rfl | simp [Around.under,Code.cUnits,Code.frames,Code.isFrame]
theorem Room.make {k:Nat} {A:Around} (r:Room (k + 1) A) (C:Addr) (us:List Value) (kw:List (Str × Value)):Room k (A.under (.builtin "type.__call__" ⟨.ref C::us,kw⟩)):=
 ⟨r.hd,by have:=r.dp; rw [zjf]; omega,by have:=r.un; rw [zje]; omega⟩
theorem Room.depth {k:Nat} {A:Around} (r:Room k A):A.depth < recursionLimit:=by have:=r.dp; omega
theorem Room.units {k:Nat} {A:Around} (r:Room k A):A.units + 64 < cLine:=by have:=r.un; omega
def tNil:TA:=fun _ H Q=>Q [] H
def znx (ta:TE) (tr:TA):TA:=fun σ H Q=>ta σ H fun x H1=>tr σ H1 fun xs H2=>Q (x::xs) H2
section
variable {X:Cx} {e:Expr} {es:List Expr} {te:TE} {t:TA} {pos:Pos}
theorem zd6:PA X [] tNil:=fun _ _ _ _ H Q I h=>Calls.spliced_nil ⟨[],H,I,.nil,h⟩
theorem zbH (ha:PE X e te) (hr:PA X es t) (hs:starEach (e::es) X.env=(false,eval e X.env)::starEach es X.env:=by rfl):PA X (e::es) (znx te t):=by
 intro pos pins s σ H Q I h
 rw [hs]
 show wpAny _ _ (spliced ((false,eval e X.env)::backTo pos (starEach es X.env))) _ _ s
 refine Calls.spliced_cons (thn (ha pins s σ H _ I h) fun u s1 ⟨x,H1,I1,r1,q1⟩=>?_)
 exact thn (hr pos pins s1 σ H1 _ I1 q1) fun us s2 ⟨xs,H2,I2,r2,q2⟩=>⟨x::xs,H2,I2,.cons r1 r2,q2⟩
def tTup (t:TA):TE:=fun σ H Q=>t σ H fun xs H1=>xs.length≤sizeLine∧∀p,H1 p=none→Q (.ref p) (upd H1 p (.tup xs))
def tLst (t:TA):TE:=fun σ H Q=>t σ H fun xs H1=>xs.length≤sizeLine∧∀p,H1 p=none→Q (.ref p) (upd H1 p (.lst xs))
theorem zp6 {x1} (h:PA X es t):PE X (.Tuple es x1 pos) (tTup t):=by
 intro pins s σ H Q I hq
 refine wpAny_Tuple_spliced (thn (h pos pins s σ H _ I hq) fun us s1 ⟨xs,H1,I1,r,z,q⟩=>⟨by rw [←r.length]; exact z,?_⟩)
 have hf:H1 s1.heap.objs.size=none:=I1.hok.fresh (Nat.le_refl _)
 refine ⟨.ref s1.heap.objs.size,upd H1 s1.heap.objs.size (.tup xs),I1.laid (t':=s1.toks) (fun b u e=>Heap.get?_push_of_some _ e) (Nat.le_refl _) ?_,rfl,q _ hf⟩
 exact ⟨z,us,r,⟨_,Heap.get?_push_size _ rfl,rfl,_,rfl⟩,_,Heap.get?_push_size _ rfl,rfl⟩
theorem zqa (h:PA X es t):PE X (.List es pos) (tLst t):=by
 intro pins s σ H Q I hq
 refine wpAny_List_spliced (thn (h pos pins s σ H _ I hq) fun us s1 ⟨xs,H1,I1,r,z,q⟩=>⟨by rw [←r.length]; exact z,?_⟩)
 have hf:H1 s1.heap.objs.size=none:=I1.hok.fresh (Nat.le_refl _)
 refine ⟨.ref s1.heap.objs.size,upd H1 s1.heap.objs.size (.lst xs),I1.laid (t':=s1.toks) (fun b u e=>Heap.get?_push_of_some _ e) (Nat.le_refl _) ?_,rfl,q _ hf⟩
 exact ⟨z,us,0,r,Heap.get?_push_size _ rfl⟩
end
abbrev Sp:=List V→Hp→VK→XK→Prop
abbrev CXT:=List Env→Hp→Shared→XK→Value→Shared→Prop
structure Env0 (P:Program) (w:World) (K:PySem.W.Frag) (mg:Str→Option Value) (base:Heap) (A:Around) (outer:List Env) (s:Shared) (H:Hp):Prop where
 frames:A.frames=some outer
 mod:Mod K mg base
 bs:∀b o,base.get? b=some o→s.heap.get? b=some o∧H b=none
 bsz:base.objs.size≤s.heap.objs.size
 funs:s.heap.FunFrames base outer
 frf:∀b∈frs outer,H b=none
 hok:HOk P w H s.heap
 bare:AllBare s.gens
def CE (outer:List Env) (P:Program) (w:World) (H:Hp) (s:Shared) (Q:VK) (u:Value) (s':Shared):Prop:=
 ∃v H',s'.os=s.os∧AllBare s'.gens∧Un (frs outer) [] H H' s.heap s'.heap∧HOk P w H' s'.heap∧RelV v u∧Q v H'
def CR (CX:CXT) (outer:List Env) (P:Program) (w:World) (H:Hp) (s:Shared) (Q:VK) (E:XK) (r:Result) (s':Shared):Prop:=
 match r with
 | .ok (.ret u)=>CE outer P w H s Q u s'
 | .ok _=>False
 | .error e=>CX outer H s E e s'
structure FnOk (P:Program) (w:World) (K:PySem.W.Frag) (mg:Str→Option Value) (base:Heap) (CX:CXT) (k:Nat) (f:Addr) (fd:FuncData) (ps:List Str) (sp:Sp):Prop where
 len:∀vs H Q E,sp vs H Q E→vs.length=ps.length
 run:∀(A:Around) (outer:List Env) (s:Shared) (H:Hp) (args:Args) (us:List Value) (vs:List V) (Q:VK) (E:XK),Room k A→Env0 P w K mg base A outer s H→BindsTo s fd args (ps.zip us)→Vals vs us→sp vs H Q E →
  codeAny (model P w) A (.call (.ref f) args) (CR CX outer P w H s Q E) s
theorem FnOk.mono {P:Program} {w:World} {K:PySem.W.Frag} {mg:Str→Option Value} {base:Heap} {CX:CXT} {j k:Nat} {f:Addr} {fd:FuncData} {ps:List Str} {sp:Sp} (F:FnOk P w K mg base CX j f fd ps sp) (h:j≤k) :
  FnOk P w K mg base CX k f fd ps sp:=⟨F.len,fun A outer s H args us vs Q E hr=>F.run A outer s H args us vs Q E (hr.mono h)⟩
theorem Env0.make {P:Program} {w:World} {K:PySem.W.Frag} {mg:Str→Option Value} {base:Heap} {A:Around} {outer:List Env} {s:Shared} {H:Hp} (e:Env0 P w K mg base A outer s H) (C:Addr) (us:List Value) (kw:List (Str × Value)) :
  Env0 P w K mg base (A.under (.builtin "type.__call__" ⟨.ref C::us,kw⟩)) outer s H:=⟨by first | exact e.frames | (simpa [Around.under,Code.envs,Code.isFrame,pushEnvs] using e.frames),e.mod,e.bs,e.bsz,e.funs,e.frf,e.hok,e.bare⟩
section
variable {X:Cx} {pins:List (Addr × Obj)} {σ:St} {H:Hp} {s s':Shared}
theorem Inv.env0 (I:Inv X pins σ H s):Env0 X.prog X.w X.K X.mg X.base X.A X.stack s H:=
 ⟨I.ok.frames,I.ok.mod,I.bs,Nat.le_trans I.ok.bsz I.sz,I.stack,I.stkFree,I.hok,I.bare⟩
theorem Inv.after {Q:VK} {u:Value} (I:Inv X pins σ H s) (h:CE X.stack X.prog X.w H s Q u s'):EP X pins σ Q u s':=by
 obtain ⟨v,H',os,bare,un,hok,r,q⟩:=h
 obtain ⟨hh,g,d,t,os'⟩:=s'
 obtain rfl:os'=s.os:=os
 exact ⟨v,H',I.call (h':=hh) (g':=g) (d':=d) (t':=t) (ch:=[]) un hok bare (fun b z=>absurd z (by simp)),r,q⟩
end
def zry (sp:Sp) (dvs:List V) (E:XK) (t:TA):TE:=fun σ H Q=>t σ H fun vs H1=>sp (vs++dvs) H1 Q E
def zew (K:PySem.W.Frag) (fd:FuncData) (ps:List Str) (ds:List Value):Prop:=
 ∀(s:Shared) (us:List Value),K.In s.heap→(us++ds).length=ps.length→BindsTo s fd ⟨us,[]⟩ (ps.zip (us++ds))
theorem zew.all {K:PySem.W.Frag} {fd:FuncData} {ps:List Str} (h:∀us:List Value,us.length=ps.length→bindArgs fd ⟨us,[]⟩=pure (ps.zip us)):zew K fd ps []:=fun s us _ hl=>by
 rw [List.append_nil] at hl ⊢
 exact .of_eq (h us hl)
def zlb (CX:CXT) (X:Cx) (E:XK):Prop:=∀(pins:List (Addr × Obj)) (σ:St) (H:Hp) (s:Shared) (e:Value) (s':Shared),Inv X pins σ H s→CX X.stack H s E e s'→X.xe e s'
section
variable {X:Cx} {CX:CXT} {k:Nat} {f C:Addr} {fd:FuncData} {ps:List Str} {sp:Sp} {dvs:List V} {ds:List Value} {E:XK} {x m:Str} {p pos apos:Pos} {e o:Expr} {es:List Expr} {ta:TE} {t:TA}
theorem zpJ {pins:List (Addr × Obj)} {σ:St} {H:Hp} {s:Shared} {Q:VK} {us:List Value} {vs:List V} (F:FnOk X.prog X.w X.K X.mg X.base CX k f fd ps sp) (hr:Room k X.A) (hb:zew X.K fd ps ds) (hd:Vals dvs ds) (hx:zlb CX X E)
  (I:Inv X pins σ H s) (r:Vals vs us) (h:sp (vs++dvs) H Q E):wpAny (model X.prog X.w) X.A (call (.ref f) us) (EP X pins σ Q) X.xe s:=by
 have r2:Vals (vs++dvs) (us++ds):=r.append hd
 have hl:(us++ds).length=ps.length:=by rw [←r2.length]; exact F.len _ _ _ _ h
 refine wpAny_call (codeAny_mono (F.run X.A X.stack s H ⟨us,[]⟩ (us++ds) (vs++dvs) Q E hr I.env0 (hb s us I.kIn hl) r2 h) fun r s' hq=>?_)
 cases r with
 | error e=>exact hx pins σ H s e s' I hq
 | ok fl=>
  cases fl with
  | ret u=>exact I.after hq
  | next=>exact False.elim hq
  | brk=>exact False.elim hq
  | cont=>exact False.elim hq
theorem zoe (F:FnOk X.prog X.w X.K X.mg X.base CX k f fd ps sp) (hr:Room k X.A) (hg:Gl X x) (hm:X.mg x=some (.ref f)) (hk:PySem.W.keepIn X.K (.ref f)=true) (hb:zew X.K fd ps ds) (hd:Vals dvs ds) (hx:zlb CX X E)
  (ha:PA X (e::es) t) (hdb:(x == ("__debug__" : Str))=false:=by decide) (he:starEach (e::es) X.env=(false,eval e X.env)::starEach es X.env:=by rfl) (hpl:(backTo pos (starEach es X.env)).any (·.1)=false:=by rfl) :
  PE X (.Call (.Name x p) (e::es) [] pos) (zry sp dvs E t):=by
 intro pins s σ H Q I h
 refine wpAny_Call_Name_kw (zer I hg hm ?_ hdb)
 refine PySem.W.callWith_K (h₀:=X.base) I.ok.mod.kin hk (thn (ha pos pins s σ H _ I h) fun us s1 ⟨vs,H1,I1,r,q⟩=>⟨I1.kIn,?_⟩) he hpl
 exact zpJ F hr hb hd hx I1 r q
structure Mk (K:PySem.W.Frag) (C f:Addr):Prop where
 makes:PySem.W.makesIn K C=true
 init:PySem.W.findIn K (.ref C) "__init__" = some (some (.ref f))
 fn:PySem.W.isFn K (.ref f)=true
 kp:PySem.W.keepIn K (.ref C)=true
end
section
variable {X:Cx} {CX:CXT} {k:Nat} {f C:Addr} {fd:FuncData} {ps ks:List Str} {sp:Sp} {E:XK} {x m:Str} {p pos apos kpos:Pos} {e o:Expr} {es:List Expr} {kws:List Keyword} {te ta:TE} {t tk:TA} {nm:Option Str}
structure KBinds (K:PySem.W.Frag) (fd:FuncData) (ps ks:List Str) (g:List Value→List Value→List Value) (gV:List V→List V→List V):Prop where
 to:∀(s:Shared) (us ws:List Value),K.In s.heap→(g us ws).length=ps.length→BindsTo s fd ⟨us,ks.zip ws⟩ (ps.zip (g us ws))
 rel:∀{vs:List V} {us:List Value} {zs:List V} {ws:List Value},Vals vs us→Vals zs ws→Vals (gV vs zs) (g us ws)
variable {g:List Value→List Value→List Value} {gV:List V→List V→List V}
end
structure FnScope (N P:List Str) (sc:Scope):Prop where
 kind:sc.kind=.function
 co:sc.isCoroutine=false
 gen:sc.isGenerator=false
 nd:N.Nodup
 pre:N.take P.length=P
 par:∀x∈P,sc.names.lookup x=some .local∨sc.names.lookup x=some .cell
 nofree:∀y∈sc.names,y.2≠.free
theorem zhr {kindOf:Str→Option NameKind} {x:Str}:∀{binds:List (Str × Value)} {m:Str→Option Value},(∀v,(x,v)∉binds)→bindL kindOf binds m x=m x
 | [],_,_=>rfl
 | (n,v)::r,m,h=>by
  unfold bindL
  rw [zhr fun w hw=>h w (List.mem_cons_of_mem _ hw)]
  split
  ·have:x≠n:=by rintro rfl; exact h v List.mem_cons_self
   simp [this]
  ·rfl
theorem zht {kindOf:Str→Option NameKind} {x:Str}:∀{binds:List (Str × Value)} {m:Str→Option Value},(∀v,(x,v)∉binds)→bindC kindOf binds m x=m x
 | [],_,_=>rfl
 | (n,v)::r,m,h=>by
  unfold bindC
  rw [zht fun w hw=>h w (List.mem_cons_of_mem _ hw)]
  split
  ·rfl
  ·have:x≠n:=by rintro rfl; exact h v List.mem_cons_self
   simp [this]
theorem zhs {kindOf:Str→Option NameKind} {x:Str} {v:Value}:∀{P:List Str} {vs:List Value} {i:Nat} {m:Str→Option Value},P.Nodup→P[i]? = some x→vs[i]? = some v→kindOf x=some .local →
  bindL kindOf (P.zip vs) m x=some v
 | [],_,_,_,_,h,_,_=>by simp at h
 | _::_,[],_,_,_,_,h,_=>by simp at h
 | p::P,w::vs,0,m,nd,h1,h2,hk=>by
  simp at h1 h2; subst h1; subst h2
  show bindL kindOf ((p,w)::P.zip vs) m p=_
  unfold bindL
  rw [zhr fun v hv=>(List.nodup_cons.mp nd).1 (List.of_mem_zip hv).1,if_pos hk]
  simp
 | p::P,w::vs,i + 1,m,nd,h1,h2,hk=>by
  show bindL kindOf ((p,w)::P.zip vs) m x=_
  unfold bindL
  exact zhs (i:=i) (List.nodup_cons.mp nd).2 (by simpa using h1) (by simpa using h2) hk
theorem zhu {kindOf:Str→Option NameKind} {x:Str} {v:Value}:∀{P:List Str} {vs:List Value} {i:Nat} {m:Str→Option Value},P.Nodup→P[i]? = some x→vs[i]? = some v→kindOf x≠some .local →
  bindC kindOf (P.zip vs) m x=some v
 | [],_,_,_,_,h,_,_=>by simp at h
 | _::_,[],_,_,_,_,h,_=>by simp at h
 | p::P,w::vs,0,m,nd,h1,h2,hk=>by
  simp at h1 h2; subst h1; subst h2
  show bindC kindOf ((p,w)::P.zip vs) m p=_
  unfold bindC
  rw [zht fun v hv=>(List.nodup_cons.mp nd).1 (List.of_mem_zip hv).1,if_neg hk]
  simp
 | p::P,w::vs,i + 1,m,nd,h1,h2,hk=>by
  show bindC kindOf ((p,w)::P.zip vs) m x=_
  unfold bindC
  exact zhu (i:=i) (List.nodup_cons.mp nd).2 (by simpa using h1) (by simpa using h2) hk
def start (N:List Str) (vs:List V):St:=vs.map some++List.replicate (N.length - vs.length) none
def cxOf (CX:CXT) (P:Program) (w:World) (K:PySem.W.Frag) (mg:Str→Option Value) (base:Heap) (N:List Str) (qual:Str) (scope:Scope) (f:Addr) (cd:Value) (A:Around) (outer:List Env) (s:Shared) (H:Hp) (E:XK):Cx where
 prog:=P
 w:=w
 K:=K
 mg:=mg
 base:=base
 A:=A.deeper (envOfC qual scope s.heap.objs.size f cd)
 N:=N
 s₀:=s
 H₀:=H
 env:=envOfC qual scope s.heap.objs.size f cd
 outer:=outer
 stack:=envOfC qual scope s.heap.objs.size f cd::outer
 ex:=[]
 calm:=true
 fn:=fun _=>true
 pn:=[]
 xe:=fun e s'=>wpAny (model P w) (A.deeper (envOfC qual scope s.heap.objs.size f cd)) (leaving (envOfC qual scope s.heap.objs.size f cd) e) (fun _ s''=>CX outer H s E e s'') (fun e' s''=>CX outer H s E e' s'') s'
theorem ziM {sc:Scope} {n:Nat} {x:Str} (h:sc.names.lookup x=some .cell):∃c,(cellsFrom n sc.names []).lookup x=some c:=by
 have q:=PySem.W.cellsFrom_some sc.names n [] (.inl h)
 exact Option.isSome_iff_exists.mp q
theorem zkG {CX:CXT} {P:Program} {w:World} {K:PySem.W.Frag} {mg:Str→Option Value} {base:Heap} {N ps:List Str} {qual:Str} {scope:Scope} {f:Addr} {cd:Value} {A:Around} {outer:List Env} {s s1:Shared} {H:Hp} {E:XK} {us:List Value} {vs:List V}
  (S:FnScope N ps scope) (hd:A.handled=none) (e0:Env0 P w K mg base A outer s H) (hl:vs.length=ps.length) (r:Vals vs us)
  (x:InCallC s s.heap.objs.size (bindL (envOfC qual scope s.heap.objs.size f cd).kindOf (ps.zip us) fun _=>none) (cellsFrom (s.heap.objs.size + 1) scope.names []) (bindC (envOfC qual scope s.heap.objs.size f cd).kindOf (ps.zip us) fun _=>none) s1) :
  Inv (cxOf CX P w K mg base N qual scope f cd A outer s H E) [] (start N vs) H s1:=by
 have hpl:ps.length≤N.length:=by have:=congrArg List.length S.pre; rw [List.length_take] at this; omega
 obtain ⟨h1,tk,rfl,hk⟩:=x.done
 have noA:∀b:Addr,b∉(cxOf CX P w K mg base N qual scope f cd A outer s H E).ex:=fun b z=>absurd (show b∈([]:List Addr) from z) (by simp)
 refine ⟨⟨e0.mod,S.kind,rfl,rfl,Nat.le_refl _,fun y z c h1 h2=>?_,fun y hy=>?_,fun y c _ h=>?_,fun _=>hd,Around.frames_deeper e0.frames,.inr ⟨rfl,rfl⟩,fun b z=>absurd z (noA b),e0.bs,e0.bsz,fun b _ _=>noA b,fun b z=>absurd z (noA b),e0.funs,e0.frf⟩,
  rfl,e0.bare,Un.kept hk,⟨_,x.toInCall.ns,fun i y v h1 h2 h3=>?_⟩,fun y c h=>⟨_,x.cell y c h⟩,e0.hok.fresh (Nat.le_refl _),fun y c h=>?_,fun p hp=>absurd (show p∈([]:List (Addr × Obj)) from hp) (by simp),e0.hok.kept hk,?_⟩
 ·exact name_of_addr x.apart (PySem.mem_of_lookup h1) (PySem.mem_of_lookup h2)
 ·have hy:scope.names.lookup y=some .cell∨scope.names.lookup y=some .free:=hy
  rcases hy with hy | hy
  ·exact ziM hy
  ·exact absurd rfl (S.nofree _ (PySem.mem_of_lookup hy))
 ·exact Nat.le_of_lt (x.above y c (PySem.mem_of_lookup h))
 ·have hi:i < vs.length:=by
   unfold start at h2
   by_cases hi:i < vs.length
   ·exact hi
   ·rw [List.getElem?_append_right (by simpa using hi)] at h2
    rw [List.getElem?_replicate] at h2
    split at h2 <;> cases h2
  have ha:vs[i]? = some v:=by
   unfold start at h2
   rw [List.getElem?_append_left (by simpa using hi),List.getElem?_map] at h2
   cases e:vs[i]? with
   | none=>rw [e] at h2; cases h2
   | some a=>rw [e] at h2; cases h2; rfl
  obtain ⟨u,hu,rv⟩:=r.get ha
  have hp:ps[i]? = some y:=by
   rw [←S.pre,List.getElem?_take_of_lt (by omega)]; exact h1
  have ndP:ps.Nodup:=by rw [←S.pre]; exact S.nd.sublist (List.take_sublist _ _)
  refine ⟨u,rv,?_⟩
  rcases S.par y (List.mem_of_getElem? hp) with k | k
  ·exact .inl ⟨k,zhs ndP hp hu k⟩
  ·obtain ⟨c,e⟩:=ziM (n:=s.heap.objs.size + 1) k
   refine .inr ⟨.inl k,c,e,?_⟩
   have q:=x.cell y c e
   rw [zhu ndP hp hu (by show scope.names.lookup y≠_; rw [k]; decide)] at q
   exact q
 ·exact e0.hok.fresh (Nat.le_of_lt (x.above y c (PySem.mem_of_lookup h)))
 ·unfold start
  show _=N.length
  rw [List.length_append,List.length_map,List.length_replicate]
  omega
theorem zoL {CX:CXT} {P:Program} {w:World} {K:PySem.W.Frag} {mg:Str→Option Value} {base:Heap} {k:Nat} {f:Addr} {name qual:Str} {params:Arguments} {body:List Stmt} {scope:Scope} {dV kV doc pm cdv ct oc:Value} {an od:Option Addr}
  {osl:Array (Option Value)} {N ps:List Str} {sp:Sp} (lk:K.lookup f=some ⟨oc,od,.func (PySem.W.fnOf name qual params body scope dV kV doc pm an cdv ct),osl⟩) (hcd:PySem.W.codeIn K cdv qual=true) (S:FnScope N ps scope)
  (len:∀vs H Q E,sp vs H Q E→vs.length=ps.length)
  (hbody:∀(A:Around) (outer:List Env) (s:Shared) (H:Hp) (vs:List V) (Q:VK) (E:XK),Room k (A.deeper (envOfC qual scope s.heap.objs.size f cdv))→sp vs H Q E →
   ∃t,PSs (cxOf CX P w K mg base N qual scope f cdv A outer s H E) body t∧t { nx:=fun _ H'=>Q .non H',rt:=Q } (start N vs) H) :
  FnOk P w K mg base CX (k + 1) f (PySem.W.fnOf name qual params body scope dV kV doc pm an cdv ct) ps sp:=by
 refine ⟨len,fun A outer s H args us vs Q E hr e0 hb r hsp=>?_⟩
 have hl:=len _ _ _ _ hsp
 have KX:K.In s.heap:=e0.mod.kin.keeps fun b o e=>(e0.bs b o e).1
 have lim:s.heap.NoLimit:=e0.mod.nolimit.keeps fun b o e=>(e0.bs b o e).1
 have hkind:∀y∈ps.zip us,scope.names.lookup y.1=some .local∨(scope.names.lookup y.1=some .cell∧((cellsFrom (s.heap.objs.size + 1) scope.names []).lookup y.1).isSome=true):=fun ⟨n,v⟩ hy=>by
  rcases S.par n (List.of_mem_zip hy).1 with q | q
  ·exact .inl q
  ·exact .inr ⟨q,PySem.W.cellsFrom_some _ _ _ (.inl q)⟩
 refine codeAny_call_function hr.depth (KX _ _ lk) rfl S.co S.gen rfl (PySem.W.codeRec_of KX hcd) (hb _ _ _ _ ?_)
 refine wpAny_newFunctionEnv_cells S.kind hkind fun env he s1 x=>?_
 subst he
 refine ⟨lim.keeps x.toInCall.keep,codeAny_func ?_⟩
 obtain ⟨t,ht,hq⟩:=hbody A outer s H vs Q E (hr.deeper _) hsp
 have I:Inv (cxOf CX P w K mg base N qual scope f cdv A outer s H E) [] (start N vs) H s1:=zkG S hr.hd e0 hl r x
 refine wpAny_mono (ht [] s1 (start N vs) H _ I hq) (fun fl s' hs=>?_) fun e s' hs=>hs
 have fin:∀{σ':St} {H':Hp} {v:V} {u:Value},Inv (cxOf CX P w K mg base N qual scope f cdv A outer s H E) [] σ' H' s'→RelV v u→Q v H'→CE outer P w H s Q u s':=
  fun {σ' H' v u} J rv q=>⟨v,H',J.os,J.bare,J.base,J.hok,rv,q⟩
 cases fl with
 | ret u=>
  obtain ⟨v,σ',H',J,rv,q⟩:=hs
  exact fin J rv q
 | next=>
  obtain ⟨σ',H',J,q⟩:=hs
  exact fin (v:=V.non) (u:=Value.none) J rfl q
 | brk=>
  obtain ⟨_,_,_,q⟩:=hs
  exact False.elim q
 | cont=>
  obtain ⟨_,_,_,q⟩:=hs
  exact False.elim q
end L2
namespace L2
open PySem PySem.Spec PyProof.Rows
section
variable {X:Cx} {x:Str} {p pos:Pos} {e:Expr} {es:List Expr} {t:TA} {id T:String} {r:List V→Hp→VK→Prop}
def tCB (r:List V→Hp→VK→Prop) (t:TA):TE:=fun σ H Q=>t σ H fun vs H1=>r vs H1 Q
theorem zdp (hc:zc2 X (.builtin id) r) (hg:Gl X x) (hm:X.mg x=none) (hv:bootBuiltins x=some (.builtin id)) (ha:PA X (e::es) t) (hn:x≠"__name__" := by decide) (hdb:(x == ("__debug__" : Str))=false:=by decide)
  (he:starEach (e::es) X.env=(false,eval e X.env)::starEach es X.env:=by rfl) (hpl:(backTo pos (starEach es X.env)).any (·.1)=false:=by rfl):PE X (.Call (.Name x p) (e::es) [] pos) (tCB r t):=by
 intro pins s σ H Q I h
 refine wpAny_Call_Name_kw (zg9 I hg hm hv ?_ hn hdb)
 exact PyProof.Rows.callWith_builtin1 (thn (ha pos pins s σ H _ I h) fun us s1 ⟨vs,H1,I1,r1,q1⟩=>hc pins s1 σ H1 vs us Q I1 r1 q1) he hpl
theorem zdg (hc:zc2 X (.type T) r) (hg:Gl X x) (hm:X.mg x=none) (hv:bootBuiltins x=some (.type T)) (ha:PA X (e::es) t) (hn:x≠"__name__" := by decide) (hdb:(x == ("__debug__" : Str))=false:=by decide)
  (he:starEach (e::es) X.env=(false,eval e X.env)::starEach es X.env:=by rfl) (hpl:(backTo pos (starEach es X.env)).any (·.1)=false:=by rfl):PE X (.Call (.Name x p) (e::es) [] pos) (tCB r t):=by
 intro pins s σ H Q I h
 refine wpAny_Call_Name_kw (zg9 I hg hm hv ?_ hn hdb)
 exact PyProof.Rows.callWith_type1 (thn (ha pos pins s σ H _ I h) fun us s1 ⟨vs,H1,I1,r1,q1⟩=>hc pins s1 σ H1 vs us Q I1 r1 q1) he hpl
end
end L2
namespace HT
open PySem PyProof.Rows
def lexLt:List Int→List Int→Bool
 | [],[]=>false
 | [],_::_=>true
 | _::_,[]=>false
 | x::xs,y::ys=>if x=y then lexLt xs ys else decide (x < y)
theorem lexLt_cons (x y:Int) (xs ys:List Int):lexLt (x::xs) (y::ys)=if x=y then lexLt xs ys else decide (x < y):=rfl
theorem zgs:lexLt [] []=false:=rfl
theorem zfR (y:Int) (ys:List Int):lexLt [] (y::ys)=true:=rfl
theorem zfS (x:Int) (xs:List Int):lexLt (x::xs) []=false:=rfl
theorem zms (A:Around) (s:Shared) (a:Int) (t:Tok) (c:Int) (u:Tok):∃e,SeqAt.EqAt A s (.int a t) (.int c u) e∧(e=true↔a=c):=
 ⟨(a == c),SeqAt.EqAt.int_int a t c u,by simp⟩
theorem rcLt_int (A:Around) (s:Shared) (a:Int) (t:Tok) (c:Int) (u:Tok) (prog:Program) (w:World) (E:Value→Shared→Prop) (Q:Value→Shared→Prop) (h:Q (.bool (decide (a < c))) s) :
  wpAny (model prog w) A (richCompare .Lt (.int a t) (.int c u)) Q E s:=
 (PyProof.Rows.lt_int h:wpAny (model prog w) A (compareOp .Lt (.int a t) (.int c u)) Q E s)
section
open PySem.SeqAt
open PySem.AutoSeq1 (wpAny_loadPart')
open PySem.MeetsSeq PySem.MeetsSeq2 PySem.MeetsSeq3
theorem zgd (l b:Addr) (items items2:Array Value) (n n2:Nat) (dd dd2:Option Addr) (sl sl2:Array (Option Value)) (ns ms:List Int) (hi:IntsAre items.toList ns) (hj:IntsAre items2.toList ms) :
  Meets (Builtin.«tuple.__lt__» ⟨[.ref l,.ref b],[]⟩)
   (fun _ R s=>s.heap.get? l=some { cls:=.type "tuple",dict:=dd,data:=.seq items n,slots:=sl }∧s.heap.get? b=some { cls:=.type "tuple",dict:=dd2,data:=.seq items2 n2,slots:=sl2 } ∧
    R (.ok (.ret (.bool (lexLt ns ms)))) s):=
 .of_wp fun prog w A R s h=>by
  obtain ⟨hp,g,d,tk,os⟩:=s; obtain ⟨hl,hb,h⟩:=h
  have f2:=AutoSeq1.sub_tuple_tuple
  have z1:items.size=ns.length:=by rw [←hi.length]; simp
  have z2:items2.size=ms.length:=by rw [←hj.length]; simp
  wp_walk using wpAny_loadPart' hl,wpAny_loadPart' hb,wpAny_forIn_list _ (fun rest b s'=>b.1=none∧s'=⟨hp,g,d,tk,os⟩∧∃(vs ws:List Value) (ns' ms':List Int),rest=vs.zip ws ∧
   IntsAre vs ns'∧IntsAre ws ms'∧ns'.length + items2.size=ms'.length + items.size∧R (.ok (.ret (.bool (lexLt ns' ms')))) ⟨hp,g,d,tk,os⟩) _
  case turn=>
   rintro ⟨y,x⟩ rest b s' ⟨hb',rfl,vs,ws,ns',ms',hz,hvi,hwi,hlen,hR⟩
   cases hvi with
   | nil=>rw [List.zip_nil_left] at hz; cases hz
   | cons a t hvi'=>
    cases hwi with
    | nil=>rw [List.zip_nil_right] at hz; cases hz
    | cons c u hwi'=>
     rw [List.zip_cons_cons] at hz
     injection hz with hyx hrest
     injection hyx with hy hx
     subst hy hx
     rw [lexLt_cons] at hR
     simp only [List.length_cons] at hlen
     obtain ⟨e,he,hiff⟩:=zms A.in1 ⟨hp,g,d,tk,os⟩ a t c u
     refine wpAny_bind (he prog w _ _ ?_)
     cases e with
     | true=>
      rw [if_pos (hiff.mp rfl)] at hR
      wp_walk
      exact ⟨rfl,rfl,_,_,_,_,hrest,hvi',hwi',by omega,hR⟩
     | false=>
      rw [if_neg (fun q=>absurd (hiff.mpr q) Bool.false_ne_true)] at hR
      have hri:=rcLt_int A.in1 ⟨hp,g,d,tk,os⟩ a t c u prog w
      wp_walk using hri
      exact ⟨_,rfl,by simpa using hR⟩
  case fin=>
   rintro ⟨b1,b2⟩ s' ⟨hb',rfl,vs,ws,ns',ms',hz,hvi,hwi,hlen,hR⟩
   simp only at hb'
   subst hb'
   have hv:lexLt ns' ms'=decide (items.size < items2.size):=by
    cases hvi with
    | nil=>
     cases hwi with
     | nil=>
      simp only [List.length_nil] at hlen
      rw [zgs]
      exact (decide_eq_false (by omega)).symm
     | cons c u hw=>
      simp only [List.length_nil,List.length_cons] at hlen
      rw [zfR]
      exact (decide_eq_true (by omega)).symm
    | cons a t hv=>
     cases hwi with
     | nil=>
      simp only [List.length_nil,List.length_cons] at hlen
      rw [zfS]
      exact (decide_eq_false (by omega)).symm
     | cons c u hw=>
      rw [List.zip_cons_cons] at hz
      cases hz
   rw [hv] at hR
   wp_walk
   exact ⟨_,rfl,by simpa [Builtin.Tuple.tupleCompareSizes] using hR⟩
  case h=>
   exact ⟨rfl,rfl,items.toList,items2.toList,ns,ms,rfl,hi,hj,by omega,h⟩
end
section
variable {prog:Program} {w:World} {A:Around} {E:Value→Shared→Prop} {s:Shared}
theorem lt_tupInts {l b:Addr} {items items2:Array Value} {ns ms:List Int} {Q:Value→Shared→Prop} (hl:IsTup s.heap l items) (hb:IsTup s.heap b items2) (hi:IntsAre items.toList ns) (hj:IntsAre items2.toList ms)
  (hu:A.units < cLine) (h:Q (.bool (lexLt ns ms)) s):wpAny (model prog w) A (compareOp .Lt (.ref l) (.ref b)) Q E s:=by
 obtain ⟨⟨cls,dd,data,sl⟩,ho,hc,n,hd⟩:=id hl
 obtain ⟨⟨cls2,dd2,data2,sl2⟩,ho2,hc2,n2,hd2⟩:=id hb
 simp only at hc hd hc2 hd2
 subst hc hd hc2 hd2
 exact richCompare_meets_room (op:=.Lt) ⟨_,ho,rfl⟩ ⟨_,ho2,rfl⟩ PySem.F.slot_tuple_lt PySem.F.entry_tuple_lt (PySem.F.args_tuple_lt_2 _ _) (zgd l b items items2 n n2 dd dd2 sl sl2 ns ms hi hj)
  ⟨ho,ho2,show Value.bool (lexLt ns ms)≠Value.notImplemented∧Q (.bool (lexLt ns ms)) s from ⟨(fun x=>nomatch x),h⟩⟩ hu
theorem cat_tup {t b:Addr} {vs ws:List Value} {Q:Value→Shared→Prop} (ht:IsTup s.heap t vs.toArray) (hb:IsTup s.heap b ws.toArray) (hv:vs≠[])
  (h1:ws=[]→Q (.ref t) s) (h2:ws≠[]→Q (.ref s.heap.objs.size) { s with heap:=s.heap.push { cls:=.type "tuple",data:=.seq (vs++ws).toArray } })
  (hsz:vs.length + ws.length≤sizeLine):wpAny (model prog w) A (binaryOp .Add (.ref t) (.ref b)) Q E s:=by
 obtain ⟨⟨cls,dd,data,sl⟩,ho,hc,n,hd⟩:=id ht
 obtain ⟨⟨cls2,dd2,data2,sl2⟩,ho2,hc2,n2,hd2⟩:=id hb
 simp only at hc hd hc2 hd2
 subst hc hd hc2 hd2
 have e:vs.toArray++ws.toArray=(vs++ws).toArray:=by simp
 by_cases hw:ws=[]
 ·exact concat_meets ⟨_,ho,rfl⟩ ⟨_,ho2,rfl⟩ noFill_tuple_add seq_tuple_add PySem.F.slot_tuple_add PySem.F.entry_tuple_add (PySem.F.args_tuple_add_2 _ _)
   (tuple_addW1 t b vs.toArray ws.toArray n n2 dd dd2 sl sl2 (by simpa using hv) (by simp [hw])) ⟨ho,ho2,h1 hw⟩
 ·refine concat_meets ⟨_,ho,rfl⟩ ⟨_,ho2,rfl⟩ noFill_tuple_add seq_tuple_add PySem.F.slot_tuple_add PySem.F.entry_tuple_add (PySem.F.args_tuple_add_2 _ _)
   (tuple_addW2 t b vs.toArray ws.toArray n n2 dd dd2 sl sl2 (by simpa using hv) (by simpa using hw) (by rw [List.size_toArray,List.size_toArray]; exact hsz)) ⟨ho,ho2,?_⟩
  rw [e]
  exact h2 hw
def sIx (n d:Nat):Option Int→Nat
 | none=>d
 | some v=>if v < 0 then (v + (n:Int)).toNat else min v.toNat n
theorem sIx_none (n d:Nat):sIx n d none=d:=rfl
theorem sIx_nat (n d k:Nat):sIx n d (some (k:Int))=min k n:=by
 show (if (k:Int) < 0 then ((k:Int) + (n:Int)).toNat else min (k:Int).toNat n)=min k n
 rw [if_neg (by omega),Int.toNat_natCast]
theorem zpG (n d:Nat) (hd:d≤n) (o:Option Int):sIx n d o≤n:=by
 cases o with
 | none=>exact hd
 | some v=>
  show (if v < 0 then (v + (n:Int)).toNat else min v.toNat n)≤n
  by_cases hv:v < 0
  ·rw [if_pos hv]; omega
  ·rw [if_neg hv]; exact Nat.min_le_right _ _
theorem zkY (v:Int) (n d:Nat):(if v < 0 then max (v + (n:Int)) 0 else min v (n:Int))=((sIx n d (some v):Nat):Int):=by
 show (if v < 0 then max (v + (n:Int)) 0 else min v (n:Int))=(((if v < 0 then (v + (n:Int)).toNat else min v.toNat n):Nat):Int)
 by_cases hv:v < 0
 ·simp only [if_pos hv]; omega
 ·simp only [if_neg hv]; omega
theorem zjw (lo hi:Option Int) (n:Nat):Builtin.Slice.sliceAdjust lo hi 1 (n:Int)=(((sIx n 0 lo:Nat):Int),((sIx n n hi:Nat):Int)):=by
 have h1:¬ ((1:Int) < 0):=by omega
 unfold Builtin.Slice.sliceAdjust
 simp only [h1,if_false]
 refine Prod.ext ?_ ?_
 ·cases lo with
  | none=>rfl
  | some v=>exact zkY v n 0
 ·cases hi with
  | none=>rfl
  | some v=>exact zkY v n n
theorem zjb (i j:Nat):Builtin.Slice.slicePlaces (i:Int) (j:Int) 1=j - i:=by
 unfold Builtin.Slice.slicePlaces
 have h1:(1:Int) > 0:=by omega
 simp only [h1,if_true,Int.ediv_one]
 split <;> omega
theorem zfW {v:Value} {o:Option Int} {Q:Option Int→Shared→Prop} (p:IsPart v o) (h:Q o s):wpAny (model prog w) A (Builtin.Slice.slicePartIndex v) Q E s:=by
 cases p with
 | none=>exact slicePart_none h
 | int i t=>exact slicePart_int h
theorem sliceApplied_gen {sl:Addr} {vl vu:Value} {lo hi:Option Int} {n:Nat} {Q:Int × Int × Nat→Shared→Prop} (hs:s.heap.IsSliceOf sl vl vu .none) (pl:IsPart vl lo) (pu:IsPart vu hi)
  (h:Q (((sIx n 0 lo:Nat):Int),1,sIx n n hi - sIx n 0 lo) s):wpAny (model prog w) A (Builtin.Slice.sliceApplied (.ref sl) (pure (n:Int))) Q E s:=by
 obtain ⟨os,hos,hcs,hds⟩:=id hs
 unfold Builtin.Slice.sliceApplied Builtin.Slice.sliceFields
 refine wpAny_bind (wpAny_bind (wpAny_field hos hds (x:=vl) rfl (wpAny_bind (wpAny_field hos hds (x:=vu) rfl (wpAny_bind (wpAny_field hos hds (x:=.none) rfl (wpAny_pure ?_)))))))
 refine wpAny_bind (slicePart_none ?_)
 show wpAny _ _ (if ((1:Int) == 0)=true then _ else _) _ _ s
 rw [if_neg (by decide)]
 refine wpAny_bind (zfW pl (wpAny_bind (zfW pu (wpAny_bind (wpAny_pure ?_)))))
 show wpAny _ _ (match Builtin.Slice.sliceAdjust lo hi 1 (n:Int) with | (lo,hi)=>pure (lo,(1:Int),Builtin.Slice.slicePlaces lo hi 1)) _ _ s
 rw [zjw lo hi n]
 show wpAny _ _ (pure (((sIx n 0 lo:Nat):Int),(1:Int),Builtin.Slice.slicePlaces ((sIx n 0 lo:Nat):Int) ((sIx n n hi:Nat):Int) 1)) _ _ s
 rw [zjb]
 exact wpAny_pure h
theorem zlU (xs:Array Value) (i k:Nat):((List.range k).filterMap fun (m:Nat)=>xs[((i:Int) + (m:Int) * 1).toNat]?).toArray=((xs.toList.drop i).take k).toArray:=by
 have e:(fun (m:Nat)=>xs[((i:Int) + (m:Int) * 1).toNat]?)=fun m=>xs[i + m]?:=by
  funext m
  have:((i:Int) + (m:Int) * 1).toNat=i + m:=by omega
  rw [this]
 rw [e]
 have:=pick_run xs i k
 rw [List.filterMap_map] at this
 have e2:((fun x=>xs[x]?) ∘ fun x=>i + x)=fun m=>xs[i + m]?:=rfl
 rw [e2] at this
 rw [this]
theorem getItem_tuple_cut {t sl:Addr} {items:Array Value} {vl vu:Value} {lo hi:Option Int} {Q:Value→Shared→Prop} (ht:IsTup s.heap t items) (hs:s.heap.IsSliceOf sl vl vu .none) (pl:IsPart vl lo) (pu:IsPart vu hi)
  (hw:¬ (sIx items.size 0 lo=0∧sIx items.size items.size hi=items.size))
  (h:Q (.ref s.heap.objs.size) { s with heap:=s.heap.push { cls:=.type "tuple",data:=.seq ((items.toList.drop (sIx items.size 0 lo)).take (sIx items.size items.size hi - sIx items.size 0 lo)).toArray } })
  (hsz:items.size≤sizeLine):wpAny (model prog w) A (getItem (.ref t) (.ref sl)) Q E s:=by
 have htake:sizeOk (.seq ((items.toList.drop (sIx items.size 0 lo)).take (sIx items.size items.size hi - sIx items.size 0 lo)).toArray):=by
  show ((items.toList.drop (sIx items.size 0 lo)).take (sIx items.size items.size hi - sIx items.size 0 lo)).toArray.size≤sizeLine
  rw [List.size_toArray,List.length_take,List.length_drop,Array.length_toList]
  omega
 have hj:sIx items.size items.size hi≤items.size:=zpG _ _ (Nat.le_refl _) hi
 obtain ⟨os,hos,hcs,hds⟩:=id hs
 have hTs:s.TypeIs (.ref sl) "slice" := ⟨os,hos,hcs⟩
 unfold getItem
 try with_reducible refine wpAny_holding ?_
 first | refine wpAny_bind (wpAny_pure ?_) | skip
 refine wpAny_bind (wpAny_sequenceKey ht.typeIs (by decide) ?_)
 refine wpAny_bind (wpAny_callSpecial?_slot (name:=Str.ofString "__getitem__") ht.typeIs PyProof.Rows.slot_tuple_getitem
  (wpAny_call_entry PyProof.Rows.slot_tuple_getitem ht.typeIs entry_tuple_getitem ?_ (args_tuple_getitem _ _)))
 show wpAny _ _ (Builtin.Tuple.tupleItemsOf (.ref t) >>= _) _ _ s
 refine wpAny_bind (tupleItemsOf_ ht ?_)
 refine wpAny_bind (wpAny_typeOf hTs ?_)
 rw [if_pos (by decide)]
 refine wpAny_bind (sliceApplied_gen hs pl pu ?_)
 have hno:¬ ((((sIx items.size 0 lo:Nat):Int) == 0 && (1:Int) == 1 && (sIx items.size items.size hi - sIx items.size 0 lo) == items.size)=true):=by
  intro q
  rw [Bool.and_eq_true,Bool.and_eq_true] at q
  have q1:((sIx items.size 0 lo:Nat):Int)=0:=eq_of_beq q.1.1
  have q2:sIx items.size items.size hi - sIx items.size 0 lo=items.size:=eq_of_beq q.2
  exact hw ⟨by omega,by omega⟩
 show wpAny _ _ (if (((sIx items.size 0 lo:Nat):Int) == 0 && (1:Int) == 1 && (sIx items.size items.size hi - sIx items.size 0 lo) == items.size)=true then _ else _) _ _ s
 rw [if_neg hno,zlU]
 first
  | exact wpAny_bind (m:=Builtin.Tuple.tupleExact _) (wpAny_newObj_type (wpAny_pure ⟨_,rfl,wpAny_pure h⟩) htake)
  | exact wpAny_bind (m:=Builtin.Tuple.tupleExact _) (wpAny_newObj_type (wpAny_bind (wpAny_pure (wpAny_pure ⟨_,rfl,wpAny_pure h⟩))) htake)
  | exact wpAny_bind (wpAny_bind (m:=Builtin.Tuple.tupleExact _) (wpAny_newObj_type (wpAny_pure (wpAny_pure ⟨_,rfl,wpAny_pure h⟩)) htake))
  | exact wpAny_bind (wpAny_bind (m:=Builtin.Tuple.tupleExact _) (wpAny_newObj_type (wpAny_pure ⟨_,rfl,wpAny_pure h⟩) htake))
end
end HT
namespace L2
open PySem PySem.Spec PyProof.Rows
abbrev TO:=St→Hp→(Option Int→Hp→Prop)→Prop
def PO (X:Cx) (e:Option Expr) (t:TO):Prop:=
 ∀(pins:List (Addr × Obj)) (s:Shared) (σ:St) (H:Hp) (Q:Option Int→Hp→Prop),Inv X pins σ H s→t σ H Q →
  wpAny (model X.prog X.w) X.A (evalPart e X.env) (fun u s'=>∃o H',Inv X pins σ H' s'∧IsPart u o∧Q o H') X.xe s
def znw:TO:=fun _ H Q=>Q none H
def zrv (t:TE):TO:=fun σ H Q=>t σ H fun x H1=>∃i,x=.int i∧Q (some i) H1
theorem zjn {ns:List Int}:∀{us:List Value},Vals (ns.map V.int) us→IntsAre us ns:=by
 induction ns with
 | nil=>intro us r; rw [List.map_nil] at r; cases r; exact .nil
 | cons n ns ih=>
  intro us r
  rw [List.map_cons] at r
  cases r with
  | cons r1 r2=>
   obtain ⟨t,e⟩:=r1
   subst e
   exact .cons n t (ih r2)
section
variable {X:Cx} {e:Expr} {te:TE} {lo hi:Option Expr} {tl th:TO} {pos p2:Pos}
theorem zn7:PO X none znw:=by
 intro pins s σ H Q I h
 rw [evalPart_none]
 exact wpAny_pure ⟨none,H,I,.none,h⟩
theorem zn6 (h:PE X e te):PO X (some e) (zrv te):=by
 intro pins s σ H Q I hw
 rw [evalPart_some]
 refine thn (h pins s σ H _ I hw) fun u s1 ⟨x,H1,I1,r1,q1⟩=>?_
 obtain ⟨i,rfl,q⟩:=q1
 obtain ⟨t,rfl⟩:=r1
 exact ⟨some i,H1,I1,.int i t,q⟩
def SlR (X:Cx) (r:V→Option Int→Option Int→Hp→VK→Prop):Prop:=
 ∀(pins:List (Addr × Obj)) (s:Shared) (σ:St) (H:Hp) (x:V) (v vl vu:Value) (lo hi:Option Int) (sl:Addr) (Q:VK),Inv X pins σ H s→RelV x v→s.heap.IsSliceOf sl vl vu .none→IsPart vl lo→IsPart vu hi→r x lo hi H Q →
  ∃T id,typeLookup (.type T) "__getitem__" = pure (some (.builtin id))∧s.TypeIs v T∧wpAny (model X.prog X.w) X.A (getItem v (.ref sl)) (EP X pins σ Q) X.xe s
theorem SlR.or {r r':V→Option Int→Option Int→Hp→VK→Prop} (h:SlR X r) (h':SlR X r'):SlR X (fun x lo hi H Q=>r x lo hi H Q∨r' x lo hi H Q):=by
 intro pins s σ H x v vl vu lo hi sl Q I rx hs pl pu q
 rcases q with q | q
 ·exact h pins s σ H x v vl vu lo hi sl Q I rx hs pl pu q
 ·exact h' pins s σ H x v vl vu lo hi sl Q I rx hs pl pu q
def tSl (r:V→Option Int→Option Int→Hp→VK→Prop) (te:TE) (tl th:TO):TE:=fun σ H Q=>te σ H fun x H1=>tl σ H1 fun l H2=>th σ H2 fun u H3=>r x l u H3 Q
theorem zlW {r:V→Option Int→Option Int→Hp→VK→Prop} (hr:SlR X r) (he:PE X e te) (hl:PO X lo tl) (hu:PO X hi th):PE X (.Subscript e (.Slice lo hi none p2) pos) (tSl r te tl th):=by
 intro pins s σ H Q I h
 refine Subscript_ (thn (he pins s σ H _ I h) fun v s1 ⟨x,H1,I1,r1,q1⟩=>?_)
 refine wpAny_Slice (thn (hl pins s1 σ H1 _ I1 q1) fun vl s2 ⟨l,H2,I2,pl,q2⟩=>thn (hu pins s2 σ H2 _ I2 q2) fun vu s3 ⟨u,H3,I3,pu,q3⟩=>?_)
 rw [evalPart_none]
 refine wpAny_pure ?_
 have I4:Inv X pins σ H3 { s3 with heap:=s3.heap.push { cls:=.type "slice",data:=.fields #[vl,vu,.none] } }:=I3.kept (t':=s3.toks) fun b ob q=>Heap.get?_push_of_some _ q
 obtain ⟨T,id,hT,ht,hg⟩:=hr pins { s3 with heap:=s3.heap.push { cls:=.type "slice",data:=.fields #[vl,vu,.none] } } σ H3 x v vl vu l u s3.heap.objs.size Q I4 r1 (Heap.IsSliceOf.new ..) pl pu q3
 show wpAny (model X.prog X.w) X.A (subscriptTail e (.Slice lo hi none p2) v (.ref s3.heap.objs.size)) (EP X pins σ Q) X.xe { s3 with heap:=s3.heap.push { cls:=.type "slice",data:=.fields #[vl,vu,.none] } }
 exact tail_any (ops:=[.ref s3.heap.objs.size,v]) ht hT hg (by with_unfolding_all rfl)
def cutV (xs:List V) (lo hi:Option Int):List V:=(xs.drop (HT.sIx xs.length 0 lo)).take (HT.sIx xs.length xs.length hi - HT.sIx xs.length 0 lo)
theorem zfx (xs:List V) (lo hi:Option Int):(cutV xs lo hi).length≤xs.length:=by
 unfold cutV
 rw [List.length_take,List.length_drop]
 omega
def rSlT (K:PySem.W.Frag):V→Option Int→Option Int→Hp→VK→Prop:=fun x lo hi H Q=>∃a xs,x=.ref a∧SqT K H a xs ∧
 ¬ (HT.sIx xs.length 0 lo=0∧HT.sIx xs.length xs.length hi=xs.length)∧∀p,H p=none→Q (.ref p) (upd H p (.tup (cutV xs lo hi)))
theorem zpr:SlR X (rSlT X.K):=by
 intro pins s σ H x v vl vu lo hi sl Q I rx hs pl pu h
 obtain ⟨a,xs,rfl,hx,hw,q⟩:=h
 cases rx
 obtain ⟨its,r,ht,hz⟩:=I.tuple hx
 have hlen:its.toArray.size=xs.length:=by rw [List.size_toArray]; exact r.length.symm
 refine ⟨"tuple",_,PyProof.Rows.slot_tuple_getitem.lookup,ht.typeIs,?_⟩
 refine HT.getItem_tuple_cut ht hs pl pu (by rw [hlen]; exact hw) ?_ (by rw [hlen]; exact hz)
 rw [hlen]
 refine ⟨.ref s.heap.objs.size,_,I.laid (t':=s.toks) (o:=.tup (cutV xs lo hi)) (fun b ob q=>Heap.get?_push_of_some _ q) (Nat.le_refl _) ?_,rfl,q _ (I.hok.fresh (Nat.le_refl _))⟩
 exact ⟨Nat.le_trans (zfx xs lo hi) hz,_,(r.drop (HT.sIx xs.length 0 lo)).take (HT.sIx xs.length xs.length hi - HT.sIx xs.length 0 lo),IsTup.new _ _,_,Heap.get?_push_size _ rfl,rfl⟩
def znW (K:PySem.W.Frag):R2:=fun x y H Q=>∃a b xs ys,x=.ref a∧y=.ref b∧SqT K H a xs∧SqT K H b ys∧xs≠[]∧xs.length + ys.length≤sizeLine ∧
 (ys=[]→Q (.ref a) H)∧(ys≠[]→∀p,H p=none→Q (.ref p) (upd H p (.tup (xs++ys))))
theorem Vals.nil_iff {xs:List V} {us:List Value} (r:Vals xs us):us=[]↔xs=[]:=by
 cases r with
 | nil=>simp
 | cons _ _=>simp
theorem zkh:OpR X (binaryOp .Add) (znW X.K):=by
 intro pins s σ H x y v u Q I rx ry h
 obtain ⟨a,b,xs,ys,rfl,rfl,ha,hb,hx,hz,q1,q2⟩:=h
 cases rx
 cases ry
 obtain ⟨its,r1,p1,_⟩:=I.tuple ha
 obtain ⟨its2,r2,p2,_⟩:=I.tuple hb
 refine HT.cat_tup p1 p2 (fun z=>hx (r1.nil_iff.mp z)) (fun z=>⟨.ref a,H,I,rfl,q1 (r2.nil_iff.mp z)⟩) (fun z=>?_) (by rw [←r1.length,←r2.length]; exact hz)
 refine ⟨.ref s.heap.objs.size,_,I.laid (t':=s.toks) (o:=.tup (xs++ys)) (fun b ob q=>Heap.get?_push_of_some _ q) (Nat.le_refl _) ?_,rfl,q2 (fun w=>z (r2.nil_iff.mpr w)) _ (I.hok.fresh (Nat.le_refl _))⟩
 exact ⟨by rw [List.length_append]; exact hz,_,r1.append r2,IsTup.new _ _,_,Heap.get?_push_size _ rfl,rfl⟩
end
end L2
namespace L2
open PySem PySem.Spec PyProof.Rows
def ixN (n:Nat) (i:Int):Option Nat:=if 0≤i then (if i < n then some i.toNat else none) else if -(n:Int)≤i then some (i + n).toNat else none
def atI {α:Type} (xs:List α) (i:Int):Option α:=(ixN xs.length i).bind fun j=>xs[j]?
theorem zkD {n:Nat} {i:Int} {j:Nat} (h:ixN n i=some j):seqIndex? i n=some j∧j < n∧-(n:Int)≤i∧i < n:=by
 unfold ixN at h
 by_cases h0:0≤i
 ·rw [if_pos h0] at h
  by_cases h1:i < n
  ·rw [if_pos h1] at h
   have e:i.toNat=j:=Option.some.inj h
   exact ⟨by rw [seqIndex_of h0 h1,e],by omega,by omega,h1⟩
  ·rw [if_neg h1] at h; cases h
 ·rw [if_neg h0] at h
  by_cases h1 : -(n:Int)≤i
  ·rw [if_pos h1] at h
   have e:(i + n).toNat=j:=Option.some.inj h
   exact ⟨by rw [seqIndex_neg (by omega) h1,e],by omega,h1,by omega⟩
  ·rw [if_neg h1] at h; cases h
theorem zh6 {α:Type} {xs:List α} {i:Int} {v:α} (h:atI xs i=some v):∃j,seqIndex? i xs.length=some j∧xs[j]? = some v∧j < xs.length∧-(xs.length:Int)≤i∧i < xs.length:=by
 unfold atI at h
 cases e:ixN xs.length i with
 | none=>rw [e] at h; cases h
 | some j=>
  rw [e] at h
  obtain ⟨h1,h2,h3,h4⟩:=zkD e
  exact ⟨j,h1,h,h2,h3,h4⟩
def zla (b:Expr):Prop:=∀o i,subscripted b false o i=operate [o,i] (getItem o i)
def IxR (X:Cx) (r:R2):Prop:=
 ∀(value slice:Expr) (pins:List (Addr × Obj)) (s:Shared) (σ:St) (H:Hp) (x y:V) (v u:Value) (Q:VK),Inv X pins σ H s→RelV x v→RelV y u→r x y H Q →
  subscripted slice false v u=operate [v,u] (getItem v u)→wpAny (model X.prog X.w) X.A (subscriptTail value slice v u) (EP X pins σ Q) X.xe s
def MtR (X:Cx) (id:String) (r:V→List V→Hp→VK→Prop):Prop:=
 ∀(pins:List (Addr × Obj)) (s:Shared) (σ:St) (H:Hp) (x:V) (xs:List V) (v:Value) (us:List Value) (Q:VK),Inv X pins σ H s→RelV x v→Vals xs us→r x xs H Q →
  wpAny (model X.prog X.w) X.A (call (.builtin id) (v::us)) (EP X pins σ Q) X.xe s
section
variable {X:Cx} {a b:Expr} {ta tb:TE} {pos:Pos}
theorem IxR.or {r r':R2} (h:IxR X r) (h':IxR X r'):IxR X (fun x y H Q=>r x y H Q∨r' x y H Q):=by
 intro value slice pins s σ H x y v u Q I rx ry q hs
 rcases q with q | q
 ·exact h value slice pins s σ H x y v u Q I rx ry q hs
 ·exact h' value slice pins s σ H x y v u Q I rx ry q hs
theorem zrL {r:R2} (hr:IxR X r) (ha:PE X a ta) (hb:PE X b tb) (hs:zla b):PE X (.Subscript a b pos) (tOp r ta tb):=by
 intro pins s σ H Q I h
 exact Subscript_ (binT ha hb I h fun v u s2 x y H2 I2 rx ry q=>hr a b pins s2 σ H2 x y v u Q I2 rx ry q (hs _ _))
def rIxL (K:PySem.W.Frag):R2:=fun x y H Q=>∃p xs i v,x=.ref p∧y=.int i∧SqL K H p xs∧atI xs i=some v∧Q v H
def rIxT (K:PySem.W.Frag):R2:=fun x y H Q=>∃p xs i v,x=.ref p∧y=.int i∧SqT K H p xs∧atI xs i=some v∧Q v H
def rIxS:R2:=fun x y H Q=>∃z i c,x=.str z∧y=.int i∧z.length≤sizeLine∧atI z.cps.toList i=some c∧Q (.str ⟨#[c]⟩) H
theorem zoA:IxR X (rIxL X.K):=by
 intro value slice pins s σ H x y v u Q I rx ry h hs
 obtain ⟨p,xs,i,z,rfl,rfl,hq,he,q⟩:=h
 cases rx
 obtain ⟨t,rfl⟩:=ry
 obtain ⟨its,r,pl,hz⟩:=I.list hq
 obtain ⟨j,h1,h2,h3,h4,h5⟩:=zh6 he
 obtain ⟨w,ew,rw'⟩:=r.get h2
 have hl:=r.length
 have hn:=zf0
 have fin:EP X pins σ Q w s:=⟨z,H,I,rw',q⟩
 by_cases h0:0≤i
 ·have hj:i.toNat=j:=by
   rw [seqIndex_of h0 h5] at h1
   exact Option.some.inj h1
  exact item_listR pl.isList h0 (by omega) (by rw [hj]; simpa using ew) fin hs
 ·have hj:(i + (its.toArray.size:Int)).toNat=j:=by
   rw [seqIndex_neg (by omega) h4] at h1
   rw [List.size_toArray,←hl]
   exact Option.some.inj h1
  exact subscriptTail_builtinR (x:=w) pl.isList.typeIs slot_list_getitem.lookup
   (wpAny_getItem_list_neg (Q:=fun r s'=>r=w∧EP X pins σ Q r s') pl.isList (by omega) (by rw [List.size_toArray] <;> omega) (by omega) (by rw [hj]; simpa using ew) ⟨rfl,fin⟩) hs
theorem zqM:IxR X (rIxT X.K):=by
 intro value slice pins s σ H x y v u Q I rx ry h hs
 obtain ⟨p,xs,i,z,rfl,rfl,hq,he,q⟩:=h
 cases rx
 obtain ⟨t,rfl⟩:=ry
 obtain ⟨its,r,pl,hz⟩:=I.tuple hq
 obtain ⟨j,h1,h2,h3,h4,h5⟩:=zh6 he
 obtain ⟨w,ew,rw'⟩:=r.get h2
 have hl:=r.length
 have hn:=zf0
 have fin:EP X pins σ Q w s:=⟨z,H,I,rw',q⟩
 exact subscriptTail_builtinR (x:=w) pl.typeIs slot_tuple_getitem.lookup
  (getItem_tuple (j:=j) (Q:=fun r s'=>r=w∧EP X pins σ Q r s') pl (by omega) (by omega) (by rw [List.size_toArray,←hl]; exact h1) (by simpa using ew) ⟨rfl,fin⟩) hs
theorem zqN:IxR X rIxS:=by
 intro value slice pins s σ H x y v u Q I rx ry h hs
 obtain ⟨z,i,c,rfl,rfl,hz,he,q⟩:=h
 obtain ⟨t,rfl⟩:=rx
 obtain ⟨t',rfl⟩:=ry
 obtain ⟨j,h1,h2,h3,h4,h5⟩:=zh6 he
 have hl:z.cps.toList.length=z.length:=by simp [Str.length]
 rw [hl] at h1 h4 h5
 have hn:=zf0
 exact tail_any (typeIs_str s z t) slot_str_getitem.lookup (getItem_str (c:=c) (by
  have e1:decide (i < -(2 ^ 63:Int))=false:=decide_eq_false (by omega)
  have e2:decide (i ≥ 2 ^ 63)=false:=decide_eq_false (by omega)
  rw [e1,e2,Bool.or_false]) (by rw [h1]; simpa using h2) ⟨.str ⟨#[c]⟩,H,I.tok _,⟨_,rfl⟩,q⟩) hs
def rIx (K:PySem.W.Frag):R2:=fun x y H Q=>rIxL K x y H Q∨rIxT K x y H Q∨rIxS x y H Q
theorem zqO:IxR X (rIx X.K):=zoA.or (zqM.or zqN)
theorem zjd (its:List Value) (n j:Nat) (u:Value):Obj.mapSeq (·.setIfInBounds j u) { cls:=.type "list",data:=.seq its.toArray n }={ cls:=.type "list",data:=.seq (its.set j u).toArray n }:=by
 simp [Obj.mapSeq]
theorem Inv.lst {pins:List (Addr × Obj)} {σ:St} {H:Hp} {s:Shared} {p:Addr} {xs:List V} (I:Inv X pins σ H s) (h:H p=some (.lst xs)) :
  ∃(its:List Value) (n:Nat),Vals xs its∧s.heap.get? p=some { cls:=.type "list",data:=.seq its.toArray n }∧xs.length≤sizeLine:=by
 obtain ⟨z,its,n,r,e⟩:=I.hok p _ h
 exact ⟨its,n,r,e,z⟩
theorem Inv.lstUpd {pins:List (Addr × Obj)} {σ:St} {H:Hp} {s:Shared} {p:Addr} {xs ys:List V} {its its':List Value} {n n':Nat} {f:Obj→Obj} (I:Inv X pins σ H s) (h:H p=some (.lst xs))
  (ho:s.heap.get? p=some { cls:=.type "list",data:=.seq its.toArray n }) (hf:f { cls:=.type "list",data:=.seq its.toArray n }={ cls:=.type "list",data:=.seq its'.toArray n' }) (r:Vals ys its') (hz:ys.length≤sizeLine) (t:Nat) :
  Inv X pins σ (upd H p (.lst ys)) { s with heap:=s.heap.update p f,toks:=t }:=by
 have e:(s.heap.update p f).get? p=some { cls:=.type "list",data:=.seq its'.toArray n' }:=by
  rw [Heap.get?_update_self f ho (by rw [hf] <;> rfl),hf]
 refine I.write (x:=p) (e:=p) (by rw [h]; trivial) (.inl rfl) (fun b u hb q=>(Heap.get?_update_other _ _ (Ne.symm hb)).trans q) ⟨_,e⟩ ?_
 exact ⟨hz,its',n',r,e⟩
def zpO:V→V→V→Hp→(Hp→Prop)→Prop:=fun o i v H Q=>∃p xs k j,o=.ref p∧i=.int k∧H p=some (.lst xs)∧ixN xs.length k=some j∧Q (upd H p (.lst (xs.set j v)))
theorem zlr:PSet X zpO:=by
 intro pins s σ H o i v ov iv u Q I ro ri rv h
 obtain ⟨p,xs,k,j,rfl,rfl,hp,hj,q⟩:=h
 cases ro
 obtain ⟨t,rfl⟩:=ri
 obtain ⟨its,n,r,ho,hz⟩:=I.lst hp
 obtain ⟨h1,h2,h3,h4⟩:=zkD hj
 have hl:=r.length
 have hn:=zf0
 have I':Inv X pins σ (upd H p (.lst (xs.set j v))) { s with heap:=s.heap.update p (Obj.mapSeq (·.setIfInBounds j u)) }:=
  I.lstUpd hp ho (zjd its n j u) (r.set rv j) (by rw [List.length_set]; exact hz) s.toks
 by_cases h0:0≤k
 ·have hk:k.toNat=j:=by
   rw [seqIndex_of h0 h4] at h1
   exact Option.some.inj h1
  exact PySem.W.ki_setAt ho h0 (by omega) (by rw [List.size_toArray,←hl]; exact h4) (by rw [hk]; exact ⟨_,I',q⟩)
 ·have hk:(k + (its.toArray.size:Int)).toNat=j:=by
   rw [seqIndex_neg (by omega) h3] at h1
   rw [List.size_toArray,←hl]
   exact Option.some.inj h1
  exact PySem.W.ki_setBack ho (by omega) (by rw [List.size_toArray,←hl]; exact h3) (by omega) (by rw [hk]; exact ⟨_,I',q⟩)
theorem zgN (lo hi:Option Int) (n:Nat):(sliceBounds lo hi none n).1=((HT.sIx n 0 lo:Nat):Int)∧(sliceBounds lo hi none n).2.1=((HT.sIx n n hi:Nat):Int)∧(sliceBounds lo hi none n).2.2=1:=by
 refine ⟨?_,?_,rfl⟩
 ·cases lo with
  | none=>simp [sliceBounds,HT.sIx]
  | some i=>
   simp only [sliceBounds,HT.sIx,Option.getD_none,show (1:Int) > 0 by decide,if_true]
   by_cases h:i < 0
   ·simp only [h,if_true] <;> omega
   ·simp only [h,if_false] <;> omega
 ·cases hi with
  | none=>simp [sliceBounds,HT.sIx]
  | some i=>
   simp only [sliceBounds,HT.sIx,Option.getD_none,show (1:Int) > 0 by decide,if_true]
   by_cases h:i < 0
   ·simp only [h,if_true] <;> omega
   ·simp only [h,if_false] <;> omega
theorem zgg (its:List Value) (lo hi:Option Int):slicePick its.toArray lo hi none=((its.drop (HT.sIx its.length 0 lo)).take (HT.sIx its.length its.length hi - HT.sIx its.length 0 lo)).toArray:=by
 obtain ⟨h1,h2,h3⟩:=zgN lo hi its.toArray.size
 unfold slicePick
 rw [h1,h2,h3]
 simp only [sliceRange_one,pick_run,List.size_toArray] <;> rfl
def rSlL (K:PySem.W.Frag):V→Option Int→Option Int→Hp→VK→Prop:=fun x lo hi H Q=>∃a xs,x=.ref a∧SqL K H a xs∧∀p,H p=none→Q (.ref p) (upd H p (.lst (cutV xs lo hi)))
theorem znz:SlR X (rSlL X.K):=by
 intro pins s σ H x v vl vu lo hi sl Q I rx hs pl pu h
 obtain ⟨a,xs,rfl,hx,q⟩:=h
 cases rx
 obtain ⟨its,r,ht,hz⟩:=I.list hx
 have hlen:=r.length
 refine ⟨"list",_,slot_list_getitem.lookup,ht.isList.typeIs,?_⟩
 refine wpAny_getItem_list_slice ht.isList hs pl pu .none (by simp) ?_ (by rw [List.size_toArray] <;> omega)
 rw [zgg,←hlen]
 refine ⟨.ref s.heap.objs.size,_,I.laid (t':=s.toks) (o:=.lst (cutV xs lo hi)) (fun b ob q=>Heap.get?_push_of_some _ q) (Nat.le_refl _) ?_,rfl,q _ (I.hok.fresh (Nat.le_refl _))⟩
 exact ⟨Nat.le_trans (zfx xs lo hi) hz,_,0,(r.drop (HT.sIx xs.length 0 lo)).take (HT.sIx xs.length xs.length hi - HT.sIx xs.length 0 lo),Heap.get?_push_size _ rfl⟩
def zdM:V→Bool
 | .non=>true
 | .bl _=>true
 | .int _=>true
 | .str _=>true
 | _=>false
def eqV:V→V→Bool
 | .non,.non=>true
 | .bl a,.bl b=>a == b
 | .bl a,.int b=>(if a then 1 else 0) == b
 | .int a,.bl b=>a == (if b then 1 else 0)
 | .int a,.int b=>a == b
 | .str a,.str b=>a == b
 | _,_=>false
theorem zrd {A:Around} {s:Shared} {y x:V} {u v:Value} (ry:RelV y u) (rx:RelV x v) (fy:zdM y=true) (fx:zdM x=true):SeqAt.EqAt A s u v (eqV y x):=by
 cases y with
 | non=>
  cases ry
  cases x with
  | non=>cases rx; exact SeqAt.EqAt.same _
  | bl b=>cases rx; exact SeqAt.EqAt.none_bool b
  | int b=>obtain ⟨t,rfl⟩:=rx; exact SeqAt.EqAt.none_int b t
  | str b=>obtain ⟨t,rfl⟩:=rx; exact SeqAt.EqAt.none_str b t
  | _=>exact absurd (show false=true from fx) Bool.false_ne_true
 | bl a=>
  cases ry
  cases x with
  | non=>cases rx; exact SeqAt.EqAt.bool_none a
  | bl b=>cases rx; exact SeqAt.EqAt.bool_bool a b
  | int b=>obtain ⟨t,rfl⟩:=rx; exact SeqAt.EqAt.bool_int a b t
  | str b=>obtain ⟨t,rfl⟩:=rx; exact SeqAt.EqAt.bool_str a b t
  | _=>exact absurd (show false=true from fx) Bool.false_ne_true
 | int a=>
  obtain ⟨t',rfl⟩:=ry
  cases x with
  | non=>cases rx; exact SeqAt.EqAt.int_none a t'
  | bl b=>cases rx; exact SeqAt.EqAt.int_bool a t' b
  | int b=>obtain ⟨t,rfl⟩:=rx; exact SeqAt.EqAt.int_int a t' b t
  | str b=>obtain ⟨t,rfl⟩:=rx; exact SeqAt.EqAt.int_str a t' b t
  | _=>exact absurd (show false=true from fx) Bool.false_ne_true
 | str a=>
  obtain ⟨t',rfl⟩:=ry
  cases x with
  | non=>cases rx; exact SeqAt.EqAt.str_none a t'
  | bl b=>cases rx; exact SeqAt.EqAt.str_bool a t' b
  | int b=>obtain ⟨t,rfl⟩:=rx; exact SeqAt.EqAt.str_int a t' b t
  | str b=>obtain ⟨t,rfl⟩:=rx; exact SeqAt.EqAt.str_str a t' b t
  | _=>exact absurd (show false=true from fx) Bool.false_ne_true
 | _=>exact absurd (show false=true from fy) Bool.false_ne_true
def eqU (x:V) (u:Value):Bool:=match u with
 | .none=>eqV .non x
 | .bool b=>eqV (.bl b) x
 | .int i _=>eqV (.int i) x
 | .str z _=>eqV (.str z) x
 | _=>false
theorem ziJ {x y:V} {u:Value} (r:RelV y u) (f:zdM y=true):eqU x u=eqV y x:=by
 cases y with
 | non=>cases r; rfl
 | bl b=>cases r; rfl
 | int i=>obtain ⟨t,rfl⟩:=r; rfl
 | str z=>obtain ⟨t,rfl⟩:=r; rfl
 | _=>exact absurd (show false=true from f) Bool.false_ne_true
theorem zfB {x:V}:∀{xs:List V} {us:List Value},Vals xs us→xs.all zdM=true→us.any (eqU x)=xs.any fun y=>eqV y x
 | _,_,.nil,_=>rfl
 | y::xs,u::us,.cons r t,f=>by
  rw [List.all_cons,Bool.and_eq_true] at f
  rw [List.any_cons,List.any_cons,ziJ r f.1,zfB t f.2]
theorem zdq {A:Around} {s:Shared} {x:V} {v:Value} (rx:RelV x v) (fx:zdM x=true):∀{xs:List V} {us:List Value},Vals xs us→xs.all zdM=true→∀u∈us,SeqAt.EqAt A s u v (eqU x u)
 | _,_,.nil,_=>fun u hu=>by cases hu
 | y::xs,u::us,.cons r t,f=>fun u' hu=>by
  rw [List.all_cons,Bool.and_eq_true] at f
  rcases List.mem_cons.mp hu with rfl | hu
  ·rw [ziJ r f.1]; exact zrd r rx f.1 fx
  ·exact zdq rx fx t f.2 u' hu
def inV (x:V) (xs:List V):Bool:=xs.any fun y=>eqV y x
def rIn (K:PySem.W.Frag) (neg:Bool):R2:=fun x y H Q=>∃p xs,y=.ref p∧(SqL K H p xs∨SqT K H p xs)∧zdM x=true∧xs.all zdM=true∧Q (.bl (if neg then ! inV x xs else inV x xs)) H
theorem zkg:OpR X (compareOp .In) (rIn X.K false):=by
 intro pins s σ H x y v u Q I rx ry h
 obtain ⟨p,xs,rfl,hq,fx,fs,q⟩:=h
 cases ry
 rcases hq with hq | hq
 ·obtain ⟨its,r,pl,hz⟩:=I.list hq
  refine SeqAt.in_listAt (eqU x) pl.isList (fun w hw=>zdq rx fx r fs w (by simpa using hw)) ⟨.bl _,H,I,rfl,?_⟩
  rw [show its.toArray.any (eqU x)=its.any (eqU x) by simp,zfB r fs]
  exact q
 ·obtain ⟨its,r,pl,hz⟩:=I.tuple hq
  refine SeqAt.in_tupleAt (eqU x) pl (fun w hw=>zdq rx fx r fs w (by simpa using hw)) ⟨.bl _,H,I,rfl,?_⟩
  rw [show its.toArray.any (eqU x)=its.any (eqU x) by simp,zfB r fs]
  exact q
theorem zg3:OpR X (compareOp .NotIn) (rIn X.K true):=by
 intro pins s σ H x y v u Q I rx ry h
 obtain ⟨p,xs,rfl,hq,fx,fs,q⟩:=h
 cases ry
 rcases hq with hq | hq
 ·obtain ⟨its,r,pl,hz⟩:=I.list hq
  refine SeqAt.notIn_listAt (eqU x) pl.isList (fun w hw=>zdq rx fx r fs w (by simpa using hw)) ⟨.bl _,H,I,rfl,?_⟩
  rw [show its.toArray.any (eqU x)=its.any (eqU x) by simp,zfB r fs]
  exact q
 ·obtain ⟨its,r,pl,hz⟩:=I.tuple hq
  refine SeqAt.notIn_tupleAt (eqU x) pl (fun w hw=>zdq rx fx r fs w (by simpa using hw)) ⟨.bl _,H,I,rfl,?_⟩
  rw [show its.toArray.any (eqU x)=its.any (eqU x) by simp,zfB r fs]
  exact q
theorem zg2:OpR X (compareOp .NotIn) (fun x y H Q=>∃i j,x=.str i∧y=.str j∧Q (.bl (!(!(Builtin.Str.occurrences j i 0 j.length 1).isEmpty))) H):=by
 intro pins s σ H x y v u Q I rx ry h
 obtain ⟨i,j,rfl,rfl,q⟩:=h
 obtain ⟨t,rfl⟩:=rx
 obtain ⟨t',rfl⟩:=ry
 exact notIn_str ⟨.bl _,H,I,rfl,q⟩
theorem zc2.or {f:Value} {r r':List V→Hp→VK→Prop} (h:zc2 X f r) (h':zc2 X f r'):zc2 X f (fun xs H Q=>r xs H Q∨r' xs H Q):=by
 intro pins s σ H xs us Q I rs q
 rcases q with q | q
 ·exact h pins s σ H xs us Q I rs q
 ·exact h' pins s σ H xs us Q I rs q
theorem zhq:zc2 X (.type "list") (fun xs H Q=>∃p ys,xs=[.ref p]∧(SqL X.K H p ys∨SqT X.K H p ys)∧∀l,H l=none→Q (.ref l) (upd H l (.lst ys))):=by
 intro pins s σ H xs us Q I r h
 obtain ⟨p,ys,rfl,hq,q⟩:=h
 obtain ⟨u,rfl,rx⟩:=ze1 r
 cases rx
 have fin:∀(its:List Value),Vals ys its→ys.length≤sizeLine→∀(h':Heap) (c':Nat),(∀b o',s.heap.get? b=some o'→h'.get? b=some o') →
   h'.get? s.heap.objs.size=some { cls:=.type "list",dict:=none,data:=.seq its.toArray c',slots:=#[] }→EP X pins σ Q (.ref s.heap.objs.size) { s with heap:=h' }:=fun its r' hz h' c' kp e=>
  ⟨.ref s.heap.objs.size,_,I.laid (t':=s.toks) kp (Nat.le_refl _) (show za6 X.prog X.w _ h' _ (.lst ys) from ⟨hz,its,c',r',e⟩),rfl,q _ (I.hok.fresh (Nat.le_refl _))⟩
 rcases hq with hq | hq
 ·obtain ⟨its,r',pl,hz⟩:=I.list hq
  have hlen:=r'.length
  obtain ⟨o,ho,hc,n,hd⟩:=pl.isList
  exact call_list_seq p (.inl rfl) ho hc hd (fun h' c' kp e=>fin its r' hz h' c' kp e) (by simp only [List.size_toArray] <;> omega)
 ·obtain ⟨its,r',pl,hz⟩:=I.tuple hq
  have hlen:=r'.length
  obtain ⟨o,ho,hc,n,hd⟩:=pl
  exact call_list_seq p (.inr rfl) ho hc hd (fun h' c' kp e=>fin its r' hz h' c' kp e) (by simp only [List.size_toArray] <;> omega)
theorem zgy:zc2 X (.type "tuple") (fun xs H Q=>∃p ys,xs=[.ref p]∧((SqL X.K H p ys∧∀l,H l=none→Q (.ref l) (upd H l (.tup ys)))∨(SqT X.K H p ys∧Q (.ref p) H))):=by
 intro pins s σ H xs us Q I r h
 obtain ⟨p,ys,rfl,h⟩:=h
 obtain ⟨u,rfl,rx⟩:=ze1 r
 cases rx
 rcases h with ⟨hq,q⟩ | ⟨hq,q⟩
 ·obtain ⟨its,r',pl,hz⟩:=I.list hq
  have hlen:=r'.length
  refine call_tuple_list pl.isList (fun h' kp=>?_) (by simp only [List.size_toArray] <;> omega)
  have I1:Inv X pins σ H { s with heap:=h' }:=I.kept (t':=s.toks) kp
  have I2:Inv X pins σ (upd H h'.objs.size (.tup ys)) { s with heap:=h'.push { cls:=.type "tuple",data:=.seq its.toArray } }:=
   I1.laid (t':=s.toks) (fun b o e=>Heap.get?_push_of_some _ e) (Nat.le_refl _) (show za6 X.prog X.w _ _ _ (.tup ys) from ⟨hz,its,r',IsTup.new _ _,_,Heap.get?_push_size _ rfl,rfl⟩)
  exact ⟨.ref h'.objs.size,_,I2,rfl,q _ (I1.hok.fresh (Nat.le_refl _))⟩
 ·obtain ⟨its,r',pl,hz⟩:=I.tuple hq
  exact call_tuple_same pl ⟨.ref p,H,I,rfl,q⟩
def tyV (K:PySem.W.Frag) (T:String) (x:V) (H:Hp):Prop:=match x with
 | .str _=>T = "str"
 | .int _=>T = "int"
 | .ref p=>(T = "list"∧∃xs,SqL K H p xs)∨(T = "tuple"∧((∃o,K.lookup p=some o∧o.cls=.type "tuple"∧o.dict=none)∨∃xs,Rd H p (.tup xs))) ∨
   (T = "dict"∧((∃kvs,Rd H p (.dK kvs))∨∃kvs,H p=some (.dT kvs)))∨(T = "set"∧∃S n,H p=some (.set S n))
 | _=>False
theorem zmN {pins:List (Addr × Obj)} {σ:St} {H:Hp} {s:Shared} {T:String} {x:V} {v:Value} (I:Inv X pins σ H s) (r:RelV x v) (ty:tyV X.K T x H) :
  s.TypeIs v T∧∀a,v=.ref a→∃ob,s.heap.get? a=some ob∧ob.dict=none:=by
 cases x with
 | str z=>
  obtain ⟨t,rfl⟩:=r
  cases (show T = "str" from ty)
  exact ⟨typeIs_str s z t,fun _ e=>nomatch e⟩
 | int i=>
  obtain ⟨t,rfl⟩:=r
  cases (show T = "int" from ty)
  exact ⟨typeIs_int s i t,fun _ e=>nomatch e⟩
 | ref p=>
  cases r
  rcases ty with ⟨rfl,xs,hq⟩ | ⟨rfl,⟨o,hk,hc,hd⟩ | ⟨xs,hq⟩⟩ | ⟨rfl,hk⟩ | ⟨rfl,S,n,hk⟩
  ·obtain ⟨its,_,pl,_⟩:=I.list hq
   refine ⟨pl.isList.typeIs,fun a e=>?_⟩
   cases e
   obtain ⟨o,n,e,c,hd,_⟩:=pl
   exact ⟨o,e,hd⟩
  ·refine ⟨⟨o,I.kIn p o hk,hc⟩,fun a e=>?_⟩
   cases e
   exact ⟨o,I.kIn _ o hk,hd⟩
  ·obtain ⟨_,its,_,⟨o,ho,hc,_⟩,o2,ho2,hd2⟩:=hq.ok I.hok
   refine ⟨⟨o,ho,hc⟩,fun a e=>?_⟩
   cases e
   exact ⟨o2,ho2,hd2⟩
  ·have z:∃o,s.heap.get? p=some o∧o.ExactDict:=by
    rcases hk with ⟨kvs,hk⟩ | ⟨kvs,hk⟩
    ·obtain ⟨_,_,_,_,o,_,_,e,ex,_⟩:=(show za6 X.prog X.w H s.heap p (.dK kvs) from hk.ok I.hok)
     exact ⟨o,e,ex⟩
    ·obtain ⟨_,_,_,_,o,_,_,e,ex,_⟩:=I.hok p _ hk
     exact ⟨o,e,ex⟩
   obtain ⟨o,e,ex⟩:=z
   refine ⟨⟨o,e,ex.1⟩,fun a e2=>?_⟩
   cases e2
   exact ⟨o,e,ex.2.1⟩
  ·obtain ⟨o,_,_,_,e,ex,_⟩:=I.hok p _ hk
   refine ⟨⟨o,e,ex.1⟩,fun a e2=>?_⟩
   cases e2
   exact ⟨o,e,ex.2.1⟩
 | _=>exact False.elim ty
def tBM0 (K:PySem.W.Frag) (T:String) (r:V→List V→Hp→VK→Prop) (to:TE):TE:=fun σ H Q=>to σ H fun x H1=>tyV K T x H1∧r x [] H1 Q
def tBM (K:PySem.W.Frag) (T:String) (r:V→List V→Hp→VK→Prop) (to:TE) (t:TA):TE:=fun σ H Q=>to σ H fun x H1=>tyV K T x H1∧t σ H1 fun xs H2=>r x xs H2 Q
variable {o e:Expr} {es:List Expr} {to:TE} {t:TA} {name:Str} {apos cpos:Pos} {T id:String} {r:V→List V→Hp→VK→Prop}
theorem zqd (pa:PlainAttrs T) (slot:Slot T name id) (hty:typeOf (.builtin id)=pure (.type "method_descriptor")) (hm:MtR X id r) (ho:PE X o to)
  (hbase:attributeBase o name X.env (eval o X.env)=eval o X.env:=by rfl) (hline:(apos.endLine == cpos.line)=true:=by rfl):PE X (.Call (.Attribute o name apos) [] [] cpos) (tBM0 X.K T r to):=by
 intro pins s σ H Q I h
 refine wpAny_Call_method0_late hbase hline (thn (ho pins s σ H _ I h) fun v s1 ⟨x,H1,I1,r1,ty,q1⟩=>?_)
 obtain ⟨h1,h2⟩:=zmN I1 r1 ty
 exact ⟨T,id,pa,slot,hty,h1,h2,Calls.callWith_builtin rfl (PySem.evalArgs_none (hm pins s1 σ H1 x [] v [] Q I1 r1 .nil q1))⟩
theorem zqe (pa:PlainAttrs T) (slot:Slot T name id) (hty:typeOf (.builtin id)=pure (.type "method_descriptor")) (hm:MtR X id r) (ho:PE X o to) (ha:PA X (e::es) t)
  (hbase:attributeBase o name X.env (eval o X.env)=eval o X.env:=by rfl)
  (hfew:((backTo cpos (starEach (e::es) X.env)).all (fun x=>! x.1) && (backToKw cpos (keywordEach [] X.env)).all (fun x=>x.1.isSome)
   && decide ((e::es).length + ([]:List Keyword).length + (if ([]:List Keyword).isEmpty then 0 else 1) < 30))=true:=by rfl)
  (hline:(apos.endLine == cpos.line)=true:=by rfl) (hs:starEach (e::es) X.env=(false,eval e X.env)::starEach es X.env:=by rfl) (hplain:(backTo cpos (starEach es X.env)).any (·.1)=false:=by rfl) :
  PE X (.Call (.Attribute o name apos) (e::es) [] cpos) (tBM X.K T r to t):=by
 intro pins s σ H Q I h
 refine wpAny_Call_method_late hbase hfew hline rfl (thn (ho pins s σ H _ I h) fun v s1 ⟨x,H1,I1,r1,ty,q1⟩=>?_)
 obtain ⟨h1,h2⟩:=zmN I1 r1 ty
 refine ⟨T,id,pa,slot,hty,h1,h2,?_⟩
 have hA:=ha cpos pins s1 σ H1 _ I1 q1
 rw [hs] at hA ⊢
 refine Calls.callWith_builtin (by show (false || (backTo cpos (starEach es X.env)).any (·.1))=false; rw [hplain] <;> rfl) (Calls.evalArgs_plain ?_)
 exact thn hA fun us s2 ⟨vs,H2,I2,r2,q2⟩=>hm pins s2 σ H2 x vs v us Q I2 r1 r2 q2
end
end L2
namespace L2
open PySem PySem.Spec PyProof.Rows
def MtM (X:Cx) (id:String) (r:V→List V→Hp→VK→Prop):Prop:=
 ∀(pins:List (Addr × Obj)) (s:Shared) (σ:St) (H:Hp) (x:V) (xs:List V) (v:Value) (us:List Value) (Q:VK),Inv X pins σ H s→RelV x v→Vals xs us→r x xs H Q →
  wpAny (model X.prog X.w) X.A (call (.builtin id) (v::us)) (EP X pins σ Q) X.xe s
theorem Vals.one {x:V} {us:List Value} (h:Vals [x] us):∃u,us=[u]∧RelV x u:=by
 cases h with
 | cons r t=>cases t; exact ⟨_,rfl,r⟩
theorem Vals.zero:∀{us:List Value},Vals [] us→us=[]
 | _,.nil=>rfl
section
variable {X:Cx} {pins:List (Addr × Obj)} {σ:St} {H:Hp} {s:Shared} {l b:Addr} {xs ys zs:List V}
theorem Inv.lset {its its':List Value} {n:Nat} {f:Array Value→Array Value} {t':Nat} (I:Inv X pins σ H s) (hH:H l=some (.lst xs))
  (e:s.heap.get? l=some { cls:=.type "list",data:=.seq its.toArray n }) (hf:f its.toArray=its'.toArray) (hv:Vals ys its') (hz:ys.length≤sizeLine) :
  Inv X pins σ (upd H l (.lst ys)) { s with heap:=s.heap.update l (Obj.mapSeq f),toks:=t' }:=by
 have q:=PySem.IsL.update e f
 rw [hf] at q
 refine I.write (x:=l) (e:=l) (by rw [hH]; exact trivial) (.inl rfl) (fun b' u hb hu=>(Heap.get?_update_other s.heap (Obj.mapSeq f) (Ne.symm hb)).trans hu) ⟨_,q⟩ ?_
 exact ⟨hz,its',_,hv,q⟩
theorem Inv.lnew {its:List Value} {t':Nat} (I:Inv X pins σ H s) (hv:Vals ys its) (hz:ys.length≤sizeLine) :
  Inv X pins σ (upd H s.heap.objs.size (.lst ys)) { s with heap:=s.heap.push { cls:=.type "list",data:=.seq its.toArray },toks:=t' }:=
 I.laid (fun _ _ q=>Heap.get?_push_of_some _ q) (Nat.le_refl _) ⟨hz,its,0,hv,Heap.get?_push_size _ rfl⟩
theorem Inv.fresh (I:Inv X pins σ H s):H s.heap.objs.size=none:=I.hok.fresh (Nat.le_refl _)
theorem Inv.lstM (I:Inv X pins σ H s) (hH:H l=some (.lst xs)):xs.length≤sizeLine∧∃(its:List Value) (n:Nat),Vals xs its∧xs.length=its.length∧s.heap.get? l=some { cls:=.type "list",data:=.seq its.toArray n }:=by
 obtain ⟨z,its,n,r,e⟩:=I.hok l _ hH
 exact ⟨z,its,n,r,r.length,e⟩
end
section
variable {X:Cx}
def zjZ:V→List V→Hp→VK→Prop:=fun x vs H Q=>∃l xs y,x=.ref l∧vs=[y]∧H l=some (.lst xs)∧xs.length < sizeLine∧Q .non (upd H l (.lst (xs++[y])))
theorem zcF:MtM X "list.append" zjZ:=by
 intro pins s σ H x vs v us Q I rx rv h
 obtain ⟨l,xs,y,rfl,rfl,hH,hz,q⟩:=h
 cases rx
 obtain ⟨u,rfl,ru⟩:=rv.one
 obtain ⟨z,its,n,r,hl,e⟩:=I.lstM hH
 refine call_meets F.slot_list_append ⟨_,e,rfl⟩ F.entry_list_append (F.args_list_append_2 _ _) (PySem.list_append l its.toArray n u (by rw [List.size_toArray]; omega)) ⟨e,?_⟩
 refine ⟨.non,_,I.lset (its':=its++[u]) hH e (by simp) (r.append (.cons ru .nil)) ?_,rfl,q⟩
 rw [List.length_append,List.length_singleton]
 omega
end
section
variable {prog:Program} {w:World} {A:Around} {E:Value→Shared→Prop} {s:Shared}
end
section
variable {X:Cx}
end
end L2
namespace L2
open PySem PySem.Spec PyProof.Rows
section
variable {κ:Type} [DecidableEq κ]
def valV (kvs:List (κ × V)) (k:κ):Option V:=(kvs.find? fun kv=>decide (kv.1=k)).map (·.2)
def putK (kvs:List (κ × V)) (k:κ) (v:V):List (κ × V):=
 if (kvs.any fun kv=>decide (kv.1=k))=true then kvs.map (fun kv=>if kv.1=k then (kv.1,v) else kv) else kvs++[(k,v)]
theorem zeQ {p:κ × V} {r:List (κ × V)} {k:κ} (e:p.1=k):valV (p::r) k=some p.2:=by simp [valV,List.find?_cons,e]
theorem zdU {p:κ × V} {r:List (κ × V)} {k:κ} (e:¬ p.1=k):valV (p::r) k=valV r k:=by simp [valV,List.find?_cons,e]
theorem zh9 (k:κ):∀kvs:List (κ × V),(kvs.any fun kv=>decide (kv.1=k))=(valV kvs k).isSome
 | []=>rfl
 | p::r=>by
  rw [List.any_cons]
  by_cases e:p.1=k
  ·simp only [zeQ e,decide_eq_true e,Bool.true_or,Option.isSome_some]
  ·rw [zdU e,decide_eq_false e,Bool.false_or]; exact zh9 k r
theorem zfo (kvs:List (κ × V)) (k:κ) (v:V):(putK kvs k v).length≤kvs.length + 1:=by
 unfold putK
 split
 ·rw [List.length_map]; omega
 ·rw [List.length_append,List.length_cons,List.length_nil]; omega
theorem RelO.isSome_eq {o:Option V} {u:Option Value} (r:RelO o u):o.isSome=u.isSome:=by
 cases o with
 | none=>cases u with
  | none=>rfl
  | some _=>exact (show False from r).elim
 | some _=>cases u with
  | none=>exact (show False from r).elim
  | some _=>rfl
theorem RelO.getD {o:Option V} {u:Option Value} {d:V} {d':Value} (r:RelO o u) (rd:RelV d d'):RelV (o.getD d) (u.getD d'):=by
 cases o with
 | none=>cases u with
  | none=>exact rd
  | some _=>exact (show False from r).elim
 | some _=>cases u with
  | none=>exact (show False from r).elim
  | some _=>exact r
theorem KV.val {kvs:List (κ × V)} {vs:List (κ × Value)} (r:KV kvs vs) (k:κ):RelO (valV kvs k) (valueAt vs k):=by
 unfold KV at r
 induction r with
 | nil=>exact True.intro
 | @cons p q ps qs h t ih=>
  obtain ⟨h1,h2⟩:=h
  by_cases e:p.1=k
  ·have e':q.1=k:=h1.symm.trans e
   have b:valueAt (q::qs) k=some q.2:=by simp [valueAt,List.find?_cons,e']
   rw [zeQ e,b]; exact h2
  ·have e':¬ q.1=k:=fun z=>e (h1.trans z)
   have b:valueAt (q::qs) k=valueAt qs k:=by simp [valueAt,List.find?_cons,e']
   rw [zdU e,b]; exact ih
theorem KV.any {kvs:List (κ × V)} {vs:List (κ × Value)} (r:KV kvs vs) (k:κ):(kvs.any fun kv=>decide (kv.1=k))=vs.any fun kv=>decide (kv.1=k):=by
 unfold KV at r
 induction r with
 | nil=>rfl
 | cons h t ih=>rw [List.any_cons,List.any_cons,ih,h.1]
theorem KV.repl {kvs:List (κ × V)} {vs:List (κ × Value)} (r:KV kvs vs) (k:κ) {y:V} {u:Value} (ry:RelV y u) :
  KV (kvs.map fun kv=>if kv.1=k then (kv.1,y) else kv) (vs.map fun kv=>if kv.1=k then (kv.1,u) else kv):=by
 unfold KV at r ⊢
 induction r with
 | nil=>exact .nil
 | @cons p q ps qs h t ih=>
  rw [List.map_cons,List.map_cons]
  refine .cons ?_ ih
  obtain ⟨h1,h2⟩:=h
  by_cases e:p.1=k
  ·rw [if_pos e,if_pos (h1.symm.trans e)]; exact ⟨h1,ry⟩
  ·rw [if_neg e,if_neg (fun z=>e (h1.trans z))]; exact ⟨h1,h2⟩
theorem KV.put {kvs:List (κ × V)} {vs:List (κ × Value)} (r:KV kvs vs) (k:κ) {y:V} {u:Value} (ry:RelV y u):KV (putK kvs k y) (stored vs k u):=by
 unfold putK stored
 rw [r.any k]
 by_cases e:(vs.any fun kv=>decide (kv.1=k))=true
 ·rw [if_pos e,if_pos e]; exact r.repl k ry
 ·rw [if_neg e,if_neg e]; exact Paired.snoc r ⟨rfl,ry⟩
theorem KV.length {kvs:List (κ × V)} {vs:List (κ × Value)} (r:KV kvs vs):kvs.length=vs.length:=Paired.length r
end
theorem zkB {P:Program} {w:World} {k:Key} {u:Value} (r:RelV (kV k) u):(zbp P w).is k u=true:=by
 cases k with
 | inl i=>obtain ⟨t,e⟩:=(show ∃t,u=Value.int i t from r); subst e; exact zhR P w i t
 | inr x=>obtain ⟨t,e⟩:=(show ∃t,u=Value.str x t from r); subst e; exact zhQ P w x t
theorem zhc {P:Program} {w:World}:∀{ks:List Key} {us:List Value},Vals (ks.map kV) us→ItemsAre (zbp P w) ks us
 | [],_,r=>by rw [List.map_nil] at r; cases r; exact .nil
 | k::ks,_,r=>by
  rw [List.map_cons] at r
  cases r with
  | cons h t=>exact .cons (zkB h) (zhc t)
abbrev KT (H:Hp):List (List Key × V)→List (List Key × Addr × Value)→Prop:=Paired fun p q=>p.1=q.1∧H q.2.1=some (.tup (p.1.map kV))∧RelV p.2 q.2.2
theorem KT.val {H:Hp} {kvs:List (List Key × V)} {xs:List (List Key × Addr × Value)} (r:KT H kvs xs) (k:List Key):RelO (valV kvs k) ((atKey xs k).map (·.2)):=by
 induction r with
 | nil=>exact True.intro
 | @cons p q ps qs h t ih=>
  obtain ⟨h1,_,h2⟩:=h
  by_cases e:p.1=k
  ·have e':q.1=k:=h1.symm.trans e
   have b:atKey (q::qs) k=some q.2:=by simp [atKey,List.find?_cons,e']
   rw [zeQ e,b]; exact h2
  ·have e':¬ q.1=k:=fun z=>e (h1.trans z)
   have b:atKey (q::qs) k=atKey qs k:=by simp [atKey,List.find?_cons,e']
   rw [zdU e,b]; exact ih
theorem KT.repl {H:Hp} {kvs:List (List Key × V)} {xs:List (List Key × Addr × Value)} (r:KT H kvs xs) (k:List Key) {y:V} {u:Value} (ry:RelV y u) :
  KT H (kvs.map fun kv=>if kv.1=k then (kv.1,y) else kv) (xs.map (putAt k u)):=by
 induction r with
 | nil=>exact .nil
 | @cons p q ps qs h t ih=>
  rw [List.map_cons,List.map_cons]
  refine .cons ?_ ih
  obtain ⟨h1,h2,h3⟩:=h
  unfold putAt
  by_cases e:p.1=k
  ·rw [if_pos e,if_pos (h1.symm.trans e)]; exact ⟨h1,h2,ry⟩
  ·rw [if_neg e,if_neg (fun z=>e (h1.trans z))]; exact ⟨h1,h2,h3⟩
theorem KT.put {H:Hp} {kvs:List (List Key × V)} {xs:List (List Key × Addr × Value)} (r:KT H kvs xs) (k:List Key) {b:Addr} {y:V} {u:Value} (hb:H b=some (.tup (k.map kV))) (ry:RelV y u) :
  KT H (putK kvs k y) (storedH xs k b u):=by
 have e:(kvs.any fun kv=>decide (kv.1=k))=(atKey xs k).isSome:=by
  rw [zh9,(r.val k).isSome_eq,Option.isSome_map]
 unfold putK storedH
 rw [e]
 by_cases q:(atKey xs k).isSome=true
 ·rw [if_pos q,if_pos q]; exact r.repl k ry
 ·rw [if_neg q,if_neg q]; exact Paired.snoc r ⟨rfl,hb,ry⟩
theorem KT.keeps {H H':Hp} {kvs:List (List Key × V)} {xs:List (List Key × Addr × Value)} (r:KT H kvs xs) (ht:∀b ys,H b=some (.tup ys)→H' b=some (.tup ys)):KT H' kvs xs:=
 Paired.mapP r fun _ _ z=>⟨z.1,ht _ _ z.2.1,z.2.2⟩
section
variable {P:Program} {w:World} {H:Hp} {h:Heap} {a:Addr}
theorem zpN {u:HO} (ok:HOk P w H h) (e:Rd H a u):za6 P w H h a u:=e.ok ok
theorem zjr {kvs:List (Key × V)} (ok:HOk P w H h) (e:Rd H a (.dK kvs)):kvs.length≤sizeLine∧(a == sysModules)=false∧∃vs,KV kvs vs∧h.DictOf (zbp P w) a vs:=
 show za6 P w H h a (.dK kvs) from zpN ok e
theorem zse {kvs:List (Key × V)} (ok:HOk P w H h) (e:H a=some (.dK kvs)):kvs.length≤sizeLine∧(a == sysModules)=false∧∃vs,KV kvs vs∧h.DictOf (zbp P w) a vs:=zjr ok (.inl e)
theorem zha {ks:List Key} (ok:HOk P w H h) (e:H a=some (.tup (ks.map kV))):(tupleKind (zbp P w)).is h ks a:=by
 obtain ⟨_,its,r,⟨o,h1,h2,n,h3⟩,_⟩:=(show za6 P w H h a (.tup (ks.map kV)) from ok a _ e)
 exact ⟨o,its.toArray,n,h1,h2,h3,by simpa using zhc r⟩
theorem zkP {kvs:List (List Key × V)} (ok:HOk P w H h) (e:Rd H a (.dT kvs)):kvs.length≤sizeLine∧(a == sysModules)=false ∧
  ∃xs,KT H kvs xs∧h.DictOfH (tupleKind (zbp P w)) a xs:=by
 obtain ⟨z,y,xs,r,o,es,ep,h1,h2,h3,h4,h5⟩:=(show za6 P w H h a (.dT kvs) from zpN ok e)
 refine ⟨z,y,xs,r,o,es,ep,h1,h2,h3,h4,fun x hx=>?_,h5⟩
 have all:∀{l:List (List Key × V)} {m:List (List Key × Addr × Value)},KT H l m→∀x∈m,(tupleKind (zbp P w)).is h x.1 x.2.1:=by
  intro l m q
  induction q with
  | nil=>intro x hx; exact nomatch hx
  | @cons p q ps qs hq t ih=>
   intro x hx
   rcases List.mem_cons.mp hx with e | hx
   ·subst e
    exact zha ok (by rw [←hq.1]; exact hq.2.1)
   ·exact ih x hx
 exact all r x hx
theorem zsd {kvs:List (List Key × V)} (ok:HOk P w H h) (e:H a=some (.dT kvs)):kvs.length≤sizeLine∧(a == sysModules)=false ∧
  ∃xs,KT H kvs xs∧h.DictOfH (tupleKind (zbp P w)) a xs:=zkP ok (.inl e)
end
def DGet (H:Hp) (a:Addr) (y:V) (r:Option V):Prop:=
 (∃kvs k,Rd H a (.dK kvs)∧y=kV k∧r=valV kvs k)∨∃kvs k b,Rd H a (.dT kvs)∧y=.ref b∧H b=some (.tup (k.map kV))∧r=valV kvs k
def DPut (H:Hp) (a:Addr) (y v:V) (H':Hp):Prop:=
 (∃kvs k,H a=some (.dK kvs)∧y=kV k∧kvs.length < sizeLine∧H'=upd H a (.dK (putK kvs k v))) ∨
 ∃kvs k b,H a=some (.dT kvs)∧y=.ref b∧H b=some (.tup (k.map kV))∧kvs.length < sizeLine∧H'=upd H a (.dT (putK kvs k v))
theorem DGet.k {H:Hp} {a:Addr} {kvs:List (Key × V)} {k:Key} (e:H a=some (.dK kvs)):DGet H a (kV k) (valV kvs k):=.inl ⟨kvs,k,.inl e,rfl,rfl⟩
theorem DGet.t {H:Hp} {a b:Addr} {kvs:List (List Key × V)} {k:List Key} (e:H a=some (.dT kvs)) (eb:H b=some (.tup (k.map kV))):DGet H a (.ref b) (valV kvs k):=.inr ⟨kvs,k,b,.inl e,rfl,eb,rfl⟩
theorem DPut.k {H:Hp} {a:Addr} {kvs:List (Key × V)} {k:Key} {v:V} (e:H a=some (.dK kvs)) (hl:kvs.length < sizeLine):DPut H a (kV k) v (upd H a (.dK (putK kvs k v))):=.inl ⟨kvs,k,e,rfl,hl,rfl⟩
theorem DPut.t {H:Hp} {a b:Addr} {kvs:List (List Key × V)} {k:List Key} {v:V} (e:H a=some (.dT kvs)) (eb:H b=some (.tup (k.map kV))) (hl:kvs.length < sizeLine) :
  DPut H a (.ref b) v (upd H a (.dT (putK kvs k v))):=.inr ⟨kvs,k,b,e,rfl,eb,hl,rfl⟩
section
variable {X:Cx} {pins:List (Addr × Obj)} {σ:St} {H:Hp} {s:Shared} {a:Addr} {y v:V} {u r:Value} {o:Option V} {A:Around} {E:Value→Shared→Prop}
theorem Inv.big (I:Inv X pins σ H s):sysModules < s.heap.objs.size:=by
 have h:mainGlobals < s.heap.objs.size:=(I.mod.glob.keeps I.bk).lt
 exact Nat.lt_trans (by decide) h
theorem zkU {Q:Value→Shared→Prop} (hu:A.units + 1 < cLine) (I:Inv X pins σ H s) (g:DGet H a y (some v)) (ry:RelV y u) (h:∀w' s',Inv X pins σ H s'→RelV v w'→Q w' s') :
  wpAny (model X.prog X.w) A (getItem (.ref a) u) Q E s:=by
 rcases g with ⟨kvs,k,e,ey,l⟩ | ⟨kvs,k,b,e,ey,eb,l⟩
 ·subst ey
  obtain ⟨z,hd,vs,rel,dd⟩:=zjr I.hok e
  obtain ⟨w',hw,rw'⟩:=RelO.some_of (v:=v) (o:=valueAt vs k) (by rw [l]; exact rel.val k)
  exact wpAny_getItem_of (zkB ry) dd.mapOf hw (h w' _ (I.tok _) rw')
 ·subst ey
  cases (show u=Value.ref b from ry)
  obtain ⟨z,hd,xs,rel,dd⟩:=zkP I.hok e
  obtain ⟨w',hw,rw'⟩:=RelO.some_of (v:=v) (o:=(atKey xs k).map (·.2)) (by rw [l]; exact rel.val k)
  obtain ⟨p,hp,hp2⟩:=Option.map_eq_some_iff.mp hw
  refine wpAny_getItem_heap (tupleKind_room_in1 hu) (zha I.hok eb) dd hp ?_
  rw [hp2]
  exact h w' _ (I.tok _) rw'
theorem d_in {Q:Value→Shared→Prop} (hu:A.units + 1 < cLine) (I:Inv X pins σ H s) (g:DGet H a y o) (ry:RelV y u) (h:∀s',Inv X pins σ H s'→Q (.bool o.isSome) s') :
  wpAny (model X.prog X.w) A (compareOp .In u (.ref a)) Q E s:=by
 rcases g with ⟨kvs,k,e,ey,l⟩ | ⟨kvs,k,b,e,ey,eb,l⟩
 ·subst ey
  obtain ⟨z,hd,vs,rel,dd⟩:=zjr I.hok e
  refine wpAny_in_of (zkB ry) hd dd.mapOf ?_
  rw [←(rel.val k).isSome_eq,←l]
  exact h _ (I.tok _)
 ·subst ey
  cases (show u=Value.ref b from ry)
  obtain ⟨z,hd,xs,rel,dd⟩:=zkP I.hok e
  refine wpAny_in_heap (tupleKind_room_in1 hu) (zha I.hok eb) hd dd ?_
  have q:=(rel.val k).isSome_eq
  rw [Option.isSome_map] at q
  rw [←q,←l]
  exact h _ (I.tok _)
theorem zoP {Q:Value→Shared→Prop} (hu:A.units + 1 < cLine) (I:Inv X pins σ H s) (g:DGet H a y o) (ry:RelV y u) (h:∀s',Inv X pins σ H s'→Q (.bool (! o.isSome)) s') :
  wpAny (model X.prog X.w) A (compareOp .NotIn u (.ref a)) Q E s:=by
 rcases g with ⟨kvs,k,e,ey,l⟩ | ⟨kvs,k,b,e,ey,eb,l⟩
 ·subst ey
  obtain ⟨z,hd,vs,rel,dd⟩:=zjr I.hok e
  refine wpAny_notIn_of (zkB ry) hd dd.mapOf ?_
  rw [←(rel.val k).isSome_eq,←l]
  exact h _ (I.tok _)
 ·subst ey
  cases (show u=Value.ref b from ry)
  obtain ⟨z,hd,xs,rel,dd⟩:=zkP I.hok e
  refine wpAny_notIn_heap (tupleKind_room_in1 hu) (zha I.hok eb) hd dd ?_
  have q:=(rel.val k).isSome_eq
  rw [Option.isSome_map] at q
  rw [←q,←l]
  exact h _ (I.tok _)
theorem zkS {h':Heap} {t':Nat} {ob:HO} (I:Inv X pins σ H s) (mu:Mut (H a)) (hs:Heap.SameBut a s.heap h') (he:∃q,h'.get? a=some q) (new:za6 X.prog X.w (upd H a ob) h' a ob) :
  Inv X pins σ (upd H a ob) { s with heap:=h',toks:=t' }:=
 I.write (x:=a) (e:=a) mu (.inl rfl) (fun b q hb z=>(hs.2 b hb).trans z) he new
theorem zrf {P:Program} {w:World} {H':Hp} {h':Heap} {kvs:List (Key × V)} {vs:List (Key × Value)} (z:kvs.length≤sizeLine) (hd:(a == sysModules)=false) (rel:KV kvs vs) (dd:h'.DictOf (zbp P w) a vs) :
  za6 P w H' h' a (.dK kvs):=⟨z,hd,vs,rel,dd⟩
theorem zkT {H':Hp} {Q:Unit→Shared→Prop} (hu:A.units + 1 < cLine) (I:Inv X pins σ H s) (g:DPut H a y v H') (ry:RelV y u) (rv:RelV v r) (h:∀s',Inv X pins σ H' s'→Q () s') :
  wpAny (model X.prog X.w) A (setItem (.ref a) u r) Q E s:=by
 rcases g with ⟨kvs,k,e,ey,l,eH⟩ | ⟨kvs,k,b,e,ey,eb,l,eH⟩
 ·subst ey eH
  obtain ⟨z,hd,vs,rel,dd⟩:=zse I.hok e
  have hz:vs.length≤sizeLine:=by rw [←rel.length]; exact z
  have hl:(putK kvs k v).length≤sizeLine:=by have:=zfo kvs k v; omega
  refine wpAny_setItem_pairs (hsz:=hz) (zkB ry) dd fun h' dd' hs=>h _ ?_
  have he:∃q,h'.get? a=some q:=let ⟨q,_,_,hq,_⟩:=dd'; ⟨q,hq⟩
  exact zkS I (by rw [e]; exact True.intro) hs he (zrf hl hd (rel.put k rv) dd')
 ·subst ey eH
  cases (show u=Value.ref b from ry)
  obtain ⟨z,hd,xs,rel,dd⟩:=zsd I.hok e
  have hz:xs.length≤sizeLine:=by rw [←Paired.length rel]; exact z
  have hl:(putK kvs k v).length≤sizeLine:=by have:=zfo kvs k v; omega
  refine wpAny_setItem_heap (hsz:=hz) (tupleKind_room_in1 hu) (zha I.hok eb) dd fun h' dd' hs=>h _ ?_
  obtain ⟨q,es,ep,hq,h2,h3,h4,_,h5⟩:=dd'
  refine zkS I (by rw [e]; exact True.intro) hs ⟨q,hq⟩ ⟨hl,hd,_,(rel.put k eb rv).keeps fun c ys ec=>?_,q,es,ep,hq,h2,h3,h4,h5⟩
  rw [zal (zrW ec e (fun z=>nomatch z))]
  exact ec
end
section
variable {X:Cx} {pins:List (Addr × Obj)} {σ:St} {H:Hp} {s:Shared} {a:Addr} {kvs:List (Key × V)} {k:Key} {u:Value} {A:Around} {E:Value→Shared→Prop}
theorem zsg {Q:Value→Shared→Prop} (I:Inv X pins σ H s) (e:Rd H a (.dK kvs)) (h:∀t s',Inv X pins σ H s'→Q (.int kvs.length t) s'):wpAny (model X.prog X.w) A (call (.builtin "len") [.ref a]) Q E s:=by
 obtain ⟨z,hd,vs,rel,dd⟩:=zjr I.hok e
 refine call_len_dict hd dd (by rw [←rel.length]; rw [sizeLine_eq] at z; omega) ?_
 rw [←rel.length]
 exact h _ _ (I.tok _)
end
theorem zh1 {X:Cx} {pins:List (Addr × Obj)} {σ:St} {H:Hp} {s:Shared} {a:Addr} {y:V} {o:Option V} (I:Inv X pins σ H s) (g:DGet H a y o):s.TypeIs (.ref a) "dict" := by
 rcases g with ⟨kvs,k,e,_,_⟩ | ⟨kvs,k,b,e,_,_,_⟩
 ·obtain ⟨_,_,vs,_,dd⟩:=zjr I.hok e
  exact dd.typeIs
 ·obtain ⟨_,_,xs,_,dd⟩:=zkP I.hok e
  exact dd.typeIs
section
variable {X:Cx} {o i e value:Expr} {pos pos' tpos:Pos} {td ty tv:TE}
end
theorem zmv {P:Program} {w:World} {H:Hp} (h:Heap) (hb:sysModules < h.objs.size):za6 P w H (h.push { cls:=.type "dict",data:=.dict #[] }) h.objs.size (.dK []):=
 ⟨Nat.zero_le _,beq_eq_false_iff_ne.mpr (Ne.symm (Nat.ne_of_lt hb)),[],.nil,Heap.DictOf.new h⟩
def zpo:TE:=fun _ H Q=>∀p,H p=none→Q (.ref p) (upd H p (.dK []))
section
variable {X:Cx} {pos:Pos}
theorem zlY:PE X (.Dict [] [] pos) zpo:=fun pins s σ H Q I h=>
 wpAny_Dict_empty ⟨.ref s.heap.objs.size,_,I.laid (a:=s.heap.objs.size) (o:=.dK []) (t':=s.toks) (fun _ _ q=>Heap.get?_push_of_some _ q) (Nat.le_refl _) (zmv s.heap I.big),rfl,h _ (I.hok.fresh (Nat.le_refl _))⟩
end
structure M1 (X:Cx) (o:Expr) (m:Str) (apos:Pos) (e:Expr) (cpos:Pos):Prop where
 base:attributeBase o m X.env (eval o X.env)=eval o X.env
 few:((backTo cpos (starEach [e] X.env)).all (fun x=>! x.1) && (backToKw cpos (keywordEach [] X.env)).all (fun x=>x.1.isSome)
  && decide (([e]:List Expr).length + ([]:List Keyword).length + (if ([]:List Keyword).isEmpty then 0 else 1) < 30))=true
 line:(apos.endLine == cpos.line)=true
 trees:backTo cpos (starEach [e] X.env)=[(false,eval e X.env)]
structure M2 (X:Cx) (o:Expr) (m:Str) (apos:Pos) (e f:Expr) (cpos:Pos):Prop where
 base:attributeBase o m X.env (eval o X.env)=eval o X.env
 few:((backTo cpos (starEach [e,f] X.env)).all (fun x=>! x.1) && (backToKw cpos (keywordEach [] X.env)).all (fun x=>x.1.isSome)
  && decide (([e,f]:List Expr).length + ([]:List Keyword).length + (if ([]:List Keyword).isEmpty then 0 else 1) < 30))=true
 line:(apos.endLine == cpos.line)=true
 trees:backTo cpos (starEach [e,f] X.env)=[(false,eval e X.env),(false,eval f X.env)]
section
variable {X:Cx} {pins:List (Addr × Obj)} {σ:St} {H:Hp} {s:Shared} {a:Addr} {y d:V} {u r:Value} {o:Option V} {A:Around} {E:Value→Shared→Prop}
end
section
variable {X:Cx} {o e f:Expr} {apos cpos:Pos} {td ty tx:TE}
end
section
variable {X:Cx} {pins:List (Addr × Obj)} {σ:St} {H:Hp} {s:Shared} {a:Addr} {kvs:List (Key × V)} {A:Around} {E:Value→Shared→Prop}
end
section
variable {X:Cx} {pins:List (Addr × Obj)} {σ:St} {H:Hp} {s:Shared} {a:Addr} {y:V} {u:Value} {A:Around} {E:Value→Shared→Prop}
end
end L2
namespace Att
open PySem PySem.W PySem.Calls PyProof.Rows
theorem zfr {P:Params} {h:Heap}:∀(ns:List Int) (vs:List Value),WellAll P h vs (ns.map WData.int)→IntsAre vs ns:=by
 intro ns
 induction ns with
 | nil=>
  intro vs w
  rw [List.map_nil] at w
  cases w
  exact .nil
 | cons n ns ih=>
  intro vs w
  rw [List.map_cons] at w
  cases w with
  | cons a b=>
   cases a
   exact .cons _ _ (ih _ b)
theorem zjK {l:OpenLaw} {n:Nat} (hn:l.most=some n) {P:Params} {h:Heap} {args:List WData} {vals:List Value}
  (hpre:l.row.toRowW.claim.pre args=true) (hwl:WellAll P h vals args) :
  ∃a vs ns,vals=[Value.ref a]∧args=[WData.list (ns.map WData.int)]∧h.get? a=some { cls:=.type "list",data:=.seq vs.toArray }∧IntsAre vs ns∧ns.length≤n:=by
 have hsh:WShape.hasAll [] args [.list .int]=true:=(pre_splitW hpre).1
 have hc:l.pre.holds [] { args:=args }=true:=(pre_splitW hpre).2
 obtain ⟨d,r,rfl,h1,h2⟩:=hasAllW_cons hsh
 obtain rfl:=hasAllW_nil h2
 obtain ⟨xs,rfl,h3⟩:=hasW_list h1
 obtain ⟨ns,rfl⟩:=items_int h3
 have hlen:ns.length≤n:=by
  unfold OpenLaw.pre at hc
  have h4:(WTm.not (.lt (.lit (.int (n:Int))) (.len (.arg 0)))).holds [] { args:=[.list (ns.map .int)] }=true:=by
   have h4:=(holds_andW hc).1
   rw [hn] at h4
   exact h4
  have h5:=condW_of h4 (w_not (w_lt w_lit (w_len_list (w_arg rfl))))
  rw [List.length_map] at h5
  refine Nat.le_of_not_lt fun q=>?_
  have q':(n:Int) < ((ns.length:Nat):Int):=by omega
  first
   | (rw [decide_eq_true q'] at h5; exact absurd h5 (by decide))
   | (simp at h5; omega)
 cases hwl with
 | cons w1 w2=>
  cases w2
  cases w1 with
  | list ho hall=>exact ⟨_,_,ns,rfl,rfl,ho,zfr ns _ hall,hlen⟩
theorem zj3 (l:OpenLaw) (args:List WData):l.row.toRowW.claim.post args (.bool true) args=true:=
 postW_of (r:=l.row.toRowW) (X:=(true == true))
  (show WShape.has [] (.bool true) .bool=true by first | rfl | decide | simp [WShape.has,WShape.arms,WShape.armsAll])
  (show (WTm.eq .res (.lit (.bool true))).value [] { args:=args,res:=some (.bool true),after:=args }=some (.bool (true == true)) from w_eq_bool (w_res rfl) w_lit) rfl
theorem attach_call {l:OpenLaw} {n:Nat} {q:Program} {loose:List Str} {XP:(Str→Option Value)→Heap→Prop} {YP:World→Heap→Prop} {d:DefRec}
  (hn:l.most=some n) (hdf:d.params.defaults=[])
  (call:∀(w:World) (s₀ s₁:Shared) (mg mb:Str→Option Value) (fa:Addr) (o:Obj) (pm cd doc:Value) (a:Addr) (vs:List Value) (ns:List Int),
   Ground q loose [] XP w s₀ mg mb s₁.heap→YP w s₁.heap →
   s₁.heap.get? fa=some o→o.data=.func (docDef d.name d.params d.body d.scope pm cd doc)→s₁.heap.CodeRec cd d.name→mg d.name=some (.ref fa) →
   s₁.heap.get? a=some { cls:=.type "list",data:=.seq vs.toArray }→IntsAre vs ns→ns.length≤n→s₁.gens = #[] →
   codeAny (model l.prog w) callerA (.call (.ref fa) ⟨[.ref a],[]⟩) (fun r s'=>r=.ok (.ret (.bool true))∧OldK s₁.heap s'.heap∧s'.os=s₁.os∧AllBare s'.gens) s₁) :
  WalkO q loose XP YP l.row.toRowW d [] (fun f vs=>PySem.call f vs):=by
 intro w s₀ s₁ mg mb G Y fa o pm cd doc dV kV ho hd hcd hD hmg hg args vals as hpre hlay hrd hwl hlo
 obtain rfl:dV=.none:=Dflts.none hD hdf
 obtain rfl:kV=.none:=Dflts.noKw hD
 obtain ⟨a,vs,ns,rfl,rfl,hobj,hints,hlen⟩:=zjK hn hpre hwl
 refine enter_call (codeAny_mono (call w s₀ s₁ mg mb fa o pm cd doc a vs ns G Y ho (fd_plain hd) hcd hmg hobj hints hlen hg) fun r s' hq=>?_)
 obtain ⟨rfl,h2,h3,h4⟩:=hq
 exact ⟨.inl ⟨.bool true,.bool true,[],rfl,fun _=>rfl,.bool true,zj3 l _,fun _=>⟨List.Pairwise.nil,fun _ hm=>(nomatch hm)⟩⟩,h2,h3,h4⟩
section
variable {prog:Program} {w:World} {A:Around} {E:Value→Shared→Prop} {s:Shared} {K:Frag}
end
end Att
namespace L2
open PySem PySem.Spec PyProof.Rows
theorem zgH:∀{vs:List Value} {ns:List Int},IntsAre vs ns→Vals (ns.map V.int) vs
 | _,_,.nil=>.nil
 | _,_,.cons n t h=>.cons ⟨t,rfl⟩ (zgH h)
def Only (H:Hp):Prop:=∀b,H b=none∨∃o xs,H b=some (.frz o (.lst xs))
theorem zme {P:Program} {w:World} {K:PySem.W.Frag} {mg mb:Str→Option Value} {CX:CXT} {k:Nat} {fa a:Addr} {fd:FuncData} {x:Str} {sp:Sp} {s₁:Shared} {vs:List Value} {ns:List Int}
  (KX:K.In s₁.heap) (hns:s₁.heap.Ns mainGlobals mg) (hb:s₁.heap.Ns builtinsNs mb) (hbb:∀x:Str,x≠"__name__"→mb x=bootBuiltins x) (hlim:s₁.heap.NoLimit) (hg:s₁.gens = #[])
  (ha:s₁.heap.get? a=some { cls:=.type "list",data:=.seq vs.toArray }) (hi:IntsAre vs ns) (hl:ns.length≤sizeLine) (hr:Room k callerA)
  (F:∀base:Heap,K.In base→base.Ns mainGlobals mg→FnOk P w K mg base CX k fa fd [x] sp) (hbind:∀(s:Shared) (u:Value),BindsTo s fd ⟨[u],[]⟩ [(x,u)])
  (hsp:∀H:Hp,Only H→SqL K H a (ns.map V.int)→sp [.ref a] H (fun v _=>v=.bl true) fun _ _ _=>False)
  (hCX:∀H e s',CX [] H s₁ (fun _ _ _=>False) e s'→False) :
  codeAny (model P w) callerA (.call (.ref fa) ⟨[.ref a],[]⟩) (fun r s'=>r=.ok (.ret (.bool true))∧OldK s₁.heap s'.heap∧s'.os=s₁.os∧AllBare s'.gens) s₁:=by
 have rv:=zgH hi
 have lenV:=hi.length
 have core:∀H:Hp,Only H→SqL K H a (ns.map V.int)→HOk P w H s₁.heap→(∀b,H b≠none→b=a)→(H a≠none→K.lookup a=none) →
   codeAny (model P w) callerA (.call (.ref fa) ⟨[.ref a],[]⟩) (fun r s'=>r=.ok (.ret (.bool true))∧OldK s₁.heap s'.heap∧s'.os=s₁.os∧AllBare s'.gens) s₁:=by
  intro H hO hS hok hA hK
  have base_of:∀{b:Addr} {o:Obj},s₁.heap.get? b=some o→H b=none→(hidT s₁.heap H).get? b=some o:=fun e n=>zmk e n
  have noA:∀{b:Addr} {o:Obj} {es:Array DictEntry} {ep:Nat},s₁.heap.get? b=some o→o.data=.dict es ep→H b=none:=fun {b o es ep} e d=>by
   cases q:H b with
   | none=>rfl
   | some u=>
    have e':b=a:=hA b (by rw [q]; simp)
    subst e'
    rw [ha] at e; cases e
    have d':Data.seq vs.toArray _=Data.dict es ep:=d
    cases d'
  have nsK:∀{b:Addr} {m:Str→Option Value},s₁.heap.Ns b m→(hidT s₁.heap H).Ns b m:=fun {b m} ⟨o,es,ep,e,d,r⟩=>⟨o,es,ep,base_of e (noA e d),d,r⟩
  have hKb:K.In (hidT s₁.heap H):=fun b o e=>base_of (KX b o e) (by
   cases q:H b with
   | none=>rfl
   | some u=>
    have e':b=a:=hA b (by rw [q]; simp)
    subst e'
    rw [hK (by rw [q]; simp)] at e; cases e)
  have hM:Mod K mg (hidT s₁.heap H):=⟨hKb,nsK hns,⟨mb,nsK hb,hbb⟩,let ⟨mc,h1,h2⟩:=hlim; ⟨mc,nsK h1,h2⟩⟩
  have e0:Env0 P w K mg (hidT s₁.heap H) callerA [] s₁ H:=⟨rfl,hM,fun b o e=>zop e,Nat.le_of_eq (zkK _ _),trivial,fun b hb=>absurd (show b∈([]:List Addr) from hb) (by simp),hok,.of_eq hg⟩
  refine codeAny_mono ((F _ hKb (nsK hns)).run callerA [] s₁ H ⟨[.ref a],[]⟩ [.ref a] [.ref a] _ _ hr e0 (hbind s₁ (.ref a)) (.cons rfl .nil) (hsp H hO hS)) fun r s' h=>?_
  cases r with
  | error e=>exact (hCX H e s' h).elim
  | ok fl=>
   cases fl with
   | next=>exact False.elim h
   | brk=>exact False.elim h
   | cont=>exact False.elim h
   | ret u=>
    obtain ⟨v,H',os,bare,un,hok',r',q⟩:=h
    have q':v=.bl true:=q
    subst q'
    obtain rfl:u=Value.bool true:=r'
    refine ⟨rfl,OldK.of_keep fun b o e=>?_,os,bare⟩
    cases q:H b with
    | none=>exact un.keep b o e q (by intro z; exact absurd (show b∈([]:List Addr) from z) (by simp)) (by simp)
    | some u=>
     rcases hO b with z | ⟨ob,xs,z⟩
     ·rw [q] at z; cases z
     ·have z2:=un.frzs b ob _ z
      obtain ⟨e1,_⟩:=hok b _ z
      obtain ⟨e2,_⟩:=hok' b _ z2
      rw [e] at e1; cases e1
      exact e2
 cases hk:K.lookup a with
 | some o=>
  have e:=KX a o hk
  rw [ha] at e
  cases e
  refine core (fun _=>none) (fun _=>.inl rfl) (.inr ⟨_,vs.toArray,_,hk,rfl,rfl,rfl,by rw [List.size_toArray,lenV]; exact hl,by simpa using rv⟩) (fun b u z=>by have z':(none:Option HO)=some u:=z; cases z') (fun b z=>absurd rfl z) fun z=>absurd rfl z
 | none=>
  refine core (fun b=>if b=a then some (.frz { cls:=.type "list",data:=.seq vs.toArray } (.lst (ns.map V.int))) else none) (fun b=>?_) (.inl (.inr ⟨{ cls:=.type "list",data:=.seq vs.toArray },if_pos rfl⟩)) (fun b u z=>?_) (fun b z=>?_) fun _=>hk
  ·by_cases hb:b=a
   ·exact .inr ⟨_,_,if_pos hb⟩
   ·exact .inl (if_neg hb)
  ·by_cases hb:b=a
   ·have z':=(if_pos hb).symm.trans z
    cases z'
    subst hb
    exact ⟨ha,by rw [List.length_map]; exact hl,vs,_,rv,ha⟩
   ·have z':=(if_neg hb).symm.trans z
    cases z'
  ·by_cases hb:b=a
   ·exact hb
   ·exact absurd (if_neg hb) z
end L2
namespace L2
open PySem PySem.Spec PyProof.Rows
abbrev KOf {K:PySem.W.Frag} {h:Heap} (_:K.In h):PySem.W.Frag:=K
theorem walk_of {l:PySem.W.OpenLaw} {n k:Nat} {q:Program} {loose:List Str} {XP:(Str→Option Value)→Heap→Prop} {YP:World→Heap→Prop} {d:DefRec} {K:Params→PySem.W.Frag} {CX:World→CXT} {sp:World→Sp} {x:Str}
  (hn:l.most=some n) (hn2:n≤sizeLine) (hdf:d.params.defaults=[]) (hr:Room k callerA)
  (hY:∀(w:World) (h:Heap),YP w h→(K w.params).In h)
  (F:∀(w:World) (mg:Str→Option Value) (fa:Addr) (h:Heap),(K w.params).In h→h.Ns mainGlobals mg→mg d.name=some (.ref fa) →
   ∃fd:FuncData,(∀(s:Shared) (u:Value),BindsTo s fd ⟨[u],[]⟩ [(x,u)]) ∧
    ∀base:Heap,(K w.params).In base→base.Ns mainGlobals mg→FnOk l.prog w (K w.params) mg base (CX w) k fa fd [x] (sp w))
  (hsp:∀(w:World) (H:Hp) (a:Addr) (ns:List Int),ns.length≤n→Only H→SqL (K w.params) H a (ns.map V.int)→sp w [.ref a] H (fun v _=>v=.bl true) fun _ _ _=>False)
  (hCX:∀(w:World) (H:Hp) (s:Shared) (e:Value) (s':Shared),CX w [] H s (fun _ _ _=>False) e s'→False) :
  PySem.W.WalkO q loose XP YP l.row.toRowW d [] (fun f vs=>PySem.call f vs):=by
 refine Att.attach_call hn hdf fun w s₀ s₁ mg mb fa o pm cd doc a vs ns G Y ho hd hcd hmg hobj hints hlen hg=>?_
 have KX:=hY w _ Y
 obtain ⟨fd,hb,hF⟩:=F w mg fa _ KX G.T.g hmg
 exact zme KX G.T.g G.T.b G.T.builtins G.T.nolimit hg hobj hints (Nat.le_trans hlen hn2) hr hF hb (fun H hO hS=>hsp w H a ns hlen hO hS) fun H e s'=>hCX w H s₁ e s'
end L2
namespace L2
open PySem PySem.Spec PyProof.Rows
def defArgs (s:Stmt):Arguments:=match s with
 | .FunctionDef _ a _ _ _ _ _ _ _ _=>a
 | _=>{ posonlyargs:=[],args:=[],vararg:=none,kwonlyargs:=[],kw_defaults:=[],kwarg:=none,defaults:=[] }
def defBody (s:Stmt):List Stmt:=match s with
 | .FunctionDef _ _ b _ _ _ _ _ _ _=>b
 | _=>[]
def defScope (s:Stmt):Scope:=match s with
 | .FunctionDef _ _ _ _ _ _ sc _ _ _=>sc
 | _=>{ kind:=.function,names:=[],isGenerator:=false,isCoroutine:=false }
abbrev CX0:CXT:=fun _ _ _ _ _ _=>False
abbrev E0:XK:=fun _ _ _=>False
theorem zrO {X:Cx}:zlb CX0 X E0:=fun _ _ _ _ _ _ _ h=>h.elim
structure Fun (K:PySem.W.Frag) (x qual:Str) (st:Stmt) (f:Addr) (fd:FuncData):Prop where
 ex:∃(oc:Value) (od:Option Addr) (kV doc pm:Value) (an:Option Addr) (cdv ct:Value) (osl:Array (Option Value)),
  fd=PySem.W.fnOf x qual (defArgs st) (defBody st) (defScope st) .none kV doc pm an cdv ct∧K.lookup f=some ⟨oc,od,.func fd,osl⟩∧PySem.W.codeIn K cdv qual=true
 kp:PySem.W.keepIn K (.ref f)=true
section
variable {P:Program} {w:World} {K:PySem.W.Frag} {mg:Str→Option Value} {base:Heap}
theorem Fun.ok {x qual:Str} {st:Stmt} {f:Addr} {fd:FuncData} {N ps:List Str} {k:Nat} {sp:Sp} (F:Fun K x qual st f fd) (S:FnScope N ps (defScope st)) (len:∀vs H Q E,sp vs H Q E→vs.length=ps.length)
  (hbody:∀(cdv:Value) (A:Around) (outer:List Env) (s:Shared) (H:Hp) (vs:List V) (Q:VK) (E:XK),Room k (A.deeper (envOfC qual (defScope st) s.heap.objs.size f cdv))→sp vs H Q E →
   ∃t,PSs (cxOf CX0 P w K mg base N qual (defScope st) f cdv A outer s H E).nox (defBody st) t∧t { nx:=fun _ H'=>Q .non H',rt:=Q } (start N vs) H):FnOk P w K mg base CX0 (k + 1) f fd ps sp:=by
 obtain ⟨oc,od,kV,doc,pm,an,cdv,ct,osl,rfl,lk,hcd⟩:=F.ex
 refine zoL lk hcd S len fun A outer s H vs Q E hr hsp=>?_
 obtain ⟨t,h,q⟩:=hbody cdv A outer s H vs Q E hr hsp
 exact ⟨t,h.nox,q⟩
theorem Fun.binds {x qual:Str} {st:Stmt} {f:Addr} {fd:FuncData} {ps:List Str} (F:Fun K x qual st f fd)
  (h:∀(kV doc pm:Value) (an:Option Addr) (cdv ct:Value) (us:List Value),us.length=ps.length→bindArgs (PySem.W.fnOf x qual (defArgs st) (defBody st) (defScope st) .none kV doc pm an cdv ct) ⟨us,[]⟩=pure (ps.zip us)):zew K fd ps []:=by
 obtain ⟨oc,od,kV,doc,pm,an,cdv,ct,osl,rfl,lk,hcd⟩:=F.ex
 exact .all (h kV doc pm an cdv ct)
theorem fun_mk {x qual:Str} {st:Stmt} {f:Addr} {oc:Value} {od an:Option Addr} {osl:Array (Option Value)} {kV doc pm cdv ct:Value} (l:K.lookup f=some ⟨oc,od,.func (PySem.W.fnOf x qual (defArgs st) (defBody st) (defScope st) .none kV doc pm an cdv ct),osl⟩)
  (c:PySem.W.codeIn K cdv qual=true) (k:PySem.W.keepIn K (.ref f)=true):Fun K x qual st f (PySem.W.fnOf x qual (defArgs st) (defBody st) (defScope st) .none kV doc pm an cdv ct):=⟨⟨oc,od,kV,doc,pm,an,cdv,ct,osl,rfl,l,c⟩,k⟩
end
theorem zbA {A:Around} {k:Nat} (hr:Room k A):A.units + 1 < cLine:=Nat.lt_of_le_of_lt (Nat.add_le_add_left (by decide:1≤64) _) hr.units
section
variable {X:Cx}
theorem zk2:zc2 X (.builtin "len") (fun xs H Q=>∃a kvs,xs=[V.ref a]∧Rd H a (.dK kvs)∧Q (.int kvs.length) H):=by
 intro pins s σ H xs us Q I r h
 obtain ⟨a,kvs,rfl,ha,q⟩:=h
 obtain ⟨u,rfl,ru⟩:=ze1 r
 cases ru
 exact zsg I ha fun t s' I'=>⟨.int kvs.length,H,I',⟨t,rfl⟩,q⟩
end
def Same (H H':Hp):Prop:=∀b o,H b=some o→H' b=some o
theorem Same.refl (H:Hp):Same H H:=fun _ _ h=>h
theorem Same.trans {H H1 H2:Hp} (a:Same H H1) (b:Same H1 H2):Same H H2:=fun c o h=>b c o (a c o h)
theorem Same.free {H H':Hp} (e:Same H H') {l:Addr} (h:H' l=Option.none):H l=Option.none:=by
 cases q:H l with
 | none=>rfl
 | some o=>
  rw [e l o q] at h
  cases h
theorem Same.seq {K:PySem.W.Frag} {H H':Hp} {a:Addr} {xs:List V} (e:Same H H') (h:SqL K H a xs):SqL K H' a xs:=by
 rcases h with (h | ⟨o,h⟩) | h
 ·exact .inl (.inl (e _ _ h))
 ·exact .inl (.inr ⟨o,e _ _ h⟩)
 ·exact .inr h
section
variable {κ:Type} [DecidableEq κ]
end
end L2
end
section
namespace DL
open PySem
open PySem.SeqAt
open PySem.AutoSeq1 (wpAny_loadPart')
open PySem.MeetsSeq PySem.MeetsSeq2 PySem.MeetsSeq3
def zkE (items:Array Value) (x:Value):Nat→Option Fin × Unit→Sem (ForInStep (Option Fin × Unit)):=fun i _=>match items[i]? with
 | some y=>do
  let c ←eqBool y x
  if c=true then do
    let r ←retInt i
    pure (ForInStep.done (some r,()))
   else pure (ForInStep.yield (none,()))
 | _=>pure (ForInStep.yield (none,()))
theorem zoz {prog:Program} {w:World} {A:Around} {E:Value→Shared→Prop} {s:Shared} {items:Array Value} {x:Value} {e:Value→Bool} {j:Nat} (hj:j < items.size) (hit:e items[j]=true) (he:∀y,y∈items→EqAt A s y x (e y))
  {Q:Option Fin × Unit→Shared→Prop} (hq:Q (some (.done (.ret (.int j s.toks))),()) { s with toks:=s.toks + 1 }) :
  ∀(k i:Nat),j=i + k→(∀m (hm:m < items.size),i≤m→m < j→e items[m]=false)→wpAny (model prog w) A (forIn (List.range' i (items.size - i)) (none,()) (zkE items x)) Q E s:=by
 intro k
 induction k with
 | zero=>
  intro i hk _
  obtain rfl:j=i:=by omega
  obtain ⟨r,hr⟩:∃r,items.size - j=r + 1:=⟨items.size - j - 1,by omega⟩
  rw [hr,List.range'_succ,List.forIn_cons]
  refine wpAny_bind ?_
  unfold zkE
  rw [show items[j]? = some items[j] by simp [hj]]
  refine wpAny_bind (he _ (Array.getElem_mem hj) prog w _ _ ?_)
  rw [hit,if_pos rfl]
  refine wpAny_bind (m:=retInt j) ?_
  unfold retInt
  wp_walk
  exact hq
 | succ k ih=>
  intro i hk hno
  have hi:i < items.size:=by omega
  obtain ⟨r,hr⟩:∃r,items.size - i=r + 1:=⟨items.size - i - 1,by omega⟩
  rw [hr,List.range'_succ,List.forIn_cons]
  refine wpAny_bind ?_
  unfold zkE
  rw [show items[i]? = some items[i] by simp [hi]]
  refine wpAny_bind (he _ (Array.getElem_mem hi) prog w _ _ ?_)
  rw [hno i hi (Nat.le_refl _) (by omega),if_neg Bool.false_ne_true]
  refine wpAny_pure ?_
  have:=ih (i + 1) (by omega) (fun m hm h1 h2=>hno m hm (by omega) h2)
  rw [show items.size - (i + 1)=r by omega] at this
  exact this
theorem zge (l:Addr) (items:Array Value) (n:Nat) (dd:Option Addr) (sl:Array (Option Value)) (x:Value) (e:Value→Bool) (j:Nat) (hj:j < items.size)
  (hit:e items[j]=true) (hno:∀m (hm:m < items.size),m < j→e items[m]=false) :
  Meets (Builtin.«tuple.index» ⟨[.ref l,x],[]⟩)
   (fun A R s=>s.heap.get? l=some { cls:=.type "tuple",dict:=dd,data:=.seq items n,slots:=sl }∧(∀y,y∈items→EqAt A.in1 s y x (e y))∧R (.ok (.ret (.int j s.toks))) { s with toks:=s.toks + 1 }):=by
 intro prog w A R s h
 obtain ⟨hp,g,d,tk,os⟩:=s; obtain ⟨hl,he,h⟩:=h
 unfold Builtin.«tuple.index»
 simp only [Std.Legacy.Range.forIn_eq_forIn_range']
 generalize hF : @forIn Sem (List Nat) Nat _ (Option Fin × Unit)=F
 wp_walk using wpAny_loadPart' hl
 subst hF
 rw [show ([:min items.size items.size]:Std.Legacy.Range).size=items.size - 0 by simp [Std.Legacy.Range.size]]
 refine zoz hj hit he ?_ j 0 (by omega) (fun m hm _ h2=>hno m hm h2)
 exact wpAny_pure h
end DL
end
section
namespace DL
open PySem PyProof.Rows
section
variable {prog:Program} {w:World} {A:Around} {E:Value→Shared→Prop} {s:Shared}
end
end DL
end
section
namespace DL
open PySem PyProof.Rows PySem.W
def zhb {α:Type} (c:Nat→Nat→Bool):KasT α→α
 | .ret a=>a
 | .ask i j k=>zhb c (k (c i j))
inductive Asks (n:Nat) {α:Type} (P:α→Prop):KasT α→Prop where
 | ret {a:α}:P a→Asks n P (.ret a)
 | ask {i j:Nat} {k:Bool→KasT α}:i < n→j < n→(∀b,Asks n P (k b))→Asks n P (.ask i j k)
theorem Asks.bind {n:Nat} {α β:Type} {P:α→Prop} {P':β→Prop} {t:KasT α} {f:α→KasT β} (h:Asks n P t) (hf:∀a,P a→Asks n P' (f a)):Asks n P' (t.bind f):=by
 induction h with
 | ret h=>exact hf _ h
 | ask h1 h2 _ ih=>exact .ask h1 h2 ih
theorem Asks.run {n:Nat} {α:Type} {P:α→Prop} {t:KasT α} (h:Asks n P t) (c:Nat→Nat→Bool):P (zhb c t):=by
 induction h with
 | ret h=>exact h
 | ask _ _ _ ih=>exact ih _
theorem Asks.mono {n:Nat} {α:Type} {P P':α→Prop} {t:KasT α} (h:Asks n P t) (hp:∀a,P a→P' a):Asks n P' t:=by
 induction h with
 | ret h=>exact .ret (hp _ h)
 | ask h1 h2 _ ih=>exact .ask h1 h2 ih
theorem zkA {n:Nat} {α:Type} {P:α→Prop} {cmp:Nat→Nat→(Bool→Shared→Prop)→Shared→Prop} {c:Nat→Nat→Bool} {s:Shared} (hc:∀i j C,i < n→j < n→C (c i j) s→cmp i j C s) {Q:α→Shared→Prop} {t:KasT α} (h:Asks n P t):Q (zhb c t) s→t.kasWp cmp Q s:=by
 induction h with
 | ret _=>exact fun q=>q
 | ask h1 h2 _ ih=>exact fun q=>hc _ _ _ h1 h2 (ih _ q)
def zcj (n:Nat) (p:Array Nat):Prop:=p.toList.Perm (List.range n)
theorem zcj.bd {n:Nat} {p:Array Nat} (h:zcj n p) (hn:0 < n) (k:Nat):p.getD k 0 < n:=by
 by_cases hk:k < p.size
 ·have e:p.getD k 0=p[k]:=by simp [Array.getD,hk]
  rw [e]
  exact List.mem_range.mp (h.mem_iff.mp (by simp))
 ·have e:p.getD k 0=0:=by simp [Array.getD,hk]
  rw [e]; exact hn
theorem zcj.rev {n:Nat} {p:Array Nat} (h:zcj n p) (i j:Nat):zcj n (kas_rev p i j):=(Array.perm_iff_toList_perm.mp (mirror_perm p i j ((j - i) / 2))).trans h
theorem zcj.bub {n:Nat} {p:Array Nat} (h:zcj n p) (i j:Nat):zcj n (bubble p i j):=(Array.perm_iff_toList_perm.mp (bubble_perm p i j)).trans h
section
variable {n:Nat} (hn:0 < n)
include hn
theorem zgA {p:Array Nat} (h:zcj n p):∀f k,Asks n (fun _=>True) (kas_asc p f k)
 | 0,k=>.ret trivial
 | f + 1,k=>.ask (h.bd hn _) (h.bd hn _) fun b=>by
  cases b with
  | true=>rw [if_pos rfl]; exact .ret trivial
  | false=>rw [if_neg Bool.false_ne_true]; exact zgA h f (k + 1)
theorem zee:∀f (p:Array Nat) k q,zcj n p→Asks n (fun r=>zcj n r.1) (kas_desc f p k q)
 | 0,p,k,q,h=>.ret h
 | f + 1,p,k,q,h=>.ask (h.bd hn _) (h.bd hn _) fun b=>by
  cases b with
  | true=>
   rw [if_pos rfl]
   split
   ·exact zee f _ _ _ (h.rev _ _)
   ·exact zee f _ _ _ h
  | false=>
   rw [if_neg Bool.false_ne_true]
   refine .ask (h.bd hn _) (h.bd hn _) fun b=>?_
   cases b with
   | true=>rw [if_pos rfl]; exact .ret h
   | false=>rw [if_neg Bool.false_ne_true]; exact zee f _ _ _ h
theorem zhv {p:Array Nat} (h:zcj n p) (a b:Nat):Asks n (fun r=>zcj n r.2) (kas_tail3 a b p):=
 Asks.bind (zgA hn (h.rev 0 a) _ _) fun m _=>.ret (h.rev 0 a)
theorem zf3 {p:Array Nat} (h:zcj n p) (a b:Nat):Asks n (fun r=>zcj n r.2) (kas_descPart a b p):=by
 refine Asks.bind (zee hn _ p _ _ h) fun r hr=>?_
 split
 ·exact zhv hn (hr.rev _ _) _ _
 ·exact zhv hn hr _ _
theorem zju {p:Array Nat} (h:zcj n p) (a:Nat):Asks n (fun r=>zcj n r.2) (kas_count a p):=by
 refine Asks.bind (zgA hn h _ _) fun k _=>?_
 split
 ·exact .ret h
 ·split
  ·refine .ask (h.bd hn _) (h.bd hn _) fun b=>?_
   cases b with
   | true=>rw [if_pos rfl]; exact .ret h
   | false=>rw [if_neg Bool.false_ne_true]; exact zf3 hn (h.rev _ _) _ _
  ·exact zf3 hn h _ _
theorem zet {p:Array Nat} (h:zcj n p) (k:Nat):∀f l r,Asks n (fun _=>True) (kas_place p k f l r)
 | 0,l,r=>.ret trivial
 | f + 1,l,r=>by
  unfold kas_place
  split
  ·exact .ret trivial
  ·refine .ask (h.bd hn _) (h.bd hn _) fun b=>?_
   cases b with
   | true=>rw [if_pos rfl]; exact zet h k f _ _
   | false=>rw [if_neg Bool.false_ne_true]; exact zet h k f _ _
theorem ziO:∀f (p:Array Nat) k,zcj n p→Asks n (zcj n) (kas_bin f p k)
 | 0,p,k,h=>.ret h
 | f + 1,p,k,h=>Asks.bind (zet hn h k _ _ _) fun l _=>ziO f _ _ (h.bub _ _)
theorem zhw:Asks n (zcj n) (kas_sort n):=by
 refine Asks.bind (zju hn (p:=List.toArray (List.range n)) (by unfold zcj; simp) n) fun r hr=>?_
 split
 ·exact ziO hn _ _ _ hr
 ·exact .ret hr
end
def zfM (n:Nat) (c:Nat→Nat→Bool):List Nat:=if n < 2 then List.range n else (zhb c (kas_sort n)).toList
theorem zem (n:Nat) (c:Nat→Nat→Bool):(zfM n c).Perm (List.range n):=by
 unfold zfM
 split
 ·exact .refl _
 ·exact (zhw (n:=n) (by omega)).run c
def lexI:List Int→List Int→Bool
 | [],[]=>false
 | [],_::_=>true
 | _::_,[]=>false
 | x::xs,y::ys=>if x=y then lexI xs ys else decide (x < y)
def lexZ (fin:Bool):List (List Int)→List (List Int)→Bool
 | k::ks,l::ls=>if k=l then lexZ fin ks ls else lexI k l
 | _,_=>fin
def lexR (ks ls:List (List Int)):Bool:=lexZ (decide (ks.length < ls.length)) ks ls
end DL
end
section
namespace DL
open PySem PyProof.Rows PySem.W PySem.Calls
section
variable {prog:Program} {w:World} {A:Around} {E:Value→Shared→Prop} {s:Shared}
theorem ziY {a:Addr} {vs:List Value} {n:Nat} {P:PySem.Fin→Shared→Prop} (ho:s.heap.get? a=some (seqObj "list" vs.toArray n)) (h2:vs.length < 2)
  (h:∀h' c,(∀b o,b≠a→s.heap.get? b=some o→h'.get? b=some o)→h'.get? a=some (seqObj "list" vs.toArray c)→P (.done (.ret .none)) { s with heap:=h' }) :
  wpAny (model prog w) A (Builtin.«list.sort» ⟨[.ref a],[]⟩) P E s:=by
 have fits:vs.length≤sizeLine:=by rw [sizeLine_eq]; omega
 have up:=fun (h:Heap) (f:Array Value→Array Value)=>Heap.SameBut.update h a (Obj.mapSeq f)
 obtain ⟨e1,ho1⟩:∃e1,(s.heap.update a (Obj.mapSeq fun _=>(#[]:Array Value))).get? a=some (seqObj "list" #[] e1):=⟨_,get?_update_seq ho fun _=>#[]⟩
 rw [list_sort_plain]
 refine wpAny_bind (listItems_at ho rfl (wpAny_bind (listUpdate_at ho rfl ?_ (by rw [List.size_toArray]; exact fits) (Nat.zero_le _))))
 refine wpAny_bind (seqEpoch_at ho1 rfl (wpAny_bind (wpAny_newTuple (wpAny_bind (wpAny_newList (wpAny_holding ?_) (Nat.zero_le _))) (by show vs.length≤_; exact fits))))
 dsimp only
 have hlt:vs.toArray.size < 2:=by rw [List.size_toArray]; exact h2
 rw [if_pos hlt,if_pos hlt]
 refine wpAny_bind (wpAny_pure ?_)
 have hrun:(pure ():StateT SortSt Sem Unit).run (SortSt.mk' general' (vs.toArray.zip vs.toArray) #[] 7 none)=pure ((),SortSt.mk' general' (vs.toArray.zip vs.toArray) #[] 7 none):=rfl
 rw [hrun]
 refine wpAny_bind (wpAny_pure ?_)
 dsimp only
 have hout:(arrOf (SortSt.mk' general' (vs.toArray.zip vs.toArray) #[] 7 none)).map (·.2)=vs.toArray:=by
  show ((vs.toArray.zip vs.toArray).map (·.2))=vs.toArray
  apply Array.ext'
  simp [List.map_snd_zip]
 rw [hout]
 have keep3:∀b o,(s.heap.update a (Obj.mapSeq fun _=>(#[]:Array Value))).get? b=some o→(((s.heap.update a (Obj.mapSeq fun _=>(#[]:Array Value))).push (seqObj "tuple" vs.toArray 0)).push (seqObj "list" #[] 0)).get? b=some o:=fun b o e=>Heap.get?_push_of_some _ (Heap.get?_push_of_some _ e)
 have ho3:=keep3 _ _ ho1
 refine wpAny_bind (seqEpoch_at ho3 rfl (wpAny_bind (listUpdate_at ho3 rfl ?_ (Nat.zero_le _) (by rw [List.size_toArray]; exact Nat.le_succ_of_le fits))))
 simp only [bne_self_eq_false,Bool.false_eq_true,if_false]
 refine wpAny_pure (h _ _ (fun b o hb e=>?_) (get?_update_seq ho3 fun _=>vs.toArray))
 exact ((up _ _).2 b hb).trans (keep3 b o (((up _ _).2 b hb).trans e))
theorem zgL {l:Addr} {vs:List Value} {Q:Value→Shared→Prop} (hl:s.heap.IsList l vs.toArray) (h2:vs.length < 2)
  (h:∀h' c D,(∀b o,s.heap.get? b=some o→h'.get? b=some o)→s.heap.objs.size≤D→h'.get? D=some (seqObj "list" vs.toArray c)→Q (.ref D) { s with heap:=h' }) :
  wpAny (model prog w) A (call (.builtin "sorted") [.ref l]) Q E s:=by
 refine Calls.call_function_entry kind_sorted plain_sorted entry_sorted (args_sorted1 _) ?_
 unfold Builtin.«sorted»
 refine wpAny_bind (m:=checkCount "sorted" 1 1 _) (wpAny_pure (wpAny_bind (collect_list hl ?_ (by rw [sizeLine_eq]; omega))))
 refine wpAny_bind (wpAny_newList ?_ (by rw [sizeLine_eq]; omega))
 generalize hH:((s.heap.push (seqObj "list" #[] 0)).update s.heap.objs.size (Obj.mapSeq (·++vs.toArray)))=H1
 have hsz:H1.objs.size=s.heap.objs.size + 1:=by rw [←hH,Heap.size_update,size_push']
 have keep:∀b o,s.heap.get? b=some o→(H1.push (seqObj "list" vs.toArray 0)).get? b=some o:=fun b o q=>by
  have hlt:b < s.heap.objs.size:=Heap.lt_size q
  refine Heap.get?_push_of_some _ ?_
  rw [←hH,Heap.get?_update_ne _ _ _ _ (Nat.ne_of_lt hlt)]
  exact Heap.get?_push_of_some _ q
 have hoL:(H1.push (seqObj "list" vs.toArray 0)).get? H1.objs.size=some (seqObj "list" vs.toArray 0):=Heap.get?_push_size _ rfl
 refine wpAny_bind (wpAny_holding (wpAny_call_entry slot_list_sort ⟨_,hoL,rfl⟩ entry_list_sort ?_ (args_list_sort _)))
 refine ziY (s:={ s with heap:=H1.push (seqObj "list" vs.toArray 0) }) hoL h2 fun h' c kp hD=>?_
 refine ⟨_,rfl,wpAny_pure ⟨_,rfl,h h' c _ (fun b o e=>kp b o ?_ (keep b o e)) (by rw [hsz]; exact Nat.le_succ _) hD⟩⟩
 rw [hsz]
 exact Nat.ne_of_lt (Nat.lt_succ_of_lt (Heap.lt_size e))
end
end DL
end
section
namespace DL
open PySem PySem.Spec PyProof.Rows L2 PySem.W PySem.Calls
structure Lft (fr:List Addr) (a:Addr) (oe:Obj) (vs:Array Value) (T:Option Addr) (v:Value) (h h':Heap):Prop where
 keep:∀b o,b∉fr→b≠a→T≠some b→h.get? b=some o→h'.get? b=some o
 slot:∀b o,h.get? b=some o→(∀vs:Array Value,o.data≠Data.fields vs)→∃sl,h'.get? b=some { cls:=o.cls,dict:=o.dict,data:=o.data,slots:=sl }
 obj:∃tb ot ts,(h.get? tb=none∨T=some tb)∧tb≠a∧h'.get? a=some { cls:=oe.cls,dict:=oe.dict,data:=.fields (vs.setIfInBounds 1 (.ref tb)),slots:=oe.slots }∧h'.get? tb=some ot∧ot.data=.fields ts∧ts[3]? = some v
def zmI (a:Addr) (h:Heap):Prop:=∃oe vs tb,h.get? a=some oe∧oe.data=Data.fields vs∧vs[1]? = some (Value.ref tb)
abbrev flV (fl:Option Addr):Value:=fl.elim Value.none fun f=>rawInt f
section
variable {M:Model} {A:Around} {E:Value→Shared→Prop} {s:Shared} {B:Heap} {env:Env} {outer:List Env} {L a:Addr} {oe:Obj} {vs:Array Value} {Q:Unit→Shared→Prop}
theorem zkn {head:Value} {had:Bool} {fl:Option Addr} (hf:A.frames=some (env::outer)) (ff:s.heap.FunFrames B (env::outer)) (hL:env.frame=some L) (e0:s.heap.get? a=some oe) (hd:oe.data=.fields vs) (hs:1 < vs.size)
  (q:∀h',Lft (frs (env::outer)) a oe vs none (flV fl) s.heap h'→Q () { heap:=h',gens:=s.gens,drawn:=s.drawn,toks:=s.toks,os:=s.os }) :
  wpAny M A (do
   let f ←PySem.frameOf env
   let pl ←entryPlaceOf L had
   let b ←EntryCells.newEntry head f Value.none (rawInt ↑L) Value.none pl
   setField (Value.ref a) 1 b) (fun _ s'=>zmI a s'.heap∧wpAny M A (setFlight (Value.ref a) fl) Q E s') E s:=by
 have haf:a∉frs (env::outer):=fun z=>by
  obtain ⟨_,o,e1,nf⟩:=ff.mem z
  rw [e0] at e1; cases e1
  exact nf vs hd
 refine wpAny_bind (wpAny_frameOf_fun hf ff hL fun h2 so=>?_)
 refine wpAny_bind (wpAny_entryPlaceOf fun pl hpl=>?_)
 obtain ⟨so1,so2,so3⟩:=so
 have e2:h2.get? a=some oe:=(so2 a haf).trans e0
 have key:∀fs:List Value,fs.length≤100→fs[3]? = some (rawInt ↑L)→wpAny M A ((do
   let b ←newFields "traceback" fs
   setField (Value.ref a) 1 b)) (fun _ s'=>zmI a s'.heap∧wpAny M A (setFlight (Value.ref a) fl) Q E s') E { heap:=h2,gens:=s.gens,drawn:=s.drawn,toks:=s.toks,os:=s.os }:=fun fs hlen h3=>by
  refine wpAny_bind ?_
  unfold newFields
  have hsz:sizeOk (Data.fields fs.toArray):=by
   show fs.toArray.size≤_
   have:fs.toArray.size≤100:=by simpa using hlen
   exact Nat.le_trans this (by decide)
  refine wpAny_newObj_type (T := "traceback") (data:=.fields fs.toArray) (dict:=none) ?_ hsz
  have hat:a < h2.objs.size:=Heap.lt_size e2
  have htb:h2.get? h2.objs.size=none:=by
   cases z:h2.get? h2.objs.size with
   | none=>rfl
   | some o=>exact absurd (Heap.lt_size z) (Nat.lt_irrefl _)
  have hne:h2.objs.size≠a:=fun z=>by rw [z] at hat; exact absurd hat (Nat.lt_irrefl _)
  generalize htbn:h2.objs.size=tb at *
  have e3:(h2.push { cls:=.type "traceback",dict:=none,data:=.fields fs.toArray }).get? a=some oe:=Heap.get?_push_of_some _ e2
  have e3t:(h2.push { cls:=.type "traceback",dict:=none,data:=.fields fs.toArray }).get? tb=some { cls:=.type "traceback",dict:=none,data:=.fields fs.toArray }:=by rw [←htbn]; exact Heap.get?_push_size _ rfl
  generalize hh3:h2.push { cls:=.type "traceback",dict:=none,data:=.fields fs.toArray }=h3' at *
  refine wpAny_setField (a:=a) (o:=oe) (vs:=vs) (i:=1) e3 hd hs ?_
  have mf:∀g,Obj.mapFields g oe={ cls:=oe.cls,dict:=oe.dict,data:=.fields (g vs),slots:=oe.slots }:=fun g=>by
   obtain ⟨c,d,da,sl⟩:=oe
   have:da=.fields vs:=hd
   subst this
   rfl
  have e4:=Heap.get?_update_self (h:=h3') (Obj.mapFields fun v=>v.setIfInBounds 1 (.ref tb)) e3 (by rw [mf]; rfl)
  rw [mf] at e4
  have e4t:(h3'.update a (Obj.mapFields fun v=>v.setIfInBounds 1 (.ref tb))).get? tb=some { cls:=.type "traceback",dict:=none,data:=.fields fs.toArray }:=by rw [Heap.get?_update_ne _ _ _ _ hne]; exact e3t
  have e4o:∀b,b≠a→(h3'.update a (Obj.mapFields fun v=>v.setIfInBounds 1 (.ref tb))).get? b=h3'.get? b:=fun b hb=>Heap.get?_update_ne _ _ _ _ hb
  generalize h3'.update a (Obj.mapFields fun v=>v.setIfInBounds 1 (.ref tb))=h4 at *
  refine ⟨⟨_,_,tb,e4,rfl,Array.getElem?_setIfInBounds_self_of_lt hs⟩,?_⟩
  unfold setFlight
  refine wpAny_bind (wpAny_field (o:={ cls:=oe.cls,dict:=oe.dict,data:=.fields (vs.setIfInBounds 1 (.ref tb)),slots:=oe.slots }) (x:=.ref tb) e4 rfl ?_ ?_)
  ·rw [Array.getElem?_setIfInBounds_self_of_lt hs]
  ·rw [if_pos (by rfl)]
   refine wpAny_setField (a:=tb) (vs:=fs.toArray) (i:=3) e4t rfl ?_ ?_
   ·have:=(List.getElem?_eq_some_iff.mp h3).1
    simpa using this
   have e5:=Heap.get?_update_self (h:=h4) (Obj.mapFields fun v=>v.setIfInBounds 3 (flV fl)) e4t rfl
   have e5o:∀b,b≠tb→(h4.update tb (Obj.mapFields fun v=>v.setIfInBounds 3 (flV fl))).get? b=h4.get? b:=fun b hb=>Heap.get?_update_ne _ _ _ _ hb
   refine q (h4.update tb (Obj.mapFields fun v=>v.setIfInBounds 3 (flV fl))) ⟨fun b o nf ne _ e=>?_,fun b o e nf=>?_,tb,_,_,.inl ?_,hne,?_,e5,rfl,?_⟩
   ·have hb2:h2.get? b=some o:=(so2 b nf).trans e
    have hbt:b≠tb:=fun z=>by rw [z,htb] at hb2; cases hb2
    rw [e5o b hbt,e4o b ne,←hh3]
    exact Heap.get?_push_of_some _ hb2
   ·obtain ⟨sl,e1⟩:=so3 b o e
    have hbt:b≠tb:=fun z=>by rw [z,htb] at e1; cases e1
    have hba:b≠a:=fun z=>by rw [z,e0] at e; cases e; exact nf vs hd
    refine ⟨sl,?_⟩
    rw [e5o b hbt,e4o b hba,←hh3]
    exact Heap.get?_push_of_some _ e1
   ·cases z:s.heap.get? tb with
    | none=>rfl
    | some o=>
     obtain ⟨sl,e1⟩:=so3 tb o z
     rw [htb] at e1; cases e1
   ·rw [e5o a (Ne.symm hne)]; exact e4
   ·show (fs.toArray.setIfInBounds 3 _)[3]? = _
    rw [Array.getElem?_setIfInBounds_self_of_lt (by have:=(List.getElem?_eq_some_iff.mp h3).1; simpa using this)]
 unfold EntryCells.newEntry
 refine key _ ?_ rfl
 rcases hpl with rfl | ⟨x1,x2,x3,x4,x5,x6,_,rfl⟩ <;> simp
theorem zd7 {T fl:Option Addr} (hf:A.frames=some (env::outer)) (ff:s.heap.FunFrames B (env::outer)) (hL:env.frame=some L) (e0:s.heap.get? a=some oe) (hd:oe.data=.fields vs)
  (h1:(vs[1]? = some Value.none∧T=none)∨(∃T' oT ts,T=some T'∧vs[1]? = some (.ref T')∧T'≠a∧s.heap.get? T'=some oT∧oT.data=.fields ts∧ts[3]? = some Value.none)∨∃T' oT ts,T=some T'∧vs[1]? = some (.ref T')∧T'≠a∧s.heap.get? T'=some oT∧oT.data=.fields ts∧ts[3]? = some (rawInt ↑L))
  (q:∀h',Lft (frs (env::outer)) a oe vs T (flV fl) s.heap h'→Q () { heap:=h',gens:=s.gens,drawn:=s.drawn,toks:=s.toks,os:=s.os }):wpAny M A (noteFrame (.ref a) env) (fun _ s'=>zmI a s'.heap∧wpAny M A (setFlight (.ref a) fl) Q E s') E s:=by
 have hs:1 < vs.size:=by
  rcases h1 with ⟨z,_⟩ | ⟨_,_,_,_,z,_⟩ | ⟨_,_,_,_,z,_⟩ <;> exact (Array.getElem?_eq_some_iff.mp z).1
 unfold noteFrame
 simp only [hL]
 rcases h1 with ⟨z,rfl⟩ | ⟨T',oT,ts,rfl,z,hTa,eT,hT,h3⟩ | ⟨T',oT,ts,rfl,z,hTa,eT,hT,h3⟩
 ·refine wpAny_bind (wpAny_field e0 hd z ?_)
  rw [if_neg (by decide)]
  exact zkn hf ff hL e0 hd hs q
 ·refine wpAny_bind (wpAny_field e0 hd z ?_)
  rw [if_pos (by rfl)]
  refine wpAny_bind (wpAny_field eT hT h3 ?_)
  rw [if_neg (by intro z; cases z)]
  have h3s:3 < ts.size:=(Array.getElem?_eq_some_iff.mp h3).1
  refine wpAny_bind (wpAny_setField eT hT h3s ?_)
  have eo:∀b,b≠T'→(s.heap.update T' (Obj.mapFields fun v=>v.setIfInBounds 3 Value.none)).get? b=s.heap.get? b:=fun b hb=>Heap.get?_update_ne _ _ _ _ hb
  refine zkn (s:={ heap:=s.heap.update T' (Obj.mapFields fun v=>v.setIfInBounds 3 Value.none),gens:=s.gens,drawn:=s.drawn,toks:=s.toks,os:=s.os }) hf (ff.of_keeps fun b o e nf=>?_) hL ((eo a (Ne.symm hTa)).trans e0) hd hs fun h' l=>q h' ⟨fun b o nf ne hT' e=>?_,fun b o e nf=>?_,?_⟩
  ·have hb:b≠T':=fun z=>by rw [z,eT] at e; cases e; exact nf ts hT
   exact ⟨o,(eo b hb).trans e,rfl⟩
  ·have hb:b≠T':=fun z=>hT' (by rw [z])
   exact l.keep b o nf ne (by simp) ((eo b hb).trans e)
  ·have hb:b≠T':=fun z=>by rw [z,eT] at e; cases e; exact nf ts hT
   exact l.slot b o ((eo b hb).trans e) nf
  ·obtain ⟨tb,ot,ts',t1,t2⟩:=l.obj
   refine ⟨tb,ot,ts',.inl ?_,t2⟩
   have t1:=t1.resolve_right (by simp)
   by_cases hb:tb=T'
   ·have mf:Obj.mapFields (fun v=>v.setIfInBounds 3 Value.none) oT={ cls:=oT.cls,dict:=oT.dict,data:=.fields (ts.setIfInBounds 3 Value.none),slots:=oT.slots }:=by
     obtain ⟨c,d,da,sl⟩:=oT
     have:da=.fields ts:=hT
     subst this
     rfl
    have:=Heap.get?_update_self (h:=s.heap) (Obj.mapFields fun v=>v.setIfInBounds 3 Value.none) eT (by rw [mf]; rfl)
    rw [hb] at t1
    exact absurd (t1.symm.trans this) (by simp)
   ·exact (eo tb hb).symm.trans t1
 ·refine wpAny_bind (wpAny_field e0 hd z ?_)
  rw [if_pos (by rfl)]
  refine wpAny_bind (wpAny_field eT hT h3 ?_)
  rw [if_pos (by simp)]
  refine wpAny_pure ⟨⟨oe,vs,T',e0,hd,z⟩,?_⟩
  have h3s:3 < ts.size:=(Array.getElem?_eq_some_iff.mp h3).1
  have mf:∀g,Obj.mapFields g oT={ cls:=oT.cls,dict:=oT.dict,data:=.fields (g ts),slots:=oT.slots }:=fun g=>by
   obtain ⟨c,d,da,sl⟩:=oT
   have:da=.fields ts:=hT
   subst this
   rfl
  unfold setFlight
  refine wpAny_bind (wpAny_field e0 hd z ?_)
  rw [if_pos (by rfl)]
  refine wpAny_setField eT hT h3s ?_
  have eo:∀b,b≠T'→(s.heap.update T' (Obj.mapFields fun v=>v.setIfInBounds 3 (flV fl))).get? b=s.heap.get? b:=fun b hb=>Heap.get?_update_ne _ _ _ _ hb
  have es:=Heap.get?_update_self (h:=s.heap) (Obj.mapFields fun v=>v.setIfInBounds 3 (flV fl)) eT (by rw [mf]; rfl)
  rw [mf] at es
  refine q _ ⟨fun b o nf ne hT' e=>(eo b fun z=>hT' (by rw [z])).trans e,fun b o e nf=>?_,T',_,_,.inr rfl,hTa,?_,es,rfl,?_⟩
  ·have hb:b≠T':=fun z=>by rw [z,eT] at e; cases e; exact nf ts hT
   exact ⟨o.slots,(eo b hb).trans e⟩
  ·rw [eo a (Ne.symm hTa),e0]
   obtain ⟨c,d,da,sl⟩:=oe
   have:da=.fields vs:=hd
   subst this
   have:vs.setIfInBounds 1 (.ref T')=vs:=by
    apply Array.ext_getElem?
    intro i
    rw [Array.getElem?_setIfInBounds]
    split
    ·rename_i h; subst h
     exact z.symm
    ·rfl
   rw [this]
  ·show (ts.setIfInBounds 3 _)[3]? = _
   rw [Array.getElem?_setIfInBounds_self_of_lt h3s]
theorem zfp {T:Option Addr} (hf:A.frames=some (env::outer)) (ff:s.heap.FunFrames B (env::outer)) (hL:env.frame=some L) (e0:s.heap.get? a=some oe) (hd:oe.data=.fields vs)
  (h1:(vs[1]? = some Value.none∧T=none)∨(∃T' oT ts,T=some T'∧vs[1]? = some (.ref T')∧T'≠a∧s.heap.get? T'=some oT∧oT.data=.fields ts∧ts[3]? = some Value.none)∨∃T' oT ts,T=some T'∧vs[1]? = some (.ref T')∧T'≠a∧s.heap.get? T'=some oT∧oT.data=.fields ts∧ts[3]? = some (rawInt ↑L))
  (q:∀h',Lft (frs (env::outer)) a oe vs T Value.none s.heap h'→Q () { heap:=h',gens:=s.gens,drawn:=s.drawn,toks:=s.toks,os:=s.os }):wpAny M A (leaving env (.ref a)) Q E s:=
 wpAny_bind (wpAny_mono (zd7 (fl:=none) hf ff hL e0 hd h1 q) (fun _ _ z=>z.2) fun _ _ z=>z)
end
end DL
end
section
namespace DL
open PySem PySem.Spec PyProof.Rows L2 PySem.W PySem.Calls
def zsi (h B:Heap) (a:Addr) (cls:Value) (od L:Option Addr):Prop:=
 ∃oe vs,h.get? a=some oe∧oe.cls=cls∧(∀dx,od=some dx→oe.dict=some dx)∧oe.data=.fields vs ∧
  (vs[1]? = some Value.none∨(∃T oT ts,vs[1]? = some (.ref T)∧B.get? T=none∧T≠a∧h.get? T=some oT∧oT.data=.fields ts∧ts[3]? = some Value.none) ∨
   ∃l T oT ts,L=some l∧vs[1]? = some (.ref T)∧B.get? T=none∧T≠a∧h.get? T=some oT∧oT.data=.fields ts∧ts[3]? = some (rawInt ↑l))
def topF (st:List Env):Option Addr:=st.head?.bind (·.frame)
structure Fly (P:Program) (w:World) (st:List Env) (H:Hp) (s:Shared) (H':Hp) (a:Addr) (cls:Value) (od:Option Addr) (s':Shared):Prop where
 os:s'.os=s.os
 bare:AllBare s'.gens
 un:Un (frs st) [] H H' s.heap s'.heap
 hok:HOk P w H' s'.heap
 ex:∃B:Heap,B.StaysIn s'.heap∧B.get? a=none∧s'.heap.FunFrames B st∧zsi s'.heap B a cls od (topF st) ∧
  (∀b o,s.heap.get? b=some o→b∉frs st→∃o',B.get? b=some o')∧∀b u,H' b=some u→∃o',B.get? b=some o'
section
variable {X:Cx} {pins:List (Addr × Obj)} {σ:L2.St} {H H':Hp} {s s':Shared} {a:Addr} {cls:Value} {od:Option Addr} {M:Model} {E:Value→Shared→Prop}
theorem Fly.inv (F:Fly X.prog X.w X.stack H s H' a cls od s') (I:Inv X pins σ H s):Inv X pins σ H' s':=I.call' F.os F.un F.hok F.bare fun b z=>absurd z (by simp)
theorem Fly.leaves {Q:Unit→Shared→Prop} (F:Fly X.prog X.w X.stack H s H' a cls od s') (I:Inv X pins σ H s) (hst:X.stack=X.env::X.outer) (hfr:X.env.frame=some X.env.locals) (hex:X.ex=[])
  (q:∀s'',Fly X.prog X.w X.outer X.H₀ X.s₀ H' a cls od s''→Q () s''):wpAny M X.A (leaving X.env (.ref a)) Q E s':=by
 have I':=F.inv I
 obtain ⟨B,hB,hBa,hff,⟨oe,vs,r1,r2,r3,r4,r5⟩,hd,hH⟩:=F.ex
 have hfs:frs X.stack=X.env.locals::frs X.outer:=by rw [hst]; unfold frs; rw [List.filterMap_cons,hfr]
 have inB:∀b o,X.s₀.heap.get? b=some o→b∉frs X.outer→∃o',B.get? b=some o':=fun b o e n=>by
  obtain ⟨o1,e1⟩:=I.base.there b o e (by rw [hex]; simp)
  refine hd b o1 e1 ?_
  rw [hfs]
  intro z
  rcases List.mem_cons.mp z with z | z
  ·have h1:=Heap.lt_size e
   have h2:=I.ok.above
   rw [z] at h1
   exact absurd h1 (Nat.not_lt.mpr h2)
  ·exact n z
 rw [hst] at hff
 have fin:∀(T:Option Addr) h',(∀b,T=some b→B.get? b=none)→Lft (frs (X.env::X.outer)) a oe vs T Value.none s'.heap h'→Q () { heap:=h',gens:=s'.gens,drawn:=s'.drawn,toks:=s'.toks,os:=s'.os }:=fun T h' hT l=>by
  have same:∀b o,(∃o',B.get? b=some o')→s'.heap.get? b=some o→h'.get? b=some o:=fun b o ⟨o',e⟩ h=>by
   refine l.keep b o (fun z=>?_) (fun z=>by rw [z,hBa] at e; cases e) (fun z=>by rw [hT b z] at e; cases e) h
   rw [(hff.mem z).1] at e
   cases e
  have hso:=(show X.env.scope.kind≠ScopeKind.module∧(∃L o,X.env.frame=some L∧B.get? L=none∧s'.heap.get? L=some o∧∀(vs:Array Value),o.data≠Data.fields vs)∧s'.heap.FunFrames B X.outer by unfold Heap.FunFrames at hff; exact hff).2.2
  have ho:h'.FunFrames B X.outer:=hso.of_keeps fun b o e nf=>by
   obtain ⟨sl,e1⟩:=l.slot b o e nf
   exact ⟨_,e1,rfl⟩
  obtain ⟨tb,ot,ts,t1,t2,t3,t4,t5,t6⟩:=l.obj
  have htB:B.get? tb=none:=by
   rcases t1 with t1 | t1
   ·cases z:B.get? tb with
    | none=>rfl
    | some o=>have:=hB tb o z; rw [t1] at this; cases this
   ·exact hT tb t1
  have hs1:1 < vs.size:=by
   rcases r5 with z | ⟨_,_,_,z,_⟩ | ⟨_,_,_,_,_,z,_⟩ <;> exact (Array.getElem?_eq_some_iff.mp z).1
  refine q _ ⟨I'.os,F.bare,⟨fun b o e n f z=>?_,fun b o e n f z=>?_,fun b o e n z=>?_,fun b o e z=>?_,I'.base.tups,I'.base.frzs,I'.base.tbls⟩,fun b u e=>?_,B,fun b o e=>same b o ⟨o,e⟩ (hB b o e),hBa,ho,
   ⟨_,_,t3,r2,r3,rfl,.inr (.inl ⟨tb,ot,ts,Array.getElem?_setIfInBounds_self_of_lt hs1,htB,t2,t4,t5,t6⟩)⟩,inB,hH⟩
  ·exact same b o (inB b o e f) (I'.base.keep b o e n f (by rw [hex]; exact z))
  ·obtain ⟨sl,e1⟩:=I'.base.slot b o e n f (by rw [hex]; exact z)
   obtain ⟨_,o2,e2,nf⟩:=hso.mem f
   rw [e1] at e2
   cases e2
   obtain ⟨sl2,e3⟩:=l.slot b _ e1 nf
   exact ⟨sl2,e3⟩
  ·exact I'.base.free b o e n (by rw [hex]; exact z)
  ·obtain ⟨o1,e1⟩:=I'.base.there b o e (by rw [hex]; exact z)
   by_cases f:b∈frs X.outer
   ·obtain ⟨_,o2,e2,nf⟩:=hso.mem f
    obtain ⟨sl,e3⟩:=l.slot b _ e2 nf
    exact ⟨_,e3⟩
   ·exact ⟨o1,same b o1 (inB b o e f) e1⟩
  ·refine (F.hok b u e).stay (fun c v hc e1=>same c v ?_ e1) (fun _ z=>z) fun _ _ z=>z
   rcases hc with hc | hc
   ·rw [hc]; exact hH b u e
   ·exact hH c _ hc
 rcases r5 with z | ⟨T,oT,ts,z1,z2,z3,z4,z5,z6⟩ | ⟨l,T,oT,ts,zl,z1,z2,z3,z4,z5,z6⟩
 ·exact zfp (T:=none) (by rw [I.ok.frames,hst]) hff hfr r1 r4 (.inl ⟨z,rfl⟩) fun h' l=>fin none h' (fun b e=>nomatch e) l
 ·exact zfp (T:=some T) (by rw [I.ok.frames,hst]) hff hfr r1 r4 (.inr (.inl ⟨T,oT,ts,rfl,z1,z3,z4,z5,z6⟩)) fun h' l=>fin (some T) h' (fun b e=>by cases e; exact z2) l
 ·have hl:l=X.env.locals:=by
   unfold topF at zl
   rw [hst] at zl
   exact (Option.some.inj (hfr.symm.trans (show X.env.frame=some l from zl))).symm
  subst hl
  exact zfp (T:=some T) (by rw [I.ok.frames,hst]) hff hfr r1 r4 (.inr (.inr ⟨T,oT,ts,rfl,z1,z3,z4,z5,z6⟩)) fun h' l=>fin (some T) h' (fun b e=>by cases e; exact z2) l
end
def CXR (P:Program) (w:World):CXT:=fun outer H s E e s'=>∃a cls H' od,e=.ref a∧Fly P w outer H s H' a cls od s'∧E cls od H'
end DL
end
section
namespace DL
open PySem PySem.Spec PyProof.Rows L2 PySem.W PySem.Calls
theorem zkl {P:Program} {w:World} {H:Hp} {h:Heap} {a:Addr} {o:HO} (x:za6 P w H h a o):∃u,h.get? a=some u:=by
 cases o with
 | lst xs=>obtain ⟨_,_,_,_,e⟩:=x; exact ⟨_,e⟩
 | tup xs=>obtain ⟨_,_,_,_,o,e,_⟩:=x; exact ⟨_,e⟩
 | dK kvs=>obtain ⟨_,_,_,_,o,_,_,e,_⟩:=x; exact ⟨_,e⟩
 | dT kvs=>obtain ⟨_,_,_,_,o,_,_,e,_⟩:=x; exact ⟨_,e⟩
 | set S n=>obtain ⟨o,_,_,_,e,_⟩:=x; exact ⟨_,e⟩
 | ins C dx fs=>obtain ⟨_,_,_,e,_⟩:=x; exact ⟨_,e⟩
 | own y=>exact x
 | xd fs=>obtain ⟨_,⟨_,_,_,e,_⟩,_⟩:=x; exact ⟨_,e⟩
 | rng lo hi=>obtain ⟨_,_,_,e⟩:=x; exact ⟨_,e⟩
 | frz ob u=>obtain ⟨e,_⟩:=x; exact ⟨_,e⟩
 | tbl ps=>exact ⟨_,(show h.get? a=some _ from x)⟩
 | met f y=>exact ⟨_,(show h.get? a=some _ from x)⟩
 | ext φ=>exact x.2.1
abbrev vErr:List Value:=[Value.type "ValueError",Value.type "Exception",Value.type "BaseException",Value.type "object"]
theorem zib {h:Heap} {bmB bm:List Value} {v:Value} (t:OwnTail h bmB bm) (hb:bmB.contains v=true):bm.contains v=true:=by
 induction t with
 | base=>exact hb
 | own _ _ _ _ ih=>rw [List.contains_cons,ih,Bool.or_true]
structure XC (K:PySem.W.Frag) (mg:Str→Option Value) (x:Str) (C:Addr):Prop where
 bound:mg x=some (.ref C)
 exc:excIn K C vErr "ValueError.__new__" = true
section
variable {X:Cx} {pins:List (Addr × Obj)} {σ:L2.St} {H:Hp} {s:Shared} {x:Str} {C:Addr} {np cpos pos:Pos} {e₀:Expr} {rest:List Expr} {t:TA}
end
end DL
end
section
namespace DL
open PySem PySem.Spec PyProof.Rows L2
inductive D where
 | non | bl (b:Bool) | int (i:Int) | str (x:Str)
 | tup (ds:List D) | lst (ds:List D)
 | dic (kvs:List (Key × D))
 | obj (c:Nat) (fs:List (Str × D))
instance:Inhabited D:=⟨.non⟩
inductive Res (α:Type) where
 | ok (a:α) | exc (x:D) | stuck
def Res.bind {α β:Type} (r:Res α) (f:α→Res β):Res β:=match r with
 | .ok a=>f a
 | .exc x=>.exc x
 | .stuck=>.stuck
@[simp] theorem bind_ok {α β:Type} (a:α) (f:α→Res β):(Res.ok a).bind f=f a:=rfl
@[simp] theorem bind_exc {α β:Type} (x:D) (f:α→Res β):(Res.exc x:Res α).bind f=.exc x:=rfl
@[simp] theorem bind_stuck {α β:Type} (f:α→Res β):(Res.stuck:Res α).bind f=.stuck:=rfl
def fin {α:Type} (r:Res α) (q:α→Prop) (x:D→Prop):Prop:=match r with
 | .ok a=>q a
 | .exc e=>x e
 | .stuck=>False
theorem zaf {α:Type} {r:Res α} {q q':α→Prop} {x:D→Prop} (h:fin r q x) (hq:∀a,q a→q' a):fin r q' x:=by
 cases r with
 | ok a=>exact hq a h
 | exc e=>exact h
 | stuck=>exact h
theorem zah {α β:Type} {r:Res α} {f:α→Res β} {q:β→Prop} {x:D→Prop} (h:fin (r.bind f) q x):fin r (fun a=>fin (f a) q x) x:=by
 cases r with
 | ok a=>exact h
 | exc e=>exact h
 | stuck=>exact h
abbrev GH:=Addr→Option D
inductive Scl:V→D→Prop where
 | non:Scl .non .non
 | bl (b:Bool):Scl (.bl b) (.bl b)
 | int (i:Int):Scl (.int i) (.int i)
 | str (x:Str):Scl (.str x) (.str x)
inductive KC (K:PySem.W.Frag) (a:Addr):D→Prop where
 | lst {xs:List V} {ds:List D}:SqL K (fun _=>none) a xs→Paired Scl xs ds→KC K a (.lst ds)
 | tup {xs:List V} {ds:List D}:SqT K (fun _=>none) a xs→Paired Scl xs ds→(∃o,K.lookup a=some o∧o.cls=.type "tuple"∧o.dict=none)→KC K a (.tup ds)
inductive RG (K:PySem.W.Frag) (G:GH):V→D→Prop where
 | scl {v:V} {d:D}:Scl v d→RG K G v d
 | ref {a:Addr} {d:D}:G a=some d→RG K G (.ref a) d
 | kc {a:Addr} {d:D}:KC K a d→RG K G (.ref a) d
abbrev RGs (K:PySem.W.Frag) (G:GH):List V→List D→Prop:=Paired (RG K G)
abbrev RKs (K:PySem.W.Frag) (G:GH):List (Key × V)→List (Key × D)→Prop:=Paired fun p q=>p.1=q.1∧RG K G p.2 q.2
abbrev xD (nm:Str) (ds:List (Str × D)):D:=.obj 0 (("__class__",.str nm)::ds)
def XN (K:PySem.W.Frag) (nm:Str) (C:Addr):Prop:=∃o cd,K.lookup C=some o∧o.data=Data.cls cd∧cd.name=nm
def XcO (a C:Addr) (od:Option Addr):Heap→Prop:=fun h=>∃oe vs,h.get? a=some oe∧oe.cls=.ref C∧(∀dx,od=some dx→oe.dict=some dx)∧oe.data=.fields vs
def XF (G:GH) (od:Option Addr) (ds:List (Str × D)):Prop:=match od with
 | none=>ds=[]
 | some dx=>G dx=some (.obj 1 ds)
theorem XF.mono {G G':GH} {od:Option Addr} {ds:List (Str × D)} (h:XF G od ds) (ge:∀a d,G a=some d→G' a=some d):XF G' od ds:=by
 cases od with
 | none=>exact h
 | some dx=>exact ge _ _ h
abbrev RFs (K:PySem.W.Frag) (G:GH):List (Str × V)→List (Str × D)→Prop:=Paired fun p q=>p.1=q.1∧RG K G p.2 q.2
inductive OB (K:PySem.W.Frag) (G:GH) (H:Hp) (a:Addr):D→Prop where
 | lst {xs:List V} {ds:List D}:Rd H a (.lst xs)→RGs K G xs ds→OB K G H a (.lst ds)
 | tup {xs:List V} {ds:List D}:Rd H a (.tup xs)→RGs K G xs ds→OB K G H a (.tup ds)
 | dic {ob:Obj} {ps:List (Key × V)} {kvs:List (Key × D)}:H a=some (.frz ob (.dK ps))→RKs K G ps kvs→OB K G H a (.dic kvs)
 | exc {nm:Str} {C:Addr} {od:Option Addr} {ds:List (Str × D)}:H a=some (.ext (XcO a C od))→XN K nm C→XF G od ds→OB K G H a (xD nm ds)
 | fld {fs:List (Str × V)} {ds:List (Str × D)}:H a=some (.xd fs)→RFs K G fs ds→OB K G H a (.obj 1 ds)
def GOk (K:PySem.W.Frag) (G:GH) (H:Hp):Prop:=∀a d,G a=some d→OB K G H a d
inductive OwnO (K:PySem.W.Frag) (G:GH) (H:Hp) (a:Addr):D→Prop where
 | lst {xs:List V} {ds:List D}:H a=some (.lst xs)→RGs K G xs ds→OwnO K G H a (.lst ds)
 | dic {ps:List (Key × V)} {kvs:List (Key × D)}:H a=some (.dK ps)→RKs K G ps kvs→OwnO K G H a (.dic kvs)
structure Own (K:PySem.W.Frag) (G:GH) (H:Hp) (a:Addr) (d:D):Prop where
 un:G a=none
 ob:OwnO K G H a d
structure Grow (K:PySem.W.Frag) (G:GH) (H:Hp) (G':GH) (H':Hp):Prop where
 ok:GOk K G' H'
 he:∀a o,H a=some o→H' a=some o
 ge:∀a d,G a=some d→G' a=some d
 gf:∀a,H a≠none→G' a=G a
section
variable {K:PySem.W.Frag} {G G' G1 G2:GH} {H H' H1 H2:Hp} {a p:Addr} {d:D} {v:V}
theorem Rd.mono {u:HO} (h:Rd H a u) (he:∀a o,H a=some o→H' a=some o):Rd H' a u:=by
 rcases h with h | ⟨o,h⟩
 ·exact .inl (he _ _ h)
 ·exact .inr ⟨o,he _ _ h⟩
theorem Rd.isS {u:HO} (h:Rd H a u):H a≠none:=by
 rcases h with h | ⟨o,h⟩ <;> rw [h] <;> simp
theorem RG.mono (h:RG K G v d) (ge:∀a d,G a=some d→G' a=some d):RG K G' v d:=by
 cases h with
 | scl s=>exact .scl s
 | ref e=>exact .ref (ge _ _ e)
 | kc k=>exact .kc k
theorem RGs.mono {xs:List V} {ds:List D} (h:RGs K G xs ds) (ge:∀a d,G a=some d→G' a=some d):RGs K G' xs ds:=Paired.mono (fun _ _ r=>r.mono ge) h
theorem RKs.mono {xs:List (Key × V)} {ds:List (Key × D)} (h:RKs K G xs ds) (ge:∀a d,G a=some d→G' a=some d):RKs K G' xs ds:=Paired.mono (fun _ _ r=>⟨r.1,r.2.mono ge⟩) h
theorem OB.mono (h:OB K G H a d) (ge:∀a d,G a=some d→G' a=some d) (he:∀o,H a=some o→H' a=some o):OB K G' H' a d:=by
 have rd:∀{u:HO},Rd H a u→Rd H' a u:=fun r=>by
  rcases r with r | ⟨o,r⟩
  ·exact .inl (he _ r)
  ·exact .inr ⟨o,he _ r⟩
 cases h with
 | lst r s=>exact .lst (rd r) (s.mono ge)
 | tup r s=>exact .tup (rd r) (s.mono ge)
 | dic r s=>exact .dic (he _ r) (RKs.mono s ge)
 | exc r n f=>exact .exc (he _ r) n (f.mono ge)
 | fld r s=>exact .fld (he _ r) (Paired.mono (fun _ _ r=>⟨r.1,r.2.mono ge⟩) s)
theorem OB.isS (h:OB K G H a d):H a≠none:=by
 cases h with
 | lst r s=>exact Rd.isS r
 | tup r s=>exact Rd.isS r
 | dic r s=>rw [r]; simp
 | exc r n f=>rw [r]; simp
 | fld r s=>rw [r]; simp
theorem GOk.isN (g:GOk K G H) (h:H p=none):G p=none:=by
 cases e:G p with
 | none=>rfl
 | some d=>exact absurd h (g p d e).isS
theorem OwnO.isS (h:OwnO K G H a d):H a≠none:=by
 cases h with
 | lst r s=>rw [r]; simp
 | dic r s=>rw [r]; simp
theorem OwnO.mono (h:OwnO K G H a d) (ge:∀a d,G a=some d→G' a=some d) (he:∀o,H a=some o→H' a=some o):OwnO K G' H' a d:=by
 cases h with
 | lst r s=>exact .lst (he _ r) (s.mono ge)
 | dic r s=>exact .dic (he _ r) (RKs.mono s ge)
theorem Own.mono (h:Own K G H a d) (w:Grow K G H G' H'):Own K G' H' a d:=
 ⟨by rw [w.gf a h.ob.isS]; exact h.un,h.ob.mono w.ge fun o e=>w.he _ _ e⟩
def fz (H:Hp) (a:Addr) (ob:Obj):Hp:=match H a with
 | some (.dK ps)=>upd H a (.frz ob (.dK ps))
 | _=>H
theorem zkL {b:Addr} {ob:Obj} (h:b≠a):fz H a ob b=H b:=by
 unfold fz
 cases e:H a with
 | none=>rfl
 | some u=>cases u <;> first | rfl | exact zal h
theorem zq4 {xs:List V} {ob:Obj} (h:H a=some (.lst xs)):fz H a ob=H:=by
 unfold fz
 rw [h]
theorem zq5 {ps:List (Key × V)} {ob:Obj} (h:H a=some (.dK ps)):fz H a ob a=some (.frz ob (.dK ps)):=by
 unfold fz
 rw [h]; exact zak
theorem OwnO.fast (h:OwnO K G H a d) (ob:Obj):OB K G (fz H a ob) a d:=by
 cases h with
 | lst r s=>rw [zq4 r]; exact .lst (.inl r) s
 | dic r s=>exact .dic (zq5 r) s
theorem GOk.fast (g:GOk K G H) (hn:G a=none) (ob:Obj):GOk K G (fz H a ob):=fun b d e=>by
 have hb:b≠a:=by rintro rfl; rw [hn] at e; cases e
 exact (g b d e).mono (fun _ _ z=>z) fun o z=>by rw [zkL hb]; exact z
theorem Grow.refl (g:GOk K G H):Grow K G H G H:=⟨g,fun _ _ e=>e,fun _ _ e=>e,fun _ _=>rfl⟩
theorem Grow.trans (x:Grow K G H G1 H1) (y:Grow K G1 H1 G2 H2):Grow K G H G2 H2:=
 ⟨y.ok,fun a o e=>y.he _ _ (x.he _ _ e),fun a d e=>y.ge _ _ (x.ge _ _ e),fun a h=>by
  have h1:H1 a≠Option.none:=by
   cases e:H a with
   | none=>exact absurd e h
   | some o=>rw [x.he _ _ e]; simp
  rw [y.gf a h1,x.gf a h]⟩
def gset (G:GH) (a:Addr) (d:D):GH:=fun b=>if b=a then some d else G b
theorem zax:gset G a d a=some d:=if_pos rfl
theorem za4 {b:Addr} (h:b≠a):gset G a d b=G b:=if_neg h
theorem zbc (hn:G a=none):∀b e,G b=some e→gset G a d b=some e:=fun b e h=>by
 have:b≠a:=by rintro rfl; rw [hn] at h; cases h
 rw [za4 this]; exact h
theorem GOk.gset (g:GOk K G H) (hn:G a=none) (o:OB K G H a d):GOk K (gset G a d) H:=fun b e h=>by
 by_cases hb:b=a
 ·subst hb; rw [zax] at h; cases h
  exact o.mono (zbc hn) fun _ q=>q
 ·rw [za4 hb] at h
  exact (g b e h).mono (zbc hn) fun _ q=>q
theorem zjD (hn:H p=none) {o:HO}:∀a u,H a=some u→upd H p o a=some u:=fun a u e=>by
 rw [zal (zbv e hn)]; exact e
theorem Grow.new (g:GOk K G H) (hn:H p=none) (o:HO):Grow K G H G (upd H p o):=
 ⟨fun a d e=>(g a d e).mono (fun _ _ q=>q) fun u q=>zjD hn _ _ q,fun a u e=>zjD hn _ _ e,fun _ _ e=>e,fun _ _=>rfl⟩
theorem Grow.newF (g:GOk K G H) (hn:H p=none) {o:HO} (ob:OB K G (upd H p o) p d):Grow K G H (gset G p d) (upd H p o):=by
 have w:=Grow.new g hn o
 have gn:=g.isN hn
 exact ⟨w.ok.gset gn ob,w.he,fun a e h=>zbc gn a e h,fun a h=>za4 (by rintro rfl; exact h hn)⟩
theorem Grow.frz (w:Grow K G H G' H') (hn:H a=none) (o:Own K G' H' a d) (ob:Obj):Grow K G H (gset G' a d) (fz H' a ob):=
 ⟨(w.ok.fast o.un ob).gset o.un (o.ob.fast ob),fun b u e=>by rw [zkL (by rintro rfl; rw [hn] at e; cases e)]; exact w.he b u e,fun b e h=>zbc o.un b e (w.ge b e h),fun b h=>by rw [za4 (by rintro rfl; exact h hn)]; exact w.gf b h⟩
theorem RG.lst {ds:List D} (g:GOk K G H) (h:RG K G v (.lst ds)):∃a xs,v=.ref a∧SqL K H a xs∧RGs K G xs ds:=by
 cases h with
 | scl s=>cases s
 | ref e=>
  cases g _ _ e with
  | lst r s=>exact ⟨_,_,rfl,.inl r,s⟩
 | kc k=>
  cases k with
  | lst r s=>
   refine ⟨_,_,rfl,?_,Paired.mono (fun _ _ z=>.scl z) s⟩
   rcases r with (r | ⟨o,r⟩) | r
   ·cases r
   ·cases r
   ·exact .inr r
theorem RG.tup {ds:List D} (g:GOk K G H) (h:RG K G v (.tup ds)):∃a xs,v=.ref a∧SqT K H a xs∧RGs K G xs ds:=by
 cases h with
 | scl s=>cases s
 | ref e=>
  cases g _ _ e with
  | tup r s=>exact ⟨_,_,rfl,.inl r,s⟩
 | kc k=>
  cases k with
  | tup r s _=>
   refine ⟨_,_,rfl,?_,Paired.mono (fun _ _ z=>.scl z) s⟩
   rcases r with (r | ⟨o,r⟩) | r
   ·cases r
   ·cases r
   ·exact .inr r
theorem RG.dic {kvs:List (Key × D)} (g:GOk K G H) (h:RG K G v (.dic kvs)):∃a ps,v=.ref a∧Rd H a (.dK ps)∧RKs K G ps kvs:=by
 cases h with
 | scl s=>cases s
 | ref e=>
  cases g _ _ e with
  | dic r s=>exact ⟨_,_,rfl,.inr ⟨_,r⟩,s⟩
 | kc k=>cases k
theorem RG.int {i:Int} (g:GOk K G H) (h:RG K G v (.int i)):v=.int i:=by
 cases h with
 | scl s=>cases s; rfl
 | ref e=>cases g _ _ e
 | kc k=>cases k
theorem RG.str {x:Str} (g:GOk K G H) (h:RG K G v (.str x)):v=.str x:=by
 cases h with
 | scl s=>cases s; rfl
 | ref e=>cases g _ _ e
 | kc k=>cases k
theorem RG.bl {b:Bool} (g:GOk K G H) (h:RG K G v (.bl b)):v=.bl b:=by
 cases h with
 | scl s=>cases s; rfl
 | ref e=>cases g _ _ e
 | kc k=>cases k
theorem RG.non (g:GOk K G H) (h:RG K G v .non):v=.non:=by
 cases h with
 | scl s=>cases s; rfl
 | ref e=>cases g _ _ e
 | kc k=>cases k
def RB (K:PySem.W.Frag) (G:GH) (H:Hp) (v:V) (d:D):Prop:=RG K G v d∨∃a,v=.ref a∧Own K G H a d
theorem RG.rb (h:RG K G v d):RB K G H v d:=.inl h
theorem RB.mono (h:RB K G H v d) (w:Grow K G H G' H'):RB K G' H' v d:=by
 rcases h with h | ⟨a,e,h⟩
 ·exact .inl (h.mono w.ge)
 ·exact .inr ⟨a,e,h.mono w⟩
theorem RB.lst {ds:List D} (g:GOk K G H) (h:RB K G H v (.lst ds)):∃a xs,v=.ref a∧SqL K H a xs∧RGs K G xs ds:=by
 rcases h with h | ⟨a,e,h⟩
 ·exact h.lst g
 ·cases h.ob with
  | lst r s=>exact ⟨a,_,e,SqL.of r,s⟩
theorem RB.tup {ds:List D} (g:GOk K G H) (h:RB K G H v (.tup ds)):∃a xs,v=.ref a∧SqT K H a xs∧RGs K G xs ds:=by
 rcases h with h | ⟨a,e,h⟩
 ·exact h.tup g
 ·cases h.ob
theorem RB.dic {kvs:List (Key × D)} (g:GOk K G H) (h:RB K G H v (.dic kvs)):∃a ps,v=.ref a∧Rd H a (.dK ps)∧RKs K G ps kvs:=by
 rcases h with h | ⟨a,e,h⟩
 ·exact h.dic g
 ·cases h.ob with
  | dic r s=>exact ⟨a,_,e,.inl r,s⟩
theorem RB.int {i:Int} (g:GOk K G H) (h:RB K G H v (.int i)):v=.int i:=by
 rcases h with h | ⟨a,e,h⟩
 ·exact h.int g
 ·cases h.ob
theorem RB.str {x:Str} (g:GOk K G H) (h:RB K G H v (.str x)):v=.str x:=by
 rcases h with h | ⟨a,e,h⟩
 ·exact h.str g
 ·cases h.ob
theorem RB.bl {b:Bool} (g:GOk K G H) (h:RB K G H v (.bl b)):v=.bl b:=by
 rcases h with h | ⟨a,e,h⟩
 ·exact h.bl g
 ·cases h.ob
theorem RB.non (g:GOk K G H) (h:RB K G H v .non):v=.non:=by
 rcases h with h | ⟨a,e,h⟩
 ·exact h.non g
 ·cases h.ob
theorem Paired.get {α β:Type} {F:α→β→Prop}:∀{l:List α} {r:List β} {i:Nat} {b:β},Paired F l r→r[i]? = some b→∃a,l[i]? = some a∧F a b
 | _,_,_,_,.nil,e=>by simp at e
 | _,_,0,_,.cons h _,e=>by simp at e; subst e; exact ⟨_,rfl,h⟩
 | _,_,i + 1,b,.cons _ t,e=>by
  obtain ⟨a,h1,h2⟩:=Paired.get (i:=i) t (by simpa using e)
  exact ⟨a,by simpa using h1,h2⟩
theorem Paired.app {α β:Type} {F:α→β→Prop} {l l':List α} {r r':List β} (h:Paired F l r) (q:Paired F l' r'):Paired F (l++l') (r++r'):=by
 induction h with
 | nil=>exact q
 | cons h _ ih=>exact .cons h ih
theorem Paired.tk {α β:Type} {F:α→β→Prop} {l:List α} {r:List β} (n:Nat) (h:Paired F l r):Paired F (l.take n) (r.take n):=by
 induction h generalizing n with
 | nil=>cases n <;> exact .nil
 | cons h _ ih=>cases n with
  | zero=>exact .nil
  | succ n=>exact .cons h (ih n)
theorem Paired.dr {α β:Type} {F:α→β→Prop} {l:List α} {r:List β} (n:Nat) (h:Paired F l r):Paired F (l.drop n) (r.drop n):=by
 induction h generalizing n with
 | nil=>cases n <;> exact .nil
 | cons h t ih=>cases n with
  | zero=>exact .cons h t
  | succ n=>exact ih n
theorem Paired.st {α β:Type} {F:α→β→Prop} {a:α} {b:β} (h:F a b) {l:List α} {r:List β} (n:Nat) (p:Paired F l r):Paired F (l.set n a) (r.set n b):=by
 induction p generalizing n with
 | nil=>exact .nil
 | cons q t ih=>cases n with
  | zero=>exact .cons h t
  | succ n=>exact .cons q (ih n)
end
inductive Md where
 | sh | ow | bw
 deriving DecidableEq
abbrev Rho:=List (Option D)
structure GE where
 gh:GH
 h0:Hp
 hd:Nat→Option (Option V × Option D)
def Bw (K:PySem.W.Frag) (h0:Hp) (G:GH) (H:Hp) (v:V) (d:D):Prop:=RG K G v d∨∃a,v=V.ref a∧Own K G H a d∧h0 a≠none
theorem Bw.grow {K:PySem.W.Frag} {h0:Hp} {G G':GH} {H H':Hp} {v:V} {d:D} (h:Bw K h0 G H v d) (w:Grow K G H G' H'):Bw K h0 G' H' v d:=by
 rcases h with h | ⟨a,e,h1,h2⟩
 ·exact .inl (h.mono w.ge)
 ·exact .inr ⟨a,e,h1.mono w,h2⟩
theorem Bw.rb {K:PySem.W.Frag} {h0:Hp} {G:GH} {H:Hp} {v:V} {d:D} (h:Bw K h0 G H v d):RB K G H v d:=by
 rcases h with h | ⟨a,e,h1,h2⟩
 ·exact .inl h
 ·exact .inr ⟨a,e,h1⟩
def Lk (r:Rho) (st:L2.St) (i:Nat) (o:Option V × Option D):Prop:=st[i]? = some o.1∧∀d,r[i]? = some (some d)→o.2=some d
structure SI (X:Cx) (g:GE) (m:List Md) (r:Rho) (G:GH) (st:L2.St) (H:Hp):Prop where
 gok:GOk X.K G H
 old:∀a o,g.h0 a=some o→H a=some o
 ge:∀a d,g.gh a=some d→G a=some d
 gf:∀a,g.h0 a≠none→G a=g.gh a
 lm:m.length=st.length
 lr:r.length=st.length
 sh:∀(i:Nat) d,r[i]? = some (some d)→m[i]? = some .sh→∃v,st[i]? = some (some v)∧RG X.K G v d
 ow:∀(i:Nat) d,r[i]? = some (some d)→m[i]? = some .ow→∃a,st[i]? = some (some (V.ref a))∧Own X.K G H a d∧g.h0 a=none
 bw:∀(i:Nat) d,r[i]? = some (some d)→m[i]? = some .bw→∃v,st[i]? = some (some v)∧Bw X.K g.h0 G H v d
 dis:∀(i j:Nat) a d e,i≠j→r[i]? = some (some d)→r[j]? = some (some e)→m[i]? = some .ow→m[j]? = some .ow→st[i]? = some (some (V.ref a))→st[j]? = some (some (V.ref a))→False
 lk:∀(i:Nat) o,g.hd i=some o→m[i]? = some .bw→Lk r st i o
section
variable {X:Cx} {g:GE} {m:List Md} {r:Rho} {G G':GH} {st:L2.St} {H H':Hp}
theorem SI.grow (s:SI X g m r G st H) (w:Grow X.K G H G' H'):SI X g m r G' st H' where
 gok:=w.ok
 old:=fun a o e=>w.he _ _ (s.old a o e)
 ge:=fun a d e=>w.ge _ _ (s.ge a d e)
 gf:=fun a h=>by
  have h1:H a≠none:=by
   cases e:g.h0 a with
   | none=>exact absurd e h
   | some o=>rw [s.old _ _ e]; simp
  rw [w.gf a h1,s.gf a h]
 lm:=s.lm
 lr:=s.lr
 sh:=fun i d h1 h2=>by obtain ⟨v,h3,h4⟩:=s.sh i d h1 h2; exact ⟨v,h3,h4.mono w.ge⟩
 ow:=fun i d h1 h2=>by obtain ⟨a,h3,h4,h5⟩:=s.ow i d h1 h2; exact ⟨a,h3,h4.mono w,h5⟩
 bw:=fun i d h1 h2=>by obtain ⟨v,h3,h4⟩:=s.bw i d h1 h2; exact ⟨v,h3,h4.grow w⟩
 dis:=s.dis
 lk:=s.lk
theorem SI.grown (s:SI X g m r G st H):Grow X.K g.gh g.h0 G H:=⟨s.gok,s.old,s.ge,s.gf⟩
theorem SI.frz (s:SI X g m r G st H) (i:Nat) (hi:m[i]? = some .ow):(∃G',(∀a d,G a=some d→G' a=some d)∧SI X g (m.set i .sh) r G' st H)∨∃a,∀ob,∃G',(∀a d,G a=some d→G' a=some d)∧SI X g (m.set i .sh) r G' st (fz H a ob):=by
 have hlt:i < m.length:=(List.getElem?_eq_some_iff.mp hi).1
 by_cases hb:∃d,r[i]? = some (some d)
 ·obtain ⟨d,hd⟩:=hb
  obtain ⟨a,h1,h2,h3⟩:=s.ow i d hd hi
  refine .inr ⟨a,fun ob=>⟨gset G a d,zbc h2.un,(s.gok.fast h2.un ob).gset h2.un (h2.ob.fast ob),fun b o e=>by rw [zkL (by rintro rfl; rw [h3] at e; cases e)]; exact s.old b o e,fun b e h=>zbc h2.un b e (s.ge b e h),fun b h=>?_,by simpa using s.lm,s.lr,?_,?_,?_,?_,fun j o hj hm=>?_⟩⟩
  ·rw [za4 (by rintro rfl; exact h h3)]; exact s.gf b h
  ·intro j e hj hm
   by_cases hij:i=j
   ·subst hij
    rw [hd] at hj; cases hj
    exact ⟨_,h1,.ref zax⟩
   ·rw [List.getElem?_set_ne hij] at hm
    obtain ⟨v,q1,q2⟩:=s.sh j e hj hm
    exact ⟨v,q1,q2.mono (zbc h2.un)⟩
  ·intro j e hj hm
   by_cases hij:i=j
   ·subst hij
    rw [List.getElem?_set_self hlt] at hm; cases hm
   ·rw [List.getElem?_set_ne hij] at hm
    obtain ⟨b,q1,q2,q3⟩:=s.ow j e hj hm
    have hba:b≠a:=by
     rintro rfl
     exact s.dis i j b d e hij hd hj hi hm h1 q1
    exact ⟨b,q1,⟨by rw [za4 hba]; exact q2.un,q2.ob.mono (zbc h2.un) fun _ z=>by rw [zkL hba]; exact z⟩,q3⟩
  ·intro j e hj hm
   by_cases hij:i=j
   ·subst hij
    rw [List.getElem?_set_self hlt] at hm; cases hm
   ·rw [List.getElem?_set_ne hij] at hm
    obtain ⟨v,q1,q2⟩:=s.bw j e hj hm
    refine ⟨v,q1,?_⟩
    rcases q2 with q2 | ⟨b,rfl,q2,q3⟩
    ·exact .inl (q2.mono (zbc h2.un))
    ·have hba:b≠a:=by rintro rfl; exact q3 h3
     exact .inr ⟨b,rfl,⟨by rw [za4 hba]; exact q2.un,q2.ob.mono (zbc h2.un) fun _ z=>by rw [zkL hba]; exact z⟩,q3⟩
  ·intro j k b e e' hjk hj hk hm hm' q1 q2
   have hij:i≠j:=by
    rintro rfl
    rw [List.getElem?_set_self hlt] at hm; cases hm
   have hik:i≠k:=by
    rintro rfl
    rw [List.getElem?_set_self hlt] at hm'; cases hm'
   rw [List.getElem?_set_ne hij] at hm
   rw [List.getElem?_set_ne hik] at hm'
   exact s.dis j k b e e' hjk hj hk hm hm' q1 q2
  ·refine s.lk j o hj ?_
   by_cases hij:i=j
   ·subst hij; rw [List.getElem?_set_self hlt] at hm; cases hm
   ·rw [List.getElem?_set_ne hij] at hm; exact hm
 ·refine .inl ⟨G,fun _ _ z=>z,s.gok,s.old,s.ge,s.gf,by simpa using s.lm,s.lr,?_,?_,?_,?_,fun j o hj hm=>?_⟩
  ·intro j e hj hm
   have hij:i≠j:=by rintro rfl; exact hb ⟨e,hj⟩
   rw [List.getElem?_set_ne hij] at hm
   exact s.sh j e hj hm
  ·intro j e hj hm
   have hij:i≠j:=by rintro rfl; exact hb ⟨e,hj⟩
   rw [List.getElem?_set_ne hij] at hm
   exact s.ow j e hj hm
  ·intro j e hj hm
   have hij:i≠j:=by rintro rfl; exact hb ⟨e,hj⟩
   rw [List.getElem?_set_ne hij] at hm
   exact s.bw j e hj hm
  ·intro j k b e e' hjk hj hk hm hm' q1 q2
   have hij:i≠j:=by rintro rfl; exact hb ⟨e,hj⟩
   have hik:i≠k:=by rintro rfl; exact hb ⟨e',hk⟩
   rw [List.getElem?_set_ne hij] at hm
   rw [List.getElem?_set_ne hik] at hm'
   exact s.dis j k b e e' hjk hj hk hm hm' q1 q2
  ·refine s.lk j o hj ?_
   by_cases hij:i=j
   ·subst hij; rw [List.getElem?_set_self hlt] at hm; cases hm
   ·rw [List.getElem?_set_ne hij] at hm; exact hm
end
end DL
end
section
namespace DL
open PySem PySem.Spec PyProof.Rows L2
theorem PE.imp {X:Cx} {e:Expr} {t t':TE} (h:PE X e t) (i:∀σ H Q,t' σ H Q→t σ H Q):PE X e t':=fun pins s σ H Q I q=>h pins s σ H Q I (i σ H Q q)
theorem PT.imp {X:Cx} {e:Expr} {t t':TT} (h:PT X e t) (i:∀σ H Q,t' σ H Q→t σ H Q):PT X e t':=fun pins s σ H Q I q=>h pins s σ H Q I (i σ H Q q)
theorem PW.imp {X:Cx} {e:Expr} {t t':TT} (h:PW X e t) (i:∀σ H Q,t' σ H Q→t σ H Q):PW X e t':=fun whole pins s σ H Q I q=>h whole pins s σ H Q I (i σ H Q q)
theorem PA.imp {X:Cx} {e:List Expr} {t t':TA} (h:PA X e t) (i:∀σ H Q,t' σ H Q→t σ H Q):PA X e t':=fun pos pins s σ H Q I q=>h pos pins s σ H Q I (i σ H Q q)
theorem PS.imp {X:Cx} {e:Stmt} {t t':TS} (h:PS X e t) (i:∀D σ H,t' D σ H→t D σ H):PS X e t':=fun pins s σ H D I q=>h pins s σ H D I (i D σ H q)
theorem PSs.imp {X:Cx} {e:List Stmt} {t t':TS} (h:PSs X e t) (i:∀D σ H,t' D σ H→t D σ H):PSs X e t':=fun pins s σ H D I q=>h pins s σ H D I (i D σ H q)
def ExV (X:Cx) (σ:L2.St) (G:GH) (H':Hp) (e:Value) (x:D) (s':Shared):Prop:=
 ∃pins s H1 a C od nm ds,e=.ref a∧x=xD nm ds∧XN X.K nm C∧XF G od ds∧Inv X pins σ H1 s∧Fly X.prog X.w X.stack H1 s H' a (.ref C) od s'
def XW (X:Cx) (σ:L2.St) (G:GH) (H:Hp) (x:D):Prop:=∀pins e s' G' H',Grow X.K G H G' H'→Inv X pins σ H' s'→ExV X σ G' H' e x s'→X.xe e s'
theorem XW.grow {X:Cx} {σ:L2.St} {G G1:GH} {H H1:Hp} {x:D} (h:XW X σ G H x) (w:Grow X.K G H G1 H1):XW X σ G1 H1 x:=fun pins e s' G' H' w' I q=>h pins e s' G' H' (w.trans w') I q
abbrev FE:=Rho→Res D
def tE (X:Cx) (g:GE) (m:List Md) (f:FE):TE:=fun σ H Q=>∃r G,SI X g m r G σ H∧fin (f r) (fun d=>∀v G' H',Grow X.K G H G' H'→RG X.K G' v d→Q v H') (XW X σ G H)
def tB (X:Cx) (g:GE) (m:List Md) (f:FE):TE:=fun σ H Q=>∃r G,SI X g m r G σ H∧fin (f r) (fun d=>∀v G' H',Grow X.K G H G' H'→RB X.K G' H' v d→Q v H') (XW X σ G H)
def tO (X:Cx) (g:GE) (m:List Md) (f:FE):TE:=fun σ H Q=>∃r G,SI X g m r G σ H∧fin (f r) (fun d=>∀a G' H',Grow X.K G H G' H'→H a=none→Own X.K G' H' a d→Q (.ref a) H') (XW X σ G H)
def tQ (X:Cx) (g:GE) (m:List Md) (f:Rho→Res Bool):TT:=fun σ H Q=>∃r G,SI X g m r G σ H∧fin (f r) (fun b=>∀G' H',Grow X.K G H G' H'→Q b H') (XW X σ G H)
def tL (X:Cx) (g:GE) (m:List Md) (f:Rho→Res (List D)):TA:=fun σ H Q=>∃r G,SI X g m r G σ H∧fin (f r) (fun ds=>∀vs G' H',Grow X.K G H G' H'→RGs X.K G' vs ds→Q vs H') (XW X σ G H)
def tLB (X:Cx) (g:GE) (m:List Md) (f:Rho→Res (List D)):TA:=fun σ H Q=>∃r G,SI X g m r G σ H∧fin (f r) (fun ds=>∀vs G' H',Grow X.K G H G' H'→Paired (RB X.K G' H') vs ds→Q vs H') (XW X σ G H)
def SE (X:Cx) (g:GE) (m:List Md) (e:Expr) (f:FE):Prop:=PE X e (tE X g m f)
def SB (X:Cx) (g:GE) (m:List Md) (e:Expr) (f:FE):Prop:=PE X e (tB X g m f)
def SO (X:Cx) (g:GE) (m:List Md) (e:Expr) (f:FE):Prop:=PE X e (tO X g m f)
def SQ (X:Cx) (g:GE) (m:List Md) (e:Expr) (f:Rho→Res Bool):Prop:=PT X e (tQ X g m f)
def SW (X:Cx) (g:GE) (m:List Md) (e:Expr) (f:Rho→Res Bool):Prop:=PW X e (tQ X g m f)
def SA (X:Cx) (g:GE) (m:List Md) (es:List Expr) (f:Rho→Res (List D)):Prop:=PA X es (tL X g m f)
def SAB (X:Cx) (g:GE) (m:List Md) (es:List Expr) (f:Rho→Res (List D)):Prop:=PA X es (tLB X g m f)
section
variable {X:Cx} {g:GE} {m:List Md} {e a b c:Expr} {f fa fb fc:FE} {pos:Pos}
theorem SE.toB (h:SE X g m e f):SB X g m e f:=PE.imp h fun σ H Q ⟨r,G,si,q⟩=>⟨r,G,si,zaf q fun d k v G' H' w z=>k v G' H' w z.rb⟩
theorem Inv.fast {pins:List (Addr × Obj)} {σ:L2.St} {H:Hp} {s:Shared} (I:Inv X pins σ H s) (a:Addr):∃ob,Inv X pins σ (fz H a ob) s:=by
 cases e:H a with
 | none=>exact ⟨{ cls:=.none,data:=.fields #[] },by unfold fz; rw [e]; exact I⟩
 | some u=>
  cases u with
  | dK ps=>
   obtain ⟨z1,z2,vs,z3,o,es,ep,z4,z5⟩:=(show za6 X.prog X.w H s.heap a (.dK ps) from I.hok a _ e)
   have ef:fz H a o=upd H a (.frz o (.dK ps)):=by unfold fz; rw [e]
   refine ⟨o,?_⟩
   rw [ef]
   exact I.write (t':=s.toks) (h':=s.heap) (x:=a) (e:=a) (by rw [e]; exact trivial) (.inl rfl) (fun b u _ q=>q) ⟨o,z4⟩ (show za6 X.prog X.w _ s.heap a (.frz o (.dK ps)) from ⟨z4,z1,z2,vs,z3,o,es,ep,z4,z5⟩)
  | _=>exact ⟨{ cls:=.none,data:=.fields #[] },by unfold fz; rw [e]; exact I⟩
theorem SO.toE (h:SO X g m e f):SE X g m e f:=by
 intro pins s σ H Q I ⟨r,G,si,q⟩
 refine thn (h pins s σ H (fun v H'=>∃a,v=.ref a∧∀ob,Q v (fz H' a ob)) I ⟨r,G,si,zaf q fun d k a G' H' w hn o=>⟨a,rfl,fun ob=>k _ _ _ (w.frz hn o ob) (.ref zax)⟩⟩) fun u s' ⟨v,H',I',rv,a,_,z⟩=>?_
 obtain ⟨ob,I2⟩:=Inv.fast I' a
 exact ⟨v,_,I2,rv,z ob⟩
theorem SO.toB (h:SO X g m e f):SB X g m e f:=h.toE.toB
theorem zgk {v:V} {d:D} (h:PE X e (tC v)) (s:Scl v d):SE X g m e fun _=>.ok d:=
 PE.imp h fun σ H Q ⟨r,G,si,q⟩=>q v G H (Grow.refl si.gok) (.scl s)
theorem zaw {i:Int} {j}:SE X g m (.Constant (.int i) j pos) fun _=>.ok (.int i):=zgk zqb (.int i)
theorem s_bl {i:Bool} {j}:SE X g m (.Constant (.bool i) j pos) fun _=>.ok (.bl i):=zgk zrN (.bl i)
theorem zen {j}:SE X g m (.Constant .none j pos) fun _=>.ok .non:=zgk zp9 .non
theorem zpv {i:Str} {j}:SE X g m (.Constant (.str i) j pos) fun _=>.ok (.str i):=zgk zmY (.str i)
def getV (r:Rho) (i:Nat):Res D:=match r[i]? with
 | some (some d)=>.ok d
 | _=>.stuck
theorem zgv {r:Rho} {i:Nat} {q:D→Prop} {x:D→Prop} (h:fin (getV r i) q x):∃d,r[i]? = some (some d)∧q d:=by
 unfold getV at h
 split at h
 ·rename_i d e; exact ⟨d,e,h⟩
 ·exact h.elim
theorem zrB (i:Nat) {x:Str} (hm:m[i]? = some .sh) (hN:X.N[i]? = some x) (hv:Vis X.env.scope x) (hd:(x == ("__debug__" : Str))=false:=by decide) (hcd:(x == ("__classdict__" : Str))=false:=by decide) :
  SE X g m (.Name x pos) fun r=>getV r i:=by
 refine PE.imp (zd5 hN hv hd hcd) fun σ H Q ⟨r,G,si,q⟩=>?_
 obtain ⟨d,e,k⟩:=zgv q
 obtain ⟨v,e1,e2⟩:=si.sh i d e hm
 exact ⟨v,e1,k v G H (Grow.refl si.gok) e2⟩
theorem zpu (i:Nat) {x:Str} (hm:i < m.length) (hN:X.N[i]? = some x) (hv:Vis X.env.scope x) (hd:(x == ("__debug__" : Str))=false:=by decide) (hcd:(x == ("__classdict__" : Str))=false:=by decide) :
  SB X g m (.Name x pos) fun r=>getV r i:=by
 refine PE.imp (zd5 hN hv hd hcd) fun σ H Q ⟨r,G,si,q⟩=>?_
 obtain ⟨d,e,k⟩:=zgv q
 have hm':m[i]? = some m[i]:=List.getElem?_eq_getElem hm
 cases h:m[i] with
 | sh=>
  obtain ⟨v,e1,e2⟩:=si.sh i d e (hm'.trans (by rw [h]))
  exact ⟨v,e1,k v G H (Grow.refl si.gok) e2.rb⟩
 | ow=>
  obtain ⟨v,e1,e2,_⟩:=si.ow i d e (hm'.trans (by rw [h]))
  exact ⟨_,e1,k _ G H (Grow.refl si.gok) (.inr ⟨v,rfl,e2⟩)⟩
 | bw=>
  obtain ⟨v,e1,e2⟩:=si.bw i d e (hm'.trans (by rw [h]))
  exact ⟨_,e1,k _ G H (Grow.refl si.gok) e2.rb⟩
theorem seq2 {β:Type} {k:D→D→Res β} {q:β→Prop} {R:V→V→Hp→Prop} {r:Rho} {G:GH} {σ:L2.St} {H:Hp} (si:SI X g m r G σ H)
  (h:fin ((fa r).bind fun d1=>(fb r).bind fun d2=>k d1 d2) q (XW X σ G H))
  (hk:∀d1 d2 v1 v2 G2 H2,Grow X.K G H G2 H2→RB X.K G2 H2 v1 d1→RB X.K G2 H2 v2 d2→fin (k d1 d2) q (XW X σ G H)→R v1 v2 H2) :
  tB X g m fa σ H fun v1 H1=>tB X g m fb σ H1 fun v2 H2=>R v1 v2 H2:=by
 refine ⟨r,G,si,zaf (zah h) fun d1 h1 v1 G1 H1 w1 r1=>⟨r,G1,si.grow w1,?_⟩⟩
 cases e:fb r with
 | ok d2=>
  rw [e] at h1
  exact fun v2 G2 H2 w2 r2=>hk d1 d2 v1 v2 G2 H2 (w1.trans w2) (r1.mono w2) r2 h1
 | exc x=>
  rw [e] at h1
  exact (show XW X σ G H x from h1).grow w1
 | stuck=>
  rw [e] at h1
  exact h1
def opt {α:Type}:Option α→Res α
 | some a=>.ok a
 | none=>.stuck
@[simp] theorem opt_some {α:Type} (a:α):opt (some a)=.ok a:=rfl
@[simp] theorem opt_none {α:Type}:opt (none:Option α)=.stuck:=rfl
theorem zaD {α:Type} {o:Option α} {q:α→Prop} {x:D→Prop} (h:fin (opt o) q x):∃a,o=some a∧q a:=by
 cases o with
 | none=>exact h.elim
 | some a=>exact ⟨a,rfl,h⟩
def OpD (K:PySem.W.Frag) (r:R2) (k:D→D→Option D):Prop:=∀(G:GH) (H:Hp) (v1 v2:V) (d1 d2 d:D) (Q:VK),GOk K G H→RB K G H v1 d1→RB K G H v2 d2→k d1 d2=some d →
 (∀v G' H',Grow K G H G' H'→RG K G' v d→Q v H')→r v1 v2 H Q
def f2 (fa fb:FE) (k:D→D→Option D):FE:=fun r=>(fa r).bind fun d1=>(fb r).bind fun d2=>opt (k d1 d2)
theorem znF {R:R2} {k:D→D→Option D} (ho:OpD X.K R k) (h:PE X e (tOp R (tB X g m fa) (tB X g m fb))):SE X g m e (f2 fa fb k):=by
 refine PE.imp h fun σ H Q ⟨r,G,si,q⟩=>?_
 refine seq2 si q fun d1 d2 v1 v2 G2 H2 w r1 r2 q2=>?_
 obtain ⟨d,e,q2⟩:=zaD q2
 exact ho G2 H2 v1 v2 d1 d2 d Q w.ok r1 r2 e fun v G' H' w' z=>q2 v G' H' (w.trans w') z
theorem zhG {op:Operator} {R:R2} {k:D→D→Option D} (hr:OpR X (binaryOp op) R) (ho:OpD X.K R k) (ha:SB X g m a fa) (hb:SB X g m b fb):SE X g m (.BinOp a op b pos) (f2 fa fb k):=znF ho (zrK hr ha hb)
theorem znI {op:CmpOp} {R:R2} {k:D→D→Option D} (hr:OpR X (compareOp op) R) (ho:OpD X.K R k) (ha:SB X g m a fa) (hb:SB X g m b fb) (hm:behindInMarks op b=false):SE X g m (.Compare a [op] [b] pos) (f2 fa fb k):=znF ho (zod hr ha hb hm)
def asB:D→Option Bool
 | .bl b=>some b
 | _=>none
def zaU (f:FE):Rho→Res Bool:=fun r=>(f r).bind fun d=>opt (asB d)
theorem zgZ {op:CmpOp} {R:R2} {k:D→D→Option D} (hr:OpR X (compareOp op) R) (ho:OpD X.K R k) (ha:SB X g m a fa) (hb:SB X g m b fb) (hm:behindInMarks op b=false):SQ X g m (.Compare a [op] [b] pos) (zaU (f2 fa fb k)):=by
 refine PT.imp (zn0 hr ha hb hm) fun σ H Q ⟨r,G,si,q⟩=>?_
 have e:zaU (f2 fa fb k) r=(fa r).bind fun d1=>(fb r).bind fun d2=>(opt (k d1 d2)).bind fun d=>opt (asB d):=by
  unfold zaU f2
  cases fa r with
  | ok d1=>cases fb r <;> rfl
  | exc _=>rfl
  | stuck=>rfl
 rw [e] at q
 refine seq2 (R:=fun x y H2=>R x y H2 fun x H'=>∃k,x=V.bl k∧Q k H') si q fun d1 d2 v1 v2 G2 H2 w r1 r2 q3=>?_
 obtain ⟨d,e,q3⟩:=zaD (zah q3)
 obtain ⟨b,eb,q3⟩:=zaD q3
 cases d with
 | bl b'=>
  cases eb
  exact ho G2 H2 v1 v2 d1 d2 _ _ w.ok r1 r2 e fun v G' H' w' z=>⟨_,z.bl w'.ok,q3 G' H' (w.trans w')⟩
 | _=>cases eb
end
end DL
end
section
namespace DL
open PySem PySem.Spec PyProof.Rows L2
instance decMul (i j:Int):Decidable (CMul i j):=by unfold CMul; infer_instance
instance decDiv (i j:Int):Decidable (CDiv i j):=by unfold CDiv; infer_instance
instance decPow (i j:Int):Decidable (CPow i j):=by unfold CPow; infer_instance
def zhU (k:Int→Int→D):D→D→Option D
 | .int a,.int b=>some (k a b)
 | _,_=>none
def zhd (C:Int→Int→Prop) [∀a b,Decidable (C a b)] (k:Int→Int→D):D→D→Option D
 | .int a,.int b=>if C a b then some (k a b) else none
 | _,_=>none
@[simp] theorem ints2_int (k:Int→Int→D) (a b:Int):zhU k (.int a) (.int b)=some (k a b):=rfl
@[simp] theorem intsC_int (C:Int→Int→Prop) [∀a b,Decidable (C a b)] (k:Int→Int→D) (a b:Int):zhd C k (.int a) (.int b)=if C a b then some (k a b) else none:=rfl
section
variable {K:PySem.W.Frag}
theorem zep {gv:Int→Int→V} {gd:Int→Int→D} (hs:∀i j,Scl (gv i j) (gd i j)):OpD K (rI0 gv) (zhU gd):=by
 intro G H v1 v2 d1 d2 d Q g r1 r2 e q
 unfold zhU at e
 split at e
 ·cases e
  exact ⟨_,_,r1.int g,r2.int g,q _ G H (Grow.refl g) (.scl (hs _ _))⟩
 ·cases e
theorem zeU {C:Int→Int→Prop} [∀a b,Decidable (C a b)] {gv:Int→Int→V} {gd:Int→Int→D} (hs:∀i j,Scl (gv i j) (gd i j)):OpD K (rI C gv) (zhd C gd):=by
 intro G H v1 v2 d1 d2 d Q g r1 r2 e q
 unfold zhd at e
 split at e
 ·split at e
  ·rename_i hc
   cases e
   exact ⟨_,_,r1.int g,r2.int g,hc,q _ G H (Grow.refl g) (.scl (hs _ _))⟩
  ·cases e
 ·cases e
end
abbrev subI:D→D→Option D:=zhU fun a b=>.int (a - b)
abbrev mulI:D→D→Option D:=zhd CMul fun a b=>.int (a * b)
abbrev zdz:D→D→Option D:=zhd CDiv fun a b=>.int (a / b)
abbrev modI:D→D→Option D:=zhd (fun _ b=>0 < b) fun a b=>.int (a % b)
abbrev powI:D→D→Option D:=zhd CPow fun a b=>.int (a ^ b.toNat)
abbrev ltI:D→D→Option D:=zhU fun a b=>.bl (decide (a < b))
abbrev leI:D→D→Option D:=zhU fun a b=>.bl (decide (a≤b))
abbrev gtI:D→D→Option D:=zhU fun a b=>.bl (decide (b < a))
section
variable {X:Cx} {g:GE} {m:List Md} {e a b c:Expr} {f fa fb fc:FE} {pos:Pos}
theorem znE (ha:SB X g m a fa) (hb:SB X g m b fb):SE X g m (.BinOp a .Sub b pos) (f2 fa fb subI):=zhG zqk (zep fun _ _=>.int _) ha hb
theorem zgR (ha:SB X g m a fa) (hb:SB X g m b fb):SE X g m (.BinOp a .Mult b pos) (f2 fa fb mulI):=zhG zqn (zeU fun _ _=>.int _) ha hb
theorem zeD (ha:SB X g m a fa) (hb:SB X g m b fb):SE X g m (.BinOp a .FloorDiv b pos) (f2 fa fb zdz):=zhG zoj (zeU fun _ _=>.int _) ha hb
theorem zdx (ha:SB X g m a fa) (hb:SB X g m b fb):SE X g m (.BinOp a .Mod b pos) (f2 fa fb modI):=zhG zqo (zeU fun _ _=>.int _) ha hb
theorem zpw (ha:SB X g m a fa) (hb:SB X g m b fb):SE X g m (.BinOp a .Pow b pos) (f2 fa fb powI):=zhG zql (zeU fun _ _=>.int _) ha hb
theorem s_lt (ha:SB X g m a fa) (hb:SB X g m b fb):SE X g m (.Compare a [.Lt] [b] pos) (f2 fa fb ltI):=znI zoi (zep fun _ _=>.bl _) ha hb (zd8 _)
theorem q_lt (ha:SB X g m a fa) (hb:SB X g m b fb):SQ X g m (.Compare a [.Lt] [b] pos) (zaU (f2 fa fb ltI)):=zgZ zoi (zep fun _ _=>.bl _) ha hb (zd8 _)
theorem q_gt (ha:SB X g m a fa) (hb:SB X g m b fb):SQ X g m (.Compare a [.Gt] [b] pos) (zaU (f2 fa fb gtI)):=zgZ zrQ (zep fun _ _=>.bl _) ha hb (zd8 _)
def f1 (fa:FE) (k:D→Option D):FE:=fun r=>(fa r).bind fun d=>opt (k d)
def negI:D→Option D
 | .int a=>some (.int (-a))
 | _=>none
@[simp] theorem negI_int (a:Int):negI (.int a)=some (.int (-a)):=rfl
theorem zlv (ha:SB X g m a fa):SE X g m (.UnaryOp .USub a pos) (f1 fa negI):=by
 refine PE.imp (zrJ zpd ha) fun σ H Q ⟨r,G,si,q⟩=>⟨r,G,si,zaf (zah q) fun d q1 v G1 H1 w1 r1=>?_⟩
 obtain ⟨d',e,q2⟩:=zaD q1
 cases d with
 | int i=>
  cases e
  exact ⟨i,r1.int w1.ok,q2 _ G1 H1 w1 (.scl (.int _))⟩
 | _=>cases e
def truD:D→Option Bool
 | .non=>some false
 | .bl b=>some b
 | .int i=>some (i != 0)
 | .str y=>if y.length≤sizeLine then some ((y.length:Int) != 0) else none
 | .lst ds=>some (! ds.isEmpty)
 | .tup ds=>some (! ds.isEmpty)
 | .dic kvs=>some (! kvs.isEmpty)
 | .obj _ _=>none
theorem zfq {α β:Type} {F:α→β→Prop} {l:List α} {r:List β} (h:Paired F l r):l.isEmpty=r.isEmpty:=by cases h <;> rfl
theorem zns {K:PySem.W.Frag} {G:GH} {H:Hp} {v:V} {d:D} {b:Bool} (gk:GOk K G H) (h:RB K G H v d) (e:truD d=some b):TruV K v H b:=by
 cases d with
 | non=>cases e; rw [h.non gk]; rfl
 | bl b'=>cases e; rw [h.bl gk]; rfl
 | int i=>cases e; rw [h.int gk]; rfl
 | str y=>
  rw [h.str gk]
  have e':(if y.length≤sizeLine then some ((y.length:Int) != 0) else none)=some b:=e
  by_cases hy:y.length≤sizeLine
  ·rw [if_pos hy] at e'; cases e'; exact ⟨hy,rfl⟩
  ·rw [if_neg hy] at e'; cases e'
 | lst ds=>
  cases e
  obtain ⟨a,xs,rfl,s,r⟩:=h.lst gk
  exact .inl ⟨xs,s,by rw [zfq r]⟩
 | tup ds=>
  cases e
  obtain ⟨a,xs,rfl,s,r⟩:=h.tup gk
  exact .inr (.inl ⟨xs,s,by rw [zfq r]⟩)
 | dic kvs=>
  cases e
  obtain ⟨a,xs,rfl,s,r⟩:=h.dic gk
  exact .inr (.inr ⟨xs,s,by rw [zfq r]⟩)
 | obj _ _=>cases e
def fTru (f:FE):Rho→Res Bool:=fun r=>(f r).bind fun d=>opt (truD d)
theorem zdf (ha:SB X g m a fa) (he:∀whole,isTrue a X.env whole=(do let v ←whole; standAt a.pos; holding [v] (truthy v)):=by intro _; rfl):SQ X g m a (fTru fa):=by
 refine PT.imp (zlO ha he) fun σ H Q ⟨r,G,si,q⟩=>⟨r,G,si,zaf (zah q) fun d q1 v G1 H1 w1 r1=>?_⟩
 obtain ⟨b,e,q2⟩:=zaD q1
 exact ⟨b,zns w1.ok r1 e,q2 G1 H1 w1⟩
abbrev FQ:=Rho→Res Bool
def fAnd (p q:FQ):FQ:=fun r=>(p r).bind fun c=>if c=true then q r else .ok false
def fOr (p q:FQ):FQ:=fun r=>(p r).bind fun c=>if c=true then .ok true else q r
def fNot (p:FQ):FQ:=fun r=>(p r).bind fun c=>.ok (! c)
variable {p q:FQ} {rest:List Expr}
theorem zr9 {α:Type} {r:Res α} {q:α→Prop} {x x':D→Prop} (h:fin r q x) (hx:∀e,x e→x' e):fin r q x':=by
 cases r with
 | ok a=>exact h
 | exc e=>exact hx e h
 | stuck=>exact h
theorem za0 {α:Type} {r:Res α} {σ:L2.St} {G G1:GH} {H H1:Hp} {P P':α→Prop} (h:fin r P (XW X σ G H)) (w:Grow X.K G H G1 H1) (hp:∀a,P a→P' a):fin r P' (XW X σ G1 H1):=zr9 (zaf h hp) fun _ x=>x.grow w
theorem zmV (ha:SQ X g m a p):SW X g m (.BoolOp .And [a] pos) p:=znY ha
theorem zja (ha:SQ X g m a p):SW X g m (.BoolOp .Or [a] pos) p:=zpS ha
theorem zpR (ha:SQ X g m a p) (hb:SW X g m (.BoolOp .And (b::rest) pos) q):SW X g m (.BoolOp .And (a::b::rest) pos) (fAnd p q):=by
 refine PW.imp (zpT ha hb) fun σ H Q ⟨r,G,si,k⟩=>⟨r,G,si,zaf (zah k) fun c k1 G1 H1 w1=>?_⟩
 cases c with
 | true=>rw [if_pos rfl] at k1 ⊢; exact ⟨r,G1,si.grow w1,za0 k1 w1 fun b z G' H' w'=>z G' H' (w1.trans w')⟩
 | false=>rw [if_neg Bool.false_ne_true] at k1 ⊢; exact k1 G1 H1 w1
theorem q_or (ha:SQ X g m a p) (hb:SW X g m (.BoolOp .Or (b::rest) pos) q):SW X g m (.BoolOp .Or (a::b::rest) pos) (fOr p q):=by
 refine PW.imp (zrG ha hb) fun σ H Q ⟨r,G,si,k⟩=>⟨r,G,si,zaf (zah k) fun c k1 G1 H1 w1=>?_⟩
 cases c with
 | true=>rw [if_pos rfl] at k1 ⊢; exact k1 G1 H1 w1
 | false=>rw [if_neg Bool.false_ne_true] at k1 ⊢; exact ⟨r,G1,si.grow w1,za0 k1 w1 fun b z G' H' w'=>z G' H' (w1.trans w')⟩
theorem SW.toQ (h:SW X g m e p):SQ X g m e p:=PW.pt h
theorem zff (ha:SQ X g m a p):SQ X g m (.UnaryOp .Not a pos) (fNot p):=
 PT.imp (zpV ha) fun σ H Q ⟨r,G,si,k⟩=>⟨r,G,si,zaf (zah k) fun c k1 G1 H1 w1=>k1 G1 H1 w1⟩
def vAnd (fa fb:FE):FE:=fun r=>(fa r).bind fun d=>(opt (asB d)).bind fun c=>if c=true then fb r else .ok (.bl false)
def vOr (fa fb:FE):FE:=fun r=>(fa r).bind fun d=>(opt (asB d)).bind fun c=>if c=true then .ok (.bl true) else fb r
def vNot (fa:FE):FE:=fun r=>(fa r).bind fun d=>(opt (asB d)).bind fun c=>.ok (.bl (! c))
theorem zlu {op} (h:SE X g m a fa):SE X g m (.BoolOp op [a] pos) fa:=zp7 h
theorem zlA (ha:SE X g m a fa) (hb:SE X g m (.BoolOp .And (b::rest) pos) fb):SE X g m (.BoolOp .And (a::b::rest) pos) (vAnd fa fb):=by
 refine PE.imp (zqf ha hb) fun σ H Q ⟨r,G,si,k⟩=>⟨r,G,si,zaf (zah k) fun d k1 v G1 H1 w1 r1=>?_⟩
 obtain ⟨c,e,k2⟩:=zaD (zah k1)
 cases d with
 | bl c'=>
  cases e
  refine ⟨_,r1.bl w1.ok,?_⟩
  cases c with
  | true=>rw [if_pos rfl] at k2 ⊢; exact ⟨r,G1,si.grow w1,za0 k2 w1 fun b z v G' H' w'=>z v G' H' (w1.trans w')⟩
  | false=>rw [if_neg Bool.false_ne_true] at k2 ⊢; exact k2 _ G1 H1 w1 (.scl (.bl _))
 | _=>cases e
theorem zpx (ha:SE X g m a fa):SE X g m (.UnaryOp .Not a pos) (vNot fa):=by
 refine PE.imp (zp8 ha) fun σ H Q ⟨r,G,si,k⟩=>⟨r,G,si,zaf (zah k) fun d k1 v G1 H1 w1 r1=>?_⟩
 obtain ⟨c,e,k2⟩:=zaD (zah k1)
 cases d with
 | bl c'=>cases e; exact ⟨_,r1.bl w1.ok,k2 _ G1 H1 w1 (.scl (.bl _))⟩
 | _=>cases e
def fIf (p:FQ) (fa fb:FE):FE:=fun r=>(p r).bind fun c=>if c=true then fa r else fb r
theorem zpA (hc:SQ X g m c p) (ha:SE X g m a fa) (hb:SE X g m b fb):SE X g m (.IfExp c a b pos) (fIf p fa fb):=by
 refine PE.imp (zlX hc ha hb) fun σ H Q ⟨r,G,si,k⟩=>⟨r,G,si,zaf (zah k) fun c k1 G1 H1 w1=>?_⟩
 cases c with
 | true=>rw [if_pos rfl] at k1 ⊢; exact ⟨r,G1,si.grow w1,za0 k1 w1 fun b z v G' H' w'=>z v G' H' (w1.trans w')⟩
 | false=>rw [if_neg Bool.false_ne_true] at k1 ⊢; exact ⟨r,G1,si.grow w1,za0 k1 w1 fun b z v G' H' w'=>z v G' H' (w1.trans w')⟩
variable {es:List Expr} {fl fr:Rho→Res (List D)}
def lNil:Rho→Res (List D):=fun _=>.ok []
def zab (fa:FE) (fl:Rho→Res (List D)):Rho→Res (List D):=fun r=>(fa r).bind fun d=>(fl r).bind fun ds=>.ok (d::ds)
theorem zbV:SA X g m [] lNil:=PA.imp zd6 fun σ H Q ⟨r,G,si,k⟩=>k [] G H (Grow.refl si.gok) .nil
theorem zaI (ha:SE X g m e fa) (hr:SA X g m es fl) (hs:starEach (e::es) X.env=(false,eval e X.env)::starEach es X.env:=by rfl):SA X g m (e::es) (zab fa fl):=by
 refine PA.imp (zbH ha hr hs) fun σ H Q ⟨r,G,si,k⟩=>⟨r,G,si,zaf (zah k) fun d k1 v G1 H1 w1 r1=>⟨r,G1,si.grow w1,?_⟩⟩
 exact za0 (zah k1) w1 fun ds z vs G2 H2 w2 r2=>z (v::vs) G2 H2 (w1.trans w2) (.cons (r1.mono w2.ge) r2)
theorem zbk:SAB X g m [] lNil:=PA.imp zd6 fun σ H Q ⟨r,G,si,k⟩=>k [] G H (Grow.refl si.gok) .nil
theorem zaL (ha:SB X g m e fa) (hr:SAB X g m es fl) (hs:starEach (e::es) X.env=(false,eval e X.env)::starEach es X.env:=by rfl):SAB X g m (e::es) (zab fa fl):=by
 refine PA.imp (zbH ha hr hs) fun σ H Q ⟨r,G,si,k⟩=>⟨r,G,si,zaf (zah k) fun d k1 v G1 H1 w1 r1=>⟨r,G1,si.grow w1,?_⟩⟩
 exact za0 (zah k1) w1 fun ds z vs G2 H2 w2 r2=>z (v::vs) G2 H2 (w1.trans w2) (.cons (r1.mono w2) r2)
def sz (ds:List D):Option (List D):=if ds.length≤sizeLine then some ds else none
theorem zny {ds ds':List D} (h:sz ds=some ds'):ds'=ds∧ds.length≤sizeLine:=by
 unfold sz at h; split at h
 ·rename_i hl; cases h; exact ⟨rfl,hl⟩
 ·cases h
theorem zrA {ds:List D} (h:ds.length≤sizeLine):sz ds=some ds:=if_pos h
def mkT (fl:Rho→Res (List D)):FE:=fun r=>(fl r).bind fun ds=>(opt (sz ds)).bind fun ds=>.ok (.tup ds)
def mkL (fl:Rho→Res (List D)):FE:=fun r=>(fl r).bind fun ds=>(opt (sz ds)).bind fun ds=>.ok (.lst ds)
theorem zfO {x1} (h:SA X g m es fl):SE X g m (.Tuple es x1 pos) (mkT fl):=by
 refine PE.imp (zp6 h) fun σ H Q ⟨r,G,si,k⟩=>⟨r,G,si,zaf (zah k) fun ds k1 vs G1 H1 w1 r1=>?_⟩
 obtain ⟨ds',e,k2⟩:=zaD (zah k1)
 obtain ⟨rfl,hl⟩:=zny e
 have hlen:=Paired.length r1
 refine ⟨by omega,fun p hp=>?_⟩
 exact k2 _ _ _ (w1.trans (Grow.newF (d:=.tup ds') w1.ok hp (.tup (.inl zak) r1))) (.ref zax)
theorem zg6 (h:SA X g m es fl):SO X g m (.List es pos) (mkL fl):=by
 refine PE.imp (zqa h) fun σ H Q ⟨r,G,si,k⟩=>⟨r,G,si,zaf (zah k) fun ds k1 vs G1 H1 w1 r1=>?_⟩
 obtain ⟨ds',e,k2⟩:=zaD (zah k1)
 obtain ⟨rfl,hl⟩:=zny e
 have hlen:=Paired.length r1
 refine ⟨by omega,fun p hp=>?_⟩
 have hn:H p=none:=by
  cases q:H p with
  | none=>rfl
  | some o=>rw [w1.he _ _ q] at hp; cases hp
 exact k2 p G1 _ (w1.trans (Grow.new w1.ok hp _)) hn ⟨w1.ok.isN hp,.lst zak r1⟩
end
end DL
end
section
namespace DL
open PySem PySem.Spec PyProof.Rows L2
def zle (K:PySem.W.Frag) (r:List V→Hp→VK→Prop) (k:List D→Option D):Prop:=∀(G:GH) (H:Hp) (vs:List V) (ds:List D) (d:D) (Q:VK),GOk K G H→Paired (RB K G H) vs ds→k ds=some d →
 (∀v G' H',Grow K G H G' H'→RG K G' v d→Q v H')→r vs H Q
def zrq (K:PySem.W.Frag) (r:List V→Hp→VK→Prop) (k:List D→Option D):Prop:=∀(G:GH) (H:Hp) (vs:List V) (ds:List D) (d:D) (Q:VK),GOk K G H→Paired (RB K G H) vs ds→k ds=some d →
 (∀a G' H',Grow K G H G' H'→H a=none→Own K G' H' a d→Q (.ref a) H')→r vs H Q
def fC (fl:Rho→Res (List D)) (k:List D→Option D):FE:=fun r=>(fl r).bind fun ds=>opt (k ds)
theorem Grow.back {K:PySem.W.Frag} {G G1:GH} {H H1:Hp} (w:Grow K G H G1 H1) {a:Addr} (hn:H1 a=none):H a=none:=by
 cases q:H a with
 | none=>rfl
 | some o=>rw [w.he _ _ q] at hn; cases hn
section
variable {X:Cx} {g:GE} {m:List Md} {e a b c:Expr} {f fa fb fc:FE} {pos p p2:Pos} {es:List Expr} {fl:Rho→Res (List D)} {x:Str} {id T:String} {R:List V→Hp→VK→Prop} {k:List D→Option D}
theorem s_cb (hk:zle X.K R k) (h:PE X e (tCB R (tLB X g m fl))):SE X g m e (fC fl k):=by
 refine PE.imp h fun σ H Q ⟨r,G,si,q⟩=>⟨r,G,si,zaf (zah q) fun ds q1 vs G1 H1 w1 r1=>?_⟩
 obtain ⟨d,e,q2⟩:=zaD q1
 exact hk G1 H1 vs ds d Q w1.ok r1 e fun v G' H' w' z=>q2 v G' H' (w1.trans w') z
theorem zpD (hk:zrq X.K R k) (h:PE X e (tCB R (tLB X g m fl))):SO X g m e (fC fl k):=by
 refine PE.imp h fun σ H Q ⟨r,G,si,q⟩=>⟨r,G,si,zaf (zah q) fun ds q1 vs G1 H1 w1 r1=>?_⟩
 obtain ⟨d,e,q2⟩:=zaD q1
 exact hk G1 H1 vs ds d Q w1.ok r1 e fun v G' H' w' hn z=>q2 v G' H' (w1.trans w') (w1.back hn) z
def lenD:List D→Option D
 | [.str y]=>if y.length≤sizeLine then some (.int y.length) else none
 | [.lst ds]=>some (.int ds.length)
 | [.tup ds]=>some (.int ds.length)
 | [.dic kvs]=>some (.int kvs.length)
 | _=>none
theorem zqF {K:PySem.W.Frag}:zle K (fun xs H Q=>(∃x n,xs=[x]∧LenV K x H n∧Q (.int n) H)∨∃a kvs,xs=[V.ref a]∧Rd H a (.dK kvs)∧Q (.int kvs.length) H) lenD:=by
 intro G H vs ds d Q gk rs e q
 unfold lenD at e
 split at e
 ·split at e
  ·cases e
   cases rs with
   | cons r t=>cases t; exact .inl ⟨_,_,rfl,by rw [r.str gk]; exact ⟨by assumption,rfl⟩,q _ G H (Grow.refl gk) (.scl (.int _))⟩
  ·cases e
 ·cases e
  cases rs with
  | cons r t=>
   cases t
   obtain ⟨a,xs,rfl,s,r⟩:=r.lst gk
   have:=Paired.length r
   exact .inl ⟨_,_,rfl,.inl ⟨xs,s,rfl⟩,q _ G H (Grow.refl gk) (.scl (by rw [this]; exact .int _))⟩
 ·cases e
  cases rs with
  | cons r t=>
   cases t
   obtain ⟨a,xs,rfl,s,r⟩:=r.tup gk
   have:=Paired.length r
   exact .inl ⟨_,_,rfl,.inr ⟨xs,s,rfl⟩,q _ G H (Grow.refl gk) (.scl (by rw [this]; exact .int _))⟩
 ·cases e
  cases rs with
  | cons r t=>
   cases t
   obtain ⟨a,xs,rfl,s,r⟩:=r.dic gk
   have:=Paired.length r
   exact .inr ⟨_,_,rfl,s,q _ G H (Grow.refl gk) (.scl (by rw [this]; exact .int _))⟩
 ·cases e
theorem zd3 (hg:Gl X "len") (hm:X.mg "len" = none) (ha:SAB X g m (e::es) fl) (he:starEach (e::es) X.env=(false,eval e X.env)::starEach es X.env:=by rfl) (hpl:(backTo pos (starEach es X.env)).any (·.1)=false:=by rfl) :
  SE X g m (.Call (.Name "len" p) (e::es) [] pos) (fC fl lenD):=s_cb zqF (zdp (zc2.or zmA zk2) hg hm PySem.boot_len ha (by decide) (by decide) he hpl)
def zjh:List D→Option D
 | [.lst ds]=>some (.lst ds)
 | [.tup ds]=>some (.lst ds)
 | _=>none
theorem zov {K:PySem.W.Frag}:zrq K (fun xs H Q=>∃p ys,xs=[.ref p]∧(SqL K H p ys∨SqT K H p ys)∧∀l,H l=none→Q (.ref l) (upd H l (.lst ys))) zjh:=by
 intro G H vs ds d Q gk rs e q
 have fin:∀{ys:List V} {zs:List D},RGs K G ys zs→(∀(a:Addr) (G':GH) (H':Hp),Grow K G H G' H'→H a=none→Own K G' H' a (.lst zs)→Q (.ref a) H')→∀l,H l=none→Q (.ref l) (upd H l (.lst ys)):=
  fun r q l hl=>q l G _ (Grow.new gk hl _) hl ⟨gk.isN hl,.lst zak r⟩
 unfold zjh at e
 split at e
 ·cases e
  cases rs with
  | cons r t=>
   cases t
   obtain ⟨a,xs,rfl,s,r⟩:=r.lst gk
   exact ⟨a,xs,rfl,.inl s,fin r q⟩
 ·cases e
  cases rs with
  | cons r t=>
   cases t
   obtain ⟨a,xs,rfl,s,r⟩:=r.tup gk
   exact ⟨a,xs,rfl,.inr s,fin r q⟩
 ·cases e
theorem zqx (hg:Gl X "list") (hm:X.mg "list" = none) (ha:SAB X g m (e::es) fl) (he:starEach (e::es) X.env=(false,eval e X.env)::starEach es X.env:=by rfl) (hpl:(backTo pos (starEach es X.env)).any (·.1)=false:=by rfl) :
  SO X g m (.Call (.Name "list" p) (e::es) [] pos) (fC fl zjh):=zpD zov (zdg zhq hg hm rfl ha (by decide) (by decide) he hpl)
def tupD:List D→Option D
 | [.lst ds]=>some (.tup ds)
 | [.tup ds]=>some (.tup ds)
 | _=>none
theorem zph {K:PySem.W.Frag}:zle K (fun xs H Q=>∃p ys,xs=[.ref p]∧((SqL K H p ys∧∀l,H l=none→Q (.ref l) (upd H l (.tup ys)))∨(SqT K H p ys∧Q (.ref p) H))) tupD:=by
 intro G H vs ds d Q gk rs e q
 unfold tupD at e
 split at e
 ·cases e
  cases rs with
  | cons r t=>
   cases t
   obtain ⟨a,xs,rfl,s,r⟩:=r.lst gk
   exact ⟨a,xs,rfl,.inl ⟨s,fun l hl=>q _ _ _ (Grow.newF gk hl (.tup (.inl zak) r)) (.ref zax)⟩⟩
 ·cases e
  cases rs with
  | cons r t=>
   cases t
   rcases r with r | ⟨a,_,o⟩
   ·obtain ⟨a,xs,rfl,s,r'⟩:=r.tup gk
    exact ⟨a,xs,rfl,.inr ⟨s,q _ G H (Grow.refl gk) r⟩⟩
   ·cases o.ob
 ·cases e
theorem zgj (hg:Gl X "tuple") (hm:X.mg "tuple" = none) (ha:SAB X g m (e::es) fl) (he:starEach (e::es) X.env=(false,eval e X.env)::starEach es X.env:=by rfl) (hpl:(backTo pos (starEach es X.env)).any (·.1)=false:=by rfl) :
  SE X g m (.Call (.Name "tuple" p) (e::es) [] pos) (fC fl tupD):=s_cb zph (zdg zgy hg hm rfl ha (by decide) (by decide) he hpl)
def ixD:D→D→Option D
 | .lst ds,.int i=>atI ds i
 | .tup ds,.int i=>atI ds i
 | .str z,.int i=>if z.length≤sizeLine then (atI z.cps.toList i).map fun c=>.str ⟨#[c]⟩ else none
 | _,_=>none
theorem zrj {K:PySem.W.Frag} {G:GH} {xs:List V} {ds:List D} {i:Int} {d:D} (r:RGs K G xs ds) (h:atI ds i=some d):∃v,atI xs i=some v∧RG K G v d:=by
 unfold atI at h ⊢
 rw [Paired.length r]
 cases e:ixN ds.length i with
 | none=>rw [e] at h; cases h
 | some j=>
  rw [e] at h
  exact Paired.get r h
theorem zoy {K:PySem.W.Frag}:OpD K (rIx K) ixD:=by
 intro G H v1 v2 d1 d2 d Q gk r1 r2 e q
 unfold ixD at e
 split at e
 ·obtain ⟨a,xs,rfl,s,r⟩:=r1.lst gk
  obtain ⟨v,ev,rv⟩:=zrj r e
  exact .inl ⟨a,xs,_,v,rfl,r2.int gk,s,ev,q v G H (Grow.refl gk) rv⟩
 ·obtain ⟨a,xs,rfl,s,r⟩:=r1.tup gk
  obtain ⟨v,ev,rv⟩:=zrj r e
  exact .inr (.inl ⟨a,xs,_,v,rfl,r2.int gk,s,ev,q v G H (Grow.refl gk) rv⟩)
 ·split at e
  ·rename_i z i hz
   cases ec:atI z.cps.toList i with
   | none=>rw [ec] at e; cases e
   | some c=>
    rw [ec] at e; cases e
    exact .inr (.inr ⟨z,i,c,r1.str gk,r2.int gk,hz,ec,q _ G H (Grow.refl gk) (.scl (.str _))⟩)
  ·cases e
 ·cases e
def cutL {α:Type} (xs:List α) (lo hi:Option Int):List α:=(xs.drop (HT.sIx xs.length 0 lo)).take (HT.sIx xs.length xs.length hi - HT.sIx xs.length 0 lo)
theorem zrh {α β:Type} {F:α→β→Prop} {xs:List α} {ds:List β} (r:Paired F xs ds) (lo hi:Option Int):Paired F (cutL xs lo hi) (cutL ds lo hi):=by
 unfold cutL
 rw [Paired.length r]
 exact Paired.tk _ (Paired.dr _ r)
abbrev FP:=Rho→Res (Option Int)
def tP (X:Cx) (g:GE) (m:List Md) (f:FP):TO:=fun σ H Q=>∃r G,SI X g m r G σ H∧fin (f r) (fun o=>∀G' H',Grow X.K G H G' H'→Q o H') (XW X σ G H)
def SP1 (X:Cx) (g:GE) (m:List Md) (e:Option Expr) (f:FP):Prop:=PO X e (tP X g m f)
theorem PO.imp {X:Cx} {e:Option Expr} {t t':TO} (h:PO X e t) (i:∀σ H Q,t' σ H Q→t σ H Q):PO X e t':=fun pins s σ H Q I q=>h pins s σ H Q I (i σ H Q q)
def asI:D→Option Int
 | .int i=>some i
 | _=>none
def zhk (f:FE):FP:=fun r=>(f r).bind fun d=>(opt (asI d)).bind fun i=>.ok (some i)
theorem zir:SP1 X g m none fun _=>.ok none:=PO.imp zn7 fun σ H Q ⟨r,G,si,q⟩=>q G H (Grow.refl si.gok)
theorem ziq (h:SB X g m e f):SP1 X g m (some e) (zhk f):=by
 refine PO.imp (zn6 h) fun σ H Q ⟨r,G,si,q⟩=>⟨r,G,si,zaf (zah q) fun d q1 v G1 H1 w1 r1=>?_⟩
 obtain ⟨i,e,q2⟩:=zaD (zah q1)
 cases d with
 | int j=>cases e; exact ⟨_,r1.int w1.ok,q2 G1 H1 w1⟩
 | _=>cases e
end
end DL
end
section
namespace DL
open PySem PySem.Spec PyProof.Rows L2
inductive Out where
 | nx (r:Rho) | rt (d:D) | bk (r:Rho) | ct (r:Rho) | exc (x:D) (r:Rho) | stuck
abbrev FS:=Rho→Out
def Gle (G G':GH):Prop:=∀a d,G a=some d→G' a=some d
theorem Gle.refl (G:GH):Gle G G:=fun _ _ e=>e
theorem Gle.trans {G G1 G2:GH} (a:Gle G G1) (b:Gle G1 G2):Gle G G2:=fun x d e=>b x d (a x d e)
def forget (m:List Md) (r:Rho):Rho:=List.zipWith (fun md o=>if md=Md.sh then o else none) m r
def zbG (m:List Md):List Md:=m.map fun _=>Md.sh
theorem zcG {m:List Md} {r:Rho} {i:Nat} {d:D} (h:(forget m r)[i]? = some (some d)):r[i]? = some (some d)∧m[i]? = some .sh:=by
 unfold forget at h
 rw [List.getElem?_zipWith] at h
 cases e1:m[i]? with
 | none=>rw [e1] at h; cases h
 | some md=>
  cases e2:r[i]? with
  | none=>rw [e1,e2] at h; cases h
  | some o=>
   rw [e1,e2] at h
   have h':(if md=Md.sh then o else none)=some d:=Option.some.inj h
   split at h'
   ·rename_i hm; subst hm; rw [h']; exact ⟨rfl,rfl⟩
   ·cases h'
section
variable {X:Cx} {g:GE} {m:List Md} {r:Rho} {G:GH} {st:L2.St} {H:Hp}
theorem SI.forget (s:SI X g m r G st H):SI X g (zbG m) (forget m r) G st H where
 gok:=s.gok
 old:=s.old
 ge:=s.ge
 gf:=s.gf
 lm:=by rw [zbG,List.length_map]; exact s.lm
 lr:=by rw [DL.forget,List.length_zipWith,s.lm,s.lr,Nat.min_self]
 sh:=fun i d h _=>s.sh i d (zcG h).1 (zcG h).2
 ow:=fun i d h hm=>by rw [zbG,List.getElem?_map,(zcG h).2] at hm; cases hm
 bw:=fun i d h hm=>by rw [zbG,List.getElem?_map,(zcG h).2] at hm; cases hm
 dis:=fun i j a d e _ h _ hm=>by rw [zbG,List.getElem?_map,(zcG h).2] at hm; cases hm
 lk:=fun i o _ hm=>by rw [zbG,List.getElem?_map] at hm; cases q:m[i]? <;> rw [q] at hm <;> cases hm
theorem SI.set (s:SI X g m r G st H) (i:Nat) {v:V} {d:D} (hv:RG X.K G v d):SI X g (m.set i .sh) (r.set i (some d)) G (st.set i (some v)) H where
 gok:=s.gok
 old:=s.old
 ge:=s.ge
 gf:=s.gf
 lm:=by simp [s.lm]
 lr:=by simp [s.lr]
 sh:=fun j e h hm=>by
  by_cases hij:i=j
  ·subst hij
   have hl:i < r.length:=by
    have:=(List.getElem?_eq_some_iff.mp h).1
    simpa using this
   rw [List.getElem?_set_self hl] at h
   cases h
   exact ⟨v,by rw [List.getElem?_set_self (by rw [←s.lr]; exact hl)],hv⟩
  ·rw [List.getElem?_set_ne hij] at h hm
   rw [List.getElem?_set_ne hij]
   exact s.sh j e h hm
 ow:=fun j e h hm=>by
  by_cases hij:i=j
  ·subst hij
   have hl:i < m.length:=by
    have:=(List.getElem?_eq_some_iff.mp hm).1
    simpa using this
   rw [List.getElem?_set_self hl] at hm; cases hm
  ·rw [List.getElem?_set_ne hij] at h hm
   rw [List.getElem?_set_ne hij]
   exact s.ow j e h hm
 bw:=fun j e h hm=>by
  by_cases hij:i=j
  ·subst hij
   have hl:i < m.length:=by
    have:=(List.getElem?_eq_some_iff.mp hm).1
    simpa using this
   rw [List.getElem?_set_self hl] at hm; cases hm
  ·rw [List.getElem?_set_ne hij] at h hm
   rw [List.getElem?_set_ne hij]
   exact s.bw j e h hm
 dis:=fun j k a d1 d2 hjk h1 h2 hm hm' q1 q2=>by
  have hij:i≠j:=by
   rintro rfl
   have hl:i < m.length:=by
    have:=(List.getElem?_eq_some_iff.mp hm).1
    simpa using this
   rw [List.getElem?_set_self hl] at hm; cases hm
  have hik:i≠k:=by
   rintro rfl
   have hl:i < m.length:=by
    have:=(List.getElem?_eq_some_iff.mp h2).1
    rw [List.length_set,s.lr,←s.lm] at this; exact this
   rw [List.getElem?_set_self hl] at hm'; cases hm'
  rw [List.getElem?_set_ne hij] at h1 hm q1
  rw [List.getElem?_set_ne hik] at h2 hm' q2
  exact s.dis j k a d1 d2 hjk h1 h2 hm hm' q1 q2
 lk:=fun j o hj hm=>by
  have hij:i≠j:=by
   rintro rfl
   have hl:i < m.length:=by
    have:=(List.getElem?_eq_some_iff.mp hm).1
    simpa using this
   rw [List.getElem?_set_self hl] at hm; cases hm
  rw [List.getElem?_set_ne hij] at hm
  have:=s.lk j o hj hm
  exact ⟨by rw [List.getElem?_set_ne hij]; exact this.1,fun d h=>this.2 d (by rw [List.getElem?_set_ne hij] at h; exact h)⟩
theorem SI.setO (s:SI X g m r G st H) (i:Nat) {a:Addr} {d:D} (ho:Own X.K G H a d) (h0:g.h0 a=none) (hx:∀(j:Nat) (b:Addr) (e:D),r[j]? = some (some e)→m[j]? = some Md.ow→st[j]? = some (some (V.ref b))→b≠a) :
  SI X g (m.set i .ow) (r.set i (some d)) G (st.set i (some (V.ref a))) H where
 gok:=s.gok
 old:=s.old
 ge:=s.ge
 gf:=s.gf
 lm:=by simp [s.lm]
 lr:=by simp [s.lr]
 sh:=fun j e h hm=>by
  by_cases hij:i=j
  ·subst hij
   have hl:i < m.length:=by
    have:=(List.getElem?_eq_some_iff.mp hm).1
    simpa using this
   rw [List.getElem?_set_self hl] at hm; cases hm
  ·rw [List.getElem?_set_ne hij] at h hm
   rw [List.getElem?_set_ne hij]
   exact s.sh j e h hm
 ow:=fun j e h hm=>by
  by_cases hij:i=j
  ·subst hij
   have hl:i < r.length:=by
    have:=(List.getElem?_eq_some_iff.mp h).1
    simpa using this
   rw [List.getElem?_set_self hl] at h
   cases h
   exact ⟨a,by rw [List.getElem?_set_self (by rw [←s.lr]; exact hl)],ho,h0⟩
  ·rw [List.getElem?_set_ne hij] at h hm
   rw [List.getElem?_set_ne hij]
   exact s.ow j e h hm
 bw:=fun j e h hm=>by
  by_cases hij:i=j
  ·subst hij
   have hl:i < m.length:=by
    have:=(List.getElem?_eq_some_iff.mp hm).1
    simpa using this
   rw [List.getElem?_set_self hl] at hm; cases hm
  ·rw [List.getElem?_set_ne hij] at h hm
   rw [List.getElem?_set_ne hij]
   exact s.bw j e h hm
 dis:=fun j k b d1 d2 hjk h1 h2 hm hm' q1 q2=>by
  by_cases hij:i=j
  ·subst hij
   rw [List.getElem?_set_ne hjk] at h2 hm' q2
   have hl:i < st.length:=by
    have:=(List.getElem?_eq_some_iff.mp q1).1
    simpa using this
   rw [List.getElem?_set_self hl] at q1
   have e:a=b:=by injection q1 with q1; injection q1 with q1; injection q1
   exact hx k b d2 h2 hm' q2 e.symm
  ·by_cases hik:i=k
   ·subst hik
    rw [List.getElem?_set_ne hij] at h1 hm q1
    have hl:i < st.length:=by
     have:=(List.getElem?_eq_some_iff.mp q2).1
     simpa using this
    rw [List.getElem?_set_self hl] at q2
    have e:a=b:=by injection q2 with q2; injection q2 with q2; injection q2
    exact hx j b d1 h1 hm q1 e.symm
   ·rw [List.getElem?_set_ne hij] at h1 hm q1
    rw [List.getElem?_set_ne hik] at h2 hm' q2
    exact s.dis j k b d1 d2 hjk h1 h2 hm hm' q1 q2
 lk:=fun j o hj hm=>by
  have hij:i≠j:=by
   rintro rfl
   have hl:i < m.length:=by
    have:=(List.getElem?_eq_some_iff.mp hm).1
    simpa using this
   rw [List.getElem?_set_self hl] at hm; cases hm
  rw [List.getElem?_set_ne hij] at hm
  have:=s.lk j o hj hm
  exact ⟨by rw [List.getElem?_set_ne hij]; exact this.1,fun d h=>this.2 d (by rw [List.getElem?_set_ne hij] at h; exact h)⟩
theorem SI.other (s:SI X g m r G st H) {p:Addr} (hp:G p=none) (h0:g.h0 p=none) (hm:∀(i:Nat),m[i]?≠some Md.ow) (o:HO):SI X g m r G st (upd H p o) where
 gok:=fun b e h=>(s.gok b e h).mono (fun _ _ z=>z) fun o' q=>by rw [zal (by rintro rfl; rw [hp] at h; cases h)]; exact q
 old:=fun b o' h=>by rw [zal (by rintro rfl; rw [h0] at h; cases h)]; exact s.old b o' h
 ge:=s.ge
 gf:=s.gf
 lm:=s.lm
 lr:=s.lr
 sh:=s.sh
 ow:=fun i d _ h=>absurd h (hm i)
 bw:=fun i d h1 h2=>by
  obtain ⟨v,h3,h4⟩:=s.bw i d h1 h2
  refine ⟨v,h3,?_⟩
  rcases h4 with h4 | ⟨a,rfl,h4,h5⟩
  ·exact .inl h4
  ·have ha:a≠p:=by rintro rfl; exact h5 h0
   exact .inr ⟨a,rfl,⟨h4.un,h4.ob.mono (fun _ _ z=>z) fun o' z=>by rw [zal ha]; exact z⟩,h5⟩
 dis:=fun i j a d e _ _ _ h=>absurd h (hm i)
 lk:=s.lk
theorem SI.less (s:SI X g m r G st H) {r':Rho} (hl:r'.length=r.length) (h:∀(i:Nat) d,r'[i]? = some (some d)→r[i]? = some (some d)):SI X g m r' G st H:=
 ⟨s.gok,s.old,s.ge,s.gf,s.lm,hl.trans s.lr,fun i d a b=>s.sh i d (h i d a) b,fun i d a b=>s.ow i d (h i d a) b,fun i d a b=>s.bw i d (h i d a) b,fun i j a d e n p q x y=>s.dis i j a d e n (h i d p) (h j e q) x y,fun i o hi hm=>by
  have:=s.lk i o hi hm
  exact ⟨this.1,fun d hd=>this.2 d (h i d hd)⟩⟩
theorem SI.held (s:SI X g m r G st H) {j:Nat} {b:Addr} {e:D} (h:r[j]? = some (some e)) (hm:m[j]? = some .ow) (hs:st[j]? = some (some (V.ref b))):H b≠none:=by
 obtain ⟨a,h1,h2,_⟩:=s.ow j e h hm
 rw [hs] at h1
 injection h1 with h1; injection h1 with h1; injection h1 with h1
 rw [h1]; exact h2.ob.isS
theorem SI.setN (s:SI X g m r G st H) {G':GH} {H':Hp} (w:Grow X.K G H G' H') (i:Nat) {a:Addr} {d:D} (hn:H a=none) (ho:Own X.K G' H' a d):SI X g (m.set i .ow) (r.set i (some d)) G' (st.set i (some (V.ref a))) H':=by
 refine (s.grow w).setO i ho ?_ fun j b e h1 h2 h3=>?_
 ·cases q:g.h0 a with
  | none=>rfl
  | some o=>rw [s.old _ _ q] at hn; cases hn
 ·rintro rfl
  exact s.held h1 h2 h3 hn
theorem SI.mut (s:SI X g m r G st H) {i:Nat} {d:D} (hm:m[i]? = some .ow) (hd:r[i]? = some (some d)) :
  ∃a,st[i]? = some (some (V.ref a))∧Own X.K G H a d∧∀(o':HO) (d':D),OwnO X.K G (upd H a o') a d'→SI X g m (r.set i (some d')) G st (upd H a o'):=by
 obtain ⟨a,h1,h2,h3⟩:=s.ow i d hd hm
 have hl:i < r.length:=(List.getElem?_eq_some_iff.mp hd).1
 refine ⟨a,h1,h2,fun o' d' ob=>?_⟩
 have oth:∀(j:Nat) (b:Addr) (e:D),j≠i→r[j]? = some (some e)→m[j]? = some .ow→st[j]? = some (some (V.ref b))→b≠a:=fun j b e hj q1 q2 q3 z=>by
  subst z
  exact s.dis i j b d e (Ne.symm hj) hd q1 hm q2 h1 q3
 refine ⟨fun b e h=>?_,fun b o h=>?_,s.ge,s.gf,s.lm,by simp [s.lr],?_,?_,?_,?_,fun j o hj hm'=>?_⟩
 ·have hb:b≠a:=by rintro rfl; rw [h2.un] at h; cases h
  exact (s.gok b e h).mono (fun _ _ z=>z) fun o q=>by rw [zal hb]; exact q
 ·have hb:b≠a:=by rintro rfl; rw [h3] at h; cases h
  rw [zal hb]; exact s.old b o h
 ·intro j e h hm'
  have hij:i≠j:=by rintro rfl; rw [hm] at hm'; cases hm'
  rw [List.getElem?_set_ne hij] at h
  exact s.sh j e h hm'
 ·intro j e h hm'
  by_cases hij:i=j
  ·subst hij
   rw [List.getElem?_set_self hl] at h; cases h
   exact ⟨a,h1,⟨h2.un,ob⟩,h3⟩
  ·rw [List.getElem?_set_ne hij] at h
   obtain ⟨b,q1,q2,q3⟩:=s.ow j e h hm'
   have hb:=oth j b e (Ne.symm hij) h hm' q1
   exact ⟨b,q1,⟨q2.un,q2.ob.mono (fun _ _ z=>z) fun o z=>by rw [zal hb]; exact z⟩,q3⟩
 ·intro j e h hm'
  have hij:i≠j:=by rintro rfl; rw [hm] at hm'; cases hm'
  rw [List.getElem?_set_ne hij] at h
  obtain ⟨v,q1,q2⟩:=s.bw j e h hm'
  refine ⟨v,q1,?_⟩
  rcases q2 with q2 | ⟨b,rfl,q2,q3⟩
  ·exact .inl q2
  ·have hb:b≠a:=by rintro rfl; exact q3 h3
   exact .inr ⟨b,rfl,⟨q2.un,q2.ob.mono (fun _ _ z=>z) fun o z=>by rw [zal hb]; exact z⟩,q3⟩
 ·have bound:∀(j:Nat) e,(r.set i (some d'))[j]? = some (some e)→∃e',r[j]? = some (some e'):=fun j e h=>by
   by_cases hij:i=j
   ·subst hij; exact ⟨d,hd⟩
   ·rw [List.getElem?_set_ne hij] at h; exact ⟨e,h⟩
  intro j k b d1 d2 hjk q1 q2 p1 p2 z1 z2
  obtain ⟨e1,q1⟩:=bound j d1 q1
  obtain ⟨e2,q2⟩:=bound k d2 q2
  exact s.dis j k b e1 e2 hjk q1 q2 p1 p2 z1 z2
 ·have hij:i≠j:=by rintro rfl; rw [hm] at hm'; cases hm'
  have:=s.lk j o hj hm'
  exact ⟨this.1,fun d'' h=>this.2 d'' (by rw [List.getElem?_set_ne hij] at h; exact h)⟩
end
def RV (ro:Bool) (K:PySem.W.Frag) (H0:Hp) (G:GH) (H:Hp) (v:V) (d:D):Prop:=match ro with
 | false=>RG K G v d
 | true=>(∃a,v=.ref a∧H0 a=none∧Own K G H a d)∨(d=.non∧v=.non)
def oTo (X:Cx) (g:GE) (ro:Bool) (m' mb:List Md) (G:GH) (D:Ends):Out→Prop
 | .nx r'=>∀σ' G' H',Gle G G'→SI X g m' r' G' σ' H'→D.nx σ' H'
 | .rt d=>∀v G' H',Grow X.K g.gh g.h0 G' H'→RV ro X.K g.h0 G' H' v d→D.rt v H'
 | .bk r'=>∀σ' G' H',Gle G G'→SI X g mb r' G' σ' H'→D.bk σ' H'
 | .ct r'=>∀σ' G' H',Gle G G'→SI X g mb r' G' σ' H'→D.ct σ' H'
 | .exc x r'=>∀pins e s' σ' G' H',Gle G G'→SI X g (zbG m') r' G' σ' H'→Inv X pins σ' H' s'→ExV X σ' G' H' e x s'→X.xe e s'
 | .stuck=>False
def tS (X:Cx) (g:GE) (ro:Bool) (m m' mb:List Md) (f:FS):TS:=fun D σ H=>∃r G,SI X g m r G σ H∧oTo X g ro m' mb G D (f r)
def SS (X:Cx) (g:GE) (ro:Bool) (mb m:List Md) (st:Stmt) (f:FS) (m':List Md):Prop:=m'.length=m.length∧PS X st (tS X g ro m m' mb f)
def SSs (X:Cx) (g:GE) (ro:Bool) (mb m:List Md) (st:List Stmt) (f:FS) (m':List Md):Prop:=m'.length=m.length∧PSs X st (tS X g ro m m' mb f)
theorem zef {m m':List Md} (h:m'.length=m.length):zbG m'=zbG m:=by
 unfold zbG
 rw [List.map_const',List.map_const',h]
theorem oTo.x {X:Cx} {g:GE} {ro:Bool} {m m' mb:List Md} {r:Rho} {G:GH} {D:Ends} {σ:L2.St} {H:Hp} {x:DL.D} (h:oTo X g ro m' mb G D (.exc x (forget m r))) (si:SI X g m r G σ H) (hl:m'.length=m.length):XW X σ G H x:=
 fun pins e s' G' H' w I ex=>h pins e s' σ G' H' w.ge (by rw [zef hl]; exact (si.grow w).forget) I ex
section
variable {X:Cx} {g:GE} {ro:Bool} {m m' m1 mb:List Md} {e a b c tg:Expr} {f fa fb fc:FE} {p:FQ} {pos pos':Pos} {st:Stmt} {sts sts':List Stmt} {s1 s2:FS}
theorem oTo.gle {G G1:GH} {D:Ends} {o:Out} (h:oTo X g ro m' mb G D o) (w:Gle G G1):oTo X g ro m' mb G1 D o:=by
 cases o with
 | nx r'=>exact fun σ' G' H' q si=>h σ' G' H' (w.trans q) si
 | rt d=>exact h
 | bk r'=>exact fun σ' G' H' q si=>h σ' G' H' (w.trans q) si
 | ct r'=>exact fun σ' G' H' q si=>h σ' G' H' (w.trans q) si
 | exc x r'=>exact fun pins e s' σ' G' H' q=>h pins e s' σ' G' H' (w.trans q)
 | stuck=>exact h
def seqF (s1 s2:FS):FS:=fun r=>match s1 r with
 | .nx r'=>s2 r'
 | o=>o
def zam:FS:=fun r=>.nx r
theorem zag:SSs X g ro mb m [] zam m:=⟨rfl,PSs.imp zn2 fun D σ H ⟨r,G,si,q⟩=>q σ G H (Gle.refl G) si⟩
theorem zaa (h1:SS X g ro mb m st s1 m1) (h2:SSs X g ro mb m1 sts s2 m'):SSs X g ro mb m (st::sts) (seqF s1 s2) m':=by
 refine ⟨h2.1.trans h1.1,PSs.imp (zim h1.2 h2.2) fun D σ H ⟨r,G,si,q⟩=>⟨r,G,si,?_⟩⟩
 unfold seqF at q
 cases e:s1 r with
 | nx r'=>
  rw [e] at q
  exact fun σ' G' H' w si'=>⟨r',G',si',oTo.gle q w⟩
 | rt d=>rw [e] at q; exact q
 | bk r'=>rw [e] at q; exact q
 | ct r'=>rw [e] at q; exact q
 | exc x r'=>rw [e] at q; exact fun pins e s' σ' G' H' w si'=>q pins e s' σ' G' H' w (by rw [zef h2.1]; exact si')
 | stuck=>rw [e] at q; exact q
theorem znG:SS X g ro mb m st (fun _=>.stuck) m:=⟨rfl,PS.imp zlQ fun D σ H ⟨r,G,si,q⟩=>q⟩
theorem znH (i:Nat) (hi:m[i]? = some .ow) (h:SS X g ro mb (m.set i .sh) st s1 m'):SS X g ro mb m st s1 m':=by
 refine ⟨h.1.trans (by simp),fun pins s σ H D I ⟨r,G,si,q⟩=>?_⟩
 rcases si.frz i hi with ⟨G',le,si'⟩ | ⟨a,z⟩
 ·exact h.2 pins s σ H D I ⟨r,G',si',oTo.gle q le⟩
 ·obtain ⟨ob,I2⟩:=Inv.fast I a
  obtain ⟨G',le,si'⟩:=z ob
  exact h.2 pins s σ _ D I2 ⟨r,G',si',oTo.gle q le⟩
def onE {α:Type} (m:List Md) (r:Rho) (x:Res α) (k:α→Out):Out:=match x with
 | .ok a=>k a
 | .exc e=>.exc e (forget m r)
 | .stuck=>.stuck
@[simp] theorem onE_ok {α:Type} (m:List Md) (r:Rho) (a:α) (k:α→Out):onE m r (.ok a) k=k a:=rfl
theorem zbo {α:Type} {x:Res α} {k:α→Out} {r:Rho} {G:GH} {D:Ends} {σ:L2.St} {H:Hp} (si:SI X g m r G σ H) (hl:m'.length=m.length) (h:oTo X g ro m' mb G D (onE m r x k)):fin x (fun a=>oTo X g ro m' mb G D (k a)) (XW X σ G H):=by
 cases x with
 | ok a=>exact h
 | exc e=>exact oTo.x h si hl
 | stuck=>exact h
def setF (m:List Md) (i:Nat) (f:FE):FS:=fun r=>onE m r (f r) fun d=>.nx (r.set i (some d))
theorem zbb (i:Nat) {x:Str} (hN:X.N.Nodup) (hi:X.N[i]? = some x) (hx:Loc X.env.scope x) (he:SE X g m e f) (hs:swapsWith e (some (.Name x pos')) pos.line X.env=pure false:=by rfl)
  (hf:X.fn x=true∨X.env.scope.names.lookup x=some .local:=by first | exact .inl rfl | exact .inr rfl | assumption):SS X g ro mb m (.Assign [.Name x pos'] e pos) (setF m i f) (m.set i .sh):=by
 have hl:(m.set i .sh).length=m.length:=by simp
 refine ⟨hl,PS.imp (zmW hN hi hx he hs hf) fun D σ H ⟨r,G,si,q⟩=>⟨r,G,si,?_⟩⟩
 exact zaf (zbo si hl q) fun d q v G' H' w rv=>q _ G' H' w.ge ((si.grow w).set i rv)
theorem zd2 (i:Nat) {x:Str} (hN:X.N.Nodup) (hi:X.N[i]? = some x) (hx:Loc X.env.scope x) (he:SO X g m e f) (hs:swapsWith e (some (.Name x pos')) pos.line X.env=pure false:=by rfl)
  (hf:X.fn x=true∨X.env.scope.names.lookup x=some .local:=by first | exact .inl rfl | exact .inr rfl | assumption):SS X g ro mb m (.Assign [.Name x pos'] e pos) (setF m i f) (m.set i .ow):=by
 have hl:(m.set i .ow).length=m.length:=by simp
 refine ⟨hl,PS.imp (zmW hN hi hx he hs hf) fun D σ H ⟨r,G,si,q⟩=>⟨r,G,si,?_⟩⟩
 exact zaf (zbo si hl q) fun d q a G' H' w hn ho=>q _ G' H' w.ge (si.setN w i hn ho)
def zec (m:List Md) (f:FE):FS:=fun r=>onE m r (f r) fun _=>.nx r
theorem zjM (he:SE X g m e f) (hs:swapsWith e none pos.line X.env=pure false:=by rfl):SS X g ro mb m (.Expr e pos) (zec m f) m:=
 ⟨rfl,PS.imp (zhM he hs) fun D σ H ⟨r,G,si,q⟩=>⟨r,G,si,zaf (zbo si rfl q) fun d q v G' H' w _=>q σ G' H' w.ge (si.grow w)⟩⟩
def retF (m:List Md) (f:FE):FS:=fun r=>onE m r (f r) fun d=>.rt d
theorem zaZ (he:SE X g m e f):SS X g false mb m (.Return (some e) pos) (retF m f) m:=
 ⟨rfl,PS.imp (zpX he) fun D σ H ⟨r,G,si,q⟩=>⟨r,G,si,zaf (zbo si rfl q) fun d q v G' H' w rv=>q v G' H' (si.grow w).grown rv⟩⟩
def ifF (m:List Md) (p:FQ) (s1 s2:FS):FS:=fun r=>onE m r (p r) fun c=>if c=true then s1 r else s2 r
theorem s_if (hc:SQ X g m c p) (h1:SSs X g ro mb m sts s1 m') (h2:SSs X g ro mb m sts' s2 m'):SS X g ro mb m (.If c sts sts' pos) (ifF m p s1 s2) m':=by
 refine ⟨h1.1,PS.imp (zrI hc h1.2 h2.2) fun D σ H ⟨r,G,si,q⟩=>⟨r,G,si,zaf (zbo si h1.1 q) fun c q G' H' w=>?_⟩⟩
 cases c with
 | true=>rw [if_pos rfl] at q ⊢; exact ⟨r,G',si.grow w,oTo.gle q w.ge⟩
 | false=>rw [if_neg Bool.false_ne_true] at q ⊢; exact ⟨r,G',si.grow w,oTo.gle q w.ge⟩
theorem zdY (i:Nat) (h:SSs X g ro mb m sts s1 m') (hi:m'[i]? = some .ow):SSs X g ro mb m sts s1 (m'.set i .sh):=by
 refine ⟨by simp [h.1],fun pins s σ H D I ⟨r,G,si,q⟩=>?_⟩
 refine thn (h.2 pins s σ H ⟨fun σ' H'=>D.nx σ' H'∨∃a,∀ob,D.nx σ' (fz H' a ob),D.rt,D.bk,D.ct⟩ I ⟨r,G,si,?_⟩) fun f s' p=>?_
 ·cases e:s1 r with
  | nx r'=>
   rw [e] at q
   intro σ' G' H' w si'
   rcases si'.frz i hi with ⟨G2,le,si2⟩ | ⟨a,z⟩
   ·exact .inl (q σ' G2 H' (w.trans le) si2)
   ·refine .inr ⟨a,fun ob=>?_⟩
    obtain ⟨G2,le,si2⟩:=z ob
    exact q σ' G2 _ (w.trans le) si2
  | rt d=>rw [e] at q; exact q
  | bk r'=>rw [e] at q; exact q
  | ct r'=>rw [e] at q; exact q
  | exc x r'=>rw [e] at q; exact fun pins e s' σ' G' H' w si'=>q pins e s' σ' G' H' w (by rw [zef (m:=m') (by simp)]; exact si')
  | stuck=>rw [e] at q; exact q
 ·cases f with
  | next=>
   obtain ⟨σ',H',I',z | ⟨a,z⟩⟩:=p
   ·exact ⟨σ',H',I',z⟩
   ·obtain ⟨ob,I2⟩:=Inv.fast I' a
    exact ⟨σ',_,I2,z ob⟩
  | brk=>exact p
  | cont=>exact p
  | ret u=>exact p
end
end DL
end
section
namespace DL
open PySem PySem.Spec PyProof.Rows L2
abbrev FT:=D→Rho→Option Rho
abbrev FTs:=List D→Rho→Option Rho
def tG (X:Cx) (g:GE) (m m':List Md) (ft:FT):TG:=fun v σ H Q=>∃r G d,SI X g m r G σ H∧RG X.K G v d∧∃r',ft d r=some r'∧∀σ',SI X g m' r' G σ' H→Q σ' H
def tGs (X:Cx) (g:GE) (m m':List Md) (ft:FTs):TGs:=fun vs σ H Q=>∃r G ds,SI X g m r G σ H∧RGs X.K G vs ds∧∃r',ft ds r=some r'∧∀σ',SI X g m' r' G σ' H→Q σ' H
theorem PG.imp {X:Cx} {e:Expr} {t t':TG} (h:PG X e t) (i:∀v σ H Q,t' v σ H Q→t v σ H Q):PG X e t':=fun pins s σ H v u Q I r q=>h pins s σ H v u Q I r (i v σ H Q q)
theorem PGs.imp {X:Cx} {e:List Expr} {t t':TGs} (h:PGs X e t) (i:∀v σ H Q,t' v σ H Q→t v σ H Q):PGs X e t':=fun pins s σ H v u Q I r q=>h pins s σ H v u Q I r (i v σ H Q q)
def SG (X:Cx) (g:GE) (m:List Md) (tg:Expr) (ft:FT) (m':List Md):Prop:=m'.length=m.length∧PG X tg (tG X g m m' ft)
structure SGs (X:Cx) (g:GE) (m:List Md) (ts:List Expr) (n:Nat) (ft:FTs) (m':List Md):Prop where
 ml:m'.length=m.length
 ln:∀ds r r',ft ds r=some r'→ds.length=n
 pg:PGs X ts (tGs X g m m' ft)
def ftN (i:Nat):FT:=fun d r=>some (r.set i (some d))
def ftT (ft:FTs):FT:=fun d r=>match d with
 | .tup ds=>ft ds r
 | .lst ds=>ft ds r
 | _=>none
def zci:FTs:=fun ds r=>match ds with
 | []=>some r
 | _=>none
def zaz (ft:FT) (fts:FTs):FTs:=fun ds r=>match ds with
 | []=>none
 | d::ds=>(ft d r).bind fun r'=>fts ds r'
section
variable {X:Cx} {g:GE} {m m' m1:List Md} {tg:Expr} {ts:List Expr} {ft:FT} {fts:FTs} {pos:Pos} {n:Nat}
theorem zaN (i:Nat) {x:Str} (hN:X.N.Nodup) (hi:X.N[i]? = some x) (hx:Loc X.env.scope x) (hf:X.fn x=true∨X.env.scope.names.lookup x=some .local:=by first | exact .inl rfl | exact .inr rfl | assumption) :
  SG X g m (.Name x pos) (ftN i) (m.set i .sh):=
 ⟨by simp,PG.imp (zn9 hN hi hx hf) fun v σ H Q ⟨r,G,d,si,rv,r',e,k⟩=>by cases e; exact k _ (si.set i rv)⟩
theorem zhg:SGs X g m [] 0 zci m:=by
 refine ⟨rfl,fun ds r r' e=>?_,PGs.imp zn8 fun v σ H Q ⟨r,G,ds,si,rv,r',e,k⟩=>?_⟩
 ·cases ds with
  | nil=>rfl
  | cons _ _=>cases e
 ·cases rv with
  | nil=>cases e; exact ⟨rfl,k σ si⟩
  | cons _ _=>cases e
theorem zbY (h1:SG X g m tg ft m1) (h2:SGs X g m1 ts n fts m') (hs:(assignEach (tg::ts) X.env).map (·.2)=assign tg X.env::(assignEach ts X.env).map (·.2):=by rfl):SGs X g m (tg::ts) (n + 1) (zaz ft fts) m':=by
 refine ⟨h2.ml.trans h1.1,fun ds r r' e=>?_,PGs.imp (zlV h1.2 h2.pg hs) fun v σ H Q ⟨r,G,ds,si,rv,r',e,k⟩=>?_⟩
 ·cases ds with
  | nil=>cases e
  | cons d ds=>
   have e':((ft d r).bind fun r'=>fts ds r')=some r':=e
   cases q:ft d r with
   | none=>rw [q] at e'; cases e'
   | some r1=>
    rw [q] at e'
    have:=h2.ln ds r1 r' e'
    simp [this]
 ·cases rv with
  | nil=>cases e
  | @cons v0 d vs ds rv rs=>
   have e':((ft d r).bind fun r'=>fts ds r')=some r':=e
   cases q:ft d r with
   | none=>rw [q] at e'; cases e'
   | some r1=>
    rw [q] at e'
    exact ⟨_,_,rfl,r,G,d,si,rv,r1,q,fun σ' si'=>⟨r1,G,ds,si',rs,r',e',k⟩⟩
theorem zp2 {k:Nat} {t:TGs} (hc:X.calm=true) (h:PGs X ts t) (hn:(assignEach ts X.env).length=n) (hst:(assignEach ts X.env).findIdx? (·.1)=none) :
  PG X (.Tuple ts k pos) (fun v σ H Q=>∃a xs,v=.ref a∧SqL X.K H a xs∧xs.length=n∧t xs σ H Q):=by
 intro pins s σ H v u Q I r hw
 obtain ⟨a,xs,e1,hq,hl,hw⟩:=hw
 subst e1
 cases r
 obtain ⟨its,rv,⟨o,nn,l1,l2,l3,l4⟩,hz⟩:=I.list hq
 rw [PyProof.Rows.assign_Tuple]
 refine wpAny_bind (wpAny_standAt ?_)
 unfold unpack
 rw [hst,show (assignEach ts X.env).length=its.toArray.size by simp [hn,←hl,rv.length]]
 refine wpAny_bind (wpAny_holding (PySem.W.kun_itemsOf (I.ok.hd hc) ⟨o,l1,l2,nn,l4⟩ fun h' hx=>?_))
 have I1:Inv X pins σ H { s with heap:=h' }:=I.kept (t':=s.toks) fun b o e=>hx b o (Nat.ne_of_lt (Heap.lt_size e)) e
 exact h pins _ σ H xs _ Q I1 (by simpa using rv) hw
theorem PG.or {e:Expr} {t t':TG} (h:PG X e t) (h':PG X e t'):PG X e (fun v σ H Q=>t v σ H Q∨t' v σ H Q):=fun pins s σ H v u Q I r q=>q.elim (h pins s σ H v u Q I r) (h' pins s σ H v u Q I r)
theorem zhf {k:Nat} (hc:X.calm=true) (h:SGs X g m ts n fts m') (hn:(assignEach ts X.env).length=n:=by rfl) (hst:(assignEach ts X.env).findIdx? (·.1)=none:=by rfl):SG X g m (.Tuple ts k pos) (ftT fts) m':=by
 refine ⟨h.ml,PG.imp (PG.or (zp3 hc h.pg hn hst) (zp2 hc h.pg hn hst)) fun v σ H Q ⟨r,G,d,si,rv,r',e,k⟩=>?_⟩
 cases d with
 | tup ds=>
  obtain ⟨a,xs,rfl,s,rs⟩:=rv.tup si.gok
  exact .inl ⟨a,xs,rfl,s,(Paired.length rs).trans (h.ln ds r r' e),r,G,ds,si,rs,r',e,k⟩
 | lst ds=>
  obtain ⟨a,xs,rfl,s,rs⟩:=rv.lst si.gok
  exact .inr ⟨a,xs,rfl,s,(Paired.length rs).trans (h.ln ds r r' e),r,G,ds,si,rs,r',e,k⟩
 | _=>cases e
end
structure Yields (K:PySem.W.Frag) (J:It) (ds:List D) (G0:GH):Prop where
 go:∀G H (i:Nat),Gle G0 G→GOk K G H→i < ds.length→J.go i H
 yld:∀G H (i:Nat) x H' d,Gle G0 G→GOk K G H→J.yld i H x H'→ds[i]? = some d→∃G',Grow K G H G' H'∧RG K G' x d
 stop:∀G H,Gle G0 G→GOk K G H→J.stop ds.length H
abbrev FI:=Rho→Res (List D)
def tI (X:Cx) (g:GE) (m:List Md) (f:FI):TI:=fun σ H R=>∃r G,SI X g m r G σ H∧fin (f r) (fun ds=>∀J G' H',Grow X.K G H G' H'→Yields X.K J ds G'→R J H') (XW X σ G H)
def SIt (X:Cx) (g:GE) (m:List Md) (tg iter:Expr) (f:FI):Prop:=PI X tg iter (tI X g m f)
theorem PI.imp {X:Cx} {tg e:Expr} {t t':TI} (h:PI X tg e t) (i:∀σ H Q,t' σ H Q→t σ H Q):PI X tg e t':=fun pins s σ H R I q=>h pins s σ H R I (i σ H R q)
theorem zhz {K:PySem.W.Frag} {a:Addr} {ds:List D} {G0:GH} (h0:RG K G0 (.ref a) (.lst ds)):Yields K (Itl K a) ds G0:=by
 have at_:∀G H,Gle G0 G→GOk K G H→∃xs,SqL K H a xs∧RGs K G xs ds:=fun G H w gk=>by
  obtain ⟨b,xs,e,s,r⟩:=(h0.mono w).lst gk
  cases e
  exact ⟨xs,s,r⟩
 refine ⟨fun G H i w gk hi=>?_,fun G H i x H' d w gk y e=>?_,fun G H w gk=>?_⟩
 ·obtain ⟨xs,s,r⟩:=at_ G H w gk
  have hl:=Paired.length r
  exact ⟨xs,xs[i],s,List.getElem?_eq_getElem (by omega)⟩
 ·obtain ⟨xs,s,r⟩:=at_ G H w gk
  obtain ⟨rfl,y⟩:=y
  obtain ⟨v,e1,rv⟩:=Paired.get r e
  have:=y xs s
  rw [e1] at this; cases this
  exact ⟨G,Grow.refl gk,rv⟩
 ·obtain ⟨xs,s,r⟩:=at_ G H w gk
  exact ⟨xs,s,Nat.le_of_eq (Paired.length r)⟩
theorem zjy {K:PySem.W.Frag} {a:Addr} {ds:List D} {G0:GH} (h0:RG K G0 (.ref a) (.tup ds)):Yields K (Itt K a) ds G0:=by
 have at_:∀G H,Gle G0 G→GOk K G H→∃xs,SqT K H a xs∧RGs K G xs ds:=fun G H w gk=>by
  obtain ⟨b,xs,e,s,r⟩:=(h0.mono w).tup gk
  cases e
  exact ⟨xs,s,r⟩
 refine ⟨fun G H i w gk hi=>?_,fun G H i x H' d w gk y e=>?_,fun G H w gk=>?_⟩
 ·obtain ⟨xs,s,r⟩:=at_ G H w gk
  have hl:=Paired.length r
  exact ⟨xs,xs[i],s,List.getElem?_eq_getElem (by omega)⟩
 ·obtain ⟨xs,s,r⟩:=at_ G H w gk
  obtain ⟨rfl,y⟩:=y
  obtain ⟨v,e1,rv⟩:=Paired.get r e
  have:=y xs s
  rw [e1] at this; cases this
  exact ⟨G,Grow.refl gk,rv⟩
 ·obtain ⟨xs,s,r⟩:=at_ G H w gk
  exact ⟨xs,s,Nat.le_of_eq (Paired.length r)⟩
def rngD (lo:Int) (n:Nat):List D:=(List.range n).map fun (i:Nat)=>D.int (lo + (i:Int))
theorem zpa {K:PySem.W.Frag} {lo:Int} {n:Nat} {G0:GH}:Yields K (Itr lo n) (rngD lo n) G0:=by
 have hl:(rngD lo n).length=n:=by simp [rngD]
 refine ⟨fun G H i w gk hi=>(by rw [hl] at hi; exact hi),fun G H i x H' d w gk y e=>?_,fun G H w gk=>(by rw [hl]; exact Nat.le_refl _)⟩
 obtain ⟨rfl,rfl⟩:=y
 have hi:i < n:=by
  have:=(List.getElem?_eq_some_iff.mp e).1
  rw [hl] at this; exact this
 unfold rngD at e
 rw [List.getElem?_map,List.getElem?_range hi] at e
 cases e
 exact ⟨G,Grow.refl gk,.scl (.int _)⟩
def zbC:D→Option (List D)
 | .lst ds=>some ds
 | .tup ds=>some ds
 | _=>none
section
variable {X:Cx} {g:GE} {m m' m1 mb:List Md} {tg e a b c iter:Expr} {f fa fb:FE} {p:FQ} {pos pos':Pos} {ro:Bool} {fl:Rho→Res (List D)} {sts:List Stmt} {s1:FS}
def fSeq (k:D→Option (List D)) (f:FE):FI:=fun r=>(f r).bind fun d=>opt (k d)
theorem zj5 {l:Expr} {tl:TE} (hl:PE X l tl):PI X tg l (fun σ H R=>tl σ H fun x H1=>(∃a,x=.ref a∧(∃xs,SqL X.K H1 a xs)∧R (Itl X.K a) H1)∨∃a,x=.ref a∧(∃xs,SqT X.K H1 a xs)∧R (Itt X.K a) H1):=by
 intro pins s σ H R I h
 refine thn (hl pins s σ H _ I h) fun v s1 ⟨x,H1,I1,r1,q1⟩=>?_
 rcases q1 with ⟨a,e,⟨xs,hq⟩,q⟩ | ⟨a,e,⟨xs,hq⟩,q⟩
 ·subst e
  cases r1
  obtain ⟨its,rv,p,hz⟩:=I1.list hq
  refine wpAny_pyIter_list p.isList ?_
  refine ⟨s1.heap.objs.size,[s1.heap.objs.size],_,_,H1,rfl,I1.kept (t':=s1.toks) fun b o e=>Heap.get?_push_of_some _ e,zjF a _,⟨_,Heap.get?_push_size _ rfl,rfl,rfl⟩,fun b hb=>?_,q⟩
  have e:b=s1.heap.objs.size:=by simpa using hb
  subst e
  exact I1.fpOk (Nat.le_refl _) (I1.hok.fresh (Nat.le_refl _))
 ·subst e
  cases r1
  obtain ⟨its,rv,p,hz⟩:=I1.tuple hq
  refine wpAny_pyIter_tuple (show s1.heap.IsTuple a its.toArray from p) ?_
  refine ⟨s1.heap.objs.size,[s1.heap.objs.size],_,_,H1,rfl,I1.kept (t':=s1.toks) fun b o e=>Heap.get?_push_of_some _ e,ziU a _,⟨_,Heap.get?_push_size _ rfl,rfl,rfl⟩,fun b hb=>?_,q⟩
  have e:b=s1.heap.objs.size:=by simpa using hb
  subst e
  exact I1.fpOk (Nat.le_refl _) (I1.hok.fresh (Nat.le_refl _))
theorem zmj (h:SE X g m e f):SIt X g m tg e (fSeq zbC f):=by
 refine PI.imp (zj5 h) fun σ H R ⟨r,G,si,q⟩=>⟨r,G,si,zaf (zah q) fun d q v G' H' w rv=>?_⟩
 obtain ⟨ds,e,q⟩:=zaD q
 cases d with
 | lst ds'=>
  cases e
  obtain ⟨a,xs,rfl,s,rs⟩:=rv.lst w.ok
  exact .inl ⟨a,rfl,⟨xs,s⟩,q _ G' H' w (zhz rv)⟩
 | tup ds'=>
  cases e
  obtain ⟨a,xs,rfl,s,rs⟩:=rv.tup w.ok
  exact .inr ⟨a,rfl,⟨xs,s⟩,q _ G' H' w (zjy rv)⟩
 | _=>cases e
structure YieldsC (K:PySem.W.Frag) (J:It) (ds:List D) (G0:GH) (H0:Hp):Prop where
 go:∀G H (i:Nat),Grow K G0 H0 G H→i < ds.length→J.go i H
 yld:∀G H (i:Nat) x H' d,Grow K G0 H0 G H→J.yld i H x H'→ds[i]? = some d→∃G',Grow K G H G' H'∧RG K G' x d
 stop:∀G H,Grow K G0 H0 G H→J.stop ds.length H
theorem Yields.toC {K:PySem.W.Frag} {J:It} {ds:List D} {G0:GH} {H0:Hp} (y:Yields K J ds G0):YieldsC K J ds G0 H0:=
 ⟨fun G H i w hi=>y.go G H i w.ge w.ok hi,fun G H i x H' d w q e=>y.yld G H i x H' d w.ge w.ok q e,fun G H w=>y.stop G H w.ge w.ok⟩
def tIC (X:Cx) (g:GE) (m:List Md) (f:FI):TI:=fun σ H R=>∃r G,SI X g m r G σ H∧fin (f r) (fun ds=>∀J G' H',Grow X.K G H G' H'→YieldsC X.K J ds G' H'→R J H') (XW X σ G H)
def SItC (X:Cx) (g:GE) (m:List Md) (tg iter:Expr) (f:FI):Prop:=PI X tg iter (tIC X g m f)
theorem SIt.toC {fi:FI} (h:SIt X g m tg iter fi):SItC X g m tg iter fi:=PI.imp h fun σ H R ⟨r,G,si,q⟩=>⟨r,G,si,zaf q fun ds k J G' H' w y=>k J G' H' w y.toC⟩
theorem zpb {K:PySem.W.Frag} {a:Addr} {ds:List D} {G0:GH} {H0:Hp} (o:Own K G0 H0 a (.lst ds)):YieldsC K (Itl K a) ds G0 H0:=by
 have at_:∀G H,Grow K G0 H0 G H→∃xs,SqL K H a xs∧RGs K G xs ds:=fun G H w=>by
  cases (o.mono w).ob with
  | lst r s=>exact ⟨_,SqL.of r,s⟩
 refine ⟨fun G H i w hi=>?_,fun G H i x H' d w y e=>?_,fun G H w=>?_⟩
 ·obtain ⟨xs,s,r⟩:=at_ G H w
  have hl:=Paired.length r
  exact ⟨xs,xs[i],s,List.getElem?_eq_getElem (by omega)⟩
 ·obtain ⟨xs,s,r⟩:=at_ G H w
  obtain ⟨rfl,y⟩:=y
  obtain ⟨v,e1,rv⟩:=Paired.get r e
  have:=y xs s
  rw [e1] at this; cases this
  exact ⟨G,Grow.refl w.ok,rv⟩
 ·obtain ⟨xs,s,r⟩:=at_ G H w
  exact ⟨xs,s,Nat.le_of_eq (Paired.length r)⟩
theorem zcr (h:SB X g m e f):SItC X g m tg e (fSeq zbC f):=by
 refine PI.imp (zj5 h) fun σ H R ⟨r,G,si,q⟩=>⟨r,G,si,zaf (zah q) fun d q v G' H' w rv=>?_⟩
 obtain ⟨ds,e,q⟩:=zaD q
 cases d with
 | lst ds'=>
  cases e
  rcases rv with rv | ⟨a,rfl,o⟩
  ·obtain ⟨a,xs,rfl,s,rs⟩:=rv.lst w.ok
   exact .inl ⟨a,rfl,⟨xs,s⟩,q _ G' H' w (zhz rv).toC⟩
  ·cases o.ob with
   | lst r s=>exact .inl ⟨a,rfl,⟨_,SqL.of r⟩,q _ G' H' w (zpb o)⟩
 | tup ds'=>
  cases e
  rcases rv with rv | ⟨a,rfl,o⟩
  ·obtain ⟨a,xs,rfl,s,rs⟩:=rv.tup w.ok
   exact .inr ⟨a,rfl,⟨xs,s⟩,q _ G' H' w (zjy rv).toC⟩
  ·cases o.ob
 | _=>cases e
def rng1:List D→Option (List D)
 | [.int j]=>if -(2 ^ 62)≤j∧j < 2 ^ 62 then some (rngD 0 j.toNat) else none
 | _=>none
def fRng (k:List D→Option (List D)) (fl:Rho→Res (List D)):FI:=fun r=>(fl r).bind fun ds=>opt (k ds)
theorem zgt {pn:Pos} (hg:Gl X "range") (hm:X.mg "range" = none) (ha:SAB X g m [a] fl) (hs:starEach [a] X.env=[(false,eval a X.env)]:=by rfl):SIt X g m tg (.Call (.Name "range" pn) [a] [] pos) (fRng rng1 fl):=by
 refine PI.imp (zj6 hg hm ha hs) fun σ H R ⟨r,G,si,q⟩=>⟨r,G,si,zaf (zah q) fun ds q vs G' H' w rs=>?_⟩
 obtain ⟨zs,e,q⟩:=zaD q
 unfold rng1 at e
 split at e
 ·split at e
  ·rename_i j hj
   cases e
   cases rs with
   | cons r1 t=>cases t; exact ⟨j,by rw [r1.int w.ok],hj.1,hj.2,q _ G' H' w zpa⟩
  ·cases e
 ·cases e
def forF (ft:FT) (body:FS):List D→FS
 | [],r=>.nx r
 | d::ds,r=>match ft d r with
  | none=>.stuck
  | some r1=>match body r1 with
   | .nx r'=>forF ft body ds r'
   | .ct r'=>forF ft body ds r'
   | .bk r'=>.nx r'
   | o=>o
def zdy (m:List Md) (fi:FI) (ft:FT) (body:FS):FS:=fun r=>onE m r (fi r) fun ds=>forF ft body ds r
theorem zlx (hp:PassesOwn (model X.prog X.w) X.A X.env X.xe) (hc:X.calm=true) {ft:FT} {fi:FI} (hi:SIt X g m tg iter fi) (hg:SG X g m tg ft m) (hb:SSs X g ro m m sts s1 m)
  (hs:∀x,foldedSetIterable iter X.env x=pure x:=by intro _; rfl):SS X g ro mb m (.For tg iter sts [] pos) (zdy m fi ft s1) m:=by
 refine ⟨rfl,PS.imp (zj2 hp hc hi hg.2 hb.2 hs) fun D σ H ⟨r,G,si,q⟩=>⟨r,G,si,zaf (zbo si rfl q) fun ds q J G0 H0 w0 Y=>?_⟩⟩
 refine ⟨fun i n σ H=>∃r G,SI X g m r G σ H∧Gle G0 G∧i≤ds.length∧n=ds.length - i∧oTo X g ro m mb G D (forF ft s1 (ds.drop i) r),⟨ds.length,r,G0,si.grow w0,Gle.refl G0,Nat.zero_le _,rfl,oTo.gle q w0.ge⟩,?_⟩
 rintro i n σ1 H1 ⟨r1,G1,si1,le1,hi,rfl,q1⟩
 by_cases hlt:i < ds.length
 ·have hd:ds.drop i=ds[i]::ds.drop (i + 1):=List.drop_eq_getElem_cons hlt
  rw [hd] at q1
  unfold forF at q1
  refine .inr ⟨Y.go G1 H1 i le1 si1.gok hlt,fun σ' H'=>∃r G,SI X g m r G σ' H'∧Gle G0 G∧oTo X g ro m mb G D (forF ft s1 (ds.drop (i + 1)) r),fun σ' H' ⟨r',G',si',le',q'⟩=>⟨ds.length - (i + 1),by omega,r',G',si',le',hlt,rfl,q'⟩,fun x H' y=>?_⟩
  obtain ⟨G',w',rv⟩:=Y.yld G1 H1 i x H' ds[i] le1 si1.gok y (List.getElem?_eq_getElem hlt)
  have le':Gle G0 G':=le1.trans w'.ge
  cases eft:ft ds[i] r1 with
  | none=>simp only [eft] at q1; exact q1.elim
  | some r2=>
   simp only [eft] at q1
   refine ⟨r1,G',ds[i],si1.grow w',rv,r2,eft,fun σ2 si2=>⟨r2,G',si2,?_⟩⟩
   cases eb:s1 r2 with
   | nx r'=>simp only [eb] at q1; exact fun σ3 G3 H3 le3 si3=>⟨r',G3,si3,le'.trans le3,oTo.gle q1 (Gle.trans w'.ge le3)⟩
   | ct r'=>simp only [eb] at q1; exact fun σ3 G3 H3 le3 si3=>⟨r',G3,si3,le'.trans le3,oTo.gle q1 (Gle.trans w'.ge le3)⟩
   | bk r'=>simp only [eb] at q1; exact fun σ3 G3 H3 le3 si3=>q1 σ3 G3 H3 (Gle.trans w'.ge le3) si3
   | rt d=>simp only [eb] at q1; exact q1
   | exc x r'=>simp only [eb] at q1; exact fun pins e s' σ3 G3 H3 le3=>q1 pins e s' σ3 G3 H3 (Gle.trans w'.ge le3)
   | stuck=>simp only [eb] at q1; exact q1
 ·have e:i=ds.length:=by omega
  subst e
  rw [List.drop_length] at q1
  exact .inl ⟨Y.stop G1 H1 le1 si1.gok,q1 σ1 G1 H1 (Gle.refl _) si1⟩
def zbz (m:List Md):List Md:=m.map fun x=>if x=Md.sh then Md.sh else Md.bw
def zhT (m:List Md) (r:Rho) (st:L2.St) (G:GH) (H:Hp):GE:=⟨G,H,fun i=>if m[i]? = some Md.ow∨m[i]? = some Md.bw then some ((st[i]?).join,(r[i]?).join) else none⟩
theorem zdi {m:List Md} {i:Nat} {x:Md} (h:m[i]? = some x):(zbz m)[i]? = some (if x=Md.sh then Md.sh else Md.bw):=by
 unfold zbz; rw [List.getElem?_map,h]; rfl
theorem zma {m:List Md} {i:Nat} (h:(zbz m)[i]? = some Md.sh):m[i]? = some Md.sh:=by
 cases q:m[i]? with
 | none=>unfold zbz at h; rw [List.getElem?_map,q] at h; cases h
 | some x=>
  rw [zdi q] at h
  cases x <;> first | rfl | (simp at h)
theorem zix {m:List Md} {i:Nat} (h:(zbz m)[i]? = some Md.ow):False:=by
 cases q:m[i]? with
 | none=>unfold zbz at h; rw [List.getElem?_map,q] at h; cases h
 | some x=>
  rw [zdi q] at h
  cases x <;> simp at h
theorem lockM_bw {m:List Md} {i:Nat} (h:(zbz m)[i]? = some Md.bw):m[i]? = some Md.ow∨m[i]? = some Md.bw:=by
 cases q:m[i]? with
 | none=>unfold zbz at h; rw [List.getElem?_map,q] at h; cases h
 | some x=>
  rw [zdi q] at h
  cases x with
  | sh=>simp at h
  | ow=>exact .inl rfl
  | bw=>exact .inr rfl
theorem SI.lock {r:Rho} {G:GH} {st:L2.St} {H:Hp} (s:SI X g m r G st H):SI X (zhT m r st G H) (zbz m) r G st H where
 gok:=s.gok
 old:=fun _ _ e=>e
 ge:=fun _ _ e=>e
 gf:=fun _ _=>rfl
 lm:=by unfold zbz; rw [List.length_map]; exact s.lm
 lr:=s.lr
 sh:=fun i d h hm=>s.sh i d h (zma hm)
 ow:=fun i d h hm=>(zix hm).elim
 bw:=fun i d h hm=>by
  rcases lockM_bw hm with z | z
  ·obtain ⟨a,h1,h2,_⟩:=s.ow i d h z
   exact ⟨_,h1,.inr ⟨a,rfl,h2,h2.ob.isS⟩⟩
  ·obtain ⟨v,h1,h2⟩:=s.bw i d h z
   refine ⟨v,h1,?_⟩
   rcases h2 with h2 | ⟨a,e,h2,_⟩
   ·exact .inl h2
   ·exact .inr ⟨a,e,h2,h2.ob.isS⟩
 dis:=fun i j a d e _ _ _ hm=>(zix hm).elim
 lk:=fun i o h hm=>by
  have h':(if m[i]? = some Md.ow∨m[i]? = some Md.bw then some ((st[i]?).join,(r[i]?).join) else none)=some o:=h
  rw [if_pos (lockM_bw hm)] at h'
  cases h'
  have hi:i < st.length:=by
   have:=(List.getElem?_eq_some_iff.mp hm).1
   unfold zbz at this
   rw [List.length_map,s.lm] at this; exact this
  refine ⟨?_,fun d hd=>by rw [hd]; rfl⟩
  rw [List.getElem?_eq_getElem hi]; rfl
theorem SI.unlock {r r':Rho} {G G':GH} {st st':L2.St} {H H':Hp} (s:SI X g m r G st H) (s':SI X (zhT m r st G H) (zbz m) r' G' st' H'):SI X g m r' G' st' H':=by
 have w:Grow X.K G H G' H':=s'.grown
 have hlk:∀(i:Nat),(m[i]? = some Md.ow∨m[i]? = some Md.bw)→st'[i]? = some (st[i]?).join∧∀d,r'[i]? = some (some d)→r[i]? = some (some d):=fun i hi=>by
  have hm:(zbz m)[i]? = some Md.bw:=by
   rcases hi with z | z <;> rw [zdi z] <;> simp
  obtain ⟨h1,h2⟩:=s'.lk i ((st[i]?).join,(r[i]?).join) (if_pos hi) hm
  refine ⟨h1,fun d hd=>?_⟩
  have:=h2 d hd
  cases q:r[i]? with
  | none=>rw [q] at this; cases this
  | some o=>rw [q] at this; rw [show o=some d from this]
 have hst:∀(i:Nat) v,(m[i]? = some Md.ow∨m[i]? = some Md.bw)→st[i]? = some (some v)→st'[i]? = some (some v):=fun i v hi h=>by
  rw [(hlk i hi).1,h]; rfl
 refine ⟨s'.gok,fun a o e=>s'.old a o (s.old a o e),fun a d e=>s'.ge a d (s.ge a d e),fun a h=>?_,?_,s'.lr,fun i d h hm=>?_,fun i d h hm=>?_,fun i d h hm=>?_,fun i j a d e hij h1 h2 m1 m2 q1 q2=>?_,fun i o hi hm=>?_⟩
 ·have h1:H a≠none:=by
   cases e:g.h0 a with
   | none=>exact absurd e h
   | some o=>rw [s.old _ _ e]; simp
  rw [w.gf a h1,s.gf a h]
 ·have:=s'.lm
  unfold zbz at this
  rw [List.length_map] at this; exact this
 ·exact s'.sh i d h (by rw [zdi hm]; simp)
 ·obtain ⟨a,h1,h2,h3⟩:=s.ow i d ((hlk i (.inl hm)).2 d h) hm
  exact ⟨a,hst i _ (.inl hm) h1,h2.mono w,h3⟩
 ·obtain ⟨v,h1,h2⟩:=s.bw i d ((hlk i (.inr hm)).2 d h) hm
  exact ⟨v,hst i _ (.inr hm) h1,h2.grow w⟩
 ·have e1:=(hlk i (.inl m1)).2 d h1
  have e2:=(hlk j (.inl m2)).2 e h2
  obtain ⟨b,z1,_,_⟩:=s.ow i d e1 m1
  obtain ⟨c,z2,_,_⟩:=s.ow j e e2 m2
  have y1:=hst i _ (.inl m1) z1
  have y2:=hst j _ (.inl m2) z2
  rw [q1] at y1
  rw [q2] at y2
  cases y1
  cases y2
  exact s.dis i j a d e hij e1 e2 m1 m2 z1 z2
 ·obtain ⟨h1,h2⟩:=s.lk i o hi hm
  refine ⟨?_,fun d hd=>h2 d ((hlk i (.inr hm)).2 d hd)⟩
  rw [(hlk i (.inr hm)).1,h1]; rfl
theorem SI.unlockX {r r':Rho} {G G':GH} {st st':L2.St} {H H':Hp} (s:SI X g m r G st H) (s':SI X (zhT m r st G H) (zbG (zbz m)) r' G' st' H'):SI X g (zbG m) r' G' st' H':=by
 have w:Grow X.K G H G' H':=s'.grown
 have el:zbG (zbz m)=zbG m:=zef (by unfold zbz; rw [List.length_map])
 rw [el] at s'
 have no:∀{i:Nat} {x:Md},(zbG m)[i]? = some x→x=Md.sh:=fun {i x} h=>by
  unfold zbG at h
  rw [List.getElem?_map] at h
  cases q:m[i]? with
  | none=>rw [q] at h; cases h
  | some y=>rw [q] at h; cases h; rfl
 refine ⟨s'.gok,fun a o e=>s'.old a o (s.old a o e),fun a d e=>s'.ge a d (s.ge a d e),fun a h=>?_,s'.lm,s'.lr,s'.sh,fun i d h hm=>(nomatch (no hm)),fun i d h hm=>(nomatch (no hm)),fun i j a d e hij h1 h2 m1 m2=>(nomatch (no m1)),fun i o hi hm=>(nomatch (no hm))⟩
 have h1:H a≠none:=by
  cases e:g.h0 a with
  | none=>exact absurd e h
  | some o=>rw [s.old _ _ e]; simp
 rw [w.gf a h1,s.gf a h]
theorem zpC (hp:PassesOwn (model X.prog X.w) X.A X.env X.xe) (hc:X.calm=true) {ft:FT} {fi:FI} (hi:SItC X g m tg iter fi) (hg:∀g',SG X g' (zbz m) tg ft (zbz m)) (hb:∀g',SSs X g' ro (zbz m) (zbz m) sts s1 (zbz m))
  (hs:∀x,foldedSetIterable iter X.env x=pure x:=by intro _; rfl):SS X g ro mb m (.For tg iter sts [] pos) (zdy m fi ft s1) m:=by
 have hgA:PG X tg (fun v σ H Q=>∃g',tG X g' (zbz m) (zbz m) ft v σ H Q):=fun pins s σ H v u Q I r ⟨g',q⟩=>(hg g').2 pins s σ H v u Q I r q
 have hbA:PSs X sts (fun D σ H=>∃g',tS X g' ro (zbz m) (zbz m) (zbz m) s1 D σ H):=fun pins s σ H D I ⟨g',q⟩=>(hb g').2 pins s σ H D I q
 refine ⟨rfl,PS.imp (zj2 hp hc hi hgA hbA hs) fun D σ H ⟨r,G,si,q⟩=>⟨r,G,si,zaf (zbo si rfl q) fun ds q J G0 H0 w0 Y=>?_⟩⟩
 have si0:=si.grow w0
 refine ⟨fun i n σ1 H1=>∃r1 G1,SI X (zhT m r σ G0 H0) (zbz m) r1 G1 σ1 H1∧i≤ds.length∧n=ds.length - i∧oTo X g ro m mb G1 D (forF ft s1 (ds.drop i) r1),⟨ds.length,r,G0,si0.lock,Nat.zero_le _,rfl,oTo.gle q w0.ge⟩,?_⟩
 rintro i n σ1 H1 ⟨r1,G1,si1,hi,rfl,q1⟩
 have wg:Grow X.K G0 H0 G1 H1:=si1.grown
 by_cases hlt:i < ds.length
 ·have hd:ds.drop i=ds[i]::ds.drop (i + 1):=List.drop_eq_getElem_cons hlt
  rw [hd] at q1
  unfold forF at q1
  refine .inr ⟨Y.go G1 H1 i wg hlt,fun σ' H'=>∃r' G',SI X (zhT m r σ G0 H0) (zbz m) r' G' σ' H'∧oTo X g ro m mb G' D (forF ft s1 (ds.drop (i + 1)) r'),fun σ' H' ⟨r',G',si',q'⟩=>⟨ds.length - (i + 1),by omega,r',G',si',hlt,rfl,q'⟩,fun x H' y=>?_⟩
  obtain ⟨G',w',rv⟩:=Y.yld G1 H1 i x H' ds[i] wg y (List.getElem?_eq_getElem hlt)
  cases eft:ft ds[i] r1 with
  | none=>simp only [eft] at q1; exact q1.elim
  | some r2=>
   simp only [eft] at q1
   refine ⟨zhT m r σ G0 H0,r1,G',ds[i],si1.grow w',rv,r2,eft,fun σ2 si2=>⟨zhT m r σ G0 H0,r2,G',si2,?_⟩⟩
   cases eb:s1 r2 with
   | nx r'=>simp only [eb] at q1; exact fun σ3 G3 H3 le3 si3=>⟨r',G3,si3,oTo.gle q1 (Gle.trans w'.ge le3)⟩
   | ct r'=>simp only [eb] at q1; exact fun σ3 G3 H3 le3 si3=>⟨r',G3,si3,oTo.gle q1 (Gle.trans w'.ge le3)⟩
   | bk r'=>simp only [eb] at q1; exact fun σ3 G3 H3 le3 si3=>q1 σ3 G3 H3 (Gle.trans w'.ge le3) (si0.unlock si3)
   | rt d=>
    simp only [eb] at q1
    intro v G2 H2 wr rv2
    refine q1 v G2 H2 (si0.grown.trans wr) ?_
    cases ro with
    | false=>exact rv2
    | true=>
     rcases rv2 with ⟨a,e1,e2,e3⟩ | z
     ·exact .inl ⟨a,e1,si0.grown.back e2,e3⟩
     ·exact .inr z
   | exc x r'=>simp only [eb] at q1; exact fun pins e s' σ3 G3 H3 le3 si3=>q1 pins e s' σ3 G3 H3 (Gle.trans w'.ge le3) (si0.unlockX si3)
   | stuck=>simp only [eb] at q1; exact q1
 ·have e:i=ds.length:=by omega
  subst e
  rw [List.drop_length] at q1
  exact .inl ⟨Y.stop G1 H1 wg,q1 σ1 G1 H1 (Gle.refl _) (si0.unlock si1)⟩
def zb6 (m:List Md) (p:FQ) (body:FS):Nat→FS
 | 0,_=>.stuck
 | n + 1,r=>onE m r (p r) fun c=>if c=true then (match body r with
   | .nx r'=>zb6 m p body n r'
   | .ct r'=>zb6 m p body n r'
   | .bk r'=>.nx r'
   | o=>o) else .nx r
theorem zhF (n:Nat) (hp:PassesOwn (model X.prog X.w) X.A X.env X.xe) (hc:SQ X g m c p) (hb:SSs X g ro m m sts s1 m):SS X g ro mb m (.While c sts [] pos) (zb6 m p s1 n) m:=by
 refine ⟨rfl,PS.imp (zlP hp hc hb.2) fun D σ H ⟨r,G,si,q⟩=>?_⟩
 refine ⟨fun n σ H=>∃r G,SI X g m r G σ H∧oTo X g ro m mb G D (zb6 m p s1 n r),⟨n,r,G,si,q⟩,?_⟩
 rintro n σ1 H1 ⟨r1,G1,si1,q1⟩
 cases n with
 | zero=>exact q1.elim
 | succ n=>
  unfold zb6 at q1
  refine ⟨r1,G1,si1,zaf (zbo si1 rfl q1) fun c q2 G2 H2 w2=>?_⟩
  cases c with
  | false=>rw [if_neg Bool.false_ne_true] at q2 ⊢; exact q2 σ1 G2 H2 w2.ge (si1.grow w2)
  | true=>
   rw [if_pos rfl] at q2 ⊢
   refine ⟨fun σ' H'=>∃r G,SI X g m r G σ' H'∧oTo X g ro m mb G D (zb6 m p s1 n r),fun σ' H' h=>⟨n,Nat.lt_succ_self _,h⟩,r1,G2,si1.grow w2,?_⟩
   cases eb:s1 r1 with
   | nx r'=>simp only [eb] at q2; exact fun σ3 G3 H3 le3 si3=>⟨r',G3,si3,oTo.gle q2 (Gle.trans w2.ge le3)⟩
   | ct r'=>simp only [eb] at q2; exact fun σ3 G3 H3 le3 si3=>⟨r',G3,si3,oTo.gle q2 (Gle.trans w2.ge le3)⟩
   | bk r'=>simp only [eb] at q2; exact fun σ3 G3 H3 le3 si3=>q2 σ3 G3 H3 (Gle.trans w2.ge le3) si3
   | rt d=>simp only [eb] at q2; exact q2
   | exc x r'=>simp only [eb] at q2; exact fun pins e s' σ3 G3 H3 le3=>q2 pins e s' σ3 G3 H3 (Gle.trans w2.ge le3)
   | stuck=>simp only [eb] at q2; exact q2
end
def noX:Res D→Res D
 | .ok d=>.ok d
 | _=>.stuck
@[simp] theorem noX_ok (d:D):noX (.ok d)=.ok d:=rfl
inductive ArgsOk (K:PySem.W.Frag) (G:GH) (H:Hp):List Md→List V→List D→Prop where
 | nil:ArgsOk K G H [] [] []
 | sh {v:V} {d:D} {ms:List Md} {vs:List V} {ds:List D}:RG K G v d→ArgsOk K G H ms vs ds→ArgsOk K G H (.sh::ms) (v::vs) (d::ds)
 | bw {v:V} {d:D} {ms:List Md} {vs:List V} {ds:List D}:RB K G H v d→ArgsOk K G H ms vs ds→ArgsOk K G H (.bw::ms) (v::vs) (d::ds)
section
variable {K:PySem.W.Frag} {G G':GH} {H H':Hp}
theorem ArgsOk.mono:∀{ms:List Md} {vs:List V} {ds:List D},ArgsOk K G H ms vs ds→Grow K G H G' H'→ArgsOk K G' H' ms vs ds
 | _,_,_,.nil,_=>.nil
 | _,_,_,.sh h t,w=>.sh (h.mono w.ge) (t.mono w)
 | _,_,_,.bw h t,w=>.bw (h.mono w) (t.mono w)
theorem ArgsOk.len {ms:List Md} {vs:List V} {ds:List D} (h:ArgsOk K G H ms vs ds):vs.length=ms.length∧ds.length=ms.length:=by
 induction h with
 | nil=>exact ⟨rfl,rfl⟩
 | sh h t ih=>exact ⟨congrArg (· + 1) ih.1,congrArg (· + 1) ih.2⟩
 | bw h t ih=>exact ⟨congrArg (· + 1) ih.1,congrArg (· + 1) ih.2⟩
theorem ArgsOk.app {dvs:List V} {dds:List D} (hs:Paired Scl dvs dds):∀{ms:List Md} {vs:List V} {ds:List D},ArgsOk K G H ms vs ds→ArgsOk K G H (ms++List.replicate dds.length .sh) (vs++dvs) (ds++dds)
 | _,_,_,.nil=>by
  induction hs with
  | nil=>exact .nil
  | cons h t ih=>exact .sh (.scl h) ih
 | _,_,_,.sh h t=>.sh h (t.app hs)
 | _,_,_,.bw h t=>.bw h (t.app hs)
theorem ArgsOk.get:∀{ms:List Md} {vs:List V} {ds:List D} {i:Nat} {d:D},ArgsOk K G H ms vs ds→ds[i]? = some d→∃v,vs[i]? = some v∧((ms[i]? = some .sh∧RG K G v d)∨(ms[i]? = some .bw∧RB K G H v d))
 | _,_,_,_,_,.nil,e=>by simp at e
 | _,_,_,0,_,.sh h t,e=>by simp at e; subst e; exact ⟨_,rfl,.inl ⟨rfl,h⟩⟩
 | _,_,_,0,_,.bw h t,e=>by simp at e; subst e; exact ⟨_,rfl,.inr ⟨rfl,h⟩⟩
 | _,_,_,i + 1,d,.sh h t,e=>by
  obtain ⟨v,h1,h2⟩:=t.get (i:=i) (d:=d) (by simpa using e)
  exact ⟨v,by simpa using h1,by simpa using h2⟩
 | _,_,_,i + 1,d,.bw h t,e=>by
  obtain ⟨v,h1,h2⟩:=t.get (i:=i) (d:=d) (by simpa using e)
  exact ⟨v,by simpa using h1,by simpa using h2⟩
end
def spM (K:PySem.W.Frag) (ro:Bool) (ms:List Md) (F:List D→Res D):Sp:=fun vs H Q _=>∃G ds,GOk K G H∧ArgsOk K G H ms vs ds∧fin (F ds) (fun d=>∀v G' H',Grow K G H G' H'→RV ro K H G' H' v d→Q v H') fun _=>False
def outR (ro:Bool):Out→Res D
 | .nx _=>if ro=true then .stuck else .ok .non
 | .rt d=>.ok d
 | .exc x _=>.exc x
 | _=>.stuck
def zaq (n:Nat) (ds:List D):Rho:=ds.map some++List.replicate (n - ds.length) none
def zdA (n:Nat) (ms:List Md):List Md:=ms++List.replicate (n - ms.length) .sh
section
variable {P:Program} {w:World} {K:PySem.W.Frag} {mg:Str→Option Value} {base:Heap}
theorem zgf {X:Cx} {N:List Str} {ms:List Md} {vs:List V} {ds:List D} {G:GH} {H:Hp} (gk:GOk X.K G H) (rs:ArgsOk X.K G H ms vs ds) (hn:ms.length≤N.length):SI X ⟨G,H,fun _=>none⟩ (zdA N.length ms) (zaq N.length ds) G (L2.start N vs) H:=by
 obtain ⟨l1,l2⟩:=rs.len
 have e1:(L2.start N vs).length=N.length:=by unfold L2.start; rw [List.length_append,List.length_map,List.length_replicate]; omega
 have e2:(zaq N.length ds).length=N.length:=by unfold zaq; rw [List.length_append,List.length_map,List.length_replicate]; omega
 have e3:(zdA N.length ms).length=N.length:=by unfold zdA; rw [List.length_append,List.length_replicate]; omega
 have at_:∀(i:Nat) d,(zaq N.length ds)[i]? = some (some d)→i < ms.length∧(zdA N.length ms)[i]? = ms[i]?∧∃v,(L2.start N vs)[i]? = some (some v)∧((ms[i]? = some .sh∧RG X.K G v d)∨(ms[i]? = some .bw∧RB X.K G H v d)):=fun i d h=>by
  unfold zaq at h
  by_cases hi:i < ds.length
  ·rw [List.getElem?_append_left (by simpa using hi),List.getElem?_map] at h
   have hd:ds[i]? = some d:=by
    cases z:ds[i]? with
    | none=>rw [z] at h; cases h
    | some d'=>rw [z] at h; cases h; rfl
   obtain ⟨v,hv,rv⟩:=rs.get hd
   refine ⟨by omega,?_,v,?_,rv⟩
   ·unfold zdA
    rw [List.getElem?_append_left (by omega)]
   ·unfold L2.start
    rw [List.getElem?_append_left (by rw [List.length_map]; omega),List.getElem?_map,hv]
    rfl
  ·rw [List.getElem?_append_right (by simpa using hi),List.getElem?_replicate] at h
   split at h <;> cases h
 refine ⟨gk,fun _ _ e=>e,fun _ _ e=>e,fun _ _=>rfl,by rw [e3,e1],by rw [e1,e2],fun i d h hm=>?_,fun i d h hm=>?_,fun i d h hm=>?_,fun i j a d e _ h _ hm=>?_,fun i o h=>nomatch h⟩
 ·obtain ⟨_,hq,v,h1,h2⟩:=at_ i d h
  rw [hq] at hm
  rcases h2 with ⟨_,h2⟩ | ⟨h3,h2⟩
  ·exact ⟨v,h1,h2⟩
  ·rw [hm] at h3; cases h3
 ·obtain ⟨_,hq,v,h1,h2⟩:=at_ i d h
  rw [hq] at hm
  rcases h2 with ⟨h3,h2⟩ | ⟨h3,h2⟩ <;> rw [hm] at h3 <;> cases h3
 ·obtain ⟨_,hq,v,h1,h2⟩:=at_ i d h
  rw [hq] at hm
  rcases h2 with ⟨h3,h2⟩ | ⟨h3,h2⟩
  ·rw [hm] at h3; cases h3
  ·refine ⟨v,h1,?_⟩
   rcases h2 with h2 | ⟨a,rfl,h2⟩
   ·exact .inl h2
   ·exact .inr ⟨a,rfl,h2,h2.ob.isS⟩
 ·obtain ⟨_,hq,v,h1,h2⟩:=at_ i d h
  rw [hq] at hm
  rcases h2 with ⟨h3,h2⟩ | ⟨h3,h2⟩ <;> rw [hm] at h3 <;> cases h3
theorem ziN {X:Cx} {ro:Bool} {fs:FS} {m':List Md} {G:GH} {H:Hp} {r:Rho} {Q:VK} (q:fin (outR ro (fs r)) (fun d=>∀v G' H',Grow X.K G H G' H'→RV ro X.K H G' H' v d→Q v H') fun _=>False) :
  oTo X ⟨G,H,fun _=>none⟩ ro m' [] G { nx:=fun _ H'=>Q .non H',rt:=Q } (fs r):=by
 cases e:fs r with
 | nx r'=>
  rw [e] at q
  cases ro with
  | false=>exact fun σ' G' H' _ si=>q .non G' H' si.grown (.scl .non)
  | true=>exact q.elim
 | rt d=>rw [e] at q; exact fun v G' H' wg rv=>q v G' H' wg rv
 | bk r'=>rw [e] at q; exact q.elim
 | ct r'=>rw [e] at q; exact q.elim
 | exc x r'=>rw [e] at q; exact q.elim
 | stuck=>rw [e] at q; exact q
theorem znf {x qual:Str} {st:Stmt} {f:Addr} {fd:FuncData} {N ps:List Str} {k:Nat} {ro:Bool} {ms:List Md} {fs:FS} {m':List Md} (F:Fun K x qual st f fd) (S:FnScope N ps (defScope st)) (hms:ms.length=ps.length)
  (hbody:∀(cdv:Value) (A:Around) (outer:List Env) (s:Shared) (H:Hp) (g:GE) (E:XK),Room k (A.deeper (envOfC qual (defScope st) s.heap.objs.size f cdv)) →
   SSs (cxOf CX0 P w K mg base N qual (defScope st) f cdv A outer s H E).nox g ro [] (zdA N.length ms) (defBody st) fs m') :
  FnOk P w K mg base CX0 (k + 1) f fd ps (spM K ro ms fun ds=>outR ro (fs (zaq N.length ds))):=by
 refine F.ok S (fun vs H Q E ⟨G,ds,gk,rs,q⟩=>rs.len.1.trans hms) fun cdv A outer s H vs Q E hr h=>?_
 obtain ⟨G,ds,gk,rs,q⟩:=h
 have hpl:ps.length≤N.length:=by have:=congrArg List.length S.pre; rw [List.length_take] at this; omega
 exact ⟨_,(hbody cdv A outer s H ⟨G,H,fun _=>none⟩ E hr).2,zaq N.length ds,G,zgf gk rs (by omega),ziN q⟩
end
section
variable {X:Cx} {g:GE} {m:List Md} {e:Expr} {f:FE} {es:List Expr} {fl:Rho→Res (List D)} {k:Nat} {fa:Addr} {fd:FuncData} {ps:List Str} {F:List D→Res D} {dvs:List V} {ds:List Value} {dds:List D} {x:Str} {p pos:Pos} {ms:List Md}
def tLM (X:Cx) (g:GE) (m:List Md) (ms:List Md) (f:Rho→Res (List D)):TA:=fun σ H Q=>∃r G,SI X g m r G σ H∧fin (f r) (fun ds=>∀vs G' H',Grow X.K G H G' H'→ArgsOk X.K G' H' ms vs ds→Q vs H') (XW X σ G H)
def SAM (X:Cx) (g:GE) (m:List Md) (es:List Expr) (ms:List Md) (f:Rho→Res (List D)):Prop:=PA X es (tLM X g m ms f)
theorem zaW:SAM X g m [] [] lNil:=PA.imp zd6 fun σ H Q ⟨r,G,si,k⟩=>k [] G H (Grow.refl si.gok) .nil
theorem m_sh (ha:SE X g m e f) (hr:SAM X g m es ms fl) (hs:starEach (e::es) X.env=(false,eval e X.env)::starEach es X.env:=by rfl):SAM X g m (e::es) (.sh::ms) (zab f fl):=by
 refine PA.imp (zbH ha hr hs) fun σ H Q ⟨r,G,si,k⟩=>⟨r,G,si,zaf (zah k) fun d k1 v G1 H1 w1 r1=>⟨r,G1,si.grow w1,?_⟩⟩
 exact za0 (zah k1) w1 fun ds z vs G2 H2 w2 r2=>z (v::vs) G2 H2 (w1.trans w2) (.sh (r1.mono w2.ge) r2)
theorem m_bw (ha:SB X g m e f) (hr:SAM X g m es ms fl) (hs:starEach (e::es) X.env=(false,eval e X.env)::starEach es X.env:=by rfl):SAM X g m (e::es) (.bw::ms) (zab f fl):=by
 refine PA.imp (zbH ha hr hs) fun σ H Q ⟨r,G,si,k⟩=>⟨r,G,si,zaf (zah k) fun d k1 v G1 H1 w1 r1=>⟨r,G1,si.grow w1,?_⟩⟩
 exact za0 (zah k1) w1 fun ds z vs G2 H2 w2 r2=>z (v::vs) G2 H2 (w1.trans w2) (.bw (r1.mono w2) r2)
def zaR (fl:Rho→Res (List D)) (dds:List D) (F:List D→Res D):FE:=fun r=>(fl r).bind fun ds=>noX (F (ds++dds))
theorem zk4 {ro:Bool} {vs:List V} {zs:List D} {G:GH} {H:Hp} {Q:VK} (gk:GOk X.K G H) (rs:ArgsOk X.K G H ms vs zs) (hsc:Paired Scl dvs dds) (q:fin (noX (F (zs++dds))) (fun d=>∀v G' H',Grow X.K G H G' H'→RV ro X.K H G' H' v d→Q v H') fun _=>False) :
  spM X.K ro (ms++List.replicate dds.length .sh) F (vs++dvs) H Q E0:=by
 refine ⟨G,zs++dds,gk,rs.app hsc,?_⟩
 cases e:F (zs++dds) with
 | ok d=>rw [e] at q; exact q
 | exc x=>rw [e] at q; exact q.elim
 | stuck=>rw [e] at q; exact q.elim
theorem zkO {α:Type} {r:Res α} {q:α→Prop} {x:D→Prop} (h:fin r q x) (hr:∀e,r≠.exc e):fin r q fun _=>False:=by
 cases r with
 | ok a=>exact h
 | exc e=>exact absurd rfl (hr e)
 | stuck=>exact h
theorem zqy (r:Res D) (e:D):noX r≠.exc e:=by cases r <;> simp [noX]
theorem zpE (G1:FnOk X.prog X.w X.K X.mg X.base CX0 k fa fd ps (spM X.K false (ms++List.replicate dds.length .sh) F)) (hr:Room k X.A) (hg:Gl X x) (hm:X.mg x=some (.ref fa)) (hk:PySem.W.keepIn X.K (.ref fa)=true) (hb:zew X.K fd ps ds) (hd:Vals dvs ds) (hsc:Paired Scl dvs dds)
  (ha:SAM X g m (e::es) ms fl) (hdb:(x == ("__debug__" : Str))=false:=by decide) (he:starEach (e::es) X.env=(false,eval e X.env)::starEach es X.env:=by rfl) (hpl:(backTo pos (starEach es X.env)).any (·.1)=false:=by rfl) :
  SE X g m (.Call (.Name x p) (e::es) [] pos) (zaR fl dds F):=by
 refine PE.imp (zoe G1 hr hg hm hk hb hd zrO ha hdb he hpl) fun σ H Q ⟨r,G,si,q⟩=>⟨r,G,si,?_⟩
 cases ez:fl r with
 | ok zs=>
  unfold zaR at q
  rw [ez] at q
  intro vs G' H' w' rs
  exact zk4 w'.ok rs hsc (zaf (zkO q (zqy _)) fun d k v G2 H2 w2 rv=>k v G2 H2 (w'.trans w2) rv)
 | exc x=>unfold zaR at q; rw [ez] at q; exact q
 | stuck=>unfold zaR at q; rw [ez] at q; exact q
end
end DL
end
section
namespace DL
open PySem PySem.Spec PyProof.Rows L2
theorem zmx {env:Env}:∀(l:List (Str × NameKind)) (cs:List (Str × Addr)),(∀x∈l,x.2=.free→∃c,env.cells.lookup x.1=some c)→(∀x c,cs.lookup x=some c→env.cells.lookup x=some c) →
  ∃cl,(forIn l cs (fun (x:Str × NameKind) (cs:List (Str × Addr))=>if (x.2 == NameKind.free)=true then (do let a ←cellOf env x.1; pure (ForInStep.yield ((x.1,a)::cs))) else pure (ForInStep.yield cs)):Sem (List (Str × Addr)))=pure cl ∧
   (∀x c,cl.lookup x=some c→env.cells.lookup x=some c)∧(∀x,(x,NameKind.free)∈l→∃c,cl.lookup x=some c)∧(∀x c,cs.lookup x=some c→∃c',cl.lookup x=some c'):=by
 intro l
 induction l with
 | nil=>intro cs _ h; exact ⟨cs,rfl,h,fun x hx=>(by cases hx),fun x c h=>⟨c,h⟩⟩
 | cons y l ih=>
  intro cs hf hc
  obtain ⟨n,k⟩:=y
  by_cases hk:k=.free
  ·subst hk
   obtain ⟨c,ec⟩:=hf (n,.free) List.mem_cons_self rfl
   have e1:cellOf env n=pure c:=by unfold cellOf; rw [ec]
   have hc':∀x c',((n,c)::cs).lookup x=some c'→env.cells.lookup x=some c':=fun x c' h=>by
    rw [List.lookup_cons] at h
    cases q:x == n with
    | true=>rw [q] at h; cases h; rw [eq_of_beq q]; exact ec
    | false=>rw [q] at h; exact hc x c' h
   obtain ⟨cl,e2,h1,h2,h3⟩:=ih ((n,c)::cs) (fun x hx=>hf x (List.mem_cons_of_mem _ hx)) hc'
   refine ⟨cl,?_,h1,fun x hx=>?_,fun x c' h=>?_⟩
   ·rw [←e2]
    rw [List.forIn_cons]
    show (cellOf env n >>= fun a=>pure (ForInStep.yield ((n,a)::cs))) >>= _=_
    rw [e1]
    rfl
   ·rcases List.mem_cons.mp hx with z | z
    ·cases z; exact h3 n c (by rw [List.lookup_cons]; simp)
    ·exact h2 x z
   ·cases q:x == n with
    | true=>exact h3 x c (by rw [List.lookup_cons,q])
    | false=>exact h3 x c' (by rw [List.lookup_cons,q]; exact h)
  ·obtain ⟨cl,e2,h1,h2,h3⟩:=ih cs (fun x hx=>hf x (List.mem_cons_of_mem _ hx)) hc
   have hb:(k == NameKind.free)=false:=by simpa using hk
   refine ⟨cl,?_,h1,fun x hx=>?_,h3⟩
   ·rw [←e2,List.forIn_cons]
    simp only [hb,Bool.false_eq_true,if_false]
    rfl
   ·rcases List.mem_cons.mp hx with z | z
    ·cases z; exact absurd rfl hk
    ·exact h2 x z
theorem zjs {scope:Scope} {env:Env} (hf:∀x∈scope.names,x.2=.free→∃c,env.cells.lookup x.1=some c) :
  ∃cl,closureFor scope env=pure cl∧(∀x c,cl.lookup x=some c→env.cells.lookup x=some c)∧(∀x,(x,NameKind.free)∈scope.names→∃c,cl.lookup x=some c):=by
 obtain ⟨cl,e,h1,h2,_⟩:=zmx scope.names [] hf (fun x c h=>by cases h)
 refine ⟨cl,?_,h1,h2⟩
 have e0:closureFor scope env=((forIn scope.names ([]:List (Str × Addr)) (fun (x:Str × NameKind) (cs:List (Str × Addr))=>if (x.2 == NameKind.free)=true then (do let a ←cellOf env x.1; pure (ForInStep.yield ((x.1,a)::cs))) else pure (ForInStep.yield cs)):Sem (List (Str × Addr))) >>= fun cs=>pure cs):=rfl
 rw [e0,e]
 rfl
theorem zdG {f:Str→NameKind→NameKind}:∀(l:List (Str × NameKind)) (x:Str),(l.map fun y=>(y.1,f y.1 y.2)).lookup x=(l.lookup x).map (f x)
 | [],x=>rfl
 | (n,k)::l,x=>by
  rw [List.map_cons,List.lookup_cons,List.lookup_cons]
  cases q:x == n with
  | true=>simp [eq_of_beq q]
  | false=>exact zdG l x
def relK (env:Env) (n:Str) (k:NameKind):NameKind:=if (k == .free && env.scope.kind == .function && env.kindOf n == some .cell)=true then .cell else k
theorem zdE (scope:Scope) (env:Env) (x:Str):(relabel scope env).names.lookup x=(scope.names.lookup x).map (relK env x):=by
 rw [←zdG]
 unfold relabel
 congr 1
 apply List.map_congr_left
 intro y _
 obtain ⟨n,k⟩:=y
 show (if (k == NameKind.free && env.scope.kind == .function && env.kindOf n == some .cell)=true then (n,NameKind.cell) else (n,k))=(n,relK env n k)
 unfold relK
 split <;> rfl
structure CompSc (X:Cx) (scope:Scope) (N':List Str) (nl:Nat) (cap:List Nat):Prop where
 kind:scope.kind=.function
 nocell:∀y∈scope.names,y.2≠.cell
 names:∀y∈scope.names,y.2=.local→scope.names.lookup y.1=some .local
 freeK:∀y∈scope.names,y.2=.free→X.env.kindOf y.1=some .cell∨X.env.kindOf y.1=some .free
 len:N'.length=nl + cap.length
 capN:∀j,j < cap.length→∃x,N'[nl + j]? = some x∧X.N[cap.getD j 0]? = some x∧scope.names.lookup x=some .free
def cxC (X:Cx) (s₀:Shared) (H₀:Hp) (N':List Str) (scope:Scope) (cl:List (Str × Addr)) (C:Addr) (fp:List Addr):Cx where
 prog:=X.prog
 w:=X.w
 K:=X.K
 mg:=X.mg
 base:=X.base
 A:=X.A
 N:=N'
 s₀:=s₀
 H₀:=H₀
 env:=compEnvC scope cl C X.env
 outer:=X.stack
 stack:=X.stack
 ex:=fp
 fn:=fun _=>false
 calm:=X.calm
 pn:=[]
 xe:=fun _ _=>False
section
variable {X:Cx} {pins:List (Addr × Obj)} {σ:L2.St} {H:Hp} {s:Shared} {scope:Scope} {N':List Str} {nl:Nat} {cap:List Nat} {cl:List (Str × Addr)} {C:Addr} {fp:List Addr}
theorem zrg (I:Inv X pins σ H s) (sc:CompSc X scope N' nl cap) (h1:∀x c,cl.lookup x=some c→X.env.cells.lookup x=some c) (h2:∀x,(x,NameKind.free)∈scope.names→∃c,cl.lookup x=some c)
  (hf:∀b∈fp,FpOk X pins H b∧b < s.heap.objs.size) (hC:s.heap.objs.size≤C):(cxC X s H N' scope cl C fp).Ok where
 mod:=I.ok.mod
 kind:=sc.kind
 glob:=I.ok.glob
 blt:=I.ok.blt
 above:=hC
 inj:=fun x y c a b=>I.ok.inj x y c (h1 x c a) (h1 y c b)
 has:=fun x hk=>by
  have hk':(scope.names.lookup x).map (relK X.env x)=some .cell∨(scope.names.lookup x).map (relK X.env x)=some .free:=by
   rw [←zdE]; exact hk
  cases e:scope.names.lookup x with
  | none=>rw [e] at hk'; rcases hk' with z | z <;> cases z
  | some k=>
   have hm:=PySem.mem_of_lookup e
   have kf:k=.free:=by
    rw [e] at hk'
    have hk2:relK X.env x k=.cell∨relK X.env x k=.free:=by
     rcases hk' with z | z
     ·exact .inl (Option.some.inj z)
     ·exact .inr (Option.some.inj z)
    unfold relK at hk2
    split at hk2
    ·rename_i hc
     simp only [Bool.and_eq_true,beq_iff_eq] at hc
     exact hc.1.1
    ·rcases hk2 with z | z
     ·exact absurd z (sc.nocell _ hm)
     ·exact z
   subst kf
   exact h2 x hm
 cab:=fun x c h=>by cases h
 hd:=I.ok.hd
 frames:=I.ok.frames
 stk:=.inl rfl
 exf:=fun b hb=>⟨Nat.ne_of_lt (Nat.lt_of_lt_of_le (hf b hb).2 hC),fun x c e=>(hf b hb).1.2.2.2.2.1 x c (h1 x c e)⟩
 bs:=I.bs
 bsz:=Nat.le_trans I.ok.bsz I.sz
 noex:=fun b o e hb=>by
  obtain ⟨_,_,_,hx,_⟩:=(hf b hb).1
  rcases hx with z | z
  ·exact I.ok.noex b o e z
  ·exact absurd (Nat.lt_of_lt_of_le (Heap.lt_size e) (Nat.le_trans I.ok.bsz z)) (Nat.lt_irrefl _)
 exfs:=fun b hb hfs=>by
  obtain ⟨_,q1,q2,_⟩:=(hf b hb).1
  rcases List.mem_cons.mp (I.stkSub b hfs) with z | z
  ·exact q1 z
  ·exact q2 z
 funs:=I.stack
 frf:=I.stkFree
end
def zdO (ft:FT) (q:FQ) (fe:FE) (r0:Rho):List D→Res (List D)
 | []=>.ok []
 | d::ds=>(opt (ft d r0)).bind fun r1=>(q r1).bind fun c=>if c=true then (fe r1).bind fun v=>(zdO ft q fe r0 ds).bind fun vs=>.ok (v::vs) else zdO ft q fe r0 ds
def capR (nl:Nat) (cap:List Nat) (r:Rho):Rho:=List.replicate nl none++cap.map fun i=>r.getD i none
def capM (nl:Nat) (cap:List Nat) (m:List Md):List Md:=List.replicate nl Md.sh++cap.map fun i=>if m.getD i Md.sh=Md.sh then Md.sh else Md.bw
def capS (nl:Nat) (cap:List Nat) (st:L2.St):L2.St:=List.replicate nl none++cap.map fun i=>st.getD i none
theorem zfy {α:Type} {nl:Nat} {cap:List Nat} {u:α} {h:Nat→α} {i:Nat} (hi:nl≤i):(List.replicate nl u++cap.map h)[i]? = (cap[i - nl]?).map h:=by
 rw [List.getElem?_append_right (by simpa using hi),List.length_replicate,List.getElem?_map]
section
variable {X:Cx} {pins:List (Addr × Obj)} {σ:L2.St} {H H':Hp} {s:Shared} {scope:Scope} {N':List Str} {nl:Nat} {cap:List Nat} {cl:List (Str × Addr)} {C:Addr} {fp:List Addr} {g:GE} {G G':GH} {m:List Md} {r:Rho}
theorem zsh (si:SI X g m r G σ H) (w:Grow X.K G H G' H'):SI (cxC X s H N' scope cl C fp) ⟨G,H,fun _=>none⟩ (capM nl cap m) (capR nl cap r) G' (capS nl cap σ) H':=by
 have lens:(capM nl cap m).length=nl + cap.length:=by simp [capM]
 have lens2:(capR nl cap r).length=nl + cap.length:=by simp [capR]
 have lens3:(capS nl cap σ).length=nl + cap.length:=by simp [capS]
 have rget:∀(i:Nat) d,(capR nl cap r)[i]? = some (some d)→nl≤i∧∃j,cap[i - nl]? = some j∧r[j]? = some (some d):=fun i d h=>by
  by_cases hi:i < nl
  ·unfold capR at h
   rw [List.getElem?_append_left (by simpa using hi),List.getElem?_replicate] at h
   split at h <;> cases h
  ·refine ⟨by omega,?_⟩
   unfold capR at h
   rw [zfy (by omega)] at h
   cases e:cap[i - nl]? with
   | none=>rw [e] at h; cases h
   | some j=>
    rw [e] at h
    refine ⟨j,rfl,?_⟩
    have h':r.getD j none=some d:=Option.some.inj h
    rw [List.getD_eq_getElem?_getD] at h'
    cases e2:r[j]? with
    | none=>rw [e2] at h'; cases h'
    | some o=>rw [e2] at h'; rw [show o=some d from h']
 have mget:∀(i j:Nat) md,nl≤i→cap[i - nl]? = some j→(capM nl cap m)[i]? = some md→md=if m.getD j Md.sh=Md.sh then Md.sh else Md.bw:=fun i j md hi hj h=>by
  unfold capM at h
  rw [zfy hi,hj] at h
  exact (Option.some.inj h).symm
 have sget:∀(i j:Nat) v,nl≤i→cap[i - nl]? = some j→σ[j]? = some (some v)→(capS nl cap σ)[i]? = some (some v):=fun i j v hi hj h=>by
  unfold capS
  rw [zfy hi,hj]
  show some (σ.getD j none)=_
  rw [List.getD_eq_getElem?_getD,h]
  rfl
 have mj:∀(j:Nat) d,r[j]? = some (some d)→m[j]? = some (m.getD j Md.sh):=fun j d h=>by
  have hl:j < m.length:=by
   have:=(List.getElem?_eq_some_iff.mp h).1
   rw [si.lr,←si.lm] at this; exact this
  rw [List.getD_eq_getElem?_getD,List.getElem?_eq_getElem hl]
  rfl
 refine ⟨w.ok,w.he,w.ge,w.gf,by rw [lens,lens3],by rw [lens2,lens3],fun i d h hm=>?_,fun i d h hm=>?_,fun i d h hm=>?_,fun i j a d e _ h _ hm=>?_,fun i o h=>nomatch h⟩
 ·obtain ⟨hi,j,hj,hr⟩:=rget i d h
  have e:=mget i j _ hi hj hm
  have hsh:m.getD j Md.sh=Md.sh:=by
   by_cases z:m.getD j Md.sh=Md.sh
   ·exact z
   ·rw [if_neg z] at e; cases e
  obtain ⟨v,h1,h2⟩:=si.sh j d hr (by rw [mj j d hr,hsh])
  exact ⟨v,sget i j v hi hj h1,h2.mono w.ge⟩
 ·obtain ⟨hi,j,hj,hr⟩:=rget i d h
  have e:=mget i j _ hi hj hm
  split at e <;> cases e
 ·obtain ⟨hi,j,hj,hr⟩:=rget i d h
  have e:=mget i j _ hi hj hm
  have hsh:m.getD j Md.sh≠Md.sh:=by
   intro z
   rw [if_pos z] at e; cases e
  have hmj:=mj j d hr
  cases q:m.getD j Md.sh with
  | sh=>exact absurd q hsh
  | ow=>
   rw [q] at hmj
   obtain ⟨a,h1,h2,_⟩:=si.ow j d hr hmj
   exact ⟨_,sget i j _ hi hj h1,.inr ⟨a,rfl,h2.mono w,h2.ob.isS⟩⟩
  | bw=>
   rw [q] at hmj
   obtain ⟨v,h1,h2⟩:=si.bw j d hr hmj
   refine ⟨v,sget i j _ hi hj h1,?_⟩
   rcases h2 with h2 | ⟨a,rfl,h2,_⟩
   ·exact .inl (h2.mono w.ge)
   ·exact .inr ⟨a,rfl,h2.mono w,h2.ob.isS⟩
 ·obtain ⟨hi,j',hj,hr⟩:=rget i d h
  have e:=mget i j' _ hi hj hm
  split at e <;> cases e
theorem zri (I:Inv X pins σ H s) (ok:(cxC X s H N' scope cl C fp).Ok) (sc:CompSc X scope N' nl cap) (h1:∀x c,cl.lookup x=some c→X.env.cells.lookup x=some c) (h2:∀x,(x,NameKind.free)∈scope.names→∃c,cl.lookup x=some c)
  (hN:X.N.Nodup) {s4:Shared} {H4:Hp} {mc:Str→Option Value} (hos:s4.os=s.os) (hb:AllBare s4.gens) (kp:∀b o,s.heap.get? b=some o→s4.heap.get? b=some o) (hns:s4.heap.Ns C mc) (hC:s.heap.objs.size≤C) (hHC:H4 C=none)
  (hH:∀b,H b=none→b < s.heap.objs.size→H4 b=none) (un:Un (frs X.stack) fp H H4 s.heap s4.heap) (hok:HOk X.prog X.w H4 s4.heap):Inv (cxC X s H N' scope cl C fp) [] (capS nl cap σ) H4 s4:=by
 refine ⟨ok,hos,hb,un,⟨mc,hns,fun i x v e1 e2 e3=>?_⟩,fun x c e=>?_,hHC,fun x c e=>?_,fun p hp=>absurd (show p∈([]:List (Addr × Obj)) from hp) (by simp),hok,?_⟩
 ·have hi:nl≤i:=by
   by_cases z:i < nl
   ·unfold capS at e2
    rw [List.getElem?_append_left (by simpa using z),List.getElem?_replicate] at e2
    split at e2 <;> cases e2
   ·omega
  unfold capS at e2
  rw [zfy hi] at e2
  cases ej:cap[i - nl]? with
  | none=>rw [ej] at e2; cases e2
  | some j=>
   rw [ej] at e2
   have hj:i - nl < cap.length:=(List.getElem?_eq_some_iff.mp ej).1
   obtain ⟨x',q1,q2,q3⟩:=sc.capN (i - nl) hj
   have ed:cap.getD (i - nl) 0=j:=by rw [List.getD_eq_getElem?_getD,ej]; rfl
   rw [ed] at q2
   have ei:nl + (i - nl)=i:=by omega
   rw [ei] at q1
   have e1':N'[i]? = some x:=e1
   rw [q1] at e1'
   have ex:x'=x:=Option.some.inj e1'
   subst ex
   have hv:σ[j]? = some (some v):=by
    have z:σ.getD j none=some v:=Option.some.inj e2
    rw [List.getD_eq_getElem?_getD] at z
    cases q:σ[j]? with
    | none=>rw [q] at z; cases z
    | some o=>rw [q] at z; rw [show o=some v from z]
   have hfree:=PySem.mem_of_lookup q3
   have kX:=sc.freeK _ hfree rfl
   obtain ⟨mx,hnx,hl⟩:=I.loc
   obtain ⟨u,ru,lk⟩:=hl j x' v q2 hv (.inr kX)
   refine ⟨u,ru,.inr ?_⟩
   obtain ⟨c,ec⟩:=h2 x' hfree
   have hkk:Env.kindOf (cxC X s H N' scope cl C fp).env x'=some .cell∨Env.kindOf (cxC X s H N' scope cl C fp).env x'=some .free:=by
    have z:(relabel scope X.env).names.lookup x'=some (relK X.env x' .free):=by rw [zdE,q3]; rfl
    show (relabel scope X.env).names.lookup x'=_∨(relabel scope X.env).names.lookup x'=_
    rw [z]
    unfold relK
    split
    ·exact .inl rfl
    ·exact .inr rfl
   refine ⟨hkk,c,ec,?_⟩
   rcases lk with ⟨k,_⟩ | ⟨_,c',ec',hcell⟩
   ·rcases kX with z | z <;> rw [k] at z <;> cases z
   ·rw [h1 x' c ec] at ec'
    cases ec'
    obtain ⟨o,ho,hd⟩:=hcell
    exact ⟨o,kp c o ho,hd⟩
 ·obtain ⟨v,o,ho,hd⟩:=I.cell x c (h1 x c e)
  exact ⟨v,o,kp c o ho,hd⟩
 ·obtain ⟨v,o,ho,hd⟩:=I.cell x c (h1 x c e)
  exact hH c (I.freeC x c (h1 x c e)) (Heap.lt_size ho)
 ·show (capS nl cap σ).length=N'.length
  rw [sc.len]
  simp [capS]
end
end DL
end
section
namespace DL
open PySem PySem.Spec PyProof.Rows L2
section
variable {prog:Program} {w:World} {A:Around} {R:Result→Shared→Prop} {s:Shared}
theorem zoR {elt target iter:Expr} {ifs:List Expr} {scope:Scope} {pos:Pos} {it acc:Value} {env:Env} (I:Nat→Shared→Prop)
  (turn:∀n s,I n s→wpAny (model prog w) A (pyNext it) (fun r s1=>match r with
   | none=>R (.ok .next) s1
   | some v=>wpAny (model prog w) A (letOwnedTupleGo target it v) (fun _ s1'=>wpAny (model prog w) A (assign target env v) (fun _ s2=>
     wpAny (model prog w) A (forIn ifs true fun c r=>if r=true then do let ok ←isTrue c env (eval c env); pure (ForInStep.yield ok) else pure (ForInStep.yield r)) (fun ok s3=>
      if ok=true then wpAny (model prog w) A (eval elt env) (fun x s4=>
       wpAny (model prog w) A (call (.builtin "list.append") [acc,x]) (fun _ s5=>∃m,m < n∧I m s5) (notedBy (model prog w) A env fun e s'=>R (.error e) s') s4) (notedBy (model prog w) A env fun e s'=>R (.error e) s') s3
      else ∃m,m < n∧I m s3) (notedBy (model prog w) A env fun e s'=>R (.error e) s') s2) (notedBy (model prog w) A env fun e s'=>R (.error e) s') s1')
     (notedBy (model prog w) A env fun e s'=>R (.error e) s') s1) (notedBy (model prog w) A env fun e s'=>R (.error e) s') s)
  (n:Nat) (h:I n s):codeAny (model prog w) A (.compLoop (.ListComp elt [⟨target,iter,ifs,0⟩] scope pos) 0 it acc env) R s:=by
 refine codeAny_loop rfl I (fun n s hI=>?_) n h
 show wpAny _ A ((compTurn (.ListComp elt [⟨target,iter,ifs,0⟩] scope pos) 0 it acc env).onRaise (fun x=>do noteFrame x env; theTreesLotGoes x)) _ _ s
 refine wpAny_noted ?_
 rw [compTurn_list]
 refine wpAny_bind (wpAny_standAt (wpAny_bind (wpAny_mono (turn n s hI) (fun r s1 h1=>?_) fun _ _ h'=>h')))
 cases r with
 | none=>exact wpAny_pure h1
 | some v=>
  refine wpAny_bind (wpAny_mono h1 (fun _ s1' h1'=>?_) fun _ _ h'=>h')
  refine wpAny_bind (wpAny_mono h1' (fun _ s2 h2=>wpAny_bind (wpAny_mono h2 (fun ok s3 h3=>?_) fun _ _ h'=>h')) fun _ _ h'=>h')
  cases ok with
  | false=>exact wpAny_pure ⟨rfl,h3⟩
  | true=>
   exact wpAny_bind (wpAny_bind (wpAny_mono h3 (fun x s4 h4=>wpAny_bind (wpAny_mono h4 (fun _ s5 h5=>wpAny_pure (wpAny_pure ⟨rfl,h5⟩)) fun _ _ h'=>h')) fun _ _ h'=>h'))
end
def SQs (X:Cx) (g:GE) (m:List Md) (ifs:List Expr) (f:FQ):Prop:=∀(pins:List (Addr × Obj)) (s:Shared) (σ:L2.St) (H:Hp) (Q:Bool→Hp→Prop),Inv X pins σ H s→tQ X g m f σ H Q →
 wpAny (model X.prog X.w) X.A (forIn ifs true fun c r=>if r=true then do let ok ←isTrue c X.env (eval c X.env); pure (ForInStep.yield ok) else pure (ForInStep.yield r)) (TP X pins σ Q) X.xe s
section
variable {X:Cx} {g:GE} {m:List Md} {c:Expr} {p:FQ}
theorem zeG:SQs X g m [] fun _=>.ok true:=fun pins s σ H Q I ⟨r,G,si,q⟩=>wpAny_tests_nil ⟨H,I,q G H (Grow.refl si.gok)⟩
theorem zfY (h:SQ X g m c p):SQs X g m [c] p:=fun pins s σ H Q I q=>wpAny_tests_one (h pins s σ H Q I q)
end
def FtOk (ft:FT) (nl:Nat):Prop:=∀d r r1,ft d r=some r1→r1.length=r.length∧∀i,nl≤i→r1[i]? = r[i]?
def zmJ (ft:FTs) (nl:Nat):Prop:=∀d r r1,ft d r=some r1→r1.length=r.length∧∀i,nl≤i→r1[i]? = r[i]?
theorem zbB {i nl:Nat} (h:i < nl):FtOk (ftN i) nl:=fun d r r1 e=>by
 cases e
 exact ⟨by simp,fun j hj=>by rw [List.getElem?_set_ne (by omega)]⟩
theorem zd9 {nl:Nat}:zmJ zci nl:=fun ds r r1 e=>by
 cases ds with
 | nil=>cases e; exact ⟨rfl,fun _ _=>rfl⟩
 | cons _ _=>cases e
theorem zbr {ft:FT} {fts:FTs} {nl:Nat} (h1:FtOk ft nl) (h2:zmJ fts nl):zmJ (zaz ft fts) nl:=fun ds r r1 e=>by
 cases ds with
 | nil=>cases e
 | cons d ds=>
  have e':((ft d r).bind fun r'=>fts ds r')=some r1:=e
  cases q:ft d r with
  | none=>rw [q] at e'; cases e'
  | some r2=>
   rw [q] at e'
   obtain ⟨a1,a2⟩:=h1 d r r2 q
   obtain ⟨b1,b2⟩:=h2 ds r2 r1 e'
   exact ⟨b1.trans a1,fun i hi=>(b2 i hi).trans (a2 i hi)⟩
theorem zhh {fts:FTs} {nl:Nat} (h:zmJ fts nl):FtOk (ftT fts) nl:=fun d r r1 e=>by
 cases d with
 | tup ds=>exact h ds r r1 e
 | lst ds=>exact h ds r r1 e
 | _=>cases e
section
variable {X:Cx} {pins:List (Addr × Obj)} {σ:L2.St} {H2:Hp} {s2:Shared} {scope:Scope} {N':List Str} {nl:Nat} {cap:List Nat} {cl:List (Str × Addr)} {fp:List Addr} {g:GE} {G2:GH} {m:List Md} {r:Rho} {elt tg iter:Expr} {ifs:List Expr} {pos:Pos}
 {J:It} {it:Addr} {tn:Nat→Heap→Prop} {ds vs:List D} {ft:FT} {q:FQ} {fe:FE} {E:Value→Shared→Prop}
theorem zoT (i:Nat):(capM nl cap m)[i]?≠some Md.ow:=fun h=>by
 by_cases hi:i < nl
 ·unfold capM at h
  rw [List.getElem?_append_left (by simpa using hi),List.getElem?_replicate] at h
  split at h <;> cases h
 ·unfold capM at h
  rw [zfy (by omega)] at h
  cases e:cap[i - nl]? with
  | none=>rw [e] at h; cases h
  | some j=>
   rw [e] at h
   have h':(if m.getD j Md.sh=Md.sh then Md.sh else Md.bw)=Md.ow:=Option.some.inj h
   split at h' <;> cases h'
theorem zkZ {i:Nat} (hi:i < nl) (d:D):(capR nl cap r)[i]?≠some (some d):=fun h=>by
 unfold capR at h
 rw [List.getElem?_append_left (by simpa using hi),List.getElem?_replicate] at h
 split at h <;> cases h
theorem zho (hN:X.N.Nodup) (hcalm:X.calm=true) (sc:CompSc X scope N' nl cap) (h1:∀x c,cl.lookup x=some c→X.env.cells.lookup x=some c) (h2:∀x,(x,NameKind.free)∈scope.names→∃c,cl.lookup x=some c)
  (I2:Inv X pins σ H2 s2) (si:SI X g m r G2 σ H2) (T:Turn X.prog X.w X.K tg J fp it tn) (st:tn 0 s2.heap) (hf:∀b∈fp,FpOk X pins H2 b) (Y:YieldsC X.K J ds G2 H2) (hsz:ds.length≤sizeLine)
  (hg:∀C,SG (cxC X s2 H2 N' scope cl C fp) ⟨G2,H2,fun _=>none⟩ (capM nl cap m) tg ft (capM nl cap m)) (hft:FtOk ft nl) (hq:∀C,SQs (cxC X s2 H2 N' scope cl C fp) ⟨G2,H2,fun _=>none⟩ (capM nl cap m) ifs q) (he:∀C,SE (cxC X s2 H2 N' scope cl C fp) ⟨G2,H2,fun _=>none⟩ (capM nl cap m) elt fe)
  (hres:zdO ft q fe (capR nl cap r) ds=.ok vs) {RR:Value→Addr→Result→Shared→Prop}
  (hRR:∀(p C:Addr) (s':Shared) (H':Hp) (G':GH),Inv X pins σ H' s'→(∃mm,s'.heap.Ns C mm)→H' C=none→C≠X.env.locals→X.s₀.heap.objs.size≤C→(∀x c,X.env.cells.lookup x=some c→c≠C)→(∀z∈X.pn++pins,z.1≠C) →
   Grow X.K G2 H2 G' H'→H2 p=none→Own X.K G' H' p (.lst vs)→RR (.ref p) C (.ok .next) s') :
  wpAny (model X.prog X.w) X.A (newList []) (fun acc s3=>wpAny (model X.prog X.w) X.A (newFunctionEnv scope X.env.globals cl [] X.env.qual none .none (some X.env)) (fun cenv s4=>
   codeAny (model X.prog X.w) X.A (.compStart (.ListComp elt [⟨tg,iter,ifs,0⟩] scope pos) 0 (.ref it) acc { cenv with scope:=relabel scope X.env }) (RR acc cenv.locals) s4) E s3) E s2:=by
 refine wpAny_newObj_type (wpAny_newFunctionEnv sc.nocell (by intro y hy; simp at hy) (fun h₁ hns₁ hsb₁=>?_) sc.kind)
 dsimp only at hns₁ hsb₁ ⊢
 generalize hH2:s2.heap.push { cls:=.type "list",dict:=none,data:=.seq ([]:List Value).toArray }=HH at hns₁ hsb₁ ⊢
 have hC:HH.objs.size=s2.heap.objs.size + 1:=by rw [←hH2,Heap.size_push]
 have hDC:s2.heap.objs.size≠HH.objs.size:=by rw [hC]; exact Nat.ne_of_lt (Nat.lt_succ_self _)
 have hCle:s2.heap.objs.size≤HH.objs.size:=by rw [hC]; exact Nat.le_succ _
 have below:∀b,b < s2.heap.objs.size→b≠HH.objs.size∧b≠s2.heap.objs.size:=fun b hb=>⟨by rw [hC]; exact Nat.ne_of_lt (Nat.lt_succ_of_lt hb),Nat.ne_of_lt hb⟩
 have old:∀b o,s2.heap.get? b=some o→h₁.get? b=some o:=fun b o e=>hsb₁.extBut b o (below b (Heap.lt_size e)).1 (Heap.get?_push_of_some _ (hH2 ▸ Heap.get?_push_of_some _ e))
 have hacc:h₁.get? s2.heap.objs.size=some { cls:=.type "list",dict:=none,data:=.seq ([]:List Value).toArray }:=hsb₁.extBut _ _ hDC (Heap.get?_push_of_some _ (hH2 ▸ Heap.get?_push_size _ rfl))
 have hp2:H2 s2.heap.objs.size=none:=I2.hok.fresh (Nat.le_refl _)
 have hflt:∀b∈fp,FpOk X pins H2 b∧b < s2.heap.objs.size:=fun b hb=>⟨hf b hb,by
  obtain ⟨o,e,_⟩:=T.obj 0 s2.heap st b hb
  exact Heap.lt_size e⟩
 have ok:=zrg (fp:=fp) I2 sc h1 h2 hflt hCle
 generalize hXX:cxC X s2 H2 N' scope cl HH.objs.size fp=XX at ok
 have hG2p:G2 s2.heap.objs.size=none:=si.gok.isN hp2
 have w0:Grow X.K G2 H2 G2 (upd H2 s2.heap.objs.size (.lst [])):=Grow.new si.gok hp2 _
 have hok4:HOk X.prog X.w (upd H2 s2.heap.objs.size (.lst [])) h₁:=I2.hok.laid old (Nat.le_refl _) ⟨Nat.zero_le _,[],0,.nil,hacc⟩
 have IC:Inv XX [] (capS nl cap σ) (upd H2 s2.heap.objs.size (.lst [])) { s2 with heap:=h₁,toks:=s2.toks + ([]:List (Str × Value)).length }:=by
  subst hXX
  refine zri I2 ok sc h1 h2 hN rfl I2.bare old hns₁ hCle ?_ (fun b hb hlt=>?_) (Un.laid old (Nat.le_refl _) hp2) hok4
  ·rw [zal (Ne.symm hDC)]; exact I2.hok.fresh hCle
  ·rw [zal (below b hlt).2]; exact hb
 have SC:SI XX ⟨G2,H2,fun _=>none⟩ (capM nl cap m) (capR nl cap r) G2 (capS nl cap σ) (upd H2 s2.heap.objs.size (.lst [])):=by
  subst hXX
  exact zsh si w0
 have hst₁:tn 0 h₁:=T.keep _ _ _ st fun b _ o e=>old b o e
 have hfX:∀(H':Hp),(∀b∈fp,H' b=none)→∀b∈fp,FpOk XX [] H' b:=fun H' hn b hb=>by
  clear IC SC
  subst hXX
  obtain ⟨z0,z1,z2,z3,z4,z5⟩:=hf b hb
  refine ⟨hn b hb,?_,?_,?_,?_,?_⟩
  ·exact (below b (hflt b hb).2).1
  ·intro hfs
   rcases List.mem_cons.mp (I2.stkSub b hfs) with z | z
   ·exact z1 z
   ·exact z2 z
  ·exact .inl hb
  ·exact fun x c e=>z4 x c (h1 x c e)
  ·intro p hp; exact absurd (show p∈([]:List (Addr × Obj)) from hp) (by simp)
 have eA:XX.A=X.A:=Eq.rec (motive:=fun z _=>z.A=X.A) rfl hXX
 have eP:XX.prog=X.prog:=Eq.rec (motive:=fun z _=>z.prog=X.prog) rfl hXX
 have eW:XX.w=X.w:=Eq.rec (motive:=fun z _=>z.w=X.w) rfl hXX
 have eK:XX.K=X.K:=Eq.rec (motive:=fun z _=>z.K=X.K) rfl hXX
 have eX:XX.xe=fun _ _=>False:=Eq.rec (motive:=fun z _=>z.xe=fun _ _=>False) rfl hXX
 have eE:XX.env=compEnvC scope cl HH.objs.size X.env:=Eq.rec (motive:=fun z _=>z.env=compEnvC scope cl HH.objs.size X.env) rfl hXX
 have eC:XX.calm=true:=Eq.rec (motive:=fun z _=>z.calm=true) hcalm hXX
 have eH:XX.H₀ = H2:=Eq.rec (motive:=fun z _=>z.H₀ = H2) rfl hXX
 have hg':PG XX tg (tG XX ⟨G2,H2,fun _=>none⟩ (capM nl cap m) (capM nl cap m) ft):=Eq.rec (motive:=fun z _=>PG z tg (tG z ⟨G2,H2,fun _=>none⟩ (capM nl cap m) (capM nl cap m) ft)) (hg _).2 hXX
 have hq':SQs XX ⟨G2,H2,fun _=>none⟩ (capM nl cap m) ifs q:=Eq.rec (motive:=fun z _=>SQs z ⟨G2,H2,fun _=>none⟩ (capM nl cap m) ifs q) (hq _) hXX
 have he':SE XX ⟨G2,H2,fun _=>none⟩ (capM nl cap m) elt fe:=Eq.rec (motive:=fun z _=>SE z ⟨G2,H2,fun _=>none⟩ (capM nl cap m) elt fe) (he _) hXX
 have fin':∀{H':Hp} {s':Shared} {σ':L2.St} {G':GH} {ws:List V},Inv XX [] σ' H' s'→Grow X.K G2 H2 G' H'→H' s2.heap.objs.size=some (.lst ws)→G' s2.heap.objs.size=none→RGs X.K G' ws vs→RR (.ref s2.heap.objs.size) HH.objs.size (.ok .next) s':=fun {H' s' σ' G' ws} J1 wg hpp hgp rs=>by
  clear IC SC hfX hg' hq' he' eA eP eW eK eX eE eC eH
  subst hXX
  have un:=J1.base
  refine hRR _ _ s' H' G' ?_ (let ⟨mm,hn,_⟩:=J1.loc; ⟨mm,hn⟩) J1.free (Nat.ne_of_gt (Nat.lt_of_lt_of_le I2.lt hCle)) (Nat.le_trans I2.sz hCle) (fun x c e z=>?_) (fun z hz e=>?_) wg hp2 ⟨hgp,.lst hpp rs⟩
  ·refine I2.call' J1.os un J1.hok J1.bare fun b hb=>?_
   obtain ⟨z0,z1,z2,z3,z4,z5⟩:=hf b hb
   exact ⟨z3,z1,z4,z5⟩
  ·obtain ⟨v,o,ho,_⟩:=I2.cell x c e
   exact absurd (Nat.lt_of_lt_of_le (Heap.lt_size ho) hCle) (by rw [z]; exact Nat.lt_irrefl _)
  ·have:=(I2.pin z hz).1
   exact absurd (Nat.lt_of_lt_of_le (Heap.lt_size this) hCle) (by rw [e]; exact Nat.lt_irrefl _)
 have loop:codeAny (model X.prog X.w) X.A (.compLoop (.ListComp elt [⟨tg,iter,ifs,0⟩] scope pos) 0 (.ref it) (.ref s2.heap.objs.size) (compEnvC scope cl HH.objs.size X.env)) (RR (.ref s2.heap.objs.size) HH.objs.size)
   { s2 with heap:=h₁,toks:=s2.toks + ([]:List (Str × Value)).length }:=by
  refine zoR (fun n s'=>∃(i:Nat) (σ':L2.St) (H':Hp) (G':GH) (ws:List V) (done rest:List D),Inv XX [] σ' H' s'∧SI XX ⟨G2,H2,fun _=>none⟩ (capM nl cap m) (capR nl cap r) G' σ' H'∧tn i s'.heap∧(∀b∈fp,H' b=none)∧Grow X.K G2 H2 G' H' ∧
    H' s2.heap.objs.size=some (.lst ws)∧G' s2.heap.objs.size=none∧RGs X.K G' ws done∧zdO ft q fe (capR nl cap r) (ds.drop i)=.ok rest∧vs=done++rest∧done.length≤i∧i≤ds.length∧n=ds.length - i) ?_ ds.length
   ⟨0,_,_,G2,[],[],vs,IC,SC,hst₁,fun b hb=>?_,w0,zak,hG2p,.nil,hres,rfl,Nat.le_refl _,Nat.zero_le _,rfl⟩
  rotate_left
  ·rw [zal (below b (hflt b hb).2).2]; exact (hf b hb).1
  rintro n s3 ⟨i,σ3,H3,G3,ws,done,rest,I3,S3,st3,fr3,w3,hp3,hg3,rs3,hr3,hv3,hd3,hi3,rfl⟩
  have weaken:∀{α:Type} {t:Sem α} {Q:α→Shared→Prop} {s':Shared} {E':Value→Shared→Prop},wpAny (model XX.prog XX.w) XX.A t Q XX.xe s'→wpAny (model X.prog X.w) X.A t Q E' s':=fun h=>by
   rw [eP,eW,eA,eX] at h
   exact wpAny_mono h (fun _ _ z=>z) fun _ _ z=>z.elim
  by_cases hlt:i < ds.length
  ·have hd:ds.drop i=ds[i]::ds.drop (i + 1):=List.drop_eq_getElem_cons hlt
   rw [hd] at hr3
   unfold zdO at hr3
   have it3:=T.item XX eP eW eK eC i [] s3 σ3 H3 (notedBy (model X.prog X.w) X.A (compEnvC scope cl HH.objs.size X.env) fun e s'=>RR (.ref s2.heap.objs.size) HH.objs.size (.error e) s') I3 (hfX H3 fr3) st3 (Y.go G3 H3 i w3 hlt)
   rw [eA] at it3
   refine thn it3 fun rr s4 ⟨u,hr,h4⟩=>?_
   subst hr
   refine thn h4 fun _ s5 ⟨x,H5,I5,r5,y5,st5,fr5⟩=>?_
   obtain ⟨G5,w5,rv5⟩:=Y.yld G3 H3 i x H5 ds[i] w3 y5 (List.getElem?_eq_getElem hlt)
   have w25:=w3.trans w5
   cases eft:ft ds[i] (capR nl cap r) with
   | none=>rw [eft] at hr3; cases hr3
   | some r1=>
    rw [eft] at hr3
    simp only [opt_some,bind_ok] at hr3
    have I5':=I5.pinned (hfX H5 fr5) (T.obj _ _ st5)
    have S5:SI XX ⟨G2,H2,fun _=>none⟩ (capM nl cap m) (capR nl cap r) G5 σ3 H5:=S3.grow (by rw [eK]; exact w5)
    have rv5':RG XX.K G5 x ds[i]:=by rw [eK]; exact rv5
    have as5:=hg' _ s5 σ3 H5 x u (fun σ6 H6=>H6=H5∧SI XX ⟨G2,H2,fun _=>none⟩ (capM nl cap m) r1 G5 σ6 H5) I5' r5 ⟨capR nl cap r,G5,ds[i],S5,rv5',r1,eft,fun σ6 si6=>⟨rfl,si6⟩⟩
    rw [eE] at as5
    refine thn (weaken as5) fun _ s6 ⟨σ6,H6,I6,e6,S6⟩=>?_
    subst e6
    obtain ⟨fl1,fl2⟩:=hft _ _ _ eft
    cases eq1:q r1 with
    | stuck=>rw [eq1] at hr3; cases hr3
    | exc xx=>rw [eq1] at hr3; cases hr3
    | ok b1=>
     rw [eq1] at hr3
     simp only [bind_ok] at hr3
     have te6:=hq' _ s6 σ6 H6 (fun b H7=>b=b1∧∃G7,Grow X.K G5 H6 G7 H7) I6 ⟨r1,G5,S6,by rw [eq1]; exact fun G7 H7 w7=>⟨rfl,G7,by rw [eK] at w7; exact w7⟩⟩
     rw [eE] at te6
     refine thn (weaken te6) fun b s7 ⟨H7,I7,eb,G7,w7⟩=>?_
     subst eb
     have S7:SI XX ⟨G2,H2,fun _=>none⟩ (capM nl cap m) r1 G7 σ6 H7:=S6.grow (by rw [eK]; exact w7)
     have w27:=w25.trans w7
     have hp7:H7 s2.heap.objs.size=some (.lst ws):=w7.he _ _ (w5.he _ _ hp3)
     have hg7:G7 s2.heap.objs.size=none:=by
      rw [w7.gf _ (by rw [w5.he _ _ hp3]; simp),w5.gf _ (by rw [hp3]; simp)]; exact hg3
     have back:∀{σ8:L2.St} {H8:Hp} {G8:GH} {s8:Shared},Inv XX ([]++zfg fp s5.heap) σ8 H8 s8→Inv XX [] σ8 H8 s8∧tn (i + 1) s8.heap∧∀b∈fp,H8 b=none:=fun {σ8 H8 G8 s8} I8=>by
      refine ⟨I8.unpinned,T.keep _ _ _ st5 fun b hb o e=>(I8.pin (b,o) (List.mem_append_right _ (List.mem_append_right _ (zbw hb e)))).1,fun b hb=>?_⟩
      obtain ⟨o,e,_⟩:=T.obj _ _ st5 b hb
      exact (I8.pin (b,o) (List.mem_append_right _ (List.mem_append_right _ (zbw hb e)))).2.1
     have less:∀{σ8:L2.St} {H8:Hp} {G8:GH},SI XX ⟨G2,H2,fun _=>none⟩ (capM nl cap m) r1 G8 σ8 H8→SI XX ⟨G2,H2,fun _=>none⟩ (capM nl cap m) (capR nl cap r) G8 σ8 H8:=fun h=>h.less fl1.symm fun j d hj=>by
      by_cases hjn:j < nl
      ·exact absurd hj (zkZ hjn d)
      ·rw [fl2 j (by omega)]; exact hj
     cases b with
     | false=>
      rw [if_neg Bool.false_ne_true] at hr3 ⊢
      obtain ⟨I7',t7,f7⟩:=back (G8:=G7) I7
      exact ⟨ds.length - (i + 1),by omega,i + 1,σ6,H7,G7,ws,done,rest,I7',less S7,t7,f7,w27,hp7,hg7,rs3.mono (Gle.trans w5.ge w7.ge),hr3,hv3,by omega,hlt,rfl⟩
     | true=>
      rw [if_pos rfl] at hr3 ⊢
      cases ee1:fe r1 with
      | stuck=>rw [ee1] at hr3; cases hr3
      | exc xx=>rw [ee1] at hr3; cases hr3
      | ok d1=>
       rw [ee1] at hr3
       simp only [bind_ok] at hr3
       cases er:zdO ft q fe (capR nl cap r) (ds.drop (i + 1)) with
       | stuck=>rw [er] at hr3; cases hr3
       | exc xx=>rw [er] at hr3; cases hr3
       | ok rest'=>
        rw [er] at hr3
        simp only [bind_ok] at hr3
        cases hr3
        have el7:=he' _ s7 σ6 H7 (fun v H8=>∃G8,Grow X.K G7 H7 G8 H8∧RG X.K G8 v d1) I7 ⟨r1,G7,S7,by rw [ee1]; exact fun v G8 H8 w8 rv=>⟨G8,by rw [eK] at w8; exact w8,by rw [eK] at rv; exact rv⟩⟩
        rw [eE] at el7
        refine thn (weaken el7) fun u8 s8 ⟨v8,H8,I8,r8,G8,w8,rv8⟩=>?_
        have hp8:H8 s2.heap.objs.size=some (.lst ws):=w8.he _ _ hp7
        have hg8:G8 s2.heap.objs.size=none:=by rw [w8.gf _ (by rw [hp7]; simp)]; exact hg7
        have S8:SI XX ⟨G2,H2,fun _=>none⟩ (capM nl cap m) r1 G8 σ6 H8:=S7.grow (by rw [eK]; exact w8)
        have hlen:=Paired.length rs3
        have ap8:=zcF (X:=XX) _ s8 σ6 H8 (.ref s2.heap.objs.size) [v8] (.ref s2.heap.objs.size) [u8] (fun v H9=>H9=upd H8 s2.heap.objs.size (.lst (ws++[v8]))) I8 rfl (.cons r8 .nil) ⟨_,ws,v8,rfl,rfl,hp8,by omega,rfl⟩
        refine thn (weaken ap8) fun u9 s9 ⟨v9,H9,I9,r9,e9⟩=>?_
        subst e9
        obtain ⟨I9',t9,f9⟩:=back (G8:=G8) I9
        have rsn:RGs X.K G8 (ws++[v8]) (done++[d1]):=Paired.snoc (rs3.mono (Gle.trans (Gle.trans w5.ge w7.ge) w8.ge)) rv8
        have w28:=w27.trans w8
        refine ⟨ds.length - (i + 1),by omega,i + 1,σ6,_,G8,ws++[v8],done++[d1],rest',I9',less (S8.other hg8 hp2 zoT _),t9,f9,?_,zak,hg8,rsn,er,by rw [hv3,List.append_assoc]; rfl,by rw [List.length_append,List.length_singleton]; omega,hlt,rfl⟩
        refine ⟨fun b e hb=>(w28.ok b e hb).mono (fun _ _ z=>z) fun o z=>?_,fun b o hb=>?_,w28.ge,w28.gf⟩
        ·rw [zal (by rintro rfl; rw [hg8] at hb; cases hb)]; exact z
        ·rw [zal (by rintro rfl; rw [hp2] at hb; cases hb)]; exact w28.he b o hb
  ·have e:i=ds.length:=by omega
   subst e
   rw [List.drop_length] at hr3
   cases hr3
   rw [List.append_nil] at hv3
   subst hv3
   have dn:=T.done XX eP eW eK eC ds.length [] s3 σ3 H3 (notedBy (model X.prog X.w) X.A (compEnvC scope cl HH.objs.size X.env) fun e s'=>RR (.ref s2.heap.objs.size) HH.objs.size (.error e) s') I3 (hfX H3 fr3) st3 (Y.stop G3 H3 w3)
   rw [eA] at dn
   refine thn dn fun rr s4 ⟨hr,I4⟩=>?_
   subst hr
   exact fin' I4 w3 hp3 hg3 rs3
 exact codeAny_compStart_list loop (T.self X.A 0 _ _ _ hst₁ loop)
end
end DL
end
section
namespace DL
open PySem PySem.Spec PyProof.Rows L2
def noXL:Res (List D)→Res (List D)
 | .ok d=>.ok d
 | _=>.stuck
@[simp] theorem noXL_ok (d:List D):noXL (.ok d)=.ok d:=rfl
def zca (nl:Nat) (cap:List Nat) (fi:FI) (ft:FT) (q:FQ) (fe:FE):FE:=fun r=>(fi r).bind fun ds=>(opt (sz ds)).bind fun ds=>(noXL (zdO ft q fe (capR nl cap r) ds)).bind fun vs=>.ok (.lst vs)
section
variable {X:Cx} {g:GE} {m mb:List Md} {scope:Scope} {N':List Str} {nl:Nat} {cap:List Nat} {elt tg iter:Expr} {ifs:List Expr} {pos pos' spos:Pos} {fi:FI} {ft:FT} {q:FQ} {fe:FE} {ro:Bool}
theorem zhl {r:Rho} {P:D→Prop} {x:D→Prop} (h:fin (zca nl cap fi ft q fe r) P x):fin (fi r) (fun ds=>∃vs,ds.length≤sizeLine∧zdO ft q fe (capR nl cap r) ds=.ok vs∧P (.lst vs)) x:=by
 unfold zca at h
 refine zaf (zah h) fun ds h1=>?_
 obtain ⟨ds',e2,h2⟩:=zaD (zah h1)
 obtain ⟨rfl,hl⟩:=zny e2
 cases e3:zdO ft q fe (capR nl cap r) ds' with
 | ok vs=>rw [e3] at h2; exact ⟨vs,hl,rfl,h2⟩
 | exc x=>rw [e3] at h2; exact h2.elim
 | stuck=>rw [e3] at h2; exact h2.elim
theorem CompSc.clo {pins:List (Addr × Obj)} {σ:L2.St} {H:Hp} {s:Shared} (sc:CompSc X scope N' nl cap) (ok:X.Ok):∃cl,closureFor scope X.env=pure cl∧(∀x c,cl.lookup x=some c→X.env.cells.lookup x=some c)∧(∀x,(x,NameKind.free)∈scope.names→∃c,cl.lookup x=some c):=
 zjs fun y hy hf=>ok.has y.1 (sc.freeK y hy hf)
theorem zfj (hN:X.N.Nodup) (hcalm:X.calm=true) (sc:CompSc X scope N' nl cap) (hi:SItC X g m tg iter fi) (hg:∀s0 H0 cl C fp g',SG (cxC X s0 H0 N' scope cl C fp) g' (capM nl cap m) tg ft (capM nl cap m)) (hft:FtOk ft nl)
  (hq:∀s0 H0 cl C fp g',SQs (cxC X s0 H0 N' scope cl C fp) g' (capM nl cap m) ifs q) (he:∀s0 H0 cl C fp g',SE (cxC X s0 H0 N' scope cl C fp) g' (capM nl cap m) elt fe)
  (hs:∀x,foldedSetIterable iter X.env x=pure x:=by intro _; rfl):SO X g m (.ListComp elt [⟨tg,iter,ifs,0⟩] scope pos) (zca nl cap fi ft q fe):=by
 intro pins s σ H Q I h
 obtain ⟨r,G,si,k⟩:=h
 obtain ⟨cl,hcl,h1,h2⟩:=sc.clo (pins:=pins) (σ:=σ) (H:=H) (s:=s) I.ok
 have k1:=zhl k
 rw [eval_ListComp]
 refine wpAny_comprehension_free (use:=none) rfl hs hcl sc.kind sc.names (thn (hi pins s σ H (fun J H'=>∃G' ds vs,Grow X.K G H G' H'∧YieldsC X.K J ds G' H'∧ds.length≤sizeLine∧zdO ft q fe (capR nl cap r) ds=.ok vs ∧
  (∀a G' H',Grow X.K G H G' H'→H a=none→Own X.K G' H' a (.lst vs)→Q (.ref a) H')) I ⟨r,G,si,zaf k1 fun ds ⟨vs,z1,z2,z3⟩ J G' H' w y=>⟨G',ds,vs,w,y,z1,z2,z3⟩⟩) fun v s1 hv=>thn hv fun itv s2 hv2=>?_)
 obtain ⟨it,fp,tn,J,H2,rfl,I2,T,st,hf,G2,ds,vs,w2,Y,hsz,hres,hQ⟩:=hv2
 refine zho (RR:=fun acc C=>compPost (model X.prog X.w) X.A X.xe none (EP X pins σ Q) acc C) hN hcalm sc h1 h2 I2 (si.grow w2) T st hf Y hsz (fun C=>hg _ _ _ _ _ _) hft (fun C=>hq _ _ _ _ _ _) (fun C=>he _ _ _ _ _ _) hres ?_
 intro p C s' H' G' I' hns hC1 hC2 hC3 hC4 hC5 w' hp ho
 obtain ⟨mm,hn⟩:=hns
 refine ⟨mm,hn,fun h' hsb=>⟨.ref p,H',?_,rfl,hQ p G' H' (w2.trans w') (w2.back hp) ho⟩⟩
 exact I'.turned (it:=C) (t':=s'.toks) (fun b o hb e=>hsb.extBut b o hb e) hC1 hC2.symm.symm (.inr hC3) hC4 hC5
theorem zb8 (i:Nat) {y:Str} (hN:X.N.Nodup) (hcalm:X.calm=true) (hy:X.N[i]? = some y) (hyl:X.env.scope.names.lookup y=some .local) (sc:CompSc X scope N' nl cap) (hi:SItC X g m tg iter fi) (hg:∀s0 H0 cl C fp g',SG (cxC X s0 H0 N' scope cl C fp) g' (capM nl cap m) tg ft (capM nl cap m)) (hft:FtOk ft nl)
  (hq:∀s0 H0 cl C fp g',SQs (cxC X s0 H0 N' scope cl C fp) g' (capM nl cap m) ifs q) (he:∀s0 H0 cl C fp g',SE (cxC X s0 H0 N' scope cl C fp) g' (capM nl cap m) elt fe)
  (hsw:swapsWith (.ListComp elt [⟨tg,iter,ifs,0⟩] scope pos) (some (.Name y pos')) spos.line X.env=pure true:=by rfl) (hs:∀x,foldedSetIterable iter X.env x=pure x:=by intro _; rfl) :
  SS X g ro mb m (.Assign [.Name y pos'] (.ListComp elt [⟨tg,iter,ifs,0⟩] scope pos) spos) (setF m i (zca nl cap fi ft q fe)) (m.set i .ow):=by
 refine ⟨by simp,?_⟩
 intro pins s σ H D0 I h
 obtain ⟨r,G,si,k⟩:=h
 obtain ⟨cl,hcl,h1,h2⟩:=sc.clo (pins:=pins) (σ:=σ) (H:=H) (s:=s) I.ok
 have k1:=zhl (zbo si (m':=m.set i .ow) (by simp) k)
 rw [exec_Assign_Name_used _ _ _ _ hsw]
 refine wpAny_bind (wpAny_standAt (wpAny_bind ?_))
 show wpAny _ X.A (do let _ ←comprehension (.ListComp elt [⟨tg,iter,ifs,0⟩] scope pos) scope X.env _ (newList []) false (eval iter X.env) (some (assign (.Name y pos') X.env))) _ _ s
 refine wpAny_bind (wpAny_mono (wpAny_comprehension_free (use:=some (assign (.Name y pos') X.env)) (Q:=fun _ s'=>SP X pins D0 .next s') rfl hs hcl sc.kind sc.names (thn (hi pins s σ H (fun J H'=>∃G' ds vs,Grow X.K G H G' H'∧YieldsC X.K J ds G' H'∧ds.length≤sizeLine∧zdO ft q fe (capR nl cap r) ds=.ok vs ∧
  (∀σ' G' H',Gle G G'→SI X g (m.set i .ow) (r.set i (some (.lst vs))) G' σ' H'→D0.nx σ' H')) I ⟨r,G,si,zaf k1 fun ds ⟨vs,z1,z2,z3⟩ J G' H' w y=>⟨G',ds,vs,w,y,z1,z2,z3⟩⟩) fun v s1 hv=>thn hv fun itv s2 hv2=>?_)) (fun _ s' hq=>wpAny_pure (wpAny_pure hq)) fun _ _ e=>e)
 obtain ⟨it,fp,tn,J,H2,rfl,I2,T,st,hf,G2,ds,vs,w2,Y,hsz,hres,hQ⟩:=hv2
 refine zho (RR:=fun acc C=>compPost (model X.prog X.w) X.A X.xe (some (assign (.Name y pos') X.env)) (fun _ s'=>SP X pins D0 .next s') acc C) hN hcalm sc h1 h2 I2 (si.grow w2) T st hf Y hsz (fun C=>hg _ _ _ _ _ _) hft (fun C=>hq _ _ _ _ _ _) (fun C=>he _ _ _ _ _ _) hres ?_
 intro p C s' H' G' I' hns hC1 hC2 hC3 hC4 hC5 w' hp ho
 obtain ⟨mm,hn⟩:=hns
 show wpAny _ X.A (assign (.Name y pos') X.env (.ref p)) _ _ s'
 refine wpAny_assign_Name (zgJ I' hN hy (.inl hyl) (v:=.ref p) rfl (fun s'' I'' ⟨a,hsb,ha⟩=>?_) (.inr hyl))
 have hCa:C≠a:=by
  rcases ha with z | z
  ·rw [z]; exact hC2
  ·exact (hC4 y a z).symm
 refine ⟨mm,hn.sameBut hsb hCa,fun h' hsb'=>?_⟩
 refine ⟨_,H',I''.turned (it:=C) (t':=s''.toks) (fun b o hb e=>hsb'.extBut b o hb e) hC1 hC2 (.inr hC3) hC4 hC5,?_⟩
 exact hQ _ G' H' (w2.trans w').ge (si.setN (w2.trans w') i (w2.back hp) ho)
end
end DL
end
section
namespace DL
open PySem PySem.Spec PyProof.Rows L2
def MutD (K:PySem.W.Frag) (r:V→List V→Hp→VK→Prop) (mk:D→List D→Option D):Prop:=∀(G:GH) (H:Hp) (a:Addr) (d:D) (vs:List V) (ds:List D) (d':D) (Q:VK),GOk K G H→Own K G H a d→RGs K G vs ds→mk d ds=some d' →
 (∀o',OwnO K G (upd H a o') a d'→Q .non (upd H a o'))→r (.ref a) vs H Q
def tyB (T:String):D→Bool
 | .lst _=>T == "list"
 | .dic _=>T == "dict"
 | _=>false
def mutF (T:String) (m:List Md) (i:Nat) (fl:Rho→Res (List D)) (mk:D→List D→Option D):FS:=fun r=>match r[i]? with
 | some (some d)=>if tyB T d=true then onE m r (fl r) fun ds=>(match mk d ds with
  | some d'=>.nx (r.set i (some d'))
  | none=>.stuck) else .stuck
 | _=>.stuck
theorem zpe {K:PySem.W.Frag} {G:GH} {H:Hp} {a:Addr} {d:D} {T:String} (o:Own K G H a d) (t:tyB T d=true):tyV K T (.ref a) H:=by
 cases o.ob with
 | lst r s=>exact .inl ⟨eq_of_beq t,_,SqL.of r⟩
 | dic r s=>exact .inr (.inr (.inl ⟨eq_of_beq t,.inl ⟨_,.inl r⟩⟩))
section
variable {X:Cx} {g:GE} {m mb:List Md} {e a b o:Expr} {es:List Expr} {f fa fb:FE} {fl:Rho→Res (List D)} {pos pos' apos cpos:Pos} {ro:Bool} {x name:Str} {T id:String} {R:V→List V→Hp→VK→Prop} {mk:D→List D→Option D}
theorem zl5 (i:Nat) (hm:m[i]? = some .ow) (hk:MutD X.K R mk) {D0:Ends} {σ:L2.St} {H:Hp} (h:tS X g ro m m mb (mutF T m i fl mk) D0 σ H) :
  ∃v,σ[i]? = some (some v)∧tyV X.K T v H∧tL X g m fl σ H fun xs H2=>R v xs H2 fun _ H1=>D0.nx σ H1:=by
 obtain ⟨r,G,si,k⟩:=h
 unfold mutF at k
 cases er:r[i]? with
 | none=>simp only [er] at k; exact (show False from k).elim
 | some oo=>
  cases oo with
  | none=>simp only [er] at k; exact (show False from k).elim
  | some d=>
   simp only [er] at k
   by_cases ht:tyB T d=true
   ·rw [if_pos ht] at k
    obtain ⟨a,h1,h2,h3⟩:=si.mut hm er
    refine ⟨_,h1,zpe h2 ht,r,G,si,zaf (zbo si rfl k) fun ds k2 vs G' H' w rs=>?_⟩
    cases em:mk d ds with
    | none=>simp only [em] at k2; exact (show False from k2).elim
    | some d'=>
     simp only [em] at k2
     obtain ⟨a',h1',h2',h3'⟩:=(si.grow w).mut hm er
     rw [h1] at h1'; cases h1'
     exact hk G' H' a d vs ds d' _ w.ok h2' rs em fun o' ob=>k2 σ G' _ w.ge (h3' o' d' ob)
   ·rw [if_neg ht] at k; exact (show False from k).elim
theorem zi1 (i:Nat) (hm:m[i]? = some .ow) (pa:PlainAttrs T) (slot:Slot T name id) (hty:typeOf (.builtin id)=pure (.type "method_descriptor")) (hmt:MtR X id R) (hk:MutD X.K R mk) (hN:X.N[i]? = some x) (hv:Vis X.env.scope x) (ha:SA X g m (e::es) fl)
  (hd:(x == ("__debug__" : Str))=false:=by decide) (hcd:(x == ("__classdict__" : Str))=false:=by decide)
  (hbase:attributeBase (.Name x pos') name X.env (eval (.Name x pos') X.env)=eval (.Name x pos') X.env:=by rfl)
  (hfew:((backTo cpos (starEach (e::es) X.env)).all (fun x=>! x.1) && (backToKw cpos (keywordEach [] X.env)).all (fun x=>x.1.isSome) && decide ((e::es).length + ([]:List Keyword).length + (if ([]:List Keyword).isEmpty then 0 else 1) < 30))=true:=by rfl)
  (hline:(apos.endLine == cpos.line)=true:=by rfl) (hst:starEach (e::es) X.env=(false,eval e X.env)::starEach es X.env:=by rfl) (hplain:(backTo cpos (starEach es X.env)).any (·.1)=false:=by rfl) :
  SS X g ro mb m (.Expr (.Call (.Attribute (.Name x pos') name apos) (e::es) [] cpos) pos) (mutF T m i fl mk) m:=
 ⟨rfl,PS.imp (zhM (zqe pa slot hty hmt (zd5 hN hv hd hcd) ha hbase hfew hline hst hplain)) fun D0 σ H h=>zl5 i hm hk h⟩
def appD:D→List D→Option D
 | .lst ds,[d]=>if ds.length < sizeLine then some (.lst (ds++[d])) else none
 | _,_=>none
theorem zhx {K:PySem.W.Frag}:MutD K zjZ appD:=by
 intro G H a d vs ds d' Q gk ow rs e q
 unfold appD at e
 split at e
 ·split at e
  ·rename_i hl
   cases e
   cases ow.ob with
   | lst r s=>
    cases rs with
    | cons r1 t=>
     cases t
     have:=Paired.length s
     exact ⟨a,_,_,rfl,rfl,r,by omega,q _ (.lst zak (Paired.snoc s r1))⟩
  ·cases e
 ·cases e
def zoC (x:Int) (n:Nat):Nat:=if x < 0 then (x + (n:Int)).toNat else min x.toNat n
def insL {α:Type} (xs:List α) (x:Int) (y:α):List α:=xs.take (zoC x xs.length)++y::xs.drop (zoC x xs.length)
def zjX:V→List V→Hp→VK→Prop:=fun x vs H Q=>∃l xs i y,x=.ref l∧vs=[.int i,y]∧H l=some (.lst xs)∧-(2 ^ 63)≤i∧i < 2 ^ 63∧xs.length < sizeLine∧Q .non (upd H l (.lst (insL xs i y)))
theorem zkq:MtR X "list.insert" zjX:=by
 intro pins s σ H x vs v us Q I rx rv h
 obtain ⟨l,xs,i,y,rfl,rfl,hH,h1,h2,hz,q⟩:=h
 cases rx
 obtain ⟨u,w',rfl,⟨t,rfl⟩,ry⟩:=zlj rv
 obtain ⟨z,its,n,r,hl,e⟩:=I.lstM hH
 have hfit:¬(! Builtin.List.listFitsIndex i)=true:=by rw [fitsIndex_both h1 h2]; exact Bool.false_ne_true
 refine call_meets PySem.F.slot_list_insert ⟨_,e,rfl⟩ PySem.F.entry_list_insert (PySem.F.args_list_insert_3 _ _ _) (AutoListH.list_insert_list_int_val_1 l its.toArray n i t w' hfit (by rw [List.size_toArray]; omega)) ⟨e,?_⟩
 refine ⟨.non,_,I.lset (its':=insL its i w') hH e ?_ ?_ ?_,rfl,q⟩
 ·show ((its.toArray.extract 0 (if i < 0 then (i + ((its.toArray.size:Nat):Int)).toNat else min i.toNat its.toArray.size)).push w'++its.toArray.extract (if i < 0 then (i + ((its.toArray.size:Nat):Int)).toNat else min i.toNat its.toArray.size))=(insL its i w').toArray
  rw [List.size_toArray]
  unfold insL zoC
  generalize (if i < 0 then (i + ((its.length:Nat):Int)).toNat else min i.toNat its.length)=k
  apply Array.ext'
  simp
  exact List.take_of_length_le (by rw [List.length_drop]; exact Nat.le_refl _)
 ·unfold insL
  rw [hl]
  exact Vals.append (r.take _) (.cons ry (r.drop _))
 ·unfold insL
  rw [List.length_append,List.length_cons,List.length_take,List.length_drop]
  omega
def insD:D→List D→Option D
 | .lst ds,[.int i,d]=>if ds.length < sizeLine∧-(2 ^ 63)≤i∧i < 2 ^ 63 then some (.lst (insL ds i d)) else none
 | _,_=>none
theorem zqU {α β:Type} {F:α→β→Prop} {l:List α} {r:List β} {x:α} {y:β} (h:Paired F l r) (i:Int) (hxy:F x y):Paired F (insL l i x) (insL r i y):=by
 unfold insL
 rw [Paired.length h]
 exact Paired.app (Paired.tk _ h) (.cons hxy (Paired.dr _ h))
theorem zqT {K:PySem.W.Frag}:MutD K zjX insD:=by
 intro G H a d vs ds d' Q gk ow rs e q
 unfold insD at e
 split at e
 ·split at e
  ·rename_i hl
   cases e
   cases ow.ob with
   | lst r s=>
    cases rs with
    | cons r1 t=>
     cases t with
     | cons r2 t=>
      cases t
      have:=Paired.length s
      exact ⟨a,_,_,_,rfl,by rw [r1.int gk],r,hl.2.1,hl.2.2,by omega,q _ (.lst zak (zqU s _ r2))⟩
  ·cases e
 ·cases e
end
def za5:D→Bool
 | .non=>true
 | .bl _=>true
 | .int _=>true
 | .str _=>true
 | _=>false
def toV:D→V
 | .non=>.non
 | .bl b=>.bl b
 | .int i=>.int i
 | .str x=>.str x
 | _=>.non
def eqs (a b:D):Bool:=eqV (toV a) (toV b)
@[simp] theorem eqs_int (a b:Int):eqs (.int a) (.int b)=(a == b):=rfl
@[simp] theorem eqs_str (a b:Str):eqs (.str a) (.str b)=(a == b):=rfl
@[simp] theorem eqs_non_int (b:Int):eqs .non (.int b)=false:=rfl
@[simp] theorem eqs_int_non (b:Int):eqs (.int b) .non=false:=rfl
section
variable {K:PySem.W.Frag} {G:GH} {H:Hp} {v:V} {d:D}
theorem RB.flat (h:RB K G H v d) (gk:GOk K G H) (hf:za5 d=true):v=toV d∧zdM v=true:=by
 cases d with
 | non=>rw [h.non gk]; exact ⟨rfl,rfl⟩
 | bl b=>rw [h.bl gk]; exact ⟨rfl,rfl⟩
 | int i=>rw [h.int gk]; exact ⟨rfl,rfl⟩
 | str x=>rw [h.str gk]; exact ⟨rfl,rfl⟩
 | _=>cases hf
theorem zq7 {xs:List V} {ds:List D} (h:RGs K G xs ds) (gk:GOk K G H) (hf:ds.all za5=true):xs=ds.map toV∧xs.all zdM=true:=by
 induction h with
 | nil=>exact ⟨rfl,rfl⟩
 | cons r t ih=>
  rw [List.all_cons,Bool.and_eq_true] at hf
  obtain ⟨e1,e2⟩:=RB.flat (H:=H) r.rb gk hf.1
  obtain ⟨e3,e4⟩:=ih hf.2
  exact ⟨by rw [List.map_cons,←e3,←e1],by rw [List.all_cons,e2,e4]; rfl⟩
end
def keyD:D→Option Key
 | .int i=>some (.inl i)
 | .str x=>some (.inr x)
 | _=>none
def hasK (kvs:List (Key × D)) (k:Key):Bool:=kvs.any fun kv=>decide (kv.1=k)
def getK (kvs:List (Key × D)) (k:Key):Option D:=(kvs.find? fun kv=>decide (kv.1=k)).map (·.2)
def inB (x c:D):Option Bool:=match c with
 | .lst ds=>if za5 x=true∧ds.all za5=true then some (ds.any fun y=>eqs y x) else none
 | .tup ds=>if za5 x=true∧ds.all za5=true then some (ds.any fun y=>eqs y x) else none
 | .dic kvs=>(keyD x).map (hasK kvs)
 | .str y=>match x with
  | .str z=>some (!(Builtin.Str.occurrences y z 0 y.length 1).isEmpty)
  | _=>none
 | _=>none
def inD (x c:D):Option D:=(inB x c).map .bl
def ninD (x c:D):Option D:=(inB x c).map fun b=>.bl (! b)
theorem znh {K:PySem.W.Frag} {G:GH} {k:Key} {ps:List (Key × V)} {kvs:List (Key × D)} (h:RKs K G ps kvs) (d:D) (e:getK kvs k=some d):∃v,valV ps k=some v∧RG K G v d:=by
 induction h with
 | nil=>cases e
 | @cons p q ps kvs r t ih=>
  obtain ⟨k1,v1⟩:=p
  obtain ⟨k2,d2⟩:=q
  obtain ⟨e1,r1⟩:=r
  have e1':k1=k2:=e1
  subst e1'
  by_cases hk:k1=k
  ·subst hk
   have:d2=d:=by simpa [getK,List.find?_cons] using e
   subst this
   exact ⟨v1,zeQ rfl,r1⟩
  ·have e':getK kvs k=some d:=by simpa [getK,List.find?_cons,hk] using e
   obtain ⟨v,h1,h2⟩:=ih e'
   exact ⟨v,by rw [zdU hk]; exact h1,h2⟩
theorem find_none {K:PySem.W.Frag} {G:GH} {k:Key} {ps:List (Key × V)} {kvs:List (Key × D)} (h:RKs K G ps kvs) (e:getK kvs k=none):valV ps k=none:=by
 induction h with
 | nil=>rfl
 | @cons p q ps kvs r t ih=>
  obtain ⟨k1,v1⟩:=p
  obtain ⟨k2,d2⟩:=q
  obtain ⟨e1,r1⟩:=r
  have e1':k1=k2:=e1
  subst e1'
  by_cases hk:k1=k
  ·subst hk; simp [getK,List.find?_cons] at e
  ·have e':getK kvs k=none:=by simpa [getK,List.find?_cons,hk] using e
   rw [zdU hk]; exact ih e'
theorem zqY (kvs:List (Key × D)) (k:Key):hasK kvs k=(getK kvs k).isSome:=by
 induction kvs with
 | nil=>rfl
 | cons p r ih=>
  by_cases e:p.1=k
  ·simp [hasK,getK,List.find?_cons,e]
  ·have h1:hasK (p::r) k=hasK r k:=by simp [hasK,e]
   have h2:getK (p::r) k=getK r k:=by simp [getK,List.find?_cons,e]
   rw [h1,h2,ih]
theorem zkz {K:PySem.W.Frag} {G:GH} {H:Hp} {v:V} {d:D} {k:Key} (gk:GOk K G H) (h:RB K G H v d) (e:keyD d=some k):v=kV k:=by
 cases d with
 | int i=>cases e; exact h.int gk
 | str x=>cases e; exact h.str gk
 | _=>cases e
section
variable {X:Cx} {g:GE} {m mb:List Md} {e a b o c:Expr} {f fa fb fc:FE} {pos pos':Pos}
def rInD (neg:Bool):R2:=fun y x H Q=>∃a o,x=.ref a∧DGet H a y o∧Q (.bl (if neg then ! o.isSome else o.isSome)) H
theorem zqq (hu:X.A.units + 1 < cLine):OpR X (compareOp .In) (rInD false):=by
 intro pins s σ H y x u v Q I ry rx h
 obtain ⟨a,oo,rfl,hg,q⟩:=h
 cases rx
 exact d_in hu I hg ry fun s' I'=>⟨.bl _,H,I',rfl,q⟩
theorem zog (hu:X.A.units + 1 < cLine):OpR X (compareOp .NotIn) (rInD true):=by
 intro pins s σ H y x u v Q I ry rx h
 obtain ⟨a,oo,rfl,hg,q⟩:=h
 cases rx
 exact zoP hu I hg ry fun s' I'=>⟨.bl _,H,I',rfl,q⟩
def rInA (K:PySem.W.Frag) (neg:Bool):R2:=fun x y H Q=>rIn K neg x y H Q∨rInD neg x y H Q∨∃i j,x=.str i∧y=.str j∧Q (.bl (if neg then !(!(Builtin.Str.occurrences j i 0 j.length 1).isEmpty) else !(Builtin.Str.occurrences j i 0 j.length 1).isEmpty)) H
theorem zqr (hu:X.A.units + 1 < cLine):OpR X (compareOp .In) (rInA X.K false):=OpR.or zkg (OpR.or (zqq hu) zkf)
theorem zoh (hu:X.A.units + 1 < cLine):OpR X (compareOp .NotIn) (rInA X.K true):=OpR.or zg3 (OpR.or (zog hu) zg2)
theorem zkI {K:PySem.W.Frag} (neg:Bool):OpD K (rInA K neg) (fun x c=>(inB x c).map fun b=>.bl (if neg then ! b else b)):=by
 intro G H v1 v2 d1 d2 d Q gk r1 r2 e q
 have seq:∀{xs:List V} {ds:List D} {p:Addr},RGs K G xs ds→v2=.ref p→(SqL K H p xs∨SqT K H p xs)→za5 d1=true→ds.all za5=true→d=.bl (if neg then !(ds.any fun y=>eqs y d1) else ds.any fun y=>eqs y d1)→rInA K neg v1 v2 H Q:=fun {xs ds p} rs e2 hs hf hfs ed=>by
  obtain ⟨e1,f1⟩:=RB.flat r1 gk hf
  obtain ⟨e3,f3⟩:=zq7 rs gk hfs
  refine .inl ⟨p,xs,e2,hs,f1,f3,q _ G H (Grow.refl gk) ?_⟩
  have:inV v1 xs=ds.any fun y=>eqs y d1:=by
   unfold inV
   rw [e3,List.any_map,e1]
   rfl
  rw [this,ed]
  exact .scl (.bl _)
 cases d2 with
 | lst ds=>
  by_cases hc:za5 d1=true∧ds.all za5=true
  ·simp only [inB,if_pos hc,Option.map_some] at e
   obtain ⟨p,xs,e2,hs,rs⟩:=r2.lst gk
   exact seq rs e2 (.inl hs) hc.1 hc.2 (Option.some.inj e).symm
  ·simp only [inB,if_neg hc,Option.map_none] at e
   cases e
 | tup ds=>
  by_cases hc:za5 d1=true∧ds.all za5=true
  ·simp only [inB,if_pos hc,Option.map_some] at e
   obtain ⟨p,xs,e2,hs,rs⟩:=r2.tup gk
   exact seq rs e2 (.inr hs) hc.1 hc.2 (Option.some.inj e).symm
  ·simp only [inB,if_neg hc,Option.map_none] at e
   cases e
 | dic kvs=>
  simp only [inB] at e
  cases ek:keyD d1 with
  | none=>rw [ek] at e; cases e
  | some k=>
   rw [ek] at e
   cases e
   obtain ⟨p,ps,rfl,hs,rs⟩:=r2.dic gk
   refine .inr (.inl ⟨p,valV ps k,rfl,by rw [zkz gk r1 ek]; exact .inl ⟨ps,k,hs,rfl,rfl⟩,q _ G H (Grow.refl gk) ?_⟩)
   have:(valV ps k).isSome=hasK kvs k:=by
    rw [zqY]
    cases eg:getK kvs k with
    | none=>rw [find_none rs eg]; rfl
    | some d=>obtain ⟨v,h1,_⟩:=znh rs d eg; rw [h1]; rfl
   rw [this]
   exact .scl (.bl _)
 | str y=>
  cases d1 with
  | str z=>cases e; exact .inr (.inr ⟨z,y,r1.str gk,r2.str gk,q _ G H (Grow.refl gk) (.scl (.bl _))⟩)
  | _=>cases e
 | _=>cases e
theorem zr2 {K:PySem.W.Frag}:OpD K (rInA K false) inD:=by
 have h:=zkI (K:=K) false
 have e:(fun x c=>(inB x c).map fun b=>D.bl (if false=true then ! b else b))=inD:=by
  funext x c; unfold inD; cases inB x c <;> rfl
 rw [e] at h; exact h
theorem zqz {K:PySem.W.Frag}:OpD K (rInA K true) ninD:=by
 have h:=zkI (K:=K) true
 have e:(fun x c=>(inB x c).map fun b=>D.bl (if true=true then ! b else b))=ninD:=by
  funext x c; unfold ninD; cases inB x c <;> rfl
 rw [e] at h; exact h
theorem q_in (hu:X.A.units + 1 < cLine) (ha:SB X g m a fa) (hb:SB X g m b fb) (hm:behindInMarks .In b=false:=by rfl):SQ X g m (.Compare a [.In] [b] pos) (zaU (f2 fa fb inD)):=zgZ (zqr hu) zr2 ha hb hm
theorem zlM (hu:X.A.units + 1 < cLine) (ha:SB X g m a fa) (hb:SB X g m b fb) (hm:behindInMarks .NotIn b=false:=by rfl):SQ X g m (.Compare a [.NotIn] [b] pos) (zaU (f2 fa fb ninD)):=zgZ (zoh hu) zqz ha hb hm
def isD:D→D→Option D
 | .non,.non=>some (.bl true)
 | _,.non=>some (.bl false)
 | _,_=>none
def isnD:D→D→Option D
 | .non,.non=>some (.bl false)
 | _,.non=>some (.bl true)
 | _,_=>none
theorem RB.isnon {K:PySem.W.Frag} {G:GH} {H:Hp} {v:V} {d:D} (gk:GOk K G H) (h:RB K G H v d):(v=.non↔d=.non):=by
 constructor
 ·intro e
  subst e
  rcases h with h | ⟨a,e,_⟩
  ·cases h with
   | scl s=>cases s; rfl
  ·cases e
 ·intro e
  subst e
  exact h.non gk
theorem zr0 {K:PySem.W.Frag}:OpD K (fun x y H Q=>y=.non∧Q (.bl (decide (x=.non))) H) isD:=by
 intro G H v1 v2 d1 d2 d Q gk r1 r2 e q
 have hn:=r1.isnon gk
 cases d2 with
 | non=>
  refine ⟨r2.non gk,q _ G H (Grow.refl gk) ?_⟩
  cases d1 with
  | non=>cases e; rw [decide_eq_true (hn.mpr rfl)]; exact .scl (.bl _)
  | _=>cases e; rw [decide_eq_false (fun z=>by have:=hn.mp z; cases this)]; exact .scl (.bl _)
 | _=>cases d1 <;> cases e
theorem zqS {K:PySem.W.Frag}:OpD K (fun x y H Q=>y=.non∧Q (.bl (! decide (x=.non))) H) isnD:=by
 intro G H v1 v2 d1 d2 d Q gk r1 r2 e q
 have hn:=r1.isnon gk
 cases d2 with
 | non=>
  refine ⟨r2.non gk,q _ G H (Grow.refl gk) ?_⟩
  cases d1 with
  | non=>cases e; rw [decide_eq_true (hn.mpr rfl)]; exact .scl (.bl _)
  | _=>cases e; rw [decide_eq_false (fun z=>by have:=hn.mp z; cases this)]; exact .scl (.bl _)
 | _=>cases d1 <;> cases e
theorem q_is (ha:SB X g m a fa) (hb:SB X g m b fb):SQ X g m (.Compare a [.Is] [b] pos) (zaU (f2 fa fb isD)):=zgZ zqp zr0 ha hb (zd8 _)
theorem zrF (ha:SB X g m a fa) (hb:SB X g m b fb):SQ X g m (.Compare a [.IsNot] [b] pos) (zaU (f2 fa fb isnD)):=zgZ zof zqS ha hb (zd8 _)
end
end DL
end
section
namespace DL
open PySem PySem.Spec PyProof.Rows L2
section
variable {X:Cx} {g:GE} {m mb:List Md} {e a b o c:Expr} {f fa fb fc:FE} {pos pos' p1 p2:Pos} {ro:Bool} {x:Str}
def rIxD:R2:=fun x y H Q=>∃a v,x=.ref a∧DGet H a y (some v)∧Q v H
theorem zqP (hu:X.A.units + 1 < cLine):IxR X rIxD:=by
 intro value slice pins s σ H x y v u Q I rx ry h hs
 obtain ⟨a,w,rfl,hg,q⟩:=h
 cases rx
 exact tail_any (zh1 I hg) PySem.F.slot_dict_getitem.lookup (zkU hu I hg ry fun w' s' I' rw'=>⟨w,H,I',rw',q⟩) hs
def ixA:D→D→Option D
 | .dic kvs,k=>(keyD k).bind (getK kvs)
 | c,k=>ixD c k
theorem zqQ {K:PySem.W.Frag}:OpD K (fun x y H Q=>rIxD x y H Q∨rIx K x y H Q) ixA:=by
 intro G H v1 v2 d1 d2 d Q gk r1 r2 e q
 cases d1 with
 | dic kvs=>
  obtain ⟨a,ps,rfl,hs,rs⟩:=r1.dic gk
  have e':(keyD d2).bind (getK kvs)=some d:=e
  cases ek:keyD d2 with
  | none=>rw [ek] at e'; cases e'
  | some k=>
   rw [ek] at e'
   obtain ⟨v,h1,h2⟩:=znh rs d e'
   refine .inl ⟨a,v,rfl,?_,q v G H (Grow.refl gk) h2⟩
   rw [zkz gk r2 ek,←h1]
   exact .inl ⟨ps,k,hs,rfl,rfl⟩
 | lst ds=>exact .inr (zoy G H v1 v2 _ d2 d Q gk r1 r2 e q)
 | tup ds=>exact .inr (zoy G H v1 v2 _ d2 d Q gk r1 r2 e q)
 | str ds=>exact .inr (zoy G H v1 v2 _ d2 d Q gk r1 r2 e q)
 | _=>cases e
theorem zcC (hu:X.A.units + 1 < cLine) (ha:SB X g m a fa) (hb:SB X g m b fb) (hs:zla b:=by intro _ _; rfl):SE X g m (.Subscript a b pos) (f2 fa fb ixA):=znF zqQ (zrL (IxR.or (zqP hu) zqO) ha hb hs)
theorem ziv:SO X g m (.Dict [] [] pos) fun _=>.ok (.dic []):=
 PE.imp zlY fun σ H Q ⟨r,G,si,q⟩ p hp=>q p G _ (Grow.new si.gok hp _) hp ⟨si.gok.isN hp,.dic zak .nil⟩
def putD (kvs:List (Key × D)) (k:Key) (d:D):List (Key × D):=if (kvs.any fun kv=>decide (kv.1=k))=true then kvs.map fun kv=>if kv.1=k then (kv.1,d) else kv else kvs++[(k,d)]
theorem zmG {K:PySem.W.Frag} {G:GH} {k:Key} {ps:List (Key × V)} {kvs:List (Key × D)} (h:RKs K G ps kvs):(ps.any fun kv=>decide (kv.1=k))=kvs.any fun kv=>decide (kv.1=k):=by
 induction h with
 | nil=>rfl
 | cons r t ih=>rw [List.any_cons,List.any_cons,ih,r.1]
theorem zrH {K:PySem.W.Frag} {G:GH} {ps:List (Key × V)} {kvs:List (Key × D)} {k:Key} {v:V} {d:D} (r:RKs K G ps kvs) (h:RG K G v d):RKs K G (putK ps k v) (putD kvs k d):=by
 unfold putK putD
 rw [zmG r]
 by_cases hc:(kvs.any fun kv=>decide (kv.1=k))=true
 ·rw [if_pos hc,if_pos hc]
  clear hc
  induction r with
  | nil=>exact .nil
  | @cons p q ps kvs r t ih=>
   refine .cons ?_ ih
   obtain ⟨p1,p2⟩:=p
   obtain ⟨q1,q2⟩:=q
   have e:p1=q1:=r.1
   subst e
   by_cases hk:p1=k
   ·simp only [hk,if_true,true_and]; exact h
   ·simp only [hk,if_false,true_and]; exact r.2
 ·rw [if_neg hc,if_neg hc]
  exact Paired.snoc r ⟨rfl,h⟩
def stoD:D→D→D→Option D
 | .lst ds,.int k,v=>(ixN ds.length k).map fun j=>.lst (ds.set j v)
 | .dic kvs,k,v=>(keyD k).bind fun k=>if kvs.length < sizeLine then some (.dic (putD kvs k v)) else none
 | _,_,_=>none
def zpP:V→V→V→Hp→(Hp→Prop)→Prop:=fun o i v H Q=>∃p H',o=.ref p∧DPut H p i v H'∧Q H'
theorem znC (hu:X.A.units + 1 < cLine):PSet X zpP:=by
 intro pins s σ H o i v ov iv u Q I ro ri rv h
 obtain ⟨p,H',rfl,hp,q⟩:=h
 cases ro
 exact zkT hu I hp ri rv fun s' I'=>⟨H',I',q⟩
theorem PSet.or {t t':TSet} (h:PSet X t) (h':PSet X t'):PSet X (fun o i v H Q=>t o i v H Q∨t' o i v H Q):=by
 intro pins s σ H o i v ov iv u Q I ro ri rv q
 rcases q with q | q
 ·exact h pins s σ H o i v ov iv u Q I ro ri rv q
 ·exact h' pins s σ H o i v ov iv u Q I ro ri rv q
theorem zpq {K:PySem.W.Frag} {G:GH} {H:Hp} {a:Addr} {d k v d':D} {kv vv:V} {Q:Hp→Prop} (gk:GOk K G H) (ow:Own K G H a d) (rk:RB K G H kv k) (rv:RG K G vv v) (e:stoD d k v=some d') (q:∀o',OwnO K G (upd H a o') a d'→Q (upd H a o')) :
  zpO (.ref a) kv vv H Q∨zpP (.ref a) kv vv H Q:=by
 cases ow.ob with
 | @lst xs ds r s=>
  cases k with
  | int k=>
   have e':(ixN ds.length k).map (fun j=>D.lst (ds.set j v))=some d':=e
   cases ej:ixN ds.length k with
   | none=>rw [ej] at e'; cases e'
   | some j=>
    rw [ej] at e'
    cases e'
    exact .inl ⟨a,xs,k,j,rfl,rk.int gk,r,by rw [Paired.length s]; exact ej,q _ (.lst zak (Paired.st rv j s))⟩
  | _=>cases e
 | @dic ps kvs r s=>
  have e':(keyD k).bind (fun k=>if kvs.length < sizeLine then some (D.dic (putD kvs k v)) else none)=some d':=e
  cases ek:keyD k with
  | none=>rw [ek] at e'; cases e'
  | some k'=>
   rw [ek] at e'
   have e2:(if kvs.length < sizeLine then some (D.dic (putD kvs k' v)) else none)=some d':=e'
   by_cases hl:kvs.length < sizeLine
   ·rw [if_pos hl] at e2
    cases e2
    have:=Paired.length s
    refine .inr ⟨a,_,rfl,?_,q _ (.dic zak (zrH s rv))⟩
    rw [zkz gk rk ek]
    exact DPut.k r (by omega)
   ·rw [if_neg hl] at e2; cases e2
def putF (m:List Md) (i:Nat) (fk fv:FE):FS:=fun r=>onE m r (fv r) fun v=>match r[i]? with
 | some (some d)=>onE m r (fk r) fun k=>(match stoD d k v with
  | some d'=>.nx (r.set i (some d'))
  | none=>.stuck)
 | _=>.stuck
theorem zlt (i:Nat) (hu:X.A.units + 1 < cLine) (hm:m[i]? = some .ow) (hN:X.N[i]? = some x) (hv:Vis X.env.scope x) (hk:SB X g m b fb) (he:SE X g m e f)
  (hd:(x == ("__debug__" : Str))=false:=by decide) (hcd:(x == ("__classdict__" : Str))=false:=by decide)
  (ha:∀v,assign (.Subscript (.Name x p1) b p2) X.env v=(do
   let ov ←holding [v] (eval (.Name x p1) X.env)
   let iv ←holding [v,ov] (eval b X.env)
   standAt p2
   holding [v,ov,iv] (setItem ov iv v)
   release [v,ov,iv] []):=by intro _; rfl)
  (hs:swapsWithSole [.Subscript (.Name x p1) b p2] e pos.line X.env=pure false:=by rfl) (hw:swappedStores [.Subscript (.Name x p1) b p2] e X.env=pure none:=by rfl)
  (h1:(assignEach [.Subscript (.Name x p1) b p2] X.env).map (·.2)=[assign (.Subscript (.Name x p1) b p2) X.env]:=by rfl) :
  SS X g ro mb m (.Assign [.Subscript (.Name x p1) b p2] e pos) (putF m i fb f) m:=by
 refine ⟨rfl,PS.imp (zpY he (zp4 (zd5 hN hv hd hcd) hk (PSet.or zlr (znC hu)) ha) hs hw h1) fun D0 σ H ⟨r,G,si,k⟩=>⟨r,G,si,?_⟩⟩
 refine zaf (zbo si rfl k) fun v k1 vv G1 H1 w1 rv=>?_
 cases er:r[i]? with
 | none=>simp only [er] at k1; exact (show False from k1).elim
 | some oo=>
  cases oo with
  | none=>simp only [er] at k1; exact (show False from k1).elim
  | some d=>
   simp only [er] at k1
   obtain ⟨a,h1,h2,h3⟩:=(si.grow w1).mut hm er
   refine ⟨_,h1,r,G1,si.grow w1,?_⟩
   refine zaf (zbo (m:=m) (si.grow w1) rfl (oTo.gle k1 w1.ge)) fun kk k2 kv G2 H2 w2 rk=>?_
   cases es:stoD d kk v with
   | none=>simp only [es] at k2; exact (show False from k2).elim
   | some d'=>
    simp only [es] at k2
    obtain ⟨a',h1',h2',h3'⟩:=((si.grow w1).grow w2).mut hm er
    rw [h1] at h1'; cases h1'
    exact zpq w2.ok h2' rk (rv.mono w2.ge) es fun o' ob=>k2 σ G2 _ w2.ge (h3' o' d' ob)
end
mutual
def toPy:D→PyData
 | .non=>.none
 | .bl b=>.bool b
 | .int i=>.int i
 | .str x=>.str x
 | .tup ds=>.tuple (zdV ds)
 | .lst ds=>.list (zdV ds)
 | .dic _=>.none
 | .obj _ _=>.none
def zdV:List D→List PyData
 | []=>[]
 | d::ds=>toPy d::zdV ds
end
def Shp:Nat→D→Prop
 | _,.non=>True
 | _,.bl _=>True
 | _,.int _=>True
 | _,.str x=>PyData.strOk x=true
 | 0,.tup _=>False
 | 0,.lst _=>False
 | k + 1,.tup ds=>∀d∈ds,Shp k d
 | k + 1,.lst ds=>∀d∈ds,Shp k d
 | _,.dic _=>False
 | _,.obj _ _=>False
theorem zgh {k:Nat} {ds:List D}:Shp (k + 1) (.lst ds)↔∀d∈ds,Shp k d:=by simp only [Shp]
theorem zjJ {k:Nat} {ds:List D}:Shp (k + 1) (.tup ds)↔∀d∈ds,Shp k d:=by simp only [Shp]
def eqb (a b:D):Bool:=PyData.eqv (toPy a) (toPy b)
section
variable {X:Cx} {pins:List (Addr × Obj)} {σ:L2.St} {H:Hp} {s:Shared} {G:GH}
theorem zgY {k:Nat} (ih:∀(d:D) (v:V) (u:Value),Shp k d→RG X.K G v d→L2.RelV v u→∃as,Reads s.heap u (toPy d) as) (ds:List D) (vs:List V) (us:List Value) (h:∀d∈ds,Shp k d) (r:RGs X.K G vs ds) (q:Vals vs us):∃as,ReadsAll s.heap us (zdV ds) as:=by
 induction r generalizing us with
 | nil=>cases q; exact ⟨[],.nil⟩
 | cons r t ih'=>
  cases q with
  | cons r' t'=>
   obtain ⟨a1,h1⟩:=ih _ _ _ (h _ List.mem_cons_self) r r'
   obtain ⟨a2,h2⟩:=ih' _ (fun x hx=>h x (List.mem_cons_of_mem _ hx)) t'
   exact ⟨a1++a2,.cons h1 h2⟩
theorem zeS (I:Inv X pins σ H s) (gk:GOk X.K G H):∀(k:Nat) (d:D) (v:V) (u:Value),Shp k d→RB X.K G H v d→L2.RelV v u→∃as,Reads s.heap u (toPy d) as:=by
 intro k
 induction k with
 | zero=>
  intro d v u hs r ru
  cases d with
  | non=>rw [r.non gk] at ru; cases ru; exact ⟨_,.none⟩
  | bl b=>rw [r.bl gk] at ru; cases ru; exact ⟨_,.bool b⟩
  | int i=>rw [r.int gk] at ru; obtain ⟨t,rfl⟩:=ru; exact ⟨_,.int i t⟩
  | str x=>rw [r.str gk] at ru; obtain ⟨t,rfl⟩:=ru; exact ⟨_,.str x t⟩
  | tup _=>unfold Shp at hs; exact hs.elim
  | lst _=>unfold Shp at hs; exact hs.elim
  | dic _=>unfold Shp at hs; exact hs.elim
  | obj _ _=>unfold Shp at hs; exact hs.elim
 | succ k ih=>
  intro d v u hs r ru
  cases d with
  | non=>rw [r.non gk] at ru; cases ru; exact ⟨_,.none⟩
  | bl b=>rw [r.bl gk] at ru; cases ru; exact ⟨_,.bool b⟩
  | int i=>rw [r.int gk] at ru; obtain ⟨t,rfl⟩:=ru; exact ⟨_,.int i t⟩
  | str x=>rw [r.str gk] at ru; obtain ⟨t,rfl⟩:=ru; exact ⟨_,.str x t⟩
  | tup ds=>
   obtain ⟨a,xs,rfl,sq,rs⟩:=r.tup gk
   cases ru
   obtain ⟨its,rv,pl,_⟩:=I.tuple sq
   obtain ⟨o,ho,hc,n,hd⟩:=pl
   obtain ⟨as,h⟩:=zgY (k:=k) (fun d v u h1 h2 h3=>ih d v u h1 h2.rb h3) ds xs its (zjJ.mp hs) rs rv
   refine ⟨as,?_⟩
   unfold toPy
   exact .tuple ho hc hd (by simpa using h)
  | lst ds=>
   obtain ⟨a,xs,rfl,sq,rs⟩:=r.lst gk
   cases ru
   obtain ⟨its,rv,pl,_⟩:=I.list sq
   obtain ⟨o,ho,hc,n,hd⟩:=pl.isList
   obtain ⟨as,h⟩:=zgY (k:=k) (fun d v u h1 h2 h3=>ih d v u h1 h2.rb h3) ds xs its (zgh.mp hs) rs rv
   refine ⟨a::as,?_⟩
   unfold toPy
   exact .list ho hc hd (by simpa using h)
  | dic _=>unfold Shp at hs; exact hs.elim
  | obj _ _=>unfold Shp at hs; exact hs.elim
theorem zhB {k:Nat} (ih:∀d,Shp k d→PyData.canLay0 (toPy d)=true∧PyData.depth (toPy d)≤k):∀ds:List D,(∀d∈ds,Shp k d)→PyData.canLayAll0 (zdV ds)=true∧PyData.depthAll (zdV ds)≤k
 | [],_=>by unfold zdV PyData.canLayAll0 PyData.depthAll; exact ⟨rfl,Nat.zero_le _⟩
 | d::ds,h=>by
  obtain ⟨a1,a2⟩:=ih d (h d List.mem_cons_self)
  obtain ⟨b1,b2⟩:=zhB ih ds fun x hx=>h x (List.mem_cons_of_mem _ hx)
  unfold zdV PyData.canLayAll0 PyData.depthAll
  rw [a1,b1]
  exact ⟨rfl,Nat.max_le.mpr ⟨a2,b2⟩⟩
theorem zps:∀(k:Nat) (d:D),Shp k d→PyData.canLay0 (toPy d)=true∧PyData.depth (toPy d)≤k:=by
 intro k
 induction k with
 | zero=>
  intro d hs
  cases d with
  | non=>unfold toPy PyData.canLay0 PyData.depth; exact ⟨rfl,Nat.zero_le _⟩
  | bl b=>unfold toPy PyData.canLay0 PyData.depth; exact ⟨rfl,Nat.zero_le _⟩
  | int i=>unfold toPy PyData.canLay0 PyData.depth; exact ⟨rfl,Nat.zero_le _⟩
  | str x=>unfold Shp at hs; unfold toPy PyData.canLay0 PyData.depth; exact ⟨hs,Nat.zero_le _⟩
  | tup _=>unfold Shp at hs; exact hs.elim
  | lst _=>unfold Shp at hs; exact hs.elim
  | dic _=>unfold Shp at hs; exact hs.elim
  | obj _ _=>unfold Shp at hs; exact hs.elim
 | succ k ih=>
  intro d hs
  cases d with
  | non=>unfold toPy PyData.canLay0 PyData.depth; exact ⟨rfl,Nat.zero_le _⟩
  | bl b=>unfold toPy PyData.canLay0 PyData.depth; exact ⟨rfl,Nat.zero_le _⟩
  | int i=>unfold toPy PyData.canLay0 PyData.depth; exact ⟨rfl,Nat.zero_le _⟩
  | str x=>unfold Shp at hs; unfold toPy PyData.canLay0 PyData.depth; exact ⟨hs,Nat.zero_le _⟩
  | tup ds=>
   obtain ⟨b1,b2⟩:=zhB ih ds (zjJ.mp hs)
   unfold toPy PyData.canLay0 PyData.depth
   exact ⟨b1,Nat.succ_le_succ b2⟩
  | lst ds=>
   obtain ⟨b1,b2⟩:=zhB ih ds (zgh.mp hs)
   unfold toPy PyData.canLay0 PyData.depth
   exact ⟨b1,Nat.succ_le_succ b2⟩
  | dic _=>unfold Shp at hs; exact hs.elim
  | obj _ _=>unfold Shp at hs; exact hs.elim
theorem zdZ {d:D} (h:Shp 60 d):SeqAt.shaped (toPy d)=true:=by
 obtain ⟨a,b⟩:=zps 60 d h
 unfold SeqAt.shaped
 rw [a,decide_eq_true (Nat.le_trans b (by decide))]
 rfl
end
section
variable {X:Cx} {g:GE} {m mb:List Md} {e a b o c:Expr} {f fa fb fc:FE} {pos pos':Pos}
def zi0 (a b:D):Bool:=za5 a && za5 b && scal (toV a) (toV b)
open Classical in
def eqB (a b:D):Option Bool:=if zi0 a b=true then some (eqs a b) else if Shp 60 a∧Shp 60 b then some (eqb a b) else none
def eqD (a b:D):Option D:=(eqB a b).map .bl
def neD (a b:D):Option D:=(eqB a b).map fun c=>.bl (! c)
theorem zmr {a b:D} (h:zi0 a b=false) (h1:Shp 60 a) (h2:Shp 60 b):eqB a b=some (eqb a b):=by
 unfold eqB
 rw [if_neg (by rw [h]; exact Bool.false_ne_true),if_pos ⟨h1,h2⟩]
theorem ziL {a b:D} (h:zi0 a b=true):eqB a b=some (eqs a b):=by
 unfold eqB
 rw [if_pos h]
@[simp] theorem eqB_int (a b:Int):eqB (.int a) (.int b)=some (a == b):=ziL rfl
@[simp] theorem eqB_non_int (b:Int):eqB .non (.int b)=some false:=ziL rfl
theorem zif {a b:D} (h:scal (toV a) (toV b)=true) (fa:za5 a=true) (fb:za5 b=true):decide (toV a=toV b)=eqs a b:=by
 cases a <;> cases b <;> first
  | exact absurd (show false=true from fa) Bool.false_ne_true
  | exact absurd (show false=true from fb) Bool.false_ne_true
  | exact absurd (show false=true from h) Bool.false_ne_true
  | exact zh3
  | exact zkR
  | exact zh2
  | rfl
  | simp [toV,eqs,eqV]
def zgm (K:PySem.W.Frag) (neg:Bool):R2:=fun x y H Q=>∃(G:GH) (d1 d2:D),GOk K G H∧RB K G H x d1∧RB K G H y d2∧Shp 60 d1∧Shp 60 d2∧Q (.bl (if neg then ! eqb d1 d2 else eqb d1 d2)) H
theorem zg5 (hu:X.A.units + 64 < cLine):OpR X (compareOp .Eq) (zgm X.K false):=by
 intro pins s σ H x y v u Q I rx ry h
 obtain ⟨G,d1,d2,gk,r1,r2,s1,s2,q⟩:=h
 obtain ⟨as,h1⟩:=zeS I gk 60 d1 x v s1 r1 rx
 obtain ⟨bs,h2⟩:=zeS I gk 60 d2 y u s2 r2 ry
 exact SeqAt.compareEq_shaped h1 h2 (zdZ s1) (zdZ s2) hu ⟨.bl _,H,I,rfl,q⟩
theorem zg4 (hu:X.A.units + 64 < cLine):OpR X (compareOp .NotEq) (zgm X.K true):=by
 intro pins s σ H x y v u Q I rx ry h
 obtain ⟨G,d1,d2,gk,r1,r2,s1,s2,q⟩:=h
 obtain ⟨as,h1⟩:=zeS I gk 60 d1 x v s1 r1 rx
 obtain ⟨bs,h2⟩:=zeS I gk 60 d2 y u s2 r2 ry
 exact SeqAt.compareNe_shaped h1 h2 (zdZ s1) (zdZ s2) hu ⟨.bl _,H,I,rfl,q⟩
theorem eq_cases {a b:D} {c:Bool} (h:eqB a b=some c):(zi0 a b=true∧c=eqs a b)∨(Shp 60 a∧Shp 60 b∧c=eqb a b):=by
 unfold eqB at h
 split at h
 ·rename_i hs; cases h; exact .inl ⟨hs,rfl⟩
 ·split at h
  ·rename_i hs; cases h; exact .inr ⟨hs.1,hs.2,rfl⟩
  ·cases h
theorem zrb {K:PySem.W.Frag}:OpD K (fun x y H Q=>rEq x y H Q∨zgm K false x y H Q) eqD:=by
 intro G H v1 v2 d1 d2 d Q gk r1 r2 e q
 unfold eqD at e
 cases ec:eqB d1 d2 with
 | none=>rw [ec] at e; cases e
 | some c=>
  rw [ec] at e
  cases e
  rcases eq_cases ec with ⟨hs,rfl⟩ | ⟨s1,s2,rfl⟩
  ·unfold zi0 at hs
   rw [Bool.and_eq_true,Bool.and_eq_true] at hs
   obtain ⟨e1,_⟩:=RB.flat r1 gk hs.1.1
   obtain ⟨e2,_⟩:=RB.flat r2 gk hs.1.2
   refine .inl ⟨by rw [e1,e2]; exact hs.2,?_⟩
   rw [e1,e2,zif hs.2 hs.1.1 hs.1.2]
   exact q _ G H (Grow.refl gk) (.scl (.bl _))
  ·exact .inr ⟨G,d1,d2,gk,r1,r2,s1,s2,q _ G H (Grow.refl gk) (.scl (.bl _))⟩
theorem zqB {K:PySem.W.Frag}:OpD K (fun x y H Q=>rNe x y H Q∨zgm K true x y H Q) neD:=by
 intro G H v1 v2 d1 d2 d Q gk r1 r2 e q
 unfold neD at e
 cases ec:eqB d1 d2 with
 | none=>rw [ec] at e; cases e
 | some c=>
  rw [ec] at e
  cases e
  rcases eq_cases ec with ⟨hs,rfl⟩ | ⟨s1,s2,rfl⟩
  ·unfold zi0 at hs
   rw [Bool.and_eq_true,Bool.and_eq_true] at hs
   obtain ⟨e1,_⟩:=RB.flat r1 gk hs.1.1
   obtain ⟨e2,_⟩:=RB.flat r2 gk hs.1.2
   refine .inl ⟨by rw [e1,e2]; exact hs.2,?_⟩
   rw [e1,e2,zif hs.2 hs.1.1 hs.1.2]
   exact q _ G H (Grow.refl gk) (.scl (.bl _))
  ·exact .inr ⟨G,d1,d2,gk,r1,r2,s1,s2,q _ G H (Grow.refl gk) (.scl (.bl _))⟩
theorem s_eq (hu:X.A.units + 64 < cLine) (ha:SB X g m a fa) (hb:SB X g m b fb):SE X g m (.Compare a [.Eq] [b] pos) (f2 fa fb eqD):=znI (OpR.or zqs (zg5 hu)) zrb ha hb (zd8 _)
theorem s_ne (hu:X.A.units + 64 < cLine) (ha:SB X g m a fa) (hb:SB X g m b fb):SE X g m (.Compare a [.NotEq] [b] pos) (f2 fa fb neD):=znI (OpR.or zqm (zg4 hu)) zqB ha hb (zd8 _)
theorem q_eq (hu:X.A.units + 64 < cLine) (ha:SB X g m a fa) (hb:SB X g m b fb):SQ X g m (.Compare a [.Eq] [b] pos) (zaU (f2 fa fb eqD)):=zgZ (OpR.or zqs (zg5 hu)) zrb ha hb (zd8 _)
theorem q_ne (hu:X.A.units + 64 < cLine) (ha:SB X g m a fa) (hb:SB X g m b fb):SQ X g m (.Compare a [.NotEq] [b] pos) (zaU (f2 fa fb neD)):=zgZ (OpR.or zqm (zg4 hu)) zqB ha hb (zd8 _)
def zhm (fa fb fc:FE) (k k':D→D→Option D):FE:=fun r=>(fa r).bind fun x=>(fb r).bind fun y=>(opt (k x y)).bind fun z=>(opt (asB z)).bind fun c=>if c=true then (fc r).bind fun w=>opt (k' y w) else .ok (.bl false)
def znX (K:PySem.W.Frag):R2:=fun x y H Q=>∃l b xs zs,x=.ref l∧y=.ref b∧SqL K H l xs∧SqL K H b zs∧xs.length + zs.length≤sizeLine∧∀p,H p=none→Q (.ref p) (upd H p (.lst (xs++zs)))
theorem zki:OpR X (binaryOp .Add) (znX X.K):=by
 intro pins s σ H x y v u Q I rx ry h
 obtain ⟨l,b,xs,zs,rfl,rfl,hH,hB,hz,q⟩:=h
 cases rx
 cases ry
 obtain ⟨its,r,pl,_⟩:=I.list hH
 obtain ⟨its2,r2,pl2,_⟩:=I.list hB
 have l1:=r.length
 have l2:=r2.length
 obtain ⟨⟨cls,dd,data,sl⟩,ho,hc,n,hd⟩:=pl.isList
 obtain ⟨⟨cls2,dd2,data2,sl2⟩,ho2,hc2,n2,hd2⟩:=pl2.isList
 simp only at hc hd hc2 hd2
 subst hc hd hc2 hd2
 have e:its.toArray++its2.toArray=(its++its2).toArray:=by simp
 refine concat_meets ⟨_,ho,rfl⟩ ⟨_,ho2,rfl⟩ noFill_list_add seq_list_add PySem.F.slot_list_add PySem.F.entry_list_add (PySem.F.args_list_add_2 _ _) (list_addW _ _ its.toArray its2.toArray n n2 dd dd2 sl sl2 (by simp; omega)) ⟨ho,ho2,?_⟩
 rw [e]
 exact ⟨.ref _,_,I.lnew (t':=s.toks) (r.append r2) (by rw [List.length_append]; omega),rfl,q _ I.fresh⟩
def addA:D→D→Option D
 | .int a,.int b=>some (.int (a + b))
 | .str a,.str b=>if a.length + b.length≤sizeLine then some (.str (a++b)) else none
 | .lst a,.lst b=>if a.length + b.length≤sizeLine then some (.lst (a++b)) else none
 | .tup (x::a),.tup b=>if (x::a).length + b.length≤sizeLine then some (.tup (x::a++b)) else none
 | _,_=>none
theorem zk9 {K:PySem.W.Frag}:OpD K (fun x y H Q=>(∃i j,x=.int i∧y=.int j∧Q (.int (i + j)) H)∨(∃i j,x=.str i∧y=.str j∧i.length + j.length≤sizeLine∧Q (.str (i++j)) H)∨znX K x y H Q∨znW K x y H Q) addA:=by
 intro G H v1 v2 d1 d2 d Q gk r1 r2 e q
 unfold addA at e
 split at e
 ·cases e
  exact .inl ⟨_,_,r1.int gk,r2.int gk,q _ G H (Grow.refl gk) (.scl (.int _))⟩
 ·split at e
  ·rename_i hl
   cases e
   exact .inr (.inl ⟨_,_,r1.str gk,r2.str gk,hl,q _ G H (Grow.refl gk) (.scl (.str _))⟩)
  ·cases e
 ·split at e
  ·rename_i hl
   cases e
   obtain ⟨a,xs,rfl,s1,t1⟩:=r1.lst gk
   obtain ⟨b,ys,rfl,s2,t2⟩:=r2.lst gk
   have l1:=Paired.length t1
   have l2:=Paired.length t2
   exact .inr (.inr (.inl ⟨a,b,xs,ys,rfl,rfl,s1,s2,by omega,fun p hp=>q _ _ _ (Grow.newF gk hp (.lst (.inl zak) (Paired.app t1 t2))) (.ref zax)⟩))
  ·cases e
 ·split at e
  ·rename_i x0 a0 b0 hl
   cases e
   rcases r1 with r1 | ⟨a',_,oo⟩
   ·obtain ⟨a,xs,rfl,s1,t1⟩:=r1.tup gk
    obtain ⟨b,ys,rfl,s2,t2⟩:=r2.tup gk
    have l1:=Paired.length t1
    have l2:=Paired.length t2
    refine .inr (.inr (.inr ⟨a,b,xs,ys,rfl,rfl,s1,s2,?_,by omega,fun hy=>?_,fun _ p hp=>q _ _ _ (Grow.newF gk hp (.tup (.inl zak) (Paired.app t1 t2))) (.ref zax)⟩))
    ·rintro rfl
     cases t1
    ·subst hy
     cases t2
     refine q _ G H (Grow.refl gk) ?_
     rw [List.append_nil]
     exact r1
   ·cases oo.ob
  ·cases e
 ·cases e
theorem zde (ha:SB X g m a fa) (hb:SB X g m b fb):SE X g m (.BinOp a .Add b pos) (f2 fa fb addA):=zhG (OpR.or zmZ (OpR.or zfZ (OpR.or zki zkh))) zk9 ha hb
end
end DL
end
section
namespace DL
open PySem PySem.Spec PyProof.Rows L2
structure DefAt (K:PySem.W.Frag) (mg:Str→Option Value) (x:Str) (st:Stmt):Prop where
 ex:∃f fd,mg x=some (.ref f)∧Fun K x x st f fd
structure Callee (P:Program) (w:World) (K:PySem.W.Frag) (mg:Str→Option Value) (base:Heap) (x:Str) (ps:List Str) (ds:List Value) (k:Nat) (ro:Bool) (ms:List Md) (F:List D→Res D):Prop where
 ex:∃f fd,mg x=some (.ref f)∧PySem.W.keepIn K (.ref f)=true∧zew K fd ps ds∧FnOk P w K mg base CX0 k f fd ps (spM K ro ms F)
section
variable {P:Program} {w:World} {K:PySem.W.Frag} {mg:Str→Option Value} {base:Heap}
theorem zbq {x:Str} {st:Stmt} {N ps:List Str} {k:Nat} {ro:Bool} {ms:List Md} {fs:FS} {m':List Md} (A:DefAt K mg x st) (S:FnScope N ps (defScope st)) (hms:ms.length=ps.length)
  (hb:∀(kV doc pm:Value) (an:Option Addr) (cdv ct:Value) (us:List Value),us.length=ps.length→bindArgs (PySem.W.fnOf x x (defArgs st) (defBody st) (defScope st) .none kV doc pm an cdv ct) ⟨us,[]⟩=pure (ps.zip us))
  (hbody:∀(f:Addr) (cdv:Value) (A:Around) (outer:List Env) (s:Shared) (H:Hp) (g:GE) (E:XK),Room k (A.deeper (envOfC x (defScope st) s.heap.objs.size f cdv)) →
   SSs (cxOf CX0 P w K mg base N x (defScope st) f cdv A outer s H E).nox g ro [] (zdA N.length ms) (defBody st) fs m') :
  Callee P w K mg base x ps [] (k + 1) ro ms fun ds=>outR ro (fs (zaq N.length ds)):=by
 obtain ⟨f,fd,h1,F⟩:=A.ex
 exact ⟨f,fd,h1,F.kp,F.binds hb,znf F S hms (hbody f)⟩
structure DefAtD (K:PySem.W.Frag) (mg:Str→Option Value) (x:Str) (st:Stmt) (dds:List Value):Prop where
 ex:∃(f T:Addr) (o:Obj) (n:Nat) (oc:Value) (od:Option Addr) (kV doc pm:Value) (an:Option Addr) (cdv ct:Value) (osl:Array (Option Value)),
  mg x=some (.ref f)∧K.lookup T=some o∧o.data=.seq dds.toArray n∧K.lookup f=some ⟨oc,od,.func (PySem.W.fnOf x x (defArgs st) (defBody st) (defScope st) (.ref T) kV doc pm an cdv ct),osl⟩∧PySem.W.codeIn K cdv x=true∧PySem.W.keepIn K (.ref f)=true
theorem zhP {x:Str} {st:Stmt} {N ps:List Str} {k:Nat} {ro:Bool} {ms:List Md} {fs:FS} {m':List Md} {dds ds:List Value} (A:DefAtD K mg x st dds) (S:FnScope N ps (defScope st)) (hms:ms.length=ps.length) (nn:Nat) (hn:nn + ds.length=ps.length)
  (hb:∀(T:Addr) (kV doc pm:Value) (an:Option Addr) (cdv ct:Value) (us:List Value),us.length=nn→∃kk:Option (Array Value)→Sem (List (Str × Value)),bindArgs (PySem.W.fnOf x x (defArgs st) (defBody st) (defScope st) (.ref T) kV doc pm an cdv ct) ⟨us,[]⟩=seqItems? (.ref T) >>= kk∧kk (some dds.toArray)=pure (ps.zip (us++ds)))
  (hbody:∀(f:Addr) (cdv:Value) (A:Around) (outer:List Env) (s:Shared) (H:Hp) (g:GE) (E:XK),Room k (A.deeper (envOfC x (defScope st) s.heap.objs.size f cdv)) →
   SSs (cxOf CX0 P w K mg base N x (defScope st) f cdv A outer s H E).nox g ro [] (zdA N.length ms) (defBody st) fs m') :
  Callee P w K mg base x ps ds (k + 1) ro ms fun zs=>outR ro (fs (zaq N.length zs)):=by
 obtain ⟨f,T,o,n,oc,od,kV,doc,pm,an,cdv,ct,osl,h1,hT,hd,lk,hcd,kp⟩:=A.ex
 refine ⟨f,PySem.W.fnOf x x (defArgs st) (defBody st) (defScope st) (.ref T) kV doc pm an cdv ct,h1,kp,fun s us KX hl=>?_,?_⟩
 ·obtain ⟨kk,e1,e2⟩:=hb T kV doc pm an cdv ct us (by rw [List.length_append] at hl; omega)
  exact BindsTo.of_defaults rfl (KX _ _ hT) hd e1 e2
 ·have hpl:ps.length≤N.length:=by have:=congrArg List.length S.pre; rw [List.length_take] at this; omega
  refine zoL lk hcd S (fun vs H Q E ⟨G,ds,gk,rs,q⟩=>rs.len.1.trans hms) fun A outer s H vs Q E hr ⟨G,ds,gk,rs,q⟩=>?_
  exact ⟨_,(hbody f cdv A outer s H ⟨G,H,fun _=>none⟩ E hr).2.nox,zaq N.length ds,G,zgf gk rs (by omega),ziN q⟩
end
section
variable {X:Cx} {g:GE} {m:List Md} {e:Expr} {es:List Expr} {fl:Rho→Res (List D)} {k:Nat} {ps:List Str} {F:List D→Res D} {dvs:List V} {ds:List Value} {dds:List D} {x:Str} {p pos:Pos} {i:Nat} {ms ms':List Md}
theorem zaE (c:Callee X.prog X.w X.K X.mg X.base x ps ds k false ms' F) (hr:Room k X.A) (ha:SAM X g m (e::es) ms fl) (hms:ms'=ms++List.replicate dds.length .sh:=by rfl) (hg:Gl X x:=by rfl) (hd:Vals dvs ds:=by exact .nil) (hsc:Paired Scl dvs dds:=by exact .nil)
  (hdb:(x == ("__debug__" : Str))=false:=by decide) (he:starEach (e::es) X.env=(false,eval e X.env)::starEach es X.env:=by rfl) (hpl:(backTo pos (starEach es X.env)).any (·.1)=false:=by rfl) :
  SE X g m (.Call (.Name x p) (e::es) [] pos) (zaR fl dds F):=by
 subst hms
 obtain ⟨f,fd,h1,h2,h3,h4⟩:=c.ex
 exact zpE h4 hr hg h1 h2 h3 hd hsc ha hdb he hpl
theorem v_ (i:Nat) (hm:m[i]? = some .sh:=by rfl) (hN:X.N[i]? = some x:=by rfl) (hv:Vis X.env.scope x:=by first | exact Or.inl rfl | exact Or.inr (Or.inl rfl) | exact Or.inr (Or.inr rfl)) (hd:(x == ("__debug__" : Str))=false:=by decide) (hcd:(x == ("__classdict__" : Str))=false:=by decide) :
  SE X g m (.Name x p) fun r=>getV r i:=zrB i hm hN hv hd hcd
theorem vb_ (i:Nat) (hm:i < m.length:=by decide) (hN:X.N[i]? = some x:=by rfl) (hv:Vis X.env.scope x:=by first | exact Or.inl rfl | exact Or.inr (Or.inl rfl) | exact Or.inr (Or.inr rfl)) (hd:(x == ("__debug__" : Str))=false:=by decide) (hcd:(x == ("__classdict__" : Str))=false:=by decide) :
  SB X g m (.Name x p) fun r=>getV r i:=zpu i hm hN hv hd hcd
end
end DL
end
section
namespace DL
open PySem PySem.Spec PyProof.Rows L2
def zkW (osc:Scope) (ON:List Str) (sc:Scope) (N':List Str) (nl:Nat) (cap:List Nat):Bool:=
 decide (sc.kind=.function) && sc.names.all (fun y=>decide (y.2≠.cell)) && sc.names.all (fun y=>decide (y.2≠.local) || decide (sc.names.lookup y.1=some .local)) &&
 sc.names.all (fun y=>decide (y.2≠.free) || (decide (osc.names.lookup y.1=some .cell) || decide (osc.names.lookup y.1=some .free))) && decide (N'.length=nl + cap.length) &&
 (List.range cap.length).all fun j=>match N'[nl + j]?,ON[cap.getD j 0]? with
  | some x,some y=>decide (x=y) && decide (sc.names.lookup x=some .free)
  | _,_=>false
theorem zaX {X:Cx} {osc:Scope} {ON:List Str} {sc:Scope} {N':List Str} {nl:Nat} {cap:List Nat} (h1:X.env.scope=osc) (h2:X.N=ON) (h:zkW osc ON sc N' nl cap=true):CompSc X sc N' nl cap:=by
 subst h1 h2
 unfold zkW at h
 simp only [Bool.and_eq_true,List.all_eq_true,decide_eq_true_eq,Bool.or_eq_true] at h
 obtain ⟨⟨⟨⟨⟨a1,a2⟩,a3⟩,a4⟩,a5⟩,a6⟩:=h
 refine ⟨a1,a2,fun y hy hl=>(a3 y hy).resolve_left fun z=>z hl,fun y hy hf=>(a4 y hy).resolve_left fun z=>z hf,a5,fun j hj=>?_⟩
 have h6:=a6 j (List.mem_range.mpr hj)
 cases e1:N'[nl + j]? with
 | none=>rw [e1] at h6; cases h6
 | some x=>
  cases e2:X.N[cap.getD j 0]? with
  | none=>rw [e1,e2] at h6; cases h6
  | some y=>
   rw [e1,e2] at h6
   simp only [Bool.and_eq_true,decide_eq_true_eq] at h6
   exact ⟨x,rfl,by rw [h6.1],h6.2⟩
section
variable {X:Cx} {g:GE} {m mb:List Md} {e a b c:Expr} {f fa fb fc:FE} {pos pos':Pos}
theorem zjt {R R':R2} {k k':D→D→Option D} (ho:OpD X.K R k) (ho':OpD X.K R' k') {σ:L2.St} {H:Hp} {Q:VK} (h:tE X g m (zhm fa fb fc k k') σ H Q):zmO R R' (tB X g m fa) (tB X g m fb) (tB X g m fc) σ H Q:=by
 obtain ⟨r,G,si,q⟩:=h
 refine seq2 si q fun d1 d2 v1 v2 G2 H2 w r1 r2 q2=>?_
 obtain ⟨z,ez,q3⟩:=zaD (zah q2)
 obtain ⟨cc,ec,q4⟩:=zaD (zah q3)
 refine ho G2 H2 v1 v2 d1 d2 z _ w.ok r1 r2 ez fun v G3 H3 w3 rv=>?_
 cases z with
 | bl b'=>
  cases ec
  refine ⟨_,rv.bl w3.ok,?_⟩
  cases cc with
  | false=>rw [if_neg Bool.false_ne_true] at q4 ⊢; exact q4 _ G3 H3 (w.trans w3) (.scl (.bl _))
  | true=>
   rw [if_pos rfl] at q4 ⊢
   refine ⟨r,G3,(si.grow w).grow w3,za0 (zah q4) (w.trans w3) fun d3 q5 v3 G4 H4 w4 r3=>?_⟩
   obtain ⟨d,e,q6⟩:=zaD q5
   exact ho' G4 H4 v2 v3 d2 d3 d Q w4.ok ((r2.mono w3).mono w4) r3 e fun v G' H' w' z=>q6 v G' H' (((w.trans w3).trans w4).trans w') z
 | _=>cases ec
theorem zly {op op':CmpOp} {R R':R2} {k k':D→D→Option D} (hr:OpR X (compareOp op) R) (hr':OpR X (compareOp op') R') (ho:OpD X.K R k) (ho':OpD X.K R' k') (ha:SB X g m a fa) (hb:SB X g m b fb) (hc:SB X g m c fc)
  (hm:lastMarks [op,op'] [b,c]=false:=by with_unfolding_all rfl):SE X g m (.Compare a [op,op'] [b,c] pos) (zhm fa fb fc k k'):=PE.imp (zlZ hr hr' ha hb hc hm) fun σ H Q h=>zjt ho ho' h
theorem zrR {K:PySem.W.Frag}:OpD K (rI0 fun i j=>V.bl (decide (i < j))) ltI:=zep fun _ _=>.bl _
theorem zrS {K:PySem.W.Frag}:OpD K (rI0 fun i j=>V.bl (decide (i≤j))) leI:=zep fun _ _=>.bl _
end
end DL
end
section
namespace DL
open PySem PySem.Spec PyProof.Rows L2
theorem zso {K:PySem.W.Frag} {h:Heap} {mg:Str→Option Value} {x:Str} {st:Stmt} (KX:K.In h) (G:h.Ns mainGlobals mg) {f:Addr} {oc:Value} {od an:Option Addr} {osl:Array (Option Value)} {kV doc pm cdv ct:Value} (a:PySem.W.nsIn K mainGlobals x=some (some (.ref f)))
  (l:K.lookup f=some ⟨oc,od,.func (PySem.W.fnOf x x (defArgs st) (defBody st) (defScope st) .none kV doc pm an cdv ct),osl⟩) (c:PySem.W.codeIn K cdv x=true) (k:PySem.W.keepIn K (.ref f)=true):DefAt K mg x st:=
 ⟨f,_,PySem.W.mg_of KX G a,fun_mk l c k⟩
theorem zsf {K:PySem.W.Frag} {h:Heap} {mg:Str→Option Value} {x:Str} {st:Stmt} {dds:List Value} (KX:K.In h) (G:h.Ns mainGlobals mg) {f T:Addr} {oc tc:Value} {od an td:Option Addr} {osl tsl:Array (Option Value)} {n:Nat} {kV doc pm cdv ct:Value} (a:PySem.W.nsIn K mainGlobals x=some (some (.ref f)))
  (l:K.lookup f=some ⟨oc,od,.func (PySem.W.fnOf x x (defArgs st) (defBody st) (defScope st) (.ref T) kV doc pm an cdv ct),osl⟩) (t:K.lookup T=some ⟨tc,td,.seq dds.toArray n,tsl⟩) (c:PySem.W.codeIn K cdv x=true) (k:PySem.W.keepIn K (.ref f)=true):DefAtD K mg x st dds:=
 ⟨f,T,_,n,oc,od,kV,doc,pm,an,cdv,ct,osl,PySem.W.mg_of KX G a,t,rfl,l,c,k⟩
theorem zsl {P:Program} {w:World} {K:PySem.W.Frag} {mg:Str→Option Value} {x p:Str} {st:Stmt} {k:Nat} {F:List D→Res D} {fa:Addr} (hfa:mg x=some (.ref fa)) (A:DefAt K mg x st)
  (hb:∀(kV doc pm:Value) (an:Option Addr) (cdv ct:Value) (us:List Value),us.length=[p].length→bindArgs (PySem.W.fnOf x x (defArgs st) (defBody st) (defScope st) .none kV doc pm an cdv ct) ⟨us,[]⟩=pure ([p].zip us))
  (C:∀(f:Addr) (fd:FuncData),Fun K x x st f fd→∀base:Heap,FnOk P w K mg base CX0 k f fd [p] (spM K false [.sh] F)) :
  ∃fd:FuncData,(∀(s:Shared) (u:Value),BindsTo s fd ⟨[u],[]⟩ [(p,u)])∧∀base:Heap,K.In base→base.Ns mainGlobals mg→FnOk P w K mg base CX0 k fa fd [p] (spM K false [.sh] F):=by
 obtain ⟨f,fd,h1,Fn⟩:=A.ex
 rw [hfa] at h1
 cases h1
 refine ⟨fd,fun s u=>?_,fun base _ _=>C fa fd Fn base⟩
 obtain ⟨oc,od,kV,doc,pm,an,cdv,ct,osl,rfl,lk,hcd⟩:=Fn.ex
 exact .of_eq (hb kV doc pm an cdv ct [u] rfl)
theorem zsr {l:PySem.W.OpenLaw} {k:Nat} {q:Program} {loose:List Str} {XP:(Str→Option Value)→Heap→Prop} {YP:World→Heap→Prop} {d:DefRec} {K:Params→PySem.W.Frag} {x:Str} {F:List D→Res D} (hn:l.most=some 63) (hdf:d.params.defaults=[]) (hr:Room k callerA)
  (hY:∀(w:World) (h:Heap),YP w h→(K w.params).In h) (hF:∀ns:List Int,ns.length≤63→F [.lst (ns.map .int)]=.ok (.bl true))
  (C:∀(w:World) (mg:Str→Option Value) (fa:Addr) (h:Heap),(K w.params).In h→h.Ns mainGlobals mg→mg d.name=some (.ref fa) →
   ∃fd:FuncData,(∀(s:Shared) (u:Value),BindsTo s fd ⟨[u],[]⟩ [(x,u)])∧∀base:Heap,(K w.params).In base→base.Ns mainGlobals mg→FnOk l.prog w (K w.params) mg base CX0 k fa fd [x] (spM (K w.params) false [.sh] F)) :
  PySem.W.WalkO q loose XP YP l.row.toRowW d [] (fun f vs=>PySem.call f vs):=by
 refine L2.walk_of (n:=63) (k:=k) (x:=x) (CX:=fun _=>CX0) (sp:=fun w=>spM (K w.params) false [.sh] F) hn (by decide) hdf hr hY C (fun w H a ns hl hO hS=>?_) fun _ _ _ _ _ z=>z
 have intsP:∀(l:List Int),Paired Scl (l.map V.int) (l.map D.int):=fun l=>by
  induction l with
  | nil=>exact .nil
  | cons i l ih=>exact .cons (.int i) ih
 rcases hS with hS | hS
 ·refine ⟨fun b=>if b=a then some (.lst (ns.map D.int)) else none,[.lst (ns.map .int)],fun b d' hb=>?_,.sh (.ref (if_pos rfl)) .nil,?_⟩
  ·by_cases e:b=a
   ·subst e
    have hb':some (D.lst (ns.map D.int))=some d':=(if_pos rfl).symm.trans hb
    cases hb'
    exact .lst hS (Paired.mono (fun _ _ z=>.scl z) (intsP ns))
   ·have hb':(none:Option D)=some d':=(if_neg e).symm.trans hb
    cases hb'
  ·rw [hF ns hl]
   intro v G' H' w' rv
   exact rv.bl w'.ok
 ·refine ⟨fun _=>none,[.lst (ns.map .int)],fun b d' hb=>(by cases hb),.sh (.kc (.lst (.inr hS) (intsP ns))) .nil,?_⟩
  rw [hF ns hl]
  intro v G' H' w' rv
  exact rv.bl w'.ok
end DL
end
section
namespace DL
open PySem PySem.Spec PyProof.Rows L2
open AutoSeq1 (wpAny_loadPart')
section
variable {prog:Program} {w:World} {A:Around} {E:Value→Shared→Prop} {s:Shared}
theorem zeq {it t:Addr} {i:Nat} {items} {x:Value} {Q:Value→Shared→Prop} (hit:s.heap.IsTupleIter it t i) (ht:s.heap.IsTuple t items) (hx:items[i]? = some x)
  (hQ:∀h',h'.IsTupleIter it t (i + 1)→Heap.SameBut it s.heap h'→Q x { s with heap:=h' }):wpAny (model prog w) A (Builtin.SmallTypes.nextOf (.ref it)) Q E s:=by
 obtain ⟨o,ho,hc,hd⟩:=id hit
 obtain ⟨ol,hol,_,nl,hdl⟩:=ht
 unfold Builtin.SmallTypes.nextOf
 refine wpAny_bind (wpAny_callSpecial?_slot (name:=Str.ofString "__next__") hit.typeIs F.slot_tuple_iterator_next
  (wpAny_call_entry F.slot_tuple_iterator_next hit.typeIs F.entry_tuple_iterator_next ?_ (F.args_tuple_iterator_next_1 _)))
 show wpAny _ _ (field (.ref it) 0 >>= _) _ _ s
 refine wpAny_bind (wpAny_field ho hd (x:=.ref t) rfl ?_)
 show wpAny _ _ (if (Value.ref t == Value.none)=true then _ else _) _ _ s
 rw [if_neg (show ¬ ((Value.ref t == Value.none)=true) from Bool.false_ne_true)]
 show wpAny _ _ (field (.ref it) 1 >>= _) _ _ s
 refine wpAny_bind (wpAny_field ho hd (x:=.int i 0) rfl ?_)
 show wpAny _ _ (seqItems? (.ref t) >>= _) _ _ s
 refine wpAny_bind (wpAny_seqItems hol hdl ?_)
 simp only [Int.toNat_natCast,hx]
 refine wpAny_bind (wpAny_setField ho hd (by simp) (wpAny_pure ⟨x,rfl,wpAny_pure (hQ _ ?_ (Heap.SameBut.update ..))⟩))
 exact ⟨_,Heap.get?_update_self _ ho (Obj.isFreed_of_fields (Obj.data_mapFields hd _)),(Obj.cls_mapFields ..).trans hc,by
  rw [Obj.data_mapFields hd]; simp [rawInt]⟩
theorem zeO {it t:Addr} {i:Nat} {items} {Q:Value→Shared→Prop} (hh:A.handled=none) (hit:s.heap.IsTupleIter it t i) (ht:s.heap.IsTuple t items) (hx:items[i]? = none)
  (hE:∀h' e,Heap.ExtBut it s.heap h'→(∃o,h'.get? e=some o∧o.cls=.type "StopIteration")→E (.ref e) { s with heap:=h' }):wpAny (model prog w) A (Builtin.SmallTypes.nextOf (.ref it)) Q E s:=by
 obtain ⟨o,ho,hc,hd⟩:=id hit
 obtain ⟨ol,hol,_,nl,hdl⟩:=ht
 unfold Builtin.SmallTypes.nextOf
 refine wpAny_bind (wpAny_callSpecial?_slot (name:=Str.ofString "__next__") hit.typeIs F.slot_tuple_iterator_next
  (wpAny_call_entry F.slot_tuple_iterator_next hit.typeIs F.entry_tuple_iterator_next ?_ (F.args_tuple_iterator_next_1 _)))
 show wpAny _ _ (field (.ref it) 0 >>= _) _ _ s
 refine wpAny_bind (wpAny_field ho hd (x:=.ref t) rfl ?_)
 show wpAny _ _ (if (Value.ref t == Value.none)=true then _ else _) _ _ s
 rw [if_neg (show ¬ ((Value.ref t == Value.none)=true) from Bool.false_ne_true)]
 show wpAny _ _ (field (.ref it) 1 >>= _) _ _ s
 refine wpAny_bind (wpAny_field ho hd (x:=.int i 0) rfl ?_)
 show wpAny _ _ (seqItems? (.ref t) >>= _) _ _ s
 refine wpAny_bind (wpAny_seqItems hol hdl ?_)
 simp only [Int.toNat_natCast,hx]
 refine wpAny_bind (wpAny_rule (wpAny_bind (wpAny_setField ho hd (by simp) ?_)))
 show wpAny _ _ (newExc (.type "StopIteration") [] >>= _) _ _ _
 refine wpAny_bind ?_
 simp only [newExc,newTuple]
 refine wpAny_bind (wpAny_newObj_type ?_ (by size_fits))
 refine wpAny_bind (m:=firstArgMember _ _) (wpAny_of_eq (a:=Value.none) (by first | rfl | (simp only [firstArgMember]; rfl)) ?_)
 refine wpAny_newObj_type ?_ (by size_fits)
 simp only [raiseNew]
 refine wpAny_bind (wpAny_handled ?_)
 first | rw [show A.in1.handled=none from hh] | rw [hh]
 refine wpAny_bind (wpAny_pure (wpAny_throw ?_))
 exact hE _ _ (((Heap.SameBut.update ..).extBut.push _).push _) ⟨_,Heap.get?_push_size _ rfl,rfl⟩
end
theorem znj {prog:Program} {w:World} {A:Around} (hh:A.handled=none) (it l:Addr) (hne:l≠it) (items:Array Value) :
  Draws prog w A it [it,l] items.size (fun i v=>items[i]? = some v) (fun i h=>h.IsTupleIter it l i∧h.IsTuple l items) where
 live:=fun _ _ st=>let ⟨o,ho,_⟩:=st.1; ⟨o,ho⟩
 frame:=fun _ _ _ st hk=>⟨let ⟨o,ho,r⟩:=st.1; ⟨o,hk it (by simp) o ho,r⟩,let ⟨o,ho,r⟩:=st.2; ⟨o,hk l (by simp) o ho,r⟩⟩
 item:=fun i s Q E hi st hQ=>by
  refine zeq st.1 st.2 (x:=items[i]) (by simp [hi]) fun h' hit' hs'=>?_
  exact hQ _ h' s.toks (by simp [hi]) ⟨hit',st.2.extBut hs'.extBut hne⟩ hs'
 done:=fun s Q E st hE=>zeO hh st.1 st.2 (by simp) hE
theorem zfn (l:Addr) (items:Array Value) (n:Nat) (dct:Option Addr) (sl:Array (Option Value)) :
  Meets (Builtin.«enumerate.__new__» ⟨[.type "enumerate",.ref l],[]⟩) (fun _ R s=>s.heap.get? l=some { cls:=.type "tuple",dict:=dct,data:=.seq items n,slots:=sl } ∧
   R (.ok (.ret (.ref (s.heap.push { cls:=.type "tuple_iterator",data:=.fields #[.ref l,.int 0 0] }).objs.size)))
    { s with heap:=(s.heap.push { cls:=.type "tuple_iterator",data:=.fields #[.ref l,.int 0 0] }).push { cls:=.type "enumerate",data:=.fields #[.none,.bool false,.ref s.heap.objs.size,rawInt 0,.none,.none] } }):=
 .of_wp fun prog w A R s h=>by
  obtain ⟨hp,g,d,tk,os⟩:=s; obtain ⟨hl,h⟩:=h
  have hsub:=sub_enumerate
  have hL:Heap.IsTuple (Shared.heap ⟨hp,g,d,tk,os⟩) l items:=⟨_,hl,rfl,n,rfl⟩
  wp_walk using wpAny_loadPart' hl
  refine wpAny_stack_any fun st=>wpAny_pure ?_
  split
  ·rename_i c _ _ _ _ _
   cases (c == Value.type "enumerate")
   ·wp_walk using wpAny_loadPart' hl,wpAny_pyIter_tuple hL
    exact ⟨_,rfl,h⟩
   ·wp_walk using wpAny_loadPart' hl,wpAny_pyIter_tuple hL
    exact ⟨_,rfl,h⟩
  ·wp_walk using wpAny_loadPart' hl,wpAny_pyIter_tuple hL
   exact ⟨_,rfl,h⟩
section
variable {prog:Program} {w:World} {A:Around} {E:Value→Shared→Prop} {s:Shared}
theorem zfz {l:Addr} {items:Array Value} {Q:Value→Shared→Prop} (hL:s.heap.IsTuple l items)
  (h:∀h',IsEnum h' (s.heap.objs.size + 1) s.heap.objs.size 0 .none→h'.IsTupleIter s.heap.objs.size l 0→h'.objs.size=s.heap.objs.size + 2 →
   (∀b o,s.heap.get? b=some o→h'.get? b=some o)→Q (.ref (s.heap.objs.size + 1)) { s with heap:=h' }) :
  wpAny (model prog w) A (call (.type "enumerate") [.ref l]) Q E s:=by
 obtain ⟨⟨c,dct,dt,sl⟩,hl,hc,n,hd⟩:=hL
 replace hc:c=.type "tuple" := hc
 replace hd:dt=.seq items n:=hd
 subst hc hd
 refine callType_new F.called_enumerate (by decide) (F.typeCall_enumerate_1 _) (F.newCall_enumerate_1 _) (fun obj=>F.args_object_init_2 obj _) F.entry_enumerate_new
  (zfn l items n dct sl) ⟨hl,?_⟩
 have hz:(s.heap.push { cls:=.type "tuple_iterator",data:=.fields #[.ref l,.int 0 0] }).objs.size=s.heap.objs.size + 1:=Heap.size_push ..
 show _∧_
 rw [hz]
 have he:IsEnum ((s.heap.push { cls:=.type "tuple_iterator",data:=.fields #[.ref l,.int 0 0] }).push
   { cls:=.type "enumerate",data:=.fields #[.none,.bool false,.ref s.heap.objs.size,rawInt 0,.none,.none] }) (s.heap.objs.size + 1) s.heap.objs.size 0 .none:=by
  have:=Heap.get?_push_size (s.heap.push { cls:=.type "tuple_iterator",data:=.fields #[.ref l,.int 0 0] })
   (o:={ cls:=.type "enumerate",data:=.fields #[.none,.bool false,.ref s.heap.objs.size,rawInt 0,.none,.none] }) rfl
  rw [hz] at this; exact this
 refine ⟨⟨_,he,rfl⟩,h _ he ⟨_,Heap.get?_push_of_some _ (Heap.get?_push_size _ rfl),rfl,rfl⟩ (by rw [Heap.size_push,hz]) fun b o x=>Heap.get?_push_of_some _ (Heap.get?_push_of_some _ x)⟩
end
theorem ziA {X:Cx} {pins:List (Addr × Obj)} {σ:L2.St} {H:Hp} {s:Shared} {h':Heap} {ch:List Addr} {T:Addr} {o:HO} {t':Nat} (I:Inv X pins σ H s)
  (hch:∀b∈ch,FpOk X pins H b) (k:∀b ob,b∉ch→s.heap.get? b=some ob→h'.get? b=some ob) (hT:s.heap.objs.size≤T) (new:za6 X.prog X.w (upd H T o) h' T o):Inv X pins σ (upd H T o) { s with heap:=h',toks:=t' }:=by
 have hTn:H T=none:=I.hok.fresh hT
 have trk:∀b u,H b=some u→b∉ch:=fun b u e hb=>by rw [(hch b hb).1] at e; cases e
 have neT:∀b ob,s.heap.get? b=some ob→b≠T:=fun b ob e=>Nat.ne_of_lt (Nat.lt_of_lt_of_le (Heap.lt_size e) hT)
 have keepU:∀b u,H b=some u→upd H T o b=some u:=fun b u e=>by rw [zal (zbv e hTn)]; exact e
 refine I.step (g':=s.gens) (d':=s.drawn) (ch:=ch) (fun b hb=>?_) (fun b ob _ _ hc e _=>k b ob hc e) (fun b ob _ _ hc e _=>⟨ob.slots,k b ob hc e⟩) (fun b ob hc e n=>by rw [zal (neT b ob e)]; exact n)
  (fun b ob hc e=>⟨ob,k b ob hc e⟩) (fun b xs e=>keepU b _ e) (fun b ob u e=>keepU b _ e) (fun b ps e=>⟨#[],by rw [keepU b _ e]; simp⟩) (fun m hm=>?_) (fun b u e=>?_) I.bare
 ·obtain ⟨z0,z1,z2,z3,z4,z5⟩:=hch b hb
  exact ⟨z3,z1,z4,z5⟩
 ·obtain ⟨ob,es,ep,ho,r⟩:=hm
  exact ⟨ob,es,ep,k _ ob (fun hb=>(hch _ hb).2.1 rfl) ho,r⟩
 ·by_cases hb:b=T
  ·subst hb
   rw [zak] at e
   cases e
   exact new
  ·rw [zal hb] at e
   refine (I.hok b u e).stay (fun c v hc q=>k c v ?_ q) (fun c q=>keepU c _ q) fun c xs q=>keepU c _ q
   rcases hc with z | z
   ·rw [z]; exact trk b u e
   ·exact trk c _ z
def Ien (sq:Hp→List V→Prop):It:=
 ⟨fun i H=>∃xs x,sq H xs∧xs[i]? = some x,fun i H x H'=>∃p v,H p=none∧x=.ref p∧H'=upd H p (.tup [.int i,v])∧∀xs,sq H xs→xs[i]? = some v,fun i H=>∃xs,sq H xs∧xs.length=i⟩
theorem zka {P:Program} {w:World} {H:Hp} {h:Heap} {T:Addr} {i:Nat} {tk:Tok} {x:Value} {v:V} (hT:h.get? T=some { cls:=.type "tuple",data:=.seq #[.int i tk,x] }) (r:L2.RelV v x):za6 P w H h T (.tup [.int i,v]):=
 ⟨by show 2≤sizeLine; decide,[.int i tk,x],.cons ⟨tk,rfl⟩ (.cons r .nil),⟨_,hT,rfl,0,rfl⟩,_,hT,rfl⟩
theorem ziX {P:Program} {w:World} {K:PySem.W.Frag} {elts:List Expr} {k:Nat} {pos:Pos} (a it e:Addr) (hei:e≠it):Turn P w K (.Tuple elts k pos) (Ien fun H xs=>SqL K H a xs) [e,it] e (fun i h=>(∃old,IsEnum h e it i old)∧h.IsListIter it a i) where
 mem:=by simp
 obj:=fun i h st b hb=>by
  obtain ⟨⟨old,he⟩,o,ho,hc,hd⟩:=st
  rcases List.mem_cons.mp hb with rfl | hb
  ·exact ⟨_,he,fun v z=>by have z':Data.fields _=Data.cell v:=z; cases z'⟩
  ·rw [List.mem_singleton.mp hb]
   exact ⟨o,ho,fun v z=>by rw [hd] at z; cases z⟩
 keep:=fun i h h' st kk=>by
  obtain ⟨⟨old,he⟩,hi⟩:=st
  exact ⟨⟨old,kk e (by simp) _ he⟩,hi.at fun o q=>kk it (by simp) o q⟩
 item:=by
  intro X hP hw hK hc i pins s σ H E I hf st hg
  subst hP hw hK
  obtain ⟨xs,x,hq,hx⟩:=hg
  obtain ⟨its,rv,p,hz⟩:=I.list hq
  obtain ⟨⟨old,he⟩,hi⟩:=st
  obtain ⟨o1,ho1,hc1,hd1⟩:=id hi
  obtain ⟨o2,ho2,hc2,_⟩:=id p.isList
  have hai:a≠it:=by rintro rfl; rw [ho1] at ho2; cases ho2; rw [hc1] at hc2; exact absurd hc2 (by decide)
  have hea:e≠a:=by rintro rfl; rw [he] at ho2; cases ho2; exact absurd (show Value.type "enumerate" = _ from hc2) (by decide)
  have hlt:i < its.toArray.size:=by
   have:=(List.getElem?_eq_some_iff.mp hx).1
   rw [List.size_toArray,←rv.length]; exact this
  refine wpAny_pyNext_enum_itemD (Draws.list (A:=X.A.in1) (show X.A.in1.handled=none from I.ok.hd hc) it a hai its.toArray) he ⟨hi,p.isList⟩ hlt hei (by simp [hei,hea]) fun y h' tk hP ho hs' hT hsz hk=>?_
  refine ⟨_,rfl,wpAny_letOwnedTupleGo_enum ho fun h'' he'' hs''=>?_⟩
  obtain ⟨u,hu,ru⟩:=rv.get hx
  have hy:y=u:=by
   have:its[i]? = some y:=by simpa using hP
   rw [hu] at this; exact (Option.some.inj this).symm
  subst hy
  have hTe:s.heap.objs.size≠e:=Nat.ne_of_gt (Heap.lt_size he)
  have hT'':h''.get? s.heap.objs.size=some { cls:=.type "tuple",data:=.seq #[.int i tk,y] }:=(hs''.2 _ hTe).trans hT
  refine ⟨.ref s.heap.objs.size,upd H s.heap.objs.size (.tup [.int i,x]),ziA (s:=s) (h':=h'') (t':=tk + 1) (ch:=[e,it]) I hf (fun b ob hb q=>?_) (Nat.le_refl _) (zka hT'' ru),rfl,⟨_,x,I.hok.fresh (Nat.le_refl _),rfl,rfl,fun ys hy=>by rw [I.list_inj hy hq]; exact hx⟩,⟨⟨_,by simpa using he''⟩,hs'.1.extBut hs''.extBut (Ne.symm hei)⟩,fun b hb=>?_⟩
  ·have hbe:b≠e:=fun z=>hb (by simp [z])
   exact (hs''.2 b hbe).trans (hk b ob hbe (fun z=>hb (by simp [z])) q)
  ·rw [zal ?_]
   ·exact (hf b hb).1
   ·rcases List.mem_cons.mp hb with rfl | hb
    ·exact Nat.ne_of_lt (Heap.lt_size he)
    ·rw [List.mem_singleton.mp hb]; exact Nat.ne_of_lt (Heap.lt_size ho1)
 done:=by
  intro X hP hw hK hc i pins s σ H E I hf st hg
  subst hP hw hK
  obtain ⟨xs,hq,hx⟩:=hg
  obtain ⟨its,rv,p,hz⟩:=I.list hq
  obtain ⟨⟨old,he⟩,hi⟩:=st
  obtain ⟨o1,ho1,hc1,hd1⟩:=id hi
  obtain ⟨o2,ho2,hc2,_⟩:=id p.isList
  have hai:a≠it:=by rintro rfl; rw [ho1] at ho2; cases ho2; rw [hc1] at hc2; exact absurd hc2 (by decide)
  obtain ⟨f0,f1,f2,f3,f4,f5⟩:=hf it (by simp)
  have hn:its.toArray.size=i:=by rw [List.size_toArray,←rv.length]; exact hx
  refine wpAny_pyNext_enum_endD (Draws.list (A:=X.A.in1) (show X.A.in1.handled=none from I.ok.hd hc) it a hai its.toArray) he ⟨by rw [hn]; exact hi,p.isList⟩ fun h' eb=>⟨rfl,I.turned (t':=s.toks) (fun b o hb q=>eb b o hb q) f0 f1 f3 f4 f5⟩
 self:=fun _ _ _ _ _ st h=>let ⟨⟨_,he⟩,_⟩:=st; wpAny_pyIter_enum he h
theorem IsTupleIter.at' {h h':Heap} {a t:Addr} {i:Nat} (x:h.IsTupleIter a t i) (hs:∀o,h.get? a=some o→h'.get? a=some o):h'.IsTupleIter a t i:=let ⟨o,ho,r⟩:=x; ⟨o,hs o ho,r⟩
theorem ziW {P:Program} {w:World} {K:PySem.W.Frag} {elts:List Expr} {k:Nat} {pos:Pos} (a it e:Addr) (hei:e≠it):Turn P w K (.Tuple elts k pos) (Ien fun H xs=>SqT K H a xs) [e,it] e (fun i h=>(∃old,IsEnum h e it i old)∧h.IsTupleIter it a i) where
 mem:=by simp
 obj:=fun i h st b hb=>by
  obtain ⟨⟨old,he⟩,o,ho,hc,hd⟩:=st
  rcases List.mem_cons.mp hb with rfl | hb
  ·exact ⟨_,he,fun v z=>by have z':Data.fields _=Data.cell v:=z; cases z'⟩
  ·rw [List.mem_singleton.mp hb]
   exact ⟨o,ho,fun v z=>by rw [hd] at z; cases z⟩
 keep:=fun i h h' st kk=>by
  obtain ⟨⟨old,he⟩,hi⟩:=st
  exact ⟨⟨old,kk e (by simp) _ he⟩,IsTupleIter.at' hi fun o q=>kk it (by simp) o q⟩
 item:=by
  intro X hP hw hK hc i pins s σ H E I hf st hg
  subst hP hw hK
  obtain ⟨xs,x,hq,hx⟩:=hg
  obtain ⟨its,rv,p,hz⟩:=I.tuple hq
  obtain ⟨⟨old,he⟩,hi⟩:=st
  obtain ⟨o1,ho1,hc1,hd1⟩:=id hi
  obtain ⟨o2,ho2,hc2,_⟩:=id p
  have hai:a≠it:=by rintro rfl; rw [ho1] at ho2; cases ho2; rw [hc1] at hc2; exact absurd hc2 (by decide)
  have hea:e≠a:=by rintro rfl; rw [he] at ho2; cases ho2; exact absurd (show Value.type "enumerate" = _ from hc2) (by decide)
  have hlt:i < its.toArray.size:=by
   have:=(List.getElem?_eq_some_iff.mp hx).1
   rw [List.size_toArray,←rv.length]; exact this
  refine wpAny_pyNext_enum_itemD (znj (A:=X.A.in1) (show X.A.in1.handled=none from I.ok.hd hc) it a hai its.toArray) he ⟨hi,p⟩ hlt hei (by simp [hei,hea]) fun y h' tk hP ho hs' hT hsz hk=>?_
  refine ⟨_,rfl,wpAny_letOwnedTupleGo_enum ho fun h'' he'' hs''=>?_⟩
  obtain ⟨u,hu,ru⟩:=rv.get hx
  have hy:y=u:=by
   have:its[i]? = some y:=by simpa using hP
   rw [hu] at this; exact (Option.some.inj this).symm
  subst hy
  have hTe:s.heap.objs.size≠e:=Nat.ne_of_gt (Heap.lt_size he)
  have hT'':h''.get? s.heap.objs.size=some { cls:=.type "tuple",data:=.seq #[.int i tk,y] }:=(hs''.2 _ hTe).trans hT
  refine ⟨.ref s.heap.objs.size,upd H s.heap.objs.size (.tup [.int i,x]),ziA (s:=s) (h':=h'') (t':=tk + 1) (ch:=[e,it]) I hf (fun b ob hb q=>?_) (Nat.le_refl _) (zka hT'' ru),rfl,⟨_,x,I.hok.fresh (Nat.le_refl _),rfl,rfl,fun ys hy=>by rw [I.tuple_inj hy hq]; exact hx⟩,⟨⟨_,by simpa using he''⟩,hs'.1.extBut hs''.extBut (Ne.symm hei)⟩,fun b hb=>?_⟩
  ·have hbe:b≠e:=fun z=>hb (by simp [z])
   exact (hs''.2 b hbe).trans (hk b ob hbe (fun z=>hb (by simp [z])) q)
  ·rw [zal ?_]
   ·exact (hf b hb).1
   ·rcases List.mem_cons.mp hb with rfl | hb
    ·exact Nat.ne_of_lt (Heap.lt_size he)
    ·rw [List.mem_singleton.mp hb]; exact Nat.ne_of_lt (Heap.lt_size ho1)
 done:=by
  intro X hP hw hK hc i pins s σ H E I hf st hg
  subst hP hw hK
  obtain ⟨xs,hq,hx⟩:=hg
  obtain ⟨its,rv,p,hz⟩:=I.tuple hq
  obtain ⟨⟨old,he⟩,hi⟩:=st
  obtain ⟨o1,ho1,hc1,hd1⟩:=id hi
  obtain ⟨o2,ho2,hc2,_⟩:=id p
  have hai:a≠it:=by rintro rfl; rw [ho1] at ho2; cases ho2; rw [hc1] at hc2; exact absurd hc2 (by decide)
  obtain ⟨f0,f1,f2,f3,f4,f5⟩:=hf it (by simp)
  have hn:its.toArray.size=i:=by rw [List.size_toArray,←rv.length]; exact hx
  refine wpAny_pyNext_enum_endD (znj (A:=X.A.in1) (show X.A.in1.handled=none from I.ok.hd hc) it a hai its.toArray) he ⟨by rw [hn]; exact hi,p⟩ fun h' eb=>⟨rfl,I.turned (t':=s.toks) (fun b o hb q=>eb b o hb q) f0 f1 f3 f4 f5⟩
 self:=fun _ _ _ _ _ st h=>let ⟨⟨_,he⟩,_⟩:=st; wpAny_pyIter_enum he h
end DL
end
section
namespace DL
open PySem PySem.Spec PyProof.Rows L2
def tyN:D→Option String
 | .non=>some "NoneType"
 | .bl _=>some "bool"
 | .int _=>some "int"
 | .str _=>some "str"
 | .tup _=>some "tuple"
 | .lst _=>some "list"
 | .dic _=>some "dict"
 | .obj _ _=>none
def subT (t T:String):Bool:=t == T || (t == "bool" && T == "int")
def isiD (T:String) (d:D):Option D:=(tyN d).map fun t=>.bl (subT t T)
def TyD (K:PySem.W.Frag) (x:V) (H:Hp) (t:String):Prop:=match x with
 | .non=>t = "NoneType"
 | .bl _=>t = "bool"
 | .int _=>t = "int"
 | .str _=>t = "str"
 | .ref p=>(t = "list"∧∃xs,SqL K H p xs)∨(t = "tuple"∧∃xs,SqT K H p xs)∨(t = "dict"∧∃kvs,Rd H p (.dK kvs))
 | _=>False
theorem zpg {K:PySem.W.Frag} {G:GH} {H:Hp} {v:V} {d:D} {t:String} (gk:GOk K G H) (h:RB K G H v d) (e:tyN d=some t):TyD K v H t:=by
 cases d with
 | non=>cases e; rw [h.non gk]; rfl
 | bl b=>cases e; rw [h.bl gk]; rfl
 | int i=>cases e; rw [h.int gk]; rfl
 | str x=>cases e; rw [h.str gk]; rfl
 | tup ds=>cases e; obtain ⟨a,xs,rfl,s,r⟩:=h.tup gk; exact .inr (.inl ⟨rfl,xs,s⟩)
 | lst ds=>cases e; obtain ⟨a,xs,rfl,s,r⟩:=h.lst gk; exact .inl ⟨rfl,xs,s⟩
 | dic ds=>cases e; obtain ⟨a,xs,rfl,s,r⟩:=h.dic gk; exact .inr (.inr ⟨rfl,xs,s⟩)
 | obj _ _=>cases e
section
variable {X:Cx} {g:GE} {m:List Md} {e a:Expr} {f:FE} {pos p p2:Pos}
theorem zmC:zc2 X (.builtin "isinstance") (fun xs H Q=>∃x t T b,xs=[x,.ty T]∧TyD X.K x H t∧PySem.W.kitOne X.K (.type t) (.type T)=some b∧Q (.bl b) H):=by
 intro pins s σ H xs us Q I r h
 obtain ⟨x,t,T,b,rfl,ty,e,q⟩:=h
 obtain ⟨u,w',rfl,rx,ry⟩:=zlj r
 cases ry
 have fin:∀tk,EP X pins σ Q (.bool b) { s with toks:=tk }:=fun tk=>⟨.bl b,H,I.tok tk,rfl,q⟩
 cases x with
 | non=>cases rx; cases (show t = "NoneType" from ty); exact PySem.W.kia_one PySem.W.kitx_none I.kIn True.intro e (fun z=>nomatch z) fin
 | bl y=>cases rx; cases (show t = "bool" from ty); exact PySem.W.kia_one PySem.W.kitx_bool I.kIn True.intro e (fun z=>nomatch z) fin
 | int i=>obtain ⟨t,rfl⟩:=rx; cases ty; exact PySem.W.kia_one PySem.W.kitx_int I.kIn True.intro e (fun z=>nomatch z) fin
 | str i=>obtain ⟨t,rfl⟩:=rx; cases ty; exact PySem.W.kia_one PySem.W.kitx_str I.kIn True.intro e (fun z=>nomatch z) fin
 | ref p=>
  cases rx
  rcases ty with ⟨rfl,xs,hq⟩ | ⟨rfl,xs,hq⟩ | ⟨rfl,kvs,hq⟩
  ·obtain ⟨its,_,pl,_⟩:=I.list hq
   obtain ⟨o,ho,hc,_⟩:=pl.isList
   exact PySem.W.kia_one PySem.W.kitx_list I.kIn ⟨o,ho,hc⟩ e (fun z=>nomatch z) fin
  ·obtain ⟨its,_,pl,_⟩:=I.tuple hq
   obtain ⟨o,ho,hc,_⟩:=pl
   exact PySem.W.kia_one PySem.W.kitx_tuple I.kIn ⟨o,ho,hc⟩ e (fun z=>nomatch z) fin
  ·obtain ⟨_,_,vs,_,pp⟩:=(show za6 X.prog X.w H s.heap p (.dK kvs) from hq.ok I.hok)
   obtain ⟨o,es,ep,h1,h2,_⟩:=pp
   exact PySem.W.kia_one PySem.W.kitx_dict I.kIn ⟨o,h1,h2.1⟩ e (fun z=>nomatch z) fin
 | _=>exact (show False from ty).elim
theorem zlw (x:Str) (T:String) (hv:bootBuiltins x=some (.type T)) (hk:∀(d:D) (t:String),tyN d=some t→PySem.W.kitOne X.K (.type t) (.type T)=some (subT t T)) (hg:Gl X "isinstance") (hm:X.mg "isinstance" = none) (hgT:Gl X x) (hmT:X.mg x=none) (he:SB X g m e f)
  (hn:x≠"__name__" := by decide) (hd:(x == ("__debug__" : Str))=false:=by decide) (hs1:starEach [e,.Name x p2] X.env=(false,eval e X.env)::starEach [.Name x p2] X.env:=by rfl) (hs2:starEach [.Name x p2] X.env=(false,eval (.Name x p2) X.env)::starEach [] X.env:=by rfl)
  (hpl:(backTo pos (starEach [.Name x p2] X.env)).any (·.1)=false:=by rfl) :
  SE X g m (.Call (.Name "isinstance" p) [e,.Name x p2] [] pos) (f1 f (isiD T)):=by
 refine PE.imp (zdp zmC hg hm (by first | exact PyProof.Rows.boot_isinstance | rfl) (zbH he (zbH (zj8 (v:=.ty T) hgT hmT hv rfl hn hd) zd6 hs2) hs1) (by decide) (by decide) hs1 hpl) fun σ H Q ⟨r,G,si,q⟩=>⟨r,G,si,zaf (zah q) fun d q1 v G1 H1 w1 r1=>?_⟩
 obtain ⟨d',e',q2⟩:=zaD q1
 unfold isiD at e'
 cases et:tyN d with
 | none=>rw [et] at e'; cases e'
 | some t=>
  rw [et] at e'
  cases e'
  exact ⟨v,t,T,_,rfl,zpg w1.ok r1 et,hk d t et,q2 _ G1 H1 w1 (.scl (.bl _))⟩
end
theorem zgI {d:D} {t:String} (h:tyN d=some t) {P:String→Prop} (h1:P "NoneType") (h2:P "bool") (h3:P "int") (h4:P "str") (h5:P "tuple") (h6:P "list") (h7:P "dict"):P t:=by
 cases d <;> cases h <;> assumption
theorem zkw (K:PySem.W.Frag) (d:D) (t:String) (h:tyN d=some t):PySem.W.kitOne K (.type t) (.type "int")=some (subT t "int"):=zgI (P:=fun t=>PySem.W.kitOne K (.type t) (.type "int")=some (subT t "int")) h (by kernel_rfl) (by kernel_rfl) (by kernel_rfl) (by kernel_rfl) (by kernel_rfl) (by kernel_rfl) (by kernel_rfl)
theorem ziy (K:PySem.W.Frag) (d:D) (t:String) (h:tyN d=some t):PySem.W.kitOne K (.type t) (.type "bool")=some (subT t "bool"):=zgI (P:=fun t=>PySem.W.kitOne K (.type t) (.type "bool")=some (subT t "bool")) h (by kernel_rfl) (by kernel_rfl) (by kernel_rfl) (by kernel_rfl) (by kernel_rfl) (by kernel_rfl) (by kernel_rfl)
section
variable {X:Cx} {g:GE} {m:List Md} {e a b:Expr} {f fa:FE} {pos p pos2 p2:Pos} {es:List Expr} {fl:Rho→Res (List D)}
def rngV (lo:Int) (n:Nat):List V:=(List.range n).map fun (i:Nat)=>V.int (lo + (i:Int))
theorem zpK {K:PySem.W.Frag} {G:GH} (lo:Int) (n:Nat):RGs K G (rngV lo n) (rngD lo n):=by
 unfold rngV rngD
 induction (List.range n) with
 | nil=>exact .nil
 | cons i l ih=>exact .cons (.scl (.int _)) ih
theorem zcK:∀{xs:List V} {us:List Value},xs.length=us.length→(∀(j:Nat) v u,xs[j]? = some v→us[j]? = some u→L2.RelV v u)→Vals xs us
 | [],[],_,_=>.nil
 | v::xs,u::us,hl,h=>.cons (h 0 v u rfl rfl) (zcK (by simpa using hl) fun j a b e1 e2=>h (j + 1) a b (by simpa using e1) (by simpa using e2))
 | [],_::_,hl,_=>by simp at hl
 | _::_,[],hl,_=>by simp at hl
theorem zlF {lo:Int} {n:Nat} {acc:Array Value} (h:ItemsOf (fun i v=>∃t,v=.int (lo + i * 1) t) acc n):Vals (rngV lo n) acc.toList:=by
 refine zcK (by simp [rngV,h.1]) fun j v u e1 e2=>?_
 have hj:j < n:=by
  have:=(List.getElem?_eq_some_iff.mp e1).1
  simpa [rngV] using this
 unfold rngV at e1
 rw [List.getElem?_map,List.getElem?_range hj] at e1
 cases e1
 obtain ⟨t,rfl⟩:=h.2 j u (by rw [←Array.getElem?_toList]; exact e2)
 exact ⟨t,by simp⟩
theorem zk0:zc2 X (.type "range") (fun xs H Q=>∃j,xs=[.int j]∧∀p,H p=none→Q (.ref p) (upd H p (.rng 0 j))):=by
 intro pins s σ H xs us Q I r h
 obtain ⟨j,rfl,q⟩:=h
 obtain ⟨u,rfl,t,rfl⟩:=ze1 r
 refine call_range_1 ⟨.ref s.heap.objs.size,_,I.laid (o:=.rng 0 j) (fun b o e=>Heap.get?_push_of_some _ e) (Nat.le_refl _) ⟨_,_,_,Heap.get?_push_size _ rfl⟩,rfl,q _ (I.hok.fresh (Nat.le_refl _))⟩
theorem zgz (hc:X.calm=true):zc2 X (.type "list") (fun xs H Q=>∃p lo hi,xs=[.ref p]∧H p=some (.rng lo hi)∧(-(2 ^ 62)≤lo∧lo < 2 ^ 62∧-(2 ^ 62)≤hi∧hi < 2 ^ 62)∧(hi - lo).toNat≤sizeLine∧∀l,H l=none→Q (.ref l) (upd H l (.lst (rngV lo (hi - lo).toNat)))):=by
 intro pins s σ H xs us Q I r h
 obtain ⟨p,lo,hi,rfl,hp,⟨h1,h2,h3,h4⟩,hz,q⟩:=h
 obtain ⟨u,rfl,rx⟩:=ze1 r
 cases rx
 obtain ⟨t,u,v,ho⟩:=(show za6 X.prog X.w H s.heap p (.rng lo hi) from I.hok p _ hp)
 have e2:Builtin.Range.rangeSize lo hi 1=(((hi - lo).toNat:Nat):Int):=by rw [rangeSize_one]; split <;> omega
 refine call_list_range (I.ok.hd hc) (r:=p) (a:=lo) (b:=hi) (c:=1) ho (small_one h1 h2 h3 h4) e2 (by rw [sizeLine_eq] at hz; omega) fun h' tk acc c' kp hS hacc=>?_
 refine ⟨.ref s.heap.objs.size,_,I.laid (t':=tk) kp (Nat.le_refl _) (show za6 X.prog X.w _ h' _ (.lst (rngV lo (hi - lo).toNat)) from ⟨by unfold rngV; rw [List.length_map,List.length_range]; exact hz,acc.toList,c',zlF hacc,by rw [Array.toArray_toList]; exact hS⟩),rfl,q _ (I.hok.fresh (Nat.le_refl _))⟩
def zjg:List D→Option D
 | [.int j]=>if -(2 ^ 62)≤j∧j < 2 ^ 62∧j.toNat≤sizeLine then some (.lst (rngD 0 j.toNat)) else none
 | _=>none
theorem zne {H:Hp} {p l:Addr} {o:HO} (h:upd H p o l=none):H l=none∧l≠p:=by
 by_cases e:l=p
 ·subst e; rw [zak] at h; cases h
 ·rw [zal e] at h; exact ⟨h,e⟩
theorem zhN (hc:X.calm=true) (hgl:Gl X "list") (hml:X.mg "list" = none) (hg:Gl X "range") (hm:X.mg "range" = none) (ha:SAB X g m [a] fl)
  (hs:starEach [a] X.env=(false,eval a X.env)::starEach [] X.env:=by rfl)
  (hs2:starEach [.Call (.Name "range" p2) [a] [] pos2] X.env=(false,eval (.Call (.Name "range" p2) [a] [] pos2) X.env)::starEach [] X.env:=by rfl) :
  SO X g m (.Call (.Name "list" p) [.Call (.Name "range" p2) [a] [] pos2] [] pos) (fC fl zjg):=by
 refine PE.imp (zdg (zgz hc) hgl hml rfl (zbH (zdg zk0 hg hm boot_range ha (by decide) (by decide) hs rfl) zd6 hs2) (by decide) (by decide) hs2 rfl) fun σ H Q ⟨r,G,si,q⟩=>⟨r,G,si,zaf (zah q) fun ds q1 vs G1 H1 w1 rs=>?_⟩
 obtain ⟨d,e,q2⟩:=zaD q1
 unfold zjg at e
 split at e
 ·split at e
  ·rename_i j hj
   cases e
   cases rs with
   | cons r1 t=>
    cases t
    refine ⟨j,by rw [r1.int w1.ok],fun p hp=>⟨p,0,j,rfl,zak,⟨by decide,by decide,hj.1,hj.2.1⟩,by simpa using hj.2.2,fun l hl=>?_⟩⟩
    obtain ⟨hl1,hl2⟩:=zne hl
    have w2:=Grow.new w1.ok hp (.rng 0 j)
    have w3:=Grow.new w2.ok hl (.lst (rngV 0 (j - 0).toNat))
    refine q2 l G1 _ (w1.trans (w2.trans w3)) (w1.back hl1) ⟨w1.ok.isN hl1,.lst zak ?_⟩
    rw [show j - 0=j by omega]
    exact zpK 0 _
  ·cases e
 ·cases e
end
end DL
end
section
namespace DL
open PySem PySem.Spec PyProof.Rows L2
def MtD (K:PySem.W.Frag) (r:V→List V→Hp→VK→Prop) (k:D→List D→Option D):Prop:=∀(G:GH) (H:Hp) (v:V) (d:D) (vs:List V) (ds:List D) (d':D) (Q:VK),GOk K G H→RB K G H v d→Paired (RB K G H) vs ds→k d ds=some d' →
 (∀v' G' H',Grow K G H G' H'→RG K G' v' d'→Q v' H')→r v vs H Q
def tyM (T:String):D→Bool
 | .lst _=>T == "list"
 | .tup _=>T == "tuple"
 | .dic _=>T == "dict"
 | .str _=>T == "str"
 | .int _=>T == "int"
 | _=>false
theorem zpf {K:PySem.W.Frag} {G:GH} {H:Hp} {v:V} {d:D} {T:String} (gk:GOk K G H) (h:RB K G H v d) (t:tyM T d=true):tyV K T v H:=by
 cases d with
 | lst ds=>obtain ⟨a,xs,rfl,s,r⟩:=h.lst gk; exact .inl ⟨eq_of_beq t,xs,s⟩
 | tup ds=>
  have e:T = "tuple" := eq_of_beq t
  rcases h with h | ⟨a,rfl,o⟩
  ·cases h with
   | scl s=>cases s
   | ref q=>
    cases gk _ _ q with
    | tup r s=>exact .inr (.inl ⟨e,.inr ⟨_,r⟩⟩)
   | kc k=>
    cases k with
    | tup r s z=>exact .inr (.inl ⟨e,.inl z⟩)
  ·cases o.ob
 | dic ds=>obtain ⟨a,xs,rfl,s,r⟩:=h.dic gk; exact .inr (.inr (.inl ⟨eq_of_beq t,.inl ⟨xs,s⟩⟩))
 | str x=>rw [h.str gk]; exact eq_of_beq t
 | int x=>rw [h.int gk]; exact eq_of_beq t
 | _=>cases t
def fM (T:String) (fo:FE) (fl:Rho→Res (List D)) (k:D→List D→Option D):FE:=fun r=>(fo r).bind fun d=>if tyM T d=true then (fl r).bind fun ds=>opt (k d ds) else .stuck
section
variable {X:Cx} {g:GE} {m mb:List Md} {e a b o:Expr} {es:List Expr} {f fa fb fo:FE} {fl:Rho→Res (List D)} {pos pos' apos cpos:Pos} {ro:Bool} {x name:Str} {T id:String} {R:V→List V→Hp→VK→Prop} {k:D→List D→Option D}
theorem s_bm (pa:PlainAttrs T) (slot:Slot T name id) (hty:typeOf (.builtin id)=pure (.type "method_descriptor")) (hmt:MtR X id R) (hk:MtD X.K R k) (ho:SB X g m o fo) (ha:SAB X g m (e::es) fl)
  (hbase:attributeBase o name X.env (eval o X.env)=eval o X.env:=by rfl)
  (hfew:((backTo cpos (starEach (e::es) X.env)).all (fun x=>! x.1) && (backToKw cpos (keywordEach [] X.env)).all (fun x=>x.1.isSome) && decide ((e::es).length + ([]:List Keyword).length + (if ([]:List Keyword).isEmpty then 0 else 1) < 30))=true:=by rfl)
  (hline:(apos.endLine == cpos.line)=true:=by rfl) (hst:starEach (e::es) X.env=(false,eval e X.env)::starEach es X.env:=by rfl) (hplain:(backTo cpos (starEach es X.env)).any (·.1)=false:=by rfl) :
  SE X g m (.Call (.Attribute o name apos) (e::es) [] cpos) (fM T fo fl k):=by
 refine PE.imp (zqe pa slot hty hmt ho ha hbase hfew hline hst hplain) fun σ H Q ⟨r,G,si,q⟩=>⟨r,G,si,zaf (zah q) fun d q1 v G1 H1 w1 r1=>?_⟩
 by_cases ht:tyM T d=true
 ·rw [if_pos ht] at q1
  refine ⟨zpf w1.ok r1 ht,r,G1,si.grow w1,za0 (zah q1) w1 fun ds q2 vs G2 H2 w2 rs=>?_⟩
  obtain ⟨d',e',q3⟩:=zaD q2
  exact hk G2 H2 v d vs ds d' Q w2.ok (r1.mono w2) rs e' fun v' G' H' w' z=>q3 v' G' H' ((w1.trans w2).trans w') z
 ·rw [if_neg ht] at q1; exact q1.elim
def zhi (x:V):List V→Option Nat
 | []=>none
 | y::xs=>if eqV y x=true then some 0 else (zhi x xs).map (· + 1)
def zea (x:D):List D→Option Nat
 | []=>none
 | y::xs=>if eqs y x=true then some 0 else (zea x xs).map (· + 1)
theorem ziH (x:D):∀ds:List D,zhi (toV x) (ds.map toV)=zea x ds
 | []=>rfl
 | y::ds=>by
  show (if eqV (toV y) (toV x)=true then some 0 else (zhi (toV x) (ds.map toV)).map (· + 1))=if eqs y x=true then some 0 else (zea x ds).map (· + 1)
  rw [ziH x ds]; rfl
theorem zmo {x:V} {xs:List V} {us:List Value} {j:Nat} (h0:Vals xs us) (f:xs.all zdM=true) (h:zhi x xs=some j):∃hj:j < us.length,eqU x us[j]=true∧∀i (hi:i < us.length),i < j→eqU x us[i]=false:=by
 induction h0 generalizing j with
 | nil=>cases h
 | @cons y u xs us r t ih=>
  rw [List.all_cons,Bool.and_eq_true] at f
  unfold zhi at h
  by_cases hy:eqV y x=true
  ·rw [if_pos hy] at h
   cases h
   exact ⟨Nat.zero_lt_succ _,by show eqU x u=true; rw [ziJ r f.1]; exact hy,fun i _ hlt=>absurd hlt (Nat.not_lt_zero _)⟩
  ·rw [if_neg hy] at h
   cases e:zhi x xs with
   | none=>rw [e] at h; cases h
   | some z=>
    rw [e] at h
    cases h
    obtain ⟨a,b,c⟩:=ih f.2 e
    refine ⟨Nat.succ_lt_succ a,b,fun i hi hlt=>?_⟩
    cases i with
    | zero=>show eqU x u=false; rw [ziJ r f.1]; simpa using hy
    | succ i=>exact c i (Nat.lt_of_succ_lt_succ hi) (Nat.lt_of_succ_lt_succ hlt)
def zjY (K:PySem.W.Frag):V→List V→Hp→VK→Prop:=fun x vs H Q=>∃p xs y j,x=.ref p∧vs=[y]∧SqT K H p xs∧zdM y=true∧xs.all zdM=true∧zhi y xs=some j∧Q (.int j) H
theorem zfk:MtR X "tuple.index" (zjY X.K):=by
 intro pins s σ H x vs v us Q I rx rv h
 obtain ⟨p,xs,y,j,rfl,rfl,hq,fy,fx,e,q⟩:=h
 cases rx
 obtain ⟨u,rfl,ru⟩:=ze1 rv
 obtain ⟨its,r,pl,hz⟩:=I.tuple hq
 obtain ⟨o,ho,hc,n,hs⟩:=pl
 obtain ⟨a,b,c⟩:=zmo r fx e
 have hl:=r.length
 obtain ⟨ocls,odict,odata,oslots⟩:=o
 simp only at hc hs
 subst hc hs
 refine call_meets PySem.F.slot_tuple_index ⟨_,ho,rfl⟩ PySem.F.entry_tuple_index (PySem.F.args_tuple_index_2 _ _)
  (zge p its.toArray n odict oslots u (eqU y) j (by simpa using a) (by simpa using b) (fun i hi hlt=>by simpa using c i (by simpa using hi) hlt)) ⟨ho,fun w hw=>zdq ru fy r fx w (by simpa using hw),⟨.int j,H,I.tok _,⟨_,rfl⟩,q⟩⟩
def zqV:D→List D→Option D
 | .lst ds,[x]=>if za5 x=true∧ds.all za5=true then (zea x ds).map fun j=>.int j else none
 | .tup ds,[x]=>if za5 x=true∧ds.all za5=true then (zea x ds).map fun j=>.int j else none
 | _,_=>none
theorem zjo {K:PySem.W.Frag} {G:GH} {H:Hp} {ds:List D} {xs:List V} {x d':D} {v:V} (gk:GOk K G H) (rs:RGs K G xs ds) (rx:RB K G H v x) (e:(if za5 x=true∧ds.all za5=true then (zea x ds).map fun j=>D.int j else none)=some d') :
  ∃j:Nat,d'=.int j∧zdM v=true∧xs.all zdM=true∧zhi v xs=some j:=by
 by_cases hc:za5 x=true∧ds.all za5=true
 ·rw [if_pos hc] at e
  obtain ⟨e1,f1⟩:=RB.flat rx gk hc.1
  obtain ⟨e3,f3⟩:=zq7 rs gk hc.2
  cases ef:zea x ds with
  | none=>rw [ef] at e; cases e
  | some j=>
   rw [ef] at e
   cases e
   exact ⟨j,rfl,f1,f3,by rw [e1,e3,ziH]; exact ef⟩
 ·rw [if_neg hc] at e; cases e
def zdL (d:D) (ds:List D):Option D:=match d with
 | .tup _=>zqV d ds
 | _=>none
theorem zfs {K:PySem.W.Frag}:MtD K (zjY K) zdL:=by
 intro G H v d vs ds d' Q gk rv rs e q
 cases d with
 | tup zs=>
  cases ds with
  | nil=>cases e
  | cons x t=>
   cases t with
   | nil=>
    cases rs with
    | cons r1 rt=>
     cases rt
     obtain ⟨a,xs,rfl,s,r⟩:=rv.tup gk
     obtain ⟨j,rfl,h1,h2,h3⟩:=zjo gk r r1 e
     exact ⟨a,xs,_,j,rfl,rfl,s,h1,h2,h3,q _ G H (Grow.refl gk) (.scl (.int _))⟩
   | cons _ _=>cases e
 | _=>cases e
def zrE:V→List V→Hp→VK→Prop:=fun x vs H Q=>∃d kvs,x=.ref d∧vs=[]∧Rd H d (.dK kvs)∧∀p,H p=none→Q (.ref p) (upd H p (.ext fun h=>h.IsValuesView p d))
theorem zkp:MtR X "dict.values" zrE:=by
 intro pins s σ H x vs v us Q I rx rv h
 obtain ⟨d,kvs,rfl,rfl,hd,q⟩:=h
 cases rx
 cases rv
 obtain ⟨z1,ns1,vs1,r1,dd1⟩:=(show za6 X.prog X.w H s.heap d (.dK kvs) from hd.ok I.hok)
 refine call_meetsIn PySem.F.slot_dict_values dd1.typeIs PySem.F.entry_dict_values (PySem.F.args_dict_values_1 _) (meets_dict_values (zbp X.prog X.w) d ns1) ⟨⟨vs1,dd1⟩,?_⟩
 refine ⟨.ref s.heap.objs.size,_,I.laid (t':=s.toks) (o:=.ext fun h=>h.IsValuesView s.heap.objs.size d) (fun b ob e=>Heap.get?_push_of_some _ e) (Nat.le_refl _) ?_,rfl,q _ (I.hok.fresh (Nat.le_refl _))⟩
 refine ⟨⟨_,Heap.get?_push_size _ rfl,rfl,rfl⟩,⟨_,Heap.get?_push_size _ rfl⟩,fun h1 h2 hv hk=>?_⟩
 obtain ⟨ob,e,c⟩:=hv
 exact ⟨ob,hk ob e,c⟩
theorem zfV (hc:X.calm=true):zc2 X (.type "list") (fun xs H Q=>∃p d kvs,xs=[.ref p]∧H p=some (.ext fun h=>h.IsValuesView p d)∧Rd H d (.dK kvs)∧∀l,H l=none→Q (.ref l) (upd H l (.lst (kvs.map (·.2))))):=by
 intro pins s σ H xs us Q I r h
 obtain ⟨p,d,kvs,rfl,hp,hd,q⟩:=h
 obtain ⟨u,rfl,rx⟩:=ze1 r
 cases rx
 obtain ⟨hv,_,_⟩:=(show za6 X.prog X.w H s.heap p (.ext fun h=>h.IsValuesView p d) from I.hok p _ hp)
 obtain ⟨z1,ns1,vs1,r1,dd1⟩:=(show za6 X.prog X.w H s.heap d (.dK kvs) from hd.ok I.hok)
 obtain ⟨ep,hat⟩:=dd1.dictAt
 have l1:=Paired.length r1
 refine PySem.W.kdl_call (PySem.W.kdl_values (knd:=zbp X.prog X.w) (kvs:=vs1) (ep:=ep)) (I.ok.hd hc) ⟨hv,hat⟩ (by omega) fun h' tk acc c' kp hS hacc=>?_
 have hvals:Vals (kvs.map (·.2)) acc.toList:=by
  refine zcK (by have h1:=hacc.1; have h2:acc.toList.length=acc.size:=Array.length_toList; rw [List.length_map]; omega) fun j v u e1 e2=>?_
  obtain ⟨k,hk⟩:=hacc.2 j u (by rw [←Array.getElem?_toList]; exact e2)
  rw [List.getElem?_map] at e1
  cases e3:kvs[j]? with
  | none=>rw [e3] at e1; cases e1
  | some kv=>
   rw [e3] at e1
   cases e1
   obtain ⟨kv',e4,e5⟩:=Paired.get r1 hk
   rw [e3] at e4
   cases e4
   exact e5.2
 refine ⟨.ref s.heap.objs.size,_,I.laid (t':=tk) kp (Nat.le_refl _) (show za6 X.prog X.w _ h' _ (.lst (kvs.map (·.2))) from ⟨by rw [List.length_map]; exact z1,acc.toList,c',hvals,by rw [Array.toArray_toList]; exact hS⟩),rfl,q _ (I.hok.fresh (Nat.le_refl _))⟩
def znm:D→Option D
 | .dic kvs=>some (.lst (kvs.map (·.2)))
 | _=>none
theorem zmM {K:PySem.W.Frag} {G:GH}:∀{ps:List (Key × V)} {kvs:List (Key × D)},RKs K G ps kvs→RGs K G (ps.map (·.2)) (kvs.map (·.2))
 | _,_,.nil=>.nil
 | _,_,.cons r t=>.cons r.2 (zmM t)
theorem zm6 (hc:X.calm=true) (hg:Gl X "list") (hm:X.mg "list" = none) (ho:SB X g m o fo) (hbase:attributeBase o "values" X.env (eval o X.env)=eval o X.env:=by rfl) (hline:(apos.endLine == cpos.line)=true:=by rfl)
  (hs2:starEach [.Call (.Attribute o "values" apos) [] [] cpos] X.env=(false,eval (.Call (.Attribute o "values" apos) [] [] cpos) X.env)::starEach [] X.env:=by rfl) :
  SO X g m (.Call (.Name "list" pos') [.Call (.Attribute o "values" apos) [] [] cpos] [] pos) (f1 fo znm):=by
 refine PE.imp (zdg (zfV hc) hg hm rfl (zbH (zqd PySem.F.plainAttrs_dict PySem.F.slot_dict_values PySem.F.type_dict_values zkp ho hbase hline) zd6 hs2) (by decide) (by decide) hs2 rfl) fun σ H Q ⟨r,G,si,q⟩=>⟨r,G,si,zaf (zah q) fun d q1 v G1 H1 w1 r1=>?_⟩
 obtain ⟨d',e,q2⟩:=zaD q1
 cases d with
 | dic kvs=>
  cases e
  obtain ⟨a,ps,rfl,hs,rs⟩:=r1.dic w1.ok
  refine ⟨.inr (.inr (.inl ⟨rfl,.inl ⟨ps,hs⟩⟩)),a,ps,rfl,rfl,hs,fun p hp=>⟨p,a,ps,rfl,zak,?_,fun l hl=>?_⟩⟩
  ·exact Rd.mono hs fun a o e=>zjD hp _ _ e
  ·obtain ⟨hl1,hl2⟩:=zne hl
   have w2:=Grow.new w1.ok hp (.ext fun h=>h.IsValuesView p a)
   have w3:=Grow.new w2.ok hl (.lst (ps.map (·.2)))
   exact q2 l G1 _ (w1.trans (w2.trans w3)) (w1.back hl1) ⟨w1.ok.isN hl1,.lst zak (zmM rs)⟩
 | _=>cases e
end
end DL
end
section
namespace DL
open PySem PySem.Spec PyProof.Rows L2
def enuD:Nat→List D→List D
 | _,[]=>[]
 | i,d::ds=>.tup [.int i,d]::enuD (i + 1) ds
theorem zeb:∀(i:Nat) (ds:List D),(enuD i ds).length=ds.length
 | _,[]=>rfl
 | i,d::ds=>congrArg (· + 1) (zeb (i + 1) ds)
theorem zgw:∀(i j:Nat) (ds:List D),(enuD i ds)[j]? = (ds[j]?).map fun d=>D.tup [.int ((i + j:Nat):Int),d]
 | _,_,[]=>by simp [enuD]
 | i,0,d::ds=>by simp [enuD]
 | i,j + 1,d::ds=>by
  show (enuD (i + 1) ds)[j]? = _
  rw [zgw (i + 1) j ds]
  simp only [List.getElem?_cons_succ]
  rw [show i + 1 + j=i + (j + 1) by omega]
theorem zjz {K:PySem.W.Frag} {ds:List D} {G0:GH} {sq:Hp→List V→Prop} (h:∀G H,Gle G0 G→GOk K G H→∃xs,sq H xs∧RGs K G xs ds):Yields K (Ien sq) (enuD 0 ds) G0:=by
 refine ⟨fun G H i w gk hi=>?_,fun G H i x H' d w gk y e=>?_,fun G H w gk=>?_⟩
 ·obtain ⟨xs,s,r⟩:=h G H w gk
  rw [zeb] at hi
  have hl:=Paired.length r
  exact ⟨xs,xs[i],s,List.getElem?_eq_getElem (by omega)⟩
 ·obtain ⟨xs,s,r⟩:=h G H w gk
  obtain ⟨p,v,hp,rfl,rfl,hv⟩:=y
  rw [zgw] at e
  cases ed:ds[i]? with
  | none=>rw [ed] at e; cases e
  | some d0=>
   rw [ed] at e
   simp only [Option.map_some,Option.some.injEq,Nat.zero_add] at e
   subst e
   obtain ⟨v',e1,rv⟩:=Paired.get r ed
   have:=hv xs s
   rw [e1] at this; cases this
   exact ⟨_,Grow.newF gk hp (.tup (.inl zak) (.cons (.scl (.int _)) (.cons rv .nil))),.ref zax⟩
 ·obtain ⟨xs,s,r⟩:=h G H w gk
  rw [zeb]
  exact ⟨xs,s,Paired.length r⟩
def fEnu (f:FE):FI:=fun r=>(f r).bind fun d=>(opt (zbC d)).bind fun ds=>.ok (enuD 0 ds)
section
variable {X:Cx} {g:GE} {m:List Md} {e a:Expr} {f:FE} {pos p pos2:Pos} {elts:List Expr} {kk:Nat}
theorem zj7 {te:TE} (hg:Gl X "enumerate") (hm:X.mg "enumerate" = none) (he:PE X e te) (hs:starEach [e] X.env=(false,eval e X.env)::starEach [] X.env:=by rfl):PI X (.Tuple elts kk pos2) (.Call (.Name "enumerate" p) [e] [] pos) (fun σ H R=>te σ H fun x H1=>
   (∃a,x=.ref a∧(∃xs,SqL X.K H1 a xs)∧R (Ien fun H xs=>SqL X.K H a xs) H1)∨∃a,x=.ref a∧(∃xs,SqT X.K H1 a xs)∧R (Ien fun H xs=>SqT X.K H a xs) H1):=by
 intro pins s σ H R I h
 refine Call_ (zg9 I hg hm boot_enumerate (PyProof.Rows.callWith_type1 (thn (zbH he zd6 hs pos pins s σ H (fun vs H1=>match vs with
  | [x]=>(∃a,x=.ref a∧(∃xs,SqL X.K H1 a xs)∧R (Ien fun H xs=>SqL X.K H a xs) H1)∨∃a,x=.ref a∧(∃xs,SqT X.K H1 a xs)∧R (Ien fun H xs=>SqT X.K H a xs) H1
  | _=>False) I h) fun us s1 ⟨vs,H1,I1,r1,q1⟩=>?_) hs rfl))
 ·cases r1 with
  | nil=>exact q1.elim
  | @cons x u xs us rx rt=>
  cases rt with
  | cons _ _=>exact q1.elim
  | nil=>
  have fin:∀{h':Heap},h'.objs.size=s1.heap.objs.size + 2→(∀b o,s1.heap.get? b=some o→h'.get? b=some o)→∀b∈[s1.heap.objs.size + 1,s1.heap.objs.size],FpOk X pins H1 b:=fun hz kp b hb=>by
   have hge:s1.heap.objs.size≤b:=by
    rcases List.mem_cons.mp hb with rfl | hb
    ·exact Nat.le_succ _
    ·rw [List.mem_singleton.mp hb]; exact Nat.le_refl _
   exact I1.fpOk hge (I1.hok.fresh hge)
  rcases q1 with ⟨a,rfl,⟨xs,hq⟩,q⟩ | ⟨a,rfl,⟨xs,hq⟩,q⟩
  ·cases rx
   obtain ⟨its,rv,pl,hz⟩:=I1.list hq
   refine call_enumerate_list pl.isList fun h' he hi hsz kp=>wpAny_pyIter_enum he ?_
   exact ⟨_,[s1.heap.objs.size + 1,s1.heap.objs.size],_,_,H1,rfl,I1.kept (t':=s1.toks) kp,ziX a _ _ (Nat.ne_of_gt (Nat.lt_succ_self _)),⟨⟨_,he⟩,hi⟩,fin hsz kp,q⟩
  ·cases rx
   obtain ⟨its,rv,pl,hz⟩:=I1.tuple hq
   refine zfz (show s1.heap.IsTuple a its.toArray from pl) fun h' he hi hsz kp=>wpAny_pyIter_enum he ?_
   exact ⟨_,[s1.heap.objs.size + 1,s1.heap.objs.size],_,_,H1,rfl,I1.kept (t':=s1.toks) kp,ziW a _ _ (Nat.ne_of_gt (Nat.lt_succ_self _)),⟨⟨_,he⟩,hi⟩,fin hsz kp,q⟩
theorem zqX (hg:Gl X "enumerate") (hm:X.mg "enumerate" = none) (he:SE X g m e f) (hs:starEach [e] X.env=(false,eval e X.env)::starEach [] X.env:=by rfl):SIt X g m (.Tuple elts kk pos2) (.Call (.Name "enumerate" p) [e] [] pos) (fEnu f):=by
 refine PI.imp (zj7 hg hm he hs) fun σ H R ⟨r,G,si,q⟩=>⟨r,G,si,zaf (zah q) fun d q v G' H' w rv=>?_⟩
 obtain ⟨ds,e,q⟩:=zaD (zah q)
 cases d with
 | lst ds'=>
  cases e
  obtain ⟨a,xs,rfl,s,rs⟩:=rv.lst w.ok
  refine .inl ⟨a,rfl,⟨xs,s⟩,q _ G' H' w (zjz fun G H le gk=>?_)⟩
  obtain ⟨b,ys,e,s',r'⟩:=(rv.mono le).lst gk
  cases e
  exact ⟨ys,s',r'⟩
 | tup ds'=>
  cases e
  obtain ⟨a,xs,rfl,s,rs⟩:=rv.tup w.ok
  refine .inr ⟨a,rfl,⟨xs,s⟩,q _ G' H' w (zjz fun G H le gk=>?_)⟩
  obtain ⟨b,ys,e,s',r'⟩:=(rv.mono le).tup gk
  cases e
  exact ⟨ys,s',r'⟩
 | _=>cases e
end
end DL
end
section
namespace DL
open PySem PySem.Spec PyProof.Rows L2
theorem zku:∀a b:List Int,HT.lexLt a b=lexI a b
 | [],[]=>rfl
 | [],_::_=>rfl
 | _::_,[]=>rfl
 | x::xs,y::ys=>by rw [HT.lexLt_cons,lexI,zku xs ys]
inductive TupI (h:Heap):Value→List Int→Prop where
 | mk {a:Addr} {items:Array Value} {ns:List Int}:IsTup h a items→IntsAre items.toList ns→TupI h (.ref a) ns
theorem zh7:∀(xs ys:List Int),((List.range (min xs.length ys.length)).all (fun j=>decide (xs.getD j 0=ys.getD j 0)) && xs.length == ys.length)=decide (xs=ys):=by
 intro xs ys
 rw [Bool.eq_iff_iff,Bool.and_eq_true,List.all_eq_true,beq_iff_eq,decide_eq_true_iff]
 constructor
 ·rintro ⟨h1,h2⟩
  refine List.ext_getElem h2 fun i a b=>?_
  have:=h1 i (List.mem_range.mpr (by omega))
  simp only [decide_eq_true_eq] at this
  simpa [List.getD_eq_getElem?_getD,a,b] using this
 ·rintro rfl
  exact ⟨fun i _=>by simp,rfl⟩
theorem znr {A:Around} {s:Shared} {p q:Value} {k l:List Int} (hp:TupI s.heap p k) (hq:TupI s.heap q l) (hu:A.units < cLine):SeqAt.EqAt A s p q (decide (k=l)):=by
 cases hp with
 | @mk a ia _ ha ia'=>
  cases hq with
  | @mk b ib _ hb ib'=>
   by_cases e:a=b
   ·subst e
    obtain ⟨o,h1,h2,n,h3⟩:=ha
    obtain ⟨o',h1',h2',n',h3'⟩:=hb
    rw [h1] at h1'; cases h1'
    rw [h3] at h3'; cases h3'
    have:k=l:=by
     have z1:=ia'
     have z2:=ib'
     exact (IntsAre.nums z1).symm.trans (IntsAre.nums z2)
    subst this
    rw [decide_eq_true rfl]
    exact SeqAt.EqAt.same _
   ·have l1:=ia'.length
    have l2:=ib'.length
    rw [Array.length_toList] at l1 l2
    have key:=SeqAt.RcAt.tuples (A:=A) (s:=s) (e:=fun j=>decide (k.getD j 0=l.getD j 0)) (show s.heap.IsTuple a ia from ha) (show s.heap.IsTuple b ib from hb) hu (fun j h1 h2=>by
     obtain ⟨t,e1⟩:=IntsAre.int_at ia' j ia[j] (by rw [Array.getElem?_toList]; simp [h1])
     obtain ⟨t',e2⟩:=IntsAre.int_at ib' j ib[j] (by rw [Array.getElem?_toList]; simp [h2])
     rw [e1,e2]
     have:=SeqAt.EqAt.int_int (A:=A.in1) (s:=s) (k.getD j 0) t (l.getD j 0) t'
     have e:(k.getD j 0 == l.getD j 0)=decide (k.getD j 0=l.getD j 0):=by rw [Bool.eq_iff_iff]; simp
     rw [e] at this
     exact this)
    rw [l1,l2,zh7] at key
    exact SeqAt.EqAt.of_refs e key
inductive TupsI (h:Heap):List Value→List (List Int)→Prop where
 | nil:TupsI h [] []
 | cons {p:Value} {k:List Int} {ps:List Value} {ks:List (List Int)}:TupI h p k→TupsI h ps ks→TupsI h (p::ps) (k::ks)
theorem TupsI.length {h:Heap}:∀{ps:List Value} {ks:List (List Int)},TupsI h ps ks→ps.length=ks.length
 | _,_,.nil=>rfl
 | _,_,.cons _ t=>congrArg (· + 1) t.length
section
variable {prog:Program} {w:World} {A:Around} {s:Shared}
theorem zqE {fin:Bool} {Q:Bool→Shared→Prop} (hu:A.units < cLine) {ps qs:List Value} {ks ls:List (List Int)} {i:Nat} (h1:TupsI s.heap ps ks) (h2:TupsI s.heap qs ls) (h:Q (lexZ fin ks ls) s):PySem.W.KatLex prog w A false fin Q (ps.zip qs) i s:=by
 induction h1 generalizing qs ls i with
 | nil=>cases h2 <;> exact PySem.W.kat_nil h
 | @cons p k ps ks hp tp ih=>
  cases h2 with
  | nil=>exact PySem.W.kat_nil h
  | @cons q l qs ls hq tq=>
   refine PySem.W.kat_cons (znr hp hq hu prog w _ _ ?_)
   by_cases e:k=l
   ·rw [decide_eq_true e]
    have h':Q (lexZ fin ks ls) s:=by unfold lexZ at h; rw [if_pos e] at h; exact h
    exact PySem.W.kat_yes (ih tq h')
   ·rw [decide_eq_false e]
    have h':Q (lexI k l) s:=by unfold lexZ at h; rw [if_neg e] at h; exact h
    refine PySem.W.kat_no ?_
    rw [Bool.false_and]
    refine PySem.W.kat_one _ _ ?_
    cases hp with
    | mk ha ia=>cases hq with
     | mk hb ib=>
      refine HT.lt_tupInts ha hb ia ib hu ?_
      rw [zku]
      exact h'
inductive TupR (h:Heap):Value→List (List Int)→Prop where
 | mk {a:Addr} {items:List Value} {ks:List (List Int)}:IsTup h a items.toArray→TupsI h items ks→ks≠[]→TupR h (.ref a) ks
theorem znR {p q:Value} {ks ls:List (List Int)} {Q:Bool→Shared→Prop} {E:Value→Shared→Prop} (hp:TupR s.heap p ks) (hq:TupR s.heap q ls) (hu:A.units < cLine) (h:Q (lexR ks ls) s):wpAny (model prog w) A (keyLt' (tuples' false) p q) Q E s:=by
 cases hp with
 | @mk _ items _ ha ta hna=>cases hq with
  | @mk _ items_1 _ hb tb hnb=>
   obtain ⟨o,h1,h2,n,h3⟩:=ha
   obtain ⟨o',h1',h2',n',h3'⟩:=hb
   refine PySem.W.kat_lt h1 h3 h1' h3' ?_
   have e:decide (items.toArray.size < items_1.toArray.size)=decide (ks.length < ls.length):=by rw [List.size_toArray,List.size_toArray,ta.length,tb.length]
   rw [e]
   exact zqE hu (by simpa using ta) (by simpa using tb) h
end
end DL
end
section
namespace DL
open PySem PySem.Spec PyProof.Rows L2
def zdH:List D→Option (List Int)
 | []=>some []
 | .int i::ds=>(zdH ds).map (i::·)
 | _=>none
theorem ziP {K:PySem.W.Frag} {G:GH} {H:Hp} (gk:GOk K G H) {ds:List D} {xs:List V} {ns:List Int} (h:RGs K G xs ds) (e:zdH ds=some ns):xs=ns.map V.int:=by
 induction h generalizing ns with
 | nil=>cases e; rfl
 | @cons x d xs ds r t ih=>
  cases d with
  | int i=>
   have e':(zdH ds).map (i::·)=some ns:=e
   cases q:zdH ds with
   | none=>rw [q] at e'; cases e'
   | some ms=>
    rw [q] at e'
    cases e'
    rw [r.int gk,ih q]; rfl
  | _=>cases e
section
variable {X:Cx} {g:GE} {m:List Md} {e a:Expr} {f:FE} {pos p pos2 p2:Pos}
end
end DL
end
section
namespace DL
open PySem PySem.Spec PyProof.Rows L2
def TI2 (K:PySem.W.Frag) (H:Hp) (x:V) (k:List Int):Prop:=∃b,x=.ref b∧SqT K H b (k.map V.int)
def TR2 (K:PySem.W.Frag) (H:Hp) (x:V) (ks:List (List Int)):Prop:=∃b xs,x=.ref b∧SqT K H b xs∧Paired (TI2 K H) xs ks∧ks≠[]
def zgM {α:Type} (d:α) (ys:List α) (kss:List (List (List Int))):List α:=(zfM ys.length fun i j=>lexR (kss.getD i []) (kss.getD j [])).map fun i=>ys.getD i d
theorem za6.isS {P:Program} {w:World} {H:Hp} {h:Heap} {a:Addr} {o:HO} (x:za6 P w H h a o):h.get? a≠none:=by
 have s:∀{u:Obj},h.get? a=some u→h.get? a≠none:=fun e z=>by rw [z] at e; cases e
 cases o with
 | lst xs=>obtain ⟨_,_,_,_,e⟩:=x; exact s e
 | tup xs=>obtain ⟨_,_,_,⟨_,e,_⟩,_⟩:=x; exact s e
 | dK kvs=>obtain ⟨_,_,_,_,o,_,_,e,_⟩:=x; exact s e
 | dT kvs=>obtain ⟨_,_,_,_,o,_,_,e,_⟩:=x; exact s e
 | set S n=>obtain ⟨o,_,_,_,e,_⟩:=x; exact s e
 | ins C dx fs=>obtain ⟨_,_,_,e,_⟩:=x; exact s e
 | own y=>obtain ⟨_,e⟩:=x; exact s e
 | xd fs=>obtain ⟨_,⟨_,_,_,e,_⟩,_⟩:=x; exact s e
 | rng lo hi=>obtain ⟨_,_,_,e⟩:=x; exact s e
 | frz ob u=>obtain ⟨e,_⟩:=x; exact s e
 | tbl ps=>exact s (show h.get? a=some _ from x)
 | met f y=>exact s (show h.get? a=some _ from x)
 | ext φ=>obtain ⟨_,⟨_,e⟩,_⟩:=x; exact s e
section
variable {X:Cx} {pins:List (Addr × Obj)} {σ:L2.St} {H:Hp} {s:Shared}
theorem TupI.stay {h h':Heap} {L:Addr} {mm:Str→Option Value} (hL:h.Ns L mm) (k:∀b o,b≠L→h.get? b=some o→h'.get? b=some o) {p:Value} {ns:List Int} (x:TupI h p ns):TupI h' p ns:=by
 cases x with
 | mk ht hi=>
  obtain ⟨o,h1,h2,n,h3⟩:=ht
  refine .mk ⟨o,k _ _ ?_ h1,h2,n,h3⟩ hi
  rintro rfl
  obtain ⟨o',es,ep,e,d,_⟩:=hL
  rw [h1] at e; cases e
  rw [h3] at d; cases d
theorem TupsI.stay {h h':Heap} {L:Addr} {mm:Str→Option Value} (hL:h.Ns L mm) (k:∀b o,b≠L→h.get? b=some o→h'.get? b=some o):∀{ps:List Value} {ks:List (List Int)},TupsI h ps ks→TupsI h' ps ks
 | _,_,.nil=>.nil
 | _,_,.cons x t=>.cons (x.stay hL k) (t.stay hL k)
theorem TupR.stay {h h':Heap} {L:Addr} {mm:Str→Option Value} (hL:h.Ns L mm) (k:∀b o,b≠L→h.get? b=some o→h'.get? b=some o) {p:Value} {ks:List (List Int)} (x:TupR h p ks):TupR h' p ks:=by
 cases x with
 | mk ht hi hn=>
  obtain ⟨o,h1,h2,n,h3⟩:=ht
  refine .mk ⟨o,k _ _ ?_ h1,h2,n,h3⟩ (hi.stay hL k) hn
  rintro rfl
  obtain ⟨o',es,ep,e,d,_⟩:=hL
  rw [h1] at e; cases e
  rw [h3] at d; cases d
theorem znq (I:Inv X pins σ H s) {x:V} {k:List Int} {u:Value} (h:TI2 X.K H x k) (r:L2.RelV x u):TupI s.heap u k:=by
 obtain ⟨b,rfl,hq⟩:=h
 cases r
 obtain ⟨its,rv,pl,_⟩:=I.tuple hq
 exact .mk pl (by simpa using zjn rv)
theorem zll (I:Inv X pins σ H s) {xs:List V} {ks:List (List Int)} {us:List Value} (h:Paired (TI2 X.K H) xs ks) (v:Vals xs us):TupsI s.heap us ks:=by
 induction h generalizing us with
 | nil=>cases v; exact .nil
 | cons h _ ih=>
  cases v with
  | cons r q=>exact .cons (znq I h r) (ih q)
theorem znp (I:Inv X pins σ H s) {x:V} {ks:List (List Int)} {u:Value} (h:TR2 X.K H x ks) (r:L2.RelV x u):TupR s.heap u ks:=by
 obtain ⟨b,xs,rfl,hq,hp,hn⟩:=h
 cases r
 obtain ⟨its,rv,pl,_⟩:=I.tuple hq
 exact .mk pl (zll I hp rv) hn
theorem zgG {ys:List V} {us:List Value} (r:Vals ys us):∀(ix:List Nat),(∀i∈ix,i < ys.length)→Vals (ix.map fun i=>ys.getD i .non) (ix.map fun i=>us.getD i Value.none)
 | [],_=>.nil
 | i::ix,h=>by
  refine .cons ?_ (zgG r ix fun j hj=>h j (List.mem_cons_of_mem _ hj))
  have hi:=h i List.mem_cons_self
  obtain ⟨u,h1,h2⟩:=r.get (i:=i) (x:=ys[i]) (List.getElem?_eq_getElem hi)
  have e1:ys.getD i .non=ys[i]:=by simp [List.getD_eq_getElem?_getD,hi]
  have e2:us.getD i Value.none=u:=by rw [List.getD_eq_getElem?_getD,h1]; rfl
  show L2.RelV (ys.getD i .non) (us.getD i Value.none)
  rw [e1,e2]; exact h2
theorem Inv.laidN {D:Addr} {ys:List V} {its:List Value} {c:Nat} {h':Heap} (I:Inv X pins σ H s) (hD:s.heap.get? D=none) (hDL:D≠X.env.locals) (k:∀b o,b≠X.env.locals→s.heap.get? b=some o→h'.get? b=some o)
  (hns:∀m,s.heap.Ns X.env.locals m→h'.Ns X.env.locals m) (ho:h'.get? D=some { cls:=.type "list",data:=.seq its.toArray c }) (rv:Vals ys its) (hz:ys.length≤sizeLine) (t':Nat) :
  Inv X pins σ (upd H D (.lst ys)) { s with heap:=h',toks:=t' }:=by
 have hHD:H D=none:=by
  cases q:H D with
  | none=>rfl
  | some u=>
   exact absurd hD (za6.isS (I.hok D u q))
 have neD:∀b o,s.heap.get? b=some o→b≠D:=fun b o e z=>by rw [z,hD] at e; cases e
 have keepU:∀b u,H b=some u→upd H D (.lst ys) b=some u:=fun b u e=>by rw [zal (zbv e hHD)]; exact e
 have trkL:∀b u,H b=some u→b≠X.env.locals:=fun b u e z=>by rw [z,I.free] at e; cases e
 refine I.step (g':=s.gens) (d':=s.drawn) (ch:=[]) (fun b hb=>absurd hb (by simp)) (fun b ob hL _ _ e _=>k b ob hL e) (fun b ob hL _ _ e _=>⟨ob.slots,k b ob hL e⟩) (fun b ob _ e n=>by rw [zal (neD b ob e)]; exact n)
  (fun b ob _ e=>?_) (fun b xs e=>keepU b _ e) (fun b ob u e=>keepU b _ e) (fun b ps e=>⟨#[],by rw [keepU b _ e]; simp⟩) hns (fun b u e=>?_) I.bare
 ·by_cases hb:b=X.env.locals
  ·subst hb
   obtain ⟨m,hn,_⟩:=I.loc
   obtain ⟨o,_,_,ho',_⟩:=hns m hn
   exact ⟨o,ho'⟩
  ·exact ⟨ob,k b ob hb e⟩
 ·by_cases hb:b=D
  ·subst hb
   rw [zak] at e
   cases e
   exact ⟨hz,its,c,rv,ho⟩
  ·rw [zal hb] at e
   refine (I.hok b u e).stay (fun cc v hc q=>k cc v ?_ q) (fun cc q=>keepU cc _ q) fun cc xs q=>keepU cc _ q
   rcases hc with z | z
   ·rw [z]; exact trkL b u e
   ·exact trkL cc _ z
theorem zoq {h:Heap} {L:Addr} {m m':Str→Option Value} (a:h.Ns L m) (b:h.Ns L m'):m=m':=by
 obtain ⟨o,es,ep,e,d,_,f⟩:=a
 obtain ⟨o',es',ep',e',d',_,f'⟩:=b
 rw [e] at e'; cases e'
 rw [d] at d'; cases d'
 funext x
 rw [←f,←f']
theorem ziz {h:Heap}:∀{us:List Value} {kss:List (List (List Int))},Paired (fun u ks=>TupR h u ks) us kss→∃fs,PySem.W.KatTups h us fs∧fs.length=us.length∧∀f∈fs,∃b o,f=Value.ref b∧h.get? b=some o∧o.cls=.type "tuple"
 | _,_,.nil=>⟨[],PySem.W.KatTups.nil,rfl,fun f hf=>nomatch hf⟩
 | _,_,.cons x t=>by
  obtain ⟨fs,h1,h2,h3⟩:=ziz t
  cases x with
  | @mk a items ks ht hi hn=>
   cases hi with
   | nil=>exact absurd rfl hn
   | @cons p k ps ks hp _=>
    obtain ⟨o,e1,e2,n,e3⟩:=ht
    refine ⟨p::fs,PySem.W.KatTups.cons e1 e2 e3 (by simp) h1,by simp [h2],fun f hf=>?_⟩
    rcases List.mem_cons.mp hf with rfl | hf
    ·cases hp with
     | mk hb _=>obtain ⟨ob,q1,q2,_⟩:=hb; exact ⟨_,ob,rfl,q1,q2⟩
    ·exact h3 f hf
theorem zlm (I:Inv X pins σ H s) {ys:List V} {kss:List (List (List Int))} {us:List Value} (h:Paired (TR2 X.K H) ys kss) (v:Vals ys us):Paired (fun u ks=>TupR s.heap u ks) us kss:=by
 induction h generalizing us with
 | nil=>cases v; exact .nil
 | cons h _ ih=>
  cases v with
  | cons r q=>exact .cons (znp I h r) (ih q)
theorem ze8 {n:Nat} {c:Nat→Nat→Bool} {i:Nat} (h:i∈zfM n c):i < n:=List.mem_range.mp ((zem n c).mem_iff.mp h)
theorem zh5 {k:Nat} (hr:Room k X.A):zc2 X (.builtin "sorted") (fun xs H Q=>∃p ys kss,xs=[.ref p]∧SqL X.K H p ys∧Paired (TR2 X.K H) ys kss∧ys.length < 64∧∀l,H l=none→Q (.ref l) (upd H l (.lst (zgM .non ys kss)))):=by
 intro pins s σ H xs us Q I r h
 obtain ⟨p,ys,kss,rfl,hq,hk,h64,q⟩:=h
 obtain ⟨u,rfl,rx⟩:=ze1 r
 cases rx
 obtain ⟨its,rv,pl,hz⟩:=I.list hq
 have hl:=rv.length
 have hkl:=Paired.length hk
 by_cases h2:its.length < 2
 ·refine zgL pl.isList h2 fun h' c D kp hD ho=>?_
  have hs:s.heap.get? D=none:=Heap.get?_none_of_le hD
  refine ⟨.ref D,_,Inv.laidN I hs (Nat.ne_of_gt (Nat.lt_of_lt_of_le I.lt hD)) (fun b o _ e=>kp b o e) (fun m ⟨o,es,ep,e,z⟩=>⟨o,es,ep,kp _ _ e,z⟩) ho rv (by omega) s.toks,rfl,?_⟩
  have e:zgM V.non ys kss=ys:=by
   unfold zgM zfM
   rw [if_pos (by omega)]
   refine List.ext_getElem (by simp) fun i a b=>?_
   simp [List.getD_eq_getElem?_getD,b]
  have:=q D (I.hok.fresh hD)
  rw [e] at this
  exact this
 ·obtain ⟨mF,F⟩:=I.fr
  have trs:=zlm I hk rv
  refine PySem.W.kat_sorted F (zl4 (g:=X.base) (h:=s.heap) (L:=X.env.locals)) pl.isList (by omega) (by omega) fun D e1 h' F' N' hlt=>?_
  have hDs:s.heap.get? D=none:=by
   cases z:s.heap.get? D with
   | none=>rfl
   | some o=>
    have zn:=(N' _ (List.mem_cons_self)).2
    exact absurd (hlt (D,o) (zfm zn.1 zn.2 z)) (Nat.lt_irrefl _)
  have keepN:∀{h2:Heap} {oD:Obj},Fr X.base X.env.locals h2 mF→News X.base X.env.locals h2 ((D,oD)::zfC X.base s.heap X.env.locals)→∀b o,b≠X.env.locals→s.heap.get? b=some o→h2.get? b=some o:=fun {h2 oD} F2 N2 b o hb e=>by
   cases z:X.base.get? b with
   | some o'=>
    have:=I.bk b o' z
    rw [e] at this; cases this
    exact F2.keep b o z
   | none=>exact (N2 (b,o) (List.mem_cons_of_mem _ (zfm hb z e))).1
  have k1:=keepN F' N'
  have trs':Paired (fun u ks=>TupR h' u ks) its kss:=Paired.mono (fun _ _ x=>x.stay F.ns k1) trs
  obtain ⟨fs,t1,t2,t3⟩:=ziz trs'
  refine PySem.W.kat_kind (T:=.type "tuple") t1 (by omega) (fun v hv=>?_) (by decide) ?_
  ·obtain ⟨b,o,rfl,e1,e2⟩:=t3 v hv
   rw [←e2]
   exact (PySem.W.Looks.ld e1).andThen .now
  have hn:0 < its.length:=by omega
  refine zkA (n:=its.length) (c:=fun i j=>lexR (kss.getD i []) (kss.getD j [])) (fun i j C hi hj hC=>?_) (zhw hn) ?_
  ·have gi:∀i,i < its.length→TupR h' (its.getD i Value.none) (kss.getD i []):=fun i hi=>by
    have hki:i < kss.length:=by omega
    obtain ⟨a,ha,hx⟩:=Paired.get trs' (List.getElem?_eq_getElem hki)
    rw [List.getD_eq_getElem?_getD,ha,List.getD_eq_getElem?_getD,List.getElem?_eq_getElem hki]
    exact hx
   exact znR (gi i hi) (gi j hj) (by have:=hr.un; show X.A.units + 1 + 1 < cLine; omega) hC
  ·refine PySem.W.KasFin.intro F' N' (.head fun q hq z=>?_) fun h3 c F3 N3=>?_
   ·have:=hlt q hq
    rw [z] at this
    exact Nat.lt_irrefl _ this
   ·have oD:=(N3 _ List.mem_cons_self)
    have hix:∀i∈zfM ys.length (fun i j=>lexR (kss.getD i []) (kss.getD j [])),i < ys.length:=fun i hi=>ze8 hi
    have e0:(zhb (fun i j=>lexR (kss.getD i []) (kss.getD j [])) (PySem.W.kas_sort its.length)).toList=zfM ys.length (fun i j=>lexR (kss.getD i []) (kss.getD j [])):=by
     unfold zfM
     rw [if_neg (by omega),hl]
    rw [e0] at oD
    refine ⟨.ref D,_,Inv.laidN (t':=_) (its:=(zfM ys.length fun i j=>lexR (kss.getD i []) (kss.getD j [])).map fun i=>its.getD i Value.none) I hDs oD.2.1 (keepN F3 N3) (fun m hm=>by rw [zoq hm F.ns]; exact F3.ns) oD.1 (zgG rv _ hix) ?_,rfl,q D ?_⟩
    ·have:=(zem ys.length fun i j=>lexR (kss.getD i []) (kss.getD j [])).length_eq
     rw [List.length_map,this,List.length_range]; omega
    ·cases z:H D with
     | none=>rfl
     | some u=>exact absurd hDs (za6.isS (I.hok D u z))
end
end DL
end
section
namespace DL
open PySem PySem.Spec PyProof.Rows L2
def zeI:D→Option (List Int)
 | .tup ds=>zdH ds
 | _=>none
def zfL:List D→Option (List (List Int))
 | []=>some []
 | d::ds=>(zeI d).bind fun k=>(zfL ds).map (k::·)
def zlJ:D→Option (List (List Int))
 | .tup (d::ds)=>zfL (d::ds)
 | _=>none
def zeF:List D→Option (List (List (List Int)))
 | []=>some []
 | d::ds=>(zlJ d).bind fun k=>(zeF ds).map (k::·)
def zlp:List D→Option D
 | [.lst ds]=>(zeF ds).bind fun kss=>if ds.length < 64 then some (.lst (zgM .non ds kss)) else none
 | _=>none
section
variable {K:PySem.W.Frag} {G:GH} {H:Hp}
theorem zpk (gk:GOk K G H) {v:V} {d:D} {k:List Int} (r:RG K G v d) (e:zeI d=some k):TI2 K H v k:=by
 cases d with
 | tup ds=>
  obtain ⟨a,xs,rfl,s,rs⟩:=r.tup gk
  have:=ziP gk rs e
  subst this
  exact ⟨a,rfl,s⟩
 | _=>cases e
theorem znu (gk:GOk K G H) {ds:List D} {xs:List V} {ks:List (List Int)} (h:RGs K G xs ds) (e:zfL ds=some ks):Paired (TI2 K H) xs ks:=by
 induction h generalizing ks with
 | nil=>cases e; exact .nil
 | @cons x d xs ds r t ih=>
  have e':(zeI d).bind (fun k=>(zfL ds).map (k::·))=some ks:=e
  cases e1:zeI d with
  | none=>rw [e1] at e'; cases e'
  | some k=>
   rw [e1] at e'
   cases e2:zfL ds with
   | none=>rw [e2] at e'; cases e'
   | some ks'=>rw [e2] at e'; cases e'; exact .cons (zpk gk r e1) (ih e2)
theorem zlk {d:D} {ds:List D} {ks:List (List Int)} (e:zfL (d::ds)=some ks):ks≠[]:=by
 have e':(zeI d).bind (fun k=>(zfL ds).map (k::·))=some ks:=e
 cases e1:zeI d with
 | none=>rw [e1] at e'; cases e'
 | some k=>
  rw [e1] at e'
  cases e2:zfL ds with
  | none=>rw [e2] at e'; cases e'
  | some ks'=>rw [e2] at e'; cases e'; simp
theorem zpj (gk:GOk K G H) {v:V} {d:D} {ks:List (List Int)} (r:RG K G v d) (e:zlJ d=some ks):TR2 K H v ks:=by
 cases d with
 | tup ds=>
  cases ds with
  | nil=>cases e
  | cons d ds=>
   obtain ⟨a,xs,rfl,s,rs⟩:=r.tup gk
   exact ⟨a,xs,rfl,s,znu gk rs e,zlk e⟩
 | _=>cases e
theorem znt (gk:GOk K G H) {ds:List D} {xs:List V} {ks:List (List (List Int))} (h:RGs K G xs ds) (e:zeF ds=some ks):Paired (TR2 K H) xs ks:=by
 induction h generalizing ks with
 | nil=>cases e; exact .nil
 | @cons x d xs ds r t ih=>
  have e':(zlJ d).bind (fun k=>(zeF ds).map (k::·))=some ks:=e
  cases e1:zlJ d with
  | none=>rw [e1] at e'; cases e'
  | some k=>
   rw [e1] at e'
   cases e2:zeF ds with
   | none=>rw [e2] at e'; cases e'
   | some ks'=>rw [e2] at e'; cases e'; exact .cons (zpj gk r e1) (ih e2)
theorem zij {xs:List V} {ds:List D} (r:RGs K G xs ds):∀(ix:List Nat),(∀i∈ix,i < ds.length)→RGs K G (ix.map fun i=>xs.getD i .non) (ix.map fun i=>ds.getD i .non)
 | [],_=>.nil
 | i::ix,h=>by
  refine .cons ?_ (zij r ix fun j hj=>h j (List.mem_cons_of_mem _ hj))
  have hi:=h i List.mem_cons_self
  obtain ⟨u,h1,h2⟩:=Paired.get r (List.getElem?_eq_getElem hi)
  show RG K G (xs.getD i .non) (ds.getD i .non)
  rw [List.getD_eq_getElem?_getD,h1,List.getD_eq_getElem?_getD,List.getElem?_eq_getElem hi]
  exact h2
end
section
variable {X:Cx} {g:GE} {m:List Md} {a:Expr} {fl:Rho→Res (List D)} {pos p:Pos} {k:Nat}
theorem zl3 (hr:Room k X.A) (hg:Gl X "sorted") (hm:X.mg "sorted" = none) (ha:SAB X g m [a] fl) (hs:starEach [a] X.env=(false,eval a X.env)::starEach [] X.env:=by rfl) :
  SO X g m (.Call (.Name "sorted" p) [a] [] pos) (fC fl zlp):=by
 refine zpD (R:=fun xs H Q=>∃p ys kss,xs=[.ref p]∧SqL X.K H p ys∧Paired (TR2 X.K H) ys kss∧ys.length < 64∧∀l,H l=none→Q (.ref l) (upd H l (.lst (zgM .non ys kss)))) ?_ (zdp (zh5 hr) hg hm (by first | exact PyProof.Rows.boot_sorted | rfl) ha (by decide) (by decide) hs rfl)
 intro G H vs ds d Q gk rs e q
 unfold zlp at e
 split at e
 ·rename_i zs
  cases ek:zeF zs with
  | none=>rw [ek] at e; cases e
  | some kss=>
   rw [ek] at e
   have e':(if zs.length < 64 then some (D.lst (zgM .non zs kss)) else none)=some d:=e
   by_cases h64:zs.length < 64
   ·rw [if_pos h64] at e'
    cases e'
    cases rs with
    | cons r1 t=>
     cases t
     obtain ⟨b,xs,rfl,s,r⟩:=r1.lst gk
     have hl:=Paired.length r
     refine ⟨b,xs,kss,rfl,s,znt gk r ek,by omega,fun l hl'=>q l G _ (Grow.new gk hl' _) hl' ⟨gk.isN hl',.lst zak ?_⟩⟩
     unfold zgM
     rw [hl]
     exact zij r _ fun i hi=>ze8 hi
   ·rw [if_neg h64] at e'; cases e'
 ·cases e
end
end DL
end
section
namespace DL
open PySem PyProof.Rows PySem.SeqAt PySem.MeetsSeq PySem.MeetsSeq2 PySem.MeetsSeq3 L2
open PySem.AutoSeq1 (wpAny_loadPart')
end DL
end
section
namespace DL
open PySem PyProof.Rows L2
section
variable {prog:Program} {w:World} {A:Around} {E:Value→Shared→Prop} {s:Shared}
end
end DL
end
section
namespace DL
open PySem PySem.Spec PyProof.Rows L2
section
variable {X:Cx} {pins:List (Addr × Obj)} {σ:L2.St} {H:Hp} {s:Shared}
end
section
variable {K:PySem.W.Frag} {G:GH} {H:Hp}
end
section
variable {X:Cx} {g:GE} {m:List Md} {a:Expr} {fl:Rho→Res (List D)} {pos p:Pos} {k:Nat}
end
end DL
end
section
namespace DL
open PySem PySem.Spec PyProof.Rows L2
section
variable {X:Cx} {pins:List (Addr × Obj)} {σ:L2.St} {H:Hp} {s:Shared}
theorem Inv.keptN {h':Heap} (I:Inv X pins σ H s) (k:∀b o,b≠X.env.locals→s.heap.get? b=some o→h'.get? b=some o)
  (hns:∀m,s.heap.Ns X.env.locals m→h'.Ns X.env.locals m) (t':Nat):Inv X pins σ H { s with heap:=h',toks:=t' }:=by
 have trkL:∀b u,H b=some u→b≠X.env.locals:=fun b u e z=>by rw [z,I.free] at e; cases e
 refine I.step (g':=s.gens) (d':=s.drawn) (ch:=[]) (fun b hb=>absurd hb (by simp)) (fun b ob hL _ _ e _=>k b ob hL e) (fun b ob hL _ _ e _=>⟨ob.slots,k b ob hL e⟩) (fun b ob _ e n=>n)
  (fun b ob _ e=>?_) (fun b xs e=>e) (fun b ob u e=>e) (fun b ps e=>⟨#[],by rw [e]; simp⟩) hns (fun b u e=>?_) I.bare
 ·by_cases hb:b=X.env.locals
  ·subst hb
   obtain ⟨m,hn,_⟩:=I.loc
   obtain ⟨o,_,_,ho',_⟩:=hns m hn
   exact ⟨o,ho'⟩
  ·exact ⟨ob,k b ob hb e⟩
 ·refine (I.hok b u e).stay (fun cc v hc q=>k cc v ?_ q) (fun cc q=>q) fun cc xs q=>q
  rcases hc with z | z
  ·rw [z]; exact trkL b u e
  ·exact trkL cc _ z
end
section
variable {X:Cx} {g:GE} {m:List Md} {e a b:Expr} {es:List Expr} {fl:Rho→Res (List D)} {fa fb:FE} {pos p:Pos}
def zpQ (K:PySem.W.Frag):R2:=fun x y H Q=>∃a b ys,x=.ref a∧y=.ref b∧SqT K H a []∧SqT K H b ys∧Q (.ref b) H
theorem zok:OpR X (binaryOp .Add) (zpQ X.K):=by
 intro pins s σ H x y v u Q I rx ry h
 obtain ⟨a,b,ys,rfl,rfl,ha,hb,q⟩:=h
 cases rx
 cases ry
 obtain ⟨its,r1,p1,_⟩:=I.tuple ha
 obtain ⟨its2,r2,p2,_⟩:=I.tuple hb
 cases r1
 obtain ⟨⟨cls,dd,data,sl⟩,ho,hc,n,hd⟩:=id p1
 obtain ⟨⟨cls2,dd2,data2,sl2⟩,ho2,hc2,n2,hd2⟩:=id p2
 simp only at hc hd hc2 hd2
 subst hc hd hc2 hd2
 exact concat_meets ⟨_,ho,rfl⟩ ⟨_,ho2,rfl⟩ noFill_tuple_add seq_tuple_add PySem.F.slot_tuple_add PySem.F.entry_tuple_add (PySem.F.args_tuple_add_2 _ _)
  (tuple_addW0 a b _ _ n n2 dd dd2 sl sl2 rfl) ⟨ho,ho2,⟨.ref b,H,I,rfl,q⟩⟩
def addE:D→D→Option D
 | .tup [],.tup b=>some (.tup b)
 | a,b=>addA a b
theorem zo4 {K:PySem.W.Frag}:OpD K (fun x y H Q=>zpQ K x y H Q∨((∃i j,x=.int i∧y=.int j∧Q (.int (i + j)) H)∨(∃i j,x=.str i∧y=.str j∧i.length + j.length≤sizeLine∧Q (.str (i++j)) H)∨znX K x y H Q∨znW K x y H Q)) addE:=by
 intro G H v1 v2 d1 d2 d Q gk r1 r2 e q
 unfold addE at e
 split at e
 ·cases e
  rcases r1 with r1 | ⟨a',_,oo⟩
  ·rcases r2 with r2 | ⟨a',_,oo⟩
   ·obtain ⟨a,xs,rfl,s1,t1⟩:=r1.tup gk
    obtain ⟨b,ys,rfl,s2,t2⟩:=r2.tup gk
    cases t1
    exact .inl ⟨a,b,ys,rfl,rfl,s1,s2,q _ G H (Grow.refl gk) r2⟩
   ·cases oo.ob
  ·cases oo.ob
 ·exact .inr (zk9 G H v1 v2 d1 d2 d Q gk r1 r2 e q)
theorem zpF (ha:SB X g m a fa) (hb:SB X g m b fb):SE X g m (.BinOp a .Add b pos) (f2 fa fb addE):=zhG (OpR.or zok (OpR.or zmZ (OpR.or zfZ (OpR.or zki zkh)))) zo4 ha hb
end
end DL
end
section
namespace DL
open PySem PyProof.Rows L2
open PySem.AutoSeq1 (wpAny_loadPart')
section
variable {X:Cx}
end
end DL
end
section
namespace DL
open PySem PyProof.Rows PySem.W
section
variable {n:Nat} {c:Nat→Nat→Bool} (as:∀i j,c i j=true→c j i=false) (tr:∀i j k,c j i=false→c k j=false→c k i=false)
def Le (c:Nat→Nat→Bool) (i j:Nat):Prop:=c j i=false
def Eqv (c:Nat→Nat→Bool) (i j:Nat):Prop:=Le c i j∧Le c j i
include tr in
theorem Eqv.trans {i j k:Nat} (h1:Eqv c i j) (h2:Eqv c j k):Eqv c i k:=⟨tr _ _ _ h1.1 h2.1,tr _ _ _ h2.2 h1.2⟩
theorem Eqv.symm {i j:Nat} (h:Eqv c i j):Eqv c j i:=⟨h.2,h.1⟩
include as tr in
include tr in
include as tr in
include as tr in
include as tr in
include as tr in
include as tr in
include as tr in
include as tr in
include as tr in
include as tr in
end
end DL
end
section
namespace DL
section
variable {α:Type} {lt:α→α→Bool} {d:α}
end
end DL
end
section
namespace DL
open PySem PySem.Spec PyProof.Rows L2
section
variable {X:Cx} {pins:List (Addr × Obj)} {σ:L2.St} {H:Hp} {s:Shared}
end
section
variable {X:Cx} {g:GE} {m:List Md} {a:Expr} {fl:Rho→Res (List D)} {pos p:Pos} {k:Nat}
end
end DL
end
section
namespace DL
open PySem PySem.Spec PyProof.Rows L2
section
variable {X:Cx} {pins:List (Addr × Obj)} {σ:L2.St} {H:Hp} {s:Shared}
theorem zk8 (bs:List Bool):((List.range bs.length).any fun i=>bs.getD i true)=bs.any id:=by
 rw [Bool.eq_iff_iff,List.any_eq_true,List.any_eq_true]
 constructor
 ·rintro ⟨i,hi,h⟩
  have hi:=List.mem_range.mp hi
  exact ⟨bs[i],List.getElem_mem _,by simpa [List.getD_eq_getElem?_getD,hi] using h⟩
 ·rintro ⟨b,hb,h⟩
  obtain ⟨i,hi,rfl⟩:=List.getElem_of_mem hb
  exact ⟨i,List.mem_range.mpr hi,by simpa [List.getD_eq_getElem?_getD,hi] using h⟩
theorem ziT (hc:X.calm=true) (I:Inv X pins σ H s) {p:Addr} {bs:List Bool} (hq:SqL X.K H p (bs.map V.bl)) {A:Around} (hA:A.handled=none) {E:Value→Shared→Prop} {Q:Value→Shared→Prop}
  (h:∀I fp wr n P St tr it s₂,it=Value.ref I→Walks X.prog X.w A I fp wr n P St→St 0 s₂.heap→TruthOf X.prog X.w A P tr→n=bs.length→(∀i,tr i=bs.getD i true) →
   (∀(h':Heap) (tk:Nat),(∀(b:Addr) (o:Obj),¬b∈wr→s₂.heap.get? b=some o→h'.get? b=some o)→Inv X pins σ H { heap:=h',gens:=s₂.gens,drawn:=s₂.drawn,toks:=tk,os:=s₂.os })→Q it s₂) :
  wpAny (model X.prog X.w) A (pyIter (.ref p)) Q E s:=by
 obtain ⟨its,rv,pl,hz⟩:=I.list hq
 have hl:=rv.length
 rw [List.length_map] at hl
 refine PySem.Flt.iter_list_ pl.isList fun s₂ e2 hi hlt hne=>?_
 refine h s.heap.objs.size [s.heap.objs.size,p] [s.heap.objs.size] its.toArray.size _ _ (fun i=>bs.getD i true) _ s₂ rfl (Walks.list hA _ p hne its.toArray) hi ?_ (by rw [List.size_toArray,hl]) (fun i=>rfl) fun h' tk k=>?_
 ·intro i v s' Q' E' hv hq'
  have hv':its[i]? = some v:=by simpa using hv
  have hi:i < its.length:=(List.getElem?_eq_some_iff.mp hv').1
  have hki:i < (bs.map V.bl).length:=by rw [List.length_map]; omega
  obtain ⟨u,h1,h3⟩:=rv.get (i:=i) (x:=(bs.map V.bl)[i]) (List.getElem?_eq_getElem hki)
  rw [hv'] at h1
  cases h1
  rw [List.getElem_map] at h3
  have h3':v=Value.bool bs[i]:=h3
  subst h3'
  have e:bs.getD i true=bs[i]:=by
   have hb:i < bs.length:=by omega
   simp [List.getD_eq_getElem?_getD,hb]
  have hq2:Q' (bs.getD i true) s':=hq'
  rw [e] at hq2
  exact wpAny_pure hq2
 ·subst e2
  have ne:∀b o,s.heap.get? b=some o→¬ b∈[s.heap.objs.size]:=fun b o e z=>by
   have:=List.mem_singleton.mp z
   subst this
   exact absurd (Heap.lt_size e) (Nat.lt_irrefl _)
  exact Inv.keptN I (fun b o _ e=>k b o (ne b o e) (Heap.get?_push_of_some _ e)) (fun m ⟨o,es,ep,e,z⟩=>⟨o,es,ep,k _ _ (ne _ _ e) (Heap.get?_push_of_some _ e),z⟩) tk
theorem zmD (hc:X.calm=true):zc2 X (.builtin "any") (fun xs H Q=>∃(p:Addr) (bs:List Bool),xs=[.ref p]∧SqL X.K H p (bs.map V.bl)∧Q (.bl (bs.any id)) H):=by
 intro pins s σ H xs us Q I r h
 obtain ⟨p,bs,rfl,hq,q⟩:=h
 obtain ⟨u,rfl,rx⟩:=ze1 r
 cases rx
 refine call_any_walk (ziT hc I hq (show X.A.in1.handled=none from I.ok.hd hc) fun J fp wr n P St tr it s₂ e1 e2 e3 e4 e5 e6 e7=>⟨J,fp,wr,n,P,St,tr,e1,e2,e3,e4,fun h' tk k=>?_⟩)
 have et:tr=fun i=>bs.getD i true:=funext e6
 rw [e5,et,zk8]
 exact ⟨.bl (bs.any id),H,e7 h' tk k,rfl,q⟩
end
def zgB:List D→Option (List Bool)
 | []=>some []
 | .bl b::ds=>(zgB ds).map (b::·)
 | _=>none
theorem zo0 {K:PySem.W.Frag} {G:GH} {H:Hp} (gk:GOk K G H) {ds:List D} {xs:List V} {bs:List Bool} (h:RGs K G xs ds) (e:zgB ds=some bs):xs=bs.map V.bl:=by
 induction h generalizing bs with
 | nil=>cases e; rfl
 | @cons x d xs ds r t ih=>
  cases d with
  | bl b=>
   have e':(zgB ds).map (b::·)=some bs:=e
   cases e1:zgB ds with
   | none=>rw [e1] at e'; cases e'
   | some bs'=>
    rw [e1] at e'; cases e'
    rw [ih e1,List.map_cons,(RG.rb (H:=H) r).bl gk]
  | _=>cases e
def anyD:List D→Option D
 | [.lst ds]=>(zgB ds).map fun bs=>.bl (bs.any id)
 | _=>none
theorem zrk {K:PySem.W.Frag}:zle K (fun xs H Q=>∃(p:Addr) (bs:List Bool),xs=[.ref p]∧SqL K H p (bs.map V.bl)∧Q (.bl (bs.any id)) H) anyD:=by
 intro G H vs ds d Q gk rs e q
 unfold anyD at e
 split at e
 ·rename_i zs
  cases ek:zgB zs with
  | none=>rw [ek] at e; cases e
  | some bs=>
   rw [ek] at e; cases e
   cases rs with
   | cons r1 t=>
    cases t
    obtain ⟨b,xs,rfl,s,r⟩:=r1.lst gk
    have ex:=zo0 gk r ek
    subst ex
    exact ⟨b,bs,rfl,s,q _ G H (Grow.refl gk) (.scl (.bl _))⟩
 ·cases e
section
variable {X:Cx} {g:GE} {m:List Md} {e:Expr} {es:List Expr} {fl:Rho→Res (List D)} {pos p:Pos}
theorem zlz (hc:X.calm=true) (hg:Gl X "any") (hm:X.mg "any" = none) (ha:SAB X g m (e::es) fl) (he:starEach (e::es) X.env=(false,eval e X.env)::starEach es X.env:=by rfl) (hpl:(backTo pos (starEach es X.env)).any (·.1)=false:=by rfl) :
  SE X g m (.Call (.Name "any" p) (e::es) [] pos) (fC fl anyD):=s_cb zrk (zdp (zmD hc) hg hm PyProof.Rows.boot_any ha (by decide) (by decide) he hpl)
end
end DL
end
section
namespace DL
open PySem PySem.Spec PyProof.Rows L2
def minZ (ks:List Int):Int:=ks.getD (argBest (fun i j=>decide (ks.getD i 0 < ks.getD j 0)) (ks.length - 1)) 0
theorem zeu (f:Nat→Int):∀k,argBest (fun i j=>decide (f i < f j)) k≤k∧∀i,i≤k→f (argBest (fun i j=>decide (f i < f j)) k)≤f i
 | 0=>⟨Nat.le_refl _,fun i hi=>by
   have:i=0:=by omega
   subst this
   exact Int.le_refl _⟩
 | k + 1=>by
  obtain ⟨h1,h2⟩:=zeu f k
  rw [argBest.eq_2]
  by_cases h:f (k + 1) < f (argBest (fun i j=>decide (f i < f j)) k)
  ·rw [if_pos (by simpa using h)]
   refine ⟨Nat.le_refl _,fun i hi=>?_⟩
   by_cases z:i=k + 1
   ·subst z; exact Int.le_refl _
   ·have:=h2 i (by omega); omega
  ·rw [if_neg (by simpa using h)]
   refine ⟨by omega,fun i hi=>?_⟩
   by_cases z:i=k + 1
   ·subst z; omega
   ·exact h2 i (by omega)
theorem zl7 {ks:List Int} (h:ks≠[]):minZ ks∈ks:=by
 have hp:=List.length_pos_iff.mpr h
 have h1:=(zeu (fun i=>ks.getD i 0) (ks.length - 1)).1
 unfold minZ
 have hlt:argBest (fun i j=>decide (ks.getD i 0 < ks.getD j 0)) (ks.length - 1) < ks.length:=by omega
 rw [List.getD_eq_getElem?_getD,List.getElem?_eq_getElem hlt]
 exact List.getElem_mem _
theorem zot {ks:List Int} {x:Int} (h:x∈ks):minZ ks≤x:=by
 obtain ⟨i,hi,rfl⟩:=List.getElem_of_mem h
 have:=(zeu (fun i=>ks.getD i 0) (ks.length - 1)).2 i (by omega)
 have e:ks.getD i 0=ks[i]:=by simp [List.getD_eq_getElem?_getD,hi]
 simp only [e] at this
 exact this
section
variable {X:Cx} {pins:List (Addr × Obj)} {σ:L2.St} {H:Hp} {s:Shared}
theorem zk1 (hc:X.calm=true):zc2 X (.builtin "min") (fun xs H Q=>∃(p:Addr) (ks:List Int),xs=[.ref p]∧SqL X.K H p (ks.map V.int)∧ks≠[]∧Q (.int (minZ ks)) H):=by
 intro pins s σ H xs us Q I r h
 obtain ⟨p,ks,rfl,hq,hne,q⟩:=h
 obtain ⟨u,rfl,rx⟩:=ze1 r
 cases rx
 obtain ⟨its,rv,pl,hz⟩:=I.list hq
 have hl:=rv.length
 rw [List.length_map] at hl
 have hA:X.A.in1.handled=none:=I.ok.hd hc
 have hp:=List.length_pos_iff.mpr hne
 have gi:∀i v,its[i]? = some v→∃t,v=Value.int (ks.getD i 0) t:=fun i v hv=>by
  have hi:i < its.length:=(List.getElem?_eq_some_iff.mp hv).1
  have hki:i < (ks.map V.int).length:=by rw [List.length_map]; omega
  obtain ⟨u,h1,h3⟩:=rv.get (i:=i) (x:=(ks.map V.int)[i]) (List.getElem?_eq_getElem hki)
  rw [hv] at h1
  cases h1
  rw [List.getElem_map] at h3
  have hki':i < ks.length:=by omega
  rw [List.getD_eq_getElem?_getD,List.getElem?_eq_getElem hki']
  exact h3
 refine call_min_walkS (PySem.Flt.iter_list_ pl.isList fun s₂ e2 hi hlt hn2=>?_)
 refine ⟨s.heap.objs.size,[s.heap.objs.size,p],[s.heap.objs.size],_,its.toArray.size,_,_,fun i j=>decide (ks.getD i 0 < ks.getD j 0),rfl,(Walks.list hA _ p hn2 its.toArray).toS,hi,hlt,by rw [List.size_toArray]; omega,?_,fun v s' hv M=>?_⟩
 ·intro i j vi vj s' Q' E' h1 h2 hq'
  obtain ⟨t1,rfl⟩:=gi i vi (by simpa using h1)
  obtain ⟨t2,rfl⟩:=gi j vj (by simpa using h2)
  exact HT.rcLt_int _ s' _ t1 _ t2 X.prog X.w E' Q' hq'
 ·have hsz:its.toArray.size - 1=ks.length - 1:=by rw [List.size_toArray]; omega
  rw [hsz] at hv
  obtain ⟨t,rfl⟩:=gi _ v (by simpa using hv)
  subst e2
  have ne:∀b o,s.heap.get? b=some o→¬ b∈[s.heap.objs.size]:=fun b o e z=>by
   have:=List.mem_singleton.mp z
   subst this
   exact absurd (Heap.lt_size e) (Nat.lt_irrefl _)
  obtain ⟨h',g',d',tk,os'⟩:=s'
  have e1:g'=s.gens:=M.gens
  have e3:d'=s.drawn:=M.drawn
  have e4:os'=s.os:=M.os
  subst e1 e3 e4
  exact ⟨.int (minZ ks),H,Inv.keptN I (fun b o _ e=>M.heap b o (ne b o e) (Heap.get?_push_of_some _ e)) (fun m ⟨o,es,ep,e,z⟩=>⟨o,es,ep,M.heap _ _ (ne _ _ e) (Heap.get?_push_of_some _ e),z⟩) tk,⟨_,rfl⟩,q⟩
end
def zhS:List D→Option D
 | [.lst (d::ds)]=>(zdH (d::ds)).map fun ks=>.int (minZ ks)
 | _=>none
theorem zou {K:PySem.W.Frag}:zle K (fun xs H Q=>∃(p:Addr) (ks:List Int),xs=[.ref p]∧SqL K H p (ks.map V.int)∧ks≠[]∧Q (.int (minZ ks)) H) zhS:=by
 intro G H vs ds d Q gk rs e q
 unfold zhS at e
 split at e
 ·rename_i z zs
  cases ek:zdH (z::zs) with
  | none=>rw [ek] at e; cases e
  | some ks=>
   rw [ek] at e; cases e
   cases rs with
   | cons r1 t=>
    cases t
    obtain ⟨b,xs,rfl,s,r⟩:=r1.lst gk
    have hl:=Paired.length r
    have ex:=ziP gk r ek
    subst ex
    refine ⟨b,ks,rfl,s,?_,q _ G H (Grow.refl gk) (.scl (.int _))⟩
    rintro rfl
    simp at hl
 ·cases e
section
variable {X:Cx} {g:GE} {m:List Md} {e:Expr} {es:List Expr} {fl:Rho→Res (List D)} {pos p:Pos}
theorem zpy (hc:X.calm=true) (hg:Gl X "min") (hm:X.mg "min" = none) (ha:SAB X g m (e::es) fl) (he:starEach (e::es) X.env=(false,eval e X.env)::starEach es X.env:=by rfl) (hpl:(backTo pos (starEach es X.env)).any (·.1)=false:=by rfl) :
  SE X g m (.Call (.Name "min" p) (e::es) [] pos) (fC fl zhS):=s_cb zou (zdp (zk1 hc) hg hm PyProof.Rows.boot_min ha (by decide) (by decide) he hpl)
end
end DL
end
section
namespace DL
open PySem PySem.Spec PyProof.Rows L2
def zhy (h0 H:Hp):Prop:=∀a o,h0 a=some o→H a=some o
structure YieldsB (K:PySem.W.Frag) (h0:Hp) (J:It) (ds:List D) (G0:GH):Prop where
 go:∀G H (i:Nat),Gle G0 G→GOk K G H→zhy h0 H→i < ds.length→J.go i H
 yld:∀G H (i:Nat) x H' d,Gle G0 G→GOk K G H→zhy h0 H→J.yld i H x H'→ds[i]? = some d→∃G',Grow K G H G' H'∧RG K G' x d
 stop:∀G H,Gle G0 G→GOk K G H→zhy h0 H→J.stop ds.length H
theorem Yields.toH {K:PySem.W.Frag} {h0:Hp} {J:It} {ds:List D} {G0:GH} (y:Yields K J ds G0):YieldsB K h0 J ds G0:=
 ⟨fun G H i w gk _ hi=>y.go G H i w gk hi,fun G H i x H' d w gk _ q e=>y.yld G H i x H' d w gk q e,fun G H w gk _=>y.stop G H w gk⟩
def tIB (X:Cx) (g:GE) (m:List Md) (f:FI):TI:=fun σ H R=>∃r G,SI X g m r G σ H∧fin (f r) (fun ds=>∀J G' H',Grow X.K G H G' H'→YieldsB X.K g.h0 J ds G'→R J H') (XW X σ G H)
def SItB (X:Cx) (g:GE) (m:List Md) (tg iter:Expr) (f:FI):Prop:=PI X tg iter (tIB X g m f)
def tBw (X:Cx) (g:GE) (m:List Md) (f:FE):TE:=fun σ H Q=>∃r G,SI X g m r G σ H∧fin (f r) (fun d=>∀v G' H',Grow X.K G H G' H'→Bw X.K g.h0 G' H' v d→Q v H') (XW X σ G H)
def SBw (X:Cx) (g:GE) (m:List Md) (e:Expr) (f:FE):Prop:=PE X e (tBw X g m f)
section
variable {X:Cx} {g:GE} {m m' mb:List Md} {tg e a iter:Expr} {f:FE} {pos p pos2:Pos} {ro:Bool} {sts:List Stmt} {s1:FS} {elts:List Expr} {kk:Nat}
theorem vw_ (i:Nat) {x:Str} (hm:m[i]? = some .bw:=by rfl) (hN:X.N[i]? = some x:=by rfl) (hv:Vis X.env.scope x:=by first | exact Or.inl rfl | exact Or.inr (Or.inl rfl) | exact Or.inr (Or.inr rfl)) (hd:(x == ("__debug__" : Str))=false:=by decide) (hcd:(x == ("__classdict__" : Str))=false:=by decide) :
  SBw X g m (.Name x pos) fun r=>getV r i:=by
 refine PE.imp (zd5 hN hv hd hcd) fun σ H Q ⟨r,G,si,q⟩=>?_
 obtain ⟨d,e,k⟩:=zgv q
 obtain ⟨v,e1,e2⟩:=si.bw i d e hm
 exact ⟨v,e1,k _ G H (Grow.refl si.gok) e2⟩
theorem zkb {K:PySem.W.Frag} {h0:Hp} {G0 G:GH} {H0 H:Hp} {a:Addr} {ds:List D} (o:Own K G0 H0 a (.lst ds)) (h:h0 a≠none) (o0:zhy h0 H0) (le:Gle G0 G) (o1:zhy h0 H):∃xs,SqL K H a xs∧RGs K G xs ds:=by
 cases e:h0 a with
 | none=>exact absurd e h
 | some u=>
  have h1:=o0 a u e
  have h2:=o1 a u e
  cases o.ob with
  | lst r s=>
   rw [h1] at r
   cases r
   exact ⟨_,SqL.of h2,RGs.mono s le⟩
theorem zpc {K:PySem.W.Frag} {h0:Hp} {ds:List D} {G0:GH} {a:Addr} (h:∀G H,Gle G0 G→GOk K G H→zhy h0 H→∃xs,SqL K H a xs∧RGs K G xs ds):YieldsB K h0 (Itl K a) ds G0:=by
 refine ⟨fun G H i w gk o hi=>?_,fun G H i x H' d w gk o y e=>?_,fun G H w gk o=>?_⟩
 ·obtain ⟨xs,s,r⟩:=h G H w gk o
  have hl:=Paired.length r
  exact ⟨xs,xs[i],s,List.getElem?_eq_getElem (by omega)⟩
 ·obtain ⟨xs,s,r⟩:=h G H w gk o
  obtain ⟨rfl,y⟩:=y
  obtain ⟨v,e1,rv⟩:=Paired.get r e
  have:=y xs s
  rw [e1] at this; cases this
  exact ⟨G,Grow.refl gk,rv⟩
 ·obtain ⟨xs,s,r⟩:=h G H w gk o
  exact ⟨xs,s,Nat.le_of_eq (Paired.length r)⟩
theorem SI.oldIn {r:Rho} {G:GH} {st:L2.St} {H:Hp} (s:SI X g m r G st H):zhy g.h0 H:=s.old
theorem znc (h:SBw X g m e f):SItB X g m tg e (fSeq zbC f):=by
 refine PI.imp (zj5 h) fun σ H R ⟨r,G,si,q⟩=>⟨r,G,si,zaf (zah q) fun d q v G' H' w rv=>?_⟩
 obtain ⟨ds,e,q⟩:=zaD q
 cases d with
 | lst ds'=>
  cases e
  rcases rv with rv | ⟨a,rfl,o,ho⟩
  ·obtain ⟨a,xs,rfl,s,rs⟩:=rv.lst w.ok
   exact .inl ⟨a,rfl,⟨xs,s⟩,q _ G' H' w (zhz rv).toH⟩
  ·cases o.ob with
   | lst r s=>exact .inl ⟨a,rfl,⟨_,SqL.of r⟩,q _ G' H' w (zpc fun G2 H2 le _ o2=>zkb o ho (si.grow w).oldIn le o2)⟩
 | tup ds'=>
  cases e
  rcases rv with rv | ⟨a,rfl,o,ho⟩
  ·obtain ⟨a,xs,rfl,s,rs⟩:=rv.tup w.ok
   exact .inr ⟨a,rfl,⟨xs,s⟩,q _ G' H' w (zjy rv).toH⟩
  ·cases o.ob
 | _=>cases e
theorem zhA {K:PySem.W.Frag} {h0:Hp} {ds:List D} {G0:GH} {sq:Hp→List V→Prop} (h:∀G H,Gle G0 G→GOk K G H→zhy h0 H→∃xs,sq H xs∧RGs K G xs ds):YieldsB K h0 (Ien sq) (enuD 0 ds) G0:=by
 refine ⟨fun G H i w gk o hi=>?_,fun G H i x H' d w gk o y e=>?_,fun G H w gk o=>?_⟩
 ·obtain ⟨xs,s,r⟩:=h G H w gk o
  rw [zeb] at hi
  have hl:=Paired.length r
  exact ⟨xs,xs[i],s,List.getElem?_eq_getElem (by omega)⟩
 ·obtain ⟨xs,s,r⟩:=h G H w gk o
  obtain ⟨p,v,hp,rfl,rfl,hv⟩:=y
  rw [zgw] at e
  cases ed:ds[i]? with
  | none=>rw [ed] at e; cases e
  | some d0=>
   rw [ed] at e
   simp only [Option.map_some,Option.some.injEq,Nat.zero_add] at e
   subst e
   obtain ⟨v',e1,rv⟩:=Paired.get r ed
   have:=hv xs s
   rw [e1] at this; cases this
   exact ⟨_,Grow.newF gk hp (.tup (.inl zak) (.cons (.scl (.int _)) (.cons rv .nil))),.ref zax⟩
 ·obtain ⟨xs,s,r⟩:=h G H w gk o
  rw [zeb]
  exact ⟨xs,s,Paired.length r⟩
theorem zoF (hg:Gl X "enumerate") (hm:X.mg "enumerate" = none) (he:SBw X g m e f) (hs:starEach [e] X.env=(false,eval e X.env)::starEach [] X.env:=by rfl):SItB X g m (.Tuple elts kk pos2) (.Call (.Name "enumerate" p) [e] [] pos) (fEnu f):=by
 refine PI.imp (zj7 hg hm he hs) fun σ H R ⟨r,G,si,q⟩=>⟨r,G,si,zaf (zah q) fun d q v G' H' w rv=>?_⟩
 obtain ⟨ds,e,q⟩:=zaD (zah q)
 cases d with
 | lst ds'=>
  cases e
  rcases rv with rv | ⟨a,rfl,o,ho⟩
  ·obtain ⟨a,xs,rfl,s,rs⟩:=rv.lst w.ok
   refine .inl ⟨a,rfl,⟨xs,s⟩,q _ G' H' w (zhA fun G H le gk _=>?_)⟩
   obtain ⟨b,ys,e,s',r'⟩:=(rv.mono le).lst gk
   cases e
   exact ⟨ys,s',r'⟩
  ·cases o.ob with
   | lst r s=>exact .inl ⟨a,rfl,⟨_,SqL.of r⟩,q _ G' H' w (zhA fun G2 H2 le _ o2=>zkb o ho (si.grow w).oldIn le o2)⟩
 | tup ds'=>
  cases e
  rcases rv with rv | ⟨a,rfl,o,ho⟩
  ·obtain ⟨a,xs,rfl,s,rs⟩:=rv.tup w.ok
   refine .inr ⟨a,rfl,⟨xs,s⟩,q _ G' H' w (zhA fun G H le gk _=>?_)⟩
   obtain ⟨b,ys,e,s',r'⟩:=(rv.mono le).tup gk
   cases e
   exact ⟨ys,s',r'⟩
  ·cases o.ob
 | _=>cases e
theorem zjL (hp:PassesOwn (model X.prog X.w) X.A X.env X.xe) (hc:X.calm=true) {ft:FT} {fi:FI} (hi:SItB X g m tg iter fi) (hg:SG X g m tg ft m) (hb:SSs X g ro m m sts s1 m)
  (hs:∀x,foldedSetIterable iter X.env x=pure x:=by intro _; rfl):SS X g ro mb m (.For tg iter sts [] pos) (zdy m fi ft s1) m:=by
 refine ⟨rfl,PS.imp (zj2 hp hc hi hg.2 hb.2 hs) fun D σ H ⟨r,G,si,q⟩=>⟨r,G,si,zaf (zbo si rfl q) fun ds q J G0 H0 w0 Y=>?_⟩⟩
 refine ⟨fun i n σ H=>∃r G,SI X g m r G σ H∧Gle G0 G∧i≤ds.length∧n=ds.length - i∧oTo X g ro m mb G D (forF ft s1 (ds.drop i) r),⟨ds.length,r,G0,si.grow w0,Gle.refl G0,Nat.zero_le _,rfl,oTo.gle q w0.ge⟩,?_⟩
 rintro i n σ1 H1 ⟨r1,G1,si1,le1,hi,rfl,q1⟩
 by_cases hlt:i < ds.length
 ·have hd:ds.drop i=ds[i]::ds.drop (i + 1):=List.drop_eq_getElem_cons hlt
  rw [hd] at q1
  unfold forF at q1
  refine .inr ⟨Y.go G1 H1 i le1 si1.gok si1.oldIn hlt,fun σ' H'=>∃r G,SI X g m r G σ' H'∧Gle G0 G∧oTo X g ro m mb G D (forF ft s1 (ds.drop (i + 1)) r),fun σ' H' ⟨r',G',si',le',q'⟩=>⟨ds.length - (i + 1),by omega,r',G',si',le',hlt,rfl,q'⟩,fun x H' y=>?_⟩
  obtain ⟨G',w',rv⟩:=Y.yld G1 H1 i x H' ds[i] le1 si1.gok si1.oldIn y (List.getElem?_eq_getElem hlt)
  have le':Gle G0 G':=le1.trans w'.ge
  cases eft:ft ds[i] r1 with
  | none=>simp only [eft] at q1; exact q1.elim
  | some r2=>
   simp only [eft] at q1
   refine ⟨r1,G',ds[i],si1.grow w',rv,r2,eft,fun σ2 si2=>⟨r2,G',si2,?_⟩⟩
   cases eb:s1 r2 with
   | nx r'=>simp only [eb] at q1; exact fun σ3 G3 H3 le3 si3=>⟨r',G3,si3,le'.trans le3,oTo.gle q1 (Gle.trans w'.ge le3)⟩
   | ct r'=>simp only [eb] at q1; exact fun σ3 G3 H3 le3 si3=>⟨r',G3,si3,le'.trans le3,oTo.gle q1 (Gle.trans w'.ge le3)⟩
   | bk r'=>simp only [eb] at q1; exact fun σ3 G3 H3 le3 si3=>q1 σ3 G3 H3 (Gle.trans w'.ge le3) si3
   | rt d=>simp only [eb] at q1; exact q1
   | exc x r'=>simp only [eb] at q1; exact fun pins e s' σ3 G3 H3 le3=>q1 pins e s' σ3 G3 H3 (Gle.trans w'.ge le3)
   | stuck=>simp only [eb] at q1; exact q1
 ·have e:i=ds.length:=by omega
  subst e
  rw [List.drop_length] at q1
  exact .inl ⟨Y.stop G1 H1 le1 si1.gok si1.oldIn,q1 σ1 G1 H1 (Gle.refl _) si1⟩
end
end DL
end
section
namespace DL
open PySem PySem.Spec PyProof.Rows L2
open HT (sIx)
section
variable {prog:Program} {w:World} {A:Around} {E:Value→Shared→Prop} {s:Shared}
theorem zgu {t sl:Addr} {items:Array Value} {vl vu:Value} {lo hi:Option Int} {Q:Value→Shared→Prop} (ht:IsTup s.heap t items) (hs:s.heap.IsSliceOf sl vl vu .none) (pl:IsPart vl lo) (pu:IsPart vu hi)
  (hw:sIx items.size 0 lo=0∧sIx items.size items.size hi=items.size) (h:Q (.ref t) s):wpAny (model prog w) A (getItem (.ref t) (.ref sl)) Q E s:=by
 obtain ⟨os,hos,hcs,hds⟩:=id hs
 have hTs:s.TypeIs (.ref sl) "slice" := ⟨os,hos,hcs⟩
 unfold getItem
 try with_reducible refine wpAny_holding ?_
 first | refine wpAny_bind (wpAny_pure ?_) | skip
 refine wpAny_bind (wpAny_sequenceKey ht.typeIs (by decide) (wpAny_bind (wpAny_callSpecial?_slot (name:=Str.ofString "__getitem__") ht.typeIs PyProof.Rows.slot_tuple_getitem (wpAny_call_entry PyProof.Rows.slot_tuple_getitem ht.typeIs PyProof.Rows.entry_tuple_getitem ?_ (PyProof.Rows.args_tuple_getitem _ _)))))
 show wpAny _ _ (Builtin.Tuple.tupleItemsOf (.ref t) >>= _) _ _ s
 refine wpAny_bind (PyProof.Rows.tupleItemsOf_ ht (wpAny_bind (wpAny_typeOf hTs ?_)))
 rw [if_pos (by decide)]
 refine wpAny_bind (HT.sliceApplied_gen hs pl pu ?_)
 rw [hw.1,hw.2]
 show wpAny _ _ (if (((0:Nat):Int) == 0 && (1:Int) == 1 && (items.size - 0) == items.size)=true then _ else _) _ _ s
 rw [if_pos (by simp)]
 show wpAny _ _ (Builtin.Tuple.tupleIsExact (.ref t) >>= _) _ _ s
 unfold Builtin.Tuple.tupleIsExact
 refine wpAny_bind (wpAny_bind (wpAny_typeOf ht.typeIs (wpAny_pure ?_)))
 rw [if_pos (by decide)]
 refine wpAny_bind (wpAny_rule ?_)
 show wpAny _ _ (ret (.ref t)) _ _ s
 exact wpAny_pure ⟨_,rfl,wpAny_pure h⟩
end
def rSlW (K:PySem.W.Frag):V→Option Int→Option Int→Hp→VK→Prop:=fun x lo hi H Q=>∃a xs,x=.ref a∧SqT K H a xs∧(sIx xs.length 0 lo=0∧sIx xs.length xs.length hi=xs.length)∧Q (.ref a) H
theorem zlq {X:Cx}:SlR X (rSlW X.K):=by
 intro pins s σ H x v vl vu lo hi sl Q I rx hs pl pu h
 obtain ⟨a,xs,rfl,hx,hw,q⟩:=h
 cases rx
 obtain ⟨its,r,ht,hz⟩:=I.tuple hx
 have hlen:its.toArray.size=xs.length:=by rw [List.size_toArray]; exact r.length.symm
 exact ⟨"tuple",_,PyProof.Rows.slot_tuple_getitem.lookup,ht.typeIs,zgu ht hs pl pu (by rw [hlen]; exact hw) ⟨.ref a,H,I,rfl,q⟩⟩
def slA (d:D) (lo hi:Option Int):Option D:=match d with
 | .tup ds=>some (.tup (cutL ds lo hi))
 | .lst ds=>some (.lst (cutL ds lo hi))
 | _=>none
def fSlA (fa:FE) (fl fh:FP):FE:=fun r=>(fa r).bind fun d=>(fl r).bind fun lo=>(fh r).bind fun hi=>opt (slA d lo hi)
section
variable {X:Cx} {g:GE} {m:List Md} {e:Expr} {f fa:FE} {pos p2:Pos}
theorem znB {R:V→Option Int→Option Int→Hp→Prop} {fl fh:FP} {r:Rho} {G:GH} {σ:L2.St} {H:Hp} {q:D→Prop} (si:SI X g m r G σ H) (h:fin (fSlA fa fl fh r) q (XW X σ G H))
  (hk:∀d lo hi v G2 H2 d',Grow X.K G H G2 H2→RB X.K G2 H2 v d→slA d lo hi=some d'→q d'→R v lo hi H2) :
  tB X g m fa σ H fun x H1=>tP X g m fl σ H1 fun l H2=>tP X g m fh σ H2 fun u H3=>R x l u H3:=by
 refine ⟨r,G,si,zaf (zah h) fun d h1 v G1 H1 w1 r1=>⟨r,G1,si.grow w1,za0 (zah h1) w1 fun lo h2 G2 H2 w2=>⟨r,G2,(si.grow w1).grow w2,?_⟩⟩⟩
 refine za0 (zah h2) (w1.trans w2) fun hi h3 G3 H3 w3=>?_
 obtain ⟨d',e,h4⟩:=zaD h3
 exact hk d lo hi v G3 H3 d' ((w1.trans w2).trans w3) ((r1.mono w2).mono w3) e h4
theorem zkV {α:Type} {ds:List α} {lo hi:Option Int} (h:sIx ds.length 0 lo=0∧sIx ds.length ds.length hi=ds.length):cutL ds lo hi=ds:=by
 unfold cutL
 rw [h.1,h.2]; simp
theorem zls {lo hi:Option Expr} {fl fh:FP} (he:SB X g m e f) (hl:SP1 X g m lo fl) (hu:SP1 X g m hi fh):SE X g m (.Subscript e (.Slice lo hi none p2) pos) (fSlA f fl fh):=by
 refine PE.imp (zlW (SlR.or zlq (SlR.or znz zpr)) he hl hu) fun σ H Q ⟨r,G,si,q⟩=>?_
 refine znB si q fun d lo hi v G2 H2 d' w r1 e q2=>?_
 cases d with
 | tup ds=>
  cases e
  rcases r1 with r1 | ⟨a',_,oo⟩
  ·obtain ⟨a,xs,rfl,s,r⟩:=r1.tup w.ok
   by_cases hw:sIx ds.length 0 lo=0∧sIx ds.length ds.length hi=ds.length
   ·refine .inl ⟨a,xs,rfl,s,by rw [Paired.length r]; exact hw,?_⟩
    rw [zkV hw] at q2
    exact q2 _ G2 H2 w r1
   ·rw [←Paired.length r] at hw
    refine .inr (.inr ⟨a,xs,rfl,s,hw,fun p hp=>?_⟩)
    exact q2 _ _ _ (w.trans (Grow.newF w.ok hp (.tup (.inl zak) (zrh r lo hi)))) (.ref zax)
  ·cases oo.ob
 | lst ds=>
  cases e
  obtain ⟨a,xs,rfl,s,r⟩:=r1.lst w.ok
  exact .inr (.inl ⟨a,xs,rfl,s,fun p hp=>q2 _ _ _ (w.trans (Grow.newF w.ok hp (.lst (.inl zak) (zrh r lo hi)))) (.ref zax)⟩)
 | _=>cases e
end
end DL
end
section
namespace DL
open PySem PySem.Spec PyProof.Rows L2
def zft (g:GE) (H:Hp) (fp:List Addr) (i:Nat) (p:Addr):GE:=
 ⟨g.gh,fun b=>if b∈fp then H b else g.h0 b,fun j=>if j=i then some (some (V.ref p),none) else g.hd j⟩
def RowR (K:PySem.W.Frag) (G:GH) (H:Hp) (b:Addr) (ds:List D):Prop:=∃xs,H b=some (.lst xs)∧RGs K G xs ds
structure LRw (K:PySem.W.Frag) (G:GH) (H:Hp) (p:Addr) (as:List Addr) (w:List (List D)):Prop where
 out:H p=some (.lst (as.map V.ref))
 nd:(p::as).Nodup
 un:∀b∈p::as,G b=none
 rw:Paired (RowR K G H) as w
theorem RowR.mono {K:PySem.W.Frag} {G G':GH} {H H':Hp} {b:Addr} {ds:List D} (h:RowR K G H b ds) (ge:Gle G G') (he:H' b=H b):RowR K G' H' b ds:=by
 obtain ⟨xs,h1,h2⟩:=h
 exact ⟨xs,by rw [he]; exact h1,h2.mono ge⟩
theorem zio {α β:Type} {F F':α→β→Prop} {l:List α} {r:List β} (h:Paired F l r) (f:∀a∈l,∀b,F a b→F' a b):Paired F' l r:=by
 induction h with
 | nil=>exact .nil
 | cons h _ ih=>exact .cons (f _ List.mem_cons_self _ h) (ih fun a ha=>f a (List.mem_cons_of_mem _ ha))
theorem LRw.isS {K:PySem.W.Frag} {G:GH} {H:Hp} {p:Addr} {as:List Addr} {w:List (List D)} (h:LRw K G H p as w) {b:Addr} (hb:b∈p::as):H b≠none:=by
 rcases List.mem_cons.mp hb with rfl | hb
 ·rw [h.out]; simp
 ·have:∀{as:List Addr} {w:List (List D)},Paired (RowR K G H) as w→b∈as→H b≠none:=fun {as w} q hb=>by
   induction q with
   | nil=>cases hb
   | cons r _ ih=>
    rcases List.mem_cons.mp hb with rfl | hb
    ·obtain ⟨xs,e,_⟩:=r; rw [e]; simp
    ·exact ih hb
  exact this h.rw hb
theorem LRw.mono {K:PySem.W.Frag} {G G':GH} {H H':Hp} {p:Addr} {as:List Addr} {w:List (List D)} (h:LRw K G H p as w) (ge:Gle G G') (he:∀b∈p::as,H' b=H b) (un:∀b∈p::as,G' b=none):LRw K G' H' p as w:=
 ⟨by rw [he p List.mem_cons_self]; exact h.out,h.nd,un,zio h.rw fun b hb ds r=>r.mono ge (he b (List.mem_cons_of_mem _ hb))⟩
def SI2 (X:Cx) (g:GE) (i:Nat) (m:List Md) (r:Rho) (w:List (List D)) (G:GH) (st:L2.St) (H:Hp):Prop:=
 ∃p as,LRw X.K G H p as w∧(∀b∈p::as,g.h0 b=none)∧SI X (zft g H (p::as) i p) m r G st H∧m[i]? = some .bw
section
variable {X:Cx} {g:GE} {i:Nat} {m m' m1:List Md} {r r':Rho} {w:List (List D)} {G G':GH} {σ σ':L2.St} {H H':Hp}
abbrev FS2:=Rho→List (List D)→Option (Rho × List (List D))
variable {st:Stmt} {sts:List Stmt} {ro:Bool} {mb:List Md} {s1:FS} {f1 f2:FS2} {tg iter:Expr} {pos:Pos}
theorem zoJ {K:PySem.W.Frag} {H:Hp}:∀{as:List Addr} {w:List (List D)} {G:GH},GOk K G H→Paired (RowR K G H) as w→as.Nodup→(∀b∈as,G b=none)→∃G',Gle G G'∧(∀b,b∉as→G' b=G b)∧GOk K G' H∧Paired (fun b ds=>G' b=some (.lst ds)) as w:=by
 intro as
 induction as with
 | nil=>
  intro w G gk h _ _
  cases h
  exact ⟨G,Gle.refl G,fun _ _=>rfl,gk,.nil⟩
 | cons b as ih=>
  intro w G gk h nd un
  cases h with
  | @cons _ ds _ w r t=>
   rw [List.nodup_cons] at nd
   have hb:=un b List.mem_cons_self
   obtain ⟨xs,e,rs⟩:=r
   have g1:GOk K (gset G b (.lst ds)) H:=gk.gset hb (.lst (.inl e) rs)
   obtain ⟨G',l,o,g,q⟩:=ih g1 (zio t fun c hc ds r=>r.mono (zbc hb) rfl) nd.2 fun c hc=>by
    rw [za4 (by rintro rfl; exact nd.1 hc)]; exact un c (List.mem_cons_of_mem _ hc)
   refine ⟨G',Gle.trans (zbc hb) l,fun c hc=>?_,g,.cons (l _ _ zax) q⟩
   rw [o c fun z=>hc (List.mem_cons_of_mem _ z),za4 (by rintro rfl; exact hc List.mem_cons_self)]
theorem zj9 {G:GH} {as:List Addr} {w:List (List D)} {b:Addr} (hb:b∈as) (q:Paired (fun b ds=>G b=some (.lst ds)) as w):∃ds,G b=some (.lst ds):=by
 induction q with
 | nil=>cases hb
 | cons h _ ih=>
  rcases List.mem_cons.mp hb with rfl | hb
  ·exact ⟨_,h⟩
  ·exact ih hb
theorem ziC {fp:List Addr} {p:Addr} {d0:D} (si:SI X (zft g H fp i p) m r G σ H) (hm:m[i]? = some .bw) (h0:∀b∈fp,g.h0 b=none) (hS:∀b∈fp,H b≠none) (hb:∀j,j≠i→m[j]?≠some .bw) (le:Gle G G') (g2:GOk X.K G' H) (out:∀b,b∉fp→G' b=G b) (hd:G' p=some d0) :
  SI X g (m.set i .sh) (r.set i (some d0)) G' σ H:=by
 have hlt:i < m.length:=(List.getElem?_eq_some_iff.mp hm).1
 have hst:σ[i]? = some (some (V.ref p)):=(si.lk i (some (V.ref p),none) (by show (if i=i then _ else _)=_; rw [if_pos rfl]) hm).1
 have h0':∀b,b∉fp→(zft g H (fp) i p).h0 b=g.h0 b:=fun b hb=>by show (if b∈fp then H b else g.h0 b)=_; rw [if_neg hb]
 have h0i:∀b,b∈fp→(zft g H (fp) i p).h0 b≠none:=fun b hb=>by show (if b∈fp then H b else g.h0 b)≠_; rw [if_pos hb]; exact hS b hb
 have nin:∀b,g.h0 b≠none→b∉fp:=fun b h z=>h (h0 b z)
 have mne:∀{j x},i≠j→(m.set i .sh)[j]? = some x→m[j]? = some x:=fun hij h=>by rw [List.getElem?_set_ne hij] at h; exact h
 refine ⟨g2,fun a o e=>?_,fun a d e=>le a d (si.ge a d e),fun a h=>?_,by simpa using si.lm,by simpa using si.lr,fun j d h1 h2=>?_,fun j d h1 h2=>?_,fun j d h1 h2=>?_,fun j k a d e hjk h1 h2 m1 m2 z1 z2=>?_,fun j o hj hm'=>?_⟩
 ·exact si.old a o (by rw [h0' a (nin a (by rw [e]; simp))]; exact e)
 ·have hn:=nin a h
  rw [out a hn]
  exact si.gf a (by rw [h0' a hn]; exact h)
 ·by_cases hij:i=j
  ·subst hij
   rw [List.getElem?_set_self (by rw [si.lr,←si.lm]; exact hlt)] at h1
   cases h1
   exact ⟨_,hst,.ref hd⟩
  ·rw [List.getElem?_set_ne hij] at h1
   obtain ⟨v,y1,y2⟩:=si.sh j d h1 (mne hij h2)
   exact ⟨v,y1,y2.mono le⟩
 ·by_cases hij:i=j
  ·subst hij; rw [List.getElem?_set_self hlt] at h2; cases h2
  ·rw [List.getElem?_set_ne hij] at h1
   obtain ⟨a,y1,y2,y3⟩:=si.ow j d h1 (mne hij h2)
   have hn:a∉fp:=fun z=>h0i a z y3
   exact ⟨a,y1,⟨by rw [out a hn]; exact y2.un,y2.ob.mono le fun _ z=>z⟩,by rw [←h0' a hn]; exact y3⟩
 ·by_cases hij:i=j
  ·subst hij; rw [List.getElem?_set_self hlt] at h2; cases h2
  ·exact absurd (mne hij h2) (hb j (Ne.symm hij))
 ·have hij:i≠j:=by rintro rfl; rw [List.getElem?_set_self hlt] at m1; cases m1
  have hik:i≠k:=by rintro rfl; rw [List.getElem?_set_self hlt] at m2; cases m2
  rw [List.getElem?_set_ne hij] at h1
  rw [List.getElem?_set_ne hik] at h2
  exact si.dis j k a d e hjk h1 h2 (mne hij m1) (mne hik m2) z1 z2
 ·by_cases hij:i=j
  ·subst hij; rw [List.getElem?_set_self hlt] at hm'; cases hm'
  ·exact absurd (mne hij hm') (hb j (Ne.symm hij))
theorem SI2.frz (s:SI2 X g i m r w G σ H) (hb:∀j,j≠i→m[j]?≠some .bw):∃G',Gle G G'∧(∀b d,G b=none→G' b=some d→∃ds,d=.lst ds)∧SI X g (m.set i .sh) (r.set i (some (.lst (w.map D.lst)))) G' σ H:=by
 obtain ⟨p,as,R,h0,si,hm⟩:=s
 have nd:=List.nodup_cons.mp R.nd
 obtain ⟨G1,l1,o1,g1,q1⟩:=zoJ si.gok R.rw nd.2 fun b hb=>R.un b (List.mem_cons_of_mem _ hb)
 have hp1:G1 p=none:=by rw [o1 p nd.1]; exact R.un p List.mem_cons_self
 have rs:RGs X.K G1 (as.map V.ref) (w.map D.lst):=by
  have:∀{as:List Addr} {w:List (List D)},Paired (fun b ds=>G1 b=some (.lst ds)) as w→RGs X.K G1 (as.map V.ref) (w.map D.lst):=fun {as w} q=>by
   induction q with
   | nil=>exact .nil
   | cons h _ ih=>exact .cons (.ref h) ih
  exact this q1
 have g2:GOk X.K (gset G1 p (.lst (w.map D.lst))) H:=g1.gset hp1 (.lst (.inl R.out) rs)
 have le:Gle G (gset G1 p (.lst (w.map D.lst))):=Gle.trans l1 (zbc hp1)
 have out:∀b,b∉p::as→gset G1 p (.lst (w.map D.lst)) b=G b:=fun b hb=>by
  rw [za4 (by rintro rfl; exact hb List.mem_cons_self),o1 b fun z=>hb (List.mem_cons_of_mem _ z)]
 refine ⟨_,le,fun b d hn e=>?_,ziC si hm h0 (fun b hb=>R.isS hb) hb le g2 out zax⟩
 by_cases hbp:b=p
 ·subst hbp; rw [zax] at e; cases e; exact ⟨_,rfl⟩
 ·rw [za4 hbp] at e
  by_cases hba:b∈as
  ·obtain ⟨ds,e1⟩:=zj9 hba q1
   rw [e1] at e; cases e; exact ⟨_,rfl⟩
  ·rw [o1 b hba,hn] at e; cases e
end
end DL
end
section
namespace DL
open PySem PySem.Spec PyProof.Rows L2
def RO (K:PySem.W.Frag) (H2:Hp) (p:Addr) (G:GH) (H:Hp) (ws:List V) (ds:List D):Prop:=Paired (fun v d=>∃b,v=V.ref b∧H2 b=none∧b≠p∧Own K G H b d) ws ds∧ws.Nodup
section
variable {K:PySem.W.Frag} {H2:Hp} {p:Addr} {G G':GH} {H H':Hp} {ws:List V} {ds:List D}
theorem RO.upd {o:HO} (h:RO K H2 p G H ws ds):RO K H2 p G (L2.upd H p o) ws ds:=
 ⟨Paired.mono (fun v d ⟨b,e,h1,h2,h3⟩=>⟨b,e,h1,h2,h3.un,h3.ob.mono (fun _ _ z=>z) fun _ z=>by rw [zal h2]; exact z⟩) h.1,h.2⟩
end
section
variable {X:Cx} {pins:List (Addr × Obj)} {σ:L2.St} {H2:Hp} {s2:Shared} {scope:Scope} {N':List Str} {nl:Nat} {cap:List Nat} {cl:List (Str × Addr)} {fp:List Addr} {g:GE} {G2:GH} {m:List Md} {r:Rho} {elt tg iter:Expr} {ifs:List Expr} {pos:Pos}
end
end DL
end
section
namespace DL
open PySem PySem.Spec PyProof.Rows L2
section
variable {X:Cx} {g:GE} {m mb:List Md} {scope:Scope} {N':List Str} {nl:Nat} {cap:List Nat} {elt tg iter:Expr} {ifs:List Expr} {pos pos' spos:Pos} {fi:FI} {ft:FT} {q:FQ} {fe:FE} {ro:Bool}
end
end DL
end
section
namespace DL
open PySem PySem.Spec PyProof.Rows L2
section
variable {X:Cx} {g:GE} {i:Nat} {m m' m1:List Md} {r r':Rho} {w:List (List D)} {G G':GH} {σ σ':L2.St} {H H':Hp}
theorem SI.row {p:Addr} {as:List Addr} (R:LRw X.K G H p as w) (si:SI X (zft g H (p::as) i p) m r G σ H) (hm:m[i]? = some .bw) (hb:∀j,j≠i→m[j]?≠some .bw) {b:Addr} (hbm:b∈p::as) (o:HO):SI X (zft g (upd H b o) (p::as) i p) m r G σ (upd H b o):=by
 have un:=R.un b hbm
 have h0':∀c,c∉p::as→(zft g H (p::as) i p).h0 c=g.h0 c:=fun c hc=>by show (if c∈p::as then H c else g.h0 c)=_; rw [if_neg hc]
 have h0i:∀c,c∈p::as→(zft g H (p::as) i p).h0 c=H c:=fun c hc=>by show (if c∈p::as then H c else g.h0 c)=_; rw [if_pos hc]
 have k0':∀c,c∉p::as→(zft g (upd H b o) (p::as) i p).h0 c=g.h0 c:=fun c hc=>by show (if c∈p::as then _ else g.h0 c)=_; rw [if_neg hc]
 have k0i:∀c,c∈p::as→(zft g (upd H b o) (p::as) i p).h0 c=upd H b o c:=fun c hc=>by show (if c∈p::as then upd H b o c else g.h0 c)=_; rw [if_pos hc]
 refine ⟨fun c d e=>?_,fun c u e=>?_,si.ge,fun c h=>?_,si.lm,si.lr,si.sh,fun j d h1 h2=>?_,fun j d h1 h2=>?_,si.dis,si.lk⟩
 ·have hc:c≠b:=by rintro rfl; rw [un] at e; cases e
  exact (si.gok c d e).mono (fun _ _ z=>z) fun u z=>by rw [zal hc]; exact z
 ·by_cases hc:c∈p::as
  ·rw [k0i c hc] at e; exact e
  ·rw [k0' c hc] at e
   have hcb:c≠b:=by rintro rfl; exact hc hbm
   rw [zal hcb]
   exact si.old c u (by rw [h0' c hc]; exact e)
 ·by_cases hc:c∈p::as
  ·exact si.gf c (by rw [h0i c hc]; exact R.isS hc)
  ·rw [k0' c hc] at h
   exact si.gf c (by rw [h0' c hc]; exact h)
 ·obtain ⟨a,q1,q2,q3⟩:=si.ow j d h1 h2
  have ha:a∉p::as:=fun z=>by rw [h0i a z] at q3; exact R.isS z q3
  have hab:a≠b:=by rintro rfl; exact ha hbm
  rw [h0' a ha] at q3
  exact ⟨a,q1,⟨q2.un,q2.ob.mono (fun _ _ z=>z) fun u z=>by rw [zal hab]; exact z⟩,by rw [k0' a ha]; exact q3⟩
 ·by_cases hj:j=i
  ·subst hj
   have:=(si.lk j (some (V.ref p),none) (by show (if j=j then _ else _)=_; rw [if_pos rfl]) hm).2 d h1
   cases this
  ·exact absurd h2 (hb j hj)
variable {ro:Bool} {mb:List Md} {pos p1 p2 p3 p4 p5 p6 p7 p8 p9 p10 p11:Pos} {x xa xb:Str} {jc:Nat}
end
end DL
end
section
namespace DL
open PySem PySem.Spec PyProof.Rows L2
def lessA (H:Hp) (a:Addr):Hp:=fun b=>if b=a then none else H b
theorem zmb {H:Hp} {a b:Addr} (h:b≠a):lessA H a b=H b:=if_neg h
theorem Grow.lessA {K:PySem.W.Frag} {G G' G2:GH} {H H' H2:Hp} {a:Addr} (w:Grow K G H G' H') (ha:H a=none) (w2:Grow K G' (lessA H' a) G2 H2):Grow K G H G2 H2:=by
 have ne:∀b,H b≠none→b≠a:=fun b h=>by rintro rfl; exact h ha
 have he:∀b o,H b=some o→DL.lessA H' a b=some o:=fun b o e=>by rw [zmb (ne b (by rw [e]; simp))]; exact w.he b o e
 refine ⟨w2.ok,fun b o e=>w2.he b o (he b o e),fun b d e=>w2.ge b d (w.ge b d e),fun b h=>?_⟩
 rw [w2.gf b ?_,w.gf b h]
 cases e:H b with
 | none=>exact absurd e h
 | some o=>rw [he b o e]; simp
def spV (K:PySem.W.Frag) (ro:Bool) (ms:List Md) (F:List D→Res D):Sp:=fun vs H Q _=>∃G us a ds d,GOk K G H∧vs=us++[V.ref a]∧ArgsOk K G H ms us ds∧Own K G H a d ∧
 fin (F (ds++[d])) (fun d'=>∀v G' H',Grow K G (lessA H a) G' H'→RV ro K (lessA H a) G' H' v d'→Q v H') fun _=>False
section
variable {K:PySem.W.Frag} {G:GH} {H:Hp}
end
section
variable {P:Program} {w:World} {K:PySem.W.Frag} {mg:Str→Option Value} {base:Heap}
structure CalleeV (P:Program) (w:World) (K:PySem.W.Frag) (mg:Str→Option Value) (base:Heap) (x:Str) (ps:List Str) (k:Nat) (ro:Bool) (ms:List Md) (F:List D→Res D):Prop where
 ex:∃f fd,mg x=some (.ref f)∧PySem.W.keepIn K (.ref f)=true∧zew K fd ps []∧FnOk P w K mg base CX0 k f fd ps (spV K ro ms F)
end
section
variable {X:Cx} {g:GE} {m ms:List Md} {e:Expr} {es:List Expr} {f:FE} {fl:Rho→Res (List D × D)} {x:Str} {ps:List Str} {k:Nat} {F:List D→Res D} {p pos:Pos}
end
end DL
end
section
namespace DL
open PySem PySem.Spec PyProof.Rows L2
section
variable {X:Cx} {g:GE} {i:Nat} {m m' m1:List Md} {r r':Rho} {w:List (List D)} {G G':GH} {σ σ':L2.St} {H H':Hp} {st:Stmt} {sts sts':List Stmt} {f1 f2:FS2} {c e ie:Expr} {es:List Expr} {q:FQ} {f fi:FE} {fl:Rho→Res (List D)} {pos p1 p2 p3 apos cpos spos:Pos} {x y:Str}
end
end DL
end
section
namespace DL
open PySem PySem.Spec PyProof.Rows L2
end DL
end
section
namespace DL
open PySem PySem.Spec PyProof.Rows L2
section
variable {X:Cx} {pins:List (Addr × Obj)} {σ:L2.St} {H:Hp} {s:Shared}
end
section
variable {X:Cx} {g:GE} {m:List Md} {a b:Expr} {fl:Rho→Res (List D)} {fa fb:FE} {pos p:Pos}
end
end DL
end
section
namespace DL
open PySem PySem.Spec PyProof.Rows L2
inductive Cln:D→Prop where
 | non:Cln .non
 | bl (b:Bool):Cln (.bl b)
 | int (i:Int):Cln (.int i)
 | str (x:Str):Cln (.str x)
 | tup {ds:List D}:(∀d∈ds,Cln d)→Cln (.tup ds)
theorem Cln.lst {ds:List D} (h:Cln (.lst ds)):False:=nomatch h
theorem Cln.dic {ds:List (Key × D)} (h:Cln (.dic ds)):False:=nomatch h
theorem Cln.get {ds:List D} (h:Cln (.tup ds)):∀d∈ds,Cln d:=by
 cases h with
 | tup h=>exact h
section
variable {X:Cx} {g:GE} {i:Nat} {m m' m1:List Md} {r r':Rho} {w:List (List D)} {G G':GH} {σ σ':L2.St} {H H':Hp} {e:Expr} {f:FE} {st:Stmt} {pos p1 p2 p3 p4 p5 p6 p7 p8 p9 p10:Pos} {x xa xb y:Str}
end
end DL
end
section
namespace DL
open PySem PySem.Spec PyProof.Rows L2
structure TL (K:PySem.W.Frag) (G:GH) (H:Hp) (p a:Addr) (d1:D) (ds:List D):Prop where
 tp:∃x xs,H p=some (.tup [x,.ref a])∧RG K G x d1∧H a=some (.lst xs)∧RGs K G xs ds
 un:∀b∈[p,a],G b=none
 ne:p≠a
theorem TL.isS {K:PySem.W.Frag} {G:GH} {H:Hp} {p a:Addr} {d1:D} {ds:List D} (t:TL K G H p a d1 ds):∀b∈[p,a],H b≠none:=fun b hb=>by
 obtain ⟨x,xs,h1,_,h2,_⟩:=t.tp
 rcases List.mem_cons.mp hb with rfl | hb
 ·rw [h1]; simp
 ·rw [List.mem_singleton.mp hb,h2]; simp
def RW (K:PySem.W.Frag) (H0:Hp) (G:GH) (H:Hp) (v:V) (d:D):Prop:=∃p a d1 ds,v=.ref p∧d=.tup [d1,.lst ds]∧(∀b∈[p,a],H0 b=none)∧TL K G H p a d1 ds
def spW (K:PySem.W.Frag) (ms:List Md) (F:List D→Res D):Sp:=fun vs H Q _=>∃G ds,GOk K G H∧ArgsOk K G H ms vs ds∧fin (F ds) (fun d=>∀v G' H',Grow K G H G' H'→RW K H G' H' v d→Q v H') fun _=>False
abbrev FW:=Rho→Res D
section
variable {X:Cx} {g:GE} {ro:Bool} {i:Nat} {m m' m1 mb:List Md} {r r':Rho} {G G':GH} {σ σ':L2.St} {H H':Hp} {e e1 e2 c:Expr} {f f1 f2:FE} {q:FQ} {st:Stmt} {sts sts1:List Stmt} {s1:FS} {fs:FW} {pos p1 p2 p3 p4 apos cpos:Pos} {x y:Str}
end
section
variable {P:Program} {w:World} {K:PySem.W.Frag} {mg:Str→Option Value} {base:Heap}
structure CalleeW (P:Program) (w:World) (K:PySem.W.Frag) (mg:Str→Option Value) (base:Heap) (x:Str) (ps:List Str) (k:Nat) (ms:List Md) (F:List D→Res D):Prop where
 ex:∃f fd,mg x=some (.ref f)∧PySem.W.keepIn K (.ref f)=true∧zew K fd ps []∧FnOk P w K mg base CX0 k f fd ps (spW K ms F)
end
section
variable {X:Cx} {g:GE} {ro:Bool} {i:Nat} {m m' m1 mb ms:List Md} {r r':Rho} {G G':GH} {σ σ':L2.St} {H H':Hp} {e c:Expr} {es:List Expr} {q:FQ} {st:Stmt} {sts sts1:List Stmt} {fl:Rho→Res (List D)} {F:List D→Res D} {k:Nat} {ps:List Str} {pos p1 p2 p3 p4 apos cpos:Pos} {x y:Str} {d1:D} {ds:List D}
def SI3 (X:Cx) (g:GE) (i:Nat) (m:List Md) (r:Rho) (d1:D) (ds:List D) (G:GH) (st:L2.St) (H:Hp):Prop:=
 ∃p a,TL X.K G H p a d1 ds∧(∀b∈[p,a],g.h0 b=none)∧SI X (zft g H [p,a] i p) m r G st H∧m[i]? = some .bw
theorem SI3.frz (s:SI3 X g i m r d1 ds G σ H) (hb:∀j,j≠i→m[j]?≠some .bw):∃G',Gle G G'∧(∀b d,G b=none→G' b=some d→¬ Cln d)∧SI X g (m.set i .sh) (r.set i (some (.tup [d1,.lst ds]))) G' σ H:=by
 obtain ⟨p,a,t,h0,si,hm⟩:=s
 obtain ⟨x,xs,h1,h2,h3,h4⟩:=t.tp
 have ua:=t.un a (List.mem_cons_of_mem _ List.mem_cons_self)
 have up:=t.un p List.mem_cons_self
 have g1:GOk X.K (gset G a (.lst ds)) H:=si.gok.gset ua (.lst (.inl h3) h4)
 have up1:gset G a (.lst ds) p=none:=by rw [za4 t.ne]; exact up
 have g2:GOk X.K (gset (gset G a (.lst ds)) p (.tup [d1,.lst ds])) H:=g1.gset up1 (.tup (.inl h1) (.cons (h2.mono (zbc ua)) (.cons (.ref zax) .nil)))
 refine ⟨_,Gle.trans (zbc ua) (zbc up1),fun b d hn e hc=>?_,ziC si hm h0 t.isS hb (Gle.trans (zbc ua) (zbc up1)) g2 (fun b hb=>?_) zax⟩
 ·by_cases hbp:b=p
  ·subst hbp; rw [zax] at e; cases e
   exact (hc.get _ (List.mem_cons_of_mem _ List.mem_cons_self)).lst
  ·rw [za4 hbp] at e
   by_cases hba:b=a
   ·subst hba; rw [zax] at e; cases e; exact hc.lst
   ·rw [za4 hba,hn] at e; cases e
 ·rw [za4 (by rintro rfl; exact hb List.mem_cons_self),za4 (by rintro rfl; exact hb (List.mem_cons_of_mem _ List.mem_cons_self))]
end
end DL
end
section
namespace DL
section
open PySem PyProof.Rows PySem.W PySem.Calls
variable {prog:Program} {w:World} {A:Around} {E:Value→Shared→Prop} {s:Shared} {l:Addr} {vs:List Value} {ns:List Int}
end
open PySem PySem.Spec PyProof.Rows L2
section
variable {X:Cx} {pins:List (Addr × Obj)} {σ:L2.St} {H:Hp} {s:Shared}
end
section
variable {X:Cx} {g:GE} {m:List Md} {a b:Expr} {fl:Rho→Res (List D)} {fa fb:FE} {pos p:Pos}
end
end DL
end
section
namespace DL
section
open PySem PyProof.Rows
variable {prog:Program} {w:World} {A:Around} {R:Result→Shared→Prop} {I S:Addr} {fp wr:List Addr} {n:Nat} {P:Nat→Value→Prop} {St:Nat→Heap→Prop} {TP:Heap→Prop} {bt:Nat→Nat→Bool}
def ziS (wr:List Addr) (S:Addr) (h h':Heap):Prop:=∀b o,b∉wr→b≠S→h.get? b=some o→h'.get? b=some o
theorem ziS.trans {h h1 h2:Heap} (a:ziS wr S h h1) (b:ziS wr S h1 h2):ziS wr S h h2:=fun c o hc hs e=>b c o hc hs (a c o hc hs e)
end
end DL
end
section
namespace DL
open PySem PySem.Spec PyProof.Rows L2
section
variable {X:Cx} {pins:List (Addr × Obj)} {σ:L2.St} {H:Hp} {s:Shared}
end
section
variable {X:Cx} {g:GE} {m:List Md} {e:Expr} {es:List Expr} {fl:Rho→Res (List D)} {pos p:Pos}
end
section
variable {X:Cx}
end
end DL
end
section
namespace DL
open PySem PySem.Spec PyProof.Rows L2 PySem.W PySem.Calls
def spX (K:PySem.W.Frag) (ro:Bool) (ms:List Md) (F:List D→Res D):Sp:=fun vs H Q E=>∃G ds,GOk K G H∧ArgsOk K G H ms vs ds ∧
 fin (F ds) (fun d=>∀v G' H',Grow K G H G' H'→RV ro K H G' H' v d→Q v H') fun x=>∀C od nm fs G' H',x=xD nm fs→XN K nm C→XF G' od fs→Grow K G H G' H'→E (.ref C) od H'
section
variable {X:Cx} {k:Nat} {f:Addr} {fd:FuncData} {ps:List Str} {sp:Sp} {dvs:List V} {ds:List Value} {x:Str} {p pos:Pos} {e:Expr} {es:List Expr} {t:TA}
def zrn (X:Cx) (σ:L2.St) (H:Hp) (E:XK):Prop:=∀pins s a cls od H' s',Inv X pins σ H s→Fly X.prog X.w X.stack H s H' a cls od s'→E cls od H'→X.xe (.ref a) s'
theorem znN {pins:List (Addr × Obj)} {σ:L2.St} {H:Hp} {s:Shared} {Q:VK} {E:XK} {us:List Value} {vs:List V} (F:FnOk X.prog X.w X.K X.mg X.base (CXR X.prog X.w) k f fd ps sp) (hr:Room k X.A) (hb:zew X.K fd ps ds) (hd:Vals dvs ds)
  (I:Inv X pins σ H s) (hx:zrn X σ H E) (r:Vals vs us) (h:sp (vs++dvs) H Q E):wpAny (model X.prog X.w) X.A (call (.ref f) us) (EP X pins σ Q) X.xe s:=by
 have r2:Vals (vs++dvs) (us++ds):=r.append hd
 have hl:(us++ds).length=ps.length:=by rw [←r2.length]; exact F.len _ _ _ _ h
 refine wpAny_call (codeAny_mono (F.run X.A X.stack s H ⟨us,[]⟩ (us++ds) (vs++dvs) Q E hr I.env0 (hb s us I.kIn hl) r2 h) fun r s' hq=>?_)
 cases r with
 | error e=>
  obtain ⟨a,cls,H',od,rfl,fl,q⟩:=hq
  exact hx pins s a cls od H' s' I fl q
 | ok fl=>
  cases fl with
  | ret u=>exact I.after hq
  | next=>exact False.elim hq
  | brk=>exact False.elim hq
  | cont=>exact False.elim hq
theorem zl0 (F:FnOk X.prog X.w X.K X.mg X.base (CXR X.prog X.w) k f fd ps sp) (hr:Room k X.A) (hg:Gl X x) (hm:X.mg x=some (.ref f)) (hk:PySem.W.keepIn X.K (.ref f)=true) (hb:zew X.K fd ps ds) (hd:Vals dvs ds)
  (ha:PA X (e::es) t) (hdb:(x == ("__debug__" : Str))=false:=by decide) (he:starEach (e::es) X.env=(false,eval e X.env)::starEach es X.env:=by rfl) (hpl:(backTo pos (starEach es X.env)).any (·.1)=false:=by rfl) :
  PE X (.Call (.Name x p) (e::es) [] pos) (fun σ H Q=>t σ H fun vs H1=>∃E,sp (vs++dvs) H1 Q E∧zrn X σ H1 E):=by
 intro pins s σ H Q I h
 refine wpAny_Call_Name_kw (zer I hg hm ?_ hdb)
 refine PySem.W.callWith_K (h₀:=X.base) I.ok.mod.kin hk (thn (ha pos pins s σ H _ I h) fun us s1 ⟨vs,H1,I1,r,E,q,px⟩=>⟨I1.kIn,?_⟩) he hpl
 exact znN F hr hb hd I1 px r q
end
section
variable {P:Program} {w:World} {K:PySem.W.Frag} {mg:Str→Option Value} {base:Heap}
theorem zoM {x qual:Str} {st:Stmt} {f:Addr} {fd:FuncData} {N ps:List Str} {k:Nat} {ro:Bool} {ms:List Md} {fs:FS} {m':List Md} (F:Fun K x qual st f fd) (S:FnScope N ps (defScope st)) (hms:ms.length=ps.length)
  (hbody:∀(cdv:Value) (A:Around) (outer:List Env) (s:Shared) (H:Hp) (g:GE) (E:XK),Room k (A.deeper (envOfC qual (defScope st) s.heap.objs.size f cdv)) →
   SSs (cxOf (CXR P w) P w K mg base N qual (defScope st) f cdv A outer s H E) g ro [] (zdA N.length ms) (defBody st) fs m') :
  FnOk P w K mg base (CXR P w) (k + 1) f fd ps (spX K ro ms fun ds=>outR ro (fs (zaq N.length ds))):=by
 obtain ⟨oc,od,kV,doc,pm,an,cdv,ct,osl,rfl,lk,hcd⟩:=F.ex
 refine zoL lk hcd S (fun vs H Q E ⟨G,ds,gk,rs,q⟩=>rs.len.1.trans hms) fun A outer s H vs Q E hr h=>?_
 obtain ⟨G,ds,gk,rs,q⟩:=h
 have hpl:ps.length≤N.length:=by have:=congrArg List.length S.pre; rw [List.length_take] at this; omega
 refine ⟨_,(hbody cdv A outer s H ⟨G,H,fun _=>none⟩ E hr).2,zaq N.length ds,G,zgf gk rs (by omega),?_⟩
 replace q:fin (outR ro (fs (zaq N.length ds))) _ _:=q
 cases e:fs (zaq N.length ds) with
 | nx r'=>
  rw [e] at q
  cases ro with
  | false=>exact fun σ' G' H' _ si=>q .non G' H' si.grown (.scl .non)
  | true=>exact q.elim
 | rt d=>rw [e] at q; exact fun v G' H' wg rv=>q v G' H' wg rv
 | bk r'=>rw [e] at q; exact q.elim
 | ct r'=>rw [e] at q; exact q.elim
 | exc x r'=>
  rw [e] at q
  intro pins ev s' σ' G' H' le si I ex
  obtain ⟨pins1,s1,H1,a,C,od1,nm,fs1,rfl,rfl,xn,xf,I1,fl⟩:=ex
  exact fl.leaves I1 rfl rfl rfl fun s'' fl2=>⟨a,_,H',od1,rfl,fl2,q C od1 nm fs1 G' H' rfl xn xf si.grown⟩
 | stuck=>rw [e] at q; exact q
structure CalleeX (P:Program) (w:World) (K:PySem.W.Frag) (mg:Str→Option Value) (base:Heap) (x:Str) (ps:List Str) (ds:List Value) (k:Nat) (ro:Bool) (ms:List Md) (F:List D→Res D):Prop where
 ex:∃f fd,mg x=some (.ref f)∧PySem.W.keepIn K (.ref f)=true∧zew K fd ps ds∧FnOk P w K mg base (CXR P w) k f fd ps (spX K ro ms F)
theorem zgr {x:Str} {st:Stmt} {N ps:List Str} {k:Nat} {ro:Bool} {ms:List Md} {fs:FS} {m':List Md} (A:DefAt K mg x st) (S:FnScope N ps (defScope st)) (hms:ms.length=ps.length)
  (hb:∀(kV doc pm:Value) (an:Option Addr) (cdv ct:Value) (us:List Value),us.length=ps.length→bindArgs (PySem.W.fnOf x x (defArgs st) (defBody st) (defScope st) .none kV doc pm an cdv ct) ⟨us,[]⟩=pure (ps.zip us))
  (hbody:∀(f:Addr) (cdv:Value) (A:Around) (outer:List Env) (s:Shared) (H:Hp) (g:GE) (E:XK),Room k (A.deeper (envOfC x (defScope st) s.heap.objs.size f cdv)) →
   SSs (cxOf (CXR P w) P w K mg base N x (defScope st) f cdv A outer s H E) g ro [] (zdA N.length ms) (defBody st) fs m') :
  CalleeX P w K mg base x ps [] (k + 1) ro ms fun ds=>outR ro (fs (zaq N.length ds)):=by
 obtain ⟨f,fd,h1,F⟩:=A.ex
 exact ⟨f,fd,h1,F.kp,F.binds hb,zoM F S hms (hbody f)⟩
end
section
variable {X:Cx} {g:GE} {ro:Bool} {m mb:List Md} {e:Expr} {es:List Expr} {fl:Rho→Res (List D)} {k:Nat} {ps:List Str} {F:List D→Res D} {dvs:List V} {ds:List Value} {dds:List D} {x:Str} {p np pos:Pos} {ms:List Md} {C:Addr}
def zc9 (fl:Rho→Res (List D)) (dds:List D) (F:List D→Res D):FE:=fun r=>(fl r).bind fun ds=>F (ds++dds)
theorem znJ (c:CalleeX X.prog X.w X.K X.mg X.base x ps ds k false (ms++List.replicate dds.length .sh) F) (hr:Room k X.A) (hd:Vals dvs ds) (hsc:Paired Scl dvs dds) (ha:SAM X g m (e::es) ms fl) (hg:Gl X x:=by rfl)
  (hdb:(x == ("__debug__" : Str))=false:=by decide) (he:starEach (e::es) X.env=(false,eval e X.env)::starEach es X.env:=by rfl) (hpl:(backTo pos (starEach es X.env)).any (·.1)=false:=by rfl) :
  SE X g m (.Call (.Name x p) (e::es) [] pos) (zc9 fl dds F):=by
 obtain ⟨fa,fd,h1,h2,h3,G1⟩:=c.ex
 refine PE.imp (zl0 G1 hr hg h1 h2 h3 hd ha hdb he hpl) fun σ H Q ⟨r,G,si,q⟩=>⟨r,G,si,?_⟩
 cases ez:fl r with
 | ok zs=>
  unfold zc9 at q
  rw [ez] at q
  intro vs G' H' w' rs
  refine ⟨fun cls od H2=>∃C nm fs G2,cls=.ref C∧F (zs++dds)=.exc (xD nm fs)∧XN X.K nm C∧XF G2 od fs∧Grow X.K G' H' G2 H2,⟨G',zs++dds,w'.ok,rs.app hsc,?_⟩,?_⟩
  ·cases ef:F (zs++dds) with
   | ok d=>replace q:fin (F (zs++dds)) _ _:=q; rw [ef] at q; exact fun v G2 H2 w2 rv=>q v G2 H2 (w'.trans w2) rv
   | exc y=>exact fun C od nm fs G2 H2 hy xn xf w2=>⟨C,nm,fs,G2,rfl,by rw [hy],xn,xf,w2⟩
   | stuck=>replace q:fin (F (zs++dds)) _ _:=q; rw [ef] at q; exact q
  ·intro pins s a cls od H2 s' I fl ⟨C,nm,fs,G2,hc,ef,xn,xf,w2⟩
   subst hc
   replace q:fin (F (zs++dds)) _ _:=q
   rw [ef] at q
   exact q pins (.ref a) s' G2 H2 (w'.trans w2) (fl.inv I) ⟨pins,s,H',a,C,od,nm,fs,rfl,rfl,xn,xf,I,fl⟩
 | exc x=>unfold zc9 at q; rw [ez] at q; exact q
 | stuck=>unfold zc9 at q; rw [ez] at q; exact q
end
end DL
end
section
namespace DL
open PySem PySem.Spec PyProof.Rows L2 PySem.W PySem.Calls
section
variable {M:Model} {A:Around} {E:Value→Shared→Prop} {s:Shared} {nm q nmT qT:Str} {C N T NT:Addr} {bs bm bsT bmT:List Value} {hdct hdctT:Bool} {sn snT:List Str} {sub subT':List Value} {ab abT:Bool} {col colT:Option Bool} {dd ddT:Option Addr} {k0 k1 k2 k3 k5 t0 t1 t2 t3 t5:Option Value} {newId newIdT:String}
theorem zfT {e:Addr} {oe:Obj} {Q:Bool→Shared→Prop} (hC:s.heap.get? C=some (excClassObj nm q C N bs bm hdct sn sub ab col dd k0 k1 k2 k3 k5 newId)) (hT:s.heap.get? T=some (excClassObj nmT qT T NT bsT bmT hdctT snT subT' abT colT ddT t0 t1 t2 t3 t5 newIdT))
  (he:s.heap.get? e=some oe) (hc:oe.cls=.ref C) (hb:bmT.contains (Value.type "BaseException")=true) (hq:Q ((Value.ref C::bm).contains (.ref T)) s):wpAny M A (excMatches (.ref e) (.ref T)) Q E s:=by
 unfold excMatches
 refine wpAny_bind (wpAny_isInstance (T := "type") (b:=false) ⟨_,hT,rfl⟩ (by rw [isSubtype_type]; kernel_rfl) ?_)
 rw [if_neg Bool.false_ne_true]
 refine wpAny_bind (wpAny_pure ?_)
 simp only [List.forIn_cons,List.forIn_nil]
 refine wpAny_bind (wpAny_bind ?_)
 unfold isExcClass isType
 refine wpAny_bind (wpAny_bind (wpAny_bind (wpAny_loadPart hT (wpAny_pure ?_))))
 rw [if_pos rfl]
 obtain ⟨hh,hg,hdr,ht,ho⟩:=s
 refine wpAny_isSubtype_exc hT ?_
 rw [List.contains_cons,hb,Bool.or_true]
 rw [if_neg (by simp)]
 refine wpAny_pure (wpAny_pure ?_)
 refine wpAny_bind ?_
 unfold typeOf
 refine wpAny_bind (wpAny_loadPart he (wpAny_pure ?_))
 rw [hc]
 refine wpAny_bind (wpAny_bind (wpAny_bind (wpAny_isSubtype_exc hC ?_)))
 cases hm:(Value.ref C::bm).contains (Value.ref T) with
 | true=>
  rw [hm] at hq
  rw [if_pos rfl]
  exact wpAny_pure (wpAny_pure (wpAny_pure hq))
 | false=>
  rw [hm] at hq
  rw [if_neg Bool.false_ne_true]
  exact wpAny_pure (wpAny_pure (wpAny_pure hq))
end
end DL
end
section
namespace DL
open PySem PySem.Spec PyProof.Rows L2 PySem.W PySem.Calls
section
variable {X:Cx} {pins:List (Addr × Obj)} {σ:L2.St} {H H':Hp} {s s':Shared} {M:Model} {A:Around} {E:Value→Shared→Prop}
theorem Inv.unbind {i:Nat} {n:Str} {h':Heap} {u:Option Value} {m:Str→Option Value} (I:Inv X pins σ H s) (hN:X.N.Nodup) (hi:X.N[i]? = some n) (hm:s.heap.Ns X.env.locals m)
  (hn:h'.Ns X.env.locals fun x=>if x=n then u else m x) (sb:Heap.SameBut X.env.locals s.heap h') (hl:∀x v,m x=some v→True):Inv X pins (σ.set i none) H { heap:=h',gens:=s.gens,drawn:=s.drawn,toks:=s.toks,os:=s.os }:=by
 have nl:∀b o,X.s₀.heap.get? b=some o→b≠X.env.locals:=fun b o e z=>by
  have h1:=Heap.lt_size e
  have h2:=I.ok.above
  rw [z] at h1
  exact absurd h1 (Nat.not_lt.mpr h2)
 have cl:∀{c v},s.heap.IsCell c v→h'.IsCell c v:=fun {c v} hc=>by
  have hne:c≠X.env.locals:=by
   intro z
   obtain ⟨o,e1,e2⟩:=hc
   obtain ⟨o',es,ep,ho,r⟩:=hm
   rw [z,ho] at e1
   cases e1
   rw [r.1] at e2
   cases e2
  obtain ⟨o,e1,e2⟩:=hc
  exact ⟨o,(sb.2 c hne).trans e1,e2⟩
 refine ⟨I.ok,I.os,I.bare,⟨fun b o e n f z=>(sb.2 b (nl b o e)).trans (I.base.keep b o e n f z),fun b o e n f z=>?_,I.base.free,fun b o e z=>?_,I.base.tups,I.base.frzs,I.base.tbls⟩,?_,fun x c hc=>?_,I.free,I.freeC,fun p hp=>?_,fun b o e=>?_,by rw [List.length_set]; exact I.len⟩
 ·obtain ⟨sl,e1⟩:=I.base.slot b o e n f z
  exact ⟨sl,(sb.2 b (nl b o e)).trans e1⟩
 ·obtain ⟨o',e1⟩:=I.base.there b o e z
  exact ⟨o',(sb.2 b (nl b o e)).trans e1⟩
 ·obtain ⟨m0,hm0,lk⟩:=I.loc
  refine ⟨_,hn,fun j x v hj hv vis=>?_⟩
  have hij:i≠j:=by
   rintro rfl
   rw [List.getElem?_set,if_pos rfl] at hv
   split at hv <;> cases hv
  rw [List.getElem?_set_ne hij] at hv
  obtain ⟨w,rw',lo⟩:=lk j x v hj hv vis
  have hxn:x≠n:=by
   rintro rfl
   exact hij ((List.getElem?_inj (List.getElem?_eq_some_iff.mp hi).1 hN).mp (hi.trans hj.symm))
  refine ⟨w,rw',?_⟩
  rcases lo with ⟨k,e⟩ | ⟨k,c,hc,ic⟩
  ·refine .inl ⟨k,?_⟩
   show (if x=n then u else m x)=some w
   rw [if_neg hxn,hm.agree hm0]
   exact e
  ·exact .inr ⟨k,c,hc,cl ic⟩
 ·obtain ⟨v,hv⟩:=I.cell x c hc
  exact ⟨v,cl hv⟩
 ·obtain ⟨p1,p2,p3,p4,p5⟩:=I.pin p hp
  exact ⟨(sb.2 _ p3).trans p1,p2,p3,p4,p5⟩
 ·have hb:∀c u,H c=some u→c≠X.env.locals:=fun c u e z=>by rw [z,I.free] at e; cases e
  refine (I.hok b o e).stay (fun c v hc e1=>(sb.2 c ?_).trans e1) (fun _ z=>z) fun _ _ z=>z
  rcases hc with z | z
  ·rw [z]; exact hb b o e
  ·exact hb c _ z
theorem zjE {i:Nat} {n:Str} {pos:Pos} {v:V} {Q:Unit→Shared→Prop} (I:Inv X pins σ H s) (hN:X.N.Nodup) (hi:X.N[i]? = some n) (hv:σ[i]? = some (some v)) (hl:X.env.kindOf n=some NameKind.local) (hsc:X.env.scope.names.lookup n=some .local)
  (q:∀s',Inv X pins (σ.set i none) H s'→Q () s'):wpAny M A (unbindBehindTheSuite X.env n pos) Q E s:=by
 unfold unbindBehindTheSuite
 refine wpAny_onRaise ?_
 obtain ⟨m,hm,lk⟩:=id I.loc
 obtain ⟨w,rw',lo⟩:=lk i n v hi hv (.inl hsc)
 have hmn:m n=some w:=by
  rcases lo with ⟨_,e⟩ | ⟨k,_⟩
  ·exact e
  ·rw [hl] at k; rcases k with k | k <;> cases k
 refine wpAny_unbindName_local hl hm hmn ?_ fun h' u hn sb=>q _ (Inv.unbind I hN hi hm hn sb fun _ _ _=>trivial)
 rw [I.ok.kind]; rfl
end
end DL
end
section
namespace DL
open PySem PySem.Spec PyProof.Rows L2 PySem.W PySem.Calls
def XO (K:PySem.W.Frag) (C:Addr) (bm:List Value):Prop:=∃N nm q bs hdct sn sub ab col dd k0 k1 k2 k3 k5 newId,K.lookup C=some (excClassObj nm q C N bs bm hdct sn sub ab col dd k0 k1 k2 k3 k5 newId)
abbrev _root_.L2.Cx.held (X:Cx) (v:Value):Cx:={ X with A:=X.A.mark (some v),calm:=false,xe:=fun _ _=>False }
section
variable {X:Cx} {pins:List (Addr × Obj)} {σ:L2.St} {H H':Hp} {s s':Shared} {a C:Addr} {od:Option Addr}
theorem Inv.held (I:Inv X pins σ H s) (v:Value):Inv (X.held v) pins σ H s:=
 ⟨⟨I.ok.mod,I.ok.kind,I.ok.glob,I.ok.blt,I.ok.above,I.ok.inj,I.ok.has,I.ok.cab,(fun h=>nomatch h),I.ok.frames,I.ok.stk,I.ok.exf,I.ok.bs,I.ok.bsz,I.ok.noex,I.ok.exfs,I.ok.funs,I.ok.frf⟩,I.os,I.bare,I.base,I.loc,I.cell,I.free,I.freeC,I.pin,I.hok,I.len⟩
theorem Inv.unheld {v:Value} (hh:X.calm=true→X.A.handled=none) (I:Inv (X.held v) pins σ H s):Inv X pins σ H s:=
 ⟨⟨I.ok.mod,I.ok.kind,I.ok.glob,I.ok.blt,I.ok.above,I.ok.inj,I.ok.has,I.ok.cab,hh,I.ok.frames,I.ok.stk,I.ok.exf,I.ok.bs,I.ok.bsz,I.ok.noex,I.ok.exfs,I.ok.funs,I.ok.frf⟩,I.os,I.bare,I.base,I.loc,I.cell,I.free,I.freeC,I.pin,I.hok,I.len⟩
theorem Fly.noted {E:Value→Shared→Prop} {M:Model} {Q:Unit→Shared→Prop} (F:Fly X.prog X.w X.stack H s H' a (.ref C) od s') (I:Inv X pins σ H s) (hst:X.stack=X.env::X.outer) (hfr:X.env.frame=some X.env.locals)
  (q:∀h' oe vs tb ot ts,Inv X pins σ (upd H' a (.ext (XcO a C od))) { heap:=h',gens:=s'.gens,drawn:=s'.drawn,toks:=s'.toks,os:=s'.os }→H' a=none→h'.get? a=some oe→oe.cls=.ref C→oe.data=.fields vs→vs[1]? = some (.ref tb)→h'.get? tb=some ot→ot.data=.fields ts→ts[3]? = some Value.none →
   Q () { heap:=h',gens:=s'.gens,drawn:=s'.drawn,toks:=s'.toks,os:=s'.os }) :
  wpAny M X.A (noteFrame (.ref a) X.env) (fun _ s2=>wpAny M X.A (setFlight (.ref a) none) Q E s2) E s':=by
 obtain ⟨B,hB,hBa,hff,⟨oe,vs,r1,r2,r3,r4,r5⟩,hd,hH⟩:=F.ex
 have hHa:H' a=none:=by
  cases e:H' a with
  | none=>rfl
  | some u=>obtain ⟨o',z⟩:=hH a u e; rw [hBa] at z; cases z
 have haf:a∉frs X.stack:=fun z=>by
  obtain ⟨_,o,e1,nf⟩:=hff.mem z
  rw [r1] at e1; cases e1
  exact nf vs r4
 have hs1:1 < vs.size:=by
  rcases r5 with z | ⟨_,_,_,z,_⟩ | ⟨_,_,_,_,_,z,_⟩ <;> exact (Array.getElem?_eq_some_iff.mp z).1
 have sna:∀b o,s.heap.get? b=some o→b≠a:=fun b o e z=>by
  rw [z] at e
  obtain ⟨o',z2⟩:=hd a o e haf
  rw [hBa] at z2; cases z2
 have fin:∀(T:Option Addr) h',(∀b,T=some b→B.get? b=none)→Lft (frs (X.env::X.outer)) a oe vs T Value.none s'.heap h'→Q () { heap:=h',gens:=s'.gens,drawn:=s'.drawn,toks:=s'.toks,os:=s'.os }:=fun T h' hT l=>by
  rw [←hst] at l
  have same:∀b o,(∃o',B.get? b=some o')→s'.heap.get? b=some o→h'.get? b=some o:=fun b o ⟨o',e⟩ h=>by
   refine l.keep b o (fun z=>?_) (fun z=>by rw [z,hBa] at e; cases e) (fun z=>by rw [hT b z] at e; cases e) h
   rw [(hff.mem z).1] at e
   cases e
  obtain ⟨tb,ot,ts,t1,t2,t3,t4,t5,t6⟩:=l.obj
  have hok1:HOk X.prog X.w H' h':=fun b u e=>by
   refine (F.hok b u e).stay (fun c v hc e1=>same c v ?_ e1) (fun _ z=>z) fun _ _ z=>z
   rcases hc with hc | hc
   ·rw [hc]; exact hH b u e
   ·exact hH c _ hc
  have hne:∀b u,H' b=some u→b≠a:=fun b u e z=>by rw [z,hHa] at e; cases e
  have hok2:HOk X.prog X.w (upd H' a (.ext (XcO a C od))) h':=fun b u e=>by
   by_cases hb:b=a
   ·subst hb
    rw [zak] at e
    cases e
    exact ⟨⟨_,_,t3,r2,r3,rfl⟩,⟨_,t3⟩,fun h1 h2 ⟨oe',vs',z1,z2,z3,z4⟩ k=>⟨oe',vs',k _ z1,z2,z3,z4⟩⟩
   ·rw [zal hb] at e
    refine (hok1 b u e).stay (fun _ _ _ z=>z) (fun c z=>?_) fun c xs z=>?_
    ·rw [zal (hne c _ z)]; exact z
    ·rw [zal (hne c _ z)]; exact z
  have I2:Inv X pins σ (upd H' a (.ext (XcO a C od))) { heap:=h',gens:=s'.gens,drawn:=s'.drawn,toks:=s'.toks,os:=s'.os }:=by
   refine I.call' (ch:=[]) F.os ⟨fun b o e n f z=>?_,fun b o e n f z=>?_,fun b o e n z=>?_,fun b o e z=>?_,fun b xs e=>?_,fun b o u e=>?_,fun b ps e=>?_⟩ hok2 F.bare fun b z=>absurd z (by simp)
   ·exact same b o (hd b o e f) (F.un.keep b o e n f z)
   ·obtain ⟨sl,e1⟩:=F.un.slot b o e n f z
    obtain ⟨_,o2,e2,nf⟩:=hff.mem f
    rw [e1] at e2
    cases e2
    obtain ⟨sl2,e3⟩:=l.slot b _ e1 nf
    exact ⟨sl2,e3⟩
   ·rw [zal (sna b o e)]; exact F.un.free b o e n z
   ·obtain ⟨o1,e1⟩:=F.un.there b o e z
    by_cases f:b∈frs X.stack
    ·obtain ⟨_,o2,e2,nf⟩:=hff.mem f
     obtain ⟨sl,e3⟩:=l.slot b _ e2 nf
     exact ⟨_,e3⟩
    ·exact ⟨o1,same b o1 (hd b o e f) e1⟩
   ·have:=F.un.tups b xs e; rw [zal (hne b _ this)]; exact this
   ·have:=F.un.frzs b o u e; rw [zal (hne b _ this)]; exact this
   ·obtain ⟨mo,this⟩:=F.un.tbls b ps e
    exact ⟨mo,by rw [zal (hne b _ this)]; exact this⟩
  exact q h' _ _ tb ot ts I2 hHa t3 r2 rfl (Array.getElem?_setIfInBounds_self_of_lt hs1) t4 t5 t6
 have nt2:wpAny M X.A (noteFrame (.ref a) X.env) (fun _ s2=>zmI a s2.heap∧wpAny M X.A (setFlight (.ref a) none) Q E s2) E s'→wpAny M X.A (noteFrame (.ref a) X.env) (fun _ s2=>wpAny M X.A (setFlight (.ref a) none) Q E s2) E s':=fun z=>wpAny_mono z (fun _ _ z=>z.2) fun _ _ z=>z
 have hff2:=hff
 rw [hst] at hff2
 rcases r5 with z | ⟨T,oT,ts,z1,z2,z3,z4,z5,z6⟩ | ⟨l,T,oT,ts,zl,z1,z2,z3,z4,z5,z6⟩
 ·exact nt2 (zd7 (T:=none) (by rw [I.ok.frames,hst]) hff2 hfr r1 r4 (fl:=none) (.inl ⟨z,rfl⟩) fun h' l=>fin none h' (fun b e=>nomatch e) l)
 ·exact nt2 (zd7 (T:=some T) (by rw [I.ok.frames,hst]) hff2 hfr r1 r4 (fl:=none) (.inr (.inl ⟨T,oT,ts,rfl,z1,z3,z4,z5,z6⟩)) fun h' l=>fin (some T) h' (fun b e=>by cases e; exact z2) l)
 ·have hl:l=X.env.locals:=by
   unfold topF at zl
   rw [hst] at zl
   exact (Option.some.inj (hfr.symm.trans (show X.env.frame=some l from zl))).symm
  subst hl
  exact nt2 (zd7 (T:=some T) (by rw [I.ok.frames,hst]) hff2 hfr r1 r4 (fl:=none) (.inr (.inr ⟨T,oT,ts,rfl,z1,z3,z4,z5,z6⟩)) fun h' l=>fin (some T) h' (fun b e=>by cases e; exact z2) l)
end
end DL
end
section
namespace DL
open PySem PySem.Spec PyProof.Rows L2 PySem.W PySem.Calls
section
variable {X:Cx} {pins:List (Addr × Obj)} {σ:L2.St} {H H':Hp} {s s':Shared} {a C T:Addr} {od:Option Addr}
theorem zmz {i:Nat} {n xT:Str} {bm bmT:List Value} {np hpos:Pos} {b₀:Stmt} {suite:List Stmt} {t:TS} {D:Ends} {rest:List ExceptHandler} (F:Fly X.prog X.w X.stack H s H' a (.ref C) od s') (I:Inv X pins σ H s) (hst:X.stack=X.env::X.outer) (hfr:X.env.frame=some X.env.locals) (hcalm:X.calm=true)
  (cT:X.mg xT=some (.ref T)) (oT:XO X.K T bmT) (hbT:bmT.contains (Value.type "BaseException")=true) (oC:XO X.K C bm) (hit:(Value.ref C::bm).contains (.ref T)=true) (hg:Gl X xT)
  (hN:X.N.Nodup) (hi:X.N[i]? = some n) (hl:X.env.kindOf n=some NameKind.local) (hsc:X.env.scope.names.lookup n=some .local)
  (hs:PSs (X.held (.ref a)) (b₀::suite) t)
  (q:H' a=none→t { nx:=fun σ' H2=>D.nx (σ'.set i none) H2,rt:=fun _ _=>False } (σ.set i (some (.ref a))) (upd H' a (.ext (XcO a C od)))) (hdb:(xT == ("__debug__" : Str))=false:=by decide) :
  wpAny (model X.prog X.w) X.A (noteFrame (.ref a) X.env) (fun _ s₂=>wpAny (model X.prog X.w) X.A (setFlight (.ref a) none) (fun _ s₃=>wpAny (model X.prog X.w) X.A (handleBy (.ref a) X.env (.ExceptHandler (some (.Name xT np)) (some n) (b₀::suite) hpos::rest)) (SP X pins D) X.xe s₃) X.xe s₂) X.xe s':=by
 refine F.noted I hst hfr fun h' oe vs tb ot ts I1 hHa e1 e2 e3 e4 e5 e6 e7=>?_
 refine wpAny_handleBy_cons ?_ (by intro z; cases z)
 have Ih:=Inv.held I1 (.ref a)
 refine codeAny_handlers_test (zer (X:=X.held (.ref a)) Ih hg cT ?_ hdb)
 obtain ⟨N1,nm1,q1,bs1,hd1,sn1,sub1,ab1,col1,dd1,a0,a1,a2,a3,a5,nw1,z1⟩:=oC
 obtain ⟨N2,nm2,q2,bs2,hd2,sn2,sub2,ab2,col2,dd2,c0,c1,c2,c3,c5,nw2,z2⟩:=oT
 refine zfT (I1.kIn _ _ z1) (I1.kIn _ _ z2) e1 e2 hbT ?_
 rw [hit,if_pos rfl]
 refine codeAny_handlers_suite_as ?_
 unfold setFlight
 refine wpAny_bind (wpAny_field e1 e3 e4 ?_)
 rw [if_pos (by rfl)]
 have h3s:3 < ts.size:=(Array.getElem?_eq_some_iff.mp e7).1
 refine wpAny_setField e5 e6 h3s ?_
 have I2:Inv X pins σ (upd H' a (.ext (XcO a C od))) { heap:=h'.update tb (Obj.mapFields fun v=>v.setIfInBounds 3 Value.none),gens:=s'.gens,drawn:=s'.drawn,toks:=s'.toks,os:=s'.os }:=by
  refine I1.kept fun b u e=>?_
  show (h'.update tb _).get? b=some u
  by_cases hb:b=tb
  ·subst hb
   have e5':h'.get? b=some ot:=e5
   have:u=ot:=by rw [show h'.get? b=some u from e] at e5'; cases e5'; rfl
   subst this
   have mf:Obj.mapFields (fun v=>v.setIfInBounds 3 Value.none) u=u:=by
    obtain ⟨c,d,da,sl⟩:=u
    have:da=.fields ts:=e6
    subst this
    show ({ cls:=c,dict:=d,data:=.fields (ts.setIfInBounds 3 Value.none),slots:=sl }:Obj)=_
    have:ts.setIfInBounds 3 Value.none=ts:=by
     refine Array.ext_getElem? fun j=>?_
     by_cases hj:3=j
     ·subst hj; rw [Array.getElem?_setIfInBounds_self_of_lt h3s,e7]
     ·rw [Array.getElem?_setIfInBounds_ne hj]
    rw [this]
   have nf:(Obj.mapFields (fun v=>v.setIfInBounds 3 Value.none) u).isFreed=false:=by
    obtain ⟨c,d,da,sl⟩:=u
    have:da=.fields ts:=e6
    subst this
    rfl
   have:=Heap.get?_update_self (Obj.mapFields fun v=>v.setIfInBounds 3 Value.none) e5' nf
   rw [mf] at this
   exact this
  ·rw [Heap.get?_update_ne _ _ _ _ hb]; exact e
 refine zeR (X:=X.held (.ref a)) (i:=i) (v:=.ref a) (Inv.held I2 (.ref a)) hN hi (.inl hsc) rfl (fun s3 I3=>?_) (.inr hsc)
 refine wpAny_mono (hs pins s3 _ _ _ I3 (q hHa)) (fun f s4 h4=>?_) fun _ _ z=>False.elim z
 have fin:∀{σ':L2.St} {H2:Hp} ,Inv (X.held (.ref a)) pins σ' H2 s4→D.nx (σ'.set i none) H2→f=Flow.next→wpAny (model X.prog X.w) X.A (do
   bindName X.env n Value.none
   unbindBehindTheSuite X.env n hpos) (fun _ s₅=>SP X pins D f s₅) X.xe s4:=fun {σ' H2} I4 k hf=>by
  subst hf
  have I4':Inv X pins σ' H2 s4:=Inv.unheld I.ok.hd I4
  refine wpAny_bind (wpAny_bindName (zeR (i:=i) (v:=.non) I4' hN hi (.inl hsc) rfl (fun s5 I5=>?_) (.inr hsc)))
  have hlen:i < σ'.length:=by rw [I4'.len]; exact (List.getElem?_eq_some_iff.mp hi).1
  refine zjE (v:=.non) I5 hN hi (by rw [List.getElem?_set_self hlen]) hl hsc fun s6 I6=>?_
  rw [List.set_set] at I6
  exact ⟨_,H2,I6,k⟩
 cases f with
 | next=>obtain ⟨σ',H2,I4,k⟩:=h4; exact fin I4 k rfl
 | brk=>obtain ⟨σ',H2,I4,k⟩:=h4; exact k.elim
 | cont=>obtain ⟨σ',H2,I4,k⟩:=h4; exact k.elim
 | ret u=>obtain ⟨v,σ',H2,I4,_,k⟩:=h4; exact k.elim
end
end DL
end
section
namespace DL
open PySem PySem.Spec PyProof.Rows L2 PySem.W PySem.Calls
theorem SI.cx {X X':Cx} {g:GE} {m:List Md} {r:Rho} {G:GH} {st:L2.St} {H:Hp} (s:SI X g m r G st H) (h:X'.K=X.K):SI X' g m r G st H:=by
 constructor
 ·rw [h]; exact s.gok
 ·exact s.old
 ·exact s.ge
 ·exact s.gf
 ·exact s.lm
 ·exact s.lr
 ·rw [h]; exact s.sh
 ·rw [h]; exact s.ow
 ·rw [h]; exact s.bw
 ·exact s.dis
 ·exact s.lk
theorem SI.unset {X:Cx} {g:GE} {m:List Md} {r:Rho} {G:GH} {st:L2.St} {H:Hp} {i:Nat} (s:SI X g m r G st H) (hm:m[i]? = some .sh):SI X g m (r.set i none) G (st.set i none) H:=by
 have key:∀{j:Nat} {d:D},(r.set i none)[j]? = some (some d)→i≠j∧r[j]? = some (some d):=fun {j d} h=>by
  have hij:i≠j:=by
   rintro rfl
   rw [List.getElem?_set,if_pos rfl] at h
   split at h <;> cases h
  rw [List.getElem?_set_ne hij] at h
  exact ⟨hij,h⟩
 refine ⟨s.gok,s.old,s.ge,s.gf,by rw [List.length_set]; exact s.lm,by rw [List.length_set,List.length_set]; exact s.lr,fun j d h hj=>?_,fun j d h hj=>?_,fun j d h hj=>?_,fun j k a d e hjk h1 h2 m1 m2 q1 q2=>?_,fun j o h hj=>?_⟩
 ·obtain ⟨hij,h⟩:=key h
  rw [List.getElem?_set_ne hij]; exact s.sh j d h hj
 ·obtain ⟨hij,h⟩:=key h
  rw [List.getElem?_set_ne hij]; exact s.ow j d h hj
 ·obtain ⟨hij,h⟩:=key h
  rw [List.getElem?_set_ne hij]; exact s.bw j d h hj
 ·obtain ⟨z1,h1⟩:=key h1
  obtain ⟨z2,h2⟩:=key h2
  rw [List.getElem?_set_ne z1] at q1
  rw [List.getElem?_set_ne z2] at q2
  exact s.dis j k a d e hjk h1 h2 m1 m2 q1 q2
 ·have hij:i≠j:=by rintro rfl; rw [hm] at hj; cases hj
  obtain ⟨l1,l2⟩:=s.lk j o h hj
  exact ⟨by rw [List.getElem?_set_ne hij]; exact l1,fun d hd=>l2 d (by rw [List.getElem?_set_ne hij] at hd; exact hd)⟩
abbrev _root_.L2.Cx.tr (X:Cx) (ps:List (Addr × Obj)) (E:Value→Shared→Prop):Cx:={ X with pn:=ps,xe:=E }
section
variable {X:Cx} {pins pins':List (Addr × Obj)} {σ:L2.St} {H:Hp} {s:Shared} {E:Value→Shared→Prop}
theorem Inv.tr (I:Inv X pins σ H s) (E:Value→Shared→Prop):Inv (X.tr (X.pn++pins) E) [] σ H s:=
 ⟨⟨I.ok.mod,I.ok.kind,I.ok.glob,I.ok.blt,I.ok.above,I.ok.inj,I.ok.has,I.ok.cab,I.ok.hd,I.ok.frames,I.ok.stk,I.ok.exf,I.ok.bs,I.ok.bsz,I.ok.noex,I.ok.exfs,I.ok.funs,I.ok.frf⟩,I.os,I.bare,I.base,I.loc,I.cell,I.free,I.freeC,fun p hp=>I.pin p (by rw [List.append_nil] at hp; exact hp),I.hok,I.len⟩
theorem Inv.untr (I:Inv (X.tr (X.pn++pins) E) pins' σ H s):Inv X pins σ H s:=
 ⟨⟨I.ok.mod,I.ok.kind,I.ok.glob,I.ok.blt,I.ok.above,I.ok.inj,I.ok.has,I.ok.cab,I.ok.hd,I.ok.frames,I.ok.stk,I.ok.exf,I.ok.bs,I.ok.bsz,I.ok.noex,I.ok.exfs,I.ok.funs,I.ok.frf⟩,I.os,I.bare,I.base,I.loc,I.cell,I.free,I.freeC,fun p hp=>I.pin p (List.mem_append_left _ hp),I.hok,I.len⟩
theorem SP.untr {D:Ends} {f:Flow} (h:SP (X.tr (X.pn++pins) E) [] D f s):SP X pins D f s:=by
 cases f with
 | next=>obtain ⟨σ',H',I,q⟩:=h; exact ⟨σ',H',Inv.untr I,q⟩
 | brk=>obtain ⟨σ',H',I,q⟩:=h; exact ⟨σ',H',Inv.untr I,q⟩
 | cont=>obtain ⟨σ',H',I,q⟩:=h; exact ⟨σ',H',Inv.untr I,q⟩
 | ret u=>obtain ⟨v,σ',H',I,r,q⟩:=h; exact ⟨v,σ',H',Inv.untr I,r,q⟩
end
def zmH (K:PySem.W.Frag) (T:Addr) (hit:Str→Bool):Prop:=∀nm C,hit nm=true→XN K nm C→∃bm,XO K C bm∧(Value.ref C::bm).contains (.ref T)=true
def xNm:D→Option Str
 | .obj 0 ((_,.str nm)::_)=>some nm
 | _=>none
def tryF (m1:List Md) (i:Nat) (hit:Str→Bool) (fb fh:FS):FS:=fun r=>match fb r with
 | .nx r'=>.nx (forget m1 r')
 | .rt d=>.rt d
 | .exc x r'=>(match xNm x with
  | some nm=>if hit nm=true then (match fh (r'.set i (some x)) with
   | .nx r2=>.nx (r2.set i none)
   | _=>.stuck) else .stuck
  | none=>.stuck)
 | _=>.stuck
section
variable {X:Cx} {g:GE} {ro:Bool} {m m1 mb:List Md} {T:Addr} {fb fh:FS}
theorem zrC {n xT:Str} {bmT:List Value} {np hpos pos:Pos} {body suite:List Stmt} {b₀:Stmt} {hit:Str→Bool} (i:Nat) (hst:X.stack=X.env::X.outer) (hfr:X.env.frame=some X.env.locals) (hcalm:X.calm=true)
  (cT:X.mg xT=some (.ref T)) (oT:XO X.K T bmT) (hbT:bmT.contains (Value.type "BaseException")=true) (hk:zmH X.K T hit) (hg:Gl X xT) (hN:X.N.Nodup) (hi:X.N[i]? = some n) (hl:X.env.kindOf n=some NameKind.local) (hsc:X.env.scope.names.lookup n=some .local)
  (hb:∀ps E,SSs (X.tr ps E) g ro [] m body fb m1) (hs:∀a,SSs (X.held (.ref a)) g ro [] (zbG m1) (b₀::suite) fh (zbG m1)) (hdb:(xT == ("__debug__" : Str))=false:=by decide) :
  SS X g ro mb m (.Try body [.ExceptHandler (some (.Name xT np)) (some n) (b₀::suite) hpos] [] [] pos) (tryF m1 i hit fb fh) (zbG m1):=by
 have hml:(zbG m1).length=m.length:=by rw [zbG,List.length_map]; exact (hb [] fun _ _=>False).1
 refine ⟨hml,fun pins s σ H D I ⟨r,G,si,q⟩=>?_⟩
 refine wpAny_Try_except ?_
 generalize hE:(fun (e:Value) (s₁:Shared)=>wpAny (model X.prog X.w) X.A (noteFrame e X.env) (fun _ s₂=>wpAny (model X.prog X.w) X.A (setFlight e none) (fun _ s₃=>wpAny (model X.prog X.w) X.A (handleBy e X.env [.ExceptHandler (some (.Name xT np)) (some n) (b₀::suite) hpos]) (SP X pins D) X.xe s₃) X.xe s₂) X.xe s₁)=E'
 have key:oTo (X.tr (X.pn++pins) E') g ro m1 [] G { nx:=D.nx,rt:=D.rt } (fb r):=by
  unfold tryF at q
  cases e:fb r with
  | nx r'=>
   rw [e] at q
   exact fun σ' G' H' le si'=>q σ' G' H' le (SI.cx (X':=X) si' rfl).forget
  | rt d=>rw [e] at q; exact q
  | bk r'=>rw [e] at q; exact q.elim
  | ct r'=>rw [e] at q; exact q.elim
  | stuck=>rw [e] at q; exact q
  | exc x r'=>
   rw [e] at q
   intro pins' ev s' σ' G' H' le si' I' ex
   obtain ⟨pins1,s1,H1,a,C,od,nm,ds,rfl,rfl,xn,xf,I1,fl⟩:=ex
   show E' (.ref a) s'
   rw [←hE]
   replace q:oTo X g ro (zbG m1) mb G D (if hit nm=true then (match fh (r'.set i (some (xD nm ds))) with
    | .nx r2=>.nx (r2.set i none)
    | _=>.stuck) else .stuck):=q
   split at q
   ·rename_i hh
    obtain ⟨bm,oC,hc⟩:=hk nm C hh xn
    refine zmz (i:=i) (D:=D) fl (Inv.untr I1) hst hfr hcalm cT oT hbT oC hc hg hN hi hl hsc (hs a).2 (fun hHa=>?_) hdb
    have hGa:G' a=none:=si'.gok.isN hHa
    have w:Grow X.K G' H' (gset G' a (xD nm ds)) (upd H' a (.ext (XcO a C od))):=by
     have ge:∀b d,G' b=some d→gset G' a (xD nm ds) b=some d:=fun b d e=>by
      have:b≠a:=by rintro rfl; rw [hGa] at e; cases e
      rw [za4 this]; exact e
     refine ⟨fun b d e=>?_,fun b o e=>?_,ge,fun b h=>?_⟩
     ·by_cases hb:b=a
      ·subst hb
       rw [zax] at e
       cases e
       exact .exc zak xn (xf.mono ge)
      ·rw [za4 hb] at e
       exact (si'.gok b d e).mono ge fun o z=>by rw [zal hb]; exact z
     ·have:b≠a:=by rintro rfl; rw [hHa] at e; cases e
      rw [zal this]; exact e
     ·have:b≠a:=by rintro rfl; exact h hHa
      exact za4 this
    have si2:=((SI.cx (X':=X) si' rfl).grow w).set i (.ref zax)
    have hms:(zbG m1)[i]? = some .sh:=by
     have hlen:i < (zbG m1).length:=by
      rw [si'.lm,I'.len]; exact (List.getElem?_eq_some_iff.mp hi).1
     have hlen':i < m1.length:=by rw [zbG,List.length_map] at hlen; exact hlen
     unfold zbG
     rw [List.getElem?_map,List.getElem?_eq_getElem hlen']
     rfl
    have hset:(zbG m1).set i .sh=zbG m1:=by
     refine List.ext_getElem? fun j=>?_
     by_cases hj:i=j
     ·subst hj
      rw [List.getElem?_set_self (List.getElem?_eq_some_iff.mp hms).1,hms]
     ·rw [List.getElem?_set_ne hj]
    rw [hset] at si2
    refine ⟨_,_,SI.cx si2 rfl,?_⟩
    cases e2:fh (r'.set i (some (xD nm ds))) with
    | nx r2=>
     rw [e2] at q
     exact fun σ2 G2 H2 le2 si3=>q (σ2.set i none) G2 H2 (le.trans (Gle.trans w.ge le2)) (SI.unset (SI.cx si3 rfl) hms)
    | rt d=>rw [e2] at q; exact q.elim
    | bk _=>rw [e2] at q; exact q.elim
    | ct _=>rw [e2] at q; exact q.elim
    | exc _ _=>rw [e2] at q; exact q.elim
    | stuck=>rw [e2] at q; exact q.elim
   ·exact q.elim
 refine wpAny_mono ((hb (X.pn++pins) E').2 [] s σ H _ (Inv.tr I E') ⟨r,G,SI.cx si rfl,key⟩) (fun f s1 h1=>?_) fun e s1 h1=>?_
 ·have h2:=SP.untr h1
  cases f with
  | next=>
   obtain ⟨σ',H',I',k⟩:=h2
   exact wpAny_execs_nil ⟨σ',H',I',k⟩
  | brk=>obtain ⟨σ',H',I',k⟩:=h2; exact k.elim
  | cont=>obtain ⟨σ',H',I',k⟩:=h2; exact k.elim
  | ret u=>exact h2
 ·exact h1
end
end DL
end
section
namespace DL
open PySem PySem.Spec PyProof.Rows L2 PySem.W PySem.Calls
theorem zox:builtinKind "BaseException.__getattribute__" = some .slot:=by kernel_rfl
theorem zlo:splitId "BaseException.__getattribute__" = some ("BaseException","__getattribute__"):=by decide +kernel
theorem zlT:plainId "BaseException.__getattribute__" = true:=by kernel_rfl
theorem zno:typeOf (.builtin "BaseException.__getattribute__")=pure (.type "wrapper_descriptor"):=by kernel_rfl
section
variable {prog:Program} {w:World} {A:Around} {E:Value→Shared→Prop} {s:Shared} {nm q:Str} {C N a:Addr} {bs bm:List Value} {hdct:Bool} {sn:List Str} {sub:List Value} {ab:Bool} {col:Option Bool} {dd:Option Addr} {k0 k1 k2 k3 k5:Option Value} {newId:String} {oe:Obj}
theorem ziI {T:String} {Q:Bool→Shared→Prop} (hC:s.heap.get? C=some (excClassObj nm q C N bs bm hdct sn sub ab col dd k0 k1 k2 k3 k5 newId)) (he:s.heap.get? a=some oe) (hc:oe.cls=.ref C) (hq:Q ((Value.ref C::bm).contains (.type T)) s):wpAny (model prog w) A (isInstance (.ref a) (.type T)) Q E s:=by
 unfold isInstance
 refine wpAny_bind (wpAny_typeOf_ref he ?_)
 rw [hc]
 obtain ⟨hh,hg,hdr,ht,ho⟩:=s
 exact wpAny_isSubtype_exc hC hq
theorem zmy {v:Value} {Q:Unit→Shared→Prop} (hC:s.heap.get? C=some (excClassObj nm q C N bs bm hdct sn sub ab col dd k0 k1 k2 k3 k5 newId)) (he:s.heap.get? a=some oe) (hc:oe.cls=.ref C) (hb:bm.contains (Value.type "BaseException")=true) (hq:Q () s) :
  wpAny (model prog w) A (checkBuiltinCall "BaseException.__getattribute__" ⟨[.ref a,v],[]⟩) Q E s:=by
 unfold checkBuiltinCall
 simp only [zox,zlo]
 refine wpAny_bind (ziI hC he hc ?_)
 rw [List.contains_cons,hb,Bool.or_true,if_neg (by simp)]
 have:=F.args_bexc_ga (.ref a) v
 unfold argsOk at this
 revert this
 generalize Manifest.signature? "BaseException.__getattribute__" = sg
 intro this
 cases sg with
 | none=>exact wpAny_pure hq
 | some sig=>
  have e:Bind.checkArgs "BaseException.__getattribute__" sig ⟨[.ref a,v],[]⟩=pure ():=this
  show wpAny _ _ (Bind.checkArgs "BaseException.__getattribute__" sig ⟨[.ref a,v],[]⟩) _ _ _
  rw [e]
  exact wpAny_pure hq
theorem zoU {v:Value} {Q:Value→Shared→Prop} (hC:s.heap.get? C=some (excClassObj nm q C N bs bm hdct sn sub ab col dd k0 k1 k2 k3 k5 newId)) (he:s.heap.get? a=some oe) (hc:oe.cls=.ref C) (hb:bm.contains (Value.type "BaseException")=true)
  (h:wpAny (model prog w) A.in1 (Builtin.«object.__getattribute__» ⟨[.ref a,v],[]⟩) (fun fin s'=>∃u,fin=.done (.ret u)∧Q u s') E s) :
  wpAny (model prog w) A (call (.builtin "BaseException.__getattribute__") [.ref a,v]) Q E s:=by
 refine wpAny_call (codeAny_call_builtin zlT F.entry_bexc_ga (zmy hC he hc hb ?_))
 refine wpAny_mono h (fun fin s' ⟨u,e,hq⟩=>?_) fun e s' z=>z
 subst e
 exact hq
theorem zk5 {K:PySem.W.Frag} {v:Value} {fill expr:Bool} {Q:Value→Shared→Prop} (kin:K.In s.heap) (hC:s.heap.get? C=some (excClassObj nm q C N bs bm hdct sn sub ab col dd k0 k1 k2 k3 k5 newId)) (he:s.heap.get? a=some oe) (hc:oe.cls=.ref C) (hb:bm.contains (Value.type "BaseException")=true)
  (g1:findIn K (.ref C) "__getattribute__" = some (some (.builtin "BaseException.__getattribute__"))) (g2:findIn K (.ref C) "__getattr__" = some none)
  (h:wpAny (model prog w) A.in1 (Builtin.«object.__getattribute__» ⟨[.ref a,v],[]⟩) (fun fin s'=>∃u,fin=.done (.ret u)∧handedOut u=pure u∧Q u s') (fun _ _=>False) s) :
  wpAny (model prog w) A (getAttrBy (.ref a) v fill expr) Q E s:=by
 unfold getAttrBy
 refine wpAny_holding (wpAny_bind (wpAny_typeOf_ref he ?_))
 rw [hc]
 refine wpAny_bind (looks_findIn kin g1 _ _ _ _ (fun b o e=>e) ?_)
 show wpAny _ _ (if (onTheHeap (Value.ref C) && (Value.builtin "BaseException.__getattribute__" == Value.builtin "object.__getattribute__"))=true then _ else _) _ _ _
 rw [if_neg (by intro z; rw [show (Value.builtin "BaseException.__getattribute__" == Value.builtin "object.__getattribute__")=false from by decide +kernel,Bool.and_false] at z; cases z)]
 unfold getAttrByItsOwn hookBefore
 rw [if_pos (by rfl)]
 refine wpAny_bind (looks_findIn kin g2 _ _ _ _ (fun b o e=>e) ?_)
 refine wpAny_bind (wpAny_attempt (wpAny_holding ?_))
 unfold callGetattribute
 have hx:(expr && onTheHeap (Value.builtin "BaseException.__getattribute__"))=false:=by cases expr <;> rfl
 rw [hx,if_neg Bool.false_ne_true]
 unfold boundAndCalled bindSpecial
 rw [zno]
 refine wpAny_bind (wpAny_bind (wpAny_pure ?_))
 rw [if_pos (by decide)]
 refine wpAny_pure ?_
 refine zoU hC he hc hb (wpAny_mono h (fun fin s' ⟨u,e,ho,hq⟩=>⟨u,e,?_⟩) fun _ _ z=>False.elim z)
 show wpAny _ _ (handedOut u) _ _ _
 rw [ho]
 exact wpAny_pure hq
end
end DL
end
section
namespace DL
open PySem PySem.Spec PyProof.Rows L2 PySem.W PySem.Calls
theorem zow:builtinKind "getset_descriptor.__get__" = some .slot:=by kernel_rfl
theorem zln:splitId "getset_descriptor.__get__" = some ("getset_descriptor","__get__"):=by decide +kernel
theorem zlS:plainId "getset_descriptor.__get__" = true:=by kernel_rfl
theorem zmu:entryFor table "getset_descriptor.__get__" = some Builtin.«getset_descriptor.__get__»:=by kernel_rfl
theorem zmt:entryFor table "object.__class__" = some Builtin.«object.__class__»:=by kernel_rfl
theorem znn:typeOf (.builtin "object.__class__")=pure (.type "getset_descriptor"):=by kernel_rfl
theorem zo1 (a b c:Value):argsOk "getset_descriptor.__get__" ⟨[a,b,c],[]⟩:=by kernel_rfl
theorem zlR:plainId "object.__class__" = true:=by kernel_rfl
theorem zqC:Builtin.Getset_descriptor.descrNameAndClass (.builtin "object.__class__")=pure (Str.ofString "__class__",Value.type "object"):=by kernel_rfl
theorem zpp:isSubtype (.type "getset_descriptor") (.type "getset_descriptor")=pure true:=by rw [isSubtype_type]; kernel_rfl
end DL
end
section
namespace DL
open PySem PySem.Spec PyProof.Rows L2 PySem.W PySem.Calls
section
variable {prog:Program} {w:World} {A:Around} {E:Value→Shared→Prop} {s:Shared} {nm q:Str} {C N a:Addr} {bs bm:List Value} {hdct:Bool} {sn:List Str} {sub:List Value} {ab:Bool} {col:Option Bool} {dd:Option Addr} {k0 k1 k2 k3 k5:Option Value} {newId:String} {oe:Obj}
theorem zml {Q:Value→Shared→Prop} (hC:s.heap.get? C=some (excClassObj nm q C N bs bm hdct sn sub ab col dd k0 k1 k2 k3 k5 newId)) (he:s.heap.get? a=some oe) (hc:oe.cls=.ref C) (hb:bm.contains (Value.type "object")=true) (hq:Q (.ref C) s) :
  wpAny (model prog w) A (call (.builtin "getset_descriptor.__get__") [.builtin "object.__class__",.ref a,.ref C]) Q E s:=by
 refine wpAny_call (codeAny_call_builtin zlS zmu ?_)
 unfold checkBuiltinCall
 simp only [zow,zln]
 unfold isInstance
 rw [znn]
 refine wpAny_bind (wpAny_bind (wpAny_pure ?_))
 rw [zpp]
 refine wpAny_pure ?_
 rw [if_neg (by decide)]
 have this:=zo1 (.builtin "object.__class__") (.ref a) (.ref C)
 unfold argsOk at this
 revert this
 generalize Manifest.signature? "getset_descriptor.__get__" = sg
 intro this
 have body:wpAny (model prog w) A.in1 (Builtin.«getset_descriptor.__get__» ⟨[.builtin "object.__class__",.ref a,.ref C],[]⟩) (fun fin s'=>match fin with
   | Fin.done f=>(match (Except.ok f:Result) with | .ok (.ret v)=>Q v s' | .ok _=>False | .error e=>E e s')
   | Fin.again c'=>c'.quiet=true∧codeAny (model prog w) A c' (fun r s'=>match r with | .ok (.ret v)=>Q v s' | .ok _=>False | .error e=>E e s') s') (fun e s'=>E e s') s:=by
  unfold Builtin.«getset_descriptor.__get__» Builtin.Getset_descriptor.descrGet Builtin.Getset_descriptor.descrGetArgs
  refine wpAny_bind ?_
  show wpAny _ _ (pure ((Value.builtin "object.__class__",some (Value.ref a),some (Value.ref C)):Value × Option Value × Option Value)) _ _ _
  refine wpAny_pure ?_
  unfold Builtin.Getset_descriptor.descrGetter Builtin.Getset_descriptor.descrCheckInstance
  dsimp only
  rw [zqC]
  refine wpAny_bind (wpAny_bind (wpAny_pure (wpAny_bind (ziI hC he hc ?_))))
  rw [List.contains_cons,hb,Bool.or_true,if_neg (by simp)]
  refine wpAny_pure (wpAny_pure ⟨plainId_quiet zlR _,?_⟩)
  refine codeAny_builtin zmt ?_
  unfold Builtin.«object.__class__» shownTypeOf
  refine wpAny_bind (wpAny_bind (wpAny_typeOf_ref he ?_))
  rw [hc,if_neg (by intro z; cases z)]
  exact wpAny_pure (wpAny_pure hq)
 cases sg with
 | none=>exact wpAny_pure body
 | some sig=>
  have e:Bind.checkArgs "getset_descriptor.__get__" sig ⟨[.builtin "object.__class__",.ref a,.ref C],[]⟩=pure ():=this
  show wpAny _ _ (Bind.checkArgs "getset_descriptor.__get__" sig ⟨[.builtin "object.__class__",.ref a,.ref C],[]⟩) _ _ _
  rw [e]
  exact wpAny_pure body
theorem zmn {K:PySem.W.Frag} {tk:Tok} {Q:Value→Shared→Prop} (kin:K.In s.heap) (hC:s.heap.get? C=some (excClassObj nm q C N bs bm hdct sn sub ab col dd k0 k1 k2 k3 k5 newId)) (he:s.heap.get? a=some oe) (hc:oe.cls=.ref C) (hb:bm.contains (Value.type "object")=true)
  (g1:findIn K (.ref C) "__class__" = some (some (.builtin "object.__class__"))) (g2:specialIn K (.builtin "object.__class__") "__get__" = some (some (.builtin "getset_descriptor.__get__"))) (g3:takesIn K (.builtin "object.__class__")=some true) (hq:Q (.ref C) s) :
  wpAny (model prog w) A (Builtin.«object.__getattribute__» ⟨[.ref a,.str "__class__" tk],[]⟩) (fun fin s'=>∃u,fin=.done (.ret u)∧handedOut u=pure u∧Q u s') E s:=by
 unfold Builtin.«object.__getattribute__»
 refine wpAny_bind ?_
 show wpAny _ _ (pure ((Value.ref a,[Value.str "__class__" tk]):Value × List Value)) _ _ _
 refine wpAny_pure ?_
 show wpAny _ _ (Builtin.ObjectAttr.attrName (Value.str "__class__" tk) >>= _) _ _ _
 refine wpAny_bind ?_
 show wpAny _ _ (pure (Str.ofString "__class__")) _ _ _
 refine wpAny_pure (wpAny_bind (wpAny_typeOf_ref he ?_))
 rw [hc]
 refine wpAny_bind ?_
 unfold Builtin.ObjectAttr.find
 refine wpAny_bind (looks_findIn kin g1 _ _ _ _ (fun b o e=>e) ?_)
 refine wpAny_bind ?_
 show wpAny _ _ (specialOf (Value.builtin "object.__class__") (Str.ofString "__get__")) _ _ _
 refine looks_specialIn kin g2 _ _ _ _ (fun b o e=>e) ?_
 refine wpAny_bind ?_
 show wpAny _ _ (Builtin.ObjectAttr.takesStores (Value.builtin "object.__class__") >>= _) _ _ _
 refine wpAny_bind (looks_takesIn kin g3 _ _ _ _ (fun b o e=>e) ?_)
 rw [if_pos rfl]
 refine wpAny_pure (wpAny_bind (wpAny_rule (wpAny_pure ?_)))
 unfold Builtin.ObjectAttr.bindTo
 show wpAny _ _ (holding [Value.builtin "object.__class__"] (call (Value.builtin "getset_descriptor.__get__") [Value.builtin "object.__class__",Value.ref a,Value.ref C]) >>= fun v=>ret v) _ _ _
 refine wpAny_bind (wpAny_holding (zml hC he hc hb ?_))
 exact wpAny_pure ⟨_,rfl,rfl,hq⟩
end
end DL
end
section
namespace DL
open PySem PySem.Spec PyProof.Rows L2 PySem.W PySem.Calls
structure XA (K:PySem.W.Frag) (C:Addr) (bm:List Value):Prop where
 ob:XO K C bm
 be:bm.contains (Value.type "BaseException")=true
 bo:bm.contains (Value.type "object")=true
 ga:findIn K (.ref C) "__getattribute__" = some (some (.builtin "BaseException.__getattribute__"))
 gn:findIn K (.ref C) "__getattr__" = some none
 gc:findIn K (.ref C) "__class__" = some (some (.builtin "object.__class__"))
 gg:specialIn K (.builtin "object.__class__") "__get__" = some (some (.builtin "getset_descriptor.__get__"))
 gt:takesIn K (.builtin "object.__class__")=some true
theorem zmf {K:PySem.W.Frag} {a C:Addr} {od:Option Addr} {bm:List Value} (x:XA K C bm):KitX K (.ref a) (.ref C) (XcO a C od):=by
 obtain ⟨N1,nm1,q1,bs1,hd1,sn1,sub1,ab1,col1,dd1,a0,a1,a2,a3,a5,nw1,z1⟩:=x.ob
 refine ⟨fun M h kin hx A Q E s hk hq=>?_,fun M h kin hx A Q E s hk hq=>?_,fun h tp dd its n sl kin ht=>?_,fun {prog w A E Q s} kin hx hq=>?_⟩
 ·obtain ⟨oe,vs,e1,e2,_⟩:=hx
  exact wpAny_typeOf_ref (hk _ _ e1) (by rw [e2]; exact hq)
 ·obtain ⟨hh,hg,hdr,ht,ho⟩:=s
  exact ks_wpAny_isType_cls (hk _ _ (kin _ _ z1)) rfl hq
 ·cases hb:(Value.ref C == Value.ref tp) with
  | false=>rfl
  | true=>
   have e:Value.ref C=Value.ref tp:=eq_of_beq hb
   cases e
   have:=kin _ _ z1
   rw [ht] at this
   have h2:=congrArg Obj.data (Option.some.inj this)
   cases h2
 ·obtain ⟨oe,vs,e1,e2,_⟩:=hx
  unfold getAttr?
  refine wpAny_bind (wpAny_mkText ?_)
  unfold getAttrBy?
  refine wpAny_bind (wpAny_attempt (zk5 kin (kin _ _ z1) e1 e2 x.be x.ga x.gn ?_))
  exact zmn (s:={ heap:=s.heap,gens:=s.gens,drawn:=s.drawn,toks:=s.toks + 1,os:=s.os }) kin (kin _ _ z1) e1 e2 x.bo x.gc x.gg x.gt (wpAny_pure hq)
end DL
end
section
namespace DL
open PySem PySem.Spec PyProof.Rows L2 PySem.W PySem.Calls
def isxD (tab:Str→Option Bool):D→Option D
 | .non=>some (.bl false)
 | .obj 0 ((_,.str nm)::_)=>(tab nm).map .bl
 | _=>none
structure IsxOk (K:PySem.W.Frag) (c:Value) (tab:Str→Option Bool):Prop where
 no:kitOne K (.type "NoneType") c=some false
 ex:∀nm b C,tab nm=some b→XN K nm C→∃bm,XA K C bm∧kitOne K (.ref C) c=some b
section
variable {X:Cx} {g:GE} {m:List Md} {e:Expr} {f:FE} {pos p p2:Pos}
theorem zmB {c:Value} {cv:V} (hcv:∀u,RelV cv u→u=c):zc2 X (.builtin "isinstance") (fun xs H Q=>∃x b,xs=[x,cv]∧((x=.non∧kitOne X.K (.type "NoneType") c=some b)∨∃a C od bm,x=.ref a∧H a=some (.ext (XcO a C od))∧XA X.K C bm∧kitOne X.K (.ref C) c=some b)∧Q (.bl b) H):=by
 intro pins s σ H xs us Q I r h
 obtain ⟨x,b,rfl,h,q⟩:=h
 obtain ⟨u,w',rfl,rx,ry⟩:=zlj r
 have:=hcv _ ry
 subst this
 have fin:∀tk,EP X pins σ Q (.bool b) { s with toks:=tk }:=fun tk=>⟨.bl b,H,I.tok tk,rfl,q⟩
 rcases h with ⟨rfl,e⟩ | ⟨a,C,od,bm,rfl,ea,xa,e⟩
 ·cases rx
  exact PySem.W.kia_one PySem.W.kitx_none I.kIn True.intro e (fun z=>nomatch z) fin
 ·cases (show u=Value.ref a from rx)
  exact PySem.W.kia_one (zmf xa) I.kIn (I.hok a _ ea).1 e (fun z=>nomatch z) fin
theorem RB.exc {K:PySem.W.Frag} {G:GH} {H:Hp} {v:V} {k:Str} {nm:Str} {ds:List (Str × D)} (gk:GOk K G H) (h:RB K G H v (.obj 0 ((k,.str nm)::ds))):∃a C od,v=.ref a∧H a=some (.ext (XcO a C od))∧XN K nm C:=by
 rcases h with h | ⟨a,rfl,h⟩
 ·cases h with
  | scl s=>cases s
  | ref e=>
   cases gk _ _ e with
   | exc r n f=>exact ⟨_,_,_,rfl,r,n⟩
  | kc k=>cases k
 ·cases h.ob
theorem zmQ {c:Value} {cv:V} {tab:Str→Option Bool} {a2:Expr} (hcv:∀u,RelV cv u→u=c) (hx:IsxOk X.K c tab) (h2:PE X a2 (tC cv)) (hg:Gl X "isinstance") (hm:X.mg "isinstance" = none) (he:SB X g m e f)
  (hs1:starEach [e,a2] X.env=(false,eval e X.env)::starEach [a2] X.env:=by rfl) (hs2:starEach [a2] X.env=(false,eval a2 X.env)::starEach [] X.env:=by rfl)
  (hpl:(backTo pos (starEach [a2] X.env)).any (·.1)=false:=by rfl) :
  SE X g m (.Call (.Name "isinstance" p) [e,a2] [] pos) (f1 f (isxD tab)):=by
 refine PE.imp (zdp (zmB hcv) hg hm (by first | exact PyProof.Rows.boot_isinstance | rfl) (zbH he (zbH h2 zd6 hs2) hs1) (by decide) (by decide) hs1 hpl) fun σ H Q ⟨r,G,si,q⟩=>⟨r,G,si,zaf (zah q) fun d q1 v G1 H1 w1 r1=>?_⟩
 obtain ⟨d',e',q2⟩:=zaD q1
 unfold isxD at e'
 split at e'
 ·cases e'
  have hv:v=.non:=r1.non w1.ok
  subst hv
  exact ⟨.non,false,rfl,.inl ⟨rfl,hx.no⟩,q2 _ G1 H1 w1 (.scl (.bl _))⟩
 ·rename_i k nm ds
  cases ht:tab nm with
  | none=>rw [ht] at e'; cases e'
  | some b=>
   rw [ht] at e'
   cases e'
   obtain ⟨a,C,od,rfl,ha,xn⟩:=RB.exc w1.ok r1
   obtain ⟨bm,xa,hk⟩:=hx.ex nm b C ht xn
   exact ⟨.ref a,b,rfl,.inr ⟨a,C,od,bm,rfl,ha,xa,hk⟩,q2 _ G1 H1 w1 (.scl (.bl _))⟩
 ·cases e'
theorem zi2 {x:Str} {T:Addr} {tab:Str→Option Bool} (hmT:X.mg x=some (.ref T)) (hx:IsxOk X.K (.ref T) tab) (hgT:Gl X x) (hg:Gl X "isinstance") (hm:X.mg "isinstance" = none) (he:SB X g m e f) (hd:(x == ("__debug__" : Str))=false:=by decide)
  (hs1:starEach [e,.Name x p2] X.env=(false,eval e X.env)::starEach [.Name x p2] X.env:=by rfl) (hs2:starEach [.Name x p2] X.env=(false,eval (.Name x p2) X.env)::starEach [] X.env:=by rfl)
  (hpl:(backTo pos (starEach [.Name x p2] X.env)).any (·.1)=false:=by rfl) :
  SE X g m (.Call (.Name "isinstance" p) [e,.Name x p2] [] pos) (f1 f (isxD tab)):=
 zmQ (cv:=.ref T) (fun u h=>h) hx (zoc (v:=.ref T) hgT hmT rfl hd) hg hm he hs1 hs2 hpl
theorem zpz {x:Str} {T:String} {tab:Str→Option Bool} (hv:bootBuiltins x=some (.type T)) (hmT:X.mg x=none) (hx:IsxOk X.K (.type T) tab) (hgT:Gl X x) (hg:Gl X "isinstance") (hm:X.mg "isinstance" = none) (he:SB X g m e f) (hn:x≠"__name__" := by decide) (hd:(x == ("__debug__" : Str))=false:=by decide)
  (hs1:starEach [e,.Name x p2] X.env=(false,eval e X.env)::starEach [.Name x p2] X.env:=by rfl) (hs2:starEach [.Name x p2] X.env=(false,eval (.Name x p2) X.env)::starEach [] X.env:=by rfl)
  (hpl:(backTo pos (starEach [.Name x p2] X.env)).any (·.1)=false:=by rfl) :
  SE X g m (.Call (.Name "isinstance" p) [e,.Name x p2] [] pos) (f1 f (isxD tab)):=
 zmQ (cv:=.ty T) (fun u h=>h) hx (zj8 (v:=.ty T) hgT hmT hv rfl hn hd) hg hm he hs1 hs2 hpl
end
end DL
end
section
namespace DL
open PySem PySem.Spec PyProof.Rows L2 PySem.W PySem.Calls
section
variable {X:Cx} {g:GE} {m:List Md} {e:Expr} {es:List Expr} {fl:Rho→Res (List D)} {k:Nat} {ps:List Str} {F:List D→Res D} {x:Str} {p pos:Pos} {ms:List Md}
theorem zfA (c:CalleeX X.prog X.w X.K X.mg X.base x ps [] k false ms F) (hr:Room k X.A) (ha:SAM X g m (e::es) ms fl) (hg:Gl X x:=by rfl)
  (hdb:(x == ("__debug__" : Str))=false:=by decide) (he:starEach (e::es) X.env=(false,eval e X.env)::starEach es X.env:=by rfl) (hpl:(backTo pos (starEach es X.env)).any (·.1)=false:=by rfl) :
  SE X g m (.Call (.Name x p) (e::es) [] pos) (zc9 fl [] F):=
 znJ (ms:=ms) (dds:=[]) (dvs:=[]) (ds:=[]) (by rw [show (List.replicate ([]:List D).length Md.sh)=[] from rfl,List.append_nil]; exact c) hr .nil .nil ha hg hdb he hpl
end
theorem XN.uniq {K:PySem.W.Frag} {nm:Str} {C c:Addr} (h:XN K nm C) (k:(K.all fun e=>match e.2.data with | .cls cd=>cd.name != nm || e.1 == c | _=>true)=true):C=c:=by
 obtain ⟨o,cd,h1,h2,h3⟩:=h
 have hm:(C,o)∈(K:List (Addr × Obj)):=by
  have key:∀l:List (Addr × Obj),l.lookup C=some o→(C,o)∈l:=by
   intro l
   induction l with
   | nil=>intro h; cases h
   | cons q l ih=>
    intro h
    rw [List.lookup] at h
    split at h
    ·rename_i hb
     have:=eq_of_beq hb
     cases h
     rw [this]; exact List.mem_cons_self
    ·exact List.mem_cons_of_mem _ (ih h)
  exact key K h1
 have:=List.all_eq_true.mp k _ hm
 simp only [h2] at this
 rw [h3] at this
 simpa using this
end DL
end
section
namespace DL
open PySem PySem.Spec PyProof.Rows L2 PySem.W PySem.Calls
def xoIn (K:PySem.W.Frag) (C:Addr):Option (List Value × Str):=match K.lookup C with
 | some ⟨.type "type",_,.cls cd,sl⟩=>(match cd.mro,sl.toList with
  | .ref C'::bm,[_,_,_,_,some (.builtin _),_]=>if (C' == C && ! cd.hasDel)=true then some (bm,cd.name) else none
  | _,_=>none)
 | _=>none
theorem znl {K:PySem.W.Frag} {C:Addr} {bm:List Value} {nm:Str} (h:xoIn K C=some (bm,nm)):XO K C bm∧XN K nm C:=by
 unfold xoIn at h
 split at h
 ·rename_i dict cd sl hk
  split at h
  ·rename_i C' bm' k0 k1 k2 k3 n k5 hm hs
   split at h
   ·rename_i hc
    cases h
    simp only [Bool.and_eq_true,beq_iff_eq,Bool.not_eq_true'] at hc
    obtain ⟨rfl,hd⟩:=hc
    refine ⟨?_,_,cd,hk,rfl,rfl⟩
    obtain ⟨nm',bs,mro,ns,q,hdct,sn,sub,ab,col,hdel⟩:=cd
    have e1:mro=Value.ref C'::bm:=hm
    have e2:hdel=false:=hd
    subst e1 e2
    have e3:sl = #[k0,k1,k2,k3,some (Value.builtin n),k5]:=by
     cases sl with
     | mk l=>exact congrArg Array.mk hs
    subst e3
    exact ⟨_,_,_,_,_,_,_,_,_,_,_,_,_,_,_,_,hk⟩
   ·cases h
  ·cases h
 ·cases h
def unIn (K:PySem.W.Frag) (nm:Str) (c:Addr):Bool:=K.all fun e=>match e.2.data with
 | .cls cd=>cd.name != nm || e.1 == c
 | _=>true
structure CF (K:PySem.W.Frag) (nm:Str) (c:Addr) (bm:List Value):Prop where
 xa:XA K c bm
 xn:XN K nm c
 un:unIn K nm c=true
theorem zss {K:PySem.W.Frag} {nm:Str} {c:Addr} {bm:List Value} (o:xoIn K c=some (bm,nm)) (be:bm.contains (Value.type "BaseException")=true) (bo:bm.contains (Value.type "object")=true)
  (ga:findIn K (.ref c) "__getattribute__" = some (some (.builtin "BaseException.__getattribute__"))) (gn:findIn K (.ref c) "__getattr__" = some none) (gc:findIn K (.ref c) "__class__" = some (some (.builtin "object.__class__")))
  (gg:specialIn K (.builtin "object.__class__") "__get__" = some (some (.builtin "getset_descriptor.__get__"))) (gt:takesIn K (.builtin "object.__class__")=some true) (un:unIn K nm c=true):CF K nm c bm:=
 ⟨⟨(znl o).1,be,bo,ga,gn,gc,gg,gt⟩,(znl o).2,un⟩
theorem CF.eq {K:PySem.W.Frag} {nm:Str} {c C:Addr} {bm:List Value} (f:CF K nm c bm) (h:XN K nm C):C=c:=XN.uniq h f.un
theorem zsn {K:PySem.W.Frag} {T:Addr} {hit:Str→Bool} (l:List (Str × Addr × List Value)) (h:∀q∈l,CF K q.1 q.2.1 q.2.2∧(Value.ref q.2.1::q.2.2).contains (.ref T)=true) (hh:∀nm,hit nm=true→∃q∈l,q.1=nm):zmH K T hit:=by
 intro nm C hn xn
 obtain ⟨q,hq,rfl⟩:=hh nm hn
 obtain ⟨f,hc⟩:=h q hq
 have:=f.eq xn
 subst this
 exact ⟨_,f.xa.ob,hc⟩
theorem zsm {K:PySem.W.Frag} {c:Value} {tab:Str→Option Bool} (l:List (Str × Addr × List Value)) (n:kitOne K (.type "NoneType") c=some false) (h:∀q∈l,CF K q.1 q.2.1 q.2.2∧kitOne K (.ref q.2.1) c=tab q.1) (hh:∀nm b,tab nm=some b→∃q∈l,q.1=nm):IsxOk K c tab:=by
 refine ⟨n,fun nm b C ht xn=>?_⟩
 obtain ⟨q,hq,rfl⟩:=hh nm b ht
 obtain ⟨f,hc⟩:=h q hq
 have:=f.eq xn
 subst this
 exact ⟨_,f.xa,by rw [hc,ht]⟩
end DL
end
section
namespace DL
open PySem PySem.Spec PyProof.Rows L2 PySem.W PySem.Calls
section
variable {prog:Program} {w:World} {A:Around} {E:Value→Shared→Prop} {s:Shared} {nm q:Str} {C N a:Addr} {bs bm:List Value} {sn:List Str} {sub:List Value} {ab:Bool} {col:Option Bool} {dd:Option Addr} {k0 k1 k2 k3 k5:Option Value} {newId:String} {oe:Obj}
theorem zq2 {K:PySem.W.Frag} {name:Str} {tk:Tok} {dx:Addr} {mA:Str→Option Value} {v:Value} {vs:Array Value} {Q:Value→Shared→Prop} (kin:K.In s.heap)
  (hC:s.heap.get? C=some (excClassObj nm q C N bs bm true sn sub ab col dd k0 k1 k2 k3 k5 newId)) (he:s.heap.get? a=some oe) (hc:oe.cls=.ref C) (hda:oe.data=.fields vs) (hdi:oe.dict=some dx) (hn:s.heap.Ns dx mA)
  (g1:findIn K (.ref C) name=some none) (hv:mA name=some v) (ho:handedOut v=pure v) (hq:Q v s) :
  wpAny (model prog w) A (Builtin.«object.__getattribute__» ⟨[.ref a,.str name tk],[]⟩) (fun fin s'=>∃u,fin=.done (.ret u)∧handedOut u=pure u∧Q u s') E s:=by
 obtain ⟨oc,odi,oda,osl⟩:=oe
 dsimp only at hc hda hdi
 subst hc hda hdi
 unfold Builtin.«object.__getattribute__»
 refine wpAny_bind ?_
 show wpAny _ _ (pure ((Value.ref a,[Value.str name tk]):Value × List Value)) _ _ _
 refine wpAny_pure ?_
 show wpAny _ _ (Builtin.ObjectAttr.attrName (Value.str name tk) >>= _) _ _ _
 refine wpAny_bind ?_
 show wpAny _ _ (pure name) _ _ _
 refine wpAny_pure (wpAny_bind (wpAny_typeOf_ref he ?_))
 refine wpAny_bind ?_
 unfold Builtin.ObjectAttr.find
 refine wpAny_bind (looks_findIn kin g1 _ _ _ _ (fun b o e=>e) ?_)
 refine wpAny_bind ?_
 show wpAny _ _ (pure none) _ _ _
 refine wpAny_pure (wpAny_bind ?_)
 show wpAny _ _ (pure none) _ _ _
 refine wpAny_pure ?_
 unfold Builtin.ObjectAttr.ownThenClass Builtin.ObjectAttr.inOwnDict Builtin.ObjectAttr.ownDict
 refine wpAny_bind (wpAny_bind (wpAny_bind (wpAny_loadPart he ?_)))
 unfold instanceDict
 refine wpAny_bind (wpAny_loadPart he ?_)
 refine wpAny_bind ?_
 unfold classData
 refine wpAny_bind (wpAny_load hC (wpAny_pure ?_))
 dsimp only
 refine wpAny_pure ?_
 refine wpAny_nsGet hn ?_
 rw [hv]
 exact wpAny_bind (wpAny_rule (wpAny_pure (wpAny_pure ⟨v,rfl,ho,hq⟩)))
end
end DL
end
section
namespace DL
open PySem PySem.Spec PyProof.Rows L2 PySem.W PySem.Calls
abbrev xObj (C t:Addr) (od:Option Addr):Obj:={ cls:=.ref C,dict:=od,data:=.fields #[.ref t,.none,.none,.none,.bool false,.none] }
section
variable {prog:Program} {w:World} {A:Around} {E:Value→Shared→Prop} {h:Heap} {gs:Array GenState} {dr:Drawn} {tk:Nat} {os:OsState}
variable {nm ql:Str} {C N fI:Addr} {bs bm bB:List Value} {hdct:Bool} {sn:List Str} {sub:List Value} {ab:Bool} {col:Option Bool} {dd:Option Addr} {k0 k1 k2 k3 k5:Option Value} {B nw ini:String} {mN:Str→Option Value} {us:List Value} {oI:Obj}
theorem znv {Q:Fin→Shared→Prop} (XF:ExcBaseFacts B nw ini bB) (T:OwnTail h bB bm) (hC:h.get? C=some (excClassObj nm ql C N bs bm hdct sn sub ab col dd k0 k1 k2 k3 k5 nw)) (hn:h.Ns N mN) (hi:mN "__init__" = some (.ref fI))
  (hf:h.get? fI=some oI) (hfc:oI.cls=.type "function") (hz:us.length≤sizeLine)
  (hq:∀h' e,Heap.MadeExcOf h h' e (.ref C) us→wpAny (model prog w) A (call (.ref fI) (.ref e::us)) (fun r s'=>r=.none∧Q (.done (.ret (.ref e))) s') E ⟨h',gs,dr,tk,os⟩) :
  wpAny (model prog w) A (Builtin.«type.__call__» ⟨.ref C::us,[]⟩) Q E ⟨h,gs,dr,tk,os⟩:=by
 repeat (first
  | with_reducible refine wpAny_loadPart_at hC ?_
  | with_reducible refine wpAny_madeBy_exc hC ?_
  | wp_step)
 refine codeAny_call_builtin_code (Code.quiet_builtin _ XF.quiet) (wpAny_check_new_subT XF T hC (codeAny_exc_new_subT XF T hC ?_ hz))
 show wpAny _ _ _ _ _ _
 have hk:∀b o,h.get? b=some o→((h.push { cls:=.type "tuple",data:=.seq us.toArray }).push (xObj C h.objs.size none)).get? b=some o:=fun b o e=>Heap.get?_push_of_some _ (Heap.get?_push_of_some _ e)
 have hg:((h.push { cls:=.type "tuple",data:=.seq us.toArray }).push (xObj C h.objs.size none)).get? (h.objs.size + 1)=some (xObj C h.objs.size none):=by heap_get
 have hg2:((h.push { cls:=.type "tuple",data:=.seq us.toArray }).push (xObj C h.objs.size none)).get? h.objs.size=some { cls:=.type "tuple",data:=.seq us.toArray }:=Heap.get?_push_of_some _ (Heap.get?_push_at rfl rfl)
 have hC1:=hk _ _ hC
 have hf1:=hk _ _ hf
 have hn1:=hn.keeps hk
 have T1:=T.keeps hk
 have hcC:(Value.ref C::bm).contains (.ref C)=true:=by simp
 unfold isInstance
 repeat (first
  | with_reducible refine wpAny_loadPart_at hg ?_
  | (with_reducible refine wpAny_isSubtype_exc hC1 ?_; rw [hcC])
  | wp_step)
 show wpAny _ _ (typeLookup (.ref C) _) _ _ _
 refine wpAny_typeLookup_tail hC1 hn1 T1 XF.mroIs XF.init.lookup ?_
 rw [hi]
 refine wpAny_holding (wpAny_bind ?_)
 unfold bindSpecial
 refine wpAny_bind (wpAny_typeOf (T := "function") ⟨_,hf1,hfc⟩ ?_)
 rw [if_pos (by decide)]
 refine wpAny_pure (wpAny_bind (wpAny_mono (hq _ (h.objs.size + 1) ⟨hk,Heap.get?_none_of_le (Nat.le_succ _),h.objs.size,hg,Heap.get?_none_of_le (Nat.le_refl _),hg2⟩) (fun r s' hr=>?_) fun _ _ z=>z))
 obtain ⟨rfl,hQ⟩:=hr
 wp_walk
 exact hQ
theorem zk3 {Q:Value→Shared→Prop} (XF:ExcBaseFacts B nw ini bB) (T:OwnTail h bB bm) (hC:h.get? C=some (excClassObj nm ql C N bs bm hdct sn sub ab col dd k0 k1 k2 k3 k5 nw)) (hn:h.Ns N mN) (hi:mN "__init__" = some (.ref fI))
  (hf:h.get? fI=some oI) (hfc:oI.cls=.type "function") (hz:us.length≤sizeLine)
  (hq:∀h' e,Heap.MadeExcOf h h' e (.ref C) us→wpAny (model prog w) (A.under (.builtin "type.__call__" ⟨.ref C::us,[]⟩)) (call (.ref fI) (.ref e::us)) (fun r s'=>r=.none∧Q (.ref e) s') E ⟨h',gs,dr,tk,os⟩) :
  wpAny (model prog w) A (call (.ref C) us) Q E ⟨h,gs,dr,tk,os⟩:=by
 have f1:=tc_lookup
 have f2:=tc_bind (.ref C)
 have hT:Shared.TypeIs ⟨h,gs,dr,tk,os⟩ (.ref C) "type" := ⟨_,hC,rfl⟩
 refine wpAny_call (codeAny_of_tree ?_)
 show wpAny _ _ (callAny (.ref C) _) _ _ _
 repeat (any_goals (first
  | assumption
  | with_reducible refine wpAny_loadPart_at hC ?_
  | wp_step))
 exact ⟨rfl,codeAny_call_builtin_at (Code.quiet_builtin _ (by decide +kernel)) entry_typeCall (wpAny_check_type_call_sub hC (znv XF T hC hn hi hf hfc hz fun h' e hm=>hq h' e hm))⟩
theorem zlL {M:Model} {s:Shared} {x:Sem Value} {env:Env} {Q:Flow→Shared→Prop} (hb:bm.contains (.type "BaseException")=true) (hh:A.handled=none)
  (hx:wpAny M A x (fun v s1=>∃e t od,v=.ref e∧s1.heap.get? C=some (excClassObj nm ql C N bs bm hdct sn sub ab col dd k0 k1 k2 k3 k5 nw)∧s1.heap.get? e=some (xObj C t od)∧E (.ref e) s1) E s) :
  wpAny M A (raiseStmt env (some x) none) Q E s:=by
 have hcB:(Value.ref C::bm).contains (.type "BaseException")=true:=by rw [List.contains_cons,hb,Bool.or_true]
 unfold raiseStmt
 refine wpAny_bind (wpAny_mono hx (fun v s1 h1=>?_) fun _ _ z=>z)
 obtain ⟨e,t,od,rfl,hC,he,hE⟩:=h1
 obtain ⟨hp,g,d,tk,os⟩:=s1
 repeat (first
  | with_reducible refine wpAny_loadPart_at he ?_
  | with_reducible refine wpAny_loadPart_at hC ?_
  | (with_reducible refine wpAny_isSubtype_exc hC ?_; rw [hcB])
  | wp_step)
 exact wpAny_raiseNew_none hh hE
end
end DL
end
section
namespace DL
open PySem PySem.Spec PyProof.Rows L2 PySem.W PySem.Calls
theorem zhL {self:Value} {bm:List Value} {h:Heap} (T:OwnTail h vErr bm):refuseLoop self "__setattr__" bm=pure ():=by
 induction T with
 | base=>exact PySem.F.store_ValueError.passes self
 | own _ _ _ _ ih=>rw [refuseLoop_ref]; exact ih
section
variable {prog:Program} {w:World} {A:Around} {E:Value→Shared→Prop} {h:Heap} {gs:Array GenState} {dr:Drawn} {tk:Nat} {os:OsState}
variable {nm ql:Str} {C N e t:Addr} {bs bm:List Value} {sn:List Str} {sub:List Value} {ab:Bool} {col:Option Bool} {dd:Option Addr} {k0 k1 k2 k3 k5:Option Value} {nw:String} {K:PySem.W.Frag} {name:Str} {v:Value}
theorem setx {Q:Unit→Shared→Prop} (kin:K.In h) (hC:h.get? C=some (excClassObj nm ql C N bs bm true sn sub ab col dd k0 k1 k2 k3 k5 nw)) (T:OwnTail h vErr bm) (he:h.get? e=some (xObj C t none))
  (g0:findIn K (.ref C) "__setattr__" = some (some (.builtin "object.__setattr__"))) (g1:findIn K (.ref C) name=some none)
  (hq:∀h' dx tk',h.get? dx=none→h'.get? e=some (xObj C t (some dx))→h'.Ns1 dx (fun y=>if y=name then some v else none)→(∀b o,b≠e→h.get? b=some o→h'.get? b=some o)→Q () ⟨h',gs,dr,tk',os⟩) :
  wpAny (model prog w) A (setAttr (.ref e) name v) Q E ⟨h,gs,dr,tk,os⟩:=by
 have f3:=PySem.F.store_ValueError.slot.bind (.ref e)
 have hcB:(Value.ref C::bm).contains (.type "object")=true:=by rw [List.contains_cons,zib T (by decide +kernel),Bool.or_true]
 have L0:Looks (model prog w) h (isInstance (.ref e) (.type "object")) true:=by
  intro A Q E s k q
  unfold isInstance
  refine wpAny_bind (wpAny_typeOf_ref (k _ _ he) ?_)
  obtain ⟨hh,a1,a2,a3,a4⟩:=s
  exact wpAny_isSubtype_exc (k _ _ hC) (by rw [hcB]; exact q)
 unfold setAttr callSpecial? specialOf
 refine wpAny_bind (wpAny_mkText ?_)
 refine wpAny_bind (wpAny_bind (wpAny_bind (wpAny_typeOf_ref he (looks_findIn kin g0 _ _ _ _ (fun b o e=>e) ?_))))
 refine wpAny_holding ?_
 rw [f3]
 refine wpAny_bind (wpAny_pure (wpAny_bind (wpAny_call ?_)))
 have SF:=PySem.F.store_object
 refine codeAny_call_builtin SF.slot.plain SF.entry (@check_slot (model prog w) _ _ ⟨h,gs,dr,tk + 1,os⟩ "object.__setattr__" "object" "__setattr__" (.ref e) [.str name tk,v] [] _ SF.kind SF.split L0 (SF.args (.ref e) (.str name tk) v) ?_)
 show wpAny _ _ (Builtin.«object.__setattr__» ⟨[.ref e,.str name tk,v],[]⟩) _ _ _
 rw [osa_eq,refuse_eq]
 refine wpAny_bind (wpAny_bind (wpAny_typeOf_ref he (wpAny_bind (wpAny_mroOf_exc hC ?_))))
 rw [refuseLoop_ref,zhL T]
 refine wpAny_pure (wpAny_bind (wpAny_typeOf_ref he (wpAny_bind (looks_findIn kin g1 _ _ _ _ (fun b o e=>e) ?_))))
 refine wpAny_bind ?_
 show wpAny _ _ (pure none) _ _ _
 refine wpAny_pure ?_
 have hx1:(h.push { cls:=.type "dict",data:=.dict #[] }).get? e=some (xObj C t none):=Heap.get?_push_of_some _ he
 have hxs:e≠h.objs.size:=Nat.ne_of_lt (Heap.lt_size he)
 refine wpAny_bind (wpAny_pure (wpAny_bind (wpAny_bind (wpAny_loadPart he (wpAny_bind ?_)))))
 unfold classData
 refine wpAny_bind (wpAny_load hC (wpAny_pure ?_))
 refine wpAny_bind (wpAny_alloc' (wpAny_bind (wpAny_update' hx1 (wpAny_pure ?_))))
 have hgd:((h.push { cls:=.type "dict",data:=.dict #[] }).update e fun o=>{ o with dict:=some h.objs.size }).get? h.objs.size=some { cls:=.type "dict",data:=.dict #[] }:=
  (Heap.get?_update_ne _ _ _ _ hxs.symm).trans (Heap.get?_push_at rfl rfl)
 have hnd:((h.push { cls:=.type "dict",data:=.dict #[] }).update e fun o=>{ o with dict:=some h.objs.size }).Ns h.objs.size (fun _=>none):=⟨_,#[],_,hgd,rfl,fun e he=>absurd he (by simp),fun _=>rfl⟩
 show wpAny _ _ (Builtin.ObjectAttr.storeInDict h.objs.size (.str name tk) name v) _ _ _
 unfold Builtin.ObjectAttr.storeInDict Builtin.ObjectAttr.newKeyGuard
 refine wpAny_bind (wpAny_pure (wpAny_bind (wpAny_nsSet1 (Heap.Ns1.of_empty hnd) fun h' hn' hs=>?_)))
 obtain ⟨oD,esD,epD,hoD,hdD,hcD⟩:=hn'.count (Within.cons name v Within.nil)
 refine wpAny_bind (wpAny_lookBehind hoD (by rw [hdD]; exact pastItsLine_dict (Nat.le_trans hcD (by rw [List.length_cons,List.length_nil,sizeLine_eq]; omega))) ?_)
 have hx':h'.get? e=some (xObj C t (some h.objs.size)):=(hs.2 e hxs).trans (Heap.get?_update_self _ hx1 rfl)
 refine wpAny_pure (show wpAny _ _ (pure (some Value.none)) _ _ _ from wpAny_pure (wpAny_pure (hq h' h.objs.size _ (Heap.get?_none_of_le (Nat.le_refl _)) hx' hn' fun b o hb hbo=>?_)))
 exact (hs.2 b (Nat.ne_of_lt (Heap.lt_size hbo))).trans ((Heap.get?_update_ne _ _ _ _ hb).trans (Heap.get?_push_of_some _ hbo))
theorem zoV {x:Value} {Q:Value→Shared→Prop} (hC:h.get? C=some (excClassObj nm ql C N bs bm true sn sub ab col dd k0 k1 k2 k3 k5 "ValueError.__new__")) (T:OwnTail h vErr bm) (he:h.get? e=some (xObj C t none))
  (hq:∀h' t',h'.get? e=some (xObj C t' none)→(∀b o,b≠e→h.get? b=some o→h'.get? b=some o)→Q .none ⟨h',gs,dr,tk,os⟩) :
  wpAny (model prog w) A (call (.builtin "ValueError.__init__") [.ref e,x]) Q E ⟨h,gs,dr,tk,os⟩:=by
 have XF:=PySem.F.excBase_ValueError
 refine wpAny_call (codeAny_call_builtin XF.init.plain XF.initEntry (wpAny_check_init_subT XF T hC he rfl ?_))
 wp_walk
 refine hq _ h.objs.size ?_ fun b o hb hbo=>?_
 ·rw [Heap.get?_update_self _ (Heap.get?_push_of_some _ he) rfl]; rfl
 ·rw [Heap.get?_update_ne _ _ _ _ hb]; exact Heap.get?_push_of_some _ hbo
end
end DL
end
section
namespace DL
open PySem PySem.Spec PyProof.Rows L2 PySem.W PySem.Calls
def XR (e C:Addr) (od:Option Addr):Heap→Prop:=fun h=>∃t,h.get? e=some (xObj C t od)
theorem XR.ok {P:Program} {w:World} {H:Hp} {h:Heap} {e C t:Addr} {od:Option Addr} (x:h.get? e=some (xObj C t od)):za6 P w H h e (.ext (XR e C od)):=
 ⟨⟨t,x⟩,⟨_,x⟩,fun h1 h2 ⟨t,q⟩ k=>⟨t,k _ q⟩⟩
structure XI (K:PySem.W.Frag) (C:Addr) (bm:List Value) (f:Str):Prop where
 ob:∃N nm q bs sn sub ab col dd k0 k1 k2 k3 k5,K.lookup C=some (excClassObj nm q C N bs bm true sn sub ab col dd k0 k1 k2 k3 k5 "ValueError.__new__")
 tl:∀h,K.In h→OwnTail h vErr bm
 g0:findIn K (.ref C) "__setattr__" = some (some (.builtin "object.__setattr__"))
 g1:findIn K (.ref C) f=some none
structure XT (K:PySem.W.Frag) (T:Addr):Prop where
 sp:specialIn K (.ref T) "__getattribute__" = some (some (.builtin "type.__getattribute__"))
 rd:readsIn K T (.type "type")=true
 fc:findCls K (.ref T) (.type "type") "__init__" = some (.val (.builtin "ValueError.__init__"))
section
variable {X:Cx} {e:Expr} {ps:List Expr} {te:TE} {n k:Nat} {c:L2.St→Prop} {pos:Pos} {v₁ v₂:Expr}
def PJ (X:Cx) (ps:List Expr) (n:Nat) (c:L2.St→Prop):Prop:=∀(pins:List (Addr × Obj)) (s:Shared) (σ:L2.St) (H:Hp) (out:Str) (Q:Value→Shared→Prop),Inv X pins σ H s→c σ→out.length + n≤1000000 →
 (∀x t s',x.length≤sizeLine→Inv X pins σ H s'→Q (.str x t) s')→wpAny (model X.prog X.w) X.A (joinParts out (evalEach ps X.env)) Q X.xe s
theorem zp0:PJ X [] 0 c:=fun pins s σ H out Q I _ hl q=>by
 have hz:out.length≤sizeLine:=by rw [sizeLine_eq]; omega
 exact joinParts_nil (q out _ _ hz (I.tok _)) hz
theorem zj4 (he:PE X e te) (hr:PJ X ps n c) (h:∀σ H Q,c σ→(∀x:Str,x.length≤k→Q (.str x) H)→te σ H Q) (hs:evalEach (e::ps) X.env=eval e X.env::evalEach ps X.env:=by rfl):PJ X (e::ps) (k + n) c:=fun pins s σ H out Q I hc hl q=>by
 rw [hs]
 refine joinParts_cons (thn (he pins s σ H (fun x H1=>∃y:Str,y.length≤k∧x=.str y∧H1=H) I (h σ H _ hc fun x hx=>⟨x,hx,rfl,rfl⟩)) fun u s1 ⟨x,H1,I1,r,y,hy,hx,hH⟩=>?_)
 subst hx hH
 obtain ⟨t,rfl⟩:=(show ∃t,u=Value.str y t from r)
 have e1:(out++y).length=out.length + y.length:=strLen_append _ _
 refine ⟨by rw [sizeLine_eq]; omega,hr pins s1 σ _ _ Q I1 hc (by omega) q⟩
theorem zpZ {a:Str} {j:Nat} {p:Pos} (hr:PJ X ps n c) (hs:evalEach (.Constant (.str a) j p::ps) X.env=eval (.Constant (.str a) j p) X.env::evalEach ps X.env:=by rfl):PJ X (.Constant (.str a) j p::ps) (a.length + n) c:=
 zj4 zmY hr (fun σ H Q _ q=>q a (Nat.le_refl _)) hs
theorem zqc {tv:TE} (hv:PE X e tv):PE X (.FormattedValue e (-1) none pos) (fun σ H Q=>tv σ H fun x H1=>∃i:Int,x=.int i∧i.natAbs.log2 < 64∧∀z:Str,z.length≤65→Q (.str z) H1):=by
 intro pins s σ H Q I h
 refine FormattedValue_plain (thn (hv pins s σ H _ I h) fun u s1 ⟨x,H1,I1,r,i,hx,hi,q⟩=>?_)
 subst hx
 obtain ⟨t,rfl⟩:=(show ∃t,u=Value.int i t from r)
 refine formatField_int_small (by omega) ⟨.str (Str.ofString (toString i)),H1,I1.tok _,⟨_,rfl⟩,q _ ?_⟩
 rw [PySem.ofString_length]
 exact int_text_length_le (by omega) hi
theorem zp1 {j:Nat} {x:Str} {p:Pos} (hN:X.N[j]? = some x) (hv:Vis X.env.scope x) (hr:PJ X ps n c) (hc:∀σ,c σ→∃i:Int,σ[j]? = some (some (.int i))∧i.natAbs.log2 < 64) (hd:(x == ("__debug__" : Str))=false:=by decide) (hcd:(x == ("__classdict__" : Str))=false:=by decide)
  (hs:evalEach (.FormattedValue (.Name x p) (-1) none pos::ps) X.env=eval (.FormattedValue (.Name x p) (-1) none pos) X.env::evalEach ps X.env:=by rfl):PJ X (.FormattedValue (.Name x p) (-1) none pos::ps) (65 + n) c:=
 zj4 (zqc (zd5 hN hv hd hcd)) hr (fun σ H Q h q=>by
  obtain ⟨i,e1,e2⟩:=hc σ h
  exact ⟨_,e1,i,rfl,e2,q⟩) hs
theorem zrM (h:PJ X (v₁::v₂::ps) n c) (hn:n≤1000000) (hs:evalEach (v₁::v₂::ps) X.env=eval v₁ X.env::eval v₂ X.env::evalEach ps X.env:=by rfl):PE X (.JoinedStr (v₁::v₂::ps) pos) (fun σ H Q=>c σ∧∀x:Str,x.length≤sizeLine→Q (.str x) H):=by
 intro pins s σ H Q I ⟨hc,q⟩
 refine JoinedStr_many ?_
 have:=h pins s σ H Str.empty (EP X pins σ Q) I hc (by show 0 + n≤_; omega) fun x t s' hx I'=>⟨.str x,H,I',⟨t,rfl⟩,q x hx⟩
 rw [hs] at this
 exact this
end
section
variable {X:Cx} {a:Expr} {as:List Expr} {t:TA} {x:Str} {T:Addr} {p apos pos:Pos} {pl:Sem Bool}
theorem zob (hg:Gl X x) (hm:X.mg x=some (.ref T)) (hT:XT X.K T) (ha:PA X (a::as) t) (hdb:(x == ("__debug__" : Str))=false:=by decide)
  (ht:eval (.Call (.Attribute (.Name x p) "__init__" apos) (a::as) [] pos) X.env=(do
   let ov ←eval (.Name x p) X.env
   standAt apos.atName
   let (f,first) ←holding [ov] (getMethod ov "__init__" pl)
   callWith pos f first (backTo pos (starEach (a::as) X.env)) (backToKw pos (keywordEach [] X.env))):=by rfl)
  (hs:starEach (a::as) X.env=(false,eval a X.env)::starEach as X.env:=by rfl) (hplain:(backTo pos (starEach as X.env)).any (·.1)=false:=by rfl) :
  PE X (.Call (.Attribute (.Name x p) "__init__" apos) (a::as) [] pos) (fun σ H Q=>t σ H fun vs H1=>∃e C bm f y,vs=[.ref e,y]∧H1 e=some (.ext (XR e C none))∧XI X.K C bm f∧Q .non H1):=by
 intro pins s σ H Q I h
 refine methodCall_KW (pl:=pl) (zer I hg hm ?_ hdb) ht
 refine method_cls I.kIn hT.sp (cls_value (mc:=.type "type") I.kIn hT.rd hT.fc rfl ?_)
 have I0:=I.tok (s.toks + 1)
 have hA:=ha pos pins _ σ H _ I0 h
 rw [hs] at hA ⊢
 refine Calls.callWith_builtin (by show (false || (backTo pos (starEach as X.env)).any (·.1))=false; rw [hplain] <;> rfl) (Calls.evalArgs_plain ?_)
 refine thn hA fun us s1 ⟨vs,H1,I1,r,e,C,bm,f,y,hv,he,xi,q⟩=>?_
 subst hv
 obtain ⟨u,z,rfl,r1,r2⟩:=zlj r
 cases (show u=Value.ref e from r1)
 obtain ⟨⟨t,g1⟩,_,_⟩:=I1.hok e _ he
 obtain ⟨N,nm,ql,bs,sn,sub,ab,col,dd,k0,k1,k2,k3,k5,ob⟩:=xi.ob
 refine zoV (I1.kIn _ _ ob) (xi.tl _ I1.kIn) g1 fun h' t' g2 g3=>⟨.non,H1,?_,rfl,q⟩
 have:=I1.write (x:=e) (e:=e) (o:=.ext (XR e C none)) (h':=h') (t':=s1.toks) (by rw [he]; trivial) (.inl rfl) g3 ⟨_,g2⟩ (XR.ok g2)
 rw [show upd H1 e (.ext (XR e C none))=H1 from by funext b; unfold upd; split <;> simp_all] at this
 exact this
theorem zn3 {o v:Expr} {f:Str} {to tv:TE} {p':Pos} (ho:PE X o to) (hv:PE X v tv) (hs:swapsWith v (some (.Attribute o f p')) pos.line X.env=pure false:=by rfl) :
  PS X (.Assign [.Attribute o f p'] v pos) (fun D σ H=>tv σ H fun y H1=>to σ H1 fun x H2=>∃e C bm,x=.ref e∧H2 e=some (.ext (XR e C none))∧XI X.K C bm f∧∀dx,H2 dx=none→dx≠e→D.nx σ (upd (upd H2 dx (.xd [(f,y)])) e (.ext (XR e C (some dx))))):=by
 intro pins s σ H D I h
 refine plainObj_wpAny_Assign_Attribute (thn (hv pins s σ H _ I h) fun u s1 ⟨y,H1,I1,ry,q⟩=>thn (ho pins s1 σ H1 _ I1 q) fun ov s2 ⟨x,H2,I2,rx,e,C,bm,ex,he,xi,q2⟩=>?_) hs
 subst ex
 obtain rfl:ov=Value.ref e:=rx
 obtain ⟨⟨t,g1⟩,_,_⟩:=I2.hok e _ he
 obtain ⟨N,nm,ql,bs,sn,sub,ab,col,dd,k0,k1,k2,k3,k5,ob⟩:=xi.ob
 refine setx I2.kIn (I2.kIn _ _ ob) (xi.tl _ I2.kIn) g1 xi.g0 xi.g1 fun h' dx tk' n1 n2 n3 n4=>?_
 have hdx:H2 dx=none:=by
  cases z:H2 dx with
  | none=>rfl
  | some ho=>obtain ⟨o,z2⟩:=zkl (I2.hok dx _ z); rw [n1] at z2; cases z2
 have hde:dx≠e:=fun z=>by rw [z,g1] at n1; cases n1
 have old:∀b u,H2 b=some u→b≠e→upd (upd H2 dx (.xd [(f,y)])) e (.ext (XR e C (some dx))) b=some u:=fun b u hb hne=>by
  rw [zal hne,zal (fun z=>by rw [z,hdx] at hb; cases hb)]; exact hb
 refine ⟨σ,upd (upd H2 dx (.xd [(f,y)])) e (.ext (XR e C (some dx))),?_,q2 dx hdx hde⟩
 refine I2.call' (ch:=[]) rfl ⟨fun b o hb hn _ _=>n4 b o (fun z=>by rw [z,he] at hn; cases hn) hb,fun b o hb hn _ _=>⟨o.slots,n4 b o (fun z=>by rw [z,he] at hn; cases hn) hb⟩,fun b o hb hn _=>?_,fun b o hb _=>?_,fun b xs hb=>old b _ hb (fun z=>by rw [z,he] at hb; cases hb),fun b o u hb=>old b _ hb (fun z=>by rw [z,he] at hb; cases hb),fun b ps hb=>⟨#[],by simpa using old b _ hb (fun z=>by rw [z,he] at hb; cases hb)⟩⟩ (fun b u hb=>?_) I2.bare fun b hb=>absurd hb (by simp)
 ·rw [zal (fun z=>by rw [z,he] at hn; cases hn),zal (fun z=>by rw [z,n1] at hb; cases hb)]; exact hn
 ·by_cases z:b=e
  ·exact ⟨_,by rw [z]; exact n2⟩
  ·exact ⟨o,n4 b o z hb⟩
 ·by_cases z:b=e
  ·subst z
   rw [zak] at hb; cases hb
   exact XR.ok n2
  ·rw [zal z] at hb
   by_cases z2:b=dx
   ·subst z2
    rw [zak] at hb; cases hb
    refine ⟨_,n3,fun g=>?_⟩
    show RelO (List.lookup g [(f,y)]) _
    rw [List.lookup]
    by_cases hg:g=f
    ·subst hg
     simp only [beq_self_eq_true,if_pos]
     exact ry
    ·rw [show (g == f)=false from by simpa using hg,if_neg hg]
     exact True.intro
   ·rw [zal z2] at hb
    refine (I2.hok b u hb).stay (fun c v hc hcv=>n4 c v (fun zz=>?_) hcv) (fun c hc=>old c _ hc fun zz=>by rw [zz,he] at hc; cases hc) fun c xs hc=>old c _ hc fun zz=>by rw [zz,he] at hc; cases hc
    rcases hc with rfl | hc
    ·exact z zz
    ·rw [zz,he] at hc; cases hc
end
end DL
end
section
namespace DL
open PySem PySem.Spec PyProof.Rows L2 PySem.W PySem.Calls
theorem zrT {K:PySem.W.Frag} {h:Heap} {N:Addr} {mg:Str→Option Value} {n:Str} {v:Value} (X:K.In h) (G:h.Ns N mg) (e:nsIn K N n=some (some v)):mg n=some v:=by
 obtain ⟨o,es,ep,ho,hd,_,hf⟩:=G
 unfold nsIn at e
 split at e
 ·rename_i c d es' n' sl q
  have hx:=X _ _ q
  rw [ho] at hx
  cases hx
  cases hd
  split at e
  ·rename_i en he
   rw [←hf]
   unfold nsFind findBy
   rw [←Array.find?_toList,he]
   first | exact Option.some.inj e | (cases e; rfl)
  ·split at e <;> cases e
 ·cases e
def spI (C:Addr) (f:Str):Sp:=fun vs H Q _=>∃e i,vs=[.ref e,.int i]∧i.natAbs.log2 < 64∧H e=some (.ext (XR e C none))∧∀dx,H dx=none→dx≠e→Q .non (upd (upd H dx (.xd [(f,.int i)])) e (.ext (XR e C (some dx))))
def cI (σ:L2.St):Prop:=∃i:Int,σ[1]? = some (some (.int i))∧i.natAbs.log2 < 64
def tIni (K:PySem.W.Frag) (f:Str):TS:=tSeq (zpn (fun σ H Q=>znx (tVar 0) (znx (fun σ H Q=>cI σ∧∀x:Str,x.length≤sizeLine→Q (.str x) H) tNil) σ H fun vs H1=>∃e C bm f y,vs=[.ref e,y]∧H1 e=some (.ext (XR e C none))∧XI K C bm f∧Q .non H1))
 (fun D σ H=>tVar 1 σ H fun y H1=>tVar 0 σ H1 fun x H2=>∃e C bm,x=.ref e∧H2 e=some (.ext (XR e C none))∧XI K C bm f∧∀dx,H2 dx=none→dx≠e→D.nx σ (upd (upd H2 dx (.xd [(f,y)])) e (.ext (XR e C (some dx)))))
theorem zoD {P:Program} {w:World} {K:PySem.W.Frag} {mg:Str→Option Value} {base:Heap} {qual y f:Str} {st:Stmt} {fI C:Addr} {fd:FuncData} {bm:List Value} {k:Nat} (F:Fun K "__init__" qual st fI fd) (S:FnScope ["self",y] ["self",y] (defScope st)) (xi:XI K C bm f)
  (hb:∀(cdv:Value) (A:Around) (outer:List Env) (s:Shared) (H:Hp) (E:XK),PSs (cxOf CX0 P w K mg base ["self",y] qual (defScope st) fI cdv A outer s H E).nox (defBody st) (tIni K f)):FnOk P w K mg base CX0 (k + 1) fI fd ["self",y] (spI C f):=by
 refine F.ok S (fun vs H Q E ⟨e,i,h,_⟩=>by rw [h]; rfl) fun cdv A outer s H vs Q E hr ⟨e,i,hv,hi,he,q⟩=>⟨_,hb cdv A outer s H E,?_⟩
 subst hv
 exact ⟨_,rfl,⟨i,rfl,hi⟩,fun x _=>⟨e,C,bm,f,_,rfl,he,xi,_,rfl,_,rfl,e,C,bm,rfl,he,xi,fun dx h1 h2=>q dx h1 h2⟩⟩
structure XCI (P:Program) (w:World) (K:PySem.W.Frag) (mg:Str→Option Value) (base:Heap) (x:Str) (C:Addr) (f:Str):Prop where
 bound:mg x=some (.ref C)
 keep:keepIn K (.ref C)=true
 ex:∃bm fI fd y oI N nm ql bs sn sub ab col dd k0 k1 k2 k3 k5,XI K C bm f∧K.lookup C=some (excClassObj nm ql C N bs bm true sn sub ab col dd k0 k1 k2 k3 k5 "ValueError.__new__")∧nsOkIn K N=true∧nsIn K N "__init__" = some (some (.ref fI))∧K.lookup fI=some oI∧oI.cls=.type "function" ∧
  zew K fd ["self",y] []∧FnOk P w K mg base CX0 1 fI fd ["self",y] (spI C f)
section
variable {X:Cx} {pins:List (Addr × Obj)} {σ:L2.St} {H:Hp} {s:Shared}
theorem Inv.exc {h':Heap} {e C:Addr} {vs:List Value} (I:Inv X pins σ H s) (m:s.heap.MadeExcOf h' e (.ref C) vs):H e=none∧Inv X pins σ (upd H e (.ext (XR e C none))) { heap:=h',gens:=s.gens,drawn:=s.drawn,toks:=s.toks,os:=s.os }:=by
 obtain ⟨t,m1,m2,m3⟩:=m.there
 have hn:H e=none:=by
  cases z:H e with
  | none=>rfl
  | some u=>obtain ⟨o,z2⟩:=zkl (I.hok e u z); rw [m.new] at z2; cases z2
 have old:∀b u,H b=some u→upd H e (.ext (XR e C none)) b=some u:=fun b u hb=>by rw [zal (fun z=>by rw [z,hn] at hb; cases hb)]; exact hb
 refine ⟨hn,I.call' (ch:=[]) rfl ⟨fun b o hb _ _ _=>m.keeps b o hb,fun b o hb _ _ _=>⟨o.slots,m.keeps b o hb⟩,fun b o hb hz _=>?_,fun b o hb _=>⟨o,m.keeps b o hb⟩,fun b xs hb=>old b _ hb,fun b o u hb=>old b _ hb,fun b ps hb=>⟨#[],by simpa using old b _ hb⟩⟩ (fun b u hb=>?_) I.bare fun b hb=>absurd hb (by simp)⟩
 ·rw [zal (fun z=>by rw [z,m.new] at hb; cases hb)]; exact hz
 ·by_cases z:b=e
  ·subst z
   rw [zak] at hb; cases hb
   exact XR.ok m1
  ·rw [zal z] at hb
   exact (I.hok b u hb).stay (fun c v _ hc=>m.keeps c v hc) (fun c hc=>old c _ hc) fun c xs hc=>old c _ hc
theorem Fly.init {s':Shared} {h':Heap} {e C dx:Addr} {vs:List Value} {f:Str} {y:V} (I:Inv X pins σ H s) (m:s.heap.MadeExcOf h' e (.ref C) vs) (os:s'.os=s.os) (bare:AllBare s'.gens)
  (un:Un (frs X.stack) [] (upd H e (.ext (XR e C none))) (upd (upd (upd H e (.ext (XR e C none))) dx (.xd [(f,y)])) e (.ext (XR e C (some dx)))) h' s'.heap)
  (hok:HOk X.prog X.w (upd (upd (upd H e (.ext (XR e C none))) dx (.xd [(f,y)])) e (.ext (XR e C (some dx)))) s'.heap) (hdx:upd H e (.ext (XR e C none)) dx=none) (hde:dx≠e) :
  H dx=none∧Fly X.prog X.w X.stack H s (upd H dx (.xd [(f,y)])) e (.ref C) (some dx) s':=by
 obtain ⟨hn,I2⟩:=Inv.exc I m
 have hd:H dx=none:=by rw [zal hde] at hdx; exact hdx
 have ne:∀b o,s.heap.get? b=some o→b≠e:=fun b o hb z=>by rw [z,m.new] at hb; cases hb
 have up:∀b,b≠e→upd (upd (upd H e (.ext (XR e C none))) dx (.xd [(f,y)])) e (.ext (XR e C (some dx))) b=upd H dx (.xd [(f,y)]) b:=fun b hb=>by
  rw [zal hb]
  by_cases z:b=dx
  ·subst z; rw [zak,zak]
  ·rw [zal z,zal z,zal hb]
 have up0:∀b,b≠e→upd H e (.ext (XR e C none)) b=H b:=fun b hb=>zal hb
 have he2:upd H dx (.xd [(f,y)]) e=none:=by rw [zal hde.symm]; exact hn
 have inn:∀b u,upd H dx (.xd [(f,y)]) b=some u→b≠e:=fun b u hb z=>by rw [z,he2] at hb; cases hb
 obtain ⟨⟨t,g1⟩,_,_⟩:=hok e _ zak
 have un2:Un (frs X.stack) [] H (upd H dx (.xd [(f,y)])) s.heap s'.heap:=by
  refine ⟨fun b o hb hz hf hx=>un.keep b o (m.keeps b o hb) (by rw [up0 b (ne b o hb)]; exact hz) hf hx,fun b o hb hz hf hx=>un.slot b o (m.keeps b o hb) (by rw [up0 b (ne b o hb)]; exact hz) hf hx,fun b o hb hz hx=>?_,fun b o hb hx=>un.there b o (m.keeps b o hb) hx,fun b xs hb=>?_,fun b o u hb=>?_,fun b ps hb=>?_⟩
  ·rw [←up b (ne b o hb)]; exact un.free b o (m.keeps b o hb) (by rw [up0 b (ne b o hb)]; exact hz) hx
  ·have hbe:b≠e:=fun z=>by rw [z,hn] at hb; cases hb
   rw [←up b hbe]; exact un.tups b xs (by rw [up0 b hbe]; exact hb)
  ·have hbe:b≠e:=fun z=>by rw [z,hn] at hb; cases hb
   rw [←up b hbe]; exact un.frzs b o u (by rw [up0 b hbe]; exact hb)
  ·have hbe:b≠e:=fun z=>by rw [z,hn] at hb; cases hb
   rw [←up b hbe]; exact un.tbls b ps (by rw [up0 b hbe]; exact hb)
 have hok2:HOk X.prog X.w (upd H dx (.xd [(f,y)])) s'.heap:=fun b u hb=>by
  refine (hok b u (by rw [up b (inn b u hb)]; exact hb)).stay (fun c v _ hc=>hc) (fun c hc=>?_) fun c xs hc=>?_
  ·have:c≠e:=fun z=>by rw [z,zak] at hc; cases hc
   rw [←up c this]; exact hc
  ·have:c≠e:=fun z=>by rw [z,zak] at hc; cases hc
   rw [←up c this]; exact hc
 refine ⟨hd,os,bare,un2,hok2,hideAll s'.heap (e::frs X.stack),fun b o hb=>of_hideAll _ hb,hideAll_none _ List.mem_cons_self,?_,⟨_,_,g1,rfl,fun d hd=>by cases hd; rfl,rfl,.inl rfl⟩,fun b o hb hf=>?_,fun b u hb=>?_⟩
 ·have key:∀l:List Env,(∀b∈frs l,b∈frs X.stack)→s.heap.FunFrames X.base l→s'.heap.FunFrames (hideAll s'.heap (e::frs X.stack)) l:=by
   intro l
   induction l with
   | nil=>intro _ _; unfold Heap.FunFrames; trivial
   | cons env l ih=>
    intro hs hf
    unfold Heap.FunFrames at hf ⊢
    obtain ⟨f1,⟨L,o,f2,f3,f4,f5⟩,f6⟩:=hf
    have hL:L∈frs X.stack:=hs L (by unfold frs; rw [List.filterMap_cons,f2]; exact List.mem_cons_self)
    obtain ⟨sl,hsl⟩:=un2.slot L o f4 (I.stkFree L hL) hL (by simp)
    refine ⟨f1,⟨L,_,f2,hideAll_none _ (List.mem_cons_of_mem _ hL),hsl,f5⟩,ih (fun b hb=>hs b ?_) f6⟩
    unfold frs; rw [List.filterMap_cons,f2]; exact List.mem_cons_of_mem _ hb
  exact key X.stack (fun _ hb=>hb) I.stack
 ·obtain ⟨o',ho'⟩:=un2.there b o hb (by simp)
  exact ⟨o',hideAll_get _ ho' fun z=>by
   rcases List.mem_cons.mp z with z | z
   ·exact ne b o hb z
   ·exact hf z⟩
 ·obtain ⟨o,eo⟩:=zkl (hok2 b u hb)
  refine ⟨o,hideAll_get _ eo fun z=>?_⟩
  rcases List.mem_cons.mp z with z | z
  ·exact inn b u hb z
  ·have h1:=I.stkFree b z
   by_cases zz:b=dx
   ·obtain ⟨_,ob,hob,_⟩:=I.stack.mem z
    have:=un2.free b ob hob h1 (by simp)
    rw [this] at hb; cases hb
   ·rw [zal zz,h1] at hb; cases hb
end
section
variable {X:Cx} {pins:List (Addr × Obj)} {σ:L2.St} {H:Hp} {s:Shared} {x f:Str} {C:Addr} {np cpos pos:Pos} {a:Expr} {t:TA}
theorem zjV {Q:Flow→Shared→Prop} (I:Inv X pins σ H s) (hc:X.calm=true) (c:XCI X.prog X.w X.K X.mg X.base x C f) (hr:Room 2 X.A) (hg:Gl X x) (ha:PA X [a] t)
  (h:t σ H fun vs H1=>∃i,vs=[.int i]∧i.natAbs.log2 < 64∧∀s1 e dx s',Inv X pins σ H1 s1→H1 dx=none→Fly X.prog X.w X.stack H1 s1 (upd H1 dx (.xd [(f,.int i)])) e (.ref C) (some dx) s'→X.xe (.ref e) s')
  (hdb:(x == ("__debug__" : Str))=false:=by decide) (he:starEach [a] X.env=(false,eval a X.env)::starEach [] X.env:=by rfl) (hpl:(backTo cpos (starEach [] X.env)).any (·.1)=false:=by rfl) :
  wpAny (model X.prog X.w) X.A (exec (.Raise (some (.Call (.Name x np) [a] [] cpos)) none pos) X.env) Q X.xe s:=by
 obtain ⟨bm,fI,fd,y,oI,N,nm,ql,bs,sn,sub,ab,col,dd,k0,k1,k2,k3,k5,xi,ob,hns,hni,hfI,hfc,hbd,F⟩:=c.ex
 rw [arm_exec_Raise]
 refine wpAny_bind (wpAny_standAt (zlL (C:=C) (nm:=nm) (ql:=ql) (N:=N) (bs:=bs) (bm:=bm) (hdct:=true) (sn:=sn) (sub:=sub) (ab:=ab) (col:=col) (dd:=dd) (k0:=k0) (k1:=k1) (k2:=k2) (k3:=k3) (k5:=k5) (nw := "ValueError.__new__") (zib (xi.tl _ I.kIn) (by decide +kernel)) (I.ok.hd hc)
  (wpAny_bind (wpAny_mono (wpAny_Call_Name_kw (zer I hg c.bound ?_ hdb)) (fun v s3 h3=>wpAny_bind (wpAny_standAt (wpAny_pure h3))) fun _ _ z=>z))))
 refine callWith_K (h₀:=X.base) I.ok.mod.kin c.keep (thn (ha cpos pins s σ H _ I h) fun us s1 ⟨vs,H1,I1,r,i,hv,hi,q⟩=>⟨I1.kIn,?_⟩) he hpl
 subst hv
 obtain ⟨u,rfl,ru⟩:=r.one
 obtain ⟨hp,gs,dr,tk,os⟩:=s1
 refine zk3 (us:=[u]) PySem.F.excBase_ValueError (xi.tl _ I1.kIn) (I1.kIn _ _ ob) (Heap.Ns.of_isNs (isNs_of_in I1.kIn hns)) ?_ (I1.kIn _ _ hfI) hfc (by rw [sizeLine_eq]; show 1≤16777216; decide) fun h' e m=>?_
 ·exact zrT I1.kIn (Heap.Ns.of_isNs (isNs_of_in I1.kIn hns)) hni
 obtain ⟨hn,I2⟩:=Inv.exc I1 m
 have e0:=I2.env0.make C [u] []
 refine wpAny_call (codeAny_mono (F.run _ X.stack _ _ ⟨[.ref e,u],[]⟩ [.ref e,u] [.ref e,.int i] (fun v H'=>v=.non∧∃dx,upd H1 e (.ext (XR e C none)) dx=none∧dx≠e∧H'=upd (upd (upd H1 e (.ext (XR e C none))) dx (.xd [(f,.int i)])) e (.ext (XR e C (some dx)))) (fun _ _ _=>False) (hr.make C [u] []) e0 (hbd _ [.ref e,u] I2.kIn rfl) (.cons rfl (.cons ru .nil)) ⟨e,i,rfl,hi,zak,fun dx h1 h2=>⟨rfl,dx,h1,h2,rfl⟩⟩) fun r s' hq=>?_)
 cases r with
 | error e=>exact False.elim hq
 | ok fl=>
  cases fl with
  | ret z=>
   obtain ⟨v,H',o1,o2,o3,o4,o5,rfl,dx,d1,d2,rfl⟩:=hq
   obtain ⟨hd,fl⟩:=Fly.init I1 m o1 o2 o3 o4 d1 d2
   obtain ⟨⟨t,g1⟩,_,_⟩:=o4 e _ zak
   exact ⟨o5,e,t,some dx,rfl,(I1.call' (ch:=[]) fl.os fl.un fl.hok fl.bare (fun b z=>absurd z (by simp))).kIn _ _ ob,g1,q _ e dx s' I1 hd fl⟩
  | next=>exact False.elim hq
  | brk=>exact False.elim hq
  | cont=>exact False.elim hq
end
end DL
end
section
namespace DL
open PySem PySem.Spec PyProof.Rows L2 PySem.W PySem.Calls
def zjW (m:List Md) (nm f:Str) (fl:Rho→Res (List D)):FS:=fun r=>onE m r (fl r) fun ds=>match ds with
 | [.int i]=>if i.natAbs.log2 < 64 then .exc (xD nm [(f,.int i)]) (forget m r) else .stuck
 | _=>.stuck
section
variable {X:Cx} {g:GE} {ro:Bool} {m mb:List Md} {a e:Expr} {fl:Rho→Res (List D)} {fe:FE} {x f nm:Str} {C:Addr} {p np pos:Pos}
theorem zih (hc:X.calm=true) (c:XCI X.prog X.w X.K X.mg X.base x C f) (xn:XN X.K nm C) (hr:Room 2 X.A) (hg:Gl X x) (ha:SA X g m [a] fl) (hdb:(x == ("__debug__" : Str))=false:=by decide)
  (he:starEach [a] X.env=(false,eval a X.env)::starEach [] X.env:=by rfl) (hpl:(backTo p (starEach [] X.env)).any (·.1)=false:=by rfl) :
  SS X g ro mb m (.Raise (some (.Call (.Name x np) [a] [] p)) none pos) (zjW m nm f fl) m:=by
 refine ⟨rfl,fun pins s σ H D I ⟨r,G,si,q⟩=>?_⟩
 refine zjV I hc c hr hg ha ⟨r,G,si,?_⟩ hdb he hpl
 refine zaf (zbo si rfl q) fun ds q vs G' H' w' rs=>?_
 split at q
 ·rename_i i
  split at q
  ·rename_i hi
   cases rs with
   | cons r1 rest=>
    cases rest
    have hv:=r1.int w'.ok
    subst hv
    refine ⟨i,rfl,hi,fun s1 e dx s' I1 hd fl=>?_⟩
    have gw:Grow X.K G' H' (gset G' dx (.obj 1 [(f,.int i)])) (upd H' dx (.xd [(f,.int i)])):=Grow.newF w'.ok hd (OB.fld zak (.cons ⟨rfl,.scl (.int i)⟩ .nil))
    exact q pins (.ref e) s' σ _ _ (w'.trans gw).ge (by have:=(si.grow (w'.trans gw)).forget; exact this) (fl.inv I1) ⟨pins,s1,H',e,C,some dx,nm,[(f,.int i)],rfl,rfl,xn,zax,I1,fl⟩
  ·exact q.elim
 ·exact q.elim
def xatD (hit:Str→Bool) (f:Str):D→Option D
 | .obj 0 ((_,.str nm)::ds)=>if hit nm=true then ds.lookup f else none
 | _=>none
def zmL (K:PySem.W.Frag) (f:Str) (hit:Str→Bool):Prop:=∀nm C,hit nm=true→XN K nm C→∃bm,XA K C bm∧XI K C bm f
theorem zp5 {ta:TE} (he:PE X e ta) (hb:attributeBase e f X.env (eval e X.env)=eval e X.env):PE X (.Attribute e f pos) (fun σ H Q=>ta σ H fun x H1=>∃a C bm dx fs v,x=.ref a∧H1 a=some (.ext (XcO a C (some dx)))∧XA X.K C bm∧XI X.K C bm f∧H1 dx=some (.xd fs)∧fs.lookup f=some v ∧
  (∀u,RelV v u→handedIn u=true)∧Q v H1):=by
 intro pins s σ H Q I h
 refine zoZ hb (thn (he pins s σ H _ I h) fun u s1 ⟨x,H1,I1,rx,a,C,bm,dx,fs,v,ex,ea,xa,xi,ed,l,hh,q⟩=>?_)
 subst ex
 obtain rfl:u=Value.ref a:=rx
 obtain ⟨⟨oe,vs,o1,o2,o3,o4⟩,_,_⟩:=I1.hok a _ ea
 obtain ⟨N,nm,ql,bs,sn,sub,ab,col,dd,k0,k1,k2,k3,k5,ob⟩:=xi.ob
 obtain ⟨mA,n1,n2⟩:=I1.hok dx _ ed
 have n3:=n2 f
 rw [l] at n3
 unfold getAttr
 refine wpAny_bind (wpAny_mkText ?_)
 cases hm:mA f with
 | none=>rw [hm] at n3; exact False.elim n3
 | some z=>
  rw [hm] at n3
  exact zk5 (s:={ heap:=s1.heap,gens:=s1.gens,drawn:=s1.drawn,toks:=s1.toks + 1,os:=s1.os }) I1.kIn (I1.kIn _ _ ob) o1 o2 xa.be xa.ga xa.gn (zq2 (s:={ heap:=s1.heap,gens:=s1.gens,drawn:=s1.drawn,toks:=s1.toks + 1,os:=s1.os }) I1.kIn (I1.kIn _ _ ob) o1 o2 o4 (o3 dx rfl) n1.ns xi.g1 hm (handedOut_of (hh z n3)) ⟨v,H1,I1.tok _,n3,q⟩)
theorem RFs.look {K:PySem.W.Frag} {G:GH} {fs:List (Str × V)} {ds:List (Str × D)} {d:D} (h:RFs K G fs ds) (l:ds.lookup f=some d):∃v,fs.lookup f=some v∧RG K G v d:=by
 induction h with
 | nil=>cases l
 | @cons p q fs ds r _ ih=>
  obtain ⟨a,v⟩:=p
  obtain ⟨b,d'⟩:=q
  obtain ⟨r1,r2⟩:=r
  have r1:a=b:=r1
  subst r1
  rw [List.lookup] at l ⊢
  split at l
  ·rename_i hb
   cases l
   exact ⟨v,rfl,r2⟩
  ·rename_i hb
   exact ih l
theorem znD {hit:Str→Bool} (hx:zmL X.K f hit) (he:SB X g m e fe) (hb:attributeBase e f X.env (eval e X.env)=eval e X.env:=by rfl):SE X g m (.Attribute e f pos) (f1 fe (xatD hit f)):=by
 refine PE.imp (zp5 he hb) fun σ H Q ⟨r,G,si,q⟩=>⟨r,G,si,zaf (zah q) fun d q1 v G1 H1 w1 r1=>?_⟩
 obtain ⟨d',e',q2⟩:=zaD q1
 unfold xatD at e'
 split at e'
 ·rename_i k nm ds
  split at e'
  ·rename_i hh
   obtain ⟨a,C,dx,rfl,ha,xn,hG⟩:∃a C dx,v=.ref a∧H1 a=some (.ext (XcO a C (some dx)))∧XN X.K nm C∧G1 dx=some (.obj 1 ds):=by
    rcases r1 with h | ⟨a,rfl,h⟩
    ·cases h with
     | scl s=>cases s
     | ref e2=>
      cases w1.ok _ _ e2 with
      | @exc _ _ od _ r n fl=>
       cases od with
       | none=>cases (show ds=[] from fl); cases e'
       | some dx=>exact ⟨_,_,dx,rfl,r,n,fl⟩
     | kc k=>cases k
    ·cases h.ob
   obtain ⟨bm,xa,xi⟩:=hx nm C hh xn
   cases w1.ok _ _ hG with
   | fld hd rf=>
    obtain ⟨v',l,rv⟩:=rf.look e'
    refine ⟨a,C,bm,dx,_,v',rfl,ha,xa,xi,hd,l,fun u hu=>?_,q2 v' G1 H1 w1 rv⟩
    cases rv with
    | scl s=>cases s <;> first | (obtain ⟨_,rfl⟩:=hu; rfl) | (cases hu; rfl)
    | ref _=>cases (show u=Value.ref _ from hu); rfl
    | kc _=>cases (show u=Value.ref _ from hu); rfl
  ·cases e'
 ·cases e'
end
end DL
end
section
namespace DL
open PySem PySem.Spec PyProof.Rows L2 PySem.W PySem.Calls
def nsOf (K:PySem.W.Frag) (C:Addr):Option Addr:=match K.lookup C with
 | some ⟨_,_,.cls cd,_⟩=>some cd.ns
 | _=>none
def zkIn (K:PySem.W.Frag) (C N:Addr):Bool:=match K.lookup C with
 | some ⟨.type "type",_,.cls cd,sl⟩=>(match cd.mro,sl.toList with
  | .ref C'::bm,[_,_,_,_,some (.builtin n),_]=>C' == C && n == "ValueError.__new__" && ! cd.hasDel && cd.hasDict && tailIn K vErr bm && nsOkIn K cd.ns && cd.ns == N
  | _,_=>false)
 | _=>false
theorem zrt {K:PySem.W.Frag} {C N:Addr} (h:zkIn K C N=true):∃bm,(∃nm q bs sn sub ab col dd k0 k1 k2 k3 k5,K.lookup C=some (excClassObj nm q C N bs bm true sn sub ab col dd k0 k1 k2 k3 k5 "ValueError.__new__"))∧tailIn K vErr bm=true∧nsOkIn K N=true:=by
 unfold zkIn at h
 split at h
 ·rename_i dict cd sl hk
  split at h
  ·rename_i C' bm k0 k1 k2 k3 n k5 hm hs
   simp only [Bool.and_eq_true,beq_iff_eq,Bool.not_eq_true'] at h
   obtain ⟨⟨⟨⟨⟨⟨rfl,rfl⟩,hd⟩,hx⟩,ht⟩,hn⟩,rfl⟩:=h
   obtain ⟨nm',bs,mro,ns,q,hdct,sn,sub,ab,col,hdel⟩:=cd
   have e1:mro=Value.ref C'::bm:=hm
   have e2:hdel=false:=hd
   have e4:hdct=true:=hx
   subst e1 e2 e4
   have e3:sl = #[k0,k1,k2,k3,some (Value.builtin "ValueError.__new__"),k5]:=by
    cases sl with
    | mk l=>exact congrArg Array.mk hs
   subst e3
   exact ⟨bm,⟨_,_,_,_,_,_,_,_,_,_,_,_,_,hk⟩,ht,hn⟩
  ·cases h
 ·cases h
theorem zo9 {K:PySem.W.Frag} {C N:Addr} {bm:List Value} {nm:Str} (h:zkIn K C N=true) (o:xoIn K C=some (bm,nm)):(∃nm q bs sn sub ab col dd k0 k1 k2 k3 k5,K.lookup C=some (excClassObj nm q C N bs bm true sn sub ab col dd k0 k1 k2 k3 k5 "ValueError.__new__"))∧tailIn K vErr bm=true∧nsOkIn K N=true:=by
 obtain ⟨bm',⟨nm',q,bs,sn,sub,ab,col,dd,k0,k1,k2,k3,k5,h1⟩,h2,h3⟩:=zrt h
 obtain ⟨⟨N1,nm1,q1,bs1,hd1,sn1,sub1,ab1,col1,dd1,a0,a1,a2,a3,a5,nw1,z1⟩,_⟩:=znl o
 rw [h1] at z1
 have:bm'=bm:=by
  have e1:=congrArg Obj.data (Option.some.inj z1)
  have e2:=Data.cls.inj e1
  have e3:=congrArg ClassData.mro e2
  exact (List.cons.inj e3).2
 subst this
 exact ⟨⟨_,_,_,_,_,_,_,_,_,_,_,_,_,h1⟩,h2,h3⟩
theorem zsq {K:PySem.W.Frag} {C N:Addr} {bm:List Value} {nm f:Str} (h:zkIn K C N=true) (o:xoIn K C=some (bm,nm)) (g0:findIn K (.ref C) "__setattr__" = some (some (.builtin "object.__setattr__"))) (g1:findIn K (.ref C) f=some none):XI K C bm f:=by
 obtain ⟨⟨nm',q,bs,sn,sub,ab,col,dd,k0,k1,k2,k3,k5,h1⟩,h2,h3⟩:=zo9 h o
 exact ⟨⟨N,nm',q,bs,sn,sub,ab,col,dd,k0,k1,k2,k3,k5,h1⟩,fun h kin=>tail_of_in kin h2,g0,g1⟩
theorem zsj {P:Program} {w:World} {K:PySem.W.Frag} {h:Heap} {mg:Str→Option Value} {x y f qual nm:Str} {C N fI:Addr} {bm:List Value} {st:Stmt} {fd:FuncData} (KX:K.In h) (G:h.Ns mainGlobals mg) (a:nsIn K mainGlobals x=some (some (.ref C))) (kp:keepIn K (.ref C)=true)
  (z:zkIn K C N=true) (o:xoIn K C=some (bm,nm)) (xi:XI K C bm f) (i:nsIn K N "__init__" = some (some (.ref fI))) (F:Fun K "__init__" qual st fI fd) (fc:typeIn K (.ref fI)=some (.type "function"))
  (hb:∀(kV doc pm:Value) (an:Option Addr) (cdv ct:Value) (us:List Value),us.length=([("self" : Str),y]).length→bindArgs (PySem.W.fnOf "__init__" qual (defArgs st) (defBody st) (defScope st) .none kV doc pm an cdv ct) ⟨us,[]⟩=pure (([("self" : Str),y]).zip us))
  (ok:∀base,FnOk P w K mg base CX0 1 fI fd ["self",y] (spI C f)) (base:Heap):XCI P w K mg base x C f:=by
 obtain ⟨⟨nm',q,bs,sn,sub,ab,col,dd,k0,k1,k2,k3,k5,h1⟩,h2,h3⟩:=zo9 z o
 obtain ⟨oI,lI,hI⟩:=Option.map_eq_some_iff.mp (show (K.lookup fI).map (·.cls)=some (.type "function") from fc)
 exact ⟨mg_of KX G a,kp,bm,fI,fd,y,oI,N,nm',q,bs,sn,sub,ab,col,dd,k0,k1,k2,k3,k5,xi,h1,h3,i,lI,hI,F.binds hb,ok base⟩
def zqW (s:Stmt):Stmt:=match s with
 | .ClassDef _ _ _ (d::_) _ _ _ _ _ _ _=>d
 | _=>s
section
variable {P:Program} {w:World} {K:PySem.W.Frag} {mg:Str→Option Value} {base:Heap}
end
theorem zsp {K:PySem.W.Frag} {f:Str} {hit:Str→Bool} (l:List (Str × Addr × List Value)) (h:∀q∈l,CF K q.1 q.2.1 q.2.2∧XI K q.2.1 q.2.2 f) (hh:∀nm,hit nm=true→∃q∈l,q.1=nm):zmL K f hit:=by
 intro nm C hn xn
 obtain ⟨q,hq,rfl⟩:=hh nm hn
 obtain ⟨c,xi⟩:=h q hq
 have:=c.eq xn
 subst this
 exact ⟨_,c.xa,xi⟩
end DL
end
section
namespace DL
open PySem PySem.Spec PyProof.Rows L2 PySem.W PySem.Calls
section
variable {X:Cx} {tg:Expr}
theorem zn5 {iter:Expr} {body:List Stmt} {wi:TI} {g:TG} {tb:TS} {pos:Pos} (hc:X.calm=true) (hi:PI X tg iter wi) (hg:PG X.nox tg g) (hb:PSs X.nox body tb)
  (hs:∀x,foldedSetIterable iter X.env x=pure x:=by intro _; rfl):PS X (.For tg iter body [] pos) (tFor wi g tb):=by
 intro pins s σ H D I h
 refine wpAny_For (thn (hi pins s σ H _ I h) fun v s1 h1=>thn h1 fun itv s2 h2=>?_) hs
 obtain ⟨it,fp,tn,J,H2,e,I2,T,st2,f2,W,⟨m0,w0⟩,turn⟩:=h2
 subst e
 have stat:∀{H':Hp},(∀b∈fp,H' b=none)→∀b∈fp,FpOk X pins H' b:=fun hn b hb=>⟨hn b hb,(f2 b hb).2⟩
 refine codeAny_forLoop_any (fun n s'=>∃i σ' H',L2.Inv X pins σ' H' s'∧tn i s'.heap∧(∀b∈fp,H' b=none)∧W i n σ' H') ?_ m0 ⟨0,σ,H2,I2,st2,fun b hb=>(f2 b hb).1,w0⟩
 rintro n s3 ⟨i,σ3,H3,I3,st3,fr3,w3⟩
 rcases turn i n σ3 H3 w3 with ⟨stop,qn⟩ | ⟨go,N,hN,step⟩
 ·refine wpAny_mono (T.done X rfl rfl rfl hc i pins s3 σ3 H3 (fun _ _=>False) I3 (stat fr3) st3 stop) (fun r s4 ⟨hr,I4⟩=>?_) fun _ _ z=>False.elim z
  subst hr
  exact wpAny_execs_nil ⟨σ3,H3,I4,qn⟩
 ·refine wpAny_mono (T.item X rfl rfl rfl hc i pins s3 σ3 H3 (fun _ _=>False) I3 (stat fr3) st3 go) (fun r s4 ⟨u,hr,h4⟩=>?_) fun _ _ z=>False.elim z
  subst hr
  refine wpAny_mono h4 (fun _ s5 ⟨x,H5,I5,r5,y5,st5,fr5⟩=>?_) fun _ _ z=>False.elim z
  have I5':=I5.pinned (stat fr5) (T.obj _ _ st5)
  refine wpAny_mono (hg _ s5 σ3 H5 x u _ (I5'.wish _) r5 (step x H5 y5)) (fun _ s6 ⟨σ6,H6,I6,q6⟩=>?_) fun _ _ z=>False.elim z
  refine wpAny_mono (hb _ s6 σ6 H6 _ I6 q6) (fun f s7 q7=>?_) fun _ _ z=>False.elim z
  have again:∀{σ7:L2.St} {H7:Hp},L2.Inv X (pins++zfg fp s5.heap) σ7 H7 s7→N σ7 H7→∃m,m < n∧∃i σ' H',L2.Inv X pins σ' H' s7∧tn i s7.heap∧(∀b∈fp,H' b=none)∧W i m σ' H':=fun {σ7 H7} I7 n7=>by
   obtain ⟨m',hm,w7⟩:=hN σ7 H7 n7
   refine ⟨m',hm,i + 1,σ7,H7,I7.unpinned,T.keep _ _ _ st5 fun b hb o e=>(I7.pin (b,o) (List.mem_append_right _ (List.mem_append_right _ (zbw hb e)))).1,fun b hb=>?_,w7⟩
   obtain ⟨o,e,d⟩:=T.obj _ _ st5 b hb
   exact (I7.pin (b,o) (List.mem_append_right _ (List.mem_append_right _ (zbw hb e)))).2.1
  cases f with
  | next=>obtain ⟨σ7,H7,I7,n7⟩:=q7; exact again I7.unwish n7
  | cont=>obtain ⟨σ7,H7,I7,n7⟩:=q7; exact again I7.unwish n7
  | brk=>obtain ⟨σ7,H7,I7,q7⟩:=q7; exact ⟨σ7,H7,I7.unwish.unpinned,q7⟩
  | ret v=>obtain ⟨x7,σ7,H7,I7,r7,q7⟩:=q7; exact ⟨x7,σ7,H7,I7.unwish.unpinned,r7,q7⟩
end
def noXS (s:FS):FS:=fun r=>match s r with
 | .exc _ _=>.stuck
 | o=>o
def zg8 (m:List Md) (fi:FI) (ft:FT) (body:FS):FS:=fun r=>onE m r (fi r) fun ds=>forF ft (noXS body) ds r
section
variable {X:Cx} {g:GE} {ro:Bool} {m mb:List Md} {tg iter:Expr} {sts:List Stmt} {s1:FS} {pos:Pos}
theorem zmR (hc:X.calm=true) {ft:FT} {fi:FI} (hi:SIt X g m tg iter fi) (hg:SG X.nox g m tg ft m) (hb:SSs X.nox g ro m m sts s1 m)
  (hs:∀x,foldedSetIterable iter X.env x=pure x:=by intro _; rfl):SS X g ro mb m (.For tg iter sts [] pos) (zg8 m fi ft s1) m:=by
 refine ⟨rfl,PS.imp (zn5 hc hi hg.2 hb.2 hs) fun D σ H ⟨r,G,si,q⟩=>⟨r,G,si,zaf (zbo si rfl q) fun ds q J G0 H0 w0 Y=>?_⟩⟩
 refine ⟨fun i n σ H=>∃r G,SI X g m r G σ H∧Gle G0 G∧i≤ds.length∧n=ds.length - i∧oTo X g ro m mb G D (forF ft (noXS s1) (ds.drop i) r),⟨ds.length,r,G0,si.grow w0,Gle.refl G0,Nat.zero_le _,rfl,oTo.gle q w0.ge⟩,?_⟩
 rintro i n σ1 H1 ⟨r1,G1,si1,le1,hi,rfl,q1⟩
 by_cases hlt:i < ds.length
 ·have hd:ds.drop i=ds[i]::ds.drop (i + 1):=List.drop_eq_getElem_cons hlt
  rw [hd] at q1
  unfold forF at q1
  refine .inr ⟨Y.go G1 H1 i le1 si1.gok hlt,fun σ' H'=>∃r G,SI X g m r G σ' H'∧Gle G0 G∧oTo X g ro m mb G D (forF ft (noXS s1) (ds.drop (i + 1)) r),fun σ' H' ⟨r',G',si',le',q'⟩=>⟨ds.length - (i + 1),by omega,r',G',si',le',hlt,rfl,q'⟩,fun x H' y=>?_⟩
  obtain ⟨G',w',rv⟩:=Y.yld G1 H1 i x H' ds[i] le1 si1.gok y (List.getElem?_eq_getElem hlt)
  have le':Gle G0 G':=le1.trans w'.ge
  cases eft:ft ds[i] r1 with
  | none=>simp only [eft] at q1; exact q1.elim
  | some r2=>
   simp only [eft] at q1
   have si1':SI X g m r1 G' σ1 H':=si1.grow w'
   refine ⟨r1,G',ds[i],⟨si1'.gok,si1'.old,si1'.ge,si1'.gf,si1'.lm,si1'.lr,si1'.sh,si1'.ow,si1'.bw,si1'.dis,si1'.lk⟩,rv,r2,eft,fun σ2 si2=>⟨r2,G',si2,?_⟩⟩
   have back:∀{m:List Md} {r:Rho} {G:GH} {σ:L2.St} {H:Hp},SI X.nox g m r G σ H→SI X g m r G σ H:=fun z=>⟨z.gok,z.old,z.ge,z.gf,z.lm,z.lr,z.sh,z.ow,z.bw,z.dis,z.lk⟩
   have en:noXS s1 r2=match s1 r2 with
    | .exc _ _=>.stuck
    | o=>o:=rfl
   cases eb:s1 r2 with
   | nx r'=>simp only [en,eb] at q1; exact fun σ3 G3 H3 le3 si3=>⟨r',G3,back si3,le'.trans le3,oTo.gle q1 (Gle.trans w'.ge le3)⟩
   | ct r'=>simp only [en,eb] at q1; exact fun σ3 G3 H3 le3 si3=>⟨r',G3,back si3,le'.trans le3,oTo.gle q1 (Gle.trans w'.ge le3)⟩
   | bk r'=>simp only [en,eb] at q1; exact fun σ3 G3 H3 le3 si3=>q1 σ3 G3 H3 (Gle.trans w'.ge le3) (back si3)
   | rt d=>simp only [en,eb] at q1; exact q1
   | exc x r'=>simp only [en,eb] at q1; exact q1.elim
   | stuck=>simp only [en,eb] at q1; exact q1.elim
 ·have e:i=ds.length:=by omega
  subst e
  rw [List.drop_length] at q1
  exact .inl ⟨Y.stop G1 H1 le1 si1.gok,q1 σ1 G1 H1 (Gle.refl _) si1⟩
end
end DL
end
section
namespace DL
open PySem PySem.Spec PyProof.Rows L2 PySem.W PySem.Calls
section
variable {X:Cx} {pins:List (Addr × Obj)} {σ:L2.St} {H H':Hp} {s s':Shared} {a:Addr} {cls:Value} {od:Option Addr}
theorem Fly.looped {M:Model} {E:Value→Shared→Prop} (F:Fly X.prog X.w X.stack H s H' a cls od s') (I:L2.Inv X pins σ H s) (hst:X.stack=X.env::X.outer) (hfr:X.env.frame=some X.env.locals)
  (q:∀s'',Fly X.prog X.w X.stack H s H' a cls od s''→E (.ref a) s''):notedBy M X.A X.env (cameBackBy M X.A X.env E) (.ref a) s':=by
 obtain ⟨B,hB,hBa,hff,⟨oe,vs,r1,r2,r3,r4,r5⟩,hd,hH⟩:=F.ex
 have hHa:H' a=none:=by
  cases e:H' a with
  | none=>rfl
  | some u=>obtain ⟨o',z⟩:=hH a u e; rw [hBa] at z; cases z
 have haf:a∉frs X.stack:=fun z=>by
  obtain ⟨_,o,e1,nf⟩:=hff.mem z
  rw [r1] at e1; cases e1
  exact nf vs r4
 have hs1:1 < vs.size:=by
  rcases r5 with z | ⟨_,_,_,z,_⟩ | ⟨_,_,_,_,_,z,_⟩ <;> exact (Array.getElem?_eq_some_iff.mp z).1
 have fin:∀(T:Option Addr) h',(∀b,T=some b→B.get? b=none)→Lft (frs (X.env::X.outer)) a oe vs T (rawInt ↑X.env.locals) s'.heap h'→E (.ref a) { heap:=h',gens:=s'.gens,drawn:=s'.drawn,toks:=s'.toks,os:=s'.os }:=fun T h' hT l=>by
  rw [←hst] at l
  have same:∀b o,(∃o',B.get? b=some o')→s'.heap.get? b=some o→h'.get? b=some o:=fun b o ⟨o',e⟩ h=>by
   refine l.keep b o (fun z=>?_) (fun z=>by rw [z,hBa] at e; cases e) (fun z=>by rw [hT b z] at e; cases e) h
   rw [(hff.mem z).1] at e
   cases e
  obtain ⟨tb,ot,ts,t1,t2,t3,t4,t5,t6⟩:=l.obj
  have htB:B.get? tb=none:=by
   rcases t1 with t1 | t1
   ·cases z:B.get? tb with
    | none=>rfl
    | some o=>have:=hB tb o z; rw [t1] at this; cases this
   ·exact hT tb t1
  have hok1:HOk X.prog X.w H' h':=fun b u e=>by
   refine (F.hok b u e).stay (fun c v hc e1=>same c v ?_ e1) (fun _ z=>z) fun _ _ z=>z
   rcases hc with hc | hc
   ·rw [hc]; exact hH b u e
   ·exact hH c _ hc
  refine q _ ⟨F.os,F.bare,⟨fun b o e n f z=>?_,fun b o e n f z=>?_,F.un.free,fun b o e z=>?_,F.un.tups,F.un.frzs,F.un.tbls⟩,hok1,B,fun b o e=>same b o ⟨o,e⟩ (hB b o e),hBa,hff.of_keeps fun b o e nf=>?_,
   ⟨_,_,t3,r2,r3,rfl,.inr (.inr ⟨X.env.locals,tb,ot,ts,by unfold topF; rw [hst]; exact hfr,Array.getElem?_setIfInBounds_self_of_lt hs1,htB,t2,t4,t5,t6⟩)⟩,hd,hH⟩
  ·exact same b o (hd b o e f) (F.un.keep b o e n f z)
  ·obtain ⟨sl,e1⟩:=F.un.slot b o e n f z
   obtain ⟨_,o2,e2,nf⟩:=hff.mem f
   rw [e1] at e2
   cases e2
   obtain ⟨sl2,e3⟩:=l.slot b _ e1 nf
   exact ⟨sl2,e3⟩
  ·obtain ⟨o1,e1⟩:=F.un.there b o e z
   by_cases f:b∈frs X.stack
   ·obtain ⟨_,o2,e2,nf⟩:=hff.mem f
    obtain ⟨sl,e3⟩:=l.slot b _ e2 nf
    exact ⟨_,e3⟩
   ·exact ⟨o1,same b o1 (hd b o e f) e1⟩
  ·obtain ⟨sl,e1⟩:=l.slot b o e nf
   exact ⟨_,e1,rfl⟩
 have hff2:=hff
 rw [hst] at hff2
 have key:∀(T:Option Addr) (_:∀b,T=some b→B.get? b=none) (h1:(vs[1]? = some Value.none∧T=none)∨(∃T' oT ts,T=some T'∧vs[1]? = some (.ref T')∧T'≠a∧s'.heap.get? T'=some oT∧oT.data=.fields ts∧ts[3]? = some Value.none) ∨
   ∃T' oT ts,T=some T'∧vs[1]? = some (.ref T')∧T'≠a∧s'.heap.get? T'=some oT∧oT.data=.fields ts∧ts[3]? = some (rawInt ↑X.env.locals)),notedBy M X.A X.env (cameBackBy M X.A X.env E) (.ref a) s':=fun T hT h1=>by
  unfold notedBy
  show wpAny M X.A (noteFrame (.ref a) X.env) (fun _ s''=>cameBackBy M X.A X.env E (.ref a) s'') (cameBackBy M X.A X.env E) s'
  refine wpAny_mono (zd7 (fl:=some X.env.locals) (Q:=fun _ s''=>E (.ref a) s'') (E:=fun _ _=>False) (T:=T) (by rw [I.ok.frames,hst]) hff2 hfr r1 r4 h1 fun h' l=>fin T h' hT l) (fun _ s2 z=>?_) fun _ _ z=>False.elim z
  obtain ⟨⟨oe',vs',tb,y1,y2,y3⟩,z⟩:=z
  unfold cameBackBy
  rw [hfr]
  refine wpAny_bind (wpAny_field y1 y2 y3 ?_)
  rw [if_neg (by intro z; cases z)]
  exact wpAny_mono z (fun _ _ z=>z) fun _ _ z=>False.elim z
 rcases r5 with z | ⟨T,oT,ts,z1,z2,z3,z4,z5,z6⟩ | ⟨l,T,oT,ts,zl,z1,z2,z3,z4,z5,z6⟩
 ·exact key none (fun b e=>nomatch e) (.inl ⟨z,rfl⟩)
 ·exact key (some T) (fun b e=>by cases e; exact z2) (.inr (.inl ⟨T,oT,ts,rfl,z1,z3,z4,z5,z6⟩))
 ·have hl:l=X.env.locals:=by
   unfold topF at zl
   rw [hst] at zl
   exact (Option.some.inj (hfr.symm.trans (show X.env.frame=some l from zl))).symm
  subst hl
  exact key (some T) (fun b e=>by cases e; exact z2) (.inr (.inr ⟨T,oT,ts,rfl,z1,z3,z4,z5,z6⟩))
end
abbrev _root_.L2.Cx.loop (X:Cx):Cx:=X.wish (notedBy (model X.prog X.w) X.A X.env (cameBackBy (model X.prog X.w) X.A X.env X.xe))
section
variable {X:Cx} {tg:Expr}
theorem zn4 {iter:Expr} {body:List Stmt} {wi:TI} {g:TG} {tb:TS} {pos:Pos} (hc:X.calm=true) (hi:PI X tg iter wi) (hg:PG X.loop tg g) (hb:PSs X.loop body tb)
  (hs:∀x,foldedSetIterable iter X.env x=pure x:=by intro _; rfl):PS X (.For tg iter body [] pos) (tFor wi g tb):=by
 intro pins s σ H D I h
 refine wpAny_For (thn (hi pins s σ H _ I h) fun v s1 h1=>thn h1 fun itv s2 h2=>?_) hs
 obtain ⟨it,fp,tn,J,H2,e,I2,T,st2,f2,W,⟨m0,w0⟩,turn⟩:=h2
 subst e
 have stat:∀{H':Hp},(∀b∈fp,H' b=none)→∀b∈fp,FpOk X pins H' b:=fun hn b hb=>⟨hn b hb,(f2 b hb).2⟩
 refine codeAny_forLoop_any (fun n s'=>∃i σ' H',L2.Inv X pins σ' H' s'∧tn i s'.heap∧(∀b∈fp,H' b=none)∧W i n σ' H') ?_ m0 ⟨0,σ,H2,I2,st2,fun b hb=>(f2 b hb).1,w0⟩
 rintro n s3 ⟨i,σ3,H3,I3,st3,fr3,w3⟩
 rcases turn i n σ3 H3 w3 with ⟨stop,qn⟩ | ⟨go,N,hN,step⟩
 ·refine wpAny_mono (T.done X rfl rfl rfl hc i pins s3 σ3 H3 (fun _ _=>False) I3 (stat fr3) st3 stop) (fun r s4 ⟨hr,I4⟩=>?_) fun _ _ z=>False.elim z
  subst hr
  exact wpAny_execs_nil ⟨σ3,H3,I4,qn⟩
 ·refine wpAny_mono (T.item X rfl rfl rfl hc i pins s3 σ3 H3 (fun _ _=>False) I3 (stat fr3) st3 go) (fun r s4 ⟨u,hr,h4⟩=>?_) fun _ _ z=>False.elim z
  subst hr
  refine wpAny_mono h4 (fun _ s5 ⟨x,H5,I5,r5,y5,st5,fr5⟩=>?_) fun _ _ z=>False.elim z
  have I5':=I5.pinned (stat fr5) (T.obj _ _ st5)
  refine wpAny_mono (hg _ s5 σ3 H5 x u _ (I5'.wish _) r5 (step x H5 y5)) (fun _ s6 ⟨σ6,H6,I6,q6⟩=>?_) fun _ _ z=>z
  refine wpAny_mono (hb _ s6 σ6 H6 _ I6 q6) (fun f s7 q7=>?_) fun _ _ z=>z
  have again:∀{σ7:L2.St} {H7:Hp},L2.Inv X (pins++zfg fp s5.heap) σ7 H7 s7→N σ7 H7→∃m,m < n∧∃i σ' H',L2.Inv X pins σ' H' s7∧tn i s7.heap∧(∀b∈fp,H' b=none)∧W i m σ' H':=fun {σ7 H7} I7 n7=>by
   obtain ⟨m',hm,w7⟩:=hN σ7 H7 n7
   refine ⟨m',hm,i + 1,σ7,H7,I7.unpinned,T.keep _ _ _ st5 fun b hb o e=>(I7.pin (b,o) (List.mem_append_right _ (List.mem_append_right _ (zbw hb e)))).1,fun b hb=>?_,w7⟩
   obtain ⟨o,e,d⟩:=T.obj _ _ st5 b hb
   exact (I7.pin (b,o) (List.mem_append_right _ (List.mem_append_right _ (zbw hb e)))).2.1
  cases f with
  | next=>obtain ⟨σ7,H7,I7,n7⟩:=q7; exact again I7.unwish n7
  | cont=>obtain ⟨σ7,H7,I7,n7⟩:=q7; exact again I7.unwish n7
  | brk=>obtain ⟨σ7,H7,I7,q7⟩:=q7; exact ⟨σ7,H7,I7.unwish.unpinned,q7⟩
  | ret v=>obtain ⟨x7,σ7,H7,I7,r7,q7⟩:=q7; exact ⟨x7,σ7,H7,I7.unwish.unpinned,r7,q7⟩
end
section
variable {X:Cx} {g:GE} {ro:Bool} {m mb:List Md} {tg iter:Expr} {sts:List Stmt} {s1:FS} {pos:Pos}
theorem zpB (hc:X.calm=true) (hst:X.stack=X.env::X.outer) (hfr:X.env.frame=some X.env.locals) {ft:FT} {fi:FI} (hi:SIt X g m tg iter fi) (hg:SG X.loop g m tg ft m) (hb:SSs X.loop g ro m m sts s1 m)
  (hs:∀x,foldedSetIterable iter X.env x=pure x:=by intro _; rfl):SS X g ro mb m (.For tg iter sts [] pos) (zdy m fi ft s1) m:=by
 refine ⟨rfl,PS.imp (zn4 hc hi hg.2 hb.2 hs) fun D σ H ⟨r,G,si,q⟩=>⟨r,G,si,zaf (zbo si rfl q) fun ds q J G0 H0 w0 Y=>?_⟩⟩
 refine ⟨fun i n σ H=>∃r G,SI X g m r G σ H∧Gle G0 G∧i≤ds.length∧n=ds.length - i∧oTo X g ro m mb G D (forF ft s1 (ds.drop i) r),⟨ds.length,r,G0,si.grow w0,Gle.refl G0,Nat.zero_le _,rfl,oTo.gle q w0.ge⟩,?_⟩
 rintro i n σ1 H1 ⟨r1,G1,si1,le1,hi,rfl,q1⟩
 by_cases hlt:i < ds.length
 ·have hd:ds.drop i=ds[i]::ds.drop (i + 1):=List.drop_eq_getElem_cons hlt
  rw [hd] at q1
  unfold forF at q1
  refine .inr ⟨Y.go G1 H1 i le1 si1.gok hlt,fun σ' H'=>∃r G,SI X g m r G σ' H'∧Gle G0 G∧oTo X g ro m mb G D (forF ft s1 (ds.drop (i + 1)) r),fun σ' H' ⟨r',G',si',le',q'⟩=>⟨ds.length - (i + 1),by omega,r',G',si',le',hlt,rfl,q'⟩,fun x H' y=>?_⟩
  obtain ⟨G',w',rv⟩:=Y.yld G1 H1 i x H' ds[i] le1 si1.gok y (List.getElem?_eq_getElem hlt)
  have le':Gle G0 G':=le1.trans w'.ge
  cases eft:ft ds[i] r1 with
  | none=>simp only [eft] at q1; exact q1.elim
  | some r2=>
   simp only [eft] at q1
   have si1':SI X g m r1 G' σ1 H':=si1.grow w'
   refine ⟨r1,G',ds[i],⟨si1'.gok,si1'.old,si1'.ge,si1'.gf,si1'.lm,si1'.lr,si1'.sh,si1'.ow,si1'.bw,si1'.dis,si1'.lk⟩,rv,r2,eft,fun σ2 si2=>⟨r2,G',si2,?_⟩⟩
   have back:∀{m:List Md} {r:Rho} {G:GH} {σ:L2.St} {H:Hp},SI X.loop g m r G σ H→SI X g m r G σ H:=fun z=>⟨z.gok,z.old,z.ge,z.gf,z.lm,z.lr,z.sh,z.ow,z.bw,z.dis,z.lk⟩
   cases eb:s1 r2 with
   | nx r'=>simp only [eb] at q1; exact fun σ3 G3 H3 le3 si3=>⟨r',G3,back si3,le'.trans le3,oTo.gle q1 (Gle.trans w'.ge le3)⟩
   | ct r'=>simp only [eb] at q1; exact fun σ3 G3 H3 le3 si3=>⟨r',G3,back si3,le'.trans le3,oTo.gle q1 (Gle.trans w'.ge le3)⟩
   | bk r'=>simp only [eb] at q1; exact fun σ3 G3 H3 le3 si3=>q1 σ3 G3 H3 (Gle.trans w'.ge le3) (back si3)
   | rt d=>simp only [eb] at q1; exact q1
   | exc x r'=>
    simp only [eb] at q1
    intro pins e s' σ3 G3 H3 le3 si3 I3 ex
    obtain ⟨pins1,s1',H1',a,C,od,nm,fs,rfl,rfl,xn,xf,I1,fl⟩:=ex
    have I1':L2.Inv X pins1 σ3 H1' s1':=I1.unwish
    exact Fly.looped (X:=X) fl I1' hst hfr fun s'' fl2=>q1 pins1 (.ref a) s'' σ3 G3 H3 (Gle.trans w'.ge le3) (back si3) (fl2.inv I1') ⟨pins1,s1',H1',a,C,od,nm,fs,rfl,rfl,xn,xf,I1',fl2⟩
   | stuck=>simp only [eb] at q1; exact q1.elim
 ·have e:i=ds.length:=by omega
  subst e
  rw [List.drop_length] at q1
  exact .inl ⟨Y.stop G1 H1 le1 si1.gok,q1 σ1 G1 H1 (Gle.refl _) si1⟩
end
end DL
end
section
namespace DL
open PySem PySem.Spec PyProof.Rows L2 PySem.W PySem.Calls
section
variable {X:Cx} {g:GE} {m mb:List Md} {fl:Rho→Res (List D)} {pos pos' apos cpos:Pos} {ro:Bool} {x name:Str} {T id:String} {R:V→List V→Hp→VK→Prop} {mk:D→List D→Option D}
end
structure IsxT (K:PySem.W.Frag) (cs:List Addr) (tab:Str→Option Bool):Prop where
 no:kitAny K (.type "NoneType") (cs.map Value.ref)=some false
 ex:∀nm b C,tab nm=some b→XN K nm C→∃bm,XA K C bm∧kitAny K (.ref C) (cs.map Value.ref)=some b
section
variable {X:Cx} {g:GE} {m:List Md} {e:Expr} {f:FE} {pos p q1 q2 q3:Pos}
end
end DL
end
section
namespace Rg
theorem zcO {α:Type} [DecidableEq α]:∀{l m:List α},l.Nodup→(∀x∈l,x∈m)→l.length≤m.length
 | [],_,_,_=>Nat.zero_le _
 | a::l,m,hn,hs=>by
  have hn':=List.nodup_cons.mp hn
  have h1:=zcO (l:=l) (m:=m.erase a) hn'.2 fun x hx=>by
   have hxa:x≠a:=by rintro rfl; exact hn'.1 hx
   exact (List.mem_erase_of_ne hxa).mpr (hs x (List.mem_cons_of_mem _ hx))
  have ha:a∈m:=hs a List.mem_cons_self
  rw [List.length_erase_of_mem ha] at h1
  have:=List.length_pos_of_mem ha
  simp only [List.length_cons]; omega
theorem zeJ {α:Type} (p:α→Bool) (l:List α):(l.filter p).length + (l.filter fun x=>! p x).length=l.length:=by
 induction l with
 | nil=>rfl
 | cons a l ih=>
  simp only [List.filter_cons]
  cases p a <;> simp <;> omega
theorem zdh {α:Type} {p:α→Bool} {l:List α} (h:l.Nodup):(l.filter p).Nodup:=List.Pairwise.filter p h
structure S where
 line:List Nat
 things:List Nat
section
variable (W:Nat→List Nat) (O:Nat→Option Nat)
def best (row things:List Nat):Nat:=(row.find? fun x=>decide (x∈things)).getD 0
def tgt (s:S) (h:Nat):Nat:=best (W h) s.things
def pt (s:S) (x:Nat):Nat:=(s.line.find? fun h=>decide (O h=some x)).getD (s.line.headD 0)
def nxt (s:S) (h:Nat):Nat:=pt O s (tgt W s h)
def minus (s:S) (C:List Nat):S:=⟨s.line.filter fun h=>decide (h∉C),s.things.filter fun x=>decide (x∉C.map (tgt W s))⟩
def it {α:Type} (f:α→α):Nat→α→α
 | 0,x=>x
 | n + 1,x=>it f n (f x)
theorem zdk {α:Type} (f:α→α):∀(a b:Nat) (x:α),it f (a + b) x=it f b (it f a x)
 | 0,b,x=>by rw [Nat.zero_add]; rfl
 | a + 1,b,x=>by rw [Nat.add_right_comm]; exact zdk f a b (f x)
theorem zdj {α:Type} (f:α→α) (n:Nat) (x:α):it f (n + 1) x=f (it f n x):=zdk f n 1 x
theorem zna {α:Type} (f:α→α) {p:Nat} {x:α} (h:it f p x=x):∀k,it f (p * k) x=x
 | 0=>rfl
 | k + 1=>by rw [Nat.mul_succ,zdk,zna f h k,h]
structure Ok (s:S):Prop where
 nl:s.line.Nodup
 nt:s.things.Nodup
 le:s.line.length≤s.things.length
 row:∀h∈s.line,∀x∈s.things,x∈W h
 inj:∀h k x,O h=some x→O k=some x→h=k
 own:∀h∈s.line,∀x,O h=some x→x∈s.things
structure Cyc (s:S) (C:List Nat):Prop where
 sub:∀h∈C,h∈s.line
 cl:∀h∈C,nxt W O s h∈C
 per:∀h∈C,∃k,it (nxt W O s) (k + 1) h=h
variable {W O}
theorem zmE {row things:List Nat} (h:∃x∈row,x∈things):best row things∈things:=by
 unfold best
 cases e:row.find? fun x=>decide (x∈things) with
 | none=>
  obtain ⟨x,h1,h2⟩:=h
  have:=List.find?_eq_none.mp e x h1
  simp [h2] at this
 | some x=>have:=List.find?_some e; simpa using this
variable {s:S}
theorem Ok.some_thing (k:Ok W O s) {h:Nat} (hh:h∈s.line):∃x∈W h,x∈s.things:=by
 have h1:=List.length_pos_of_mem hh
 have h2:0 < s.things.length:=Nat.lt_of_lt_of_le h1 k.le
 obtain ⟨x,hx⟩:=List.exists_mem_of_length_pos h2
 exact ⟨x,k.row h hh x hx,hx⟩
theorem Ok.tgt_mem (k:Ok W O s) {h:Nat} (hh:h∈s.line):tgt W s h∈s.things:=zmE (k.some_thing hh)
theorem zpW {x:Nat} (h:s.line≠[]):pt O s x∈s.line:=by
 unfold pt
 cases e:s.line.find? fun h=>decide (O h=some x) with
 | none=>
  cases q:s.line with
  | nil=>exact absurd q h
  | cons a l=>simp [List.headD]
 | some y=>exact List.mem_of_find?_eq_some e
theorem zj1 (k:Ok W O s) {h x:Nat} (hh:h∈s.line) (ho:O h=some x):pt O s x=h:=by
 unfold pt
 cases e:s.line.find? fun h=>decide (O h=some x) with
 | none=>
  have:=List.find?_eq_none.mp e h hh
  simp [ho] at this
 | some y=>
  have:=List.find?_some e
  simp only [decide_eq_true_eq] at this
  exact k.inj y h x this ho
theorem zkm {h:Nat} (hl:s.line≠[]):nxt W O s h∈s.line:=zpW hl
theorem Cyc.it_mem {C:List Nat} (c:Cyc W O s C) {h:Nat} (hh:h∈C):∀n,it (nxt W O s) n h∈C:=by
 intro n
 induction n generalizing h with
 | zero=>exact hh
 | succ n ih=>exact ih (c.cl h hh)
theorem Cyc.out {C E:List Nat} (c:Cyc W O s C) (e:Cyc W O s E) {h:Nat} (hc:h∈C) (he:h∉E):nxt W O s h∉E:=by
 intro z
 obtain ⟨k,hk⟩:=c.per h hc
 exact he (by rw [←hk]; exact e.it_mem z k)
theorem zrs (k:Ok W O s) {C:List Nat} (c:Cyc W O s C):Ok W O (minus W s C) where
 nl:=zdh k.nl
 nt:=zdh k.nt
 le:=by
  have h1:=zeJ (fun h=>decide (h∉C)) s.line
  have h2:=zeJ (fun x=>decide (x∉C.map (tgt W s))) s.things
  have h3:(s.things.filter fun x=>! decide (x∉C.map (tgt W s))).length≤((s.line.filter fun h=>! decide (h∉C)).map (tgt W s)).length:=by
   refine zcO (zdh k.nt) fun x hx=>?_
   obtain ⟨_,hx⟩:=List.mem_filter.mp hx
   simp only [decide_not,Bool.not_not,decide_eq_true_eq] at hx
   obtain ⟨h,h1,h2⟩:=List.mem_map.mp hx
   exact List.mem_map.mpr ⟨h,List.mem_filter.mpr ⟨c.sub h h1,by simpa using h1⟩,h2⟩
  rw [List.length_map] at h3
  have:=k.le
  show (s.line.filter _).length≤(s.things.filter _).length
  omega
 row:=fun h hh x hx=>k.row h (List.mem_filter.mp hh).1 x (List.mem_filter.mp hx).1
 inj:=k.inj
 own:=fun h hh x hx=>by
  obtain ⟨h1,h2⟩:=List.mem_filter.mp hh
  simp only [decide_eq_true_eq] at h2
  refine List.mem_filter.mpr ⟨k.own h h1 x hx,?_⟩
  simp only [decide_eq_true_eq]
  intro z
  obtain ⟨b,b1,b2⟩:=List.mem_map.mp z
  have:=c.cl b b1
  unfold nxt at this
  rw [b2,zj1 k h1 hx] at this
  exact h2 this
inductive TTC (W:Nat→List Nat) (O:Nat→Option Nat) (a:Nat→Nat):S→Prop where
 | nil {s:S}:s.line=[]→TTC W O a s
 | step {s:S} (C:List Nat):Cyc W O s C→(∀h∈C,a h=tgt W s h)→TTC W O a (minus W s C)→TTC W O a s
end
end Rg
end
section
namespace Rg
section
variable {W:Nat→List Nat} {O:Nat→Option Nat} {s:S} {a:Nat→Nat}
theorem zmX {f:Nat→Nat} {l:List Nat} (hcl:∀h∈l,f h∈l) {x:Nat} (hx:x∈l):∃i j,i < j∧j≤l.length∧it f i x=it f j x:=by
 have mem:∀i,it f i x∈l:=by
  intro i
  induction i with
  | zero=>exact hx
  | succ i ih=>rw [zdj]; exact hcl _ ih
 by_cases hn:((List.range (l.length + 1)).map fun i=>it f i x).Nodup
 ·have:=zcO hn (m:=l) fun y hy=>by
   obtain ⟨i,_,rfl⟩:=List.mem_map.mp hy
   exact mem i
  simp at this
  omega
 ·apply Classical.byContradiction
  intro h
  apply hn
  rw [List.nodup_iff_pairwise_ne] at *
  rw [List.pairwise_map]
  refine List.Pairwise.imp_of_mem (R:=fun i j=>i < j) (fun hi hj hij e=>?_) List.pairwise_lt_range
  exact h ⟨_,_,hij,by have:=List.mem_range.mp hj; omega,e⟩
theorem zqH {P:Nat→Prop}:(∃n,P n)→∃n,P n∧∀k,k < n→¬ P k:=by
 rintro ⟨n,hn⟩
 induction n using Nat.strongRecOn with
 | _ n ih=>
  by_cases h:∃k,k < n∧P k
  ·obtain ⟨k,h1,h2⟩:=h; exact ih k h1 h2
  ·exact ⟨n,hn,fun k hk hp=>h ⟨k,hk,hp⟩⟩
theorem zkF {α:Type} (f:α→α) (a b:Nat) (x:α):it f a (it f b x)=it f b (it f a x):=by
 rw [←zdk,←zdk,Nat.add_comm]
theorem zjj {f:Nat→Nat} {l:List Nat} (hcl:∀h∈l,f h∈l) (hne:l≠[]):∃z p,z∈l∧0 < p∧p≤l.length∧it f p z=z∧∀i,0 < i→i < p→z < it f i z:=by
 have mem:∀x∈l,∀i,it f i x∈l:=by
  intro x hx i
  induction i with
  | zero=>exact hx
  | succ i ih=>rw [zdj]; exact hcl _ ih
 obtain ⟨x,hx⟩:=List.exists_mem_of_ne_nil l hne
 obtain ⟨i,j,hij,_,e⟩:=zmX hcl hx
 obtain ⟨z,⟨hz,k,hk⟩,hmin⟩:=zqH (P:=fun z=>z∈l∧∃k,it f (k + 1) z=z) ⟨it f i x,mem x hx i,j - i - 1,by
  rw [←zdk,show i + (j - i - 1 + 1)=j by omega]; exact e.symm⟩
 obtain ⟨p,hp,hpm⟩:=zqH (P:=fun p=>it f (p + 1) z=z) ⟨k,hk⟩
 have ge:∀i,z≤it f i z:=fun i=>by
  have:=hmin (it f i z)
  apply Classical.byContradiction
  intro h
  exact this (by omega) ⟨mem z hz i,p,by rw [zkF,hp]⟩
 have ne:∀i,0 < i→i < p + 1→it f i z≠z:=fun i h1 h2 q=>hpm (i - 1) (by omega) (by rw [show i - 1 + 1=i by omega]; exact q)
 refine ⟨z,p + 1,hz,Nat.succ_pos _,?_,hp,fun i h1 h2=>by have:=ge i; have:=ne i h1 h2; omega⟩
 obtain ⟨i,j,hij,hj,e⟩:=zmX hcl hz
 apply Classical.byContradiction
 intro h
 have:it f (p + 1 - j + i) z=z:=by
  have h1:it f (p + 1 - j) (it f j z)=z:=by rw [←zdk,show j + (p + 1 - j)=p + 1 by omega]; exact hp
  rw [←e,←zdk] at h1
  rw [Nat.add_comm]; exact h1
 exact ne _ (by omega) (by omega) this
def ze9 (f:Nat→Nat) (n first:Nat):Nat→List Nat→Nat→Option (List Nat)
 | 0,_,_=>none
 | k + 1,ring,hand=>if first < hand∧ring.length < n then ze9 f n first k (ring++[hand]) (f hand) else if hand=first then some ring else none
def zgX (f:Nat→Nat) (n first:Nat):Option (List Nat):=ze9 f n first (n + 1) [first] (f first)
def orb (f:Nat→Nat) (x n:Nat):List Nat:=(List.range n).map fun i=>it f i x
theorem zgq (f:Nat→Nat) (x n:Nat):orb f x (n + 1)=orb f x n++[it f n x]:=by
 unfold orb; rw [List.range_succ,List.map_append]; rfl
theorem zke (f:Nat→Nat) (x n:Nat):(orb f x n).length=n:=by simp [orb]
theorem zi3 {f:Nat→Nat} {n first:Nat}:∀{k i:Nat} {r:List Nat},ze9 f n first k (orb f first i) (it f i first)=some r→∃j,i≤j∧r=orb f first j∧it f j first=first:=by
 intro k
 induction k with
 | zero=>intro i r h; cases h
 | succ k ih=>
  intro i r h
  unfold ze9 at h
  split at h
  ·rw [←zgq,←zdj f] at h
   obtain ⟨j,h1,h2⟩:=ih h
   exact ⟨j,by omega,h2⟩
  ·split at h
   ·rename_i e
    cases h
    exact ⟨i,Nat.le_refl _,rfl,e⟩
   ·cases h
theorem zfd {f:Nat→Nat} {n first:Nat} {r:List Nat} (h:zgX f n first=some r):∃j,0 < j∧r=orb f first j∧it f j first=first:=by
 have h':ze9 f n first (n + 1) (orb f first 1) (it f 1 first)=some r:=h
 obtain ⟨j,h1,h2⟩:=zi3 h'
 exact ⟨j,by omega,h2⟩
theorem zhH {f:Nat→Nat} {n z p:Nat} (hp:p≤n) (he:it f p z=z) (hg:∀i,0 < i→i < p→z < it f i z):∀{k i:Nat},0 < i→i≤p→p < k + i→ze9 f n z k (orb f z i) (it f i z)=some (orb f z p):=by
 intro k
 induction k with
 | zero=>intro i h1 h2 h3; omega
 | succ k ih=>
  intro i h1 h2 h3
  unfold ze9
  by_cases hi:i=p
  ·subst hi
   rw [if_neg (by rw [he]; omega),if_pos he]
  ·rw [if_pos ⟨hg i h1 (by omega),by rw [zke]; omega⟩,←zgq,←zdj f]
   exact ih (by omega) (by omega) (by omega)
theorem zgW {f:Nat→Nat} {n z p:Nat} (h0:0 < p) (hp:p≤n) (he:it f p z=z) (hg:∀i,0 < i→i < p→z < it f i z):zgX f n z=some (orb f z p):=by
 show ze9 f n z (n + 1) (orb f z 1) (it f 1 z)=_
 exact zhH hp he hg (by omega) h0 (by omega)
def zfc (W:Nat→List Nat) (O:Nat→Option Nat) (s:S):List (List Nat):=s.line.filterMap fun h=>zgX (nxt W O s) s.line.length h
theorem zpL {C:List Nat} (hC:∀h,h∈C→∃r∈zfc W O s,h∈r) (hC':∀r∈zfc W O s,∀h∈r,h∈C):Cyc W O s C:=by
 have one:∀r∈zfc W O s,∃x j,x∈s.line∧0 < j∧r=orb (nxt W O s) x j∧it (nxt W O s) j x=x:=fun r hr=>by
  obtain ⟨x,h1,h2⟩:=List.mem_filterMap.mp hr
  obtain ⟨j,h3,h4,h5⟩:=zfd h2
  exact ⟨x,j,h1,h3,h4,h5⟩
 have hm:∀x∈s.line,∀i,it (nxt W O s) i x∈s.line:=by
  intro x hx i
  induction i with
  | zero=>exact hx
  | succ i ih=>rw [zdj]; exact zkm (List.ne_nil_of_mem hx)
 refine ⟨fun h hh=>?_,fun h hh=>?_,fun h hh=>?_⟩
 ·obtain ⟨r,hr,h1⟩:=hC h hh
  obtain ⟨x,j,hx,hj,rfl,he⟩:=one r hr
  obtain ⟨i,_,rfl⟩:=List.mem_map.mp h1
  exact hm x hx i
 ·obtain ⟨r,hr,h1⟩:=hC h hh
  obtain ⟨x,j,hx,hj,rfl,he⟩:=one r hr
  obtain ⟨i,hi,rfl⟩:=List.mem_map.mp h1
  have hi:=List.mem_range.mp hi
  refine hC' _ hr _ ?_
  rw [←zdj (nxt W O s)]
  by_cases q:i + 1=j
  ·rw [q,he]; exact List.mem_map.mpr ⟨0,List.mem_range.mpr hj,rfl⟩
  ·exact List.mem_map.mpr ⟨i + 1,List.mem_range.mpr (by omega),rfl⟩
 ·obtain ⟨r,hr,h1⟩:=hC h hh
  obtain ⟨x,j,hx,hj,rfl,he⟩:=one r hr
  obtain ⟨i,hi,rfl⟩:=List.mem_map.mp h1
  exact ⟨j - 1,by rw [show j - 1 + 1=j by omega,zkF,he]⟩
theorem zi8 (hne:s.line≠[]):zfc W O s≠[]:=by
 obtain ⟨z,p,h1,h2,h3,h4,h5⟩:=zjj (f:=nxt W O s) (l:=s.line) (fun h hh=>zkm hne) hne
 exact List.ne_nil_of_mem (List.mem_filterMap.mpr ⟨z,h1,zgW h2 h3 h4 h5⟩)
def gone (W:Nat→List Nat) (O:Nat→Option Nat) (s:S):List Nat:=(zfc W O s).flatten
theorem zjT {f:Nat→Nat} {n x:Nat} {r:List Nat} (h:zgX f n x=some r):r≠[]:=by
 obtain ⟨j,h1,rfl,_⟩:=zfd h
 intro z
 have:=zke f x j
 rw [z] at this
 simp at this; omega
theorem zqZ (hne:s.line≠[]):gone W O s≠[]:=by
 have h:=zi8 (W:=W) (O:=O) hne
 cases q:zfc W O s with
 | nil=>exact absurd q h
 | cons r t=>
  have hr:r∈zfc W O s:=by rw [q]; exact List.mem_cons_self
  obtain ⟨x,_,h2⟩:=List.mem_filterMap.mp hr
  unfold gone
  rw [q,List.flatten_cons]
  intro z
  exact zjT h2 (List.append_eq_nil_iff.mp z).1
end
end Rg
end
section
namespace Rg
section
variable {W W':Nat→List Nat} {O:Nat→Option Nat} {s:S} {a b:Nat→Nat}
end
end Rg
end
section
namespace Rg
section
variable (W:Nat→List Nat) (d:Nat→Nat)
variable {W d}
end
end Rg
end
section
namespace Rg
section
variable {W:Nat→List Nat} {O:Nat→Option Nat} {s:S} {a b:Nat→Nat}
def zlf (O:Nat→Option Nat) (s:S):Prop:=∀x∈s.things,∃h∈s.line,O h=some x
theorem Cyc.pre {C:List Nat} (c:Cyc W O s C) {h:Nat} (hh:h∈C):∃l∈C,nxt W O s l=h:=by
 obtain ⟨k,e⟩:=c.per h hh
 rw [zdj] at e
 exact ⟨_,c.it_mem hh k,e⟩
theorem zjv (k:Ok W O s) (ao:zlf O s) {h:Nat} (hh:h∈s.line):O (nxt W O s h)=some (tgt W s h):=by
 obtain ⟨l,h1,h2⟩:=ao _ (k.tgt_mem hh)
 have:nxt W O s h=l:=zj1 k h1 h2
 rw [this]; exact h2
theorem znk (k:Ok W O s) (ao:zlf O s) {C:List Nat} (c:Cyc W O s C):zlf O (minus W s C):=by
 intro x hx
 obtain ⟨h1,h2⟩:=List.mem_filter.mp hx
 obtain ⟨l,h3,h4⟩:=ao x h1
 refine ⟨l,List.mem_filter.mpr ⟨h3,?_⟩,h4⟩
 simp only [decide_eq_true_eq] at h2 ⊢
 intro hc
 obtain ⟨j,j1,j2⟩:=c.pre hc
 have:=zjv k ao (c.sub j j1)
 rw [j2,h4] at this
 exact h2 (List.mem_map.mpr ⟨j,j1,(Option.some.inj this).symm⟩)
end
end Rg
end
section
namespace Rg
section
variable {W:Nat→List Nat} {O:Nat→Option Nat} {s:S} {a:Nat→Nat}
structure Chain (W:Nat→List Nat) (O:Nat→Option Nat) (s:S) (A:List Nat):Prop where
 nd:A.Nodup
 sub:∀h∈A,h∈s.line
 hd:∀h l,A=h::l→s.line.headD 0=h
 nx:∀(i:Nat) h l,A[i]? = some h→A[i + 1]? = some l→O l=some (tgt W s h)
variable {A:List Nat}
theorem Chain.at (c:Chain W O s A) {i h:Nat} (e:A[i]? = some h):h∈A:=List.mem_of_getElem? e
theorem Chain.nxt (c:Chain W O s A) (k:Ok W O s) {i h l:Nat} (e1:A[i]? = some h) (e2:A[i + 1]? = some l):Rg.nxt W O s h=l:=
 zj1 k (c.sub l (c.at e2)) (c.nx i h l e1 e2)
theorem Chain.take (c:Chain W O s A) {s':S} (i:Nat) (hl:∀(j:Nat) h,j < i→A[j]? = some h→h∈s'.line) (hh:∀h l,A=h::l→0 < i→s'.line.headD 0=h) (ht:∀(j:Nat) h l,j + 1 < i→A[j]? = some h→A[j + 1]? = some l→tgt W s' h=tgt W s h):Chain W O s' (A.take i):=by
 refine ⟨c.nd.sublist (List.take_sublist _ _),fun h hm=>?_,fun h l e=>?_,fun j h l e1 e2=>?_⟩
 ·obtain ⟨j,hj⟩:=List.getElem?_of_mem hm
  rw [List.getElem?_take] at hj
  split at hj
  ·rename_i q; exact hl j h q hj
  ·cases hj
 ·cases i with
  | zero=>cases e
  | succ i=>
   cases A with
   | nil=>cases e
   | cons b t=>cases e; exact hh _ _ rfl (by omega)
 ·rw [List.getElem?_take] at e1 e2
  split at e1
  ·split at e2
   ·rename_i q1 q2
    rw [ht j h l q2 e1 e2]; exact c.nx j h l e1 e2
   ·cases e2
  ·cases e1
end
end Rg
end
section
namespace Rg
theorem zlB {f:Nat→Nat} {n first:Nat}:∀{k i:Nat} {r:List Nat},(∀t,0 < t→t < i→first < it f t first)→ze9 f n first k (orb f first i) (it f i first)=some r→∃j,i≤j∧r=orb f first j∧it f j first=first∧∀t,0 < t→t < j→first < it f t first:=by
 intro k
 induction k with
 | zero=>intro i r _ h; cases h
 | succ k ih=>
  intro i r hg h
  unfold ze9 at h
  by_cases c:first < it f i first∧(orb f first i).length < n
  ·rw [if_pos c] at h
   have e1:orb f first i++[it f i first]=orb f first (i + 1):=(zgq f first i).symm
   have e2:f (it f i first)=it f (i + 1) first:=(zdj f i first).symm
   rw [e1,e2] at h
   obtain ⟨j,h1,h2⟩:=ih (i:=i + 1) (fun t t0 ti=>by
    by_cases q:t=i
    ·subst q; exact c.1
    ·exact hg t t0 (by omega)) h
   exact ⟨j,by omega,h2⟩
  ·rw [if_neg c] at h
   by_cases e:it f i first=first
   ·rw [if_pos e] at h
    cases h
    exact ⟨i,Nat.le_refl _,rfl,e,hg⟩
   ·rw [if_neg e] at h; cases h
theorem zpM {f:Nat→Nat} {n x:Nat} {r:List Nat} (h:zgX f n x=some r):∃j,0 < j∧r=orb f x j∧it f j x=x∧∀t,0 < t→t < j→x < it f t x:=by
 have h':ze9 f n x (n + 1) (orb f x 1) (it f 1 x)=some r:=h
 obtain ⟨j,h1,h2⟩:=zlB (fun t h1 h2=>by omega) h'
 exact ⟨j,by omega,h2⟩
theorem zqj {f:Nat→Nat} {x j:Nat} (e:it f j x=x) (hg:∀t,0 < t→t < j→x < it f t x):(orb f x j).Nodup:=by
 unfold orb
 rw [List.nodup_iff_pairwise_ne,List.pairwise_map]
 have hp:∀p q:Nat,p < q→q < j→it f p x≠it f q x:=by
  intro p q hpq hq z
  have h1:it f (p + (j - q)) x=x:=by
   rw [zdk,z,←zdk,show q + (j - q)=j by omega]; exact e
  have:=hg (p + (j - q)) (by omega) (by omega)
  omega
 refine List.pairwise_iff_getElem.mpr fun i l hi hl hil=>?_
 simp only [List.getElem_range]
 simp at hl
 exact hp i l hil hl
theorem zqR {f:Nat→Nat} {x j:Nat} (hj:0 < j) (e:it f j x=x) (t:Nat):it f t x=it f (t % j) x:=by
 conv=>lhs; rw [←Nat.div_add_mod t j,zdk,zna f e]
theorem zo6 {f:Nat→Nat} {x j y t:Nat} (hj:0 < j) (e:it f j x=x) (hg:∀t,0 < t→t < j→x < it f t x) (h:it f t x=y):x≤y:=by
 rw [zqR hj e] at h
 by_cases q:t % j=0
 ·rw [q] at h; have:x=y:=h
  omega
 ·have:=hg (t % j) (by omega) (Nat.mod_lt _ hj)
  omega
end Rg
end
section
namespace Rg
theorem zhO {α:Type} [DecidableEq α]:∀{l m:List α},l.Nodup→m.Nodup→(∀x,x∈l↔x∈m)→l.Perm m
 | [],m,_,_,h=>by
  cases m with
  | nil=>exact .nil
  | cons a m=>exact absurd ((h a).mpr List.mem_cons_self) (fun z=>nomatch z)
 | a::l,m,hl,hm,h=>by
  have ha:a∈m:=(h a).mp List.mem_cons_self
  have hl':=List.nodup_cons.mp hl
  refine (List.Perm.cons a (zhO hl'.2 (hm.erase a) fun x=>?_)).trans (List.perm_cons_erase ha).symm
  constructor
  ·intro hx
   have hne:x≠a:=by rintro rfl; exact hl'.1 hx
   exact (List.mem_erase_of_ne hne).mpr ((h x).mp (List.mem_cons_of_mem _ hx))
  ·intro hx
   obtain ⟨h1,h2⟩:=(List.Nodup.mem_erase_iff hm).mp hx
   exact (List.mem_cons.mp ((h x).mpr h2)).resolve_left h1
section
variable {W:Nat→List Nat} {O:Nat→Option Nat} {a:Nat→Nat} {f:Nat→Nat}
end
end Rg
end
section
namespace Rg
section
variable {W:Nat→List Nat} {d:Nat→Nat}
def lk (W:Nat→List Nat) (h x y:Nat):Prop:=(W h).idxOf x < (W h).idxOf y
instance (W:Nat→List Nat) (h x y:Nat):Decidable (lk W h x y):=by unfold lk; infer_instance
def env (W:Nat→List Nat) (d:Nat→Nat) (h:Nat) (others:List Nat):List Nat:=others.filter fun o=>decide (lk W h (d o) (d h))
end
end Rg
end
section
namespace Law
open PySem PySem.Spec PyProof.Rows L2 DL
abbrev gv (i:Nat):DL.FE:=fun r=>DL.getV r i
abbrev ci (i:Int):DL.FE:=fun _=>.ok (.int i)
abbrev q0:List DL.Md:=[.bw,.bw]
abbrev q101:List DL.Md:=[.sh,.sh,.sh,.sh,.sh,.sh,.sh,.sh,.sh,.sh,.sh]
abbrev q102:List DL.Md:=[.bw,.bw,.sh,.sh]
abbrev q103:List DL.Md:=[.bw,.bw,.sh,.bw,.bw,.sh,.sh,.sh]
abbrev q104:List DL.Md:=[.sh,.bw,.bw,.ow,.sh,.sh]
abbrev q105:List DL.Md:=[.sh,.sh,.sh,.sh,.sh,.sh,.sh,.sh]
abbrev q106:List DL.Md:=[.bw,.bw,.bw,.bw]
abbrev q107:List DL.Md:=[.bw,.sh,.bw,.sh,.sh]
abbrev q108:List DL.Md:=[.bw,.sh,.bw,.bw,.sh,.sh]
abbrev q109:List DL.Md:=[.bw,.bw,.sh,.bw,.bw]
abbrev q110:List DL.Md:=[.bw,.sh,.sh,.sh]
abbrev q111:List DL.Md:=[.bw,.bw,.bw,.sh]
abbrev q112:List DL.Md:=[.bw,.bw,.sh,.sh,.sh,.ow,.sh,.sh,.sh]
abbrev q113:List DL.Md:=[.sh,.bw,.bw,.ow,.sh]
abbrev q114:List DL.Md:=[.bw,.bw,.ow,.sh,.sh]
abbrev q115:List DL.Md:=[.bw,.bw,.sh,.sh,.sh,.sh,.sh,.sh,.sh]
abbrev q116:List DL.Md:=[.bw,.bw,.ow,.ow]
abbrev q117:List DL.Md:=[.sh,.bw,.ow,.sh]
abbrev q118:List DL.Md:=[.bw,.bw,.bw,.bw,.ow,.ow,.sh,.sh]
abbrev q119:List DL.Md:=[.bw,.ow,.sh,.sh,.sh]
abbrev q120:List DL.Md:=[.bw,.sh,.sh,.sh,.sh]
abbrev q121:List DL.Md:=[.bw,.bw,.sh,.ow,.sh,.ow,.sh,.sh,.sh]
abbrev q122:List DL.Md:=[.bw,.bw,.sh,.ow,.ow,.ow,.sh,.sh,.sh]
abbrev q123:List DL.Md:=[.bw,.bw,.bw,.bw,.sh]
abbrev q124:List DL.Md:=[.bw,.bw,.bw,.bw,.ow,.ow,.sh,.ow]
abbrev q125:List DL.Md:=[.bw,.bw,.sh,.sh,.ow,.ow,.sh,.sh,.sh]
theorem zkv {α:Type} (us:List α) (h:us.length=1):∃a0,us=[a0]:=by
 match us,h with
 | [_],_=>exact ⟨_,rfl⟩
theorem zeP {α:Type} (us:List α) (h:us.length=2):∃a0 a1,us=[a0,a1]:=by
 match us,h with
 | [_,_],_=>exact ⟨_,_,rfl⟩
theorem zji {α:Type} (us:List α) (h:us.length=3):∃a0 a1 a2,us=[a0,a1,a2]:=by
 match us,h with
 | [_,_,_],_=>exact ⟨_,_,_,rfl⟩
theorem zmc {α:Type} (us:List α) (h:us.length=4):∃a0 a1 a2 a3,us=[a0,a1,a2,a3]:=by
 match us,h with
 | [_,_,_,_],_=>exact ⟨_,_,_,_,rfl⟩
theorem zqG {α:Type} (us:List α) (h:us.length=5):∃a0 a1 a2 a3 a4,us=[a0,a1,a2,a3,a4]:=by
 match us,h with
 | [_,_,_,_,_],_=>exact ⟨_,_,_,_,_,rfl⟩
def top (i:Nat):Stmt:=PySem.Challenge.pw_ringtrade_k17_not_all_owned.main.body.getD i (.Pass ⟨0,0,0,0⟩)
structure Txt (K:PySem.W.Frag) (mg:Str→Option Value):Prop where
 b_len:mg "len" = none
 b_range:mg "range" = none
 b_tuple:mg "tuple" = none
 b_isinstance:mg "isinstance" = none
 b_bool:mg "bool" = none
 b_int:mg "int" = none
 b_enumerate:mg "enumerate" = none
 b_list:mg "list" = none
 b_sorted:mg "sorted" = none
 b_any:mg "any" = none
 b_min:mg "min" = none
 b_ValueError:mg "ValueError" = none
def zcz:Str→Bool:=fun nm=>(["TradeError","TooMany","NotSquare","NoRow","NoOwn","NotOwned","NoOrder"]:List Str).contains nm
def zdJ:Str→Option Bool:=fun nm=>if (["TooMany"]:List Str).contains nm=true then some true else if (["TradeError","NotSquare","NoRow","NoOwn","NotOwned","NoOrder"]:List Str).contains nm=true then some false else none
def ze2:Str→Option Bool:=fun nm=>if (["NoRow"]:List Str).contains nm=true then some true else if (["TradeError","TooMany","NotSquare","NoOwn","NotOwned","NoOrder"]:List Str).contains nm=true then some false else none
def ze3:Str→Option Bool:=fun nm=>if (["NoOwn"]:List Str).contains nm=true then some true else if (["TradeError","TooMany","NotSquare","NoRow","NotOwned","NoOrder"]:List Str).contains nm=true then some false else none
def zdK:Str→Option Bool:=fun nm=>if (["NoOrder"]:List Str).contains nm=true then some true else if (["TradeError","TooMany","NotSquare","NoRow","NoOwn","NotOwned"]:List Str).contains nm=true then some false else none
def zcM:Str→Option Bool:=fun nm=>if (["NotSquare"]:List Str).contains nm=true then some true else if (["TradeError","TooMany","NoRow","NoOwn","NotOwned","NoOrder"]:List Str).contains nm=true then some false else none
def zcy:Str→Option Bool:=fun nm=>if (["TradeError","TooMany","NotSquare","NoRow","NoOwn","NotOwned","NoOrder"]:List Str).contains nm=true then some true else if ([]:List Str).contains nm=true then some false else none
def zda:Str→Option Bool:=fun nm=>if (["NotOwned"]:List Str).contains nm=true then some true else if (["TradeError","TooMany","NotSquare","NoRow","NoOwn","NoOrder"]:List Str).contains nm=true then some false else none
def zed:Str→Bool:=fun nm=>(["NoRow","NoOwn","NotOwned"]:List Str).contains nm
abbrev zbS:Stmt:=zqW (top 6)
theorem zgO:FnScope ["self","hand"] ["self","hand"] (defScope zbS):=⟨rfl,rfl,rfl,by decide +kernel,rfl,by decide +kernel,by decide +kernel⟩
theorem zoW:∀(kV doc pm:Value) (an:Option Addr) (cdv ct:Value) (us:List Value),us.length=([("self" : Str),"hand"]).length→bindArgs (PySem.W.fnOf "__init__" "NotOwned.__init__" (defArgs zbS) (defBody zbS) (defScope zbS) .none kV doc pm an cdv ct) ⟨us,[]⟩=pure (([("self" : Str),"hand"]).zip us):=fun _ _ _ _ _ _ us hl=>by obtain ⟨u0,u1,rfl⟩:=zeP us hl; kernel_rfl
theorem znb {P:Program} {w:World} {K:PySem.W.Frag} {mg:Str→Option Value} {C T fI:Addr} {bm:List Value} {fd:FuncData} (F:Fun K "__init__" "NotOwned.__init__" zbS fI fd) (xi:XI K C bm "hand") (hm:mg "TradeError" = some (.ref T)) (hT:XT K T) (base:Heap):FnOk P w K mg base CX0 1 fI fd ["self","hand"] (spI C "hand"):=
 zoD (k:=0) F zgO xi fun cdv A outer s H E=>zim (zhM (zob (by rfl) hm hT (zbH (zd5 (i:=0) rfl (by first | exact Or.inl rfl | exact Or.inr (Or.inl rfl) | exact Or.inr (Or.inr rfl))) (zbH (zrM (c:=cI) (zpZ (zp1 (j:=1) rfl (by first | exact Or.inl rfl | exact Or.inr (Or.inl rfl) | exact Or.inr (Or.inr rfl)) zp0 (fun _ h=>h))) (by decide +kernel)) zd6)))) (zn1 (zn3 (zd5 (i:=0) rfl (by first | exact Or.inl rfl | exact Or.inr (Or.inl rfl) | exact Or.inr (Or.inr rfl))) (zd5 (i:=1) rfl (by first | exact Or.inl rfl | exact Or.inr (Or.inl rfl) | exact Or.inr (Or.inr rfl)))))
abbrev zeB:Stmt:=top 34
abbrev zfJ:List Str:=["_law_script","_law_k","_law_cell_here","_law_stirred"]
abbrev zcV:List Str:=["_law_script","_law_k"]
theorem zcq:FnScope zfJ zcV (defScope zeB):=⟨rfl,rfl,rfl,by decide +kernel,rfl,by decide +kernel,by decide +kernel⟩
def zch:FS:=
 (seqF (setF q102 2 (ci 0)) (seqF (ifF q102 (zaU (f2 (gv 1) (fC (zab (gv 0) lNil) lenD) ltI)) (seqF (setF q102 2 (f2 (f2 (gv 0) (gv 1) ixA) (f2 (ci 10) (ci 60) powI) modI)) zam) zam) (seqF (ifF q102 (fAnd (zaU (f2 (fC (zab (gv 0) lNil) lenD) (ci 0) gtI)) (zaU (f2 (f2 (f2 (gv 0) (ci 0) ixA) (ci 2) modI) (ci 0) eqD))) (seqF (retF q102 (gv 2)) zam) zam) (seqF (setF q102 3 (f2 (f2 (f2 (f2 (f2 (f2 (f2 (gv 2) (f2 (f2 (ci 7) (gv 1) mulI) (gv 1) mulI) addA) (f2 (ci 13) (gv 1) mulI) addA) (ci 5) addA) (ci 48271) mulI) (ci 2147483647) modI) (ci 69621) mulI) (ci 1000000007) modI)) (seqF (retF q102 (f2 (f2 (f2 (f2 (f2 (gv 3) (ci 1) addA) (ci 40692) mulI) (ci 2147483629) modI) (ci 39373) mulI) (ci 999999937) modI)) zam)))))
def zaM:List D→Res D:=fun ds=>outR false (zch (zaq zfJ.length ds))
theorem zm5 {P:Program} {w:World} {K:PySem.W.Frag} {mg:Str→Option Value} {base:Heap} (T:Txt K mg) (A:DefAt K mg "_law_cell" zeB):Callee P w K mg base "_law_cell" zcV [] 1 false q0 zaM:=by
 refine zbq (k:=0) (fs:=zch) (m':=q102) A zcq rfl (fun _ _ _ _ _ _ us hl=>by obtain ⟨u0,u1,rfl⟩:=zeP us hl; kernel_rfl) fun f cdv A outer s H g E hr=>?_
 have hu1:=zbA hr
 have hu64:=hr.units
 exact (zaa (zbb 2 zcq.nd (by rfl) (by first | exact Or.inl rfl | exact Or.inr rfl) zaw)
   (zaa (s_if (q_lt (vb_ 1) (SE.toB (zd3 (by rfl) T.b_len (zaL (vb_ 0) zbk)))) (zaa (zbb 2 zcq.nd (by rfl) (by first | exact Or.inl rfl | exact Or.inr rfl) (zdx (SE.toB (zcC hu1 (vb_ 0) (vb_ 1))) (SE.toB (zpw (SE.toB zaw) (SE.toB zaw)))))
   zag)
   zag)
   (zaa (s_if (SW.toQ (zpR (q_gt (SE.toB (zd3 (by rfl) T.b_len (zaL (vb_ 0) zbk))) (SE.toB zaw)) (zmV (q_eq hu64 (SE.toB (zdx (SE.toB (zcC hu1 (vb_ 0) (SE.toB zaw))) (SE.toB zaw))) (SE.toB zaw))))) (zaa (zaZ (v_ 2))
   zag)
   zag)
   (zaa (zbb 3 zcq.nd (by rfl) (by first | exact Or.inl rfl | exact Or.inr rfl) (zdx (SE.toB (zgR (SE.toB (zdx (SE.toB (zgR (SE.toB (zde (SE.toB (zde (SE.toB (zde (vb_ 2) (SE.toB (zgR (SE.toB (zgR (SE.toB zaw) (vb_ 1))) (vb_ 1))))) (SE.toB (zgR (SE.toB zaw) (vb_ 1))))) (SE.toB zaw))) (SE.toB zaw))) (SE.toB zaw))) (SE.toB zaw))) (SE.toB zaw)))
   (zaa (zaZ (zdx (SE.toB (zgR (SE.toB (zdx (SE.toB (zgR (SE.toB (zde (vb_ 3) (SE.toB zaw))) (SE.toB zaw))) (SE.toB zaw))) (SE.toB zaw))) (SE.toB zaw)))
   zag)))))
abbrev ze7:Stmt:=top 35
abbrev zf8:List Str:=["_law_cell_here","_law_m","_law_row_here","_law_thing"]
abbrev zdu:List Str:=["_law_cell_here","_law_m"]
theorem zcN:FnScope zf8 zdu (defScope ze7):=⟨rfl,rfl,rfl,by decide +kernel,rfl,by decide +kernel,by decide +kernel⟩
abbrev zeM:FS:=
 (seqF (mutF "list" q117 2 (zab (f2 (gv 0) (f2 (gv 3) (ci 1) addA) modI) (zab (gv 3) lNil)) insD) (seqF (setF q117 0 (f2 (gv 0) (f2 (gv 3) (ci 1) addA) zdz)) zam))
def zdw:FS:=
 (seqF (setF [.sh,.bw,.sh,.sh] 2 (mkL lNil)) (seqF (zdy q117 (fRng rng1 (zab (gv 1) lNil)) (ftN 3) zeM) (seqF (retF q117 (fC (zab (gv 2) lNil) tupD)) zam)))
def zbl:List D→Res D:=fun ds=>outR false (zdw (zaq zf8.length ds))
theorem zoo {P:Program} {w:World} {K:PySem.W.Frag} {mg:Str→Option Value} {base:Heap} (T:Txt K mg) (A:DefAt K mg "_law_row" ze7):Callee P w K mg base "_law_row" zdu [] 1 false [.sh,.bw] zbl:=by
 refine zbq (k:=0) (fs:=zdw) (m':=q117) A zcN rfl (fun _ _ _ _ _ _ us hl=>by obtain ⟨u0,u1,rfl⟩:=zeP us hl; kernel_rfl) fun f cdv A outer s H g E hr=>?_
 have hu1:=zbA hr
 have hu64:=hr.units
 exact (zaa (zd2 2 zcN.nd (by rfl) (by first | exact Or.inl rfl | exact Or.inr rfl) (zg6 zbV))
   (zaa (zlx PassesOwn.never rfl (zgt (by rfl) T.b_range (zaL (vb_ 1) zbk)) (zaN 3 zcN.nd (by rfl) (by first | exact Or.inl rfl | exact Or.inr rfl)) (zaa (zi1 2 rfl PySem.F.plainAttrs_list PySem.F.slot_list_insert PySem.F.type_list_insert zkq zqT (by rfl) (by first | exact Or.inl rfl | exact Or.inr (Or.inl rfl) | exact Or.inr (Or.inr rfl)) (zaI (zdx (vb_ 0) (SE.toB (zde (vb_ 3) (SE.toB zaw)))) (zaI (v_ 3) zbV)))
   (zaa (zbb 0 zcN.nd (by rfl) (by first | exact Or.inl rfl | exact Or.inr rfl) (zeD (vb_ 0) (SE.toB (zde (vb_ 3) (SE.toB zaw)))))
   zag)))
   (zaa (zaZ (zgj (by rfl) T.b_tuple (zaL (vb_ 2) zbk)))
   zag)))
abbrev zbN:Stmt:=top 36
abbrev zbZ:List Str:=["_law_script","_law_at","_law_n","_law_m"]
abbrev zcU:List Str:=["_law_script","_law_at","_law_n","_law_m"]
theorem zdD:FnScope zbZ zcU (defScope zbN):=⟨rfl,rfl,rfl,by decide +kernel,rfl,by decide +kernel,by decide +kernel⟩
def zb3:FS:=
 (seqF (retF q106 (fC (zab (zca 1 [3,0,1] (fRng rng1 (zab (gv 2) lNil)) (ftN 0) (fun _=>Res.ok true) (zaR (zab (zaR (zab (gv 2) (zab (f2 (gv 3) (gv 0) addA) lNil)) [] zaM) (zab (gv 1) lNil)) [] zbl)) lNil) tupD)) zam)
def zb1:List D→Res D:=fun ds=>outR false (zb3 (zaq zbZ.length ds))
theorem zli {P:Program} {w:World} {K:PySem.W.Frag} {mg:Str→Option Value} {base:Heap} (T:Txt K mg) (A:DefAt K mg "_law_wishes" zbN) (c__law_cell:Callee P w K mg base "_law_cell" zcV [] 1 false q0 zaM) (c__law_row:Callee P w K mg base "_law_row" zdu [] 1 false [.sh,.bw] zbl):Callee P w K mg base "_law_wishes" zcU [] 2 false q106 zb1:=by
 refine zbq (k:=1) (fs:=zb3) (m':=q106) A zdD rfl (fun _ _ _ _ _ _ us hl=>by obtain ⟨u0,u1,u2,u3,rfl⟩:=zmc us hl; kernel_rfl) fun f cdv A outer s H g E hr=>?_
 have hu1:=zbA hr
 have hu64:=hr.units
 exact (zaa (zaZ (zgj (by rfl) T.b_tuple (zaL (SO.toB (zfj (X:=(cxOf CX0 P w K mg base zbZ "_law_wishes" (defScope zbN) f cdv A outer s H E).nox) (N':=["_law_hand","_law_m","_law_script","_law_at"]) (nl:=1) (cap:=[3,0,1]) zdD.nd rfl (zaX (osc:=(defScope zbN)) (ON:=zbZ) rfl rfl (by decide +kernel)) (SIt.toC (zgt (by rfl) T.b_range (zaL (vb_ 2) zbk))) (fun _ _ _ _ _ _=>(zaN 0 (show List.Nodup (["_law_hand","_law_m","_law_script","_law_at"]:List Str) by decide +kernel) (by rfl) (by first | exact Or.inl rfl | exact Or.inr rfl))) (zbB (by decide)) (fun _ _ _ _ _ _=>zeG) (fun _ _ _ _ _ _=>(zaE (dds:=[]) c__law_row (hr.mono (by decide)) (m_sh (zaE (dds:=[]) c__law_cell (hr.mono (by decide)) (m_bw (vb_ 2) (m_bw (SE.toB (zde (vb_ 3) (vb_ 0))) zaW))) (m_bw (vb_ 1) zaW)))))) zbk)))
   zag)
abbrev zeA:Stmt:=top 37
abbrev zfI:List Str:=["_law_cell_here","_law_n","_law_m","_law_owns_here","_law_hand","_law_thing"]
abbrev zdS:List Str:=["_law_cell_here","_law_n","_law_m"]
theorem zbU:FnScope zfI zdS (defScope zeA):=⟨rfl,rfl,rfl,by decide +kernel,rfl,by decide +kernel,by decide +kernel⟩
abbrev zcX:FS:=
 (seqF (setF q104 5 (f2 (gv 0) (f2 (gv 2) (ci 1) addA) modI)) (seqF (setF q104 0 (f2 (gv 0) (f2 (gv 2) (ci 1) addA) zdz)) (seqF (ifF q104 (fOr (zaU (f2 (gv 5) (gv 2) eqD)) (zaU (f2 (gv 5) (gv 3) inD))) (seqF (mutF "list" q104 3 (zab (fun _=>Res.ok D.non) lNil) appD) zam) (seqF (mutF "list" q104 3 (zab (gv 5) lNil) appD) zam)) zam)))
def zc7:FS:=
 (seqF (setF [.sh,.bw,.bw,.sh,.sh,.sh] 3 (mkL lNil)) (seqF (zdy q104 (fRng rng1 (zab (gv 1) lNil)) (ftN 4) zcX) (seqF (retF q104 (fC (zab (gv 3) lNil) tupD)) zam)))
def zc1:List D→Res D:=fun ds=>outR false (zc7 (zaq zfI.length ds))
theorem zm4 {P:Program} {w:World} {K:PySem.W.Frag} {mg:Str→Option Value} {base:Heap} (T:Txt K mg) (A:DefAt K mg "_law_owns" zeA):Callee P w K mg base "_law_owns" zdS [] 1 false [.sh,.bw,.bw] zc1:=by
 refine zbq (k:=0) (fs:=zc7) (m':=q104) A zbU rfl (fun _ _ _ _ _ _ us hl=>by obtain ⟨u0,u1,u2,rfl⟩:=zji us hl; kernel_rfl) fun f cdv A outer s H g E hr=>?_
 have hu1:=zbA hr
 have hu64:=hr.units
 exact (zaa (zd2 3 zbU.nd (by rfl) (by first | exact Or.inl rfl | exact Or.inr rfl) (zg6 zbV))
   (zaa (zlx PassesOwn.never rfl (zgt (by rfl) T.b_range (zaL (vb_ 1) zbk)) (zaN 4 zbU.nd (by rfl) (by first | exact Or.inl rfl | exact Or.inr rfl)) (zaa (zbb 5 zbU.nd (by rfl) (by first | exact Or.inl rfl | exact Or.inr rfl) (zdx (vb_ 0) (SE.toB (zde (vb_ 2) (SE.toB zaw)))))
   (zaa (zbb 0 zbU.nd (by rfl) (by first | exact Or.inl rfl | exact Or.inr rfl) (zeD (vb_ 0) (SE.toB (zde (vb_ 2) (SE.toB zaw)))))
   (zaa (s_if (SW.toQ (q_or (q_eq hu64 (vb_ 5) (vb_ 2)) (zja (q_in hu1 (vb_ 5) (vb_ 3))))) (zaa (zi1 3 rfl PySem.F.plainAttrs_list PySem.F.slot_list_append PySem.F.type_list_append zcF zhx (by rfl) (by first | exact Or.inl rfl | exact Or.inr (Or.inl rfl) | exact Or.inr (Or.inr rfl)) (zaI zen zbV))
   zag)
   (zaa (zi1 3 rfl PySem.F.plainAttrs_list PySem.F.slot_list_append PySem.F.type_list_append zcF zhx (by rfl) (by first | exact Or.inl rfl | exact Or.inr (Or.inl rfl) | exact Or.inr (Or.inr rfl)) (zaI (v_ 5) zbV))
   zag))
   zag))))
   (zaa (zaZ (zgj (by rfl) T.b_tuple (zaL (vb_ 3) zbk)))
   zag)))
abbrev zex:Stmt:=top 14
abbrev zfF:List Str:=["wishes"]
abbrev zcb:List Str:=["wishes"]
theorem zgP:FnScope zfF zcb (defScope zex):=⟨rfl,rfl,rfl,by decide +kernel,rfl,by decide +kernel,by decide +kernel⟩
def zc3:FS:=
 (seqF (retF [Md.bw] (fC (zab (f2 (gv 0) (ci 0) ixA) lNil) lenD)) zam)
def za7:List D→Res D:=fun ds=>outR false (zc3 (zaq zfF.length ds))
theorem zm0 {P:Program} {w:World} {K:PySem.W.Frag} {mg:Str→Option Value} {base:Heap} (T:Txt K mg) (A:DefAt K mg "things_in" zex):Callee P w K mg base "things_in" zcb [] 1 false [Md.bw] za7:=by
 refine zbq (k:=0) (fs:=zc3) (m':=[Md.bw]) A zgP rfl (fun _ _ _ _ _ _ us hl=>by obtain ⟨u0,rfl⟩:=zkv us hl; kernel_rfl) fun f cdv A outer s H g E hr=>?_
 have hu1:=zbA hr
 have hu64:=hr.units
 exact (zaa (zaZ (zd3 (by rfl) T.b_len (zaL (SE.toB (zcC hu1 (vb_ 0) (SE.toB zaw))) zbk)))
   zag)
abbrev zez:Stmt:=top 15
abbrev zfH:List Str:=["wishes"]
abbrev zdQ:List Str:=["wishes"]
theorem zgQ:FnScope zfH zdQ (defScope zez):=⟨rfl,rfl,rfl,by decide +kernel,rfl,by decide +kernel,by decide +kernel⟩
def zc5:FS:=
 (seqF (retF [Md.bw] (f2 (zaR (zab (gv 0) lNil) [] za7) (fC (zab (gv 0) lNil) lenD) eqD)) zam)
def zc0:List D→Res D:=fun ds=>outR false (zc5 (zaq zfH.length ds))
theorem zm2 {P:Program} {w:World} {K:PySem.W.Frag} {mg:Str→Option Value} {base:Heap} (T:Txt K mg) (A:DefAt K mg "is_square" zez) (c_things_in:Callee P w K mg base "things_in" zcb [] 1 false [Md.bw] za7):Callee P w K mg base "is_square" zdQ [] 2 false [Md.bw] zc0:=by
 refine zbq (k:=1) (fs:=zc5) (m':=[Md.bw]) A zgQ rfl (fun _ _ _ _ _ _ us hl=>by obtain ⟨u0,rfl⟩:=zkv us hl; kernel_rfl) fun f cdv A outer s H g E hr=>?_
 have hu1:=zbA hr
 have hu64:=hr.units
 exact (zaa (zaZ (s_eq hu64 (SE.toB (zaE (dds:=[]) c_things_in (hr.mono (by decide)) (m_bw (vb_ 0) zaW))) (SE.toB (zd3 (by rfl) T.b_len (zaL (vb_ 0) zbk)))))
   zag)
abbrev ze5:Stmt:=top 9
abbrev zf6:List Str:=["value"]
abbrev zev:List Str:=["value"]
theorem zhD:FnScope zf6 zev (defScope ze5):=⟨rfl,rfl,rfl,by decide +kernel,rfl,by decide +kernel,by decide +kernel⟩
def zgc:FS:=
 (seqF (retF [Md.bw] (vAnd (f1 (gv 0) (isiD "int")) (vNot (f1 (gv 0) (isiD "bool"))))) zam)
def zcJ:List D→Res D:=fun ds=>outR false (zgc (zaq zf6.length ds))
theorem zom {P:Program} {w:World} {K:PySem.W.Frag} {mg:Str→Option Value} {base:Heap} (T:Txt K mg) (A:DefAt K mg "is_whole" ze5):Callee P w K mg base "is_whole" zev [] 1 false [Md.bw] zcJ:=by
 refine zbq (k:=0) (fs:=zgc) (m':=[Md.bw]) A zhD rfl (fun _ _ _ _ _ _ us hl=>by obtain ⟨u0,rfl⟩:=zkv us hl; kernel_rfl) fun f cdv A outer s H g E hr=>?_
 have hu1:=zbA hr
 have hu64:=hr.units
 exact (zaa (zaZ (zlA (zlw "int" "int" rfl (zkw _) (by rfl) T.b_isinstance (by rfl) T.b_int (vb_ 0)) (zlu (zpx (zlw "bool" "bool" rfl (ziy _) (by rfl) T.b_isinstance (by rfl) T.b_bool (vb_ 0))))))
   zag)
abbrev ze6:Stmt:=top 10
abbrev zf7:List Str:=["value","bound"]
abbrev zdt:List Str:=["value","bound"]
theorem zhE:FnScope zf7 zdt (defScope ze6):=⟨rfl,rfl,rfl,by decide +kernel,rfl,by decide +kernel,by decide +kernel⟩
def zb5:FS:=
 (seqF (retF q0 (vAnd (zaR (zab (gv 0) lNil) [] zcJ) (zhm (ci 0) (gv 0) (gv 1) leI ltI))) zam)
def za1:List D→Res D:=fun ds=>outR false (zb5 (zaq zf7.length ds))
theorem zon {P:Program} {w:World} {K:PySem.W.Frag} {mg:Str→Option Value} {base:Heap} (T:Txt K mg) (A:DefAt K mg "is_below" ze6) (c_is_whole:Callee P w K mg base "is_whole" zev [] 1 false [Md.bw] zcJ):Callee P w K mg base "is_below" zdt [] 2 false q0 za1:=by
 refine zbq (k:=1) (fs:=zb5) (m':=q0) A zhE rfl (fun _ _ _ _ _ _ us hl=>by obtain ⟨u0,u1,rfl⟩:=zeP us hl; kernel_rfl) fun f cdv A outer s H g E hr=>?_
 have hu1:=zbA hr
 have hu64:=hr.units
 exact (zaa (zaZ (zlA (zaE (dds:=[]) c_is_whole (hr.mono (by decide)) (m_bw (vb_ 0) zaW)) (zlu (zly zrP zoi zrS zrR (SE.toB zaw) (vb_ 0) (vb_ 1)))))
   zag)
abbrev zbd:Stmt:=top 29
abbrev zbj:List Str:=["wishes","owns","hand","own"]
abbrev zaF:List Str:=["wishes","owns"]
theorem zaQ:FnScope zbj zaF (defScope zbd):=⟨rfl,rfl,rfl,by decide +kernel,rfl,by decide +kernel,by decide +kernel⟩
abbrev zar:FS:=
 (seqF (ifF q110 (fNot (fTru (zaR (zab (gv 3) (zab (fC (zab (gv 0) lNil) lenD) lNil)) [] za1))) (seqF (zjW q110 "NotOwned" "hand" (zab (gv 2) lNil)) zam) zam) zam)
def zaj:FS:=
 (seqF (ifF q110 (fNot (fTru (zaR (zab (gv 0) lNil) [] zc0))) (seqF (zjW q110 "NotOwned" "hand" (zab (f1 (ci 1) negI) lNil)) zam) zam) (seqF (zdy q110 (fEnu (gv 1)) (ftT (zaz (ftN 2) (zaz (ftN 3) zci))) zar) zam))
def zad:List D→Res D:=fun ds=>outR false (zaj (zaq zbj.length ds))
theorem zeV {P:Program} {w:World} {K:PySem.W.Frag} {mg:Str→Option Value} {base:Heap} (T:Txt K mg) (A:DefAt K mg "refuse_unless_all_owned" zbd) (c_is_square:Callee P w K mg base "is_square" zdQ [] 2 false [Md.bw] zc0) (c_is_below:Callee P w K mg base "is_below" zdt [] 2 false q0 za1) {C_NotOwned:Addr} (xi_NotOwned:XCI P w K mg base "NotOwned" C_NotOwned "hand") (xn_NotOwned:XN K "NotOwned" C_NotOwned):CalleeX P w K mg base "refuse_unless_all_owned" zaF [] 3 false [.bw,.sh] zad:=by
 refine zgr (k:=2) (fs:=zaj) (m':=q110) A zaQ rfl (fun _ _ _ _ _ _ us hl=>by obtain ⟨u0,u1,rfl⟩:=zeP us hl; kernel_rfl) fun f cdv A outer s H g E hr=>?_
 have hu1:=zbA hr
 have hu64:=hr.units
 exact (zaa (s_if (zff (zdf (SE.toB (zaE (dds:=[]) c_is_square (hr.mono (by decide)) (m_bw (vb_ 0) zaW))))) (zaa (zih rfl xi_NotOwned xn_NotOwned (hr.mono (by decide)) (by rfl) (zaI (zlv (SE.toB zaw)) zbV))
   zag)
   zag)
   (zaa (zpB rfl rfl rfl (zqX (by rfl) T.b_enumerate (v_ 1)) (zhf rfl (zbY (zaN 2 zaQ.nd (by rfl) (by first | exact Or.inl rfl | exact Or.inr rfl)) (zbY (zaN 3 zaQ.nd (by rfl) (by first | exact Or.inl rfl | exact Or.inr rfl)) zhg))) (zaa (s_if (zff (zdf (SE.toB (zaE (dds:=[]) c_is_below (hr.mono (by decide)) (m_bw (vb_ 3) (m_bw (SE.toB (zd3 (by rfl) T.b_len (zaL (vb_ 0) zbk))) zaW)))))) (zaa (zih rfl xi_NotOwned xn_NotOwned (hr.mono (by decide)) (by rfl) (zaI (v_ 2) zbV))
   zag)
   zag)
   zag))
   zag))
abbrev zdC:Stmt:=top 11
abbrev zei:List Str:=["numbers","bound","ahead","place","number"]
abbrev zcT:List Str:=["numbers","bound"]
theorem zbO:FnScope zei zcT (defScope zdC):=⟨rfl,rfl,rfl,by decide +kernel,rfl,by decide +kernel,by decide +kernel⟩
abbrev zaK:FS:=
 (seqF (ifF q114 (fOr (fNot (fTru (zaR (zab (gv 4) (zab (gv 1) lNil)) [] za1))) (zaU (f2 (gv 4) (gv 2) inD))) (seqF (retF q114 (gv 3)) zam) zam) (seqF (putF q114 2 (gv 4) (fun _=>Res.ok (D.bl true))) zam))
def zbn:FS:=
 (seqF (setF [.bw,.bw,.sh,.sh,.sh] 2 (fun _=>Res.ok (D.dic []))) (seqF (zdy q114 (fEnu (gv 0)) (ftT (zaz (ftN 3) (zaz (ftN 4) zci))) zaK) (seqF (retF q114 (fC (zab (gv 0) lNil) lenD)) zam)))
def zbE:List D→Res D:=fun ds=>outR false (zbn (zaq zei.length ds))
theorem zlh {P:Program} {w:World} {K:PySem.W.Frag} {mg:Str→Option Value} {base:Heap} (T:Txt K mg) (A:DefAt K mg "first_wrong" zdC) (c_is_below:Callee P w K mg base "is_below" zdt [] 2 false q0 za1):Callee P w K mg base "first_wrong" zcT [] 3 false q0 zbE:=by
 refine zbq (k:=2) (fs:=zbn) (m':=q114) A zbO rfl (fun _ _ _ _ _ _ us hl=>by obtain ⟨u0,u1,rfl⟩:=zeP us hl; kernel_rfl) fun f cdv A outer s H g E hr=>?_
 have hu1:=zbA hr
 have hu64:=hr.units
 exact (zaa (zd2 2 zbO.nd (by rfl) (by first | exact Or.inl rfl | exact Or.inr rfl) ziv)
   (zaa (zjL PassesOwn.never rfl (zoF (by rfl) T.b_enumerate (vw_ 0)) (zhf rfl (zbY (zaN 3 zbO.nd (by rfl) (by first | exact Or.inl rfl | exact Or.inr rfl)) (zbY (zaN 4 zbO.nd (by rfl) (by first | exact Or.inl rfl | exact Or.inr rfl)) zhg))) (zaa (s_if (SW.toQ (q_or (zff (zdf (SE.toB (zaE (dds:=[]) c_is_below (hr.mono (by decide)) (m_bw (vb_ 4) (m_bw (vb_ 1) zaW)))))) (zja (q_in hu1 (vb_ 4) (vb_ 2))))) (zaa (zaZ (v_ 3))
   zag)
   zag)
   (zaa (zlt 2 hu1 rfl (by rfl) (by first | exact Or.inl rfl | exact Or.inr (Or.inl rfl) | exact Or.inr (Or.inr rfl)) (vb_ 4) s_bl)
   zag)))
   (zaa (zaZ (zd3 (by rfl) T.b_len (zaL (vb_ 0) zbk)))
   zag)))
abbrev zdX:Stmt:=top 12
abbrev zeL:List Str:=["numbers","bound"]
abbrev zct:List Str:=["numbers","bound"]
theorem zgi:FnScope zeL zct (defScope zdX):=⟨rfl,rfl,rfl,by decide +kernel,rfl,by decide +kernel,by decide +kernel⟩
def zbx:FS:=
 (seqF (retF q0 (f2 (zaR (zab (gv 0) (zab (gv 1) lNil)) [] zbE) (fC (zab (gv 0) lNil) lenD) eqD)) zam)
def zaY:List D→Res D:=fun ds=>outR false (zbx (zaq zeL.length ds))
theorem zl2 {P:Program} {w:World} {K:PySem.W.Frag} {mg:Str→Option Value} {base:Heap} (T:Txt K mg) (A:DefAt K mg "are_unlike" zdX) (c_first_wrong:Callee P w K mg base "first_wrong" zcT [] 3 false q0 zbE):Callee P w K mg base "are_unlike" zct [] 4 false q0 zaY:=by
 refine zbq (k:=3) (fs:=zbx) (m':=q0) A zgi rfl (fun _ _ _ _ _ _ us hl=>by obtain ⟨u0,u1,rfl⟩:=zeP us hl; kernel_rfl) fun f cdv A outer s H g E hr=>?_
 have hu1:=zbA hr
 have hu64:=hr.units
 exact (zaa (zaZ (s_eq hu64 (SE.toB (zaE (dds:=[]) c_first_wrong (hr.mono (by decide)) (m_bw (vb_ 0) (m_bw (vb_ 1) zaW)))) (SE.toB (zd3 (by rfl) T.b_len (zaL (vb_ 0) zbk)))))
   zag)
abbrev zc8:Stmt:=top 13
abbrev zdm:List Str:=["numbers","bound"]
abbrev zcc:List Str:=["numbers","bound"]
theorem zeN:FnScope zdm zcc (defScope zc8):=⟨rfl,rfl,rfl,by decide +kernel,rfl,by decide +kernel,by decide +kernel⟩
def zbF:FS:=
 (seqF (retF q0 (vAnd (f2 (fC (zab (gv 0) lNil) lenD) (gv 1) eqD) (zaR (zab (gv 0) (zab (gv 1) lNil)) [] zaY))) zam)
def zbD:List D→Res D:=fun ds=>outR false (zbF (zaq zdm.length ds))
theorem zjx {P:Program} {w:World} {K:PySem.W.Frag} {mg:Str→Option Value} {base:Heap} (T:Txt K mg) (A:DefAt K mg "has_each_once" zc8) (c_are_unlike:Callee P w K mg base "are_unlike" zct [] 4 false q0 zaY):Callee P w K mg base "has_each_once" zcc [] 5 false q0 zbD:=by
 refine zbq (k:=4) (fs:=zbF) (m':=q0) A zeN rfl (fun _ _ _ _ _ _ us hl=>by obtain ⟨u0,u1,rfl⟩:=zeP us hl; kernel_rfl) fun f cdv A outer s H g E hr=>?_
 have hu1:=zbA hr
 have hu64:=hr.units
 exact (zaa (zaZ (zlA (s_eq hu64 (SE.toB (zd3 (by rfl) T.b_len (zaL (vb_ 0) zbk))) (vb_ 1)) (zlu (zaE (dds:=[]) c_are_unlike (hr.mono (by decide)) (m_bw (vb_ 0) (m_bw (vb_ 1) zaW))))))
   zag)
abbrev ze4:Stmt:=top 16
abbrev zf5:List Str:=["wishes","order"]
abbrev zds:List Str:=["wishes","order"]
theorem zhC:FnScope zf5 zds (defScope ze4):=⟨rfl,rfl,rfl,by decide +kernel,rfl,by decide +kernel,by decide +kernel⟩
def zb4:FS:=
 (seqF (ifF q0 (zaU (f2 (gv 1) (fun _=>Res.ok D.non) isD)) (seqF (retF q0 (fC (zab (fC (zab (gv 0) lNil) lenD) lNil) zjg)) zam) zam) (seqF (ifF q0 (fNot (fTru (zaR (zab (gv 1) (zab (fC (zab (gv 0) lNil) lenD) lNil)) [] zbD))) (seqF (fun _=>Out.stuck) zam) zam) (seqF (retF q0 (fC (zab (gv 1) lNil) zjh)) zam)))
def zbM:List D→Res D:=fun ds=>outR false (zb4 (zaq zf5.length ds))
theorem zol {P:Program} {w:World} {K:PySem.W.Frag} {mg:Str→Option Value} {base:Heap} (T:Txt K mg) (A:DefAtD K mg "order_of" ze4 [Value.none]) (c_has_each_once:Callee P w K mg base "has_each_once" zcc [] 5 false q0 zbD):Callee P w K mg base "order_of" zds [] 6 false q0 zbM:=by
 refine zhP (ds:=[]) (k:=5) (fs:=zb4) (m':=q0) A zhC rfl 2 rfl (fun _ _ _ _ _ _ _ us hl=>by obtain ⟨u0,u1,rfl⟩:=zeP us hl; exact ⟨_,rfl,rfl⟩) fun f cdv A outer s H g E hr=>?_
 have hu1:=zbA hr
 have hu64:=hr.units
 exact (zaa (s_if (q_is (vb_ 1) (SE.toB zen)) (zaa (zaZ (SO.toE (zhN rfl (by rfl) T.b_list (by rfl) T.b_range (zaL (SE.toB (zd3 (by rfl) T.b_len (zaL (vb_ 0) zbk))) zbk))))
   zag)
   zag)
   (zaa (s_if (zff (zdf (SE.toB (zaE (dds:=[]) c_has_each_once (hr.mono (by decide)) (m_bw (vb_ 1) (m_bw (SE.toB (zd3 (by rfl) T.b_len (zaL (vb_ 0) zbk))) zaW)))))) (zaa znG
   zag)
   zag)
   (zaa (zaZ (SO.toE (zqx (by rfl) T.b_list (zaL (vb_ 1) zbk))))
   zag)))
abbrev zcl:Stmt:=top 19
abbrev zcW:List Str:=["row","things"]
abbrev zdR:List Str:=["row","things"]
theorem zeC:FnScope zcW zdR (defScope zcl):=⟨rfl,rfl,rfl,by decide +kernel,rfl,by decide +kernel,by decide +kernel⟩
def zc6:FS:=
 (seqF (retF q0 (f2 (zca 1 [1] (fSeq zbC (gv 0)) (ftN 0) (zaU (f2 (gv 0) (gv 1) inD)) (gv 0)) (ci 0) ixA)) zam)
def zcg:List D→Res D:=fun ds=>outR false (zc6 (zaq zcW.length ds))
theorem zm3 {P:Program} {w:World} {K:PySem.W.Frag} {mg:Str→Option Value} {base:Heap} (T:Txt K mg) (A:DefAt K mg "best_left" zcl):Callee P w K mg base "best_left" zdR [] 1 false q0 zcg:=by
 refine zbq (k:=0) (fs:=zc6) (m':=q0) A zeC rfl (fun _ _ _ _ _ _ us hl=>by obtain ⟨u0,u1,rfl⟩:=zeP us hl; kernel_rfl) fun f cdv A outer s H g E hr=>?_
 have hu1:=zbA hr
 have hu64:=hr.units
 exact (zaa (zaZ (zcC hu1 (SO.toB (zfj (X:=(cxOf CX0 P w K mg base zcW "best_left" (defScope zcl) f cdv A outer s H E).nox) (N':=["thing","things"]) (nl:=1) (cap:=[1]) zeC.nd rfl (zaX (osc:=(defScope zcl)) (ON:=zcW) rfl rfl (by decide +kernel)) (zcr (vb_ 0)) (fun _ _ _ _ _ _=>(zaN 0 (show List.Nodup (["thing","things"]:List Str) by decide +kernel) (by rfl) (by first | exact Or.inl rfl | exact Or.inr rfl))) (zbB (by decide)) (fun _ _ _ _ _ _=>(zfY (q_in hu1 (vb_ 0) (vb_ 1)))) (fun _ _ _ _ _ _=>(v_ 0)))) (SE.toB zaw)))
   zag)
abbrev zdW:Stmt:=top 20
abbrev zeK:List Str:=["owns","line","thing","hand"]
abbrev zdl:List Str:=["owns","line","thing"]
theorem zd0:FnScope zeK zdl (defScope zdW):=⟨rfl,rfl,rfl,by decide +kernel,rfl,by decide +kernel,by decide +kernel⟩
abbrev zbs:FS:=
 (seqF (ifF q111 (zaU (f2 (f2 (gv 0) (gv 3) ixA) (gv 2) eqD)) (seqF (retF q111 (gv 3)) zam) zam) zam)
def zcw:FS:=
 (seqF (zdy q111 (fSeq zbC (gv 1)) (ftN 3) zbs) (seqF (retF q111 (fun _=>Res.ok D.non)) zam))
def zcv:List D→Res D:=fun ds=>outR false (zcw (zaq zeK.length ds))
theorem zl1 {P:Program} {w:World} {K:PySem.W.Frag} {mg:Str→Option Value} {base:Heap} (T:Txt K mg) (A:DefAt K mg "owner_left" zdW):Callee P w K mg base "owner_left" zdl [] 1 false [.bw,.bw,.bw] zcv:=by
 refine zbq (k:=0) (fs:=zcw) (m':=q111) A zd0 rfl (fun _ _ _ _ _ _ us hl=>by obtain ⟨u0,u1,u2,rfl⟩:=zji us hl; kernel_rfl) fun f cdv A outer s H g E hr=>?_
 have hu1:=zbA hr
 have hu64:=hr.units
 exact (zaa (zpC PassesOwn.never rfl (zcr (vb_ 1)) (fun _=>(zaN 3 zd0.nd (by rfl) (by first | exact Or.inl rfl | exact Or.inr rfl))) (fun _=>(zaa (s_if (q_eq hu64 (SE.toB (zcC hu1 (vb_ 0) (vb_ 3))) (vb_ 2)) (zaa (zaZ (v_ 3))
   zag)
   zag)
   zag)))
   (zaa (zaZ zen)
   zag))
abbrev zck:Stmt:=top 24
abbrev zcH:List Str:=["owns","line","thing","owner"]
abbrev zbK:List Str:=["owns","line","thing"]
theorem zcp:FnScope zcH zbK (defScope zck):=⟨rfl,rfl,rfl,by decide +kernel,rfl,by decide +kernel,by decide +kernel⟩
def zbm:FS:=
 (seqF (setF q111 3 (zaR (zab (gv 0) (zab (gv 1) (zab (gv 2) lNil))) [] zcv)) (seqF (retF q111 (fIf (zaU (f2 (gv 3) (fun _=>Res.ok D.non) isD)) (f2 (gv 1) (ci 0) ixA) (gv 3))) zam))
def za2:List D→Res D:=fun ds=>outR false (zbm (zaq zcH.length ds))
theorem zit {P:Program} {w:World} {K:PySem.W.Frag} {mg:Str→Option Value} {base:Heap} (T:Txt K mg) (A:DefAt K mg "hand_pointed_at" zck) (c_owner_left:Callee P w K mg base "owner_left" zdl [] 1 false [.bw,.bw,.bw] zcv):Callee P w K mg base "hand_pointed_at" zbK [] 2 false [.bw,.bw,.bw] za2:=by
 refine zbq (k:=1) (fs:=zbm) (m':=q111) A zcp rfl (fun _ _ _ _ _ _ us hl=>by obtain ⟨u0,u1,u2,rfl⟩:=zji us hl; kernel_rfl) fun f cdv A outer s H g E hr=>?_
 have hu1:=zbA hr
 have hu64:=hr.units
 exact (zaa (zbb 3 zcp.nd (by rfl) (by first | exact Or.inl rfl | exact Or.inr rfl) (zaE (dds:=[]) c_owner_left (hr.mono (by decide)) (m_bw (vb_ 0) (m_bw (vb_ 1) (m_bw (vb_ 2) zaW)))))
   (zaa (zaZ (zpA (q_is (vb_ 3) (SE.toB zen)) (zcC hu1 (vb_ 1) (SE.toB zaw)) (v_ 3)))
   zag))
abbrev zey:Stmt:=top 25
abbrev zfG:List Str:=["first","targets","behind","ring","hand"]
abbrev zdP:List Str:=["first","targets","behind"]
theorem zcn:FnScope zfG zdP (defScope zey):=⟨rfl,rfl,rfl,by decide +kernel,rfl,by decide +kernel,by decide +kernel⟩
abbrev zcR:FQ:=
 (fAnd (zaU (f2 (gv 4) (gv 0) gtI)) (zaU (f2 (fC (zab (gv 3) lNil) lenD) (fC (zab (gv 1) lNil) lenD) ltI)))
abbrev zej:FS:=
 (seqF (mutF "list" q113 3 (zab (mkT (zab (gv 4) (zab (f2 (gv 1) (gv 4) ixA) lNil))) lNil) appD) (seqF (setF q113 4 (f2 (gv 2) (gv 4) ixA)) zam))
def zc4:FS:=
 (seqF (setF [.sh,.bw,.bw,.sh,.sh] 3 (mkL (zab (mkT (zab (gv 0) (zab (f2 (gv 1) (gv 0) ixA) lNil))) lNil))) (seqF (setF q113 4 (f2 (gv 2) (gv 0) ixA)) (seqF (zb6 q113 zcR zej 64) (seqF (retF q113 (fIf (zaU (f2 (gv 4) (gv 0) eqD)) (fC (zab (gv 3) lNil) tupD) (fun _=>Res.ok D.non))) zam))))
def zcZ:List D→Res D:=fun ds=>outR false (zc4 (zaq zfG.length ds))
theorem zm1 {P:Program} {w:World} {K:PySem.W.Frag} {mg:Str→Option Value} {base:Heap} (T:Txt K mg) (A:DefAt K mg "ring_from" zey):Callee P w K mg base "ring_from" zdP [] 1 false [.sh,.bw,.bw] zcZ:=by
 refine zbq (k:=0) (fs:=zc4) (m':=q113) A zcn rfl (fun _ _ _ _ _ _ us hl=>by obtain ⟨u0,u1,u2,rfl⟩:=zji us hl; kernel_rfl) fun f cdv A outer s H g E hr=>?_
 have hu1:=zbA hr
 have hu64:=hr.units
 exact (zaa (zd2 3 zcn.nd (by rfl) (by first | exact Or.inl rfl | exact Or.inr rfl) (zg6 (zaI (zfO (zaI (v_ 0) (zaI (zcC hu1 (vb_ 1) (vb_ 0)) zbV))) zbV)))
   (zaa (zbb 4 zcn.nd (by rfl) (by first | exact Or.inl rfl | exact Or.inr rfl) (zcC hu1 (vb_ 2) (vb_ 0)))
   (zaa (zhF 64 PassesOwn.never (SW.toQ (zpR (q_gt (vb_ 4) (vb_ 0)) (zmV (q_lt (SE.toB (zd3 (by rfl) T.b_len (zaL (vb_ 3) zbk))) (SE.toB (zd3 (by rfl) T.b_len (zaL (vb_ 1) zbk))))))) (zaa (zi1 3 rfl PySem.F.plainAttrs_list PySem.F.slot_list_append PySem.F.type_list_append zcF zhx (by rfl) (by first | exact Or.inl rfl | exact Or.inr (Or.inl rfl) | exact Or.inr (Or.inr rfl)) (zaI (zfO (zaI (v_ 4) (zaI (zcC hu1 (vb_ 1) (vb_ 4)) zbV))) zbV))
   (zaa (zbb 4 zcn.nd (by rfl) (by first | exact Or.inl rfl | exact Or.inr rfl) (zcC hu1 (vb_ 2) (vb_ 4)))
   zag)))
   (zaa (zaZ (zpA (q_eq hu64 (vb_ 4) (vb_ 0)) (zgj (by rfl) T.b_tuple (zaL (vb_ 3) zbk)) zen))
   zag))))
abbrev zaS:Stmt:=top 26
abbrev zaV:List Str:=["wishes","owns","line","things","targets","behind","hand","walks"]
abbrev zbt:List Str:=["wishes","owns","line","things"]
theorem zaT:FnScope zaV zbt (defScope zaS):=⟨rfl,rfl,rfl,by decide +kernel,rfl,by decide +kernel,by decide +kernel⟩
abbrev zcu:FS:=
 (seqF (putF q118 4 (gv 6) (zaR (zab (f2 (gv 0) (gv 6) ixA) (zab (gv 3) lNil)) [] zcg)) (seqF (putF q118 5 (gv 6) (zaR (zab (gv 1) (zab (gv 2) (zab (f2 (gv 4) (gv 6) ixA) lNil))) [] za2)) zam))
def zbu:FS:=
 (seqF (setF [.bw,.bw,.bw,.bw,.sh,.sh,.sh,.sh] 4 (fun _=>Res.ok (D.dic []))) (seqF (setF [.bw,.bw,.bw,.bw,.ow,.sh,.sh,.sh] 5 (fun _=>Res.ok (D.dic []))) (seqF (zdy q118 (fSeq zbC (gv 2)) (ftN 6) zcu) (seqF (setF q118 7 (zca 1 [4,5] (fSeq zbC (gv 2)) (ftN 0) (fun _=>Res.ok true) (zaR (zab (gv 0) (zab (gv 1) (zab (gv 2) lNil))) [] zcZ))) (seqF (retF q124 (fC (zab (zca 1 [] (fSeq zbC (gv 7)) (ftN 0) (zaU (f2 (gv 0) (fun _=>Res.ok D.non) isnD)) (gv 0)) lNil) zlp)) zam)))))
def za8:List D→Res D:=fun ds=>outR false (zbu (zaq zaV.length ds))
theorem zjc {P:Program} {w:World} {K:PySem.W.Frag} {mg:Str→Option Value} {base:Heap} (T:Txt K mg) (A:DefAt K mg "rings_of_round" zaS) (c_best_left:Callee P w K mg base "best_left" zdR [] 1 false q0 zcg) (c_hand_pointed_at:Callee P w K mg base "hand_pointed_at" zbK [] 2 false [.bw,.bw,.bw] za2) (c_ring_from:Callee P w K mg base "ring_from" zdP [] 1 false [.sh,.bw,.bw] zcZ):Callee P w K mg base "rings_of_round" zbt [] 3 false q106 za8:=by
 refine zbq (k:=2) (fs:=zbu) (m':=q124) A zaT rfl (fun _ _ _ _ _ _ us hl=>by obtain ⟨u0,u1,u2,u3,rfl⟩:=zmc us hl; kernel_rfl) fun f cdv A outer s H g E hr=>?_
 have hu1:=zbA hr
 have hu64:=hr.units
 exact (zaa (zd2 4 zaT.nd (by rfl) (by first | exact Or.inl rfl | exact Or.inr rfl) ziv)
   (zaa (zd2 5 zaT.nd (by rfl) (by first | exact Or.inl rfl | exact Or.inr rfl) ziv)
   (zaa (zjL PassesOwn.never rfl (znc (vw_ 2)) (zaN 6 zaT.nd (by rfl) (by first | exact Or.inl rfl | exact Or.inr rfl)) (zaa (zlt 4 hu1 rfl (by rfl) (by first | exact Or.inl rfl | exact Or.inr (Or.inl rfl) | exact Or.inr (Or.inr rfl)) (vb_ 6) (zaE (dds:=[]) c_best_left (hr.mono (by decide)) (m_bw (SE.toB (zcC hu1 (vb_ 0) (vb_ 6))) (m_bw (vb_ 3) zaW))))
   (zaa (zlt 5 hu1 rfl (by rfl) (by first | exact Or.inl rfl | exact Or.inr (Or.inl rfl) | exact Or.inr (Or.inr rfl)) (vb_ 6) (zaE (dds:=[]) c_hand_pointed_at (hr.mono (by decide)) (m_bw (vb_ 1) (m_bw (vb_ 2) (m_bw (SE.toB (zcC hu1 (vb_ 4) (vb_ 6))) zaW)))))
   zag)))
   (zaa (zb8 7 (X:=(cxOf CX0 P w K mg base zaV "rings_of_round" (defScope zaS) f cdv A outer s H E).nox) (m:=q118) (N':=["hand","targets","behind"]) (nl:=1) (cap:=[4,5]) zaT.nd rfl (by rfl) (by rfl) (zaX (osc:=(defScope zaS)) (ON:=zaV) rfl rfl (by decide +kernel)) (zcr (vb_ 2)) (fun _ _ _ _ _ _=>(zaN 0 (show List.Nodup (["hand","targets","behind"]:List Str) by decide +kernel) (by rfl) (by first | exact Or.inl rfl | exact Or.inr rfl))) (zbB (by decide)) (fun _ _ _ _ _ _=>zeG) (fun _ _ _ _ _ _=>(zaE (dds:=[]) c_ring_from (hr.mono (by decide)) (m_sh (v_ 0) (m_bw (vb_ 1) (m_bw (vb_ 2) zaW))))))
   (zaa (zaZ (SO.toE (zl3 hr (by rfl) T.b_sorted (zaL (SO.toB (zfj (X:=(cxOf CX0 P w K mg base zaV "rings_of_round" (defScope zaS) f cdv A outer s H E).nox) (N':=["ring"]) (nl:=1) (cap:=[]) zaT.nd rfl (zaX (osc:=(defScope zaS)) (ON:=zaV) rfl rfl (by decide +kernel)) (zcr (vb_ 7)) (fun _ _ _ _ _ _=>(zaN 0 (show List.Nodup (["ring"]:List Str) by decide +kernel) (by rfl) (by first | exact Or.inl rfl | exact Or.inr rfl))) (zbB (by decide)) (fun _ _ _ _ _ _=>(zfY (zrF (vb_ 0) (SE.toB zen)))) (fun _ _ _ _ _ _=>(v_ 0)))) zbk))))
   zag)))))
abbrev zgK:Stmt:=top 22
abbrev ziR:List Str:=["rings","got","ring","hand","thing"]
abbrev zeZ:List Str:=["rings"]
theorem zdc:FnScope ziR zeZ (defScope zgK):=⟨rfl,rfl,rfl,by decide +kernel,rfl,by decide +kernel,by decide +kernel⟩
abbrev zgb:FS:=
 (seqF (putF q119 1 (gv 3) (gv 4)) zam)
abbrev zga:FS:=
 (seqF (zdy q119 (fSeq zbC (gv 2)) (ftT (zaz (ftN 3) (zaz (ftN 4) zci))) zgb) zam)
def ze0:FS:=
 (seqF (setF q120 1 (fun _=>Res.ok (D.dic []))) (seqF (zdy q119 (fSeq zbC (gv 0)) (ftN 2) zga) (seqF (retF q120 (gv 1)) zam)))
def zek:List D→Res D:=fun ds=>outR false (ze0 (zaq ziR.length ds))
theorem zqv {P:Program} {w:World} {K:PySem.W.Frag} {mg:Str→Option Value} {base:Heap} (T:Txt K mg) (A:DefAt K mg "got_in" zgK):Callee P w K mg base "got_in" zeZ [] 1 false [Md.bw] zek:=by
 refine zbq (k:=0) (fs:=ze0) (m':=q120) A zdc rfl (fun _ _ _ _ _ _ us hl=>by obtain ⟨u0,rfl⟩:=zkv us hl; kernel_rfl) fun f cdv A outer s H g E hr=>?_
 have hu1:=zbA hr
 have hu64:=hr.units
 exact (zaa (zd2 1 zdc.nd (by rfl) (by first | exact Or.inl rfl | exact Or.inr rfl) ziv)
   (zaa (zjL PassesOwn.never rfl (znc (vw_ 0)) (zaN 2 zdc.nd (by rfl) (by first | exact Or.inl rfl | exact Or.inr rfl)) (zaa (zlx PassesOwn.never rfl (zmj (v_ 2)) (zhf rfl (zbY (zaN 3 zdc.nd (by rfl) (by first | exact Or.inl rfl | exact Or.inr rfl)) (zbY (zaN 4 zdc.nd (by rfl) (by first | exact Or.inl rfl | exact Or.inr rfl)) zhg))) (zaa (zlt 1 hu1 rfl (by rfl) (by first | exact Or.inl rfl | exact Or.inr (Or.inl rfl) | exact Or.inr (Or.inr rfl)) (vb_ 3) (v_ 4))
   zag))
   zag))
   (zaa (znH 1 rfl (zaZ (v_ 1)))
   zag)))
abbrev zbg:Stmt:=top 27
abbrev zbQ:List Str:=["wishes","owns","order","line","things","told","rings","got","taken"]
abbrev zeY:List Str:=["wishes","owns","order"]
theorem zaG:FnScope zbQ zeY (defScope zbg):=⟨rfl,rfl,rfl,by decide +kernel,rfl,by decide +kernel,by decide +kernel⟩
abbrev zf4:FQ:=
 (fTru (gv 3))
abbrev zf9:FS:=
 (seqF (setF q112 6 (zaR (zab (gv 0) (zab (gv 1) (zab (gv 3) (zab (gv 4) lNil)))) [] za8)) (seqF (setF q112 7 (zaR (zab (gv 6) lNil) [] zek)) (seqF (setF q112 8 (f1 (gv 7) znm)) (seqF (setF q112 3 (zca 1 [7] (fSeq zbC (gv 3)) (ftN 0) (zaU (f2 (gv 0) (gv 1) ninD)) (gv 0))) (seqF (setF q121 4 (zca 1 [8] (fSeq zbC (gv 4)) (ftN 0) (zaU (f2 (gv 0) (gv 1) ninD)) (gv 0))) (seqF (mutF "list" q122 5 (zab (gv 6) lNil) appD) zam))))))
def zel:FS:=
 (seqF (setF q115 3 (zaR (zab (gv 0) (zab (gv 2) lNil)) [] zbM)) (seqF (setF q115 4 (fC (zab (zaR (zab (gv 0) lNil) [] za7) lNil) zjg)) (seqF (setF q115 5 (mkL lNil)) (seqF (zb6 q112 zf4 zf9 64) (seqF (retF q115 (gv 5)) zam)))))
def zcY:List D→Res D:=fun ds=>outR false (zel (zaq zbQ.length ds))
theorem zqu {P:Program} {w:World} {K:PySem.W.Frag} {mg:Str→Option Value} {base:Heap} (T:Txt K mg) (A:DefAtD K mg "rounds" zbg [Value.none]) (c_order_of:Callee P w K mg base "order_of" zds [] 6 false q0 zbM) (c_things_in:Callee P w K mg base "things_in" zcb [] 1 false [Md.bw] za7) (c_rings_of_round:Callee P w K mg base "rings_of_round" zbt [] 3 false q106 za8) (c_got_in:Callee P w K mg base "got_in" zeZ [] 1 false [Md.bw] zek):Callee P w K mg base "rounds" zeY [] 7 false [.bw,.bw,.sh] zcY:=by
 refine zhP (ds:=[]) (k:=6) (fs:=zel) (m':=q115) A zaG rfl 3 rfl (fun _ _ _ _ _ _ _ us hl=>by obtain ⟨u0,u1,u2,rfl⟩:=zji us hl; exact ⟨_,rfl,rfl⟩) fun f cdv A outer s H g E hr=>?_
 have hu1:=zbA hr
 have hu64:=hr.units
 exact (zaa (zbb 3 zaG.nd (by rfl) (by first | exact Or.inl rfl | exact Or.inr rfl) (zaE (dds:=[]) c_order_of (hr.mono (by decide)) (m_bw (vb_ 0) (m_bw (vb_ 2) zaW))))
   (zaa (zbb 4 zaG.nd (by rfl) (by first | exact Or.inl rfl | exact Or.inr rfl) (SO.toE (zhN rfl (by rfl) T.b_list (by rfl) T.b_range (zaL (SE.toB (zaE (dds:=[]) c_things_in (hr.mono (by decide)) (m_bw (vb_ 0) zaW))) zbk))))
   (zaa (zd2 5 zaG.nd (by rfl) (by first | exact Or.inl rfl | exact Or.inr rfl) (zg6 zbV))
   (zaa (zhF 64 PassesOwn.never (zdf (vb_ 3)) (zdY (m':=q125) 4 (zdY (m':=q122) 3 (zaa (zbb 6 zaG.nd (by rfl) (by first | exact Or.inl rfl | exact Or.inr rfl) (zaE (dds:=[]) c_rings_of_round (hr.mono (by decide)) (m_bw (vb_ 0) (m_bw (vb_ 1) (m_bw (vb_ 3) (m_bw (vb_ 4) zaW))))))
   (zaa (zbb 7 zaG.nd (by rfl) (by first | exact Or.inl rfl | exact Or.inr rfl) (zaE (dds:=[]) c_got_in (hr.mono (by decide)) (m_bw (vb_ 6) zaW)))
   (zaa (zbb 8 zaG.nd (by rfl) (by first | exact Or.inl rfl | exact Or.inr rfl) (SO.toE (zm6 rfl (by rfl) T.b_list (vb_ 7))))
   (zaa (zb8 3 (X:=(cxOf CX0 P w K mg base zbQ "rounds" (defScope zbg) f cdv A outer s H E).nox) (m:=q112) (N':=["hand","got"]) (nl:=1) (cap:=[7]) zaG.nd rfl (by rfl) (by rfl) (zaX (osc:=(defScope zbg)) (ON:=zbQ) rfl rfl (by decide +kernel)) (zcr (vb_ 3)) (fun _ _ _ _ _ _=>(zaN 0 (show List.Nodup (["hand","got"]:List Str) by decide +kernel) (by rfl) (by first | exact Or.inl rfl | exact Or.inr rfl))) (zbB (by decide)) (fun _ _ _ _ _ _=>(zfY (zlM hu1 (vb_ 0) (vb_ 1)))) (fun _ _ _ _ _ _=>(v_ 0)))
   (zaa (zb8 4 (X:=(cxOf CX0 P w K mg base zbQ "rounds" (defScope zbg) f cdv A outer s H E).nox) (m:=q121) (N':=["thing","taken"]) (nl:=1) (cap:=[8]) zaG.nd rfl (by rfl) (by rfl) (zaX (osc:=(defScope zbg)) (ON:=zbQ) rfl rfl (by decide +kernel)) (zcr (vb_ 4)) (fun _ _ _ _ _ _=>(zaN 0 (show List.Nodup (["thing","taken"]:List Str) by decide +kernel) (by rfl) (by first | exact Or.inl rfl | exact Or.inr rfl))) (zbB (by decide)) (fun _ _ _ _ _ _=>(zfY (zlM hu1 (vb_ 0) (vb_ 1)))) (fun _ _ _ _ _ _=>(v_ 0)))
   (zaa (zi1 5 rfl PySem.F.plainAttrs_list PySem.F.slot_list_append PySem.F.type_list_append zcF zhx (by rfl) (by first | exact Or.inl rfl | exact Or.inr (Or.inl rfl) | exact Or.inr (Or.inr rfl)) (zaI (v_ 6) zbV))
   zag)))))) rfl) rfl))
   (zaa (znH 5 rfl (zaZ (v_ 5)))
   zag)))))
theorem zo7 {P:Program} {w:World} {K:PySem.W.Frag} {mg:Str→Option Value} {base:Heap} (T:Txt K mg) (A:DefAtD K mg "rounds" zbg [Value.none]) (c_order_of:Callee P w K mg base "order_of" zds [] 6 false q0 zbM) (c_things_in:Callee P w K mg base "things_in" zcb [] 1 false [Md.bw] za7) (c_rings_of_round:Callee P w K mg base "rings_of_round" zbt [] 3 false q106 za8) (c_got_in:Callee P w K mg base "got_in" zeZ [] 1 false [Md.bw] zek):Callee P w K mg base "rounds" zeY [Value.none] 7 false [.bw,.bw,.sh] zcY:=by
 refine zhP (ds:=[Value.none]) (k:=6) (fs:=zel) (m':=q115) A zaG rfl 2 rfl (fun _ _ _ _ _ _ _ us hl=>by obtain ⟨u0,u1,rfl⟩:=zeP us hl; exact ⟨_,rfl,rfl⟩) fun f cdv A outer s H g E hr=>?_
 have hu1:=zbA hr
 have hu64:=hr.units
 exact (zaa (zbb 3 zaG.nd (by rfl) (by first | exact Or.inl rfl | exact Or.inr rfl) (zaE (dds:=[]) c_order_of (hr.mono (by decide)) (m_bw (vb_ 0) (m_bw (vb_ 2) zaW))))
   (zaa (zbb 4 zaG.nd (by rfl) (by first | exact Or.inl rfl | exact Or.inr rfl) (SO.toE (zhN rfl (by rfl) T.b_list (by rfl) T.b_range (zaL (SE.toB (zaE (dds:=[]) c_things_in (hr.mono (by decide)) (m_bw (vb_ 0) zaW))) zbk))))
   (zaa (zd2 5 zaG.nd (by rfl) (by first | exact Or.inl rfl | exact Or.inr rfl) (zg6 zbV))
   (zaa (zhF 64 PassesOwn.never (zdf (vb_ 3)) (zdY (m':=q125) 4 (zdY (m':=q122) 3 (zaa (zbb 6 zaG.nd (by rfl) (by first | exact Or.inl rfl | exact Or.inr rfl) (zaE (dds:=[]) c_rings_of_round (hr.mono (by decide)) (m_bw (vb_ 0) (m_bw (vb_ 1) (m_bw (vb_ 3) (m_bw (vb_ 4) zaW))))))
   (zaa (zbb 7 zaG.nd (by rfl) (by first | exact Or.inl rfl | exact Or.inr rfl) (zaE (dds:=[]) c_got_in (hr.mono (by decide)) (m_bw (vb_ 6) zaW)))
   (zaa (zbb 8 zaG.nd (by rfl) (by first | exact Or.inl rfl | exact Or.inr rfl) (SO.toE (zm6 rfl (by rfl) T.b_list (vb_ 7))))
   (zaa (zb8 3 (X:=(cxOf CX0 P w K mg base zbQ "rounds" (defScope zbg) f cdv A outer s H E).nox) (m:=q112) (N':=["hand","got"]) (nl:=1) (cap:=[7]) zaG.nd rfl (by rfl) (by rfl) (zaX (osc:=(defScope zbg)) (ON:=zbQ) rfl rfl (by decide +kernel)) (zcr (vb_ 3)) (fun _ _ _ _ _ _=>(zaN 0 (show List.Nodup (["hand","got"]:List Str) by decide +kernel) (by rfl) (by first | exact Or.inl rfl | exact Or.inr rfl))) (zbB (by decide)) (fun _ _ _ _ _ _=>(zfY (zlM hu1 (vb_ 0) (vb_ 1)))) (fun _ _ _ _ _ _=>(v_ 0)))
   (zaa (zb8 4 (X:=(cxOf CX0 P w K mg base zbQ "rounds" (defScope zbg) f cdv A outer s H E).nox) (m:=q121) (N':=["thing","taken"]) (nl:=1) (cap:=[8]) zaG.nd rfl (by rfl) (by rfl) (zaX (osc:=(defScope zbg)) (ON:=zbQ) rfl rfl (by decide +kernel)) (zcr (vb_ 4)) (fun _ _ _ _ _ _=>(zaN 0 (show List.Nodup (["thing","taken"]:List Str) by decide +kernel) (by rfl) (by first | exact Or.inl rfl | exact Or.inr rfl))) (zbB (by decide)) (fun _ _ _ _ _ _=>(zfY (zlM hu1 (vb_ 0) (vb_ 1)))) (fun _ _ _ _ _ _=>(v_ 0)))
   (zaa (zi1 5 rfl PySem.F.plainAttrs_list PySem.F.slot_list_append PySem.F.type_list_append zcF zhx (by rfl) (by first | exact Or.inl rfl | exact Or.inr (Or.inl rfl) | exact Or.inr (Or.inr rfl)) (zaI (v_ 6) zbV))
   zag)))))) rfl) rfl))
   (zaa (znH 5 rfl (zaZ (v_ 5)))
   zag)))))
abbrev zdn:Stmt:=top 32
abbrev zeh:List Str:=["wishes","owns","dealing","rings","ring"]
abbrev zfE:List Str:=["wishes","owns","dealing"]
theorem zdo:FnScope zeh zfE (defScope zdn):=⟨rfl,rfl,rfl,by decide +kernel,rfl,by decide +kernel,by decide +kernel⟩
abbrev zce:FS:=
 (seqF (ifF q107 (fTru (fC (zab (zca 2 [2] (fSeq zbC (gv 4)) (ftT (zaz (ftN 0) (zaz (ftN 1) zci))) (fun _=>Res.ok true) (f2 (f2 (gv 2) (gv 0) ixA) (gv 1) neD)) lNil) anyD)) (seqF (retF q107 (gv 4)) zam) zam) zam)
abbrev zcd:FS:=
 (seqF (zg8 q107 (fSeq zbC (gv 3)) (ftN 4) zce) zam)
def zbW:FS:=
 (seqF (zec q107 (zc9 (zab (gv 0) (zab (gv 1) lNil)) [] zad)) (seqF (zg8 q107 (fSeq zbC (zaR (zab (gv 0) (zab (gv 1) lNil)) [D.non] zcY)) (ftN 3) zcd) (seqF (retF q107 (fun _=>Res.ok D.non)) zam)))
def zcf:List D→Res D:=fun ds=>outR false (zbW (zaq zeh.length ds))
theorem zo8 {P:Program} {w:World} {K:PySem.W.Frag} {mg:Str→Option Value} {base:Heap} (T:Txt K mg) (A:DefAt K mg "goers" zdn) (c_refuse_unless_all_owned_x:CalleeX P w K mg base "refuse_unless_all_owned" zaF [] 3 false [.bw,.sh] zad) (c_rounds':Callee P w K mg base "rounds" zeY [Value.none] 7 false [.bw,.bw,.sh] zcY):CalleeX P w K mg base "goers" zfE [] 8 false [.bw,.sh,.bw] zcf:=by
 refine zgr (k:=7) (fs:=zbW) (m':=q107) A zdo rfl (fun _ _ _ _ _ _ us hl=>by obtain ⟨u0,u1,u2,rfl⟩:=zji us hl; kernel_rfl) fun f cdv A outer s H g E hr=>?_
 have hu1:=zbA hr
 have hu64:=hr.units
 exact (zaa (zjM (zfA c_refuse_unless_all_owned_x (hr.mono (by decide)) (m_bw (vb_ 0) (m_sh (v_ 1) zaW))))
   (zaa (zmR rfl (zmj (zaE (dvs:=[.non]) (dds:=[D.non]) c_rounds' (hr.mono (by decide)) (m_bw (vb_ 0) (m_bw (vb_ 1) zaW)) (hd:=.cons rfl .nil) (hsc:=.cons .non .nil))) (zaN 3 zdo.nd (by rfl) (by first | exact Or.inl rfl | exact Or.inr rfl)) (zaa (zmR rfl (zmj (v_ 3)) (zaN 4 zdo.nd (by rfl) (by first | exact Or.inl rfl | exact Or.inr rfl)) (zaa (s_if (zdf (SE.toB (zlz rfl (by rfl) T.b_any (zaL (SO.toB (zfj (X:=(cxOf (CXR P w) P w K mg base zeh "goers" (defScope zdn) f cdv A outer s H E).nox.nox) (N':=["hand","thing","dealing"]) (nl:=2) (cap:=[2]) zdo.nd rfl (zaX (osc:=(defScope zdn)) (ON:=zeh) rfl rfl (by decide +kernel)) (zcr (vb_ 4)) (fun _ _ _ _ _ _=>(zhf rfl (zbY (zaN 0 (show List.Nodup (["hand","thing","dealing"]:List Str) by decide +kernel) (by rfl) (by first | exact Or.inl rfl | exact Or.inr rfl)) (zbY (zaN 1 (show List.Nodup (["hand","thing","dealing"]:List Str) by decide +kernel) (by rfl) (by first | exact Or.inl rfl | exact Or.inr rfl)) zhg)))) (zhh (zbr (zbB (by decide)) (zbr (zbB (by decide)) zd9))) (fun _ _ _ _ _ _=>zeG) (fun _ _ _ _ _ _=>(s_ne hu64 (SE.toB (zcC hu1 (vb_ 2) (vb_ 0))) (vb_ 1))))) zbk)))) (zaa (zaZ (v_ 4))
   zag)
   zag)
   zag))
   zag))
   (zaa (zaZ zen)
   zag)))
abbrev zdB:Stmt:=top 21
abbrev zeg:List Str:=["hands"]
abbrev zcS:List Str:=["hands"]
theorem zfN:FnScope zeg zcS (defScope zdB):=⟨rfl,rfl,rfl,by decide +kernel,rfl,by decide +kernel,by decide +kernel⟩
def zb2:FS:=
 (seqF (retF [Md.bw] (f2 (fSlA (gv 0) (zhk (ci 1)) (fun _=>Res.ok none)) (fSlA (gv 0) (fun _=>Res.ok none) (zhk (ci 1))) addE)) zam)
def zb0:List D→Res D:=fun ds=>outR false (zb2 (zaq zeg.length ds))
theorem zlg {P:Program} {w:World} {K:PySem.W.Frag} {mg:Str→Option Value} {base:Heap} (T:Txt K mg) (A:DefAt K mg "ones_behind" zdB):Callee P w K mg base "ones_behind" zcS [] 1 false [Md.bw] zb0:=by
 refine zbq (k:=0) (fs:=zb2) (m':=[Md.bw]) A zfN rfl (fun _ _ _ _ _ _ us hl=>by obtain ⟨u0,rfl⟩:=zkv us hl; kernel_rfl) fun f cdv A outer s H g E hr=>?_
 have hu1:=zbA hr
 have hu64:=hr.units
 exact (zaa (zaZ (zpF (SE.toB (zls (vb_ 0) (ziq (SE.toB zaw)) zir)) (SE.toB (zls (vb_ 0) zir (ziq (SE.toB zaw))))))
   zag)
abbrev zav:Stmt:=top 30
abbrev zaA:List Str:=["owns","ring","hands","things"]
abbrev zbJ:List Str:=["owns","ring"]
theorem zbe:FnScope zaA zbJ (defScope zav):=⟨rfl,rfl,rfl,by decide +kernel,rfl,by decide +kernel,by decide +kernel⟩
def zas:FS:=
 (seqF (setF q102 2 (zca 2 [] (fSeq zbC (gv 1)) (ftT (zaz (ftN 0) (zaz (ftN 1) zci))) (fun _=>Res.ok true) (gv 0))) (seqF (setF [.bw,.bw,.ow,.sh] 3 (zca 2 [] (fSeq zbC (gv 1)) (ftT (zaz (ftN 0) (zaz (ftN 1) zci))) (fun _=>Res.ok true) (gv 1))) (seqF (ifF q116 (fOr (fNot (fTru (zaR (zab (gv 2) (zab (fC (zab (gv 0) lNil) lenD) lNil)) [] zaY))) (fNot (fTru (zaR (zab (gv 3) (zab (fC (zab (gv 0) lNil) lenD) lNil)) [] zaY)))) (seqF (retF q116 (fun _=>Res.ok (D.bl false))) zam) zam) (seqF (ifF q116 (fOr (fNot (fTru (gv 2))) (zaU (f2 (f2 (gv 2) (ci 0) ixA) (fC (zab (gv 2) lNil) zhS) neD))) (seqF (retF q116 (fun _=>Res.ok (D.bl false))) zam) zam) (seqF (retF q116 (f2 (gv 3) (zca 1 [0] (fSeq zbC (zaR (zab (gv 2) lNil) [] zb0)) (ftN 0) (fun _=>Res.ok true) (f2 (gv 1) (gv 0) ixA)) eqD)) zam)))))
def zaB:List D→Res D:=fun ds=>outR false (zas (zaq zaA.length ds))
theorem zis {P:Program} {w:World} {K:PySem.W.Frag} {mg:Str→Option Value} {base:Heap} (T:Txt K mg) (A:DefAt K mg "is_ring_of_owns" zav) (c_are_unlike:Callee P w K mg base "are_unlike" zct [] 4 false q0 zaY) (c_ones_behind:Callee P w K mg base "ones_behind" zcS [] 1 false [Md.bw] zb0):Callee P w K mg base "is_ring_of_owns" zbJ [] 5 false q0 zaB:=by
 refine zbq (k:=4) (fs:=zas) (m':=q116) A zbe rfl (fun _ _ _ _ _ _ us hl=>by obtain ⟨u0,u1,rfl⟩:=zeP us hl; kernel_rfl) fun f cdv A outer s H g E hr=>?_
 have hu1:=zbA hr
 have hu64:=hr.units
 exact (zaa (zb8 2 (X:=(cxOf CX0 P w K mg base zaA "is_ring_of_owns" (defScope zav) f cdv A outer s H E).nox) (m:=q102) (N':=["hand","thing"]) (nl:=2) (cap:=[]) zbe.nd rfl (by rfl) (by rfl) (zaX (osc:=(defScope zav)) (ON:=zaA) rfl rfl (by decide +kernel)) (zcr (vb_ 1)) (fun _ _ _ _ _ _=>(zhf rfl (zbY (zaN 0 (show List.Nodup (["hand","thing"]:List Str) by decide +kernel) (by rfl) (by first | exact Or.inl rfl | exact Or.inr rfl)) (zbY (zaN 1 (show List.Nodup (["hand","thing"]:List Str) by decide +kernel) (by rfl) (by first | exact Or.inl rfl | exact Or.inr rfl)) zhg)))) (zhh (zbr (zbB (by decide)) (zbr (zbB (by decide)) zd9))) (fun _ _ _ _ _ _=>zeG) (fun _ _ _ _ _ _=>(v_ 0)))
   (zaa (zb8 3 (X:=(cxOf CX0 P w K mg base zaA "is_ring_of_owns" (defScope zav) f cdv A outer s H E).nox) (m:=[.bw,.bw,.ow,.sh]) (N':=["hand","thing"]) (nl:=2) (cap:=[]) zbe.nd rfl (by rfl) (by rfl) (zaX (osc:=(defScope zav)) (ON:=zaA) rfl rfl (by decide +kernel)) (zcr (vb_ 1)) (fun _ _ _ _ _ _=>(zhf rfl (zbY (zaN 0 (show List.Nodup (["hand","thing"]:List Str) by decide +kernel) (by rfl) (by first | exact Or.inl rfl | exact Or.inr rfl)) (zbY (zaN 1 (show List.Nodup (["hand","thing"]:List Str) by decide +kernel) (by rfl) (by first | exact Or.inl rfl | exact Or.inr rfl)) zhg)))) (zhh (zbr (zbB (by decide)) (zbr (zbB (by decide)) zd9))) (fun _ _ _ _ _ _=>zeG) (fun _ _ _ _ _ _=>(v_ 1)))
   (zaa (s_if (SW.toQ (q_or (zff (zdf (SE.toB (zaE (dds:=[]) c_are_unlike (hr.mono (by decide)) (m_bw (vb_ 2) (m_bw (SE.toB (zd3 (by rfl) T.b_len (zaL (vb_ 0) zbk))) zaW)))))) (zja (zff (zdf (SE.toB (zaE (dds:=[]) c_are_unlike (hr.mono (by decide)) (m_bw (vb_ 3) (m_bw (SE.toB (zd3 (by rfl) T.b_len (zaL (vb_ 0) zbk))) zaW))))))))) (zaa (zaZ s_bl)
   zag)
   zag)
   (zaa (s_if (SW.toQ (q_or (zff (zdf (vb_ 2))) (zja (q_ne hu64 (SE.toB (zcC hu1 (vb_ 2) (SE.toB zaw))) (SE.toB (zpy rfl (by rfl) T.b_min (zaL (vb_ 2) zbk))))))) (zaa (zaZ s_bl)
   zag)
   zag)
   (zaa (zaZ (s_eq hu64 (vb_ 3) (SO.toB (zfj (X:=(cxOf CX0 P w K mg base zaA "is_ring_of_owns" (defScope zav) f cdv A outer s H E).nox) (N':=["hand","owns"]) (nl:=1) (cap:=[0]) zbe.nd rfl (zaX (osc:=(defScope zav)) (ON:=zaA) rfl rfl (by decide +kernel)) (zcr (SE.toB (zaE (dds:=[]) c_ones_behind (hr.mono (by decide)) (m_bw (vb_ 2) zaW)))) (fun _ _ _ _ _ _=>(zaN 0 (show List.Nodup (["hand","owns"]:List Str) by decide +kernel) (by rfl) (by first | exact Or.inl rfl | exact Or.inr rfl))) (zbB (by decide)) (fun _ _ _ _ _ _=>zeG) (fun _ _ _ _ _ _=>(zcC hu1 (vb_ 1) (vb_ 0)))))))
   zag)))))
abbrev zic:Stmt:=top 17
abbrev zlc:List Str:=["wishes","hand","one","other","row"]
abbrev zh8:List Str:=["wishes","hand","one","other"]
theorem zig:FnScope zlc zh8 (defScope zic):=⟨rfl,rfl,rfl,by decide +kernel,rfl,by decide +kernel,by decide +kernel⟩
def zgF:FS:=
 (seqF (setF q123 4 (f2 (gv 0) (gv 1) ixA)) (seqF (retF q123 (f2 (fM "tuple" (gv 4) (zab (gv 2) lNil) zdL) (fM "tuple" (gv 4) (zab (gv 3) lNil) zdL) ltI)) zam))
def zfK:List D→Res D:=fun ds=>outR false (zgF (zaq zlc.length ds))
theorem zrr {P:Program} {w:World} {K:PySem.W.Frag} {mg:Str→Option Value} {base:Heap} (T:Txt K mg) (A:DefAt K mg "likes" zic):Callee P w K mg base "likes" zh8 [] 1 false q106 zfK:=by
 refine zbq (k:=0) (fs:=zgF) (m':=q123) A zig rfl (fun _ _ _ _ _ _ us hl=>by obtain ⟨u0,u1,u2,u3,rfl⟩:=zmc us hl; kernel_rfl) fun f cdv A outer s H g E hr=>?_
 have hu1:=zbA hr
 have hu64:=hr.units
 exact (zaa (zbb 4 zig.nd (by rfl) (by first | exact Or.inl rfl | exact Or.inr rfl) (zcC hu1 (vb_ 0) (vb_ 1)))
   (zaa (zaZ (s_lt (SE.toB (s_bm PySem.F.plainAttrs_tuple PySem.F.slot_tuple_index PySem.F.type_tuple_index zfk zfs (vb_ 4) (zaL (vb_ 2) zbk))) (SE.toB (s_bm PySem.F.plainAttrs_tuple PySem.F.slot_tuple_index PySem.F.type_tuple_index zfk zfs (vb_ 4) (zaL (vb_ 3) zbk)))))
   zag))
abbrev zcB:Stmt:=top 31
abbrev zdv:List Str:=["wishes","owns","dealing","ring","better","worse"]
abbrev zgD:List Str:=["wishes","owns","dealing","ring"]
theorem zdd:FnScope zdv zgD (defScope zcB):=⟨rfl,rfl,rfl,by decide +kernel,rfl,by decide +kernel,by decide +kernel⟩
def zcx:FS:=
 (seqF (zec q108 (zc9 (zab (gv 0) (zab (gv 1) lNil)) [] zad)) (seqF (ifF q108 (fNot (fTru (zaR (zab (gv 1) (zab (gv 3) lNil)) [] zaB))) (seqF (retF q108 (fun _=>Res.ok (D.bl false))) zam) zam) (seqF (setF q108 4 (fC (zab (zca 2 [0,2] (fSeq zbC (gv 3)) (ftT (zaz (ftN 0) (zaz (ftN 1) zci))) (fun _=>Res.ok true) (zaR (zab (gv 2) (zab (gv 0) (zab (gv 1) (zab (f2 (gv 3) (gv 0) ixA) lNil)))) [] zfK)) lNil) anyD)) (seqF (setF q108 5 (fC (zab (zca 2 [0,2] (fSeq zbC (gv 3)) (ftT (zaz (ftN 0) (zaz (ftN 1) zci))) (fun _=>Res.ok true) (zaR (zab (gv 2) (zab (gv 0) (zab (f2 (gv 3) (gv 0) ixA) (zab (gv 1) lNil)))) [] zfK)) lNil) anyD)) (seqF (retF q108 (vAnd (gv 4) (vNot (gv 5)))) zam)))))
def zbR:List D→Res D:=fun ds=>outR false (zcx (zaq zdv.length ds))
theorem zqw {P:Program} {w:World} {K:PySem.W.Frag} {mg:Str→Option Value} {base:Heap} (T:Txt K mg) (A:DefAt K mg "goes" zcB) (c_refuse_unless_all_owned_x:CalleeX P w K mg base "refuse_unless_all_owned" zaF [] 3 false [.bw,.sh] zad) (c_is_ring_of_owns:Callee P w K mg base "is_ring_of_owns" zbJ [] 5 false q0 zaB) (c_likes:Callee P w K mg base "likes" zh8 [] 1 false q106 zfK):CalleeX P w K mg base "goes" zgD [] 6 false [.bw,.sh,.bw,.bw] zbR:=by
 refine zgr (k:=5) (fs:=zcx) (m':=q108) A zdd rfl (fun _ _ _ _ _ _ us hl=>by obtain ⟨u0,u1,u2,u3,rfl⟩:=zmc us hl; kernel_rfl) fun f cdv A outer s H g E hr=>?_
 have hu1:=zbA hr
 have hu64:=hr.units
 exact (zaa (zjM (zfA c_refuse_unless_all_owned_x (hr.mono (by decide)) (m_bw (vb_ 0) (m_sh (v_ 1) zaW))))
   (zaa (s_if (zff (zdf (SE.toB (zaE (dds:=[]) c_is_ring_of_owns (hr.mono (by decide)) (m_bw (vb_ 1) (m_bw (vb_ 3) zaW)))))) (zaa (zaZ s_bl)
   zag)
   zag)
   (zaa (zbb 4 zdd.nd (by rfl) (by first | exact Or.inl rfl | exact Or.inr rfl) (zlz rfl (by rfl) T.b_any (zaL (SO.toB (zfj (X:=(cxOf (CXR P w) P w K mg base zdv "goes" (defScope zcB) f cdv A outer s H E)) (N':=["hand","thing","wishes","dealing"]) (nl:=2) (cap:=[0,2]) zdd.nd rfl (zaX (osc:=(defScope zcB)) (ON:=zdv) rfl rfl (by decide +kernel)) (zcr (vb_ 3)) (fun _ _ _ _ _ _=>(zhf rfl (zbY (zaN 0 (show List.Nodup (["hand","thing","wishes","dealing"]:List Str) by decide +kernel) (by rfl) (by first | exact Or.inl rfl | exact Or.inr rfl)) (zbY (zaN 1 (show List.Nodup (["hand","thing","wishes","dealing"]:List Str) by decide +kernel) (by rfl) (by first | exact Or.inl rfl | exact Or.inr rfl)) zhg)))) (zhh (zbr (zbB (by decide)) (zbr (zbB (by decide)) zd9))) (fun _ _ _ _ _ _=>zeG) (fun _ _ _ _ _ _=>(zaE (dds:=[]) c_likes (hr.mono (by decide)) (m_bw (vb_ 2) (m_bw (vb_ 0) (m_bw (vb_ 1) (m_bw (SE.toB (zcC hu1 (vb_ 3) (vb_ 0))) zaW)))))))) zbk)))
   (zaa (zbb 5 zdd.nd (by rfl) (by first | exact Or.inl rfl | exact Or.inr rfl) (zlz rfl (by rfl) T.b_any (zaL (SO.toB (zfj (X:=(cxOf (CXR P w) P w K mg base zdv "goes" (defScope zcB) f cdv A outer s H E)) (N':=["hand","thing","wishes","dealing"]) (nl:=2) (cap:=[0,2]) zdd.nd rfl (zaX (osc:=(defScope zcB)) (ON:=zdv) rfl rfl (by decide +kernel)) (zcr (vb_ 3)) (fun _ _ _ _ _ _=>(zhf rfl (zbY (zaN 0 (show List.Nodup (["hand","thing","wishes","dealing"]:List Str) by decide +kernel) (by rfl) (by first | exact Or.inl rfl | exact Or.inr rfl)) (zbY (zaN 1 (show List.Nodup (["hand","thing","wishes","dealing"]:List Str) by decide +kernel) (by rfl) (by first | exact Or.inl rfl | exact Or.inr rfl)) zhg)))) (zhh (zbr (zbB (by decide)) (zbr (zbB (by decide)) zd9))) (fun _ _ _ _ _ _=>zeG) (fun _ _ _ _ _ _=>(zaE (dds:=[]) c_likes (hr.mono (by decide)) (m_bw (vb_ 2) (m_bw (vb_ 0) (m_bw (SE.toB (zcC hu1 (vb_ 3) (vb_ 0))) (m_bw (vb_ 1) zaW)))))))) zbk)))
   (zaa (zaZ (zlA (v_ 4) (zlu (zpx (v_ 5)))))
   zag)))))
abbrev zcm:Stmt:=top 38
abbrev zcI:List Str:=["_law_way","_law_wishes_here","_law_owns_here","_law_dealing","_law_ring"]
abbrev zbL:List Str:=["_law_way","_law_wishes_here","_law_owns_here","_law_dealing","_law_ring"]
theorem zd1:FnScope zcI zbL (defScope zcm):=⟨rfl,rfl,rfl,by decide +kernel,rfl,by decide +kernel,by decide +kernel⟩
def zaC:FS:=
 (seqF (ifF q109 (zaU (f2 (gv 0) (ci 0) eqD)) (seqF (retF q109 (zc9 (zab (gv 1) (zab (gv 2) (zab (gv 3) (zab (gv 4) lNil)))) [] zbR)) zam) zam) (seqF (retF q109 (zc9 (zab (gv 1) (zab (gv 2) (zab (gv 3) lNil))) [] zcf)) zam))
def zau:List D→Res D:=fun ds=>outR false (zaC (zaq zcI.length ds))
theorem ziu {P:Program} {w:World} {K:PySem.W.Frag} {mg:Str→Option Value} {base:Heap} (T:Txt K mg) (A:DefAt K mg "_law_asked_by" zcm) (c_goes_x:CalleeX P w K mg base "goes" zgD [] 6 false [.bw,.sh,.bw,.bw] zbR) (c_goers_x:CalleeX P w K mg base "goers" zfE [] 8 false [.bw,.sh,.bw] zcf):CalleeX P w K mg base "_law_asked_by" zbL [] 9 false q109 zau:=by
 refine zgr (k:=8) (fs:=zaC) (m':=q109) A zd1 rfl (fun _ _ _ _ _ _ us hl=>by obtain ⟨u0,u1,u2,u3,u4,rfl⟩:=zqG us hl; kernel_rfl) fun f cdv A outer s H g E hr=>?_
 have hu1:=zbA hr
 have hu64:=hr.units
 exact (zaa (s_if (q_eq hu64 (vb_ 0) (SE.toB zaw)) (zaa (zaZ (zfA c_goes_x (hr.mono (by decide)) (m_bw (vb_ 1) (m_sh (v_ 2) (m_bw (vb_ 3) (m_bw (vb_ 4) zaW))))))
   zag)
   zag)
   (zaa (zaZ (zfA c_goers_x (hr.mono (by decide)) (m_bw (vb_ 1) (m_sh (v_ 2) (m_bw (vb_ 3) zaW)))))
   zag))
abbrev zdb:Stmt:=top 39
abbrev zdI:List Str:=["_law_way","_law_wishes_here","_law_owns_here","_law_dealing","_law_ring","_law_met","e","_law_others"]
abbrev zcA:List Str:=["_law_way","_law_wishes_here","_law_owns_here","_law_dealing","_law_ring"]
theorem zbh:FnScope zdI zcA (defScope zdb):=⟨rfl,rfl,rfl,by decide +kernel,rfl,by decide +kernel,by decide +kernel⟩
def zba:FS:=
 (seqF (setF q103 5 (fun _=>Res.ok D.non)) (seqF (tryF q103 6 zcz (seqF (zec q103 (zc9 (zab (gv 0) (zab (gv 1) (zab (gv 2) (zab (gv 3) (zab (gv 4) lNil))))) [] zau)) zam) (seqF (setF q105 5 (gv 6)) zam)) (seqF (ifF q105 (zaU (f2 (gv 5) (fun _=>Res.ok D.non) isD)) (seqF (retF q105 (fun _=>Res.ok D.non)) zam) zam) (seqF (setF q105 7 (mkL (zab (f1 (gv 5) (isxD zdK)) (zab (f1 (gv 5) (isxD ze3)) (zab (f1 (gv 5) (isxD ze2)) (zab (f1 (gv 5) (isxD zdJ)) lNil)))))) (seqF (ifF q105 (fOr (fNot (fTru (f1 (gv 5) (isxD zda)))) (fOr (fNot (fTru (f1 (gv 5) (isxD zcy)))) (fOr (fTru (fC (zab (gv 7) lNil) anyD)) (fTru (f1 (gv 5) (isxD zcM)))))) (seqF (retF q105 (fun _=>Res.ok (D.str "another one"))) zam) zam) (seqF (ifF q105 (fOr (fTru (f1 (f1 (gv 5) (xatD zed "hand")) (isiD "bool"))) (fNot (fTru (f1 (f1 (gv 5) (xatD zed "hand")) (isiD "int"))))) (seqF (retF q105 (fun _=>Res.ok (D.str "no whole number"))) zam) zam) (seqF (retF q105 (f1 (gv 5) (xatD zed "hand"))) zam)))))))
def za9:List D→Res D:=fun ds=>outR false (zba (zaq zdI.length ds))
theorem zkj {P:Program} {w:World} {K:PySem.W.Frag} {mg:Str→Option Value} {base:Heap} (T:Txt K mg) (A:DefAt K mg "_law_refused" zdb) (c__law_asked_by_x:CalleeX P w K mg base "_law_asked_by" zbL [] 9 false q109 zau) {C_TradeError:Addr} {bm_TradeError:List Value} (xa_TradeError:XA K C_TradeError bm_TradeError) (xb_TradeError:mg "TradeError" = some (.ref C_TradeError)) (hk_TradeError:zmH K C_TradeError zcz) {C_TooMany:Addr} (xb_TooMany:mg "TooMany" = some (.ref C_TooMany)) (ix_TooMany:IsxOk K (.ref C_TooMany) zdJ) {C_NoRow:Addr} (xb_NoRow:mg "NoRow" = some (.ref C_NoRow)) (ix_NoRow:IsxOk K (.ref C_NoRow) ze2) {C_NoOwn:Addr} (xb_NoOwn:mg "NoOwn" = some (.ref C_NoOwn)) (ix_NoOwn:IsxOk K (.ref C_NoOwn) ze3) {C_NoOrder:Addr} (xb_NoOrder:mg "NoOrder" = some (.ref C_NoOrder)) (ix_NoOrder:IsxOk K (.ref C_NoOrder) zdK) {C_NotSquare:Addr} (xb_NotSquare:mg "NotSquare" = some (.ref C_NotSquare)) (ix_NotSquare:IsxOk K (.ref C_NotSquare) zcM) (ix_ValueError:IsxOk K (.type "ValueError") zcy) {C_NotOwned:Addr} (xb_NotOwned:mg "NotOwned" = some (.ref C_NotOwned)) (ix_NotOwned:IsxOk K (.ref C_NotOwned) zda) (at_hand:zmL K "hand" zed):Callee P w K mg base "_law_refused" zcA [] 10 false q109 za9:=by
 refine zbq (k:=9) (fs:=zba) (m':=q105) A zbh rfl (fun _ _ _ _ _ _ us hl=>by obtain ⟨u0,u1,u2,u3,u4,rfl⟩:=zqG us hl; kernel_rfl) fun f cdv A outer s H g E hr=>?_
 have hu1:=zbA hr
 have hu64:=hr.units
 exact (zaa (zbb 5 zbh.nd (by rfl) (by first | exact Or.inl rfl | exact Or.inr rfl) zen)
   (zaa (zrC (bmT:=bm_TradeError) (m1:=q103) 6 rfl rfl rfl xb_TradeError xa_TradeError.ob xa_TradeError.be hk_TradeError (by rfl) zbh.nd (by rfl) (by rfl) (by rfl) (fun _ _=>(zaa (zjM (zfA c__law_asked_by_x (hr.mono (by decide)) (m_bw (vb_ 0) (m_bw (vb_ 1) (m_sh (v_ 2) (m_bw (vb_ 3) (m_bw (vb_ 4) zaW)))))))
   zag)) (fun _=>(zaa (zbb 5 zbh.nd (by rfl) (by first | exact Or.inl rfl | exact Or.inr rfl) (v_ 6))
   zag)))
   (zaa (s_if (q_is (vb_ 5) (SE.toB zen)) (zaa (zaZ zen)
   zag)
   zag)
   (zaa (zbb 7 zbh.nd (by rfl) (by first | exact Or.inl rfl | exact Or.inr rfl) (SO.toE (zg6 (zaI (zi2 xb_NoOrder ix_NoOrder (by rfl) (by rfl) T.b_isinstance (vb_ 5)) (zaI (zi2 xb_NoOwn ix_NoOwn (by rfl) (by rfl) T.b_isinstance (vb_ 5)) (zaI (zi2 xb_NoRow ix_NoRow (by rfl) (by rfl) T.b_isinstance (vb_ 5)) (zaI (zi2 xb_TooMany ix_TooMany (by rfl) (by rfl) T.b_isinstance (vb_ 5)) zbV)))))))
   (zaa (s_if (SW.toQ (q_or (zff (zdf (SE.toB (zi2 xb_NotOwned ix_NotOwned (by rfl) (by rfl) T.b_isinstance (vb_ 5))))) (q_or (zff (zdf (SE.toB (zpz (x := "ValueError") rfl T.b_ValueError ix_ValueError (by rfl) (by rfl) T.b_isinstance (vb_ 5))))) (q_or (zdf (SE.toB (zlz rfl (by rfl) T.b_any (zaL (vb_ 7) zbk)))) (zja (zdf (SE.toB (zi2 xb_NotSquare ix_NotSquare (by rfl) (by rfl) T.b_isinstance (vb_ 5))))))))) (zaa (zaZ zpv)
   zag)
   zag)
   (zaa (s_if (SW.toQ (q_or (zdf (SE.toB (zlw "bool" "bool" rfl (ziy _) (by rfl) T.b_isinstance (by rfl) T.b_bool (SE.toB (znD at_hand (vb_ 5)))))) (zja (zff (zdf (SE.toB (zlw "int" "int" rfl (zkw _) (by rfl) T.b_isinstance (by rfl) T.b_int (SE.toB (znD at_hand (vb_ 5)))))))))) (zaa (zaZ zpv)
   zag)
   zag)
   (zaa (zaZ (znD at_hand (vb_ 5)))
   zag)))))))
abbrev zmP:Stmt:=top 40
abbrev zrp:List Str:=["_law_script","_law_cell_here","_law_n","_law_m","_law_wishes_here","_law_owns_here","_law_dealing","_law_far","_law_ring","_law_due","_law_way"]
abbrev zro:List Str:=["_law_script"]
theorem zco:FnScope zrp zro (defScope zmP):=⟨rfl,rfl,rfl,by decide +kernel,rfl,by decide +kernel,by decide +kernel⟩
abbrev zld:FS:=
 (seqF (ifF q101 (zaU (f2 (zaR (zab (gv 10) (zab (gv 4) (zab (gv 5) (zab (gv 6) (zab (gv 8) lNil))))) [] za9) (gv 9) neD)) (seqF (retF q101 (fun _=>Res.ok (D.bl false))) zam) zam) zam)
def zmK:FS:=
 (seqF (setF q101 1 (zaR (zab (gv 0) (zab (ci 1) lNil)) [] zaM)) (seqF (setF q101 2 (f2 (ci 1) (f2 (gv 1) (ci 7) modI) addA)) (seqF (setF q101 3 (f2 (gv 2) (f2 (f2 (f2 (gv 1) (ci 7) zdz) (f2 (ci 9) (gv 2) subI) modI) (f2 (f2 (gv 1) (ci 56) zdz) (ci 2) modI) mulI) addA)) (seqF (setF q101 4 (zaR (zab (gv 0) (zab (ci 4) (zab (gv 2) (zab (gv 3) lNil)))) [] zb1)) (seqF (setF q101 5 (zaR (zab (zaR (zab (gv 0) (zab (ci 11) lNil)) [] zaM) (zab (gv 2) (zab (gv 3) lNil))) [] zc1)) (seqF (ifF q101 (zaU (f2 (f2 (f2 (gv 1) (ci 112) zdz) (ci 4) modI) (ci 1) eqD)) (seqF (setF q101 5 (fSlA (zaR (zab (zaR (zab (gv 0) (zab (ci 11) lNil)) [] zaM) (zab (gv 3) lNil)) [] zbl) (fun _=>Res.ok none) (zhk (gv 2)))) zam) zam) (seqF (setF q101 6 (fSlA (zaR (zab (zaR (zab (gv 0) (zab (ci 12) lNil)) [] zaM) (zab (gv 3) lNil)) [] zbl) (fun _=>Res.ok none) (zhk (gv 2)))) (seqF (setF q101 7 (zaR (zab (gv 0) (zab (ci 2) lNil)) [] zaM)) (seqF (setF q101 8 (f2 (mkL (zab (mkT (zab (mkT (zab (ci 0) (zab (f2 (gv 6) (ci 0) ixA) lNil))) lNil)) (zab (mkT (zab (mkT (zab (f2 (gv 2) (ci 1) subI) (zab (ci 0) lNil))) (zab (mkT (zab (ci 0) (zab (f1 (ci 1) negI) lNil))) lNil))) (zab (mkT lNil) (zab (mkT (zab (mkT (zab (f2 (ci 10) (ci 20) powI) (zab (f1 (ci 3) negI) lNil))) lNil)) lNil))))) (f2 (gv 7) (ci 4) modI) ixA)) (seqF (setF q101 9 (fun _=>Res.ok D.non)) (seqF (ifF q101 (zaU (f2 (gv 3) (gv 2) gtI)) (seqF (setF q101 9 (f1 (ci 1) negI)) zam) (seqF (ifF q101 (zaU (f2 (fun _=>Res.ok D.non) (gv 5) inD)) (seqF (setF q101 9 (fM "tuple" (gv 5) (zab (fun _=>Res.ok D.non) lNil) zdL)) zam) zam) zam)) (seqF (zdy q101 (fSeq zbC (mkL (zab (f2 (f2 (gv 7) (ci 4) zdz) (ci 2) modI) (zab (f2 (ci 1) (f2 (f2 (gv 7) (ci 4) zdz) (ci 2) modI) subI) (zab (f2 (f2 (gv 7) (ci 4) zdz) (ci 2) modI) lNil))))) (ftN 10) zld) (seqF (retF q101 (fun _=>Res.ok (D.bl true))) zam)))))))))))))
def zo5:List D→Res D:=fun ds=>outR false (zmK (zaq zrp.length ds))
theorem zsk {P:Program} {w:World} {K:PySem.W.Frag} {mg:Str→Option Value} {base:Heap} (T:Txt K mg) {fa:Addr} {fd:FuncData} (A:Fun K "law" "law" zmP fa fd) (c__law_cell:Callee P w K mg base "_law_cell" zcV [] 1 false q0 zaM) (c__law_wishes:Callee P w K mg base "_law_wishes" zcU [] 2 false q106 zb1) (c__law_owns:Callee P w K mg base "_law_owns" zdS [] 1 false [.sh,.bw,.bw] zc1) (c__law_row:Callee P w K mg base "_law_row" zdu [] 1 false [.sh,.bw] zbl) (c__law_refused:Callee P w K mg base "_law_refused" zcA [] 10 false q109 za9):FnOk P w K mg base CX0 11 fa fd zro (spM K false [Md.sh] zo5):=by
 refine znf (k:=10) (fs:=zmK) (m':=q101) A zco rfl fun cdv A outer s H g E hr=>?_
 have hu1:=zbA hr
 have hu64:=hr.units
 exact (zaa (zbb 1 zco.nd (by rfl) (by first | exact Or.inl rfl | exact Or.inr rfl) (zaE (dds:=[]) c__law_cell (hr.mono (by decide)) (m_bw (vb_ 0) (m_bw (SE.toB zaw) zaW))))
   (zaa (zbb 2 zco.nd (by rfl) (by first | exact Or.inl rfl | exact Or.inr rfl) (zde (SE.toB zaw) (SE.toB (zdx (vb_ 1) (SE.toB zaw)))))
   (zaa (zbb 3 zco.nd (by rfl) (by first | exact Or.inl rfl | exact Or.inr rfl) (zde (vb_ 2) (SE.toB (zgR (SE.toB (zdx (SE.toB (zeD (vb_ 1) (SE.toB zaw))) (SE.toB (znE (SE.toB zaw) (vb_ 2))))) (SE.toB (zdx (SE.toB (zeD (vb_ 1) (SE.toB zaw))) (SE.toB zaw)))))))
   (zaa (zbb 4 zco.nd (by rfl) (by first | exact Or.inl rfl | exact Or.inr rfl) (zaE (dds:=[]) c__law_wishes (hr.mono (by decide)) (m_bw (vb_ 0) (m_bw (SE.toB zaw) (m_bw (vb_ 2) (m_bw (vb_ 3) zaW))))))
   (zaa (zbb 5 zco.nd (by rfl) (by first | exact Or.inl rfl | exact Or.inr rfl) (zaE (dds:=[]) c__law_owns (hr.mono (by decide)) (m_sh (zaE (dds:=[]) c__law_cell (hr.mono (by decide)) (m_bw (vb_ 0) (m_bw (SE.toB zaw) zaW))) (m_bw (vb_ 2) (m_bw (vb_ 3) zaW)))))
   (zaa (s_if (q_eq hu64 (SE.toB (zdx (SE.toB (zeD (vb_ 1) (SE.toB zaw))) (SE.toB zaw))) (SE.toB zaw)) (zaa (zbb 5 zco.nd (by rfl) (by first | exact Or.inl rfl | exact Or.inr rfl) (zls (SE.toB (zaE (dds:=[]) c__law_row (hr.mono (by decide)) (m_sh (zaE (dds:=[]) c__law_cell (hr.mono (by decide)) (m_bw (vb_ 0) (m_bw (SE.toB zaw) zaW))) (m_bw (vb_ 3) zaW)))) zir (ziq (vb_ 2))))
   zag)
   zag)
   (zaa (zbb 6 zco.nd (by rfl) (by first | exact Or.inl rfl | exact Or.inr rfl) (zls (SE.toB (zaE (dds:=[]) c__law_row (hr.mono (by decide)) (m_sh (zaE (dds:=[]) c__law_cell (hr.mono (by decide)) (m_bw (vb_ 0) (m_bw (SE.toB zaw) zaW))) (m_bw (vb_ 3) zaW)))) zir (ziq (vb_ 2))))
   (zaa (zbb 7 zco.nd (by rfl) (by first | exact Or.inl rfl | exact Or.inr rfl) (zaE (dds:=[]) c__law_cell (hr.mono (by decide)) (m_bw (vb_ 0) (m_bw (SE.toB zaw) zaW))))
   (zaa (zbb 8 zco.nd (by rfl) (by first | exact Or.inl rfl | exact Or.inr rfl) (zcC hu1 (SO.toB (zg6 (zaI (zfO (zaI (zfO (zaI zaw (zaI (zcC hu1 (vb_ 6) (SE.toB zaw)) zbV))) zbV)) (zaI (zfO (zaI (zfO (zaI (znE (vb_ 2) (SE.toB zaw)) (zaI zaw zbV))) (zaI (zfO (zaI zaw (zaI (zlv (SE.toB zaw)) zbV))) zbV))) (zaI (zfO zbV) (zaI (zfO (zaI (zfO (zaI (zpw (SE.toB zaw) (SE.toB zaw)) (zaI (zlv (SE.toB zaw)) zbV))) zbV)) zbV)))))) (SE.toB (zdx (vb_ 7) (SE.toB zaw)))))
   (zaa (zbb 9 zco.nd (by rfl) (by first | exact Or.inl rfl | exact Or.inr rfl) zen)
   (zaa (s_if (q_gt (vb_ 3) (vb_ 2)) (zaa (zbb 9 zco.nd (by rfl) (by first | exact Or.inl rfl | exact Or.inr rfl) (zlv (SE.toB zaw)))
   zag)
   (zaa (s_if (q_in hu1 (SE.toB zen) (vb_ 5)) (zaa (zbb 9 zco.nd (by rfl) (by first | exact Or.inl rfl | exact Or.inr rfl) (s_bm PySem.F.plainAttrs_tuple PySem.F.slot_tuple_index PySem.F.type_tuple_index zfk zfs (vb_ 5) (zaL (SE.toB zen) zbk)))
   zag)
   zag)
   zag))
   (zaa (zlx PassesOwn.never rfl (zmj (SO.toE (zg6 (zaI (zdx (SE.toB (zeD (vb_ 7) (SE.toB zaw))) (SE.toB zaw)) (zaI (znE (SE.toB zaw) (SE.toB (zdx (SE.toB (zeD (vb_ 7) (SE.toB zaw))) (SE.toB zaw)))) (zaI (zdx (SE.toB (zeD (vb_ 7) (SE.toB zaw))) (SE.toB zaw)) zbV)))))) (zaN 10 zco.nd (by rfl) (by first | exact Or.inl rfl | exact Or.inr rfl)) (zaa (s_if (q_ne hu64 (SE.toB (zaE (dds:=[]) c__law_refused (hr.mono (by decide)) (m_bw (vb_ 10) (m_bw (vb_ 4) (m_sh (v_ 5) (m_bw (vb_ 6) (m_bw (vb_ 8) zaW))))))) (vb_ 9)) (zaa (zaZ s_bl)
   zag)
   zag)
   zag))
   (zaa (zaZ s_bl)
   zag)))))))))))))
end Law
end
section
namespace Law
open PySem L2 DL
abbrev nD (k:Nat):D:=.int (k:Int)
abbrev LN (l:List Nat):D:=.lst (l.map nD)
abbrev TN (l:List Nat):D:=.tup (l.map nD)
def oD:Option Nat→D
 | none=>.non
 | some k=>nD k
abbrev WD (rows:List (List Nat)):D:=.tup (rows.map TN)
abbrev OD (owns:List (Option Nat)):D:=.tup (owns.map oD)
theorem szOk {ds:List D} (h:ds.length≤1000):sz ds=some ds:=zrA (Nat.le_trans h (by rw [sizeLine_eq]; decide))
@[simp] theorem addA_int (a b:Int):addA (.int a) (.int b)=some (.int (a + b)):=rfl
theorem zko {a b:Int} (h:CMul a b):mulI (.int a) (.int b)=some (.int (a * b)):=by rw [mulI,intsC_int,if_pos h]
theorem zkr {a b:Int} (h:0 < b):modI (.int a) (.int b)=some (.int (a % b)):=by rw [modI,intsC_int,if_pos h]
theorem zmp {a b:Int} (h:CDiv a b):zdz (.int a) (.int b)=some (.int (a / b)):=by rw [zdz,intsC_int,if_pos h]
theorem zae {s1 s2:FS} {r r':Rho} (h:s1 r=.nx r'):seqF s1 s2 r=s2 r':=by unfold seqF; rw [h]
theorem zap {s1 s2:FS} {r:Rho} {d:D} (h:s1 r=.rt d):seqF s1 s2 r=.rt d:=by unfold seqF; rw [h]
theorem zat {m:List Md} {i:Nat} {f:FE} {r:Rho} {d:D} (h:f r=.ok d):setF m i f r=.nx (r.set i (some d)):=by unfold setF; rw [h]; rfl
theorem zay {m:List Md} {f:FE} {r:Rho} {d:D} (h:f r=.ok d):retF m f r=.rt d:=by unfold retF; rw [h]; rfl
theorem zjp {m:List Md} {p:FQ} {s1 s2:FS} {r:Rho} {b:Bool} (h:p r=.ok b):ifF m p s1 s2 r=if b=true then s1 r else s2 r:=by unfold ifF; rw [h]; rfl
theorem if_t {m:List Md} {p:FQ} {s1 s2:FS} {r:Rho} (h:p r=.ok true):ifF m p s1 s2 r=s1 r:=by rw [zjp h,if_pos rfl]
theorem if_f {m:List Md} {p:FQ} {s1 s2:FS} {r:Rho} (h:p r=.ok false):ifF m p s1 s2 r=s2 r:=by rw [zjp h,if_neg Bool.false_ne_true]
theorem zq8 {p:FQ} {f f':FE} {r:Rho} (h:p r=.ok true):fIf p f f' r=f r:=by unfold fIf; rw [h]; rfl
theorem zq9 {p:FQ} {f f':FE} {r:Rho} (h:p r=.ok false):fIf p f f' r=f' r:=by unfold fIf; rw [h]; rfl
theorem zdF {fl:Rho→Res (List D)} {r:Rho} {ds:List D} (h:fl r=.ok ds) (hl:ds.length≤1000):mkT fl r=.ok (.tup ds):=by unfold mkT; rw [h,bind_ok,szOk hl]; rfl
theorem zfl {fl:Rho→Res (List D)} {r:Rho} {ds:List D} (h:fl r=.ok ds) (hl:ds.length≤1000):mkL fl r=.ok (.lst ds):=by unfold mkL; rw [h,bind_ok,szOk hl]; rfl
theorem zgC {ds:List D} {d:D} (h:ds.length≤1000):appD (.lst ds) [d]=some (.lst (ds++[d])):=by
 show (if ds.length < sizeLine then some (D.lst (ds++[d])) else none)=_
 rw [if_pos (by rw [sizeLine_eq]; omega)]
theorem zan {fl:Rho→Res (List D)} {dds zs:List D} {F:List D→Res D} {r:Rho} {d:D} (h1:fl r=.ok zs) (h2:F (zs++dds)=.ok d):zaR fl dds F r=.ok d:=by unfold zaR; rw [h1,bind_ok,h2]; rfl
theorem zsa {f:FE} {k:D→Option D} {r:Rho} {a d:D} (h1:f r=.ok a) (h2:k a=some d):f1 f k r=.ok d:=by unfold f1; rw [h1,bind_ok,h2]; rfl
theorem zao {f f':FE} {k:D→D→Option D} {r:Rho} {a b d:D} (h1:f r=.ok a) (h2:f' r=.ok b) (h3:k a b=some d):f2 f f' k r=.ok d:=by unfold f2; rw [h1,bind_ok,h2,bind_ok,h3]; rfl
theorem zbf {fl:Rho→Res (List D)} {k:List D→Option D} {r:Rho} {ds:List D} {d:D} (h1:fl r=.ok ds) (h2:k ds=some d):fC fl k r=.ok d:=by unfold fC; rw [h1,bind_ok,h2]; rfl
theorem zac {f:FE} {fl:Rho→Res (List D)} {r:Rho} {d:D} {ds:List D} (h1:f r=.ok d) (h2:fl r=.ok ds):zab f fl r=.ok (d::ds):=by unfold zab; rw [h1,bind_ok,h2]; rfl
theorem zai {r:Rho}:lNil r=.ok []:=rfl
theorem zaJ {f:FE} {r:Rho} {b:Bool} (h:f r=.ok (.bl b)):zaU f r=.ok b:=by unfold zaU; rw [h]; rfl
theorem zaP {f:FE} {r:Rho} {d:D} {b:Bool} (h:f r=.ok d) (h2:truD d=some b):fTru f r=.ok b:=by unfold fTru; rw [h,bind_ok,h2]; rfl
theorem zbi {p:FQ} {r:Rho} {b:Bool} (h:p r=.ok b):fNot p r=.ok (! b):=by unfold fNot; rw [h]; rfl
theorem zo3 {p q:FQ} {r:Rho} (h:p r=.ok true):fAnd p q r=q r:=by unfold fAnd; rw [h]; rfl
theorem zrl {p q:FQ} {r:Rho} (h:p r=.ok false):fAnd p q r=.ok false:=by unfold fAnd; rw [h]; rfl
theorem or_t {p q:FQ} {r:Rho} (h:p r=.ok true):fOr p q r=.ok true:=by unfold fOr; rw [h]; rfl
theorem or_f {p q:FQ} {r:Rho} (h:p r=.ok false):fOr p q r=q r:=by unfold fOr; rw [h]; rfl
theorem zjC {f f':FE} {r:Rho} (h:f r=.ok (.bl true)):vAnd f f' r=f' r:=by unfold vAnd; rw [h]; rfl
theorem zbI {m:List Md} {fi:FI} {ft:FT} {b:FS} {r:Rho} {ds:List D} (h:fi r=.ok ds):zdy m fi ft b r=forF ft b ds r:=by unfold zdy; rw [h]; rfl
theorem zie {f:FE} {r:Rho} {d:D} {ds:List D} (h:f r=.ok d) (h2:zbC d=some ds):fSeq zbC f r=.ok ds:=by unfold fSeq; rw [h,bind_ok,h2]; rfl
theorem zbX {ft:FT} {b:FS} {r:Rho}:forF ft b [] r=.nx r:=by unfold forF; rfl
theorem zcs {ft:FT} {b:FS} {r r1 r':Rho} {d:D} {ds:List D} (h1:ft d r=some r1) (h2:b r1=.nx r'):forF ft b (d::ds) r=forF ft b ds r':=by
 conv=>lhs; unfold forF
 simp only [h1,h2]
theorem ziG {ft:FT} {b:FS} {r r1:Rho} {d v:D} {ds:List D} (h1:ft d r=some r1) (h2:b r1=.rt v):forF ft b (d::ds) r=.rt v:=by
 conv=>lhs; unfold forF
 simp only [h1,h2]
theorem zjB {m:List Md} {p:FQ} {b:FS} {n:Nat} {r:Rho} (h:p r=.ok false):zb6 m p b (n + 1) r=.nx r:=by unfold zb6; rw [h]; rfl
theorem zjA {m:List Md} {p:FQ} {b:FS} {n:Nat} {r r':Rho} (h:p r=.ok true) (h2:b r=.nx r'):zb6 m p b (n + 1) r=zb6 m p b n r':=by
 conv=>lhs; unfold zb6
 rw [h,onE_ok,if_pos rfl,h2]
theorem zg7 {T:String} {m:List Md} {i:Nat} {fl:Rho→Res (List D)} {mk:D→List D→Option D} {r:Rho} {d d':D} {ds:List D} (h1:r[i]? = some (some d)) (h2:tyB T d=true) (h3:fl r=.ok ds) (h4:mk d ds=some d'):mutF T m i fl mk r=.nx (r.set i (some d')):=by
 unfold mutF; rw [h1]; simp only [h2,if_true,h3,onE_ok,h4]
theorem zg0 {m:List Md} {i:Nat} {fk fv:FE} {r:Rho} {d k v d':D} (h1:r[i]? = some (some d)) (h2:fv r=.ok v) (h3:fk r=.ok k) (h4:stoD d k v=some d'):DL.putF m i fk fv r=.nx (r.set i (some d')):=by
 unfold DL.putF; rw [h2,onE_ok]; simp only [h1,h3,onE_ok,h4]
theorem zoS {fa fb fc:FE} {k k':D→D→Option D} {r:Rho} {x y w d:D} (h1:fa r=.ok x) (h2:fb r=.ok y) (h3:k x y=some (.bl true)) (h4:fc r=.ok w) (h5:k' y w=some d):zhm fa fb fc k k' r=.ok d:=by
 unfold zhm; rw [h1,bind_ok,h2,bind_ok,h3,opt_some,bind_ok]
 show (fc r).bind _=_
 rw [h4,bind_ok,h5]; rfl
theorem zkX {ft:FT} {q:FQ} {fe:FE} {r0:Rho}:zdO ft q fe r0 []=.ok []:=by unfold zdO; rfl
theorem zhp {ft:FT} {q:FQ} {fe:FE} {r0:Rho} {α:Type} (e:α→D) (keep:α→Bool) (g:α→D):∀(l:List α),(∀a∈l,∃r1,ft (e a) r0=some r1∧q r1=.ok (keep a)∧(keep a=true→fe r1=.ok (g a)))→zdO ft q fe r0 (l.map e)=.ok ((l.filter keep).map g)
 | [],_=>zkX
 | a::l,h=>by
  obtain ⟨r1,h1,h2,h3⟩:=h a List.mem_cons_self
  have ih:=zhp (ft:=ft) (q:=q) (fe:=fe) (r0:=r0) e keep g l fun b hb=>h b (List.mem_cons_of_mem _ hb)
  rw [List.map_cons]
  conv=>lhs; unfold zdO
  rw [h1,opt_some,bind_ok,h2,bind_ok]
  cases k:keep a with
  | true=>rw [if_pos rfl,h3 k,bind_ok,ih,bind_ok,List.filter_cons,if_pos k]; rfl
  | false=>rw [if_neg Bool.false_ne_true,ih,List.filter_cons,if_neg (by rw [k]; exact Bool.false_ne_true)]
theorem zdN {nl:Nat} {cap:List Nat} {fi:FI} {ft:FT} {q:FQ} {fe:FE} {r:Rho} {α:Type} {l:List α} (e:α→D) (keep:α→Bool) (g:α→D) (h1:fi r=.ok (l.map e)) (hl:l.length≤1000)
  (h:∀a∈l,∃r1,ft (e a) (capR nl cap r)=some r1∧q r1=.ok (keep a)∧(keep a=true→fe r1=.ok (g a))):zca nl cap fi ft q fe r=.ok (.lst ((l.filter keep).map g)):=by
 unfold zca
 rw [h1,bind_ok,szOk (by simpa using hl),opt_some,bind_ok,zhp e keep g l h,noXL_ok,bind_ok]
theorem zrY (k:Nat):leI (.int 0) (nD k)=some (.bl true):=by
 show some (D.bl (decide ((0:Int)≤(k:Int))))=_
 rw [decide_eq_true (Int.natCast_nonneg k)]
theorem zl8 (a b:Nat):ltI (nD a) (nD b)=some (.bl (decide (a < b))):=by
 show some (D.bl (decide ((a:Int) < (b:Int))))=_
 simp only [Int.ofNat_lt]
theorem zoG (a b:Nat):gtI (nD a) (nD b)=some (.bl (decide (b < a))):=by
 show some (D.bl (decide ((b:Int) < (a:Int))))=_
 simp only [Int.ofNat_lt]
theorem zfU (a b:Nat):eqD (nD a) (nD b)=some (.bl (decide (a=b))):=by
 unfold eqD
 rw [eqB_int]
 show some (D.bl ((a:Int) == (b:Int)))=_
 have:((a:Int) == (b:Int))=decide (a=b):=by rw [Bool.eq_iff_iff,beq_iff_eq,decide_eq_true_iff]; exact Int.ofNat_inj
 rw [this]
theorem zos (a b:Nat):neD (nD a) (nD b)=some (.bl (! decide (a=b))):=by
 unfold neD
 rw [eqB_int]
 show some (D.bl (!((a:Int) == (b:Int))))=_
 have:((a:Int) == (b:Int))=decide (a=b):=by rw [Bool.eq_iff_iff,beq_iff_eq,decide_eq_true_iff]; exact Int.ofNat_inj
 rw [this]
theorem zaH {B:FS} {n:Nat} {ds:List D} {d:D} (h:B (zaq n ds)=.rt d):outR false (B (zaq n ds))=.ok d:=by rw [h]; rfl
abbrev kI (k:Nat):Key:=Sum.inl (k:Int)
theorem ziD (kvs:List (Nat × D)) (k:Nat):hasK (kvs.map fun p=>(kI p.1,p.2)) (kI k)=decide (k∈kvs.map (·.1)):=by
 unfold hasK
 rw [List.any_map,Bool.eq_iff_iff,List.any_eq_true,decide_eq_true_iff,List.mem_map]
 constructor
 ·rintro ⟨p,h1,h2⟩
  refine ⟨p,h1,?_⟩
  simp only [Function.comp_apply,decide_eq_true_eq] at h2
  have:((p.1:Nat):Int)=(k:Int):=Sum.inl.inj h2
  exact Int.ofNat.inj this
 ·rintro ⟨p,h1,rfl⟩
  exact ⟨p,h1,by simp⟩
theorem zil (kvs:List (Nat × D)) (k:Nat) (d:D) (h:k∉kvs.map (·.1)):putD (kvs.map fun p=>(kI p.1,p.2)) (kI k) d=(kvs++[(k,d)]).map fun p=>(kI p.1,p.2):=by
 unfold putD
 have e:((kvs.map fun p=>(kI p.1,p.2)).any fun kv=>decide (kv.1=kI k))=decide (k∈kvs.map (·.1)):=ziD kvs k
 rw [e,decide_eq_false h,if_neg Bool.false_ne_true,List.map_append]
 rfl
@[simp] theorem e_seq (s1 s2:FS) (r:Rho):seqF s1 s2 r=(match s1 r with | .nx r'=>s2 r' | o=>o):=rfl
@[simp] theorem e_skip (r:Rho):zam r=.nx r:=rfl
@[simp] theorem e_set (m:List Md) (i:Nat) (f:FE) (r:Rho):setF m i f r=onE m r (f r) fun d=>.nx (r.set i (some d)):=rfl
@[simp] theorem e_ret (m:List Md) (f:FE) (r:Rho):retF m f r=onE m r (f r) fun d=>.rt d:=rfl
@[simp] theorem e_if (m:List Md) (p:FQ) (s1 s2:FS) (r:Rho):ifF m p s1 s2 r=onE m r (p r) fun c=>if c=true then s1 r else s2 r:=rfl
@[simp] theorem e_getV (r:Rho) (i:Nat):getV r i=(match r[i]? with | some (some d)=>.ok d | _=>.stuck):=rfl
@[simp] theorem e_f1 (f:FE) (k:D→Option D) (r:Rho):f1 f k r=(f r).bind fun d=>opt (k d):=rfl
@[simp] theorem e_f2 (f f':FE) (k:D→D→Option D) (r:Rho):f2 f f' k r=(f r).bind fun a=>(f' r).bind fun b=>opt (k a b):=rfl
@[simp] theorem e_fC (fl:Rho→Res (List D)) (k:List D→Option D) (r:Rho):fC fl k r=(fl r).bind fun ds=>opt (k ds):=rfl
@[simp] theorem e_lN (r:Rho):lNil r=.ok []:=rfl
@[simp] theorem e_lC (f:FE) (fl:Rho→Res (List D)) (r:Rho):zab f fl r=(f r).bind fun d=>(fl r).bind fun ds=>.ok (d::ds):=rfl
@[simp] theorem e_test (f:FE) (r:Rho):zaU f r=(f r).bind fun d=>opt (asB d):=rfl
@[simp] theorem e_tru (f:FE) (r:Rho):fTru f r=(f r).bind fun d=>opt (truD d):=rfl
@[simp] theorem e_not (p:FQ) (r:Rho):fNot p r=(p r).bind fun c=>.ok (! c):=rfl
@[simp] theorem e_and (p q:FQ) (r:Rho):fAnd p q r=(p r).bind fun c=>if c=true then q r else .ok false:=rfl
@[simp] theorem e_or (p q:FQ) (r:Rho):fOr p q r=(p r).bind fun c=>if c=true then .ok true else q r:=rfl
@[simp] theorem e_vand (f f':FE) (r:Rho):vAnd f f' r=(f r).bind fun d=>(opt (asB d)).bind fun c=>if c=true then f' r else .ok (.bl false):=rfl
@[simp] theorem e_vor (f f':FE) (r:Rho):vOr f f' r=(f r).bind fun d=>(opt (asB d)).bind fun c=>if c=true then .ok (.bl true) else f' r:=rfl
@[simp] theorem e_vnot (f:FE) (r:Rho):vNot f r=(f r).bind fun d=>(opt (asB d)).bind fun c=>.ok (.bl (! c)):=rfl
@[simp] theorem e_fIf (p:FQ) (f f':FE) (r:Rho):fIf p f f' r=(p r).bind fun c=>if c=true then f r else f' r:=rfl
@[simp] theorem e_call (fl:Rho→Res (List D)) (dds:List D) (F:List D→Res D) (r:Rho):zaR fl dds F r=(fl r).bind fun ds=>noX (F (ds++dds)):=rfl
@[simp] theorem e_asB (b:Bool):asB (.bl b)=some b:=rfl
@[simp] theorem e_truB (b:Bool):truD (.bl b)=some b:=rfl
@[simp] theorem e_truL (ds:List D):truD (.lst ds)=some (! ds.isEmpty):=rfl
@[simp] theorem e_loop (m:List Md) (fi:FI) (ft:FT) (b:FS) (r:Rho):zdy m fi ft b r=onE m r (fi r) fun ds=>forF ft b ds r:=rfl
@[simp] theorem e_fSeq (k:D→Option (List D)) (f:FE) (r:Rho):fSeq k f r=(f r).bind fun d=>opt (k d):=rfl
@[simp] theorem e_asL (ds:List D):zbC (.lst ds)=some ds:=rfl
@[simp] theorem e_asT (ds:List D):zbC (.tup ds)=some ds:=rfl
@[simp] theorem e_mkT (fl:Rho→Res (List D)) (r:Rho):mkT fl r=(fl r).bind fun ds=>(opt (sz ds)).bind fun ds=>.ok (.tup ds):=rfl
@[simp] theorem e_mkL (fl:Rho→Res (List D)) (r:Rho):mkL fl r=(fl r).bind fun ds=>(opt (sz ds)).bind fun ds=>.ok (.lst ds):=rfl
@[simp] theorem e_lenL (ds:List D):lenD [.lst ds]=some (.int ds.length):=rfl
@[simp] theorem e_lenT (ds:List D):lenD [.tup ds]=some (.int ds.length):=rfl
@[simp] theorem e_lenK (ds:List (Key × D)):lenD [.dic ds]=some (.int ds.length):=rfl
@[simp] theorem e_tupL (ds:List D):tupD [.lst ds]=some (.tup ds):=rfl
@[simp] theorem e_listL (ds:List D):zjh [.lst ds]=some (.lst ds):=rfl
@[simp] theorem e_listT (ds:List D):zjh [.tup ds]=some (.lst ds):=rfl
@[simp] theorem e_isNN:isD .non .non=some (.bl true):=rfl
@[simp] theorem e_isLN (ds:List D):isD (.lst ds) .non=some (.bl false):=rfl
@[simp] theorem e_isn1:isnD .non .non=some (.bl false):=rfl
@[simp] theorem e_isn2 (i:Int):isnD (.int i) .non=some (.bl true):=rfl
@[simp] theorem e_isn3 (ds:List D):isnD (.tup ds) .non=some (.bl true):=rfl
@[simp] theorem e_valsD (kvs:List (Key × D)):znm (.dic kvs)=some (.lst (kvs.map (·.2))):=rfl
theorem zjl {ds:List D} {i:Nat} {d:D} (h:ds[i]? = some d):ixA (.tup ds) (nD i)=some d:=by
 have hl:i < ds.length:=(List.getElem?_eq_some_iff.mp h).1
 show atI ds (i:Int)=some d
 unfold atI ixN
 rw [if_pos (Int.natCast_nonneg i),if_pos (by omega)]
 simpa using h
theorem zoB {ds:List D} {i:Nat} {d:D} (h:ds[i]? = some d):ixA (.lst ds) (nD i)=some d:=by
 have hl:i < ds.length:=(List.getElem?_eq_some_iff.mp h).1
 show atI ds (i:Int)=some d
 unfold atI ixN
 rw [if_pos (Int.natCast_nonneg i),if_pos (by omega)]
 simpa using h
@[simp] theorem ixA_L0 (d:D) (ds:List D):ixA (.lst (d::ds)) (.int 0)=some d:=zoB (i:=0) rfl
@[simp] theorem ixA_T0 (d:D) (ds:List D):ixA (.tup (d::ds)) (.int 0)=some d:=zjl (i:=0) rfl
theorem zrZ {kvs:List (Key × D)} {k:Nat} {d:D} (h:getK kvs (kI k)=some d):ixA (.dic kvs) (nD k)=some d:=h
theorem anyE (l:List Nat) (k:Nat):(l.map nD).any (fun y=>eqs y (nD k))=decide (k∈l):=by
 rw [List.any_map,Bool.eq_iff_iff,List.any_eq_true,decide_eq_true_iff]
 constructor
 ·rintro ⟨x,h1,h2⟩
  have:(((x:Nat):Int) == (k:Int))=true:=h2
  have:=Int.ofNat_inj.mp (eq_of_beq this)
  subst this; exact h1
 ·intro h
  exact ⟨k,h,by show (((k:Nat):Int) == (k:Int))=true; simp⟩
theorem zoN (l:List Nat):(l.map nD).all za5=true:=by
 rw [List.all_eq_true]
 intro x hx
 obtain ⟨k,_,rfl⟩:=List.mem_map.mp hx
 rfl
theorem zr4 (l:List Nat) (k:Nat):inD (nD k) (LN l)=some (.bl (decide (k∈l))):=by
 show (if za5 (nD k)=true∧(l.map nD).all za5=true then some ((l.map nD).any fun y=>eqs y (nD k)) else none).map D.bl=_
 rw [if_pos ⟨rfl,zoN l⟩,anyE]; rfl
theorem zqA (l:List Nat) (k:Nat):ninD (nD k) (LN l)=some (.bl (! decide (k∈l))):=by
 show (if za5 (nD k)=true∧(l.map nD).all za5=true then some ((l.map nD).any fun y=>eqs y (nD k)) else none).map (fun b=>D.bl (! b))=_
 rw [if_pos ⟨rfl,zoN l⟩,anyE]; rfl
end Law
end
section
namespace Law
open PySem L2 DL
theorem zgT (k:Nat):zcJ [nD k]=.ok (.bl true):=rfl
theorem zeE (k b:Nat):za1 [nD k,nD b]=.ok (.bl (decide (k < b))):=by
 refine zaH (B:=zb5) (n:=2) ?_
 unfold zb5
 refine zap (zay ?_)
 rw [zjC (zan (zac (d:=nD k) rfl zai) (zgT k))]
 exact zoS rfl rfl (zrY k) rfl (zl8 k b)
end Law
end
section
namespace Law
open PySem L2 DL
theorem zdr {α:Type} (f:α→D) (l:List α):lenD [.tup (l.map f)]=some (nD l.length):=by
 show some (D.int ((l.map f).length:Int))=_
 rw [List.length_map]
theorem zcP {α:Type} (f:α→D) (l:List α):lenD [.lst (l.map f)]=some (nD l.length):=by
 show some (D.int ((l.map f).length:Int))=_
 rw [List.length_map]
theorem zmd {α:Type} (f:α→Key × D) (l:List α):lenD [.dic (l.map f)]=some (nD l.length):=by
 show some (D.int ((l.map f).length:Int))=_
 rw [List.length_map]
theorem ziK (n:Nat):eqD (nD n) (nD n)=some (.bl true):=by
 have e:=zfU n n
 rw [decide_eq_true rfl] at e; exact e
theorem zmT (n:Nat):rngD 0 n=(List.range n).map nD:=by
 unfold rngD
 refine List.map_congr_left fun i _=>?_
 show D.int (0 + (i:Int))=D.int (i:Int)
 rw [Int.zero_add]
theorem zl9 (j:Int):zjg [.int j]=if -(2 ^ 62)≤j∧j < 2 ^ 62∧j.toNat≤sizeLine then some (.lst (rngD 0 j.toNat)) else none:=rfl
theorem zks {n:Nat} (h:n≤1000):zjg [nD n]=some (LN (List.range n)):=by
 have hs:(n:Int).toNat≤sizeLine:=by rw [Int.toNat_natCast,sizeLine_eq]; omega
 rw [zl9,if_pos ⟨by omega,by omega,hs⟩,Int.toNat_natCast,zmT]
theorem znP (j:Int):rng1 [.int j]=if -(2 ^ 62)≤j∧j < 2 ^ 62 then some (rngD 0 j.toNat) else none:=rfl
theorem zjS {n:Nat} (h:n≤1000):rng1 [nD n]=some ((List.range n).map nD):=by
 rw [znP,if_pos ⟨by omega,by omega⟩,Int.toNat_natCast,zmT]
theorem zhZ {fl:Rho→Res (List D)} {k:List D→Option (List D)} {r:Rho} {ds es:List D} (h1:fl r=.ok ds) (h2:k ds=some es):fRng k fl r=.ok es:=by unfold fRng; rw [h1,bind_ok,h2]; rfl
theorem zfu {p:Nat→Bool}:∀(l:List Nat),l.find? p=(l.filter p).head?
 | []=>rfl
 | a::l=>by
  rw [List.find?_cons,List.filter_cons]
  cases h:p a with
  | true=>simp
  | false=>simpa using zfu l
theorem zsc (o:Option Nat) (x:Nat):eqD (oD o) (nD x)=some (.bl (decide (o=some x))):=by
 cases o with
 | none=>
  unfold eqD oD
  rw [eqB_non_int]
  simp
 | some k=>
  show eqD (nD k) (nD x)=_
  rw [zfU]
  simp
def own (owns:List (Option Nat)) (h:Nat):Option Nat:=(owns[h]?).join
theorem zqg {owns:List (Option Nat)} {h:Nat} (hh:h < owns.length):(owns.map oD)[h]? = some (oD (own owns h)):=by
 rw [List.getElem?_map,List.getElem?_eq_getElem hh]
 unfold own
 rw [List.getElem?_eq_getElem hh]
 rfl
end Law
end
section
namespace Law
open PySem L2 DL
theorem zeo {row:List Nat} {rest:List (List Nat)}:za7 [WD (row::rest)]=.ok (nD row.length):=by
 refine zaH (B:=zc3) (n:=1) ?_
 unfold zc3
 exact zap (zay (zbf (zac (zao (a:=WD (row::rest)) (b:=.int 0) rfl rfl (ixA_T0 _ _)) zai) (zdr _ _)))
end Law
end
section
namespace Law
open PySem L2 DL
theorem zlE {row things:List Nat} (h:∃x∈row,x∈things) (hl:row.length≤1000):zcg [TN row,LN things]=.ok (nD (Rg.best row things)):=by
 refine zaH (B:=zc6) (n:=2) ?_
 unfold zc6
 have hc:(zca 1 [1] (fSeq zbC (gv 0)) (ftN 0) (zaU (f2 (gv 0) (gv 1) inD)) (gv 0)) [some (TN row),some (LN things)]=.ok (LN (row.filter fun x=>decide (x∈things))):=by
  refine zdN nD (fun x=>decide (x∈things)) nD (l:=row) rfl hl fun a _=>⟨[some (nD a),some (LN things)],rfl,?_,fun _=>rfl⟩
  exact zaJ (zao (a:=nD a) (b:=LN things) rfl rfl (zr4 _ _))
 have hb:∃t,(row.filter fun x=>decide (x∈things))=Rg.best row things::t:=by
  unfold Rg.best
  rw [zfu]
  cases e:row.filter fun x=>decide (x∈things) with
  | nil=>
   obtain ⟨x,h1,h2⟩:=h
   have:x∈row.filter fun x=>decide (x∈things):=List.mem_filter.mpr ⟨h1,by simpa using h2⟩
   rw [e] at this; cases this
  | cons a t=>exact ⟨t,rfl⟩
 obtain ⟨t,ht⟩:=hb
 rw [ht] at hc
 exact zap (zay (zao hc (b:=.int 0) rfl (ixA_L0 _ _)))
end Law
end
section
namespace Law
open PySem L2 DL
abbrev zbT (pre:List Nat):D:=.dic ((pre.map fun k=>(k,D.bl true)).map fun p=>(kI p.1,p.2))
theorem zkM (b:Nat) (num:D):∀(suf pre:List Nat) (x y:Option D),(pre++suf).Nodup→(∀k∈suf,k < b)→(pre++suf).length≤1000 →
  ∃x' y',forF (ftT (zaz (ftN 3) (zaz (ftN 4) zci))) zaK (enuD pre.length (suf.map nD)) [some num,some (nD b),some (zbT pre),x,y]=.nx [some num,some (nD b),some (zbT (pre++suf)),x',y']
 | [],pre,x,y,_,_,_=>⟨x,y,by rw [List.append_nil]; exact zbX⟩
 | k::suf,pre,x,y,hn,hb,hl=>by
  have hk:k∉pre:=fun z=>(List.nodup_append.mp hn).2.2 k z k List.mem_cons_self rfl
  obtain ⟨x',y',ih⟩:=zkM b num suf (pre++[k]) (some (nD pre.length)) (some (nD k)) (by simpa using hn) (fun j hj=>hb j (List.mem_cons_of_mem _ hj)) (by simpa using hl)
  refine ⟨x',y',?_⟩
  rw [show (pre++[k]).length=pre.length + 1 by simp] at ih
  rw [show pre++k::suf=(pre++[k])++suf by simp,←ih]
  show forF _ _ (.tup [.int ((pre.length:Nat):Int),nD k]::enuD (pre.length + 1) (suf.map nD)) _=_
  refine zcs (r1:=[some num,some (nD b),some (zbT pre),some (nD pre.length),some (nD k)]) rfl ?_
  have c2:inD (nD k) (zbT pre)=some (.bl false):=by
   show (some (hasK _ (kI k))).map D.bl=_
   rw [ziD,List.map_map]
   have:decide (k∈pre.map ((fun p:Nat × D=>p.1) ∘ fun k=>(k,D.bl true)))=false:=by
    rw [decide_eq_false_iff_not]
    simpa [Function.comp_def] using hk
   rw [this]; rfl
  have c3:stoD (zbT pre) (nD k) (.bl true)=some (zbT (pre++[k])):=by
   show (if _ then some (D.dic (putD _ (kI k) (.bl true))) else none)=_
   rw [if_pos (by rw [List.length_map,List.length_map,sizeLine_eq]; simp at hl; omega),zil _ _ _ (by rw [List.map_map]; simpa [Function.comp_def] using hk)]
   simp
  have c1:decide (k < b)=true:=decide_eq_true (hb k List.mem_cons_self)
  unfold zaK
  have hif:(fOr (fNot (fTru (zaR (zab (gv 4) (zab (gv 1) lNil)) [] za1))) (zaU (f2 (gv 4) (gv 2) inD))) [some num,some (nD b),some (zbT pre),some (nD pre.length),some (nD k)]=.ok false:=by
   have h0:=zeE k b
   rw [c1] at h0
   rw [or_f (zbi (zaP (b:=true) (zan (zac (d:=nD k) rfl (zac (d:=nD b) rfl zai)) h0) rfl))]
   exact zaJ (zao (a:=nD k) (b:=zbT pre) rfl rfl c2)
  refine (zae (zjp hif)).trans ?_
  exact zae (zg0 (d:=zbT pre) (k:=nD k) rfl rfl rfl c3)
theorem zfa {l:List Nat} {b:Nat} (hn:l.Nodup) (hb:∀k∈l,k < b) (hl:l.length≤1000):zbE [LN l,nD b]=.ok (nD l.length):=by
 obtain ⟨x',y',h⟩:=zkM b (LN l) l [] none none hn hb hl
 refine zaH (B:=zbn) (n:=5) ?_
 unfold zbn
 refine (zae (r':=[some (LN l),some (nD b),some (zbT []),none,none]) rfl).trans ?_
 refine (zae ((zbI (ds:=enuD 0 (l.map nD)) rfl).trans h)).trans ?_
 exact zap (zay (zbf (zac (d:=LN l) rfl zai) (zcP _ _)))
theorem zcD {l:List Nat} {n:Nat} (hn:l.Nodup) (hb:∀k∈l,k < n) (h8:l.length≤1000):zaY [LN l,nD n]=.ok (.bl true):=by
 refine zaH (B:=zbx) (n:=2) ?_
 unfold zbx
 exact zap (zay (zao (a:=nD l.length) (b:=nD l.length) (zan (zac (d:=LN l) rfl (zac (d:=nD n) rfl zai)) (zfa hn hb h8)) (zbf (zac (d:=LN l) rfl zai) (zcP _ _)) (ziK _)))
theorem znL {l:List Nat} {n:Nat} (hn:l.Nodup) (hb:∀k∈l,k < n) (hl:l.length=n) (h8:n≤1000):zbD [LN l,nD n]=.ok (.bl true):=by
 refine zaH (B:=zbF) (n:=2) ?_
 unfold zbF
 subst hl
 refine zap (zay ?_)
 rw [zjC (zao (a:=nD l.length) (b:=nD l.length) (zbf (zac (d:=LN l) rfl zai) (zcP _ _)) rfl (ziK _))]
 exact zan (zac (d:=LN l) rfl (zac (d:=nD l.length) rfl zai)) (zcD hn hb h8)
theorem zfP {rows:List (List Nat)} (h:rows.length≤1000):zbM [WD rows,.non]=.ok (LN (List.range rows.length)):=by
 refine zaH (B:=zb4) (n:=2) ?_
 unfold zb4
 refine zap ((zjp (b:=true) rfl).trans ?_)
 rw [if_pos rfl]
 exact zap (zay (zbf (ds:=[nD rows.length]) (zac (zbf (zac (d:=WD rows) rfl zai) (zdr _ _)) zai) (zks h)))
theorem zjP {rows:List (List Nat)} {l:List Nat} (hn:l.Nodup) (hb:∀k∈l,k < rows.length) (hl:l.length=rows.length) (h8:rows.length≤1000):zbM [WD rows,LN l]=.ok (LN l):=by
 refine zaH (B:=zb4) (n:=2) ?_
 unfold zb4
 refine (zae (r':=[some (WD rows),some (LN l)]) ((zjp (b:=false) rfl).trans rfl)).trans ?_
 refine (zae (r':=[some (WD rows),some (LN l)]) ((zjp (b:=false) (zbi (b:=true) (zaP (zan (zac (d:=LN l) rfl (zac (zbf (zac (d:=WD rows) rfl zai) (zdr _ _)) zai)) (znL hn hb hl h8)) rfl))).trans rfl)).trans ?_
 exact zap (zay (zbf (zac (d:=LN l) rfl zai) rfl))
end Law
end
section
namespace Law
open PySem L2 DL
theorem zkJ (owns:List (Option Nat)) (line:List Nat) (x:Nat):∀(l:List Nat) (y:Option D),(∀h∈l,h < owns.length) →
  (match l.find? (fun h=>decide (own owns h=some x)) with
   | some h=>forF (ftN 3) zbs (l.map nD) [some (OD owns),some (LN line),some (nD x),y]=.rt (nD h)
   | none=>∃y',forF (ftN 3) zbs (l.map nD) [some (OD owns),some (LN line),some (nD x),y]=.nx [some (OD owns),some (LN line),some (nD x),y'])
 | [],y,_=>⟨y,zbX⟩
 | h::l,y,hl=>by
  have c:(zaU (f2 (f2 (gv 0) (gv 3) ixA) (gv 2) eqD)) [some (OD owns),some (LN line),some (nD x),some (nD h)]=.ok (decide (own owns h=some x)):=
   zaJ (zao (zao (a:=OD owns) (b:=nD h) rfl rfl (zjl (zqg (hl h List.mem_cons_self)))) (b:=nD x) rfl (zsc _ _))
  rw [List.find?_cons]
  cases e:decide (own owns h=some x) with
  | true=>
   rw [e] at c
   refine ziG (r1:=[some (OD owns),some (LN line),some (nD x),some (nD h)]) rfl ?_
   exact zap ((if_t c).trans (zap (zay (d:=nD h) rfl)))
  | false=>
   rw [e] at c
   have ih:=zkJ owns line x l (some (nD h)) fun k hk=>hl k (List.mem_cons_of_mem _ hk)
   have st:forF (ftN 3) zbs ((h::l).map nD) [some (OD owns),some (LN line),some (nD x),y]=forF (ftN 3) zbs (l.map nD) [some (OD owns),some (LN line),some (nD x),some (nD h)]:=
    zcs (r1:=[some (OD owns),some (LN line),some (nD x),some (nD h)]) rfl ((zae (if_f c)).trans rfl)
   rw [st]
   exact ih
theorem zjO {owns:List (Option Nat)} {line:List Nat} {x:Nat} (hl:∀h∈line,h < owns.length):zcv [OD owns,LN line,nD x]=.ok (oD (line.find? fun h=>decide (own owns h=some x))):=by
 refine zaH (B:=zcw) (n:=4) ?_
 unfold zcw
 have h:=zkJ owns line x line none hl
 cases e:line.find? fun h=>decide (own owns h=some x) with
 | some k=>
  rw [e] at h
  exact zap ((zbI (ds:=line.map nD) rfl).trans h)
 | none=>
  rw [e] at h
  obtain ⟨y',h⟩:=h
  exact (zae ((zbI (ds:=line.map nD) rfl).trans h)).trans (zap (zay (d:=.non) rfl))
theorem zr1 (o:Option Nat):isD (oD o) .non=some (.bl (decide (o=none))):=by cases o <;> rfl
theorem zi6 {owns:List (Option Nat)} {line:List Nat} {x:Nat} (hl:∀h∈line,h < owns.length) (hne:line≠[]):za2 [OD owns,LN line,nD x]=.ok (nD ((line.find? fun h=>decide (own owns h=some x)).getD (line.headD 0))):=by
 refine zaH (B:=zbm) (n:=4) ?_
 unfold zbm
 refine (zae (zat (zan (zac (d:=OD owns) rfl (zac (d:=LN line) rfl (zac (d:=nD x) rfl zai))) (zjO hl)))).trans ?_
 refine zap (zay ?_)
 have c:=zaJ (zao (f:=gv 3) (f':=fun _=>Res.ok D.non) (r:=[some (OD owns),some (LN line),some (nD x),some (oD (line.find? fun h=>decide (own owns h=some x)))]) rfl rfl (zr1 (line.find? fun h=>decide (own owns h=some x))))
 cases e:line.find? fun h=>decide (own owns h=some x) with
 | some k=>
  rw [e,decide_eq_false (by simp)] at c
  exact (zq9 c).trans rfl
 | none=>
  rw [e,decide_eq_true rfl] at c
  refine (zq8 c).trans ?_
  cases line with
  | nil=>exact absurd rfl hne
  | cons a l=>exact zao (a:=LN (a::l)) (b:=.int 0) rfl rfl (ixA_L0 _ _)
end Law
end
section
namespace Law
open PySem L2 DL
abbrev KD (kvs:List (Nat × Nat)):D:=.dic (kvs.map fun p=>(kI p.1,nD p.2))
abbrev FD (l:List Nat) (f:Nat→Nat):List (Nat × Nat):=l.map fun h=>(h,f h)
theorem zkC {a b:Nat} (h:kI a=kI b):a=b:=Int.ofNat_inj.mp (Sum.inl.inj h)
theorem zhe:∀{kvs:List (Nat × Nat)} {h:Nat} {f:Nat→Nat},(∀p∈kvs,p.2=f p.1)→h∈kvs.map (·.1)→getK (kvs.map fun p=>(kI p.1,nD p.2)) (kI h)=some (nD (f h))
 | [],_,_,_,hh=>by cases hh
 | p::kvs,h,f,hf,hh=>by
  by_cases e:p.1=h
  ·have:=hf p List.mem_cons_self
   subst e
   simp [getK,List.find?_cons,this]
  ·have hne:¬ kI p.1=kI h:=fun z=>e (zkC z)
   have hh':h∈kvs.map (·.1):=by
    rcases List.mem_cons.mp hh with z | z
    ·exact absurd z.symm e
    ·exact z
   have ih:=zhe (f:=f) (fun q hq=>hf q (List.mem_cons_of_mem _ hq)) hh'
   have e1:getK ((p::kvs).map fun p=>(kI p.1,nD p.2)) (kI h)=getK (kvs.map fun p=>(kI p.1,nD p.2)) (kI h):=by
    simp only [getK,List.map_cons,List.find?_cons]
    rw [decide_eq_false hne]
   rw [e1]; exact ih
theorem zhY (l:List Nat) (f:Nat→Nat):(FD l f).map (·.1)=l:=by simp [FD,Function.comp_def]
theorem zhj {l:List Nat} {f:Nat→Nat} {h:Nat} (hh:h∈l):ixA (KD (FD l f)) (nD h)=some (nD (f h)):=
 zrZ (zhe (f:=f) (fun p hp=>by obtain ⟨x,_,rfl⟩:=List.mem_map.mp hp; rfl) (by rw [zhY]; exact hh))
def putN (kvs:List (Nat × Nat)) (k v:Nat):List (Nat × Nat):=if k∈kvs.map (·.1) then kvs.map fun p=>if p.1=k then (p.1,v) else p else kvs++[(k,v)]
theorem hasN (kvs:List (Nat × Nat)) (k:Nat):((kvs.map fun p=>(kI p.1,nD p.2)).any fun kv=>decide (kv.1=kI k))=decide (k∈kvs.map (·.1)):=by
 rw [List.any_map,Bool.eq_iff_iff,List.any_eq_true,decide_eq_true_iff,List.mem_map]
 constructor
 ·rintro ⟨p,h1,h2⟩
  simp only [Function.comp_apply,decide_eq_true_eq] at h2
  exact ⟨p,h1,zkC h2⟩
 ·rintro ⟨p,h1,rfl⟩
  exact ⟨p,h1,by simp⟩
theorem zpU (kvs:List (Nat × Nat)) (k v:Nat):putD (kvs.map fun p=>(kI p.1,nD p.2)) (kI k) (nD v)=(putN kvs k v).map fun p=>(kI p.1,nD p.2):=by
 unfold putD putN
 rw [hasN]
 by_cases h:k∈kvs.map (·.1)
 ·rw [decide_eq_true h,if_pos rfl,if_pos h,List.map_map,List.map_map]
  refine List.map_congr_left fun p _=>?_
  simp only [Function.comp_apply]
  by_cases e:p.1=k
  ·rw [if_pos (by rw [e]),if_pos e]
  ·rw [if_neg (fun z=>e (zkC z)),if_neg e]
 ·rw [decide_eq_false h,if_neg Bool.false_ne_true,if_neg h,List.map_append]
  rfl
theorem zj0 (kvs:List (Nat × Nat)) (k v j:Nat):j∈(putN kvs k v).map (·.1)↔j∈kvs.map (·.1)∨j=k:=by
 unfold putN
 by_cases h:k∈kvs.map (·.1)
 ·rw [if_pos h,List.map_map]
  have:((fun p:Nat × Nat=>p.1) ∘ fun p=>if p.1=k then (p.1,v) else p)=fun p=>p.1:=by
   funext p
   simp only [Function.comp_apply]
   split <;> rfl
  rw [this]
  constructor
  ·exact .inl
  ·rintro (z | rfl)
   ·exact z
   ·exact h
 ·rw [if_neg h]; simp
theorem zlN {kvs:List (Nat × Nat)} {k v:Nat} {f:Nat→Nat} (h:∀p∈kvs,p.2=f p.1) (hv:v=f k):∀p∈putN kvs k v,p.2=f p.1:=by
 intro p hp
 unfold putN at hp
 split at hp
 ·obtain ⟨q,h1,rfl⟩:=List.mem_map.mp hp
  split
  ·rename_i e; simp only; rw [e]; exact hv
  ·exact h q h1
 ·rcases List.mem_append.mp hp with z | z
  ·exact h p z
  ·rw [List.mem_singleton.mp z]; exact hv
theorem zjG {kvs:List (Nat × Nat)} {k v:Nat} (hl:kvs.length≤1000):stoD (KD kvs) (nD k) (nD v)=some (KD (putN kvs k v)):=by
 show (if (kvs.map fun p=>(kI p.1,nD p.2)).length < sizeLine then some (D.dic (putD _ (kI k) (nD v))) else none)=_
 rw [if_pos (by rw [List.length_map,sizeLine_eq]; omega),zpU]
structure GI (t:Nat→Nat) (kvs:List (Nat × Nat)) (L:List Nat):Prop where
 nd:(kvs.map (·.1)).Nodup
 val:∀p∈kvs,p.2=t p.1
 key:∀h,h∈kvs.map (·.1)↔h∈L
theorem znZ {kvs:List (Nat × Nat)} {k v:Nat} (h:(kvs.map (·.1)).Nodup):((putN kvs k v).map (·.1)).Nodup:=by
 unfold putN
 split
 ·rw [List.map_map]
  have:((fun p:Nat × Nat=>p.1) ∘ fun p=>if p.1=k then (p.1,v) else p)=fun p=>p.1:=by
   funext p
   simp only [Function.comp_apply]
   split <;> rfl
  rw [this]; exact h
 ·rename_i hk
  rw [List.map_append]
  refine List.nodup_append.mpr ⟨h,by simp,fun a ha b hb=>?_⟩
  simp at hb
  rintro rfl
  exact hk (hb ▸ ha)
theorem GI.put {t:Nat→Nat} {kvs:List (Nat × Nat)} {L:List Nat} (g:GI t kvs L) (k:Nat):GI t (putN kvs k (t k)) (L++[k]):=
 ⟨znZ g.nd,zlN g.val rfl,fun h=>by rw [zj0,g.key]; simp⟩
theorem GI.len {t:Nat→Nat} {kvs:List (Nat × Nat)} {L line:List Nat} (g:GI t kvs L) (hs:∀h∈L,h∈line):kvs.length≤line.length:=by
 have:=Rg.zcO (m:=line) g.nd fun h hh=>hs h ((g.key h).mp hh)
 simpa using this
theorem GI.mem {t:Nat→Nat} {kvs:List (Nat × Nat)} {L M:List Nat} (g:GI t kvs L) (h:∀x,x∈L↔x∈M):GI t kvs M:=⟨g.nd,g.val,fun x=>(g.key x).trans (h x)⟩
theorem GI.nil (t:Nat→Nat):GI t [] []:=⟨by simp,fun _ hp=>(nomatch hp),fun h=>by simp⟩
theorem zfv {α:Type} (l:List α):l.filter (fun _=>true)=l:=List.filter_eq_self.mpr fun _ _=>rfl
def Wr (rows:List (List Nat)) (h:Nat):List Nat:=(rows[h]?).getD []
theorem zmS {rows:List (List Nat)} {h:Nat} (hh:h < rows.length):(rows.map TN)[h]? = some (TN (Wr rows h)):=by
 rw [List.getElem?_map]
 unfold Wr
 rw [List.getElem?_eq_getElem hh]; rfl
theorem zik {kvs:List (Nat × Nat)} {k v:Nat} (h:k∉kvs.map (·.1)):putN kvs k v=kvs++[(k,v)]:=by
 unfold putN; rw [if_neg h]
end Law
end
section
namespace Law
open PySem L2 DL
end Law
end
section
namespace Law
open PySem L2 DL
abbrev zb9 (t:Nat→Nat) (h:Nat):D:=.tup [nD h,nD (t h)]
abbrev za3 (t:Nat→Nat) (ring:List Nat):D:=.tup (ring.map (zb9 t))
def zdT (t:Nat→Nat):Option (List Nat)→D
 | some ring=>za3 t ring
 | none=>.non
section
variable {t f:Nat→Nat} {line:List Nat} {first:Nat} (hcl:∀h∈line,f h∈line) (hn:line.length≤60)
include hcl hn
theorem znU:∀(j:Nat) (ring:List Nat) (hand:Nat),hand∈line→ring.length≤line.length→line.length < j + ring.length →
  ∃ring' hand',zb6 q113 zcR zej j [some (nD first),some (KD (FD line t)),some (KD (FD line f)),some (.lst (ring.map (zb9 t))),some (nD hand)]=.nx [some (nD first),some (KD (FD line t)),some (KD (FD line f)),some (.lst (ring'.map (zb9 t))),some (nD hand')] ∧
   ∀k,line.length < k + ring.length→Rg.ze9 f line.length first k ring hand=if hand'=first then some ring' else none:=by
 intro j
 induction j with
 | zero=>intro ring hand _ h1 h2; omega
 | succ j ih=>
  intro ring hand hh h1 h2
  have c1:(zaU (f2 (gv 4) (gv 0) gtI)) [some (nD first),some (KD (FD line t)),some (KD (FD line f)),some (.lst (ring.map (zb9 t))),some (nD hand)]=.ok (decide (first < hand)):=
   zaJ (zao (a:=nD hand) (b:=nD first) rfl rfl (zoG _ _))
  have c2:(zaU (f2 (fC (zab (gv 3) lNil) lenD) (fC (zab (gv 1) lNil) lenD) ltI)) [some (nD first),some (KD (FD line t)),some (KD (FD line f)),some (.lst (ring.map (zb9 t))),some (nD hand)]=.ok (decide (ring.length < line.length)):=by
   refine zaJ (zao (a:=nD ring.length) (b:=nD line.length) (zbf (zac rfl zai) (zcP _ _)) (zbf (zac (d:=KD (FD line t)) rfl zai) ?_) (zl8 _ _))
   rw [zmd,List.length_map]
  by_cases hc:first < hand∧ring.length < line.length
  ·have cq:zcR [some (nD first),some (KD (FD line t)),some (KD (FD line f)),some (.lst (ring.map (zb9 t))),some (nD hand)]=.ok true:=by
    rw [decide_eq_true hc.1] at c1
    rw [decide_eq_true hc.2] at c2
    exact (zo3 c1).trans c2
   obtain ⟨ring',hand',i1,i2⟩:=ih (ring++[hand]) (f hand) (hcl hand hh) (by simp; omega) (by simp; omega)
   refine ⟨ring',hand',?_,fun k hk=>?_⟩
   ·rw [zjA cq (r':=[some (nD first),some (KD (FD line t)),some (KD (FD line f)),some (.lst ((ring++[hand]).map (zb9 t))),some (nD (f hand))]) ?_]
    ·exact i1
    ·refine (zae (zg7 (d:=.lst (ring.map (zb9 t))) (ds:=[zb9 t hand]) rfl rfl (zac (zdF (zac (d:=nD hand) rfl (zac (zao (a:=KD (FD line t)) (b:=nD hand) rfl rfl (zhj hh)) zai)) (by simp)) zai) (zgC (by simp; omega)))).trans ?_
     refine (zae (zat (d:=nD (f hand)) (zao (a:=KD (FD line f)) (b:=nD hand) rfl rfl (zhj hh)))).trans ?_
     show Out.nx [_,_,_,some (D.lst (ring.map (zb9 t)++[zb9 t hand])),_]=_
     rw [List.map_append]; rfl
   ·cases k with
    | zero=>omega
    | succ k=>
     unfold Rg.ze9
     rw [if_pos hc]
     exact i2 k (by simp; omega)
  ·refine ⟨ring,hand,zjB ?_,fun k hk=>?_⟩
   ·by_cases hc1:first < hand
    ·rw [decide_eq_true hc1] at c1
     rw [decide_eq_false (fun z=>hc ⟨hc1,z⟩)] at c2
     exact (zo3 c1).trans c2
    ·rw [decide_eq_false hc1] at c1
     exact zrl c1
   ·cases k with
    | zero=>omega
    | succ k=>
     unfold Rg.ze9
     rw [if_neg hc]
theorem zlC (hf:first∈line):zcZ [nD first,KD (FD line t),KD (FD line f)]=.ok (zdT t (Rg.zgX f line.length first)):=by
 refine zaH (B:=zc4) (n:=5) ?_
 unfold zc4
 have hpos:=List.length_pos_of_mem hf
 obtain ⟨ring',hand',h1,h2⟩:=znU (t:=t) (first:=first) hcl hn 64 [first] (f first) (hcl first hf) (by show 1≤_; omega) (by simp; omega)
 refine (zae (zat (d:=.lst ([first].map (zb9 t))) (zfl (zac (zdF (zac (d:=nD first) rfl (zac (zao (a:=KD (FD line t)) (b:=nD first) rfl rfl (zhj hf)) zai)) (by simp)) zai) (by simp)))).trans ?_
 refine (zae (zat (d:=nD (f first)) (zao (a:=KD (FD line f)) (b:=nD first) rfl rfl (zhj hf)))).trans ?_
 refine (zae h1).trans ?_
 have hr:Rg.zgX f line.length first=if hand'=first then some ring' else none:=h2 _ (by simp; omega)
 rw [hr]
 have c:=zaJ (zao (f:=gv 4) (f':=gv 0) (r:=[some (nD first),some (KD (FD line t)),some (KD (FD line f)),some (.lst (ring'.map (zb9 t))),some (nD hand')]) (a:=nD hand') (b:=nD first) rfl rfl (zfU hand' first))
 by_cases e:hand'=first
 ·rw [decide_eq_true e] at c
  rw [if_pos e]
  exact zap (zay ((zq8 c).trans (zbf (zac (d:=.lst (ring'.map (zb9 t))) rfl zai) rfl)))
 ·rw [decide_eq_false e] at c
  rw [if_neg e]
  exact zap (zay ((zq9 c).trans rfl))
end
end Law
end
section
namespace Law
open PySem L2 DL
structure Snd (rows:List (List Nat)) (owns:List (Option Nat)) (s:Rg.S):Prop where
 ok:Rg.Ok (Wr rows) (own owns) s
 inr:∀h∈s.line,h < rows.length
 ino:∀h∈s.line,h < owns.length
 wid:∀h∈s.line,(Wr rows h).length≤1000
 nl:s.line.length≤60
 nt:s.things.length≤60
section
variable {rows:List (List Nat)} {owns:List (Option Nat)} {s:Rg.S}
theorem Snd.tg (S:Snd rows owns s) {h:Nat} (hh:h∈s.line):zcg [TN (Wr rows h),LN s.things]=.ok (nD (Rg.tgt (Wr rows) s h)):=
 zlE (S.ok.some_thing hh) (S.wid h hh)
theorem Snd.pts (S:Snd rows owns s) {x h:Nat} (hh:h∈s.line):za2 [OD owns,LN s.line,nD x]=.ok (nD (Rg.pt (own owns) s x)):=
 zi6 S.ino (List.ne_nil_of_mem hh)
abbrev tS (rows:List (List Nat)) (s:Rg.S):Nat→Nat:=Rg.tgt (Wr rows) s
abbrev fS (rows:List (List Nat)) (owns:List (Option Nat)) (s:Rg.S):Nat→Nat:=Rg.nxt (Wr rows) (own owns) s
theorem zjR (S:Snd rows owns s):∀(suf pre:List Nat) (y:Option D),pre++suf=s.line →
  ∃y',forF (ftN 6) zcu (suf.map nD) [some (WD rows),some (OD owns),some (LN s.line),some (LN s.things),some (KD (FD pre (tS rows s))),some (KD (FD pre (fS rows owns s))),y,none]
   = .nx [some (WD rows),some (OD owns),some (LN s.line),some (LN s.things),some (KD (FD s.line (tS rows s))),some (KD (FD s.line (fS rows owns s))),y',none]
 | [],pre,y,e=>⟨y,by rw [List.append_nil] at e; rw [e]; exact zbX⟩
 | h::suf,pre,y,e=>by
  obtain ⟨y',ih⟩:=zjR S suf (pre++[h]) (some (nD h)) (by simpa using e)
  have hh:h∈s.line:=by rw [←e]; simp
  have hn:=S.ok.nl
  rw [←e] at hn
  have hk:h∉pre:=fun z=>(List.nodup_append.mp hn).2.2 h z h List.mem_cons_self rfl
  have hpl:pre.length≤1000:=by
   have:=S.nl
   rw [←e] at this; simp at this; omega
  refine ⟨y',?_⟩
  rw [←ih]
  refine zcs (r1:=[some (WD rows),some (OD owns),some (LN s.line),some (LN s.things),some (KD (FD pre (tS rows s))),some (KD (FD pre (fS rows owns s))),some (nD h),none]) rfl ?_
  have c1:stoD (KD (FD pre (tS rows s))) (nD h) (nD (tS rows s h))=some (KD (FD (pre++[h]) (tS rows s))):=by
   rw [zjG (by simpa using hpl),zik (by rw [zhY]; exact hk)]
   unfold FD; rw [List.map_append]; rfl
  have c2:stoD (KD (FD pre (fS rows owns s))) (nD h) (nD (fS rows owns s h))=some (KD (FD (pre++[h]) (fS rows owns s))):=by
   rw [zjG (by simpa using hpl),zik (by rw [zhY]; exact hk)]
   unfold FD; rw [List.map_append]; rfl
  refine (zae (zg0 (d:=KD (FD pre (tS rows s))) (k:=nD h) (v:=nD (tS rows s h)) rfl (zan (zac (zao (a:=WD rows) (b:=nD h) rfl rfl (zjl (zmS (S.inr h hh)))) (zac (d:=LN s.things) rfl zai)) (S.tg hh)) rfl c1)).trans ?_
  refine (zae (zg0 (d:=KD (FD pre (fS rows owns s))) (k:=nD h) (v:=nD (fS rows owns s h)) rfl (zan (zac (d:=OD owns) rfl (zac (d:=LN s.line) rfl (zac (zao (a:=KD (FD (pre++[h]) (tS rows s))) (b:=nD h) rfl rfl (zhj (by simp))) zai))) (S.pts hh)) rfl c2)).trans ?_
  rfl
theorem zhX {α:Type} (t:Nat→Nat) (f:α→Option (List Nat)):∀(l:List α),(((l.map f).filter Option.isSome).map (zdT t))=(l.filterMap f).map (za3 t)
 | []=>rfl
 | a::l=>by
  rw [List.map_cons,List.filter_cons,List.filterMap_cons]
  cases e:f a with
  | none=>simpa using zhX t f l
  | some r=>simpa [zdT] using zhX t f l
theorem zhV (t:Nat→Nat) (h:Nat):zeI (zb9 t h)=some [(h:Int),(t h:Int)]:=rfl
theorem zia (t:Nat→Nat):∀(ring:List Nat),zfL (ring.map (zb9 t))=some (ring.map fun h:Nat=>[(h:Int),(t h:Int)])
 | []=>rfl
 | h::ring=>by
  show (zeI (zb9 t h)).bind _=_
  rw [zhV,zia t ring]; rfl
theorem zgV (t:Nat→Nat):∀(rs:List (List Nat)),(∀r∈rs,r≠[])→∃kss,zeF (rs.map (za3 t))=some kss
 | [],_=>⟨[],rfl⟩
 | r::rs,h=>by
  obtain ⟨kss,e⟩:=zgV t rs fun x hx=>h x (List.mem_cons_of_mem _ hx)
  have hr:=h r List.mem_cons_self
  cases r with
  | nil=>exact absurd rfl hr
  | cons a r=>
   refine ⟨((a::r).map fun h:Nat=>[(h:Int),(t h:Int)])::kss,?_⟩
   show (zfL ((a::r).map (zb9 t))).bind _=_
   rw [zia,e]; rfl
theorem ziZ (t:Nat→Nat) (rs:List (List Nat)) (h:∀r∈rs,r≠[]) (hl:rs.length < 64):∃rs':List (List Nat),rs'.Perm rs∧zlp [.lst (rs.map (za3 t))]=some (.lst (rs'.map (za3 t))):=by
 obtain ⟨kss,e⟩:=zgV t rs h
 refine ⟨(zfM (rs.map (za3 t)).length fun i j=>lexR (kss.getD i []) (kss.getD j [])).map fun i=>rs.getD i [],?_,?_⟩
 ·have:=(zem (rs.map (za3 t)).length fun i j=>lexR (kss.getD i []) (kss.getD j [])).map fun i=>rs.getD i []
  refine this.trans ?_
  rw [List.length_map]
  have e2:(List.range rs.length).map (fun i=>rs.getD i [])=rs:=by
   refine List.ext_getElem? fun i=>?_
   rw [List.getElem?_map]
   by_cases hi:i < rs.length
   ·rw [List.getElem?_range hi]; simp [List.getElem?_eq_getElem hi]
   ·rw [List.getElem?_eq_none (by simp; omega),List.getElem?_eq_none (by omega)]; rfl
  rw [e2]
 ·show (zeF (rs.map (za3 t))).bind _=_
  rw [e]
  show (if _ then _ else _)=_
  rw [if_pos (by rw [List.length_map]; exact hl)]
  unfold zgM
  rw [List.map_map]
  congr 2
  refine List.map_congr_left fun i hi=>?_
  have hi:=ze8 hi
  rw [List.length_map] at hi
  simp [List.getD,List.getElem?_eq_getElem hi]
theorem zgU {W:Nat→List Nat} {O:Nat→Option Nat}:∀r∈Rg.zfc W O s,r≠[]:=by
 intro r hr
 obtain ⟨x,_,h2⟩:=List.mem_filterMap.mp hr
 exact Rg.zjT h2
theorem zmg (t:Nat→Nat) (o:Option (List Nat)):isnD (zdT t o) .non=some (.bl o.isSome):=by cases o <;> rfl
theorem zjN (S:Snd rows owns s):∃rs:List (List Nat),rs.Perm (Rg.zfc (Wr rows) (own owns) s)∧za8 [WD rows,OD owns,LN s.line,LN s.things]=.ok (.lst (rs.map (za3 (tS rows s)))):=by
 obtain ⟨y',hloop⟩:=zjR S s.line [] none rfl
 have hcl:∀h∈s.line,fS rows owns s h∈s.line:=fun h hh=>Rg.zkm (List.ne_nil_of_mem hh)
 have hlen:(Rg.zfc (Wr rows) (own owns) s).length≤s.line.length:=List.length_filterMap_le _ _
 obtain ⟨rs',hp,hs⟩:=ziZ (tS rows s) (Rg.zfc (Wr rows) (own owns) s) zgU (by have:=S.nl; omega)
 refine ⟨rs',hp,zaH (B:=zbu) (n:=8) ?_⟩
 unfold zbu
 refine (zae (r':=[some (WD rows),some (OD owns),some (LN s.line),some (LN s.things),some (KD (FD [] (tS rows s))),none,none,none]) rfl).trans ?_
 refine (zae (r':=[some (WD rows),some (OD owns),some (LN s.line),some (LN s.things),some (KD (FD [] (tS rows s))),some (KD (FD [] (fS rows owns s))),none,none]) rfl).trans ?_
 refine (zae ((zbI (ds:=s.line.map nD) rfl).trans hloop)).trans ?_
 refine (zae (zat (zdN (l:=s.line) nD (fun _=>true) (fun h=>zdT (tS rows s) (Rg.zgX (fS rows owns s) s.line.length h)) rfl (by have:=S.nl; omega) fun h hh=>⟨[some (nD h),some (KD (FD s.line (tS rows s))),some (KD (FD s.line (fS rows owns s)))],rfl,rfl,fun _=>zan (zac (d:=nD h) rfl (zac (d:=KD (FD s.line (tS rows s))) rfl (zac (d:=KD (FD s.line (fS rows owns s))) rfl zai))) (zlC hcl S.nl hh)⟩))).trans ?_
 rw [zfv]
 refine zap (zay (zbf (zac (zdN (l:=s.line.map (Rg.zgX (fS rows owns s) s.line.length)) (zdT (tS rows s)) Option.isSome (zdT (tS rows s)) ?_ (by have:=S.nl; simp; omega) fun o _=>⟨[some (zdT (tS rows s) o)],rfl,zaJ (zao (a:=zdT (tS rows s) o) (b:=.non) rfl rfl (zmg _ _)),fun _=>rfl⟩) zai) ?_))
 ·rw [List.map_map]; rfl
 ·rw [zhX]; exact hs
theorem zq1 {t:Nat→Nat} {line:List Nat} (hl:line.length≤60) (rg d:D):∀(ring L:List Nat) (kvs:List (Nat × Nat)) (x y:Option D),GI t kvs L→(∀h∈L++ring,h∈line) →
  ∃kvs' x' y',GI t kvs' (L++ring)∧forF (ftT (zaz (ftN 3) (zaz (ftN 4) zci))) zgb (ring.map (zb9 t)) [some rg,some (KD kvs),some d,x,y]=.nx [some rg,some (KD kvs'),some d,x',y']
 | [],L,kvs,x,y,g,hs=>⟨kvs,x,y,by rw [List.append_nil]; exact g,zbX⟩
 | h::ring,L,kvs,x,y,g,hs=>by
  obtain ⟨kvs',x',y',g',ih⟩:=zq1 hl rg d ring (L++[h]) (putN kvs h (t h)) (some (nD h)) (some (nD (t h))) (g.put h) (by simpa using hs)
  refine ⟨kvs',x',y',by simpa using g',?_⟩
  rw [←ih]
  have hk:=g.len (line:=line) fun x hx=>hs x (List.mem_append_left _ hx)
  exact zcs (r1:=[some rg,some (KD kvs),some d,some (nD h),some (nD (t h))]) rfl (zae (zg0 (d:=KD kvs) (k:=nD h) (v:=nD (t h)) rfl rfl rfl (zjG (by omega))))
theorem znd {t:Nat→Nat} {line:List Nat} (hl:line.length≤60) (rg:D):∀(rs:List (List Nat)) (L:List Nat) (kvs:List (Nat × Nat)) (z x y:Option D),GI t kvs L→(∀h∈L++rs.flatten,h∈line) →
  ∃kvs' z' x' y',GI t kvs' (L++rs.flatten)∧forF (ftN 2) zga (rs.map (za3 t)) [some rg,some (KD kvs),z,x,y]=.nx [some rg,some (KD kvs'),z',x',y']
 | [],L,kvs,z,x,y,g,hs=>⟨kvs,z,x,y,by simpa using g,zbX⟩
 | r::rs,L,kvs,z,x,y,g,hs=>by
  obtain ⟨kvs1,x1,y1,g1,h1⟩:=zq1 hl rg (za3 t r) r L kvs x y g fun h hh=>hs h (by
   rw [List.flatten_cons]
   rcases List.mem_append.mp hh with q | q
   ·exact List.mem_append_left _ q
   ·exact List.mem_append_right _ (List.mem_append_left _ q))
  obtain ⟨kvs',z',x',y',g',ih⟩:=znd hl rg rs (L++r) kvs1 (some (za3 t r)) x1 y1 g1 (by rw [List.append_assoc]; simpa using hs)
  refine ⟨kvs',z',x',y',by rw [List.append_assoc] at g'; simpa using g',?_⟩
  rw [←ih]
  exact zcs (r1:=[some rg,some (KD kvs),some (za3 t r),x,y]) rfl (zae ((zbI (ds:=r.map (zb9 t)) rfl).trans h1))
theorem znM {t:Nat→Nat} {line:List Nat} {rs:List (List Nat)} (hl:line.length≤60) (hs:∀h∈rs.flatten,h∈line):∃kvs,GI t kvs rs.flatten∧zek [.lst (rs.map (za3 t))]=.ok (KD kvs):=by
 obtain ⟨kvs',z',x',y',g',h⟩:=znd hl (.lst (rs.map (za3 t))) rs [] [] none none none ⟨by simp,fun _ hp=>(nomatch hp),fun h=>by simp⟩ (by simpa using hs)
 refine ⟨kvs',by simpa using g',zaH (B:=ze0) (n:=5) ?_⟩
 unfold ze0
 refine (zae (r':=[some (.lst (rs.map (za3 t))),some (KD []),none,none,none]) rfl).trans ?_
 refine (zae ((zbI (ds:=rs.map (za3 t)) rfl).trans h)).trans ?_
 exact zap (zay (d:=KD kvs') rfl)
end
end Law
end
section
namespace Law
open PySem L2 DL
section
variable {rows:List (List Nat)} {owns:List (Option Nat)}
inductive Ch (rows:List (List Nat)) (owns:List (Option Nat)):Rg.S→List (List (List Nat) × Rg.S)→Prop where
 | nil {s:Rg.S}:s.line=[]→Ch rows owns s []
 | cons {s:Rg.S} {rs:List (List Nat)} {l:List (List (List Nat) × Rg.S)}:rs.Perm (Rg.zfc (Wr rows) (own owns) s)→Ch rows owns (Rg.minus (Wr rows) s rs.flatten) l→Ch rows owns s ((rs,s)::l)
abbrev zcL (rows:List (List Nat)) (p:List (List Nat) × Rg.S):D:=.lst (p.1.map (za3 (tS rows p.2)))
theorem zgo {s:Rg.S} {rs:List (List Nat)} (hp:rs.Perm (Rg.zfc (Wr rows) (own owns) s)):Rg.Cyc (Wr rows) (own owns) s rs.flatten:=
 Rg.zpL (fun h hh=>by obtain ⟨r,h1,h2⟩:=List.mem_flatten.mp hh; exact ⟨r,hp.mem_iff.mp h1,h2⟩) (fun r hr h hh=>List.mem_flatten.mpr ⟨r,hp.mem_iff.mpr hr,hh⟩)
theorem Snd.minus {s:Rg.S} (S:Snd rows owns s) {C:List Nat} (c:Rg.Cyc (Wr rows) (own owns) s C):Snd rows owns (Rg.minus (Wr rows) s C) where
 ok:=Rg.zrs S.ok c
 inr:=fun h hh=>S.inr h (List.mem_filter.mp hh).1
 ino:=fun h hh=>S.ino h (List.mem_filter.mp hh).1
 wid:=fun h hh=>S.wid h (List.mem_filter.mp hh).1
 nl:=Nat.le_trans (List.length_filter_le _ _) S.nl
 nt:=Nat.le_trans (List.length_filter_le _ _) S.nt
theorem zl6 {s:Rg.S} {C:List Nat} (c:Rg.Cyc (Wr rows) (own owns) s C) (hne:C≠[]):(Rg.minus (Wr rows) s C).line.length < s.line.length:=by
 obtain ⟨x,hx⟩:=List.exists_mem_of_ne_nil _ hne
 have:=Rg.zeJ (fun h=>decide (h∉C)) s.line
 have h3:0 < (s.line.filter fun h=>! decide (h∉C)).length:=List.length_pos_of_mem (List.mem_filter.mpr ⟨c.sub x hx,by simpa using hx⟩)
 show (s.line.filter _).length < _
 omega
theorem zg1 {s:Rg.S} {rs:List (List Nat)} (hp:rs.Perm (Rg.zfc (Wr rows) (own owns) s)) (hne:s.line≠[]):rs.flatten≠[]:=by
 obtain ⟨x,hx⟩:=List.exists_mem_of_ne_nil _ (Rg.zqZ (W:=Wr rows) (O:=own owns) hne)
 obtain ⟨r,h1,h2⟩:=List.mem_flatten.mp hx
 exact List.ne_nil_of_mem (List.mem_flatten.mpr ⟨r,hp.mem_iff.mpr h1,h2⟩)
theorem zrV {kvs:List (Nat × Nat)} {L:List Nat} {t:Nat→Nat} (g:GI t kvs L) (h:Nat):ninD (nD h) (KD kvs)=some (.bl (decide (h∉L))):=by
 show (some (hasK _ (kI h))).map (fun b=>D.bl (! b))=_
 have e:hasK (kvs.map fun p=>(kI p.1,nD p.2)) (kI h)=decide (h∈kvs.map (·.1)):=hasN kvs h
 rw [e]
 have:decide (h∈kvs.map (·.1))=decide (h∈L):=by rw [decide_eq_decide]; exact g.key h
 rw [this]
 show some (D.bl (! decide (h∈L)))=_
 rw [decide_not]
theorem GI.vals {kvs:List (Nat × Nat)} {L:List Nat} {t:Nat→Nat} (g:GI t kvs L) (x:Nat):x∈kvs.map (·.2)↔x∈L.map t:=by
 constructor
 ·intro hx
  obtain ⟨p,h1,rfl⟩:=List.mem_map.mp hx
  exact List.mem_map.mpr ⟨p.1,(g.key _).mp (List.mem_map.mpr ⟨p,h1,rfl⟩),(g.val p h1).symm⟩
 ·intro hx
  obtain ⟨h,h1,rfl⟩:=List.mem_map.mp hx
  obtain ⟨p,h2,rfl⟩:=List.mem_map.mp ((g.key h).mpr h1)
  exact List.mem_map.mpr ⟨p,h2,g.val p h2⟩
theorem zrU {kvs:List (Nat × Nat)} {L:List Nat} {t:Nat→Nat} (g:GI t kvs L) (x:Nat):ninD (nD x) (LN (kvs.map (·.2)))=some (.bl (decide (x∉L.map t))):=by
 rw [zqA,decide_not]
 congr 3
 rw [decide_eq_decide]; exact g.vals x
theorem znV (od:D):∀(j:Nat) (s:Rg.S) (told:List D) (x y z:Option D),Snd rows owns s→s.line.length < j→told.length + s.line.length≤60 →
  ∃(s':Rg.S) (l:List (List (List Nat) × Rg.S)) (x' y' z':Option D),Ch rows owns s l∧l.length≤s.line.length ∧
   zb6 q112 zf4 zf9 j [some (WD rows),some (OD owns),some od,some (LN s.line),some (LN s.things),some (.lst told),x,y,z]
    = .nx [some (WD rows),some (OD owns),some od,some (LN s'.line),some (LN s'.things),some (.lst (told++l.map (zcL rows))),x',y',z']:=by
 intro j
 induction j with
 | zero=>intro s told x y z _ h; omega
 | succ j ih=>
  intro s told x y z S hj ht
  by_cases hne:s.line=[]
  ·refine ⟨s,[],x,y,z,.nil hne,Nat.zero_le _,?_⟩
   rw [List.map_nil,List.append_nil]
   refine zjB (zaP (d:=LN s.line) rfl ?_)
   rw [hne]; rfl
  ·obtain ⟨rs,hp,hr⟩:=zjN S
   have c:=zgo hp
   obtain ⟨kvs,g,hg⟩:=znM (t:=tS rows s) S.nl c.sub
   have hlt:=zl6 c (zg1 hp hne)
   obtain ⟨s',l,x',y',z',h1,h2,h3⟩:=ih (Rg.minus (Wr rows) s rs.flatten) (told++[zcL rows (rs,s)]) (some (zcL rows (rs,s))) (some (KD kvs)) (some (LN (kvs.map (·.2)))) (S.minus c) (by omega) (by simp; omega)
   refine ⟨s',(rs,s)::l,x',y',z',.cons hp h1,by simp; omega,?_⟩
   rw [List.append_assoc] at h3
   rw [List.map_cons]
   refine Eq.trans (zjA (zaP (b:=true) (d:=LN s.line) rfl ?_) ?_) h3
   ·cases q:s.line with
    | nil=>exact absurd q hne
    | cons a t=>rfl
   ·refine (zae (zat (zan (zac (d:=WD rows) rfl (zac (d:=OD owns) rfl (zac (d:=LN s.line) rfl (zac (d:=LN s.things) rfl zai)))) hr))).trans ?_
    refine (zae (zat (zan (zac (d:=.lst (rs.map (za3 (tS rows s)))) rfl zai) hg))).trans ?_
    refine (zae (zat (d:=LN (kvs.map (·.2))) (zsa (a:=KD kvs) rfl ?_))).trans ?_
    ·rw [e_valsD,List.map_map]; show some (D.lst _)=some (D.lst ((kvs.map (·.2)).map nD)); rw [List.map_map]; rfl
    refine (zae (zat (zdN (l:=s.line) nD (fun h=>decide (h∉rs.flatten)) nD rfl (by have:=S.nl; omega) fun h hh=>⟨[some (nD h),some (KD kvs)],rfl,zaJ (zao (a:=nD h) (b:=KD kvs) rfl rfl (zrV g h)),fun _=>rfl⟩))).trans ?_
    refine (zae (zat (zdN (l:=s.things) nD (fun x=>decide (x∉rs.flatten.map (tS rows s))) nD rfl (by have:=S.nt; omega) fun h hh=>⟨[some (nD h),some (LN (kvs.map (·.2)))],rfl,zaJ (zao (a:=nD h) (b:=LN (kvs.map (·.2))) rfl rfl (zrU g h)),fun _=>rfl⟩))).trans ?_
    refine (zae (zg7 (d:=.lst told) (ds:=[zcL rows (rs,s)]) rfl rfl (zac (d:=zcL rows (rs,s)) rfl zai) (zgC (by omega)))).trans ?_
    rfl
def ordD:Option (List Nat)→D
 | none=>.non
 | some l=>LN l
def s0 (rows:List (List Nat)) (o:Option (List Nat)):Rg.S:=⟨o.getD (List.range rows.length),List.range (rows.headD []).length⟩
theorem zi7 {o:Option (List Nat)} (ho:∀l,o=some l→l.Nodup∧(∀k∈l,k < rows.length)∧l.length=rows.length) (h8:rows.length≤60):zbM [WD rows,ordD o]=.ok (LN (s0 rows o).line):=by
 cases o with
 | none=>exact zfP (by omega)
 | some l=>
  obtain ⟨h1,h2,h3⟩:=ho l rfl
  exact zjP h1 h2 h3 (by omega)
theorem zi5 {o:Option (List Nat)} (ho:∀l,o=some l→l.Nodup∧(∀k∈l,k < rows.length)∧l.length=rows.length) (hr:rows≠[]) (h8:rows.length≤60) (S:Snd rows owns (s0 rows o)) :
  ∃l,Ch rows owns (s0 rows o) l∧l.length≤60∧zcY [WD rows,OD owns,ordD o]=.ok (.lst (l.map (zcL rows))):=by
 obtain ⟨s',l,x',y',z',h1,h2,h3⟩:=znV (rows:=rows) (owns:=owns) (ordD o) 64 (s0 rows o) [] none none none S (by have:=S.nl; omega) (by have:=S.nl; simp; omega)
 refine ⟨l,h1,by have:=S.nl; omega,zaH (B:=zel) (n:=9) ?_⟩
 unfold zel
 cases rows with
 | nil=>exact absurd rfl hr
 | cons row rest=>
  refine (zae (zat (zan (zac (d:=WD (row::rest)) rfl (zac (d:=ordD o) rfl zai)) (zi7 ho h8)))).trans ?_
  refine (zae (zat (d:=LN (s0 (row::rest) o).things) (zbf (zac (zan (zac (d:=WD (row::rest)) rfl zai) zeo) zai) (zks (by have:=S.nt; unfold s0 at this; simp at this; omega))))).trans ?_
  refine (zae (zat (d:=.lst []) (zfl zai (by simp)))).trans ?_
  refine (zae h3).trans ?_
  exact zap (zay (d:=.lst (l.map (zcL (row::rest)))) rfl)
end
end Law
end
section
namespace Law
open PySem L2 DL
theorem zeH {a b:Nat} (h:0 < b):modI (nD a) (nD b)=some (nD (a % b)):=by
 rw [zkr (by omega:(0:Int) < (b:Int))]
 show some (D.int _)=some (D.int _)
 rw [Int.natCast_emod]
theorem zes {a b:Nat} (h:0 < b) (h2:b < 1000):zdz (nD a) (nD b)=some (nD (a / b)):=by
 rw [zmp (⟨by omega,by omega⟩:CDiv (a:Int) (b:Int))]
 show some (D.int _)=some (D.int _)
 rw [Int.natCast_ediv]
theorem zfD (a b:Nat):addA (nD a) (nD b)=some (nD (a + b)):=by
 rw [addA_int]
 show some (D.int _)=some (D.int _)
 rw [Int.natCast_add]
section
variable {f f':FE} {r:Rho}
theorem zjq {b:Int} (h:∃i:Int,f r=.ok (.int i)) (h':f' r=.ok (.int b)) (hb:0 < b):∃c:Nat,f2 f f' modI r=.ok (nD c):=by
 obtain ⟨i,hi⟩:=h
 refine ⟨(i % b).toNat,zao hi h' ?_⟩
 rw [zkr hb]
 show some (D.int _)=some (D.int _)
 rw [Int.toNat_of_nonneg (Int.emod_nonneg _ (by omega))]
theorem exN (h:∃c:Nat,f r=.ok (nD c)):∃i:Int,f r=.ok (.int i):=let ⟨c,e⟩:=h; ⟨c,e⟩
theorem zfw {b:Int} (h:∃i:Int,f r=.ok (.int i)) (h':f' r=.ok (.int b)) (hb : -(2 ^ 64) < b∧b < 2 ^ 64):∃i:Int,f2 f f' mulI r=.ok (.int i):=by
 obtain ⟨i,hi⟩:=h
 exact ⟨i * b,zao hi h' (zko (.inr hb))⟩
theorem zmq (h:∃i:Int,f r=.ok (.int i)) (h':∃i:Int,f' r=.ok (.int i)):∃i:Int,f2 f f' addA r=.ok (.int i):=by
 obtain ⟨i,hi⟩:=h
 obtain ⟨j,hj⟩:=h'
 exact ⟨i + j,zao hi hj rfl⟩
end
theorem zra {m:List Md} {i:Nat} {f:FE} {s2:FS} {r:Rho} (h:∃c:Nat,f r=.ok (nD c)) (k:∀c:Nat,∃d:Nat,s2 (r.set i (some (nD c)))=.rt (nD d)):∃d:Nat,seqF (setF m i f) s2 r=.rt (nD d):=by
 obtain ⟨c,hc⟩:=h
 obtain ⟨d,hd⟩:=k c
 exact ⟨d,(zae (zat hc)).trans hd⟩
abbrev IN (ns:List Int):D:=.lst (ns.map .int)
theorem zd4 (ns:List Int) (k:Nat) (hk:k≤1000):∃c:Nat,zaM [IN ns,nD k]=.ok (nD c):=by
 suffices h:∃c:Nat,zch (zaq 4 [IN ns,nD k])=.rt (nD c) by
  obtain ⟨c,hc⟩:=h
  exact ⟨c,zaH (B:=zch) (n:=4) hc⟩
 unfold zch
 have st:seqF (setF q102 2 (ci 0))=seqF (setF q102 2 (fun _=>Res.ok (nD 0))):=rfl
 rw [st]
 refine zra ⟨0,rfl⟩ fun c1=>?_
 show ∃d:Nat,seqF _ _ [some (IN ns),some (nD k),some (nD c1),none]=_
 have key:∃c2:Nat,(ifF q102 (zaU (f2 (gv 1) (fC (zab (gv 0) lNil) lenD) ltI)) (seqF (setF q102 2 (f2 (f2 (gv 0) (gv 1) ixA) (f2 (ci 10) (ci 60) powI) modI)) zam) zam) [some (IN ns),some (nD k),some (nD c1),none]=.nx [some (IN ns),some (nD k),some (nD c2),none]:=by
  have t:=zaJ (zao (f:=gv 1) (r:=[some (IN ns),some (nD k),some (nD c1),none]) (a:=nD k) rfl (zbf (zac (f:=gv 0) (d:=IN ns) rfl zai) (zcP _ _)) (zl8 k ns.length))
  by_cases hlt:k < ns.length
  ·rw [decide_eq_true hlt] at t
   have hx:(ns.map D.int)[k]? = some (.int ns[k]):=by rw [List.getElem?_map,List.getElem?_eq_getElem hlt]; rfl
   have hp:powI (.int 10) (.int 60)=some (.int (10 ^ 60)):=by
    show zhd CPow _ _ _=_
    rw [intsC_int,if_pos (by unfold CPow; decide)]
    rfl
   obtain ⟨c2,h2⟩:=zjq (f:=f2 (gv 0) (gv 1) ixA) (f':=f2 (ci 10) (ci 60) powI) (r:=[some (IN ns),some (nD k),some (nD c1),none]) ⟨ns[k],zao (a:=IN ns) (b:=nD k) rfl rfl (zoB hx)⟩ (zao rfl rfl hp) (by decide)
   exact ⟨c2,(if_t t).trans ((zae (zat h2)).trans rfl)⟩
  ·rw [decide_eq_false hlt] at t
   exact ⟨c1,(if_f t).trans rfl⟩
 obtain ⟨c2,h2⟩:=key
 rw [zae h2]
 have kq:∃b,(fAnd (zaU (f2 (fC (zab (gv 0) lNil) lenD) (ci 0) gtI)) (zaU (f2 (f2 (f2 (gv 0) (ci 0) ixA) (ci 2) modI) (ci 0) eqD))) [some (IN ns),some (nD k),some (nD c2),none]=.ok b:=by
  have t:=zaJ (zao (f:=fC (zab (gv 0) lNil) lenD) (f':=fun _=>Res.ok (D.int 0)) (r:=[some (IN ns),some (nD k),some (nD c2),none]) (b:=nD 0) (zbf (zac (d:=IN ns) rfl zai) (zcP _ _)) rfl (zoG ns.length 0))
  cases ns with
  | nil=>exact ⟨false,zrl t⟩
  | cons a ns=>
   rw [decide_eq_true (by simp)] at t
   obtain ⟨c3,h3⟩:=zjq (f:=f2 (gv 0) (ci 0) ixA) (f':=fun _=>Res.ok (D.int 2)) (r:=[some (IN (a::ns)),some (nD k),some (nD c2),none]) ⟨a,zao (a:=IN (a::ns)) (b:=.int 0) rfl rfl (ixA_L0 _ _)⟩ rfl (by decide)
   exact ⟨_,(zo3 t).trans (zaJ (zao h3 (b:=nD 0) rfl (zfU c3 0)))⟩
 obtain ⟨b,hb⟩:=kq
 cases b with
 | true=>exact ⟨c2,zap ((if_t hb).trans (zap (zay (d:=nD c2) rfl)))⟩
 | false=>
  rw [zae ((if_f (s2:=zam) hb).trans (e_skip _))]
  refine zra (zjq (zfw (exN (zjq (zfw (zmq (zmq (zmq ⟨(c2:Int),rfl⟩ (zfw (b:=(k:Int)) (zfw (b:=(k:Int)) ⟨7,rfl⟩ rfl (by omega)) rfl (by omega))) (zfw (b:=(k:Int)) ⟨13,rfl⟩ rfl (by omega))) ⟨5,rfl⟩) rfl (by decide)) rfl (by decide))) rfl (by decide)) rfl (by decide)) fun c3=>?_
  obtain ⟨c4,h4⟩:=zjq (f:=(f2 (f2 (f2 (f2 (gv 3) (ci 1) addA) (ci 40692) mulI) (ci 2147483629) modI) (ci 39373) mulI)) (f':=fun _=>Res.ok (D.int 999999937)) (r:=[some (IN ns),some (nD k),some (nD c2),some (nD c3)]) (zfw (exN (zjq (zfw (zmq ⟨(c3:Int),rfl⟩ ⟨1,rfl⟩) rfl (by decide)) rfl (by decide))) rfl (by decide)) rfl (by decide)
  exact ⟨c4,zap (zay h4)⟩
theorem zmh {row:List Nat} {i:Int} {x:Nat}:insL (row.map nD) i (nD x)=(insL row i x).map nD:=by
 unfold insL
 rw [List.length_map,List.map_append,List.map_cons,List.map_take,List.map_drop]
theorem zkH {row:List Nat} {i:Int} {x:Nat}:(insL row i x).Perm (x::row):=by
 unfold insL
 refine List.perm_middle.trans ?_
 rw [List.take_append_drop]
theorem zii (m:Nat):∀(j i c:Nat) (row:List Nat) (x:Option D),row.Perm (List.range i)→i + j≤60 →
  ∃(c':Nat) (row':List Nat) (x':Option D),row'.Perm (List.range (i + j))∧forF (ftN 3) zeM ((List.range' i j).map nD) [some (nD c),some (nD m),some (LN row),x]=.nx [some (nD c'),some (nD m),some (LN row'),x']
 | 0,i,c,row,x,hp,_=>⟨c,row,x,hp,zbX⟩
 | j + 1,i,c,row,x,hp,hl=>by
  have hlen:row.length=i:=by rw [hp.length_eq]; simp
  obtain ⟨c',row',x',h1,h2⟩:=zii m j (i + 1) (c / (i + 1)) (insL row ((c % (i + 1):Nat):Int) i) (some (nD i)) (by
   refine zkH.trans ?_
   rw [List.range_succ]
   exact (List.Perm.cons i hp).trans (List.perm_append_singleton i _).symm) (by omega)
  refine ⟨c',row',x',by rw [show i + (j + 1)=i + 1 + j by omega]; exact h1,?_⟩
  rw [←h2]
  have hmod:c % (i + 1) < i + 1:=Nat.mod_lt _ (by omega)
  refine zcs (r1:=[some (nD c),some (nD m),some (LN row),some (nD i)]) rfl ?_
  refine (zae (zg7 (d:=LN row) (ds:=[nD (c % (i + 1)),nD i]) (d':=LN (insL row ((c % (i + 1):Nat):Int) i)) rfl rfl (zac (zao (a:=nD c) (b:=nD (i + 1)) rfl (zao (a:=nD i) (b:=nD 1) rfl rfl (zfD i 1)) (zeH (by omega))) (zac (d:=nD i) rfl zai)) ?_)).trans ?_
  ·show (if _ then some (D.lst (insL _ _ _)) else none)=_
   rw [if_pos ⟨by rw [List.length_map,sizeLine_eq]; omega,by omega,by omega⟩,zmh]
  ·exact zae (zat (d:=nD (c / (i + 1))) (zao (a:=nD c) (b:=nD (i + 1)) rfl (zao (a:=nD i) (b:=nD 1) rfl rfl (zfD i 1)) (zes (by omega) (by omega))))
theorem zhJ (c m:Nat) (hm:m≤60):∃row:List Nat,row.Perm (List.range m)∧zbl [nD c,nD m]=.ok (TN row):=by
 obtain ⟨c',row',x',h1,h2⟩:=zii m m 0 c [] none (by simp) (by omega)
 rw [Nat.zero_add] at h1
 rw [←List.range_eq_range'] at h2
 refine ⟨row',h1,zaH (B:=zdw) (n:=4) ?_⟩
 unfold zdw
 refine (zae (zat (d:=LN []) (zfl zai (by simp)))).trans ?_
 refine (zae ((zbI (ds:=(List.range m).map nD) (zhZ (zac (d:=nD m) rfl zai) (zjS (by omega)))).trans h2)).trans ?_
 exact zap (zay (zbf (zac (d:=LN row') rfl zai) rfl))
end Law
end
section
namespace Law
open PySem L2 DL
theorem zi4 (ns:List Int) (at' n m:Nat) (ha:at'≤60) (hn:n≤60) (hm:m≤60):∃rows:List (List Nat),rows.length=n∧(∀row∈rows,row.Perm (List.range m))∧zb1 [IN ns,nD at',nD n,nD m]=.ok (WD rows):=by
 have h:∀h:Nat,∃row:List Nat,h≤60→row.Perm (List.range m)∧∃c:Nat,zaM [IN ns,nD (at' + h)]=.ok (nD c)∧zbl [nD c,nD m]=.ok (TN row):=by
  intro h
  by_cases hh:h≤60
  ·obtain ⟨c,hc⟩:=zd4 ns (at' + h) (by omega)
   obtain ⟨row,h1,h2⟩:=zhJ c m hm
   exact ⟨row,fun _=>⟨h1,c,hc,h2⟩⟩
  ·exact ⟨[],fun z=>absurd z hh⟩
 obtain ⟨g,hg⟩:=Classical.axiomOfChoice h
 refine ⟨(List.range n).map g,by simp,fun row hr=>?_,zaH (B:=zb3) (n:=4) ?_⟩
 ·obtain ⟨i,hi,rfl⟩:=List.mem_map.mp hr
  exact (hg i (by have:=List.mem_range.mp hi; omega)).1
 ·unfold zb3
  refine zap (zay (zbf (zac (zdN (l:=List.range n) nD (fun _=>true) (fun h=>TN (g h)) (zhZ (zac (d:=nD n) rfl zai) (zjS (by omega))) (by simp; omega) fun h hh=>⟨[some (nD h),some (nD m),some (IN ns),some (nD at')],rfl,rfl,fun _=>?_⟩) zai) ?_))
  ·obtain ⟨_,c,h1,h2⟩:=hg h (by have:=List.mem_range.mp hh; omega)
   exact zan (zac (zan (zac (d:=IN ns) rfl (zac (zao (a:=nD at') (b:=nD h) rfl rfl (zfD at' h)) zai)) h1) (zac (d:=nD m) rfl zai)) h2
  ·rw [zfv,e_tupL]
   show some (D.tup _)=some (D.tup _)
   rw [List.map_map]; rfl
end Law
end
section
namespace Law
open PySem L2 DL
structure Own (owns:List (Option Nat)) (m:Nat):Prop where
 lt:∀x,some x∈owns→x < m
 inj:∀h k x,own owns h=some x→own owns k=some x→h=k
theorem zfi {owns:List (Option Nat)} {h x:Nat} (e:own owns h=some x):some x∈owns∧h < owns.length:=by
 unfold own at e
 cases q:owns[h]? with
 | none=>rw [q] at e; cases e
 | some o=>
  rw [q] at e
  have:o=some x:=e
  subst this
  exact ⟨List.mem_of_getElem? q,(List.getElem?_eq_some_iff.mp q).1⟩
theorem zkc {owns:List (Option Nat)} {o:Option Nat} {h:Nat}:own (owns++[o]) h=if h < owns.length then own owns h else if h=owns.length then o else none:=by
 unfold own
 by_cases q:h < owns.length
 ·rw [if_pos q,List.getElem?_append_left q]
 ·rw [if_neg q,List.getElem?_append_right (by omega)]
  by_cases z:h=owns.length
  ·subst z; simp
  ·rw [if_neg z,List.getElem?_eq_none (by simp; omega)]; rfl
theorem Own.app_none {owns:List (Option Nat)} {m:Nat} (w:Own owns m):Own (owns++[none]) m where
 lt:=fun x hx=>w.lt x (by simpa using hx)
 inj:=fun h k x h1 h2=>by
  rw [zkc] at h1 h2
  have f:∀h,(if h < owns.length then own owns h else if h=owns.length then none else none)=some x→own owns h=some x:=by
   intro h e
   split at e
   ·exact e
   ·split at e <;> cases e
  exact w.inj h k x (f h h1) (f k h2)
theorem Own.app_some {owns:List (Option Nat)} {m t:Nat} (w:Own owns m) (ht:t < m) (hn:some t∉owns):Own (owns++[some t]) m where
 lt:=fun x hx=>by
  rcases List.mem_append.mp hx with z | z
  ·exact w.lt x z
  ·simp at z; omega
 inj:=fun h k x h1 h2=>by
  rw [zkc] at h1 h2
  split at h1 <;> split at h2
  ·exact w.inj h k x h1 h2
  ·split at h2
   ·cases h2; exact absurd (zfi h1).1 hn
   ·cases h2
  ·split at h1
   ·cases h1; exact absurd (zfi h2).1 hn
   ·cases h1
  ·split at h1
   ·split at h2
    ·omega
    ·cases h2
   ·cases h1
theorem anyO (l:List (Option Nat)) (k:Nat):(l.map oD).any (fun y=>eqs y (nD k))=decide (some k∈l):=by
 rw [List.any_map,Bool.eq_iff_iff,List.any_eq_true,decide_eq_true_iff]
 constructor
 ·rintro ⟨x,h1,h2⟩
  cases x with
  | none=>cases h2
  | some x=>
   have:(((x:Nat):Int) == (k:Int))=true:=h2
   have:=Int.ofNat_inj.mp (eq_of_beq this)
   subst this; exact h1
 ·intro h
  exact ⟨some k,h,by show (((k:Nat):Int) == (k:Int))=true; simp⟩
theorem zr8 (l:List (Option Nat)):(l.map oD).all za5=true:=by
 rw [List.all_eq_true]
 intro x hx
 obtain ⟨k,_,rfl⟩:=List.mem_map.mp hx
 cases k <;> rfl
theorem zr3 (l:List (Option Nat)) (k:Nat):inD (nD k) (.lst (l.map oD))=some (.bl (decide (some k∈l))):=by
 show (if za5 (nD k)=true∧(l.map oD).all za5=true then some ((l.map oD).any fun y=>eqs y (nD k)) else none).map D.bl=_
 rw [if_pos ⟨rfl,zr8 l⟩,anyO]; rfl
structure Scene (rows:List (List Nat)) (owns:List (Option Nat)) (o:Option (List Nat)) (n m:Nat):Prop where
 n1:1≤n
 n7:n≤7
 nm:n≤m
 m8:m≤8
 rl:rows.length=n
 rp:∀row∈rows,row.Perm (List.range m)
 ow:Own owns m
 ol:owns.length=n
 op:∀l,o=some l→l.Perm (List.range n)
end Law
end
section
namespace Law
open PySem L2 DL
theorem zkd (n m:Nat) (hm:m≤60):∀(l:List Nat) (c:Nat) (owns:List (Option Nat)) (x y:Option D),Own owns m→owns.length + l.length≤60 →
  ∃(c':Nat) (owns':List (Option Nat)) (x' y':Option D),Own owns' m∧owns'.length=owns.length + l.length∧forF (ftN 4) zcX (l.map nD) [some (nD c),some (nD n),some (nD m),some (.lst (owns.map oD)),x,y]=.nx [some (nD c'),some (nD n),some (nD m),some (.lst (owns'.map oD)),x',y']
 | [],c,owns,x,y,w,_=>⟨c,owns,x,y,w,rfl,zbX⟩
 | h::l,c,owns,x,y,w,hl=>by
  have hmod:c % (m + 1) < m + 1:=Nat.mod_lt _ (by omega)
  have step:∃o,Own (owns++[o]) m∧zcX [some (nD c),some (nD n),some (nD m),some (.lst (owns.map oD)),some (nD h),y]=.nx [some (nD (c / (m + 1))),some (nD n),some (nD m),some (.lst ((owns++[o]).map oD)),some (nD h),some (nD (c % (m + 1)))]:=by
   have t1:=zaJ (zao (f:=gv 5) (f':=gv 2) (r:=[some (nD (c / (m + 1))),some (nD n),some (nD m),some (.lst (owns.map oD)),some (nD h),some (nD (c % (m + 1)))]) (a:=nD (c % (m + 1))) (b:=nD m) rfl rfl (zfU (c % (m + 1)) m))
   have t2:=zaJ (zao (f:=gv 5) (f':=gv 3) (r:=[some (nD (c / (m + 1))),some (nD n),some (nD m),some (.lst (owns.map oD)),some (nD h),some (nD (c % (m + 1)))]) (a:=nD (c % (m + 1))) (b:=.lst (owns.map oD)) rfl rfl (zr3 owns (c % (m + 1))))
   have pre:∀s2:FS,seqF (setF q104 5 (f2 (gv 0) (f2 (gv 2) (ci 1) addA) modI)) (seqF (setF q104 0 (f2 (gv 0) (f2 (gv 2) (ci 1) addA) zdz)) s2) [some (nD c),some (nD n),some (nD m),some (.lst (owns.map oD)),some (nD h),y]=s2 [some (nD (c / (m + 1))),some (nD n),some (nD m),some (.lst (owns.map oD)),some (nD h),some (nD (c % (m + 1)))]:=by
    intro s2
    refine (zae (zat (d:=nD (c % (m + 1))) (zao (a:=nD c) (b:=nD (m + 1)) rfl (zao (a:=nD m) (b:=nD 1) rfl rfl (zfD m 1)) (zeH (by omega))))).trans ?_
    exact zae (zat (d:=nD (c / (m + 1))) (zao (a:=nD c) (b:=nD (m + 1)) rfl (zao (a:=nD m) (b:=nD 1) rfl rfl (zfD m 1)) (zes (by omega) (by omega))))
   have hlo:(owns.map oD).length≤1000:=by rw [List.length_map]; omega
   by_cases q:c % (m + 1)=m∨some (c % (m + 1))∈owns
   ·refine ⟨none,w.app_none,(pre _).trans ((zae ((if_t ?_).trans (zae (zg7 (d:=.lst (owns.map oD)) (ds:=[.non]) rfl rfl (zac (d:=.non) rfl zai) (zgC hlo))))).trans ?_)⟩
    ·by_cases z:c % (m + 1)=m
     ·rw [decide_eq_true z] at t1; exact or_t t1
     ·rw [decide_eq_false z] at t1
      rw [decide_eq_true (q.resolve_left z)] at t2
      exact (or_f t1).trans t2
    ·show Out.nx [_,_,_,some (D.lst (owns.map oD++[.non])),_,_]=_
     rw [List.map_append]; rfl
   ·have z1:¬ c % (m + 1)=m:=fun z=>q (.inl z)
    have z2:some (c % (m + 1))∉owns:=fun z=>q (.inr z)
    rw [decide_eq_false z1] at t1
    rw [decide_eq_false z2] at t2
    refine ⟨some (c % (m + 1)),w.app_some (by omega) z2,(pre _).trans ((zae ((if_f ((or_f t1).trans t2)).trans (zae (zg7 (d:=.lst (owns.map oD)) (ds:=[nD (c % (m + 1))]) rfl rfl (zac (d:=nD (c % (m + 1))) rfl zai) (zgC hlo))))).trans ?_)⟩
    show Out.nx [_,_,_,some (D.lst (owns.map oD++[nD (c % (m + 1))])),_,_]=_
    rw [List.map_append]; rfl
  obtain ⟨o,w',hs⟩:=step
  obtain ⟨c',owns',x',y',h1,h2,h3⟩:=zkd n m hm l (c / (m + 1)) (owns++[o]) (some (nD h)) (some (nD (c % (m + 1)))) w' (by simp at hl ⊢; omega)
  refine ⟨c',owns',x',y',h1,by rw [h2]; simp; omega,?_⟩
  rw [←h3]
  exact zcs (r1:=[some (nD c),some (nD n),some (nD m),some (.lst (owns.map oD)),some (nD h),y]) rfl hs
theorem zlD (c n m:Nat) (hn:n≤60) (hm:m≤60):∃owns:List (Option Nat),Own owns m∧owns.length=n∧zc1 [nD c,nD n,nD m]=.ok (OD owns):=by
 obtain ⟨c',owns',x',y',h1,h2,h3⟩:=zkd n m hm (List.range n) c [] none none ⟨fun x hx=>(nomatch hx),fun h k x e=>by unfold own at e; simp at e⟩ (by simp; omega)
 refine ⟨owns',h1,by rw [h2]; simp,zaH (B:=zc7) (n:=6) ?_⟩
 unfold zc7
 refine (zae (zat (d:=.lst []) (zfl zai (by simp)))).trans ?_
 refine (zae ((zbI (ds:=(List.range n).map nD) (zhZ (zac (d:=nD n) rfl zai) (zjS (by omega)))).trans h3)).trans ?_
 exact zap (zay (zbf (zac (d:=.lst (owns'.map oD)) rfl zai) rfl))
end Law
end
section
namespace Law
open PySem PyProof.Rows L2 DL
theorem zsb (a b:Nat):eqs (nD a) (nD b)=decide (a=b):=by
 show (((a:Nat):Int) == (b:Int))=_
 rw [Bool.eq_iff_iff,beq_iff_eq,decide_eq_true_iff]; exact Int.ofNat_inj
theorem zkN (k:Nat):∀l:List Nat,k∈l→zea (nD k) (l.map nD)=some (l.idxOf k)
 | [],h=>by cases h
 | a::l,h=>by
  show (if eqs (nD a) (nD k)=true then some 0 else (zea (nD k) (l.map nD)).map (· + 1))=_
  rw [zsb]
  by_cases e:a=k
  ·rw [if_pos (by simpa using e)]; subst e; simp
  ·rw [if_neg (by simpa using e),zkN k l ((List.mem_cons.mp h).resolve_left fun z=>e z.symm)]
   have hf:(a == k)=false:=by simpa using e
   rw [List.idxOf_cons,hf]; rfl
theorem ziB {k:Nat} {l:List Nat} (h:k∈l):zdL (TN l) [nD k]=some (nD (l.idxOf k)):=by
 show (if za5 (nD k)=true∧(l.map nD).all za5=true then (zea (nD k) (l.map nD)).map fun j=>D.int j else none)=_
 rw [if_pos ⟨rfl,zoN l⟩,zkN k l h]; rfl
theorem zoO {T:String} {fo:FE} {fl:Rho→Res (List D)} {k:D→List D→Option D} {r:Rho} {d d':D} {ds:List D} (h1:fo r=.ok d) (ht:tyM T d=true) (h2:fl r=.ok ds) (h3:k d ds=some d'):fM T fo fl k r=.ok d':=by
 unfold fM; rw [h1,bind_ok,if_pos ht,h2,bind_ok,h3]; rfl
section
variable {a:Nat→Nat} {n:Nat}
end
end Law
end
section
namespace Law
open PySem PyProof.Rows L2 DL
section
variable {rows:List (List Nat)} {owns:List (Option Nat)} {o:Option (List Nat)} {n m:Nat}
theorem Scene.ne (S:Scene rows owns o n m):rows≠[]:=by
 rintro rfl
 have:=S.rl; have:=S.n1
 simp at *; omega
theorem Scene.row (S:Scene rows owns o n m) {h:Nat} (hh:h < n):(Wr rows h).Perm (List.range m):=by
 unfold Wr
 rw [List.getElem?_eq_getElem (by rw [S.rl]; exact hh)]
 exact S.rp _ (List.getElem_mem _)
theorem Scene.row0 (S:Scene rows owns o n m):(rows.headD []).length=m:=by
 cases rows with
 | nil=>exact absurd rfl S.ne
 | cons r t=>rw [List.headD_cons,(S.rp r List.mem_cons_self).length_eq]; simp
theorem Scene.line_perm (S:Scene rows owns o n m):(s0 rows o).line.Perm (List.range n):=by
 unfold s0
 cases o with
 | none=>rw [S.rl]; exact List.Perm.refl _
 | some l=>exact S.op l rfl
theorem Scene.mem (S:Scene rows owns o n m) {h:Nat}:h∈(s0 rows o).line↔h < n:=by
 rw [S.line_perm.mem_iff]; exact List.mem_range
theorem Scene.things (S:Scene rows owns o n m):(s0 rows o).things=List.range m:=by
 unfold s0; rw [S.row0]
theorem Scene.ok (S:Scene rows owns o n m):Rg.Ok (Wr rows) (own owns) (s0 rows o) where
 nl:=S.line_perm.nodup_iff.mpr List.nodup_range
 nt:=by rw [S.things]; exact List.nodup_range
 le:=by
  rw [S.things,S.line_perm.length_eq]
  simp; exact S.nm
 row:=fun h hh x hx=>by
  rw [S.things] at hx
  exact (S.row (S.mem.mp hh)).mem_iff.mpr hx
 inj:=S.ow.inj
 own:=fun h hh x hx=>by rw [S.things]; exact List.mem_range.mpr (S.ow.lt x (zfi hx).1)
theorem Scene.snd (S:Scene rows owns o n m):Snd rows owns (s0 rows o) where
 ok:=S.ok
 inr:=fun h hh=>by rw [S.rl]; exact S.mem.mp hh
 ino:=fun h hh=>by rw [S.ol]; exact S.mem.mp hh
 wid:=fun h hh=>by
  have:=(S.row (S.mem.mp hh)).length_eq
  have:=S.m8
  simp at *; omega
 nl:=by
  have:=S.line_perm.length_eq
  have:=S.n7
  simp at *; omega
 nt:=by
  rw [S.things]
  have:=S.m8
  simp; omega
theorem Scene.ord (S:Scene rows owns o n m):∀l,o=some l→l.Nodup∧(∀k∈l,k < rows.length)∧l.length=rows.length:=by
 intro l hl
 have p:=S.op l hl
 refine ⟨p.nodup_iff.mpr List.nodup_range,fun k hk=>?_,?_⟩
 ·rw [S.rl]; exact List.mem_range.mp (p.mem_iff.mp hk)
 ·rw [p.length_eq,S.rl]; simp
end
end Law
end
section
namespace Law
open PySem PyProof.Rows L2 DL
theorem zhn:∀l l':List Nat,PyData.eqvAll (zdV (l.map nD)) (zdV (l'.map nD))=decide (l=l')
 | [],[]=>by simp [zdV,PyData.eqvAll]
 | [],k::l=>by simp [zdV,PyData.eqvAll]
 | k::l,[]=>by simp [zdV,PyData.eqvAll]
 | k::l,k'::l'=>by
  have ih:=zhn l l'
  simp only [List.map_cons,zdV,toPy,PyData.eqvAll,PyData.eqv,ih]
  rw [Bool.eq_iff_iff]
  simp
  omega
theorem zpt {l:List Nat} {k:Nat}:∀d∈l.map nD,Shp k d:=by
 intro d hd
 obtain ⟨x,_,rfl⟩:=List.mem_map.mp hd
 cases k <;> trivial
theorem zrc (l l':List Nat):eqB (LN l) (LN l')=some (decide (l=l')):=by
 rw [zmr rfl (zgh.mpr zpt) (zgh.mpr zpt)]
 unfold eqb
 simp only [toPy,PyData.eqv,zhn]
theorem zni (l l':List Nat):eqD (LN l) (LN l')=some (.bl (decide (l=l'))):=by unfold eqD; rw [zrc]; rfl
theorem zgp {f:FE} {r:Rho} {i:Int} (h:f r=.ok (.int i)):zhk f r=.ok (some i):=by unfold zhk; rw [h]; rfl
theorem zeX {nl:Nat} {cap:List Nat} {fi:FI} {ft:FT} {fe:FE} {r:Rho} {α:Type} {l:List α} (e:α→D) (g:α→D) (h1:fi r=.ok (l.map e)) (hl:l.length≤1000)
  (h:∀a∈l,∃r1,ft (e a) (capR nl cap r)=some r1∧fe r1=.ok (g a)):zca nl cap fi ft (fun _=>Res.ok true) fe r=.ok (.lst (l.map g)):=by
 have:=zdN (q:=fun _=>Res.ok true) e (fun _=>true) g h1 hl fun a ha=>by
  obtain ⟨r1,q1,q2⟩:=h a ha
  exact ⟨r1,q1,rfl,fun _=>q2⟩
 rw [this,zfv]
end Law
end
section
namespace Law
open PySem L2 DL
theorem zid {fa:FE} {fl fh:FP} {r:Rho} {d d':D} {lo hi:Option Int} (h1:fa r=.ok d) (h2:fl r=.ok lo) (h3:fh r=.ok hi) (h4:slA d lo hi=some d'):fSlA fa fl fh r=.ok d':=by
 unfold fSlA; rw [h1,bind_ok,h2,bind_ok,h3,bind_ok,h4]; rfl
theorem zjI {l:List D} {i:Nat} (h:i≤l.length):slA (.lst l) (some (i:Int)) none=some (.lst (l.drop i)):=by
 show some (D.lst (cutL l (some (i:Int)) none))=_
 unfold cutL
 rw [HT.sIx_nat,HT.sIx_none,Nat.min_eq_left h]
 rw [List.take_of_length_le (by simp)]
theorem znA (l:List D) (i:Nat):slA (.lst l) none (some (i:Int))=some (.lst (l.take i)):=by
 show some (D.lst (cutL l none (some (i:Int))))=_
 unfold cutL
 rw [HT.sIx_nat,HT.sIx_none,List.drop_zero,Nat.sub_zero]
 rw [List.take_eq_take_iff.mpr (by omega:min (min i l.length) l.length=min i l.length)]
theorem zjH (l:List D) (i:Nat):slA (.tup l) none (some (i:Int))=some (.tup (l.take i)):=by
 show some (D.tup (cutL l none (some (i:Int))))=_
 unfold cutL
 rw [HT.sIx_nat,HT.sIx_none,List.drop_zero,Nat.sub_zero]
 rw [List.take_eq_take_iff.mpr (by omega:min (min i l.length) l.length=min i l.length)]
theorem zrm {a b:List Nat} (h:a.length + b.length≤1000):addE (LN a) (LN b)=some (LN (a++b)):=by
 show addA (LN a) (LN b)=_
 show (if (a.map nD).length + (b.map nD).length≤sizeLine then some (D.lst (a.map nD++b.map nD)) else none)=_
 rw [if_pos (by rw [List.length_map,List.length_map,sizeLine_eq]; omega),←List.map_append]
abbrev rot1 (l:List Nat):List Nat:=l.drop 1++l.take 1
theorem zfX {l:List Nat} (h1:1≤l.length) (hl:l.length≤900):zb0 [LN l]=.ok (LN (rot1 l)):=by
 refine zaH (B:=zb2) (n:=1) ?_
 unfold zb2
 exact zap (zay (zao (zid (d:=LN l) rfl (zgp (i:=((1:Nat):Int)) rfl) rfl (d':=LN (l.drop 1)) (by rw [zjI (by simpa using h1),←List.map_drop])) (zid (d:=LN l) rfl rfl (zgp (i:=((1:Nat):Int)) rfl) (d':=LN (l.take 1)) (by rw [znA,←List.map_take])) (zrm (by simp; omega))))
theorem ziQ:∀l:List Nat,zdH (l.map nD)=some (l.map fun k:Nat=>(k:Int))
 | []=>rfl
 | k::l=>by
  show (zdH (l.map nD)).map _=_
  rw [ziQ l]; rfl
theorem znK {l:List Nat} (h:l≠[]):∃k∈l,(∀x∈l,k≤x)∧zhS [LN l]=some (nD k):=by
 cases l with
 | nil=>exact absurd rfl h
 | cons a l=>
  have e:zhS [LN (a::l)]=some (.int (minZ ((a::l).map fun k:Nat=>(k:Int)))):=by
   show (zdH ((a::l).map nD)).map _=_
   rw [ziQ]; rfl
  have hm:=zl7 (ks:=(a::l).map fun k:Nat=>(k:Int)) (by simp)
  obtain ⟨k,k1,k2⟩:=List.mem_map.mp hm
  refine ⟨k,k1,fun x hx=>?_,by rw [e,←k2]⟩
  have:=zot (ks:=(a::l).map fun k:Nat=>(k:Int)) (List.mem_map.mpr ⟨x,hx,rfl⟩)
  rw [←k2] at this
  exact Int.ofNat_le.mp this
theorem znO {A:List Nat} {i j:Nat} (hi:i≤A.length) (hj:j < A.length):(A.drop i++A.take i)[j]? = A[(i + j) % A.length]?:=by
 by_cases h:j < A.length - i
 ·rw [List.getElem?_append_left (by rw [List.length_drop]; exact h),List.getElem?_drop,Nat.mod_eq_of_lt (by omega)]
 ·rw [List.getElem?_append_right (by rw [List.length_drop]; omega),List.length_drop,List.getElem?_take,if_pos (by omega)]
  congr 1
  have:i + j=(i + j - A.length) + A.length:=by omega
  rw [this,Nat.add_mod_right,Nat.mod_eq_of_lt (by omega)]
  omega
end Law
end
section
namespace Law
open PySem PyProof.Rows L2 DL
abbrev ups (r:List Nat):List Int:=r.map fun k:Nat=>(k:Int)
def fw (b:Nat):List Int→List Int→Nat
 | _,[]=>0
 | pre,x::xs=>if (0≤x∧x < b)∧x∉pre then fw b (pre++[x]) xs + 1 else 0
theorem zq6 (b:Nat):∀(xs pre:List Int),fw b pre xs≤xs.length
 | [],_=>Nat.le_refl _
 | x::xs,pre=>by
  unfold fw
  split
  ·have:=zq6 b xs (pre++[x]); simp only [List.length_cons]; omega
  ·simp
theorem zoY (h:Int) (b:Nat):za1 [.int h,nD b]=.ok (.bl (decide (0≤h∧h < b))):=by
 refine zaH (B:=zb5) (n:=2) ?_
 unfold zb5
 refine zap (zay ?_)
 rw [zjC (zan (zac (d:=.int h) rfl zai) (show zcJ [.int h]=.ok (.bl true) from rfl))]
 show ((if decide ((0:Int)≤h)=true then (Res.ok (DL.D.bl (decide (h < (b:Int))))) else .ok (.bl false)))=_
 by_cases c:0≤h
 ·rw [if_pos (by simpa using c)]
  congr 2
  rw [decide_eq_decide]
  exact ⟨fun z=>⟨c,z⟩,fun z=>z.2⟩
 ·rw [if_neg (by simpa using c),decide_eq_false (fun z=>c z.1)]
theorem ziF (b:Nat) (num:DL.D):∀(suf:List Int) (pre:List Nat) (x y:Option DL.D),pre.length + suf.length≤60 →
  (fw b (ups pre) suf=suf.length→∃z x' y',forF (ftT (zaz (ftN 3) (zaz (ftN 4) zci))) zaK (enuD pre.length (suf.map DL.D.int)) [some num,some (nD b),some (zbT pre),x,y]=.nx [some num,some (nD b),z,x',y']) ∧
  (fw b (ups pre) suf < suf.length→forF (ftT (zaz (ftN 3) (zaz (ftN 4) zci))) zaK (enuD pre.length (suf.map DL.D.int)) [some num,some (nD b),some (zbT pre),x,y]=.rt (nD (pre.length + fw b (ups pre) suf)))
 | [],pre,x,y,_=>⟨fun _=>⟨_,_,_,zbX⟩,fun h=>absurd h (by simp [fw])⟩
 | h::suf,pre,x,y,hl=>by
  simp only [List.length_cons] at hl
  have t0:=zbi (zaP (f:=zaR (zab (gv 4) (zab (gv 1) lNil)) [] za1) (r:=[some num,some (nD b),some (zbT pre),some (nD pre.length),some (.int h)]) (zan (zac (d:=.int h) rfl (zac (d:=nD b) rfl zai)) (zoY h b)) rfl)
  have stop:(¬ ((0≤h∧h < b)∧h∉ups pre))→forF (ftT (zaz (ftN 3) (zaz (ftN 4) zci))) zaK (enuD pre.length ((h::suf).map DL.D.int)) [some num,some (nD b),some (zbT pre),x,y]=.rt (nD pre.length):=fun c=>by
   show forF _ _ (.tup [.int ((pre.length:Nat):Int),.int h]::enuD (pre.length + 1) (suf.map DL.D.int)) _=_
   refine ziG (r1:=[some num,some (nD b),some (zbT pre),some (nD pre.length),some (.int h)]) rfl ?_
   by_cases c1:0≤h∧h < b
   ·rw [decide_eq_true c1] at t0
    obtain ⟨k,rfl⟩:∃k:Nat,h=(k:Int):=⟨h.toNat,(Int.toNat_of_nonneg c1.1).symm⟩
    have ck:k∈pre:=by
     have:(k:Int)∈ups pre:=Classical.byContradiction fun z=>c ⟨c1,z⟩
     obtain ⟨j,hj,e⟩:=List.mem_map.mp this
     rwa [Int.ofNat_inj.mp e] at hj
    have c2:inD (nD k) (zbT pre)=some (.bl true):=by
     show (some (hasK _ (kI k))).map DL.D.bl=_
     rw [ziD,List.map_map]
     have:decide (k∈pre.map ((fun p:Nat × DL.D=>p.1) ∘ fun k=>(k,DL.D.bl true)))=true:=by
      rw [decide_eq_true_eq]
      simpa [Function.comp_def] using ck
     rw [this]; rfl
    exact zap ((if_t ((or_f t0).trans (zaJ (zao (a:=nD k) (b:=zbT pre) rfl rfl c2)))).trans (zap (zay (d:=nD pre.length) rfl)))
   ·rw [decide_eq_false c1] at t0
    exact zap ((if_t (or_t t0)).trans (zap (zay (d:=nD pre.length) rfl)))
  by_cases c:(0≤h∧h < b)∧h∉ups pre
  rotate_left
  ·have e:fw b (ups pre) (h::suf)=0:=by unfold fw; rw [if_neg c]
   rw [e]
   exact ⟨fun z=>absurd z (by simp),fun _=>stop c⟩
  have e:fw b (ups pre) (h::suf)=fw b (ups pre++[h]) suf + 1:=by conv=>lhs; unfold fw; rw [if_pos c]
  rw [e]
  obtain ⟨c1,c3⟩:=c
  rw [decide_eq_true c1] at t0
  obtain ⟨k,rfl⟩:∃k:Nat,h=(k:Int):=⟨h.toNat,(Int.toNat_of_nonneg c1.1).symm⟩
  have ck:k∉pre:=fun z=>c3 (List.mem_map.mpr ⟨k,z,rfl⟩)
  have c2:inD (nD k) (zbT pre)=some (.bl false):=by
   show (some (hasK _ (kI k))).map DL.D.bl=_
   rw [ziD,List.map_map]
   have:decide (k∈pre.map ((fun p:Nat × DL.D=>p.1) ∘ fun k=>(k,DL.D.bl true)))=false:=by
    rw [decide_eq_false_iff_not]
    simpa [Function.comp_def] using ck
   rw [this]; rfl
  have c4:stoD (zbT pre) (nD k) (.bl true)=some (zbT (pre++[k])):=by
   show (if _ then some (DL.D.dic (putD _ (kI k) (.bl true))) else none)=_
   rw [if_pos (by rw [List.length_map,List.length_map,sizeLine_eq]; omega),zil _ _ _ (by rw [List.map_map]; simpa [Function.comp_def] using ck)]
   simp
  have ih:=ziF b num suf (pre++[k]) (some (nD pre.length)) (some (nD k)) (by simp; omega)
  have eu:ups (pre++[k])=ups pre++[(k:Int)]:=by simp [ups]
  rw [eu,show (pre++[k]).length=pre.length + 1 by simp] at ih
  have step:forF (ftT (zaz (ftN 3) (zaz (ftN 4) zci))) zaK (enuD pre.length (((k:Int)::suf).map DL.D.int)) [some num,some (nD b),some (zbT pre),x,y]=forF (ftT (zaz (ftN 3) (zaz (ftN 4) zci))) zaK (enuD (pre.length + 1) (suf.map DL.D.int)) [some num,some (nD b),some (zbT (pre++[k])),some (nD pre.length),some (nD k)]:=by
   show forF _ _ (.tup [.int ((pre.length:Nat):Int),nD k]::enuD (pre.length + 1) (suf.map DL.D.int)) _=_
   refine zcs (r1:=[some num,some (nD b),some (zbT pre),some (nD pre.length),some (nD k)]) rfl ?_
   refine (zae ((if_f ((or_f t0).trans (zaJ (zao (a:=nD k) (b:=zbT pre) rfl rfl c2)))).trans (e_skip _))).trans ?_
   exact zae (zg0 (d:=zbT pre) (k:=nD k) rfl rfl rfl c4)
  rw [step]
  refine ⟨fun z=>ih.1 (by simp at z; exact z),fun z=>?_⟩
  rw [ih.2 (by simp at z; omega),show pre.length + 1 + fw b (ups pre++[(k:Int)]) suf=pre.length + (fw b (ups pre++[(k:Int)]) suf + 1) by omega]
theorem lenI (l:List Int):lenD [IN l]=some (nD l.length):=zcP _ _
theorem zpI {hs:List Int} {b:Nat} (hl:hs.length≤60):zbE [IN hs,nD b]=.ok (nD (fw b [] hs)):=by
 obtain ⟨h1,h2⟩:=ziF b (IN hs) hs [] none none (by simpa using hl)
 refine zaH (B:=zbn) (n:=5) ?_
 unfold zbn
 refine (zae (r':=[some (IN hs),some (nD b),some (zbT []),none,none]) rfl).trans ?_
 by_cases c:fw b (ups []) hs=hs.length
 ·obtain ⟨z,x',y',h⟩:=h1 c
  refine (zae ((zbI (ds:=enuD 0 (hs.map DL.D.int)) rfl).trans h)).trans ?_
  rw [show fw b [] hs=hs.length from c]
  exact zap (zay (zbf (zac (d:=IN hs) rfl zai) (lenI hs)))
 ·have:=h2 (by have:=zq6 b hs (ups []); omega)
  rw [show ([]:List Nat).length + fw b (ups []) hs=fw b [] hs by simp] at this
  exact zap ((zbI (ds:=enuD 0 (hs.map DL.D.int)) rfl).trans this)
theorem zhI {hs:List Int} {b:Nat} (hl:hs.length≤60):zaY [IN hs,nD b]=.ok (.bl (decide (fw b [] hs=hs.length))):=by
 refine zaH (B:=zbx) (n:=2) ?_
 unfold zbx
 exact zap (zay (zao (a:=nD (fw b [] hs)) (b:=nD hs.length) (zan (zac (d:=IN hs) rfl (zac (d:=nD b) rfl zai)) (zpI hl)) (zbf (zac (d:=IN hs) rfl zai) (lenI hs)) (zfU _ _)))
end Law
end
section
namespace Law
open PySem PyProof.Rows L2 DL
def dOf (dl:List Nat) (h:Nat):Nat:=dl.getD h 0
theorem zre {dl:List Nat} {h:Nat} (hh:h < dl.length):(dl.map nD)[h]? = some (nD (dOf dl h)):=by
 rw [List.getElem?_map,List.getElem?_eq_getElem hh]
 unfold dOf
 rw [List.getD_eq_getElem?_getD,List.getElem?_eq_getElem hh]; rfl
theorem zf2 {dl:List Nat} {i h:Nat} (e:dl[i]? = some h):dOf dl i=h:=by
 unfold dOf; rw [List.getD_eq_getElem?_getD,e]; rfl
theorem zh4 {dl:List Nat} {h:Nat} (hh:h < dl.length):dOf dl h∈dl:=by
 unfold dOf
 rw [List.getD_eq_getElem?_getD,List.getElem?_eq_getElem hh]
 exact List.getElem_mem _
theorem zoQ {dl:List Nat} (hn:dl.Nodup) {h l:Nat} (hh:h < dl.length) (hl:l < dl.length) (e:dOf dl h=dOf dl l):h=l:=by
 unfold dOf at e
 rw [List.getD_eq_getElem?_getD,List.getElem?_eq_getElem hh,List.getD_eq_getElem?_getD,List.getElem?_eq_getElem hl] at e
 exact (List.getElem_inj hn).mp e
structure Tw (rows:List (List Nat)) (w:List Nat) (n:Nat):Prop where
 n1:1≤n
 n7:n≤7
 rl:rows.length=n
 rp:∀row∈rows,row.Perm (List.range n)
 wp:w.Perm (List.range n)
theorem zby {l:List Nat} {n:Nat} (h:l.Perm (List.range n)):l.length=n:=by rw [h.length_eq]; simp
theorem zgn {l:List Nat} {n x:Nat} (h:l.Perm (List.range n)) (hx:x < n):dOf l x < n:=List.mem_range.mp (h.mem_iff.mp (zh4 (by rw [zby h]; exact hx)))
theorem zin {l:List Nat} {n x y:Nat} (h:l.Perm (List.range n)) (hx:x < n) (hy:y < n) (e:dOf l x=dOf l y):x=y:=zoQ (h.nodup_iff.mpr List.nodup_range) (by rw [zby h]; exact hx) (by rw [zby h]; exact hy) e
theorem zfh {l:List Nat} {n x:Nat} (h:l.Perm (List.range n)) (hx:x < n):ixA (TN l) (nD x)=some (nD (dOf l x)):=zjl (zre (by rw [zby h]; exact hx))
section
variable {rows:List (List Nat)} {w dl:List Nat} {n:Nat}
theorem Tw.row (T:Tw rows w n) {h:Nat} (hh:h < n):(Wr rows h).Perm (List.range n):=by
 refine T.rp _ ?_
 unfold Wr
 rw [List.getElem?_eq_getElem (by rw [T.rl]; exact hh)]
 exact List.getElem_mem _
theorem Tw.has (T:Tw rows w n) {h x:Nat} (hh:h < n) (hx:x < n):x∈Wr rows h:=(T.row hh).mem_iff.mpr (List.mem_range.mpr hx)
theorem Tw.rw' (T:Tw rows w n) {h:Nat} (hh:h < n):ixA (WD rows) (nD h)=some (TN (Wr rows h)):=zjl (zmS (by rw [T.rl]; exact hh))
theorem Tw.len (T:Tw rows w n):lenD [WD rows]=some (nD n):=by rw [zdr,T.rl]
theorem Tw.wlen (T:Tw rows w n):lenD [TN w]=some (nD n):=by rw [zdr,zby T.wp]
theorem Tw.things (T:Tw rows w n):za7 [WD rows]=.ok (nD n):=by
 cases rows with
 | nil=>have:=T.rl; have:=T.n1; simp at *; omega
 | cons r rest=>
  rw [zeo]
  rw [zby (T.rp r List.mem_cons_self)]
theorem zgS (T:Tw rows w n) {h x y:Nat} (hh:h < n) (hx:x < n) (hy:y < n):zfK [WD rows,nD h,nD x,nD y]=.ok (.bl (decide (Rg.lk (Wr rows) h x y))):=by
 refine zaH (B:=zgF) (n:=5) ?_
 unfold zgF
 refine (zae (zat (zao (a:=WD rows) (b:=nD h) rfl rfl (T.rw' hh)))).trans ?_
 exact zap (zay (zao (zoO (d:=TN (Wr rows h)) rfl rfl (zac (d:=nD x) rfl zai) (ziB (T.has hh hx))) (zoO (d:=TN (Wr rows h)) rfl rfl (zac (d:=nD y) rfl zai) (ziB (T.has hh hy))) (zl8 _ _)))
structure Rk (w:List Nat) (n:Nat) (g:Nat→Nat) (r:List Nat):Prop where
 ne:r≠[]
 nd:r.Nodup
 lt:∀h∈r,h < n
 mn:∀h∈r,r.headD 0≤h
 gt:∀i,i < r.length→g (dOf r i)=dOf w (dOf r ((i + 1) % r.length))
variable {g:Nat→Nat} {r:List Nat}
theorem Rk.len (R:Rk w n g r):r.length≤n:=by
 have:=Rg.zcO (l:=r) (m:=List.range n) R.nd fun x hx=>List.mem_range.mpr (R.lt x hx)
 simpa using this
theorem Rk.pos (R:Rk w n g r):0 < r.length:=List.length_pos_iff.mpr R.ne
theorem Rk.nx (R:Rk w n g r) {i:Nat} (hi:i < r.length):dOf r ((i + 1) % r.length) < n:=R.lt _ (zh4 (Nat.mod_lt _ R.pos))
theorem Rk.glt (T:Tw rows w n) (R:Rk w n g r) {h:Nat} (hh:h∈r):g h < n:=by
 obtain ⟨i,hi⟩:=List.getElem?_of_mem hh
 have hil:=(List.getElem?_eq_some_iff.mp hi).1
 have:=R.gt i hil
 rw [zf2 hi] at this
 rw [this]; exact zgn T.wp (R.nx hil)
theorem zr6 {r:List Nat} (h:r≠[]):ixA (LN r) (.int 0)=some (nD (r.headD 0)):=by
 cases r with
 | nil=>exact absurd rfl h
 | cons a t=>exact ixA_L0 _ _
theorem Rk.min (R:Rk w n g r):zhS [LN r]=some (nD (r.headD 0)):=by
 obtain ⟨k,k1,k2,k3⟩:=znK R.ne
 rw [k3]
 have h1:=R.mn k k1
 have h2:=k2 (r.headD 0) (by
  have:=R.ne
  cases r with
  | nil=>exact absurd rfl this
  | cons a t=>exact List.mem_cons_self)
 rw [Nat.le_antisymm h2 h1]
theorem zk7 {α:Type} (p:α→Bool):∀l:List α,zgB (l.map fun x=>DL.D.bl (p x))=some (l.map p)
 | []=>rfl
 | x::l=>by
  show (zgB (l.map fun x=>DL.D.bl (p x))).map _=_
  rw [zk7 p l]; rfl
theorem zo2 {α:Type} (p:α→Bool) (l:List α):anyD [.lst (l.map fun x=>DL.D.bl (p x))]=some (.bl (l.any p)):=by
 show (zgB _).map _=_
 rw [zk7,Option.map_some,List.any_map]; rfl
theorem zcQ {g:Nat→Nat} {nl:Nat} {cap:List Nat} {fi:FI} {ft:FT} {fe:FE} {r:Rho} {l:List Nat} (e:Nat→DL.D) (h1:fi r=.ok (l.map (zb9 g))) (hl:l.length≤1000)
  (h:∀a∈l,∃r1,ft (zb9 g a) (capR nl cap r)=some r1∧fe r1=.ok (e a)):zca nl cap fi ft (fun _=>Res.ok true) fe r=.ok (.lst (l.map e)):=zeX (zb9 g) e h1 hl h
end
end Law
end
section
namespace Law
open PySem PyProof.Rows L2 DL
section
variable {rows:List (List Nat)} {w dl:List Nat} {n:Nat} {g:Nat→Nat} {r:List Nat}
theorem zcE (r:List Nat):(rot1 r).Perm r:=by
 have:=(List.perm_append_comm (l₁:=r.drop 1) (l₂:=r.take 1))
 rw [List.take_append_drop] at this
 exact this
theorem Rk.rot (R:Rk w n g r):(rot1 r).map (dOf w)=r.map g:=by
 refine List.ext_getElem? fun j=>?_
 rw [List.getElem?_map,List.getElem?_map]
 by_cases hj:j < r.length
 ·have h1:(j + 1) % r.length < r.length:=Nat.mod_lt _ R.pos
  have e:=R.gt j hj
  rw [zf2 (List.getElem?_eq_getElem hj),zf2 (List.getElem?_eq_getElem h1)] at e
  rw [znO (A:=r) (i:=1) R.pos hj,Nat.add_comm 1 j,List.getElem?_eq_getElem hj,List.getElem?_eq_getElem h1,Option.map_some,Option.map_some,e]
 ·rw [List.getElem?_eq_none (by rw [(zcE r).length_eq]; omega),List.getElem?_eq_none (by omega)]; rfl
theorem Rk.gnd (T:Tw rows w n) (R:Rk w n g r):(r.map g).Nodup:=by
 rw [←R.rot,List.nodup_iff_pairwise_ne,List.pairwise_map]
 refine List.Pairwise.imp_of_mem (fun ha hb h z=>h ?_) ((zcE r).nodup_iff.mpr R.nd)
 exact zin T.wp (R.lt _ ((zcE r).mem_iff.mp ha)) (R.lt _ ((zcE r).mem_iff.mp hb)) z
theorem zhK (T:Tw rows w n) (R:Rk w n g r):zaB [TN w,za3 g r]=.ok (.bl true):=by
 have hl:=R.len
 have h7:=T.n7
 refine zaH (B:=zas) (n:=4) ?_
 unfold zas
 refine (zae (zat (d:=LN r) (zcQ (g:=g) (l:=r) nD rfl (by omega) fun h hh=>⟨[some (nD h),some (nD (g h))],rfl,rfl⟩))).trans ?_
 refine (zae (zat (d:=LN (r.map g)) ((zcQ (g:=g) (l:=r) (fun h=>nD (g h)) rfl (by omega) fun h hh=>⟨[some (nD h),some (nD (g h))],rfl,rfl⟩).trans ?_))).trans ?_
 ·show Res.ok (DL.D.lst _)=Res.ok (DL.D.lst ((r.map g).map nD))
  rw [List.map_map]; rfl
 refine (zae ((if_f ?_).trans (e_skip _))).trans ?_
 ·refine (or_f (zbi (b:=true) (zaP (zan (zac (d:=LN r) rfl (zac (d:=nD n) (zbf (zac (d:=TN w) rfl zai) T.wlen) zai)) (zcD R.nd R.lt (by omega))) rfl))).trans ?_
  exact zbi (b:=true) (zaP (zan (zac (d:=LN (r.map g)) rfl (zac (d:=nD n) (zbf (zac (d:=TN w) rfl zai) T.wlen) zai)) (zcD (R.gnd T) (fun x hx=>by obtain ⟨h,h1,rfl⟩:=List.mem_map.mp hx; exact R.glt T h1) (by simp; omega))) rfl)
 refine (zae ((if_f ?_).trans (e_skip _))).trans ?_
 ·refine (or_f (zbi (b:=true) (zaP (d:=LN r) rfl ?_))).trans ?_
  ·have:=R.ne
   cases r with
   | nil=>exact absurd rfl this
   | cons a t=>rfl
  ·exact zaJ (zao (a:=nD (r.headD 0)) (b:=nD (r.headD 0)) (zao (a:=LN r) (b:=.int 0) rfl rfl (zr6 R.ne)) (zbf (zac (d:=LN r) rfl zai) R.min) (by rw [zos,decide_eq_true rfl]; rfl))
 refine zap (zay (zao (a:=LN (r.map g)) (b:=LN (r.map g)) rfl ((zeX (l:=rot1 r) nD (fun h=>nD (dOf w h)) (zie (d:=LN (rot1 r)) (zan (zac (d:=LN r) rfl zai) (zfX R.pos (by omega))) rfl) (by rw [(zcE r).length_eq]; omega) fun h hh=>⟨[some (nD h),some (TN w)],rfl,zao (a:=TN w) (b:=nD h) rfl rfl (zfh T.wp (R.lt h ((zcE r).mem_iff.mp hh)))⟩).trans ?_) (by rw [zni,decide_eq_true rfl])))
 show Res.ok (DL.D.lst _)=Res.ok (DL.D.lst ((r.map g).map nD))
 rw [←R.rot,List.map_map]; rfl
theorem zeT (T:Tw rows w n) {h:Nat} (hh:h < n):own (w.map some) h=some (dOf w h):=by
 have hl:=zby T.wp
 unfold own
 rw [List.getElem?_map,List.getElem?_eq_getElem (by omega)]
 unfold dOf
 rw [List.getD_eq_getElem?_getD,List.getElem?_eq_getElem (by omega)]; rfl
theorem zgE (w:List Nat):OD (w.map some)=TN w:=by
 show DL.D.tup _=DL.D.tup _
 rw [List.map_map]; rfl
theorem Tw.own (T:Tw rows w n):Own (w.map some) n where
 lt:=fun x hx=>by
  obtain ⟨y,h1,h2⟩:=List.mem_map.mp hx
  cases h2
  exact List.mem_range.mp (T.wp.mem_iff.mp h1)
 inj:=fun h k x h1 h2=>by
  have hh:=(zfi h1).2
  have hk:=(zfi h2).2
  rw [List.length_map,zby T.wp] at hh hk
  rw [zeT T hh] at h1
  rw [zeT T hk] at h2
  exact zin T.wp hh hk (Option.some.inj (h1.trans h2.symm))
theorem Tw.scene (T:Tw rows w n):Scene rows (w.map some) none n n where
 n1:=T.n1
 n7:=T.n7
 nm:=Nat.le_refl _
 m8:=by have:=T.n7; omega
 rl:=T.rl
 rp:=T.rp
 ow:=T.own
 ol:=by rw [List.length_map,zby T.wp]
 op:=fun l e=>(nomatch e)
theorem znQ (T:Tw rows w n) {s:Rg.S} (k:Rg.Ok (Wr rows) (own (w.map some)) s) (ao:Rg.zlf (own (w.map some)) s) (hl:∀h∈s.line,h < n) {rs:List (List Nat)} (hp:rs.Perm (Rg.zfc (Wr rows) (own (w.map some)) s)) (hr:r∈rs):Rk w n (tS rows s) r:=by
 have cy:=zgo hp
 have hsub:∀h∈r,h∈s.line:=fun h hh=>cy.sub h (List.mem_flatten.mpr ⟨r,hr,hh⟩)
 have hm:r∈Rg.zfc (Wr rows) (own (w.map some)) s:=hp.mem_iff.mp hr
 have hne:=zgU r hm
 obtain ⟨x,x1,x2⟩:=List.mem_filterMap.mp hm
 obtain ⟨j,j1,j2,j3,j4⟩:=Rg.zpM x2
 have hlen:r.length=j:=by rw [j2,Rg.zke]
 have hat:∀i,i < j→dOf r i=Rg.it (fS rows (w.map some) s) i x:=fun i hi=>by
  refine zf2 ?_
  rw [j2]
  unfold Rg.orb
  rw [List.getElem?_map,List.getElem?_range hi]; rfl
 have hd0:r.headD 0=x:=by
  have:=hat 0 j1
  cases r with
  | nil=>exact absurd rfl hne
  | cons a t=>exact this
 refine ⟨hne,by rw [j2]; exact Rg.zqj j3 j4,fun h hh=>hl h (hsub h hh),fun h hh=>?_,fun i hi=>?_⟩
 ·rw [hd0]
  obtain ⟨i,hi⟩:=List.getElem?_of_mem hh
  have hil:=(List.getElem?_eq_some_iff.mp hi).1
  have e:=hat i (by omega)
  rw [zf2 hi] at e
  exact Rg.zo6 j1 j3 j4 e.symm
 ·rw [hlen] at hi ⊢
  have h1:=hat i hi
  have hin:dOf r i∈s.line:=hsub _ (zh4 (by omega))
  have h2:=hat ((i + 1) % j) (Nat.mod_lt _ j1)
  rw [h2,←Rg.zqR j1 j3,Rg.zdj,←h1]
  have h3:=Rg.zjv k ao hin
  have h4:fS rows (w.map some) s (dOf r i) < n:=hl _ (Rg.zkm (List.ne_nil_of_mem hin))
  have h5:=zeT T h4
  exact Option.some.inj (h3.symm.trans h5)
end
end Law
end
section
namespace Law
open PySem PyProof.Rows L2 DL
theorem zb7 {s1 s2:FS} {r r':Rho} {x:D} (h:s1 r=.exc x r'):seqF s1 s2 r=.exc x r':=by unfold seqF; rw [h]
theorem zfb {B:FS} {n:Nat} {ds:List D} {x:D} {r':Rho} (h:B (zaq n ds)=.exc x r'):outR false (B (zaq n ds))=.exc x:=by rw [h]; rfl
theorem zpH {B:FS} {n:Nat} {ds:List D} {r':Rho} (h:B (zaq n ds)=.nx r'):outR false (B (zaq n ds))=.ok .non:=by rw [h]; rfl
theorem zmU {m:List Md} {nm f:Str} {fl:Rho→Res (List D)} {r:Rho} {i:Int} (h:fl r=.ok [.int i]) (hi:i.natAbs.log2 < 64):zjW m nm f fl r=.exc (xD nm [(f,.int i)]) (forget m r):=by
 unfold zjW
 rw [h,onE_ok]
 show (if i.natAbs.log2 < 64 then _ else _)=_
 rw [if_pos hi]
theorem zkt {k:Nat} (h:k≤60):((k:Nat):Int).natAbs.log2 < 64:=by
 rw [Int.natAbs_natCast]
 have:=Nat.log2_le_self k
 omega
theorem zoK {ft:FT} {b:FS} {r r1 r':Rho} {d v:D} {ds:List D} (h1:ft d r=some r1) (h2:b r1=.exc v r'):forF ft b (d::ds) r=.exc v r':=by
 unfold forF
 simp only [h1,h2]
theorem zh0 {m:List Md} {f:FE} {r:Rho} {d:D} (h:f r=.ok d):zec m f r=.nx r:=by unfold zec; rw [h]; rfl
theorem zbP {fl:Rho→Res (List D)} {zs:List D} {F:List D→Res D} {r:Rho} {x:Res D} (h1:fl r=.ok zs) (h2:F zs=x):zc9 fl [] F r=x:=by unfold zc9; rw [h1,bind_ok,List.append_nil,h2]
theorem zgx {m:List Md} {f:FE} {r:Rho} {d:D} (h:f r=.exc d):zec m f r=.exc d (forget m r):=by unfold zec; rw [h]; rfl
theorem zjU {m:List Md} {f:FE} {r:Rho} {d:D} (h:f r=.exc d):retF m f r=.exc d (forget m r):=by unfold retF; rw [h]; rfl
theorem zm8 {s:FS} {r r':Rho} (h:s r=.nx r'):noXS s r=.nx r':=by unfold noXS; rw [h]
theorem zm7 {s:FS} {r:Rho} {d:D} (h:s r=.rt d):noXS s r=.rt d:=by unfold noXS; rw [h]
theorem zeW {m:List Md} {fi:FI} {ft:FT} {b:FS} {r:Rho} {ds:List D} (h:fi r=.ok ds):zg8 m fi ft b r=forF ft (noXS b) ds r:=by unfold zg8; rw [h]; rfl
section
variable {rows:List (List Nat)} {n m:Nat}
structure Rw (rows:List (List Nat)) (n m:Nat):Prop where
 n1:1≤n
 n7:n≤7
 rl:rows.length=n
 rp:∀row∈rows,row.Perm (List.range m)
theorem Rw.len (R:Rw rows n m):lenD [WD rows]=some (nD n):=by rw [zdr,R.rl]
theorem Rw.things (R:Rw rows n m):za7 [WD rows]=.ok (nD m):=by
 have h1:=R.n1
 have hl:=R.rl
 have hp:=R.rp
 cases rows with
 | nil=>simp at hl; omega
 | cons r rest=>
  rw [zeo]
  have:=(hp r List.mem_cons_self).length_eq
  rw [List.length_range] at this
  rw [this]
theorem Rw.square (R:Rw rows n m):zc0 [WD rows]=.ok (.bl (decide (m=n))):=by
 refine zaH (B:=zc5) (n:=1) ?_
 unfold zc5
 exact zap (zay (zao (a:=nD m) (b:=nD n) (zan (zac (d:=WD rows) rfl zai) R.things) (zbf (zac (d:=WD rows) rfl zai) R.len) (zfU m n)))
def fn:List (Option Nat)→Nat
 | []=>0
 | none::_=>0
 | some _::l=>fn l + 1
theorem zoX (o:Option Nat) (b:Nat) (h:∀x,o=some x→x < b):za1 [oD o,nD b]=.ok (.bl o.isSome):=by
 cases o with
 | none=>rfl
 | some x=>
  have:=zeE x b
  rw [decide_eq_true (h x rfl)] at this
  exact this
theorem zgl (R:Rw rows n m) (ow:D):∀(l:List (Option Nat)) (i:Nat) (y2 y3:Option D),(∀x,some x∈l→x < n)→i + l.length≤60 →
  (none∉l→∃y2' y3',forF (ftT (zaz (ftN 2) (zaz (ftN 3) zci))) zar (enuD i (l.map oD)) [some (WD rows),some ow,y2,y3]=.nx [some (WD rows),some ow,y2',y3']) ∧
  (none∈l→∃r',forF (ftT (zaz (ftN 2) (zaz (ftN 3) zci))) zar (enuD i (l.map oD)) [some (WD rows),some ow,y2,y3]=.exc (xD "NotOwned" [("hand",nD (i + fn l))]) r')
 | [],i,y2,y3,_,_=>⟨fun _=>⟨y2,y3,zbX⟩,fun h=>(nomatch h)⟩
 | o::l,i,y2,y3,hl,hz=>by
  have hb:=zoX o n fun x e=>hl x (by rw [e]; exact List.mem_cons_self)
  have t:=zbi (zaP (f:=zaR (zab (gv 3) (zab (fC (zab (gv 0) lNil) lenD) lNil)) [] za1) (r:=[some (WD rows),some ow,some (nD i),some (oD o)]) (zan (zac (d:=oD o) rfl (zac (d:=nD n) (zbf (zac (d:=WD rows) rfl zai) R.len) zai)) hb) rfl)
  simp only [List.length_cons] at hz
  cases o with
  | none=>
   refine ⟨fun h=>absurd List.mem_cons_self h,fun _=>⟨forget q110 [some (WD rows),some ow,some (nD i),some .non],?_⟩⟩
   show forF _ _ (.tup [.int ((i:Nat):Int),.non]::enuD (i + 1) (l.map oD)) _=_
   refine zoK (r1:=[some (WD rows),some ow,some (nD i),some .non]) rfl ?_
   exact zb7 ((if_t t).trans (zb7 (zmU (i:=((i:Nat):Int)) (zac (d:=nD i) rfl zai) (zkt (by omega)))))
  | some x=>
   obtain ⟨h1,h2⟩:=zgl R ow l (i + 1) (some (nD i)) (some (nD x)) (fun z hz=>hl z (List.mem_cons_of_mem _ hz)) (by omega)
   have st:forF (ftT (zaz (ftN 2) (zaz (ftN 3) zci))) zar (enuD i ((some x::l).map oD)) [some (WD rows),some ow,y2,y3]=forF (ftT (zaz (ftN 2) (zaz (ftN 3) zci))) zar (enuD (i + 1) (l.map oD)) [some (WD rows),some ow,some (nD i),some (nD x)]:=by
    show forF _ _ (.tup [.int ((i:Nat):Int),nD x]::enuD (i + 1) (l.map oD)) _=_
    exact zcs (r1:=[some (WD rows),some ow,some (nD i),some (nD x)]) rfl (zae ((if_f t).trans (e_skip _)))
   rw [st]
   refine ⟨fun h=>h1 fun z=>h (List.mem_cons_of_mem _ z),fun h=>?_⟩
   obtain ⟨r',e⟩:=h2 (by simpa using h)
   refine ⟨r',?_⟩
   rw [e,show i + 1 + fn l=i + fn (some x::l) by simp [fn]; omega]
theorem znS (R:Rw rows n m) (h:m≠n) (ow:D):zad [WD rows,ow]=.exc (xD "NotOwned" [("hand",.int (-1))]):=by
 have hq:=R.square
 rw [decide_eq_false h] at hq
 refine zfb (B:=zaj) (n:=4) (r':=forget q110 [some (WD rows),some ow,none,none]) ?_
 unfold zaj
 exact zb7 ((if_t (zbi (b:=false) (zaP (zan (zac (d:=WD rows) rfl zai) hq) rfl))).trans (zb7 (zmU (i:=-1) (zac (d:=.int (-1)) rfl zai) (by decide))))
theorem znT (R:Rw rows n n) {owns:List (Option Nat)} (hl:owns.length=n) (hx:∀x,some x∈owns→x < n) (h:none∈owns):zad [WD rows,OD owns]=.exc (xD "NotOwned" [("hand",nD (fn owns))]):=by
 have hq:=R.square
 have h7:=R.n7
 rw [decide_eq_true rfl] at hq
 obtain ⟨r',e⟩:=(zgl R (OD owns) owns 0 none none hx (by omega)).2 h
 rw [Nat.zero_add] at e
 refine zfb (B:=zaj) (n:=4) (r':=r') ?_
 unfold zaj
 refine (zae ((if_f (zbi (b:=true) (zaP (zan (zac (d:=WD rows) rfl zai) hq) rfl))).trans (e_skip _))).trans ?_
 exact zb7 ((zbI (ds:=enuD 0 (owns.map oD)) rfl).trans e)
theorem zrD (R:Rw rows n n) {owns:List (Option Nat)} (hl:owns.length=n) (hx:∀x,some x∈owns→x < n) (h:none∉owns):zad [WD rows,OD owns]=.ok .non:=by
 have hq:=R.square
 have h7:=R.n7
 rw [decide_eq_true rfl] at hq
 obtain ⟨a,b,e⟩:=(zgl R (OD owns) owns 0 none none hx (by omega)).1 h
 refine zpH (B:=zaj) (n:=4) (r':=[some (WD rows),some (OD owns),a,b]) ?_
 unfold zaj
 refine (zae ((if_f (zbi (b:=true) (zaP (zan (zac (d:=WD rows) rfl zai) hq) rfl))).trans (e_skip _))).trans ?_
 exact (zae ((zbI (ds:=enuD 0 (owns.map oD)) rfl).trans e)).trans rfl
end
end Law
end
section
namespace Law
open PySem PyProof.Rows L2 DL
section
variable {rows:List (List Nat)} {w dl:List Nat} {n:Nat} {g:Nat→Nat} {r:List Nat}
theorem Tw.rw2 (T:Tw rows w n):Rw rows n n:=⟨T.n1,T.n7,T.rl,T.rp⟩
theorem Tw.refuse (T:Tw rows w n):zad [WD rows,TN w]=.ok .non:=by
 have:=zrD T.rw2 (owns:=w.map some) (by rw [List.length_map,zby T.wp]) (fun x hx=>by
  obtain ⟨y,h1,h2⟩:=List.mem_map.mp hx
  cases h2
  exact List.mem_range.mp (T.wp.mem_iff.mp h1)) (fun z=>by
  obtain ⟨y,h1,h2⟩:=List.mem_map.mp z
  cases h2)
 rw [zgE] at this
 exact this
theorem go_in (hd:dl.Perm (List.range n)) {t:Nat→Nat} (x0 x1 x3:Option DL.D):∀(rs:List (List Nat)) (y:Option DL.D),(∀r∈rs,r.length≤60∧∀h∈r,h < n) →
  (∃d,forF (ftN 4) (noXS zce) (rs.map (za3 t)) [x0,x1,some (TN dl),x3,y]=.rt d)∨(∃y',forF (ftN 4) (noXS zce) (rs.map (za3 t)) [x0,x1,some (TN dl),x3,y]=.nx [x0,x1,some (TN dl),x3,y'])
 | [],y,_=>.inr ⟨y,zbX⟩
 | r::rs,y,hr=>by
  obtain ⟨r1,r2⟩:=hr r List.mem_cons_self
  have c:=zbf (fl:=zab (zca 2 [2] (fSeq zbC (gv 4)) (ftT (zaz (ftN 0) (zaz (ftN 1) zci))) (fun _=>Res.ok true) (f2 (f2 (gv 2) (gv 0) ixA) (gv 1) neD)) lNil) (r:=[x0,x1,some (TN dl),x3,some (za3 t r)]) (zac (zcQ (g:=t) (l:=r) (fun h=>DL.D.bl (! decide (dOf dl h=t h))) rfl (by omega) fun h hh=>⟨[some (nD h),some (nD (t h)),some (TN dl)],rfl,zao (b:=nD (t h)) (zao (a:=TN dl) (b:=nD h) rfl rfl (zfh hd (r2 h hh))) rfl (zos _ _)⟩) zai) (zo2 (fun h=>! decide (dOf dl h=t h)) r)
  cases q:r.any (fun h=>! decide (dOf dl h=t h)) with
  | true=>
   rw [q] at c
   refine .inl ⟨za3 t r,?_⟩
   refine ziG (r1:=[x0,x1,some (TN dl),x3,some (za3 t r)]) rfl (zm7 ?_)
   exact zap ((if_t (zaP c rfl)).trans (zap (zay (d:=za3 t r) rfl)))
  | false=>
   rw [q] at c
   have st:forF (ftN 4) (noXS zce) ((r::rs).map (za3 t)) [x0,x1,some (TN dl),x3,y]=forF (ftN 4) (noXS zce) (rs.map (za3 t)) [x0,x1,some (TN dl),x3,some (za3 t r)]:=
    zcs (r1:=[x0,x1,some (TN dl),x3,some (za3 t r)]) rfl (zm8 (zae ((if_f (zaP c rfl)).trans (e_skip _))))
   rw [st]
   exact go_in hd x0 x1 x3 rs (some (za3 t r)) fun u hu=>hr u (List.mem_cons_of_mem _ hu)
theorem go_out (T:Tw rows w n) (hd:dl.Perm (List.range n)) {s:Rg.S} {l:List (List (List Nat) × Rg.S)} (c:Ch rows (w.map some) s l):Rg.Ok (Wr rows) (own (w.map some)) s→Rg.zlf (own (w.map some)) s→(∀h∈s.line,h < n)→∀y3 y4:Option DL.D,
  (∃d,forF (ftN 3) (noXS zcd) (l.map (zcL rows)) [some (WD rows),some (TN w),some (TN dl),y3,y4]=.rt d)∨(∃y3' y4',forF (ftN 3) (noXS zcd) (l.map (zcL rows)) [some (WD rows),some (TN w),some (TN dl),y3,y4]=.nx [some (WD rows),some (TN w),some (TN dl),y3',y4']):=by
 induction c with
 | nil h0=>exact fun _ _ _ y3 y4=>.inr ⟨y3,y4,zbX⟩
 | @cons s rs l hp c ih=>
  intro k ao hl y3 y4
  have cy:=zgo hp
  have h7:=T.n7
  have rk:∀r∈rs,Rk w n (tS rows s) r:=fun r hr=>znQ T k ao hl hp hr
  rcases go_in (t:=tS rows s) hd (some (WD rows)) (some (TN w)) (some (zcL rows (rs,s))) rs y4 (fun r hr=>⟨by have:=(rk r hr).len; omega,(rk r hr).lt⟩) with ⟨d,r3⟩ | ⟨y',r2⟩
  ·refine .inl ⟨d,ziG (r1:=[some (WD rows),some (TN w),some (TN dl),some (zcL rows (rs,s)),y4]) rfl (zm7 ?_)⟩
   exact zap ((zeW (ds:=rs.map (za3 (tS rows s))) rfl).trans r3)
  ·have st:forF (ftN 3) (noXS zcd) (((rs,s)::l).map (zcL rows)) [some (WD rows),some (TN w),some (TN dl),y3,y4]=forF (ftN 3) (noXS zcd) (l.map (zcL rows)) [some (WD rows),some (TN w),some (TN dl),some (zcL rows (rs,s)),y']:=
    zcs (r1:=[some (WD rows),some (TN w),some (TN dl),some (zcL rows (rs,s)),y4]) rfl (zm8 (zae ((zeW (ds:=rs.map (za3 (tS rows s))) rfl).trans r2)))
   rw [st]
   exact ih (Rg.zrs k cy) (Rg.znk k ao cy) (fun h hh=>hl h (List.mem_filter.mp hh).1) (some (zcL rows (rs,s))) y'
theorem zjQ (T:Tw rows w n) (hd:dl.Perm (List.range n)):∃d,zcf [WD rows,TN w,TN dl]=.ok d:=by
 have S:=T.scene
 have h7:=T.n7
 obtain ⟨l,hc,hl,hrun⟩:=zi5 S.ord S.ne (by rw [T.rl]; omega) S.snd
 have ao:Rg.zlf (own (w.map some)) (s0 rows none):=fun x hx=>by
  rw [S.things] at hx
  have hx:=List.mem_range.mp hx
  have hw:x∈w:=T.wp.mem_iff.mpr (List.mem_range.mpr hx)
  obtain ⟨i,hi⟩:=List.getElem?_of_mem hw
  have hil:=(List.getElem?_eq_some_iff.mp hi).1
  rw [zby T.wp] at hil
  exact ⟨i,S.mem.mpr hil,by rw [zeT T hil,zf2 hi]⟩
 have hrun:zcY [WD rows,TN w,.non]=.ok (.lst (l.map (zcL rows))):=by
  have:=hrun
  rw [zgE] at this
  exact this
 have hcall:fSeq zbC (zaR (zab (gv 0) (zab (gv 1) lNil)) [DL.D.non] zcY) [some (WD rows),some (TN w),some (TN dl),none,none]=.ok (l.map (zcL rows)):=zie (d:=.lst (l.map (zcL rows))) (zan (zac (d:=WD rows) rfl (zac (d:=TN w) rfl zai)) hrun) rfl
 have pre:∀s2:FS,seqF (zec q107 (zc9 (zab (gv 0) (zab (gv 1) lNil)) [] zad)) s2 (zaq 5 [WD rows,TN w,TN dl])=s2 [some (WD rows),some (TN w),some (TN dl),none,none]:=fun s2=>
  zae (r':=[some (WD rows),some (TN w),some (TN dl),none,none]) (zh0 (zbP (zac (d:=WD rows) rfl (zac (d:=TN w) rfl zai)) T.refuse))
 rcases go_out T hd hc S.ok ao (fun h hh=>S.mem.mp hh) none none with ⟨d,r4⟩ | ⟨y3,y4,r2⟩
 ·refine ⟨d,zaH (B:=zbW) (n:=5) ?_⟩
  unfold zbW
  exact (pre _).trans (zap ((zeW hcall).trans r4))
 ·refine ⟨.non,zaH (B:=zbW) (n:=5) ?_⟩
  unfold zbW
  exact ((pre _).trans (zae ((zeW hcall).trans r2))).trans (zap (zay (d:=.non) rfl))
theorem ziE (T:Tw rows w n) (rg:D) (s2:FS):seqF (zec q108 (zc9 (zab (gv 0) (zab (gv 1) lNil)) [] zad)) s2 (zaq 6 [WD rows,TN w,TN dl,rg])=s2 [some (WD rows),some (TN w),some (TN dl),some rg,none,none]:=
 zae (r':=[some (WD rows),some (TN w),some (TN dl),some rg,none,none]) (zh0 (zbP (zac (d:=WD rows) rfl (zac (d:=TN w) rfl zai)) T.refuse))
theorem zhW (T:Tw rows w n) {rg:D} (h:zaB [TN w,rg]=.ok (.bl false)):zbR [WD rows,TN w,TN dl,rg]=.ok (.bl false):=by
 refine zaH (B:=zcx) (n:=6) ?_
 unfold zcx
 refine (ziE T rg _).trans ?_
 exact zap ((if_t (zbi (b:=false) (zaP (zan (zac (d:=TN w) rfl (zac (d:=rg) rfl zai)) h) rfl))).trans (zap (zay (d:=.bl false) rfl)))
theorem zmm (T:Tw rows w n) (hd:dl.Perm (List.range n)) (R:Rk w n g r):∃b,zbR [WD rows,TN w,TN dl,za3 g r]=.ok (.bl b):=by
 have hl:=R.len
 have h7:=T.n7
 suffices h:∃b,zcx (zaq 6 [WD rows,TN w,TN dl,za3 g r])=.rt (.bl b) by
  obtain ⟨b,h⟩:=h
  exact ⟨b,zaH h⟩
 unfold zcx
 rw [ziE T]
 rw [zae ((if_f (zbi (b:=true) (zaP (zan (zac (d:=TN w) rfl (zac (d:=za3 g r) rfl zai)) (zhK T R)) rfl))).trans (e_skip _))]
 rw [zae (zat (zbf (zac (zcQ (g:=g) (l:=r) (fun h=>DL.D.bl (decide (Rg.lk (Wr rows) h (g h) (dOf dl h)))) rfl (by omega) fun h hh=>⟨[some (nD h),some (nD (g h)),some (WD rows),some (TN dl)],rfl,zan (zac (d:=WD rows) rfl (zac (d:=nD h) rfl (zac (d:=nD (g h)) rfl (zac (zao (a:=TN dl) (b:=nD h) rfl rfl (zfh hd (R.lt h hh))) zai)))) (zgS T (R.lt h hh) (R.glt T hh) (zgn hd (R.lt h hh)))⟩) zai) (zo2 _ r)))]
 rw [zae (zat (zbf (zac (zcQ (g:=g) (l:=r) (fun h=>DL.D.bl (decide (Rg.lk (Wr rows) h (dOf dl h) (g h)))) rfl (by omega) fun h hh=>⟨[some (nD h),some (nD (g h)),some (WD rows),some (TN dl)],rfl,zan (zac (d:=WD rows) rfl (zac (d:=nD h) rfl (zac (zao (a:=TN dl) (b:=nD h) rfl rfl (zfh hd (R.lt h hh))) (zac (d:=nD (g h)) rfl zai)))) (zgS T (R.lt h hh) (zgn hd (R.lt h hh)) (R.glt T hh))⟩) zai) (zo2 _ r)))]
 generalize r.any (fun h=>decide (Rg.lk (Wr rows) h (g h) (dOf dl h)))=b1
 generalize r.any (fun h=>decide (Rg.lk (Wr rows) h (dOf dl h) (g h)))=b2
 exact ⟨b1 && ! b2,zap (zay (by cases b1 <;> cases b2 <;> rfl))⟩
abbrev pI (p:Int × Int):DL.D:=.tup [.int p.1,.int p.2]
abbrev rg (ps:List (Int × Int)):DL.D:=.tup (ps.map pI)
theorem zmw {ps:List (Int × Int)} {nl:Nat} {fi:FI} {ft:FT} {fe:FE} {r0:Rho} {f:Int × Int→Int} (h1:fi r0=.ok (ps.map pI)) (hl:ps.length≤30) (h:∀p,∃r1,ft (pI p) (capR nl [] r0)=some r1∧fe r1=.ok (.int (f p))):zca nl [] fi ft (fun _=>Res.ok true) fe r0=.ok (IN (ps.map f)):=by
 have:=zeX (nl:=nl) (cap:=[]) (fi:=fi) (ft:=ft) (fe:=fe) (r:=r0) (l:=ps) pI (fun p=>.int (f p)) h1 (by omega) fun p _=>h p
 rw [this]
 show Res.ok (DL.D.lst _)=Res.ok (DL.D.lst ((ps.map f).map _))
 rw [List.map_map]; rfl
theorem zlG (T:Tw rows w n) {ps:List (Int × Int)} (hl:ps.length≤30) (h:¬ (fw n [] (ps.map (·.1))=ps.length∧fw n [] (ps.map (·.2))=ps.length)):zaB [TN w,rg ps]=.ok (.bl false):=by
 refine zaH (B:=zas) (n:=4) ?_
 unfold zas
 refine (zae (zat (d:=IN (ps.map (·.1))) (zmw (ps:=ps) rfl hl fun p=>⟨[some (.int p.1),some (.int p.2)],rfl,rfl⟩))).trans ?_
 refine (zae (zat (d:=IN (ps.map (·.2))) (zmw (ps:=ps) rfl hl fun p=>⟨[some (.int p.1),some (.int p.2)],rfl,rfl⟩))).trans ?_
 have l1:(ps.map (·.1)).length=ps.length:=List.length_map _
 have l2:(ps.map (·.2)).length=ps.length:=List.length_map _
 generalize ps.map (·.1)=hs at h l1
 generalize ps.map (·.2)=ts at h l2
 have u1:=zhI (hs:=hs) (b:=n) (by omega)
 have u2:=zhI (hs:=ts) (b:=n) (by omega)
 rw [l1] at u1
 rw [l2] at u2
 refine zap ((if_t ?_).trans (zap (zay (d:=.bl false) rfl)))
 by_cases c:fw n [] hs=ps.length
 ·rw [decide_eq_true c] at u1
  rw [decide_eq_false (fun z=>h ⟨c,z⟩)] at u2
  refine (or_f (zbi (b:=true) (zaP (zan (zac (d:=IN hs) rfl (zac (d:=nD n) (zbf (zac (d:=TN w) rfl zai) T.wlen) zai)) u1) rfl))).trans ?_
  exact zbi (b:=false) (zaP (zan (zac (d:=IN ts) rfl (zac (d:=nD n) (zbf (zac (d:=TN w) rfl zai) T.wlen) zai)) u2) rfl)
 ·rw [decide_eq_false c] at u1
  exact or_t (zbi (b:=false) (zaP (zan (zac (d:=IN hs) rfl (zac (d:=nD n) (zbf (zac (d:=TN w) rfl zai) T.wlen) zai)) u1) rfl))
theorem zlI (T:Tw rows w n):zaB [TN w,.tup []]=.ok (.bl false):=by
 refine zaH (B:=zas) (n:=4) ?_
 unfold zas
 have u:zaY [IN [],nD n]=.ok (.bl true):=zhI (hs:=[]) (b:=n) (by simp)
 refine (zae (zat (d:=IN []) (zmw (ps:=[]) (f:=(·.1)) rfl (by simp) fun p=>⟨[some (.int p.1),some (.int p.2)],rfl,rfl⟩))).trans ?_
 refine (zae (zat (d:=IN []) (zmw (ps:=[]) (f:=(·.2)) rfl (by simp) fun p=>⟨[some (.int p.1),some (.int p.2)],rfl,rfl⟩))).trans ?_
 refine (zae ((if_f ?_).trans (e_skip _))).trans ?_
 ·rw [or_f (zbi (b:=true) (zaP (zan (zac (d:=IN []) rfl (zac (d:=nD n) (zbf (zac (d:=TN w) rfl zai) T.wlen) zai)) u) rfl))]
  exact zbi (b:=true) (zaP (zan (zac (d:=IN []) rfl (zac (d:=nD n) (zbf (zac (d:=TN w) rfl zai) T.wlen) zai)) u) rfl)
 exact zap ((if_t (or_t (zbi (b:=false) rfl))).trans (zap (zay (d:=.bl false) rfl)))
theorem zlH (T:Tw rows w n) (hd:dl.Perm (List.range n)) (h:dOf dl 0≠dOf w 0):zaB [TN w,za3 (dOf dl) [0]]=.ok (.bl false):=by
 have h1:=T.n1
 have d0:=zgn hd (x:=0) (by omega)
 refine zaH (B:=zas) (n:=4) ?_
 unfold zas
 refine (zae (zat (d:=LN [0]) (zcQ (g:=dOf dl) (l:=[0]) nD rfl (by simp) fun h hh=>⟨[some (nD h),some (nD (dOf dl h))],rfl,rfl⟩))).trans ?_
 refine (zae (zat (d:=LN [dOf dl 0]) (zcQ (g:=dOf dl) (l:=[0]) (fun h=>nD (dOf dl h)) rfl (by simp) fun h hh=>⟨[some (nD h),some (nD (dOf dl h))],rfl,rfl⟩))).trans ?_
 refine (zae ((if_f ?_).trans (e_skip _))).trans ?_
 ·refine (or_f (zbi (b:=true) (zaP (zan (zac (d:=LN [0]) rfl (zac (d:=nD n) (zbf (zac (d:=TN w) rfl zai) T.wlen) zai)) (zcD (l:=[0]) (by simp) (fun k hk=>by have e0:k=0:=(by simpa using hk); omega) (by simp))) rfl))).trans ?_
  exact zbi (b:=true) (zaP (zan (zac (d:=LN [dOf dl 0]) rfl (zac (d:=nD n) (zbf (zac (d:=TN w) rfl zai) T.wlen) zai)) (zcD (l:=[dOf dl 0]) (by simp) (by simpa using d0) (by simp))) rfl)
 refine (zae ((if_f ?_).trans (e_skip _))).trans ?_
 ·refine (or_f (zbi (b:=true) (zaP (d:=LN [0]) rfl rfl))).trans ?_
  exact zaJ (zao (a:=nD 0) (b:=nD 0) (zao (a:=LN [0]) (b:=.int 0) rfl rfl rfl) (zbf (zac (d:=LN [0]) rfl zai) rfl) (by rw [zos,decide_eq_true rfl]; rfl))
 have e:=zni [dOf dl 0] [dOf w 0]
 rw [decide_eq_false (by simpa using h)] at e
 exact zap (zay (zao (a:=LN [dOf dl 0]) (b:=LN [dOf w 0]) rfl (zeX (l:=rot1 [0]) nD (fun h=>nD (dOf w h)) (zie (d:=LN (rot1 [0])) (zan (zac (d:=LN [0]) rfl zai) (zfX (by simp) (by simp))) rfl) (by simp [rot1]) fun h hh=>⟨[some (nD h),some (TN w)],rfl,zao (a:=TN w) (b:=nD h) rfl rfl (zfh T.wp (by have e0:h=0:=(by simpa [rot1] using hh); omega))⟩) e))
theorem zqt (T:Tw rows w n) (h:dOf dl 0=dOf w 0):Rk w n (dOf dl) [0]:=by
 have h1:=T.n1
 refine ⟨by simp,by simp,fun x hx=>by have e0:x=0:=(by simpa using hx); omega,fun x hx=>by simp,fun i hi=>?_⟩
 have:i=0:=by simp at hi; exact hi
 subst this
 exact h
end
end Law
end
section
namespace Law
open PySem PyProof.Rows L2 DL
theorem zq0 {rows ow dl rg x:D} (h:zad [rows,ow]=.exc x):zbR [rows,ow,dl,rg]=.exc x:=by
 refine zfb (B:=zcx) (n:=6) (r':=forget q108 [some rows,some ow,some dl,some rg,none,none]) ?_
 unfold zcx
 exact zb7 (zgx (zbP (zac (d:=rows) rfl (zac (d:=ow) rfl zai)) h))
theorem zoH {rows ow dl x:D} (h:zad [rows,ow]=.exc x):zcf [rows,ow,dl]=.exc x:=by
 refine zfb (B:=zbW) (n:=5) (r':=forget q107 [some rows,some ow,some dl,none,none]) ?_
 unfold zbW
 exact zb7 (zgx (zbP (zac (d:=rows) rfl (zac (d:=ow) rfl zai)) h))
theorem zk6 {rows ow dl rg x:D} {k:Nat} (h:zad [rows,ow]=.exc x):zau [nD k,rows,ow,dl,rg]=.exc x:=by
 refine zfb (B:=zaC) (n:=5) (r':=forget q109 [some (nD k),some rows,some ow,some dl,some rg]) ?_
 unfold zaC
 have t:=zaJ (zao (f:=gv 0) (f':=fun _=>Res.ok (D.int 0)) (r:=[some (nD k),some rows,some ow,some dl,some rg]) (a:=nD k) (b:=nD 0) rfl rfl (zfU k 0))
 by_cases c:k=0
 ·rw [decide_eq_true c] at t
  exact zb7 ((if_t t).trans (zb7 (zjU (zbP (zac (d:=rows) rfl (zac (d:=ow) rfl (zac (d:=dl) rfl (zac (d:=rg) rfl zai)))) (zq0 h)))))
 ·rw [decide_eq_false c] at t
  refine (zae ((if_f t).trans (e_skip _))).trans ?_
  exact zb7 (zjU (zbP (zac (d:=rows) rfl (zac (d:=ow) rfl (zac (d:=dl) rfl zai))) (zoH h)))
theorem zmF {rows ow dl rg:D} {k:Nat} (h1:∃d,zbR [rows,ow,dl,rg]=.ok d) (h2:∃d,zcf [rows,ow,dl]=.ok d):∃d,zau [nD k,rows,ow,dl,rg]=.ok d:=by
 obtain ⟨d1,h1⟩:=h1
 obtain ⟨d2,h2⟩:=h2
 have t:=zaJ (zao (f:=gv 0) (f':=fun _=>Res.ok (D.int 0)) (r:=[some (nD k),some rows,some ow,some dl,some rg]) (a:=nD k) (b:=nD 0) rfl rfl (zfU k 0))
 by_cases c:k=0
 ·rw [decide_eq_true c] at t
  refine ⟨d1,zaH (B:=zaC) (n:=5) ?_⟩
  unfold zaC
  exact zap ((if_t t).trans (zap (zay (zbP (zac (d:=rows) rfl (zac (d:=ow) rfl (zac (d:=dl) rfl (zac (d:=rg) rfl zai)))) h1))))
 ·rw [decide_eq_false c] at t
  refine ⟨d2,zaH (B:=zaC) (n:=5) ?_⟩
  unfold zaC
  refine (zae ((if_f t).trans (e_skip _))).trans ?_
  exact zap (zay (zbP (zac (d:=rows) rfl (zac (d:=ow) rfl (zac (d:=dl) rfl zai))) h2))
theorem zfe {rows ow dl rg:D} {k:Nat} {i:Int} (h:zad [rows,ow]=.exc (xD "NotOwned" [("hand",.int i)])):za9 [nD k,rows,ow,dl,rg]=.ok (.int i):=by
 refine zaH (B:=zba) (n:=8) ?_
 unfold zba
 refine (zae (zat (d:=.non) rfl)).trans ?_
 have hbd:(seqF (zec q103 (zc9 (zab (gv 0) (zab (gv 1) (zab (gv 2) (zab (gv 3) (zab (gv 4) lNil))))) [] zau)) zam) [some (nD k),some rows,some ow,some dl,some rg,some .non,none,none]=.exc (xD "NotOwned" [("hand",.int i)]) (forget q103 [some (nD k),some rows,some ow,some dl,some rg,some .non,none,none]):=
  zb7 (zgx (zbP (zac (d:=nD k) rfl (zac (d:=rows) rfl (zac (d:=ow) rfl (zac (d:=dl) rfl (zac (d:=rg) rfl zai))))) (zk6 h)))
 obtain ⟨w0,w1,w3,w4,hw⟩:∃w0 w1 w3 w4,forget q103 [some (nD k),some rows,some ow,some dl,some rg,some .non,none,none]=[w0,w1,some ow,w3,w4,some .non,none,none]:=⟨_,_,_,_,rfl⟩
 rw [hw] at hbd
 refine (zae (r':=[w0,w1,some ow,w3,w4,some (xD "NotOwned" [("hand",.int i)]),none,none]) ?_).trans ?_
 ·unfold tryF
  show (match (seqF (zec q103 (zc9 (zab (gv 0) (zab (gv 1) (zab (gv 2) (zab (gv 3) (zab (gv 4) lNil))))) [] zau)) zam) [some (nD k),some rows,some ow,some dl,some rg,some .non,none,none] with
   | .nx r'=>Out.nx (forget q103 r')
   | .rt d=>.rt d
   | .exc x r'=>_
   | _=>.stuck)=_
  rw [hbd]
  rfl
 refine (zae ((if_f (zaJ (zao (a:=xD "NotOwned" [("hand",.int i)]) (b:=.non) (d:=.bl false) rfl rfl rfl))).trans (e_skip _))).trans ?_
 refine (zae (zat (d:=.lst [.bl false,.bl false,.bl false,.bl false]) (zfl (zac (d:=.bl false) rfl (zac (d:=.bl false) rfl (zac (d:=.bl false) rfl (zac (d:=.bl false) rfl zai)))) (by simp)))).trans ?_
 refine (zae ((if_f ?_).trans (e_skip _))).trans ?_
 ·rw [or_f (zbi (b:=true) (by rfl)),or_f (zbi (b:=true) (by rfl)),or_f (by rfl)]; rfl
 refine (zae ((if_f ?_).trans (e_skip _))).trans ?_
 ·rw [or_f (by rfl)]; rfl
 exact zap (zay rfl)
theorem zi9 {rows ow dl rg:D} {k:Nat} (h1:∃d,zbR [rows,ow,dl,rg]=.ok d) (h2:∃d,zcf [rows,ow,dl]=.ok d):za9 [nD k,rows,ow,dl,rg]=.ok .non:=by
 obtain ⟨d,ha⟩:=zmF (k:=k) h1 h2
 refine zaH (B:=zba) (n:=8) ?_
 unfold zba
 refine (zae (zat (d:=.non) rfl)).trans ?_
 have hbd:(seqF (zec q103 (zc9 (zab (gv 0) (zab (gv 1) (zab (gv 2) (zab (gv 3) (zab (gv 4) lNil))))) [] zau)) zam) [some (nD k),some rows,some ow,some dl,some rg,some .non,none,none]=.nx [some (nD k),some rows,some ow,some dl,some rg,some .non,none,none]:=
  (zae (zh0 (zbP (zac (d:=nD k) rfl (zac (d:=rows) rfl (zac (d:=ow) rfl (zac (d:=dl) rfl (zac (d:=rg) rfl zai))))) ha))).trans (e_skip _)
 obtain ⟨w0,w1,w3,w4,hw⟩:∃w0 w1 w3 w4,forget q103 [some (nD k),some rows,some ow,some dl,some rg,some .non,none,none]=[w0,w1,some ow,w3,w4,some .non,none,none]:=⟨_,_,_,_,rfl⟩
 refine (zae (r':=[w0,w1,some ow,w3,w4,some .non,none,none]) ?_).trans ?_
 ·unfold tryF
  show (match (seqF (zec q103 (zc9 (zab (gv 0) (zab (gv 1) (zab (gv 2) (zab (gv 3) (zab (gv 4) lNil))))) [] zau)) zam) [some (nD k),some rows,some ow,some dl,some rg,some .non,none,none] with
   | .nx r'=>Out.nx (forget q103 r')
   | .rt d=>.rt d
   | .exc x r'=>_
   | _=>.stuck)=_
  rw [hbd,←hw]
 exact zap ((if_t (zaJ (zao (a:=.non) (b:=.non) (d:=.bl true) rfl rfl rfl))).trans (zap (zay (d:=.non) rfl)))
theorem zoa {l:List Nat} {n:Nat} (hn:l.Nodup) (hl:l.length=n) (hlt:∀x∈l,x < n):l.Perm (List.range n):=by
 refine Rg.zhO hn List.nodup_range fun x=>⟨fun h=>List.mem_range.mpr (hlt x h),fun h=>?_⟩
 refine Classical.byContradiction fun z=>?_
 have:=Rg.zcO (l:=x::l) (m:=List.range n) (List.nodup_cons.mpr ⟨z,hn⟩) fun y hy=>(List.mem_cons.mp hy).elim (fun e=>by rw [e]; exact h) fun k=>List.mem_range.mpr (hlt y k)
 simp at this; omega
theorem zor {l:List (Option Nat)} (h:none∉l):∃w:List Nat,l=w.map some:=by
 induction l with
 | nil=>exact ⟨[],rfl⟩
 | cons o l ih=>
  obtain ⟨w,e⟩:=ih fun z=>h (List.mem_cons_of_mem _ z)
  cases o with
  | none=>exact absurd List.mem_cons_self h
  | some x=>exact ⟨x::w,by rw [e]; rfl⟩
structure Ow (owns:List (Option Nat)) (n m:Nat):Prop where
 len:owns.length=n
 lt:∀x,some x∈owns→x < m
 all:none∉owns→m=n→∃w:List Nat,w.Perm (List.range n)∧owns=w.map some
theorem zqi {owns:List (Option Nat)} {n m:Nat} (h:Own owns m) (hl:owns.length=n):Ow owns n m:=by
 refine ⟨hl,h.lt,fun hn e=>?_⟩
 subst e
 obtain ⟨w,rfl⟩:=zor hn
 refine ⟨w,zoa ?_ (by simpa using hl) fun x hx=>h.lt x (List.mem_map.mpr ⟨x,hx,rfl⟩),rfl⟩
 rw [List.nodup_iff_pairwise_ne,List.pairwise_iff_getElem]
 intro i j hi hj hij e
 have h1:own (w.map some) i=some w[i]:=by unfold own; rw [List.getElem?_map,List.getElem?_eq_getElem hi]; rfl
 have h2:own (w.map some) j=some w[j]:=by unfold own; rw [List.getElem?_map,List.getElem?_eq_getElem hj]; rfl
 rw [←e] at h2
 exact absurd (h.inj i j _ h1 h2) (by omega)
theorem zqh {row:List Nat} {n m:Nat} (h:row.Perm (List.range m)) (hn:n≤m):Ow ((row.take n).map some) n m:=by
 have hl:row.length=m:=by rw [h.length_eq]; simp
 refine ⟨by simp [hl]; omega,fun x hx=>?_,fun _ e=>?_⟩
 ·obtain ⟨y,h1,h2⟩:=List.mem_map.mp hx
  cases h2
  exact List.mem_range.mp (h.mem_iff.mp (List.mem_of_mem_take h1))
 ·subst e
  rw [List.take_of_length_le (by omega)]
  exact ⟨row,h,rfl⟩
theorem zng (l:List (Option Nat)):(l.map oD).all za5=true:=by
 rw [List.all_eq_true]
 intro x hx
 obtain ⟨k,_,rfl⟩:=List.mem_map.mp hx
 cases k <;> rfl
theorem zoE (l:List (Option Nat)):inD .non (OD l)=some (.bl (decide (none∈l))):=by
 show (if za5 .non=true∧(l.map oD).all za5=true then some ((l.map oD).any fun y=>eqs y .non) else none).map D.bl=_
 rw [if_pos ⟨rfl,zng l⟩]
 have:((l.map oD).any fun y=>eqs y .non)=decide (none∈l):=by
  rw [List.any_map,Bool.eq_iff_iff,List.any_eq_true,decide_eq_true_iff]
  constructor
  ·rintro ⟨x,h1,h2⟩
   cases x with
   | none=>exact h1
   | some k=>cases (show false=true from h2)
  ·exact fun h=>⟨none,h,rfl⟩
 rw [this]; rfl
theorem find_none:∀{l:List (Option Nat)},none∈l→zea .non (l.map oD)=some (fn l)
 | none::l,_=>rfl
 | some x::l,h=>by
  have ih:=find_none (l:=l) (by simpa using h)
  show (zea .non (nD x::l.map oD))=some (fn l + 1)
  unfold zea
  rw [show eqs (nD x) .non=false from rfl]
  simp only [Bool.false_eq_true,if_false,ih]
  rfl
theorem zmi {l:List (Option Nat)} (h:none∈l):zdL (OD l) [.non]=some (nD (fn l)):=by
 show (if za5 .non=true∧(l.map oD).all za5=true then (zea .non (l.map oD)).map fun j=>D.int j else none)=_
 rw [if_pos ⟨rfl,zng l⟩,find_none h]; rfl
end Law
end
section
namespace Law
open PySem PyProof.Rows L2 DL
theorem zqD {a b:Nat} (h:a < 100):mulI (nD a) (nD b)=some (nD (a * b)):=by
 rw [zko (.inl ⟨by omega,by omega⟩)]
 show some (D.int _)=some (D.int _)
 rw [Int.natCast_mul]
theorem zm9 (i:Int):neD (.int i) (.int i)=some (.bl false):=by
 show some (D.bl (!(i == i)))=_
 simp
theorem zrX (ns:List Int):zo5 [IN ns]=.ok (.bl true):=by
 obtain ⟨c1,h1⟩:=zd4 ns 1 (by decide)
 obtain ⟨c2,h2⟩:=zd4 ns 2 (by decide)
 obtain ⟨c11,h11⟩:=zd4 ns 11 (by decide)
 obtain ⟨c12,h12⟩:=zd4 ns 12 (by decide)
 have hn:c1 % 7 < 7:=Nat.mod_lt _ (by decide)
 have hq:c1 / 7 % (9 - (1 + c1 % 7)) < 9 - (1 + c1 % 7):=Nat.mod_lt _ (by omega)
 have hb:c1 / 56 % 2 < 2:=Nat.mod_lt _ (by decide)
 have hm:c1 / 7 % (9 - (1 + c1 % 7)) * (c1 / 56 % 2) < 9 - (1 + c1 % 7):=by
  have:c1 / 56 % 2=0∨c1 / 56 % 2=1:=by omega
  rcases this with e | e <;> rw [e] <;> omega
 obtain ⟨rows,r1,r2,r3⟩:=zi4 ns 4 (1 + c1 % 7) (1 + c1 % 7 + c1 / 7 % (9 - (1 + c1 % 7)) * (c1 / 56 % 2)) (by omega) (by omega) (by omega)
 have hsub:subI (.int 9) (nD (1 + c1 % 7))=some (nD (9 - (1 + c1 % 7))):=by
  have e:(9:Int) - ((1 + c1 % 7:Nat):Int)=((9 - (1 + c1 % 7):Nat):Int):=by omega
  show some (D.int ((9:Int) - ((1 + c1 % 7:Nat):Int)))=some (D.int _)
  rw [e]
 generalize en:1 + c1 % 7=n at r1 r2 r3 hm hsub hq
 generalize em:n + c1 / 7 % (9 - n) * (c1 / 56 % 2)=m at r2 r3
 have hn1:1≤n:=by omega
 have hn7:n≤7:=by omega
 have hnm:n≤m:=by omega
 have hm8:m≤8:=by omega
 have R:Rw rows n m:=⟨hn1,hn7,r1,r2⟩
 obtain ⟨own0,w1,w2,w3⟩:=zlD c11 n m (by omega) (by omega)
 obtain ⟨row11,p1,p2⟩:=zhJ c11 m (by omega)
 obtain ⟨row12,q1,q2⟩:=zhJ c12 m (by omega)
 have ql:row12.length=m:=by rw [q1.length_eq]; simp
 refine zaH (B:=zmK) (n:=11) ?_
 unfold zmK
 refine (zae (zat (zan (zac (d:=IN ns) rfl (zac (d:=nD 1) rfl zai)) h1))).trans ?_
 refine (zae (zat (d:=nD n) (zao (a:=nD 1) (b:=nD (c1 % 7)) rfl (zao (a:=nD c1) (b:=nD 7) rfl rfl (zeH (by decide))) (by rw [zfD,en])))).trans ?_
 refine (zae (zat (d:=nD m) (zao (a:=nD n) (b:=nD (c1 / 7 % (9 - n) * (c1 / 56 % 2))) rfl (zao (a:=nD (c1 / 7 % (9 - n))) (b:=nD (c1 / 56 % 2)) (zao (a:=nD (c1 / 7)) (b:=nD (9 - n)) (zao (a:=nD c1) (b:=nD 7) rfl rfl (zes (by decide) (by decide))) (zao (a:=.int 9) (b:=nD n) rfl rfl hsub) (zeH (by omega))) (zao (a:=nD (c1 / 56)) (b:=nD 2) (zao (a:=nD c1) (b:=nD 56) rfl rfl (zes (by decide) (by decide))) rfl (zeH (by decide))) (zqD (by omega))) (by rw [zfD,em])))).trans ?_
 refine (zae (zat (zan (zac (d:=IN ns) rfl (zac (d:=nD 4) rfl (zac (d:=nD n) rfl (zac (d:=nD m) rfl zai)))) r3))).trans ?_
 refine (zae (zat (d:=OD own0) (zan (zac (zan (zac (d:=IN ns) rfl (zac (d:=nD 11) rfl zai)) h11) (zac (d:=nD n) rfl (zac (d:=nD m) rfl zai))) w3))).trans ?_
 obtain ⟨owns,ow,eo⟩:∃owns,Ow owns n m∧(ifF q101 (zaU (f2 (f2 (f2 (gv 1) (ci 112) zdz) (ci 4) modI) (ci 1) eqD)) (seqF (setF q101 5 (fSlA (zaR (zab (zaR (zab (gv 0) (zab (ci 11) lNil)) [] zaM) (zab (gv 3) lNil)) [] zbl) (fun _=>Res.ok none) (zhk (gv 2)))) zam) zam) [some (IN ns),some (nD c1),some (nD n),some (nD m),some (WD rows),some (OD own0),none,none,none,none,none]=.nx [some (IN ns),some (nD c1),some (nD n),some (nD m),some (WD rows),some (OD owns),none,none,none,none,none]:=by
  have t:=zaJ (zao (f:=f2 (f2 (gv 1) (ci 112) zdz) (ci 4) modI) (f':=fun _=>Res.ok (D.int 1)) (r:=[some (IN ns),some (nD c1),some (nD n),some (nD m),some (WD rows),some (OD own0),none,none,none,none,none]) (a:=nD (c1 / 112 % 4)) (b:=nD 1) (zao (a:=nD (c1 / 112)) (b:=nD 4) (zao (a:=nD c1) (b:=nD 112) rfl rfl (zes (by decide) (by decide))) rfl (zeH (by decide))) rfl (zfU _ _))
  by_cases c:c1 / 112 % 4=1
  ·rw [decide_eq_true c] at t
   refine ⟨(row11.take n).map some,zqh p1 hnm,(if_t t).trans (zae ?_)⟩
   exact zat (d:=OD ((row11.take n).map some)) (zid (d:=TN row11) (zan (zac (zan (zac (d:=IN ns) rfl (zac (d:=nD 11) rfl zai)) h11) (zac (d:=nD m) rfl zai)) p2) rfl (zgp (i:=((n:Nat):Int)) rfl) (by rw [zjH,←List.map_take,zgE]))
  ·rw [decide_eq_false c] at t
   exact ⟨own0,zqi w1 w2,(if_f t).trans (e_skip _)⟩
 refine (zae eo).trans ?_
 refine (zae (zat (d:=TN (row12.take n)) (zid (d:=TN row12) (zan (zac (zan (zac (d:=IN ns) rfl (zac (d:=nD 12) rfl zai)) h12) (zac (d:=nD m) rfl zai)) q2) rfl (zgp (i:=((n:Nat):Int)) rfl) (by rw [zjH,←List.map_take])))).trans ?_
 refine (zae (zat (d:=nD c2) (zan (zac (d:=IN ns) rfl (zac (d:=nD 2) rfl zai)) h2))).trans ?_
 have hdl0:ixA (TN (row12.take n)) (.int 0)=some (nD (dOf (row12.take n) 0)):=by
  have:=zre (dl:=row12.take n) (h:=0) (by simp; omega)
  exact zjl (i:=0) this
 have hc4:c2 % 4 < 4:=Nat.mod_lt _ (by decide)
 obtain ⟨ring,hr,hg⟩:∃ring:D,([za3 (dOf (row12.take n)) [0],rg [((n:Int) - 1,0),(0,-1)],rg [],rg [(10 ^ 20,-3)]]:List D)[c2 % 4]? = some ring∧∀w:List Nat,m=n→w.Perm (List.range n)→∃d,zbR [WD rows,TN w,TN (row12.take n),ring]=.ok d:=by
  have bad:∀(ps:List (Int × Int)),ps.length≤30→¬ (fw n [] (ps.map (·.1))=ps.length∧fw n [] (ps.map (·.2))=ps.length)→∀w:List Nat,m=n→w.Perm (List.range n)→∃d,zbR [WD rows,TN w,TN (row12.take n),rg ps]=.ok d:=fun ps hl hb w e hw=>
   ⟨_,zhW (T:=⟨hn1,hn7,r1,fun row hh=>by rw [←e]; exact r2 row hh,hw⟩) (zlG (T:=⟨hn1,hn7,r1,fun row hh=>by rw [←e]; exact r2 row hh,hw⟩) hl hb)⟩
  generalize c2 % 4=j at hc4
  match j,hc4 with
  | 0,_=>
   refine ⟨_,rfl,fun w e hw=>?_⟩
   have T:Tw rows w n:=⟨hn1,hn7,r1,fun row hh=>by rw [←e]; exact r2 row hh,hw⟩
   have hd:(row12.take n).Perm (List.range n):=by
    rw [List.take_of_length_le (by omega),←e]
    exact q1
   by_cases c:dOf (row12.take n) 0=dOf w 0
   ·obtain ⟨b,hb⟩:=zmm T hd (zqt T c)
    exact ⟨_,hb⟩
   ·exact ⟨_,zhW T (zlH T hd c)⟩
  | 1,_=>
   refine ⟨_,rfl,bad _ (by simp) fun z=>?_⟩
   have h2:fw n [] [0,-1]=2:=z.2
   unfold fw at h2
   split at h2
   ·unfold fw at h2
    rw [if_neg (by omega)] at h2
    cases h2
   ·cases h2
  | 2,_=>
   refine ⟨_,rfl,fun w e hw=>?_⟩
   have T:Tw rows w n:=⟨hn1,hn7,r1,fun row hh=>by rw [←e]; exact r2 row hh,hw⟩
   exact ⟨_,zhW T (zlI T)⟩
  | 3,_=>
   refine ⟨_,rfl,bad _ (by simp) fun z=>?_⟩
   have h2:fw n [] [10 ^ 20]=1:=z.1
   unfold fw at h2
   rw [if_neg (by omega)] at h2
   cases h2
 refine (zae (zat (d:=ring) (zao (a:=.lst [za3 (dOf (row12.take n)) [0],rg [((n:Int) - 1,0),(0,-1)],rg [],rg [(10 ^ 20,-3)]]) (b:=nD (c2 % 4))
  (zfl (zac (d:=za3 (dOf (row12.take n)) [0]) (zdF (zac (zdF (zac (d:=.int 0) rfl (zac (zao (a:=TN (row12.take n)) (b:=.int 0) rfl rfl hdl0) zai)) (by simp)) zai) (by simp)) (zac (d:=rg [((n:Int) - 1,0),(0,-1)]) (zdF (zac (zdF (zac (zao (a:=nD n) (b:=.int 1) rfl rfl rfl) (zac (d:=.int 0) rfl zai)) (by simp)) (zac (zdF (zac (d:=.int 0) rfl (zac (d:=.int (-1)) rfl zai)) (by simp)) zai)) (by simp)) (zac (d:=rg []) (zdF zai (by simp)) (zac (d:=rg [(10 ^ 20,-3)]) (zdF (zac (zdF (zac (d:=.int (10 ^ 20)) rfl (zac (d:=.int (-3)) rfl zai)) (by simp)) zai) (by simp)) zai)))) (by simp))
  (zao (a:=nD c2) (b:=nD 4) rfl rfl (zeH (by decide))) (zoB hr)))).trans ?_
 refine (zae (zat (d:=.non) rfl)).trans ?_
 obtain ⟨due,hs,hf⟩:∃due:D,(ifF q101 (zaU (f2 (gv 3) (gv 2) gtI)) (seqF (setF q101 9 (f1 (ci 1) negI)) zam) (seqF (ifF q101 (zaU (f2 (fun _=>Res.ok D.non) (gv 5) inD)) (seqF (setF q101 9 (fM "tuple" (gv 5) (zab (fun _=>Res.ok D.non) lNil) zdL)) zam) zam) zam)) [some (IN ns),some (nD c1),some (nD n),some (nD m),some (WD rows),some (OD owns),some (TN (row12.take n)),some (nD c2),some ring,some .non,none]=.nx [some (IN ns),some (nD c1),some (nD n),some (nD m),some (WD rows),some (OD owns),some (TN (row12.take n)),some (nD c2),some ring,some due,none] ∧
   ∀k:Nat,za9 [nD k,WD rows,OD owns,TN (row12.take n),ring]=.ok due∧neD due due=some (.bl false):=by
  have t:=zaJ (zao (f:=gv 3) (f':=gv 2) (r:=[some (IN ns),some (nD c1),some (nD n),some (nD m),some (WD rows),some (OD owns),some (TN (row12.take n)),some (nD c2),some ring,some .non,none]) (a:=nD m) (b:=nD n) rfl rfl (zoG m n))
  by_cases c:n < m
  ·rw [decide_eq_true c] at t
   exact ⟨.int (-1),(if_t t).trans (zae (zat (d:=.int (-1)) rfl)),fun k=>⟨zfe (znS R (by omega) _),zm9 _⟩⟩
  ·rw [decide_eq_false c] at t
   have e:m=n:=by omega
   have R2:Rw rows n n:=⟨hn1,hn7,r1,fun row hh=>by rw [←e]; exact r2 row hh⟩
   have t2:=zaJ (zao (f:=fun _=>Res.ok D.non) (f':=gv 5) (r:=[some (IN ns),some (nD c1),some (nD n),some (nD m),some (WD rows),some (OD owns),some (TN (row12.take n)),some (nD c2),some ring,some .non,none]) (a:=.non) (b:=OD owns) rfl rfl (zoE owns))
   have hlt:∀x,some x∈owns→x < n:=fun x hx=>by rw [←e]; exact ow.lt x hx
   by_cases c3:none∈owns
   ·rw [decide_eq_true c3] at t2
    refine ⟨nD (fn owns),(if_f t).trans ((zae ((if_t t2).trans (zae (zat (d:=nD (fn owns)) (zoO (d:=OD owns) rfl rfl (zac (d:=.non) rfl zai) (zmi c3)))))).trans (e_skip _)),fun k=>⟨zfe (znT R2 ow.len hlt c3),zm9 _⟩⟩
   ·rw [decide_eq_false c3] at t2
    refine ⟨.non,(if_f t).trans ((zae ((if_f t2).trans (e_skip _))).trans (e_skip _)),fun k=>⟨?_,rfl⟩⟩
    obtain ⟨w,hw,ew⟩:=ow.all c3 e
    subst ew
    rw [zgE]
    have T:Tw rows w n:=⟨hn1,hn7,r1,fun row hh=>by rw [←e]; exact r2 row hh,hw⟩
    have hd:(row12.take n).Perm (List.range n):=by
     rw [List.take_of_length_le (by omega),←e]
     exact q1
    exact zi9 (hg w e hw) (zjQ T hd)
 refine (zae hs).trans ?_
 have step:∀(k:Nat) (y:Option D),zld [some (IN ns),some (nD c1),some (nD n),some (nD m),some (WD rows),some (OD owns),some (TN (row12.take n)),some (nD c2),some ring,some due,some (nD k)]=.nx [some (IN ns),some (nD c1),some (nD n),some (nD m),some (WD rows),some (OD owns),some (TN (row12.take n)),some (nD c2),some ring,some due,some (nD k)]:=fun k y=>
  zae ((if_f (zaJ (zao (a:=due) (b:=due) (zan (zac (d:=nD k) rfl (zac (d:=WD rows) rfl (zac (d:=OD owns) rfl (zac (d:=TN (row12.take n)) rfl (zac (d:=ring) rfl zai))))) (hf k).1) rfl (hf k).2))).trans (e_skip _))
 have hb2:c2 / 4 % 2 < 2:=Nat.mod_lt _ (by decide)
 have hs1:subI (.int 1) (nD (c2 / 4 % 2))=some (nD (1 - c2 / 4 % 2)):=by
  have e:(1:Int) - ((c2 / 4 % 2:Nat):Int)=((1 - c2 / 4 % 2:Nat):Int):=by omega
  show some (D.int ((1:Int) - ((c2 / 4 % 2:Nat):Int)))=some (D.int _)
  rw [e]
 have hw:∀r:Rho,r[7]? = some (some (nD c2))→(f2 (f2 (gv 7) (ci 4) zdz) (ci 2) modI) r=.ok (nD (c2 / 4 % 2)):=fun r e=>
  zao (a:=nD (c2 / 4)) (b:=nD 2) (zao (a:=nD c2) (b:=nD 4) (by show getV r 7=_; unfold getV; rw [e]) rfl (zes (by decide) (by decide))) rfl (zeH (by decide))
 refine (zae (r':=[some (IN ns),some (nD c1),some (nD n),some (nD m),some (WD rows),some (OD owns),some (TN (row12.take n)),some (nD c2),some ring,some due,some (nD (c2 / 4 % 2))]) ((zbI (ds:=[nD (c2 / 4 % 2),nD (1 - c2 / 4 % 2),nD (c2 / 4 % 2)]) (zie (zfl (zac (hw _ rfl) (zac (zao (a:=.int 1) (b:=nD (c2 / 4 % 2)) rfl (hw _ rfl) hs1) (zac (hw _ rfl) zai))) (by simp)) rfl)).trans ?_)).trans ?_
 ·refine (zcs (r1:=[some (IN ns),some (nD c1),some (nD n),some (nD m),some (WD rows),some (OD owns),some (TN (row12.take n)),some (nD c2),some ring,some due,some (nD (c2 / 4 % 2))]) rfl (step _ none)).trans ?_
  refine (zcs (r1:=[some (IN ns),some (nD c1),some (nD n),some (nD m),some (WD rows),some (OD owns),some (TN (row12.take n)),some (nD c2),some ring,some due,some (nD (1 - c2 / 4 % 2))]) rfl (step _ none)).trans ?_
  exact (zcs (r1:=[some (IN ns),some (nD c1),some (nD n),some (nD m),some (WD rows),some (OD owns),some (TN (row12.take n)),some (nD c2),some ring,some due,some (nD (c2 / 4 % 2))]) rfl (step _ none)).trans zbX
 exact zap (zay (d:=.bl true) rfl)
theorem main (ns:List Int) (_:ns.length≤63):zo5 [.lst (ns.map .int)]=.ok (.bl true):=zrX ns
end Law
end
open PySem PySem.W PyProof.Rows
namespace Law
open PySem PySem.Spec PyProof.Rows L2 DL
theorem pack {P:Program} {w:World} {K:PySem.W.Frag} {h:Heap} {mg:Str→Option Value} (KX:K.In h) (G:h.Ns mainGlobals mg) {c_TradeError:Addr} {c_TooMany:Addr} {c_NotSquare:Addr} {c_NoRow:Addr} {c_NoOwn:Addr} {c_NotOwned:Addr} {c_NoOrder:Addr} {b_TradeError:List Value} {b_TooMany:List Value} {b_NotSquare:List Value} {b_NoRow:List Value} {b_NoOwn:List Value} {b_NotOwned:List Value} {b_NoOrder:List Value} {n_NotOwned:Addr} {f_NotOwned:Addr} {oc_NotOwned kV_NotOwned doc_NotOwned pm_NotOwned cdv_NotOwned ct_NotOwned:Value} {od_NotOwned an_NotOwned:Option Addr} {osl_NotOwned:Array (Option Value)} {n_NoRow:Addr} {n_NoOwn:Addr}
  (a_TradeError:PySem.W.nsIn K mainGlobals "TradeError" = some (some (.ref c_TradeError)))
  (a_TooMany:PySem.W.nsIn K mainGlobals "TooMany" = some (some (.ref c_TooMany)))
  (a_NotSquare:PySem.W.nsIn K mainGlobals "NotSquare" = some (some (.ref c_NotSquare)))
  (a_NoRow:PySem.W.nsIn K mainGlobals "NoRow" = some (some (.ref c_NoRow)))
  (a_NoOwn:PySem.W.nsIn K mainGlobals "NoOwn" = some (some (.ref c_NoOwn)))
  (a_NotOwned:PySem.W.nsIn K mainGlobals "NotOwned" = some (some (.ref c_NotOwned)))
  (a_NoOrder:PySem.W.nsIn K mainGlobals "NoOrder" = some (some (.ref c_NoOrder)))
  (o_TradeError:DL.xoIn K c_TradeError=some (b_TradeError,(Str.ofString "TradeError")))
  (be_TradeError:b_TradeError.contains (Value.type "BaseException")=true)
  (bo_TradeError:b_TradeError.contains (Value.type "object")=true)
  (ga_TradeError:PySem.W.findIn K (.ref c_TradeError) "__getattribute__" = some (some (.builtin "BaseException.__getattribute__")))
  (gn_TradeError:PySem.W.findIn K (.ref c_TradeError) "__getattr__" = some (none))
  (gc_TradeError:PySem.W.findIn K (.ref c_TradeError) "__class__" = some (some (.builtin "object.__class__")))
  (un_TradeError:DL.unIn K "TradeError" c_TradeError=true)
  (o_TooMany:DL.xoIn K c_TooMany=some (b_TooMany,(Str.ofString "TooMany")))
  (be_TooMany:b_TooMany.contains (Value.type "BaseException")=true)
  (bo_TooMany:b_TooMany.contains (Value.type "object")=true)
  (ga_TooMany:PySem.W.findIn K (.ref c_TooMany) "__getattribute__" = some (some (.builtin "BaseException.__getattribute__")))
  (gn_TooMany:PySem.W.findIn K (.ref c_TooMany) "__getattr__" = some (none))
  (gc_TooMany:PySem.W.findIn K (.ref c_TooMany) "__class__" = some (some (.builtin "object.__class__")))
  (un_TooMany:DL.unIn K "TooMany" c_TooMany=true)
  (o_NotSquare:DL.xoIn K c_NotSquare=some (b_NotSquare,(Str.ofString "NotSquare")))
  (be_NotSquare:b_NotSquare.contains (Value.type "BaseException")=true)
  (bo_NotSquare:b_NotSquare.contains (Value.type "object")=true)
  (ga_NotSquare:PySem.W.findIn K (.ref c_NotSquare) "__getattribute__" = some (some (.builtin "BaseException.__getattribute__")))
  (gn_NotSquare:PySem.W.findIn K (.ref c_NotSquare) "__getattr__" = some (none))
  (gc_NotSquare:PySem.W.findIn K (.ref c_NotSquare) "__class__" = some (some (.builtin "object.__class__")))
  (un_NotSquare:DL.unIn K "NotSquare" c_NotSquare=true)
  (o_NoRow:DL.xoIn K c_NoRow=some (b_NoRow,(Str.ofString "NoRow")))
  (be_NoRow:b_NoRow.contains (Value.type "BaseException")=true)
  (bo_NoRow:b_NoRow.contains (Value.type "object")=true)
  (ga_NoRow:PySem.W.findIn K (.ref c_NoRow) "__getattribute__" = some (some (.builtin "BaseException.__getattribute__")))
  (gn_NoRow:PySem.W.findIn K (.ref c_NoRow) "__getattr__" = some (none))
  (gc_NoRow:PySem.W.findIn K (.ref c_NoRow) "__class__" = some (some (.builtin "object.__class__")))
  (un_NoRow:DL.unIn K "NoRow" c_NoRow=true)
  (o_NoOwn:DL.xoIn K c_NoOwn=some (b_NoOwn,(Str.ofString "NoOwn")))
  (be_NoOwn:b_NoOwn.contains (Value.type "BaseException")=true)
  (bo_NoOwn:b_NoOwn.contains (Value.type "object")=true)
  (ga_NoOwn:PySem.W.findIn K (.ref c_NoOwn) "__getattribute__" = some (some (.builtin "BaseException.__getattribute__")))
  (gn_NoOwn:PySem.W.findIn K (.ref c_NoOwn) "__getattr__" = some (none))
  (gc_NoOwn:PySem.W.findIn K (.ref c_NoOwn) "__class__" = some (some (.builtin "object.__class__")))
  (un_NoOwn:DL.unIn K "NoOwn" c_NoOwn=true)
  (o_NotOwned:DL.xoIn K c_NotOwned=some (b_NotOwned,(Str.ofString "NotOwned")))
  (be_NotOwned:b_NotOwned.contains (Value.type "BaseException")=true)
  (bo_NotOwned:b_NotOwned.contains (Value.type "object")=true)
  (ga_NotOwned:PySem.W.findIn K (.ref c_NotOwned) "__getattribute__" = some (some (.builtin "BaseException.__getattribute__")))
  (gn_NotOwned:PySem.W.findIn K (.ref c_NotOwned) "__getattr__" = some (none))
  (gc_NotOwned:PySem.W.findIn K (.ref c_NotOwned) "__class__" = some (some (.builtin "object.__class__")))
  (un_NotOwned:DL.unIn K "NotOwned" c_NotOwned=true)
  (o_NoOrder:DL.xoIn K c_NoOrder=some (b_NoOrder,(Str.ofString "NoOrder")))
  (be_NoOrder:b_NoOrder.contains (Value.type "BaseException")=true)
  (bo_NoOrder:b_NoOrder.contains (Value.type "object")=true)
  (ga_NoOrder:PySem.W.findIn K (.ref c_NoOrder) "__getattribute__" = some (some (.builtin "BaseException.__getattribute__")))
  (gn_NoOrder:PySem.W.findIn K (.ref c_NoOrder) "__getattr__" = some (none))
  (gc_NoOrder:PySem.W.findIn K (.ref c_NoOrder) "__class__" = some (some (.builtin "object.__class__")))
  (un_NoOrder:DL.unIn K "NoOrder" c_NoOrder=true)
  (gg:PySem.W.specialIn K (.builtin "object.__class__") "__get__" = some (some (.builtin "getset_descriptor.__get__")))
  (gt:PySem.W.takesIn K (.builtin "object.__class__")=some true)
  (ns_NotOwned:DL.nsOf K c_NotOwned=some n_NotOwned)
  (z_NotOwned:DL.zkIn K c_NotOwned n_NotOwned=true)
  (g0_NotOwned:PySem.W.findIn K (.ref c_NotOwned) "__setattr__" = some (some (.builtin "object.__setattr__")))
  (g1_NotOwned:PySem.W.findIn K (.ref c_NotOwned) "hand" = some none)
  (sp_TradeError:PySem.W.specialIn K (.ref c_TradeError) "__getattribute__" = some (some (.builtin "type.__getattribute__")))
  (rd_TradeError:PySem.W.readsIn K c_TradeError (.type "type")=true)
  (fn_TradeError:PySem.W.findCls K (.ref c_TradeError) (.type "type") "__init__" = some (.val (.builtin "ValueError.__init__")))
  (i_NotOwned:PySem.W.nsIn K n_NotOwned "__init__" = some (some (.ref f_NotOwned)))
  (kp_NotOwned:PySem.W.keepIn K (.ref c_NotOwned)=true)
  (l_NotOwned:K.lookup f_NotOwned=some ⟨oc_NotOwned,od_NotOwned,.func (PySem.W.fnOf "__init__" "NotOwned.__init__" (L2.defArgs Law.zbS) (L2.defBody Law.zbS) (L2.defScope Law.zbS) .none kV_NotOwned doc_NotOwned pm_NotOwned an_NotOwned cdv_NotOwned ct_NotOwned),osl_NotOwned⟩)
  (cd_NotOwned:PySem.W.codeIn K cdv_NotOwned "NotOwned.__init__" = true)
  (kk_NotOwned:PySem.W.keepIn K (.ref f_NotOwned)=true)
  (fc_NotOwned:PySem.W.typeIn K (.ref f_NotOwned)=some (.type "function"))
  (h_TradeError_TradeError:(Value.ref c_TradeError::b_TradeError).contains (.ref c_TradeError)=true)
  (h_TradeError_TooMany:(Value.ref c_TooMany::b_TooMany).contains (.ref c_TradeError)=true)
  (h_TradeError_NotSquare:(Value.ref c_NotSquare::b_NotSquare).contains (.ref c_TradeError)=true)
  (h_TradeError_NoRow:(Value.ref c_NoRow::b_NoRow).contains (.ref c_TradeError)=true)
  (h_TradeError_NoOwn:(Value.ref c_NoOwn::b_NoOwn).contains (.ref c_TradeError)=true)
  (h_TradeError_NotOwned:(Value.ref c_NotOwned::b_NotOwned).contains (.ref c_TradeError)=true)
  (h_TradeError_NoOrder:(Value.ref c_NoOrder::b_NoOrder).contains (.ref c_TradeError)=true)
  (nn_TooMany:PySem.W.kitOne K (.type "NoneType") (.ref c_TooMany)=some false)
  (k_TooMany_TradeError:PySem.W.kitOne K (.ref c_TradeError) (.ref c_TooMany)=Law.zdJ "TradeError")
  (k_TooMany_TooMany:PySem.W.kitOne K (.ref c_TooMany) (.ref c_TooMany)=Law.zdJ "TooMany")
  (k_TooMany_NotSquare:PySem.W.kitOne K (.ref c_NotSquare) (.ref c_TooMany)=Law.zdJ "NotSquare")
  (k_TooMany_NoRow:PySem.W.kitOne K (.ref c_NoRow) (.ref c_TooMany)=Law.zdJ "NoRow")
  (k_TooMany_NoOwn:PySem.W.kitOne K (.ref c_NoOwn) (.ref c_TooMany)=Law.zdJ "NoOwn")
  (k_TooMany_NotOwned:PySem.W.kitOne K (.ref c_NotOwned) (.ref c_TooMany)=Law.zdJ "NotOwned")
  (k_TooMany_NoOrder:PySem.W.kitOne K (.ref c_NoOrder) (.ref c_TooMany)=Law.zdJ "NoOrder")
  (nn_NoRow:PySem.W.kitOne K (.type "NoneType") (.ref c_NoRow)=some false)
  (k_NoRow_TradeError:PySem.W.kitOne K (.ref c_TradeError) (.ref c_NoRow)=Law.ze2 "TradeError")
  (k_NoRow_TooMany:PySem.W.kitOne K (.ref c_TooMany) (.ref c_NoRow)=Law.ze2 "TooMany")
  (k_NoRow_NotSquare:PySem.W.kitOne K (.ref c_NotSquare) (.ref c_NoRow)=Law.ze2 "NotSquare")
  (k_NoRow_NoRow:PySem.W.kitOne K (.ref c_NoRow) (.ref c_NoRow)=Law.ze2 "NoRow")
  (k_NoRow_NoOwn:PySem.W.kitOne K (.ref c_NoOwn) (.ref c_NoRow)=Law.ze2 "NoOwn")
  (k_NoRow_NotOwned:PySem.W.kitOne K (.ref c_NotOwned) (.ref c_NoRow)=Law.ze2 "NotOwned")
  (k_NoRow_NoOrder:PySem.W.kitOne K (.ref c_NoOrder) (.ref c_NoRow)=Law.ze2 "NoOrder")
  (nn_NoOwn:PySem.W.kitOne K (.type "NoneType") (.ref c_NoOwn)=some false)
  (k_NoOwn_TradeError:PySem.W.kitOne K (.ref c_TradeError) (.ref c_NoOwn)=Law.ze3 "TradeError")
  (k_NoOwn_TooMany:PySem.W.kitOne K (.ref c_TooMany) (.ref c_NoOwn)=Law.ze3 "TooMany")
  (k_NoOwn_NotSquare:PySem.W.kitOne K (.ref c_NotSquare) (.ref c_NoOwn)=Law.ze3 "NotSquare")
  (k_NoOwn_NoRow:PySem.W.kitOne K (.ref c_NoRow) (.ref c_NoOwn)=Law.ze3 "NoRow")
  (k_NoOwn_NoOwn:PySem.W.kitOne K (.ref c_NoOwn) (.ref c_NoOwn)=Law.ze3 "NoOwn")
  (k_NoOwn_NotOwned:PySem.W.kitOne K (.ref c_NotOwned) (.ref c_NoOwn)=Law.ze3 "NotOwned")
  (k_NoOwn_NoOrder:PySem.W.kitOne K (.ref c_NoOrder) (.ref c_NoOwn)=Law.ze3 "NoOrder")
  (nn_NoOrder:PySem.W.kitOne K (.type "NoneType") (.ref c_NoOrder)=some false)
  (k_NoOrder_TradeError:PySem.W.kitOne K (.ref c_TradeError) (.ref c_NoOrder)=Law.zdK "TradeError")
  (k_NoOrder_TooMany:PySem.W.kitOne K (.ref c_TooMany) (.ref c_NoOrder)=Law.zdK "TooMany")
  (k_NoOrder_NotSquare:PySem.W.kitOne K (.ref c_NotSquare) (.ref c_NoOrder)=Law.zdK "NotSquare")
  (k_NoOrder_NoRow:PySem.W.kitOne K (.ref c_NoRow) (.ref c_NoOrder)=Law.zdK "NoRow")
  (k_NoOrder_NoOwn:PySem.W.kitOne K (.ref c_NoOwn) (.ref c_NoOrder)=Law.zdK "NoOwn")
  (k_NoOrder_NotOwned:PySem.W.kitOne K (.ref c_NotOwned) (.ref c_NoOrder)=Law.zdK "NotOwned")
  (k_NoOrder_NoOrder:PySem.W.kitOne K (.ref c_NoOrder) (.ref c_NoOrder)=Law.zdK "NoOrder")
  (nn_NotSquare:PySem.W.kitOne K (.type "NoneType") (.ref c_NotSquare)=some false)
  (k_NotSquare_TradeError:PySem.W.kitOne K (.ref c_TradeError) (.ref c_NotSquare)=Law.zcM "TradeError")
  (k_NotSquare_TooMany:PySem.W.kitOne K (.ref c_TooMany) (.ref c_NotSquare)=Law.zcM "TooMany")
  (k_NotSquare_NotSquare:PySem.W.kitOne K (.ref c_NotSquare) (.ref c_NotSquare)=Law.zcM "NotSquare")
  (k_NotSquare_NoRow:PySem.W.kitOne K (.ref c_NoRow) (.ref c_NotSquare)=Law.zcM "NoRow")
  (k_NotSquare_NoOwn:PySem.W.kitOne K (.ref c_NoOwn) (.ref c_NotSquare)=Law.zcM "NoOwn")
  (k_NotSquare_NotOwned:PySem.W.kitOne K (.ref c_NotOwned) (.ref c_NotSquare)=Law.zcM "NotOwned")
  (k_NotSquare_NoOrder:PySem.W.kitOne K (.ref c_NoOrder) (.ref c_NotSquare)=Law.zcM "NoOrder")
  (nn_ValueError:PySem.W.kitOne K (.type "NoneType") (.type "ValueError")=some false)
  (k_ValueError_TradeError:PySem.W.kitOne K (.ref c_TradeError) (.type "ValueError")=Law.zcy "TradeError")
  (k_ValueError_TooMany:PySem.W.kitOne K (.ref c_TooMany) (.type "ValueError")=Law.zcy "TooMany")
  (k_ValueError_NotSquare:PySem.W.kitOne K (.ref c_NotSquare) (.type "ValueError")=Law.zcy "NotSquare")
  (k_ValueError_NoRow:PySem.W.kitOne K (.ref c_NoRow) (.type "ValueError")=Law.zcy "NoRow")
  (k_ValueError_NoOwn:PySem.W.kitOne K (.ref c_NoOwn) (.type "ValueError")=Law.zcy "NoOwn")
  (k_ValueError_NotOwned:PySem.W.kitOne K (.ref c_NotOwned) (.type "ValueError")=Law.zcy "NotOwned")
  (k_ValueError_NoOrder:PySem.W.kitOne K (.ref c_NoOrder) (.type "ValueError")=Law.zcy "NoOrder")
  (nn_NotOwned:PySem.W.kitOne K (.type "NoneType") (.ref c_NotOwned)=some false)
  (k_NotOwned_TradeError:PySem.W.kitOne K (.ref c_TradeError) (.ref c_NotOwned)=Law.zda "TradeError")
  (k_NotOwned_TooMany:PySem.W.kitOne K (.ref c_TooMany) (.ref c_NotOwned)=Law.zda "TooMany")
  (k_NotOwned_NotSquare:PySem.W.kitOne K (.ref c_NotSquare) (.ref c_NotOwned)=Law.zda "NotSquare")
  (k_NotOwned_NoRow:PySem.W.kitOne K (.ref c_NoRow) (.ref c_NotOwned)=Law.zda "NoRow")
  (k_NotOwned_NoOwn:PySem.W.kitOne K (.ref c_NoOwn) (.ref c_NotOwned)=Law.zda "NoOwn")
  (k_NotOwned_NotOwned:PySem.W.kitOne K (.ref c_NotOwned) (.ref c_NotOwned)=Law.zda "NotOwned")
  (k_NotOwned_NoOrder:PySem.W.kitOne K (.ref c_NoOrder) (.ref c_NotOwned)=Law.zda "NoOrder")
  (ns_NoRow:DL.nsOf K c_NoRow=some n_NoRow)
  (z_NoRow:DL.zkIn K c_NoRow n_NoRow=true)
  (g0_NoRow:PySem.W.findIn K (.ref c_NoRow) "__setattr__" = some (some (.builtin "object.__setattr__")))
  (g1_NoRow:PySem.W.findIn K (.ref c_NoRow) "hand" = some none)
  (ns_NoOwn:DL.nsOf K c_NoOwn=some n_NoOwn)
  (z_NoOwn:DL.zkIn K c_NoOwn n_NoOwn=true)
  (g0_NoOwn:PySem.W.findIn K (.ref c_NoOwn) "__setattr__" = some (some (.builtin "object.__setattr__")))
  (g1_NoOwn:PySem.W.findIn K (.ref c_NoOwn) "hand" = some none):∃(C_TradeError:Addr) (C_TooMany:Addr) (C_NotSquare:Addr) (C_NoRow:Addr) (C_NoOwn:Addr) (C_NotOwned:Addr) (C_NoOrder:Addr) (bm_TradeError:List Value) (bm_TooMany:List Value) (bm_NotSquare:List Value) (bm_NoRow:List Value) (bm_NoOwn:List Value) (bm_NotOwned:List Value) (bm_NoOrder:List Value),(∀base,XCI P w K mg base "NotOwned" C_NotOwned "hand")∧(XN K "NotOwned" C_NotOwned)∧(XA K C_TradeError bm_TradeError)∧(mg "TradeError" = some (.ref C_TradeError))∧(zmH K C_TradeError zcz)∧(mg "TooMany" = some (.ref C_TooMany))∧(IsxOk K (.ref C_TooMany) zdJ)∧(mg "NoRow" = some (.ref C_NoRow))∧(IsxOk K (.ref C_NoRow) ze2)∧(mg "NoOwn" = some (.ref C_NoOwn))∧(IsxOk K (.ref C_NoOwn) ze3)∧(mg "NoOrder" = some (.ref C_NoOrder))∧(IsxOk K (.ref C_NoOrder) zdK)∧(mg "NotSquare" = some (.ref C_NotSquare))∧(IsxOk K (.ref C_NotSquare) zcM)∧(IsxOk K (.type "ValueError") zcy)∧(mg "NotOwned" = some (.ref C_NotOwned))∧(IsxOk K (.ref C_NotOwned) zda)∧(zmL K "hand" zed):=
 ⟨c_TradeError,c_TooMany,c_NotSquare,c_NoRow,c_NoOwn,c_NotOwned,c_NoOrder,b_TradeError,b_TooMany,b_NotSquare,b_NoRow,b_NoOwn,b_NotOwned,b_NoOrder,DL.zsj KX G a_NotOwned kp_NotOwned z_NotOwned o_NotOwned (DL.zsq z_NotOwned o_NotOwned g0_NotOwned g1_NotOwned) i_NotOwned (L2.fun_mk l_NotOwned cd_NotOwned kk_NotOwned) fc_NotOwned Law.zoW (Law.znb (L2.fun_mk l_NotOwned cd_NotOwned kk_NotOwned) (DL.zsq z_NotOwned o_NotOwned g0_NotOwned g1_NotOwned) (PySem.W.mg_of KX G a_TradeError) ⟨sp_TradeError,rd_TradeError,fn_TradeError⟩),
  (DL.zss o_NotOwned be_NotOwned bo_NotOwned ga_NotOwned gn_NotOwned gc_NotOwned gg gt un_NotOwned).xn,
  (DL.zss o_TradeError be_TradeError bo_TradeError ga_TradeError gn_TradeError gc_TradeError gg gt un_TradeError).xa,
  PySem.W.mg_of KX G a_TradeError,
  DL.zsn [((Str.ofString "TradeError"),c_TradeError,b_TradeError),((Str.ofString "TooMany"),c_TooMany,b_TooMany),((Str.ofString "NotSquare"),c_NotSquare,b_NotSquare),((Str.ofString "NoRow"),c_NoRow,b_NoRow),((Str.ofString "NoOwn"),c_NoOwn,b_NoOwn),((Str.ofString "NotOwned"),c_NotOwned,b_NotOwned),((Str.ofString "NoOrder"),c_NoOrder,b_NoOrder)] (by intro q hq; simp only [List.mem_cons,List.not_mem_nil,or_false] at hq; rcases hq with rfl | rfl | rfl | rfl | rfl | rfl | rfl <;> first | exact ⟨(DL.zss o_TradeError be_TradeError bo_TradeError ga_TradeError gn_TradeError gc_TradeError gg gt un_TradeError),h_TradeError_TradeError⟩ | exact ⟨(DL.zss o_TooMany be_TooMany bo_TooMany ga_TooMany gn_TooMany gc_TooMany gg gt un_TooMany),h_TradeError_TooMany⟩ | exact ⟨(DL.zss o_NotSquare be_NotSquare bo_NotSquare ga_NotSquare gn_NotSquare gc_NotSquare gg gt un_NotSquare),h_TradeError_NotSquare⟩ | exact ⟨(DL.zss o_NoRow be_NoRow bo_NoRow ga_NoRow gn_NoRow gc_NoRow gg gt un_NoRow),h_TradeError_NoRow⟩ | exact ⟨(DL.zss o_NoOwn be_NoOwn bo_NoOwn ga_NoOwn gn_NoOwn gc_NoOwn gg gt un_NoOwn),h_TradeError_NoOwn⟩ | exact ⟨(DL.zss o_NotOwned be_NotOwned bo_NotOwned ga_NotOwned gn_NotOwned gc_NotOwned gg gt un_NotOwned),h_TradeError_NotOwned⟩ | exact ⟨(DL.zss o_NoOrder be_NoOrder bo_NoOrder ga_NoOrder gn_NoOrder gc_NoOrder gg gt un_NoOrder),h_TradeError_NoOrder⟩) (fun nm h=>by
   have h2:=List.contains_iff_mem.mp h
   simp only [List.mem_cons,List.not_mem_nil,or_false] at h2
   rcases h2 with rfl | rfl | rfl | rfl | rfl | rfl | rfl <;> simp),
  PySem.W.mg_of KX G a_TooMany,
  DL.zsm [((Str.ofString "TradeError"),c_TradeError,b_TradeError),((Str.ofString "TooMany"),c_TooMany,b_TooMany),((Str.ofString "NotSquare"),c_NotSquare,b_NotSquare),((Str.ofString "NoRow"),c_NoRow,b_NoRow),((Str.ofString "NoOwn"),c_NoOwn,b_NoOwn),((Str.ofString "NotOwned"),c_NotOwned,b_NotOwned),((Str.ofString "NoOrder"),c_NoOrder,b_NoOrder)] nn_TooMany (by intro q hq; simp only [List.mem_cons,List.not_mem_nil,or_false] at hq; rcases hq with rfl | rfl | rfl | rfl | rfl | rfl | rfl <;> first | exact ⟨(DL.zss o_TradeError be_TradeError bo_TradeError ga_TradeError gn_TradeError gc_TradeError gg gt un_TradeError),k_TooMany_TradeError⟩ | exact ⟨(DL.zss o_TooMany be_TooMany bo_TooMany ga_TooMany gn_TooMany gc_TooMany gg gt un_TooMany),k_TooMany_TooMany⟩ | exact ⟨(DL.zss o_NotSquare be_NotSquare bo_NotSquare ga_NotSquare gn_NotSquare gc_NotSquare gg gt un_NotSquare),k_TooMany_NotSquare⟩ | exact ⟨(DL.zss o_NoRow be_NoRow bo_NoRow ga_NoRow gn_NoRow gc_NoRow gg gt un_NoRow),k_TooMany_NoRow⟩ | exact ⟨(DL.zss o_NoOwn be_NoOwn bo_NoOwn ga_NoOwn gn_NoOwn gc_NoOwn gg gt un_NoOwn),k_TooMany_NoOwn⟩ | exact ⟨(DL.zss o_NotOwned be_NotOwned bo_NotOwned ga_NotOwned gn_NotOwned gc_NotOwned gg gt un_NotOwned),k_TooMany_NotOwned⟩ | exact ⟨(DL.zss o_NoOrder be_NoOrder bo_NoOrder ga_NoOrder gn_NoOrder gc_NoOrder gg gt un_NoOrder),k_TooMany_NoOrder⟩) (fun nm b h=>by
   unfold Law.zdJ at h
   have h2:nm∈([(Str.ofString "TradeError"),(Str.ofString "TooMany"),(Str.ofString "NotSquare"),(Str.ofString "NoRow"),(Str.ofString "NoOwn"),(Str.ofString "NotOwned"),(Str.ofString "NoOrder")]:List Str):=by
    split at h
    ·rename_i z; have z:=List.contains_iff_mem.mp z; simp only [List.mem_cons,List.not_mem_nil,or_false] at z ⊢; rcases z with rfl <;> simp
    ·split at h
     ·rename_i z; have z:=List.contains_iff_mem.mp z; simp only [List.mem_cons,List.not_mem_nil,or_false] at z ⊢; rcases z with rfl | rfl | rfl | rfl | rfl | rfl <;> simp
     ·cases h
   simp only [List.mem_cons,List.not_mem_nil,or_false] at h2
   rcases h2 with rfl | rfl | rfl | rfl | rfl | rfl | rfl <;> simp),
  PySem.W.mg_of KX G a_NoRow,
  DL.zsm [((Str.ofString "TradeError"),c_TradeError,b_TradeError),((Str.ofString "TooMany"),c_TooMany,b_TooMany),((Str.ofString "NotSquare"),c_NotSquare,b_NotSquare),((Str.ofString "NoRow"),c_NoRow,b_NoRow),((Str.ofString "NoOwn"),c_NoOwn,b_NoOwn),((Str.ofString "NotOwned"),c_NotOwned,b_NotOwned),((Str.ofString "NoOrder"),c_NoOrder,b_NoOrder)] nn_NoRow (by intro q hq; simp only [List.mem_cons,List.not_mem_nil,or_false] at hq; rcases hq with rfl | rfl | rfl | rfl | rfl | rfl | rfl <;> first | exact ⟨(DL.zss o_TradeError be_TradeError bo_TradeError ga_TradeError gn_TradeError gc_TradeError gg gt un_TradeError),k_NoRow_TradeError⟩ | exact ⟨(DL.zss o_TooMany be_TooMany bo_TooMany ga_TooMany gn_TooMany gc_TooMany gg gt un_TooMany),k_NoRow_TooMany⟩ | exact ⟨(DL.zss o_NotSquare be_NotSquare bo_NotSquare ga_NotSquare gn_NotSquare gc_NotSquare gg gt un_NotSquare),k_NoRow_NotSquare⟩ | exact ⟨(DL.zss o_NoRow be_NoRow bo_NoRow ga_NoRow gn_NoRow gc_NoRow gg gt un_NoRow),k_NoRow_NoRow⟩ | exact ⟨(DL.zss o_NoOwn be_NoOwn bo_NoOwn ga_NoOwn gn_NoOwn gc_NoOwn gg gt un_NoOwn),k_NoRow_NoOwn⟩ | exact ⟨(DL.zss o_NotOwned be_NotOwned bo_NotOwned ga_NotOwned gn_NotOwned gc_NotOwned gg gt un_NotOwned),k_NoRow_NotOwned⟩ | exact ⟨(DL.zss o_NoOrder be_NoOrder bo_NoOrder ga_NoOrder gn_NoOrder gc_NoOrder gg gt un_NoOrder),k_NoRow_NoOrder⟩) (fun nm b h=>by
   unfold Law.ze2 at h
   have h2:nm∈([(Str.ofString "TradeError"),(Str.ofString "TooMany"),(Str.ofString "NotSquare"),(Str.ofString "NoRow"),(Str.ofString "NoOwn"),(Str.ofString "NotOwned"),(Str.ofString "NoOrder")]:List Str):=by
    split at h
    ·rename_i z; have z:=List.contains_iff_mem.mp z; simp only [List.mem_cons,List.not_mem_nil,or_false] at z ⊢; rcases z with rfl <;> simp
    ·split at h
     ·rename_i z; have z:=List.contains_iff_mem.mp z; simp only [List.mem_cons,List.not_mem_nil,or_false] at z ⊢; rcases z with rfl | rfl | rfl | rfl | rfl | rfl <;> simp
     ·cases h
   simp only [List.mem_cons,List.not_mem_nil,or_false] at h2
   rcases h2 with rfl | rfl | rfl | rfl | rfl | rfl | rfl <;> simp),
  PySem.W.mg_of KX G a_NoOwn,
  DL.zsm [((Str.ofString "TradeError"),c_TradeError,b_TradeError),((Str.ofString "TooMany"),c_TooMany,b_TooMany),((Str.ofString "NotSquare"),c_NotSquare,b_NotSquare),((Str.ofString "NoRow"),c_NoRow,b_NoRow),((Str.ofString "NoOwn"),c_NoOwn,b_NoOwn),((Str.ofString "NotOwned"),c_NotOwned,b_NotOwned),((Str.ofString "NoOrder"),c_NoOrder,b_NoOrder)] nn_NoOwn (by intro q hq; simp only [List.mem_cons,List.not_mem_nil,or_false] at hq; rcases hq with rfl | rfl | rfl | rfl | rfl | rfl | rfl <;> first | exact ⟨(DL.zss o_TradeError be_TradeError bo_TradeError ga_TradeError gn_TradeError gc_TradeError gg gt un_TradeError),k_NoOwn_TradeError⟩ | exact ⟨(DL.zss o_TooMany be_TooMany bo_TooMany ga_TooMany gn_TooMany gc_TooMany gg gt un_TooMany),k_NoOwn_TooMany⟩ | exact ⟨(DL.zss o_NotSquare be_NotSquare bo_NotSquare ga_NotSquare gn_NotSquare gc_NotSquare gg gt un_NotSquare),k_NoOwn_NotSquare⟩ | exact ⟨(DL.zss o_NoRow be_NoRow bo_NoRow ga_NoRow gn_NoRow gc_NoRow gg gt un_NoRow),k_NoOwn_NoRow⟩ | exact ⟨(DL.zss o_NoOwn be_NoOwn bo_NoOwn ga_NoOwn gn_NoOwn gc_NoOwn gg gt un_NoOwn),k_NoOwn_NoOwn⟩ | exact ⟨(DL.zss o_NotOwned be_NotOwned bo_NotOwned ga_NotOwned gn_NotOwned gc_NotOwned gg gt un_NotOwned),k_NoOwn_NotOwned⟩ | exact ⟨(DL.zss o_NoOrder be_NoOrder bo_NoOrder ga_NoOrder gn_NoOrder gc_NoOrder gg gt un_NoOrder),k_NoOwn_NoOrder⟩) (fun nm b h=>by
   unfold Law.ze3 at h
   have h2:nm∈([(Str.ofString "TradeError"),(Str.ofString "TooMany"),(Str.ofString "NotSquare"),(Str.ofString "NoRow"),(Str.ofString "NoOwn"),(Str.ofString "NotOwned"),(Str.ofString "NoOrder")]:List Str):=by
    split at h
    ·rename_i z; have z:=List.contains_iff_mem.mp z; simp only [List.mem_cons,List.not_mem_nil,or_false] at z ⊢; rcases z with rfl <;> simp
    ·split at h
     ·rename_i z; have z:=List.contains_iff_mem.mp z; simp only [List.mem_cons,List.not_mem_nil,or_false] at z ⊢; rcases z with rfl | rfl | rfl | rfl | rfl | rfl <;> simp
     ·cases h
   simp only [List.mem_cons,List.not_mem_nil,or_false] at h2
   rcases h2 with rfl | rfl | rfl | rfl | rfl | rfl | rfl <;> simp),
  PySem.W.mg_of KX G a_NoOrder,
  DL.zsm [((Str.ofString "TradeError"),c_TradeError,b_TradeError),((Str.ofString "TooMany"),c_TooMany,b_TooMany),((Str.ofString "NotSquare"),c_NotSquare,b_NotSquare),((Str.ofString "NoRow"),c_NoRow,b_NoRow),((Str.ofString "NoOwn"),c_NoOwn,b_NoOwn),((Str.ofString "NotOwned"),c_NotOwned,b_NotOwned),((Str.ofString "NoOrder"),c_NoOrder,b_NoOrder)] nn_NoOrder (by intro q hq; simp only [List.mem_cons,List.not_mem_nil,or_false] at hq; rcases hq with rfl | rfl | rfl | rfl | rfl | rfl | rfl <;> first | exact ⟨(DL.zss o_TradeError be_TradeError bo_TradeError ga_TradeError gn_TradeError gc_TradeError gg gt un_TradeError),k_NoOrder_TradeError⟩ | exact ⟨(DL.zss o_TooMany be_TooMany bo_TooMany ga_TooMany gn_TooMany gc_TooMany gg gt un_TooMany),k_NoOrder_TooMany⟩ | exact ⟨(DL.zss o_NotSquare be_NotSquare bo_NotSquare ga_NotSquare gn_NotSquare gc_NotSquare gg gt un_NotSquare),k_NoOrder_NotSquare⟩ | exact ⟨(DL.zss o_NoRow be_NoRow bo_NoRow ga_NoRow gn_NoRow gc_NoRow gg gt un_NoRow),k_NoOrder_NoRow⟩ | exact ⟨(DL.zss o_NoOwn be_NoOwn bo_NoOwn ga_NoOwn gn_NoOwn gc_NoOwn gg gt un_NoOwn),k_NoOrder_NoOwn⟩ | exact ⟨(DL.zss o_NotOwned be_NotOwned bo_NotOwned ga_NotOwned gn_NotOwned gc_NotOwned gg gt un_NotOwned),k_NoOrder_NotOwned⟩ | exact ⟨(DL.zss o_NoOrder be_NoOrder bo_NoOrder ga_NoOrder gn_NoOrder gc_NoOrder gg gt un_NoOrder),k_NoOrder_NoOrder⟩) (fun nm b h=>by
   unfold Law.zdK at h
   have h2:nm∈([(Str.ofString "TradeError"),(Str.ofString "TooMany"),(Str.ofString "NotSquare"),(Str.ofString "NoRow"),(Str.ofString "NoOwn"),(Str.ofString "NotOwned"),(Str.ofString "NoOrder")]:List Str):=by
    split at h
    ·rename_i z; have z:=List.contains_iff_mem.mp z; simp only [List.mem_cons,List.not_mem_nil,or_false] at z ⊢; rcases z with rfl <;> simp
    ·split at h
     ·rename_i z; have z:=List.contains_iff_mem.mp z; simp only [List.mem_cons,List.not_mem_nil,or_false] at z ⊢; rcases z with rfl | rfl | rfl | rfl | rfl | rfl <;> simp
     ·cases h
   simp only [List.mem_cons,List.not_mem_nil,or_false] at h2
   rcases h2 with rfl | rfl | rfl | rfl | rfl | rfl | rfl <;> simp),
  PySem.W.mg_of KX G a_NotSquare,
  DL.zsm [((Str.ofString "TradeError"),c_TradeError,b_TradeError),((Str.ofString "TooMany"),c_TooMany,b_TooMany),((Str.ofString "NotSquare"),c_NotSquare,b_NotSquare),((Str.ofString "NoRow"),c_NoRow,b_NoRow),((Str.ofString "NoOwn"),c_NoOwn,b_NoOwn),((Str.ofString "NotOwned"),c_NotOwned,b_NotOwned),((Str.ofString "NoOrder"),c_NoOrder,b_NoOrder)] nn_NotSquare (by intro q hq; simp only [List.mem_cons,List.not_mem_nil,or_false] at hq; rcases hq with rfl | rfl | rfl | rfl | rfl | rfl | rfl <;> first | exact ⟨(DL.zss o_TradeError be_TradeError bo_TradeError ga_TradeError gn_TradeError gc_TradeError gg gt un_TradeError),k_NotSquare_TradeError⟩ | exact ⟨(DL.zss o_TooMany be_TooMany bo_TooMany ga_TooMany gn_TooMany gc_TooMany gg gt un_TooMany),k_NotSquare_TooMany⟩ | exact ⟨(DL.zss o_NotSquare be_NotSquare bo_NotSquare ga_NotSquare gn_NotSquare gc_NotSquare gg gt un_NotSquare),k_NotSquare_NotSquare⟩ | exact ⟨(DL.zss o_NoRow be_NoRow bo_NoRow ga_NoRow gn_NoRow gc_NoRow gg gt un_NoRow),k_NotSquare_NoRow⟩ | exact ⟨(DL.zss o_NoOwn be_NoOwn bo_NoOwn ga_NoOwn gn_NoOwn gc_NoOwn gg gt un_NoOwn),k_NotSquare_NoOwn⟩ | exact ⟨(DL.zss o_NotOwned be_NotOwned bo_NotOwned ga_NotOwned gn_NotOwned gc_NotOwned gg gt un_NotOwned),k_NotSquare_NotOwned⟩ | exact ⟨(DL.zss o_NoOrder be_NoOrder bo_NoOrder ga_NoOrder gn_NoOrder gc_NoOrder gg gt un_NoOrder),k_NotSquare_NoOrder⟩) (fun nm b h=>by
   unfold Law.zcM at h
   have h2:nm∈([(Str.ofString "TradeError"),(Str.ofString "TooMany"),(Str.ofString "NotSquare"),(Str.ofString "NoRow"),(Str.ofString "NoOwn"),(Str.ofString "NotOwned"),(Str.ofString "NoOrder")]:List Str):=by
    split at h
    ·rename_i z; have z:=List.contains_iff_mem.mp z; simp only [List.mem_cons,List.not_mem_nil,or_false] at z ⊢; rcases z with rfl <;> simp
    ·split at h
     ·rename_i z; have z:=List.contains_iff_mem.mp z; simp only [List.mem_cons,List.not_mem_nil,or_false] at z ⊢; rcases z with rfl | rfl | rfl | rfl | rfl | rfl <;> simp
     ·cases h
   simp only [List.mem_cons,List.not_mem_nil,or_false] at h2
   rcases h2 with rfl | rfl | rfl | rfl | rfl | rfl | rfl <;> simp),
  DL.zsm [((Str.ofString "TradeError"),c_TradeError,b_TradeError),((Str.ofString "TooMany"),c_TooMany,b_TooMany),((Str.ofString "NotSquare"),c_NotSquare,b_NotSquare),((Str.ofString "NoRow"),c_NoRow,b_NoRow),((Str.ofString "NoOwn"),c_NoOwn,b_NoOwn),((Str.ofString "NotOwned"),c_NotOwned,b_NotOwned),((Str.ofString "NoOrder"),c_NoOrder,b_NoOrder)] nn_ValueError (by intro q hq; simp only [List.mem_cons,List.not_mem_nil,or_false] at hq; rcases hq with rfl | rfl | rfl | rfl | rfl | rfl | rfl <;> first | exact ⟨(DL.zss o_TradeError be_TradeError bo_TradeError ga_TradeError gn_TradeError gc_TradeError gg gt un_TradeError),k_ValueError_TradeError⟩ | exact ⟨(DL.zss o_TooMany be_TooMany bo_TooMany ga_TooMany gn_TooMany gc_TooMany gg gt un_TooMany),k_ValueError_TooMany⟩ | exact ⟨(DL.zss o_NotSquare be_NotSquare bo_NotSquare ga_NotSquare gn_NotSquare gc_NotSquare gg gt un_NotSquare),k_ValueError_NotSquare⟩ | exact ⟨(DL.zss o_NoRow be_NoRow bo_NoRow ga_NoRow gn_NoRow gc_NoRow gg gt un_NoRow),k_ValueError_NoRow⟩ | exact ⟨(DL.zss o_NoOwn be_NoOwn bo_NoOwn ga_NoOwn gn_NoOwn gc_NoOwn gg gt un_NoOwn),k_ValueError_NoOwn⟩ | exact ⟨(DL.zss o_NotOwned be_NotOwned bo_NotOwned ga_NotOwned gn_NotOwned gc_NotOwned gg gt un_NotOwned),k_ValueError_NotOwned⟩ | exact ⟨(DL.zss o_NoOrder be_NoOrder bo_NoOrder ga_NoOrder gn_NoOrder gc_NoOrder gg gt un_NoOrder),k_ValueError_NoOrder⟩) (fun nm b h=>by
   unfold Law.zcy at h
   have h2:nm∈([(Str.ofString "TradeError"),(Str.ofString "TooMany"),(Str.ofString "NotSquare"),(Str.ofString "NoRow"),(Str.ofString "NoOwn"),(Str.ofString "NotOwned"),(Str.ofString "NoOrder")]:List Str):=by
    split at h
    ·rename_i z; have z:=List.contains_iff_mem.mp z; simp only [List.mem_cons,List.not_mem_nil,or_false] at z ⊢; rcases z with rfl | rfl | rfl | rfl | rfl | rfl | rfl <;> simp
    ·split at h
     ·rename_i z; simp at z
     ·cases h
   simp only [List.mem_cons,List.not_mem_nil,or_false] at h2
   rcases h2 with rfl | rfl | rfl | rfl | rfl | rfl | rfl <;> simp),
  PySem.W.mg_of KX G a_NotOwned,
  DL.zsm [((Str.ofString "TradeError"),c_TradeError,b_TradeError),((Str.ofString "TooMany"),c_TooMany,b_TooMany),((Str.ofString "NotSquare"),c_NotSquare,b_NotSquare),((Str.ofString "NoRow"),c_NoRow,b_NoRow),((Str.ofString "NoOwn"),c_NoOwn,b_NoOwn),((Str.ofString "NotOwned"),c_NotOwned,b_NotOwned),((Str.ofString "NoOrder"),c_NoOrder,b_NoOrder)] nn_NotOwned (by intro q hq; simp only [List.mem_cons,List.not_mem_nil,or_false] at hq; rcases hq with rfl | rfl | rfl | rfl | rfl | rfl | rfl <;> first | exact ⟨(DL.zss o_TradeError be_TradeError bo_TradeError ga_TradeError gn_TradeError gc_TradeError gg gt un_TradeError),k_NotOwned_TradeError⟩ | exact ⟨(DL.zss o_TooMany be_TooMany bo_TooMany ga_TooMany gn_TooMany gc_TooMany gg gt un_TooMany),k_NotOwned_TooMany⟩ | exact ⟨(DL.zss o_NotSquare be_NotSquare bo_NotSquare ga_NotSquare gn_NotSquare gc_NotSquare gg gt un_NotSquare),k_NotOwned_NotSquare⟩ | exact ⟨(DL.zss o_NoRow be_NoRow bo_NoRow ga_NoRow gn_NoRow gc_NoRow gg gt un_NoRow),k_NotOwned_NoRow⟩ | exact ⟨(DL.zss o_NoOwn be_NoOwn bo_NoOwn ga_NoOwn gn_NoOwn gc_NoOwn gg gt un_NoOwn),k_NotOwned_NoOwn⟩ | exact ⟨(DL.zss o_NotOwned be_NotOwned bo_NotOwned ga_NotOwned gn_NotOwned gc_NotOwned gg gt un_NotOwned),k_NotOwned_NotOwned⟩ | exact ⟨(DL.zss o_NoOrder be_NoOrder bo_NoOrder ga_NoOrder gn_NoOrder gc_NoOrder gg gt un_NoOrder),k_NotOwned_NoOrder⟩) (fun nm b h=>by
   unfold Law.zda at h
   have h2:nm∈([(Str.ofString "TradeError"),(Str.ofString "TooMany"),(Str.ofString "NotSquare"),(Str.ofString "NoRow"),(Str.ofString "NoOwn"),(Str.ofString "NotOwned"),(Str.ofString "NoOrder")]:List Str):=by
    split at h
    ·rename_i z; have z:=List.contains_iff_mem.mp z; simp only [List.mem_cons,List.not_mem_nil,or_false] at z ⊢; rcases z with rfl <;> simp
    ·split at h
     ·rename_i z; have z:=List.contains_iff_mem.mp z; simp only [List.mem_cons,List.not_mem_nil,or_false] at z ⊢; rcases z with rfl | rfl | rfl | rfl | rfl | rfl <;> simp
     ·cases h
   simp only [List.mem_cons,List.not_mem_nil,or_false] at h2
   rcases h2 with rfl | rfl | rfl | rfl | rfl | rfl | rfl <;> simp),
  DL.zsp [((Str.ofString "NoRow"),c_NoRow,b_NoRow),((Str.ofString "NoOwn"),c_NoOwn,b_NoOwn),((Str.ofString "NotOwned"),c_NotOwned,b_NotOwned)] (by intro q hq; simp only [List.mem_cons,List.not_mem_nil,or_false] at hq; rcases hq with rfl | rfl | rfl <;> first | exact ⟨(DL.zss o_NoRow be_NoRow bo_NoRow ga_NoRow gn_NoRow gc_NoRow gg gt un_NoRow),(DL.zsq z_NoRow o_NoRow g0_NoRow g1_NoRow)⟩ | exact ⟨(DL.zss o_NoOwn be_NoOwn bo_NoOwn ga_NoOwn gn_NoOwn gc_NoOwn gg gt un_NoOwn),(DL.zsq z_NoOwn o_NoOwn g0_NoOwn g1_NoOwn)⟩ | exact ⟨(DL.zss o_NotOwned be_NotOwned bo_NotOwned ga_NotOwned gn_NotOwned gc_NotOwned gg gt un_NotOwned),(DL.zsq z_NotOwned o_NotOwned g0_NotOwned g1_NotOwned)⟩) (fun nm h=>by
   have h2:=List.contains_iff_mem.mp h
   simp only [List.mem_cons,List.not_mem_nil,or_false] at h2
   rcases h2 with rfl | rfl | rfl <;> simp)⟩
end Law
noncomputable def PySem.W.Fast.tw6280455156657278756 : Nat := 0
noncomputable def PySem.W.Fast.tw6816155492422055541 : Nat := 0
noncomputable def PySem.W.Fast.tw1318155069614371969 : Nat := 0
noncomputable def PySem.W.Fast.tw4992385273646955664 : Nat := 0
noncomputable def PySem.W.Fast.tw1080168018713882831 : Nat := 0
noncomputable def PySem.W.Fast.tw9768014660925853349 : Nat := 0
noncomputable def PySem.W.Fast.tw13188573482304316870 : Nat := 0
set_option maxRecDepth 100000 in
set_option maxHeartbeats 0 in
theorem PySem.Challenge.cw_ringtrade_k17_not_all_owned_holds : PySem.Challenge.rw_ringtrade_k17_not_all_owned.Holds := by
 w_on; o_law; k_head; (case hw=>w_witness2)
 k_fill
 refine DL.zsr (l:=PySem.Challenge.rw_ringtrade_k17_not_all_owned) (k:=11) (x := "_law_script") (F:=Law.zo5) rfl rfl ⟨rfl,by decide,by decide⟩ (fun w h Y=>PySem.W.kIn_of Y) Law.main ?C
 intro w mg fa h KX G hmg
 have T:Law.Txt (L2.KOf KX) mg:=by
  dsimp only [L2.KOf]
  refine ⟨?b_len,?b_range,?b_tuple,?b_isinstance,?b_bool,?b_int,?b_enumerate,?b_list,?b_sorted,?b_any,?b_min,?b_ValueError⟩
  case b_len=>(refine' PySem.W.mg_none_of KX G ?z_b_len; k_is)
  case b_range=>(refine' PySem.W.mg_none_of KX G ?z_b_range; k_is)
  case b_tuple=>(refine' PySem.W.mg_none_of KX G ?z_b_tuple; k_is)
  case b_isinstance=>(refine' PySem.W.mg_none_of KX G ?z_b_isinstance; k_is)
  case b_bool=>(refine' PySem.W.mg_none_of KX G ?z_b_bool; k_is)
  case b_int=>(refine' PySem.W.mg_none_of KX G ?z_b_int; k_is)
  case b_enumerate=>(refine' PySem.W.mg_none_of KX G ?z_b_enumerate; k_is)
  case b_list=>(refine' PySem.W.mg_none_of KX G ?z_b_list; k_is)
  case b_sorted=>(refine' PySem.W.mg_none_of KX G ?z_b_sorted; k_is)
  case b_any=>(refine' PySem.W.mg_none_of KX G ?z_b_any; k_is)
  case b_min=>(refine' PySem.W.mg_none_of KX G ?z_b_min; k_is)
  case b_ValueError=>(refine' PySem.W.mg_none_of KX G ?z_b_ValueError; k_is)
 obtain ⟨C_TradeError,C_TooMany,C_NotSquare,C_NoRow,C_NoOwn,C_NotOwned,C_NoOrder,bm_TradeError,bm_TooMany,bm_NotSquare,bm_NoRow,bm_NoOwn,bm_NotOwned,bm_NoOrder,xi_NotOwned,xn_NotOwned,xa_TradeError,xb_TradeError,hk_TradeError,xb_TooMany,ix_TooMany,xb_NoRow,ix_NoRow,xb_NoOwn,ix_NoOwn,xb_NoOrder,ix_NoOrder,xb_NotSquare,ix_NotSquare,ix_ValueError,xb_NotOwned,ix_NotOwned,at_hand⟩:∃ (C_TradeError:Addr) (C_TooMany:Addr) (C_NotSquare:Addr) (C_NoRow:Addr) (C_NoOwn:Addr) (C_NotOwned:Addr) (C_NoOrder:Addr) (bm_TradeError:List Value) (bm_TooMany:List Value) (bm_NotSquare:List Value) (bm_NoRow:List Value) (bm_NoOwn:List Value) (bm_NotOwned:List Value) (bm_NoOrder:List Value),(∀ base,DL.XCI PySem.Challenge.rw_ringtrade_k17_not_all_owned.prog w (L2.KOf KX) mg base "NotOwned" C_NotOwned "hand")∧(DL.XN (L2.KOf KX) "NotOwned" C_NotOwned)∧(DL.XA (L2.KOf KX) C_TradeError bm_TradeError)∧(mg "TradeError" = some (.ref C_TradeError))∧(DL.zmH (L2.KOf KX) C_TradeError Law.zcz)∧(mg "TooMany" = some (.ref C_TooMany))∧(DL.IsxOk (L2.KOf KX) (.ref C_TooMany) Law.zdJ)∧(mg "NoRow" = some (.ref C_NoRow))∧(DL.IsxOk (L2.KOf KX) (.ref C_NoRow) Law.ze2)∧(mg "NoOwn" = some (.ref C_NoOwn))∧(DL.IsxOk (L2.KOf KX) (.ref C_NoOwn) Law.ze3)∧(mg "NoOrder" = some (.ref C_NoOrder))∧(DL.IsxOk (L2.KOf KX) (.ref C_NoOrder) Law.zdK)∧(mg "NotSquare" = some (.ref C_NotSquare))∧(DL.IsxOk (L2.KOf KX) (.ref C_NotSquare) Law.zcM)∧(DL.IsxOk (L2.KOf KX) (.type "ValueError") Law.zcy)∧(mg "NotOwned" = some (.ref C_NotOwned))∧(DL.IsxOk (L2.KOf KX) (.ref C_NotOwned) Law.zda)∧(DL.zmL (L2.KOf KX) "hand" Law.zed):=by
  dsimp only [L2.KOf]
  refine' Law.pack KX G ?a_TradeError ?a_TooMany ?a_NotSquare ?a_NoRow ?a_NoOwn ?a_NotOwned ?a_NoOrder ?o_TradeError ?be_TradeError ?bo_TradeError ?ga_TradeError ?gn_TradeError ?gc_TradeError ?un_TradeError ?o_TooMany ?be_TooMany ?bo_TooMany ?ga_TooMany ?gn_TooMany ?gc_TooMany ?un_TooMany ?o_NotSquare ?be_NotSquare ?bo_NotSquare ?ga_NotSquare ?gn_NotSquare ?gc_NotSquare ?un_NotSquare ?o_NoRow ?be_NoRow ?bo_NoRow ?ga_NoRow ?gn_NoRow ?gc_NoRow ?un_NoRow ?o_NoOwn ?be_NoOwn ?bo_NoOwn ?ga_NoOwn ?gn_NoOwn ?gc_NoOwn ?un_NoOwn ?o_NotOwned ?be_NotOwned ?bo_NotOwned ?ga_NotOwned ?gn_NotOwned ?gc_NotOwned ?un_NotOwned ?o_NoOrder ?be_NoOrder ?bo_NoOrder ?ga_NoOrder ?gn_NoOrder ?gc_NoOrder ?un_NoOrder ?gg ?gt ?ns_NotOwned ?z_NotOwned ?g0_NotOwned ?g1_NotOwned ?sp_TradeError ?rd_TradeError ?fn_TradeError ?i_NotOwned ?kp_NotOwned ?l_NotOwned ?cd_NotOwned ?kk_NotOwned ?fc_NotOwned ?h_TradeError_TradeError ?h_TradeError_TooMany ?h_TradeError_NotSquare ?h_TradeError_NoRow ?h_TradeError_NoOwn ?h_TradeError_NotOwned ?h_TradeError_NoOrder ?nn_TooMany ?k_TooMany_TradeError ?k_TooMany_TooMany ?k_TooMany_NotSquare ?k_TooMany_NoRow ?k_TooMany_NoOwn ?k_TooMany_NotOwned ?k_TooMany_NoOrder ?nn_NoRow ?k_NoRow_TradeError ?k_NoRow_TooMany ?k_NoRow_NotSquare ?k_NoRow_NoRow ?k_NoRow_NoOwn ?k_NoRow_NotOwned ?k_NoRow_NoOrder ?nn_NoOwn ?k_NoOwn_TradeError ?k_NoOwn_TooMany ?k_NoOwn_NotSquare ?k_NoOwn_NoRow ?k_NoOwn_NoOwn ?k_NoOwn_NotOwned ?k_NoOwn_NoOrder ?nn_NoOrder ?k_NoOrder_TradeError ?k_NoOrder_TooMany ?k_NoOrder_NotSquare ?k_NoOrder_NoRow ?k_NoOrder_NoOwn ?k_NoOrder_NotOwned ?k_NoOrder_NoOrder ?nn_NotSquare ?k_NotSquare_TradeError ?k_NotSquare_TooMany ?k_NotSquare_NotSquare ?k_NotSquare_NoRow ?k_NotSquare_NoOwn ?k_NotSquare_NotOwned ?k_NotSquare_NoOrder ?nn_ValueError ?k_ValueError_TradeError ?k_ValueError_TooMany ?k_ValueError_NotSquare ?k_ValueError_NoRow ?k_ValueError_NoOwn ?k_ValueError_NotOwned ?k_ValueError_NoOrder ?nn_NotOwned ?k_NotOwned_TradeError ?k_NotOwned_TooMany ?k_NotOwned_NotSquare ?k_NotOwned_NoRow ?k_NotOwned_NoOwn ?k_NotOwned_NotOwned ?k_NotOwned_NoOrder ?ns_NoRow ?z_NoRow ?g0_NoRow ?g1_NoRow ?ns_NoOwn ?z_NoOwn ?g0_NoOwn ?g1_NoOwn
  (case a_TradeError=>k_is)
  (case a_TooMany=>k_is)
  (case a_NotSquare=>k_is)
  (case a_NoRow=>k_is)
  (case a_NoOwn=>k_is)
  (case a_NotOwned=>k_is)
  (case a_NoOrder=>k_is)
  (case o_TradeError=>exact rfl)
  (case be_TradeError=>decide +kernel)
  (case bo_TradeError=>decide +kernel)
  (case ga_TradeError=>k_is)
  (case gn_TradeError=>k_is)
  (case gc_TradeError=>k_is)
  (case un_TradeError=>kernel_rfl)
  (case o_TooMany=>exact rfl)
  (case be_TooMany=>decide +kernel)
  (case bo_TooMany=>decide +kernel)
  (case ga_TooMany=>k_is)
  (case gn_TooMany=>k_is)
  (case gc_TooMany=>k_is)
  (case un_TooMany=>kernel_rfl)
  (case o_NotSquare=>exact rfl)
  (case be_NotSquare=>decide +kernel)
  (case bo_NotSquare=>decide +kernel)
  (case ga_NotSquare=>k_is)
  (case gn_NotSquare=>k_is)
  (case gc_NotSquare=>k_is)
  (case un_NotSquare=>kernel_rfl)
  (case o_NoRow=>exact rfl)
  (case be_NoRow=>decide +kernel)
  (case bo_NoRow=>decide +kernel)
  (case ga_NoRow=>k_is)
  (case gn_NoRow=>k_is)
  (case gc_NoRow=>k_is)
  (case un_NoRow=>kernel_rfl)
  (case o_NoOwn=>exact rfl)
  (case be_NoOwn=>decide +kernel)
  (case bo_NoOwn=>decide +kernel)
  (case ga_NoOwn=>k_is)
  (case gn_NoOwn=>k_is)
  (case gc_NoOwn=>k_is)
  (case un_NoOwn=>kernel_rfl)
  (case o_NotOwned=>exact rfl)
  (case be_NotOwned=>decide +kernel)
  (case bo_NotOwned=>decide +kernel)
  (case ga_NotOwned=>k_is)
  (case gn_NotOwned=>k_is)
  (case gc_NotOwned=>k_is)
  (case un_NotOwned=>kernel_rfl)
  (case o_NoOrder=>exact rfl)
  (case be_NoOrder=>decide +kernel)
  (case bo_NoOrder=>decide +kernel)
  (case ga_NoOrder=>k_is)
  (case gn_NoOrder=>k_is)
  (case gc_NoOrder=>k_is)
  (case un_NoOrder=>kernel_rfl)
  (case gg=>k_is)
  (case gt=>k_is)
  (case ns_NotOwned=>exact rfl)
  (case z_NotOwned=>kernel_rfl)
  (case g0_NotOwned=>k_is)
  (case g1_NotOwned=>k_is)
  (case sp_TradeError=>k_is)
  (case rd_TradeError=>kernel_rfl)
  (case fn_TradeError=>kernel_rfl)
  (case i_NotOwned=>k_is)
  (case kp_NotOwned=>k_is)
  (case l_NotOwned=>k_is)
  (case cd_NotOwned=>k_is)
  (case kk_NotOwned=>k_is)
  (case fc_NotOwned=>k_is)
  (case h_TradeError_TradeError=>decide +kernel)
  (case h_TradeError_TooMany=>decide +kernel)
  (case h_TradeError_NotSquare=>decide +kernel)
  (case h_TradeError_NoRow=>decide +kernel)
  (case h_TradeError_NoOwn=>decide +kernel)
  (case h_TradeError_NotOwned=>decide +kernel)
  (case h_TradeError_NoOrder=>decide +kernel)
  (case nn_TooMany=>kernel_rfl)
  (case k_TooMany_TradeError=>kernel_rfl)
  (case k_TooMany_TooMany=>kernel_rfl)
  (case k_TooMany_NotSquare=>kernel_rfl)
  (case k_TooMany_NoRow=>kernel_rfl)
  (case k_TooMany_NoOwn=>kernel_rfl)
  (case k_TooMany_NotOwned=>kernel_rfl)
  (case k_TooMany_NoOrder=>kernel_rfl)
  (case nn_NoRow=>kernel_rfl)
  (case k_NoRow_TradeError=>kernel_rfl)
  (case k_NoRow_TooMany=>kernel_rfl)
  (case k_NoRow_NotSquare=>kernel_rfl)
  (case k_NoRow_NoRow=>kernel_rfl)
  (case k_NoRow_NoOwn=>kernel_rfl)
  (case k_NoRow_NotOwned=>kernel_rfl)
  (case k_NoRow_NoOrder=>kernel_rfl)
  (case nn_NoOwn=>kernel_rfl)
  (case k_NoOwn_TradeError=>kernel_rfl)
  (case k_NoOwn_TooMany=>kernel_rfl)
  (case k_NoOwn_NotSquare=>kernel_rfl)
  (case k_NoOwn_NoRow=>kernel_rfl)
  (case k_NoOwn_NoOwn=>kernel_rfl)
  (case k_NoOwn_NotOwned=>kernel_rfl)
  (case k_NoOwn_NoOrder=>kernel_rfl)
  (case nn_NoOrder=>kernel_rfl)
  (case k_NoOrder_TradeError=>kernel_rfl)
  (case k_NoOrder_TooMany=>kernel_rfl)
  (case k_NoOrder_NotSquare=>kernel_rfl)
  (case k_NoOrder_NoRow=>kernel_rfl)
  (case k_NoOrder_NoOwn=>kernel_rfl)
  (case k_NoOrder_NotOwned=>kernel_rfl)
  (case k_NoOrder_NoOrder=>kernel_rfl)
  (case nn_NotSquare=>kernel_rfl)
  (case k_NotSquare_TradeError=>kernel_rfl)
  (case k_NotSquare_TooMany=>kernel_rfl)
  (case k_NotSquare_NotSquare=>kernel_rfl)
  (case k_NotSquare_NoRow=>kernel_rfl)
  (case k_NotSquare_NoOwn=>kernel_rfl)
  (case k_NotSquare_NotOwned=>kernel_rfl)
  (case k_NotSquare_NoOrder=>kernel_rfl)
  (case nn_ValueError=>kernel_rfl)
  (case k_ValueError_TradeError=>kernel_rfl)
  (case k_ValueError_TooMany=>kernel_rfl)
  (case k_ValueError_NotSquare=>kernel_rfl)
  (case k_ValueError_NoRow=>kernel_rfl)
  (case k_ValueError_NoOwn=>kernel_rfl)
  (case k_ValueError_NotOwned=>kernel_rfl)
  (case k_ValueError_NoOrder=>kernel_rfl)
  (case nn_NotOwned=>kernel_rfl)
  (case k_NotOwned_TradeError=>kernel_rfl)
  (case k_NotOwned_TooMany=>kernel_rfl)
  (case k_NotOwned_NotSquare=>kernel_rfl)
  (case k_NotOwned_NoRow=>kernel_rfl)
  (case k_NotOwned_NoOwn=>kernel_rfl)
  (case k_NotOwned_NotOwned=>kernel_rfl)
  (case k_NotOwned_NoOrder=>kernel_rfl)
  (case ns_NoRow=>exact rfl)
  (case z_NoRow=>kernel_rfl)
  (case g0_NoRow=>k_is)
  (case g1_NoRow=>k_is)
  (case ns_NoOwn=>exact rfl)
  (case z_NoOwn=>kernel_rfl)
  (case g0_NoOwn=>k_is)
  (case g1_NoOwn=>k_is)
 have A__law_cell:DL.DefAt (L2.KOf KX) mg "_law_cell" Law.zeB:=by
  dsimp only [L2.KOf]
  refine' DL.zso KX G ?a ?l ?c ?k
  (case a=>k_is)
  (case l=>k_is)
  (case c=>k_is)
  (case k=>k_is)
 have A__law_row:DL.DefAt (L2.KOf KX) mg "_law_row" Law.ze7:=by
  dsimp only [L2.KOf]
  refine' DL.zso KX G ?a ?l ?c ?k
  (case a=>k_is)
  (case l=>k_is)
  (case c=>k_is)
  (case k=>k_is)
 have A__law_wishes:DL.DefAt (L2.KOf KX) mg "_law_wishes" Law.zbN:=by
  dsimp only [L2.KOf]
  refine' DL.zso KX G ?a ?l ?c ?k
  (case a=>k_is)
  (case l=>k_is)
  (case c=>k_is)
  (case k=>k_is)
 have A__law_owns:DL.DefAt (L2.KOf KX) mg "_law_owns" Law.zeA:=by
  dsimp only [L2.KOf]
  refine' DL.zso KX G ?a ?l ?c ?k
  (case a=>k_is)
  (case l=>k_is)
  (case c=>k_is)
  (case k=>k_is)
 have A_things_in:DL.DefAt (L2.KOf KX) mg "things_in" Law.zex:=by
  dsimp only [L2.KOf]
  refine' DL.zso KX G ?a ?l ?c ?k
  (case a=>k_is)
  (case l=>k_is)
  (case c=>k_is)
  (case k=>k_is)
 have A_is_square:DL.DefAt (L2.KOf KX) mg "is_square" Law.zez:=by
  dsimp only [L2.KOf]
  refine' DL.zso KX G ?a ?l ?c ?k
  (case a=>k_is)
  (case l=>k_is)
  (case c=>k_is)
  (case k=>k_is)
 have A_is_whole:DL.DefAt (L2.KOf KX) mg "is_whole" Law.ze5:=by
  dsimp only [L2.KOf]
  refine' DL.zso KX G ?a ?l ?c ?k
  (case a=>k_is)
  (case l=>k_is)
  (case c=>k_is)
  (case k=>k_is)
 have A_is_below:DL.DefAt (L2.KOf KX) mg "is_below" Law.ze6:=by
  dsimp only [L2.KOf]
  refine' DL.zso KX G ?a ?l ?c ?k
  (case a=>k_is)
  (case l=>k_is)
  (case c=>k_is)
  (case k=>k_is)
 have A_refuse_unless_all_owned_x:DL.DefAt (L2.KOf KX) mg "refuse_unless_all_owned" Law.zbd:=by
  dsimp only [L2.KOf]
  refine' DL.zso KX G ?a ?l ?c ?k
  (case a=>k_is)
  (case l=>k_is)
  (case c=>k_is)
  (case k=>k_is)
 have A_first_wrong:DL.DefAt (L2.KOf KX) mg "first_wrong" Law.zdC:=by
  dsimp only [L2.KOf]
  refine' DL.zso KX G ?a ?l ?c ?k
  (case a=>k_is)
  (case l=>k_is)
  (case c=>k_is)
  (case k=>k_is)
 have A_are_unlike:DL.DefAt (L2.KOf KX) mg "are_unlike" Law.zdX:=by
  dsimp only [L2.KOf]
  refine' DL.zso KX G ?a ?l ?c ?k
  (case a=>k_is)
  (case l=>k_is)
  (case c=>k_is)
  (case k=>k_is)
 have A_has_each_once:DL.DefAt (L2.KOf KX) mg "has_each_once" Law.zc8:=by
  dsimp only [L2.KOf]
  refine' DL.zso KX G ?a ?l ?c ?k
  (case a=>k_is)
  (case l=>k_is)
  (case c=>k_is)
  (case k=>k_is)
 have A_order_of:DL.DefAtD (L2.KOf KX) mg "order_of" Law.ze4 [Value.none]:=by
  dsimp only [L2.KOf]
  refine' DL.zsf KX G ?a ?l ?t ?c ?k
  (case a=>k_is)
  (case l=>k_is)
  (case t=>k_is)
  (case c=>k_is)
  (case k=>k_is)
 have A_best_left:DL.DefAt (L2.KOf KX) mg "best_left" Law.zcl:=by
  dsimp only [L2.KOf]
  refine' DL.zso KX G ?a ?l ?c ?k
  (case a=>k_is)
  (case l=>k_is)
  (case c=>k_is)
  (case k=>k_is)
 have A_owner_left:DL.DefAt (L2.KOf KX) mg "owner_left" Law.zdW:=by
  dsimp only [L2.KOf]
  refine' DL.zso KX G ?a ?l ?c ?k
  (case a=>k_is)
  (case l=>k_is)
  (case c=>k_is)
  (case k=>k_is)
 have A_hand_pointed_at:DL.DefAt (L2.KOf KX) mg "hand_pointed_at" Law.zck:=by
  dsimp only [L2.KOf]
  refine' DL.zso KX G ?a ?l ?c ?k
  (case a=>k_is)
  (case l=>k_is)
  (case c=>k_is)
  (case k=>k_is)
 have A_ring_from:DL.DefAt (L2.KOf KX) mg "ring_from" Law.zey:=by
  dsimp only [L2.KOf]
  refine' DL.zso KX G ?a ?l ?c ?k
  (case a=>k_is)
  (case l=>k_is)
  (case c=>k_is)
  (case k=>k_is)
 have A_rings_of_round:DL.DefAt (L2.KOf KX) mg "rings_of_round" Law.zaS:=by
  dsimp only [L2.KOf]
  refine' DL.zso KX G ?a ?l ?c ?k
  (case a=>k_is)
  (case l=>k_is)
  (case c=>k_is)
  (case k=>k_is)
 have A_got_in:DL.DefAt (L2.KOf KX) mg "got_in" Law.zgK:=by
  dsimp only [L2.KOf]
  refine' DL.zso KX G ?a ?l ?c ?k
  (case a=>k_is)
  (case l=>k_is)
  (case c=>k_is)
  (case k=>k_is)
 have A_rounds:DL.DefAtD (L2.KOf KX) mg "rounds" Law.zbg [Value.none]:=by
  dsimp only [L2.KOf]
  refine' DL.zsf KX G ?a ?l ?t ?c ?k
  (case a=>k_is)
  (case l=>k_is)
  (case t=>k_is)
  (case c=>k_is)
  (case k=>k_is)
 have A_goers_x:DL.DefAt (L2.KOf KX) mg "goers" Law.zdn:=by
  dsimp only [L2.KOf]
  refine' DL.zso KX G ?a ?l ?c ?k
  (case a=>k_is)
  (case l=>k_is)
  (case c=>k_is)
  (case k=>k_is)
 have A_ones_behind:DL.DefAt (L2.KOf KX) mg "ones_behind" Law.zdB:=by
  dsimp only [L2.KOf]
  refine' DL.zso KX G ?a ?l ?c ?k
  (case a=>k_is)
  (case l=>k_is)
  (case c=>k_is)
  (case k=>k_is)
 have A_is_ring_of_owns:DL.DefAt (L2.KOf KX) mg "is_ring_of_owns" Law.zav:=by
  dsimp only [L2.KOf]
  refine' DL.zso KX G ?a ?l ?c ?k
  (case a=>k_is)
  (case l=>k_is)
  (case c=>k_is)
  (case k=>k_is)
 have A_likes:DL.DefAt (L2.KOf KX) mg "likes" Law.zic:=by
  dsimp only [L2.KOf]
  refine' DL.zso KX G ?a ?l ?c ?k
  (case a=>k_is)
  (case l=>k_is)
  (case c=>k_is)
  (case k=>k_is)
 have A_goes_x:DL.DefAt (L2.KOf KX) mg "goes" Law.zcB:=by
  dsimp only [L2.KOf]
  refine' DL.zso KX G ?a ?l ?c ?k
  (case a=>k_is)
  (case l=>k_is)
  (case c=>k_is)
  (case k=>k_is)
 have A__law_asked_by_x:DL.DefAt (L2.KOf KX) mg "_law_asked_by" Law.zcm:=by
  dsimp only [L2.KOf]
  refine' DL.zso KX G ?a ?l ?c ?k
  (case a=>k_is)
  (case l=>k_is)
  (case c=>k_is)
  (case k=>k_is)
 have A__law_refused:DL.DefAt (L2.KOf KX) mg "_law_refused" Law.zdb:=by
  dsimp only [L2.KOf]
  refine' DL.zso KX G ?a ?l ?c ?k
  (case a=>k_is)
  (case l=>k_is)
  (case c=>k_is)
  (case k=>k_is)
 have A_law:DL.DefAt (L2.KOf KX) mg "law" Law.zmP:=by
  dsimp only [L2.KOf]
  refine' DL.zso KX G ?a ?l ?c ?k
  (case a=>k_is)
  (case l=>k_is)
  (case c=>k_is)
  (case k=>k_is)
 refine DL.zsl hmg A_law (fun _ _ _ _ _ _ us hl=>match us,hl with | [_],_=>rfl) fun f fd Fn base=>?_
 have C__law_cell:=Law.zm5 (P:=PySem.Challenge.rw_ringtrade_k17_not_all_owned.prog) (w:=w) (base:=base) T A__law_cell
 have C__law_row:=Law.zoo (P:=PySem.Challenge.rw_ringtrade_k17_not_all_owned.prog) (w:=w) (base:=base) T A__law_row
 have C__law_wishes:=Law.zli (P:=PySem.Challenge.rw_ringtrade_k17_not_all_owned.prog) (w:=w) (base:=base) T A__law_wishes C__law_cell C__law_row
 have C__law_owns:=Law.zm4 (P:=PySem.Challenge.rw_ringtrade_k17_not_all_owned.prog) (w:=w) (base:=base) T A__law_owns
 have C_things_in:=Law.zm0 (P:=PySem.Challenge.rw_ringtrade_k17_not_all_owned.prog) (w:=w) (base:=base) T A_things_in
 have C_is_square:=Law.zm2 (P:=PySem.Challenge.rw_ringtrade_k17_not_all_owned.prog) (w:=w) (base:=base) T A_is_square C_things_in
 have C_is_whole:=Law.zom (P:=PySem.Challenge.rw_ringtrade_k17_not_all_owned.prog) (w:=w) (base:=base) T A_is_whole
 have C_is_below:=Law.zon (P:=PySem.Challenge.rw_ringtrade_k17_not_all_owned.prog) (w:=w) (base:=base) T A_is_below C_is_whole
 have C_refuse_unless_all_owned_x:=Law.zeV (P:=PySem.Challenge.rw_ringtrade_k17_not_all_owned.prog) (w:=w) (base:=base) T A_refuse_unless_all_owned_x C_is_square C_is_below (xi_NotOwned base) xn_NotOwned
 have C_first_wrong:=Law.zlh (P:=PySem.Challenge.rw_ringtrade_k17_not_all_owned.prog) (w:=w) (base:=base) T A_first_wrong C_is_below
 have C_are_unlike:=Law.zl2 (P:=PySem.Challenge.rw_ringtrade_k17_not_all_owned.prog) (w:=w) (base:=base) T A_are_unlike C_first_wrong
 have C_has_each_once:=Law.zjx (P:=PySem.Challenge.rw_ringtrade_k17_not_all_owned.prog) (w:=w) (base:=base) T A_has_each_once C_are_unlike
 have C_order_of:=Law.zol (P:=PySem.Challenge.rw_ringtrade_k17_not_all_owned.prog) (w:=w) (base:=base) T A_order_of C_has_each_once
 have C_best_left:=Law.zm3 (P:=PySem.Challenge.rw_ringtrade_k17_not_all_owned.prog) (w:=w) (base:=base) T A_best_left
 have C_owner_left:=Law.zl1 (P:=PySem.Challenge.rw_ringtrade_k17_not_all_owned.prog) (w:=w) (base:=base) T A_owner_left
 have C_hand_pointed_at:=Law.zit (P:=PySem.Challenge.rw_ringtrade_k17_not_all_owned.prog) (w:=w) (base:=base) T A_hand_pointed_at C_owner_left
 have C_ring_from:=Law.zm1 (P:=PySem.Challenge.rw_ringtrade_k17_not_all_owned.prog) (w:=w) (base:=base) T A_ring_from
 have C_rings_of_round:=Law.zjc (P:=PySem.Challenge.rw_ringtrade_k17_not_all_owned.prog) (w:=w) (base:=base) T A_rings_of_round C_best_left C_hand_pointed_at C_ring_from
 have C_got_in:=Law.zqv (P:=PySem.Challenge.rw_ringtrade_k17_not_all_owned.prog) (w:=w) (base:=base) T A_got_in
 have C_rounds:=Law.zqu (P:=PySem.Challenge.rw_ringtrade_k17_not_all_owned.prog) (w:=w) (base:=base) T A_rounds C_order_of C_things_in C_rings_of_round C_got_in
 have C_rounds':=Law.zo7 (P:=PySem.Challenge.rw_ringtrade_k17_not_all_owned.prog) (w:=w) (base:=base) T A_rounds C_order_of C_things_in C_rings_of_round C_got_in
 have C_goers_x:=Law.zo8 (P:=PySem.Challenge.rw_ringtrade_k17_not_all_owned.prog) (w:=w) (base:=base) T A_goers_x C_refuse_unless_all_owned_x C_rounds'
 have C_ones_behind:=Law.zlg (P:=PySem.Challenge.rw_ringtrade_k17_not_all_owned.prog) (w:=w) (base:=base) T A_ones_behind
 have C_is_ring_of_owns:=Law.zis (P:=PySem.Challenge.rw_ringtrade_k17_not_all_owned.prog) (w:=w) (base:=base) T A_is_ring_of_owns C_are_unlike C_ones_behind
 have C_likes:=Law.zrr (P:=PySem.Challenge.rw_ringtrade_k17_not_all_owned.prog) (w:=w) (base:=base) T A_likes
 have C_goes_x:=Law.zqw (P:=PySem.Challenge.rw_ringtrade_k17_not_all_owned.prog) (w:=w) (base:=base) T A_goes_x C_refuse_unless_all_owned_x C_is_ring_of_owns C_likes
 have C__law_asked_by_x:=Law.ziu (P:=PySem.Challenge.rw_ringtrade_k17_not_all_owned.prog) (w:=w) (base:=base) T A__law_asked_by_x C_goes_x C_goers_x
 have C__law_refused:=Law.zkj (P:=PySem.Challenge.rw_ringtrade_k17_not_all_owned.prog) (w:=w) (base:=base) T A__law_refused C__law_asked_by_x xa_TradeError xb_TradeError hk_TradeError xb_TooMany ix_TooMany xb_NoRow ix_NoRow xb_NoOwn ix_NoOwn xb_NoOrder ix_NoOrder xb_NotSquare ix_NotSquare ix_ValueError xb_NotOwned ix_NotOwned at_hand
 exact Law.zsk T Fn C__law_cell C__law_wishes C__law_owns C__law_row C__law_refused
end
