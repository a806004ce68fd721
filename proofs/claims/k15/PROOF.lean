import PyProof.Rows.All
import Wide.All
import OpenK.AllK
import Wide.FinOn
import Lean
import PyProof.EqAt
import PyProof.EqKinds
import PyProof.TupleCall
import PyProof.Rows.SetFrom
import KE.KSortTup
import PyProof.Draws
import PyProof.EnumMake
import PyProof.ListRange
import PyProof.Rows.EnumRows
import PyProof.SetRoads
import PyProof.Rows.MinMaxN
import PyProof.Rows.MaxTwoN
import PyProof.IsiH_list
import KE.KDictOf
import PySem.Challenge.RW_ringtrade_k15_first_ring_that_goes
noncomputable section
set_option Elab.async false
set_option linter.all false
set_option maxRecDepth 100000
set_option maxHeartbeats 4000000
section
namespace L2
open PySem PySem.Spec PyProof.Rows
noncomputable abbrev Key:=Sum Int Str
noncomputable def zkU:Key->Value->Bool
 | .inl k,v=>Value.isInt k v
 | .inr x,v=>Value.isStrOf x v
noncomputable def keyH (w:World):Key->Int
 | .inl k=>hashInt k
 | .inr x=>hashStr w x
theorem keyIs_shape:∀{k:Key} {v:Value},zkU k v=true->(∃i t,k=Sum.inl i/\v=Value.int i t)\/(∃x t,k=Sum.inr x/\v=Value.str x t)
 | .inl i,v,h=>by
  obtain ⟨t,e⟩:=Value.isInt_shape (k:=i) (v:=v) h
  exact .inl ⟨i,t,rfl,e⟩
 | .inr x,v,h=>by
  obtain ⟨t,e⟩:=Value.isStrOf_shape (x:=x) (v:=v) h
  exact .inr ⟨x,t,rfl,e⟩
theorem zmn (i:Int) (t:Tok):zkU (.inl i) (.int i t)=true:=by simp [zkU,Value.isInt]
theorem zmm (x:Str) (t:Tok):zkU (.inr x) (.str x t)=true:=by simp [zkU,Value.isStrOf]
theorem zrN (a b:Int):decide ((Sum.inl a:Key)=Sum.inl b)=(a == b):=by
 by_cases e:a=b
 ·subst e; simp
 ·have h:¬ (Sum.inl a:Key)=Sum.inl b:=fun q=>e (Sum.inl.inj q)
  rw [decide_eq_false h]
  exact (beq_eq_false_iff_ne.mpr e).symm
theorem zrK (a b:Str):decide ((Sum.inr a:Key)=Sum.inr b)=decide (a=b):=by
 by_cases e:a=b
 ·subst e; simp
 ·have h:¬ (Sum.inr a:Key)=Sum.inr b:=fun q=>e (Sum.inr.inj q)
  rw [decide_eq_false h,decide_eq_false e]
theorem zrM (a:Int) (b:Str):decide ((Sum.inl a:Key)=Sum.inr b)=false:=decide_eq_false (fun q=>nomatch q)
theorem zrL (a:Str) (b:Int):decide ((Sum.inr a:Key)=Sum.inl b)=false:=decide_eq_false (fun q=>nomatch q)
noncomputable def zbg (prog:Program) (w:World):PySem.KeyKind prog w Key where
 is:=zkU
 hash:=keyH w
 inj:=fun v a b ha hb=>by
  rcases keyIs_shape ha with ⟨i,t,rfl,rfl⟩ | ⟨x,t,rfl,rfl⟩
  ·rcases keyIs_shape hb with ⟨j,u,rfl,e⟩ | ⟨y,u,rfl,e⟩
   ·injection e with e1 _; rw [e1]
   ·exact nomatch e
  ·rcases keyIs_shape hb with ⟨j,u,rfl,e⟩ | ⟨y,u,rfl,e⟩
   ·exact nomatch e
   ·injection e with e1 _; rw [e1]
 byValue:=fun k v h=>by
  rcases keyIs_shape h with ⟨i,t,rfl,rfl⟩ | ⟨x,t,rfl,rfl⟩ <;> rfl
 pyHash:=fun hv h=>by
  rcases keyIs_shape hv with ⟨i,t,rfl,rfl⟩ | ⟨x,t,rfl,rfl⟩
  ·exact wpAny_pyHash_int h
  ·exact wpAny_pyHash_str h
 eqBool:=fun hu hv h=>by
  rcases keyIs_shape hu with ⟨i,t,rfl,rfl⟩ | ⟨x,t,rfl,rfl⟩
  ·rcases keyIs_shape hv with ⟨j,u,rfl,rfl⟩ | ⟨y,u,rfl,rfl⟩
   ·rw [zrN] at h; exact wpAny_eqBool_int h
   ·rw [zrM] at h; exact SeqAt.EqAt.int_str i t y u _ _ _ _ h
  ·rcases keyIs_shape hv with ⟨j,u,rfl,rfl⟩ | ⟨y,u,rfl,rfl⟩
   ·rw [zrL] at h; exact SeqAt.EqAt.str_int x t j u _ _ _ _ h
   ·rw [zrK] at h; exact wpAny_eqBool_str h
 «strs»:=fun k x t v h=>by
  rcases keyIs_shape h with ⟨i,u,rfl,e⟩ | ⟨y,u,rfl,e⟩
  ·exact nomatch e
  ·injection e with e1 _
   subst e1
   cases v <;> rfl
theorem zjc (prog:Program) (w:World) (i:Int) (t:Tok):(zbg prog w).is (.inl i) (.int i t)=true:=zmn i t
theorem zjb (prog:Program) (w:World) (x:Str) (t:Tok):(zbg prog w).is (.inr x) (.str x t)=true:=zmm x t
end L2
namespace L2
open PySem PySem.Spec PyProof.Rows
inductive V where
 | non | bl (b:Bool) | int (i:Int) | str (x:Str) | byt (b:Array UInt8) | flt (b:UInt64) | ref (a:Addr) | ty (n:String)
 deriving DecidableEq
noncomputable def RelV:V->Value->Prop
 | .non,u=>u=Value.none
 | .bl b,u=>u=Value.bool b
 | .int i,u=>∃t,u=Value.int i t
 | .str x,u=>∃t,u=Value.str x t
 | .byt b,u=>∃t,u=Value.bytes b t
 | .flt b,u=>∃t,u=Value.float b t
 | .ref a,u=>u=Value.ref a
 | .ty n,u=>u=Value.type n
noncomputable abbrev Vals:List V->List Value->Prop:=Paired RelV
theorem Vals.length {xs:List V} {us:List Value} (r:Vals xs us):xs.length=us.length:=Paired.length r
theorem Vals.get:∀{xs:List V} {us:List Value} {i:Nat} {x:V},Vals xs us->xs[i]? = some x->∃u,us[i]? = some u/\RelV x u
 | _,_,_,_,.nil,e=>by simp at e
 | _,_,0,_,.cons r _,e=>by simp at e; subst e; exact ⟨_,rfl,r⟩
 | _,_,i + 1,x,.cons _ t,e=>by
  obtain ⟨u,h1,h2⟩:=Vals.get (i:=i) (x:=x) t (by simpa using e)
  exact ⟨u,by simpa using h1,h2⟩
theorem Vals.set {x:V} {u:Value} (r:RelV x u):∀{xs:List V} {us:List Value} (i:Nat),Vals xs us->Vals (xs.set i x) (us.set i u)
 | _,_,_,.nil=>.nil
 | _,_,0,.cons _ t=>.cons r t
 | _,_,i + 1,.cons q t=>.cons q (Vals.set r i t)
theorem Vals.append {xs ys:List V} {us ws:List Value} (h:Vals xs us) (h':Vals ys ws):Vals (xs++ys) (us++ws):=by
 induction h with
 | nil=>exact h'
 | cons r _ ih=>exact .cons r ih
theorem Vals.take:∀{xs:List V} {us:List Value} (n:Nat),Vals xs us->Vals (xs.take n) (us.take n)
 | _,_,0,_=>.nil
 | _,_,_ + 1,.nil=>.nil
 | _,_,n + 1,.cons r t=>.cons r (Vals.take n t)
theorem Vals.drop:∀{xs:List V} {us:List Value} (n:Nat),Vals xs us->Vals (xs.drop n) (us.drop n)
 | _,_,0,r=>r
 | _,_,_ + 1,.nil=>.nil
 | _,_,n + 1,.cons _ t=>Vals.drop n t
theorem Vals.none_of:∀{xs:List V} {us:List Value} {i:Nat},Vals xs us->xs[i]? = none->us[i]? = none:=fun {xs us i} r e=>by
 have h1:=r.length
 have h2:xs.length<=i:=List.getElem?_eq_none_iff.mp e
 exact List.getElem?_eq_none_iff.mpr (by omega)
noncomputable def RelO:Option V->Option Value->Prop
 | some v,some u=>RelV v u
 | none,none=>True
 | _,_=>False
noncomputable def KV {κ:Type}:List (κ × V)->List (κ × Value)->Prop:=Paired fun (p:κ × V) (q:κ × Value)=>p.1=q.1/\RelV p.2 q.2
noncomputable def kV:Key->V
 | .inl i=>.int i
 | .inr x=>.str x
inductive HO where
 | lst (xs:List V)
 | tup (xs:List V)
 | dK (kvs:List (Key × V)) | dT (kvs:List (List Key × V))
 | set (S:Int->Bool) (n:Nat)
 | ins (C dx:Addr) (fs:List (Str × V))
 | own (x:Addr)
 | xd (fs:List (Str × V))
 | met (f x:Addr)
 | rng (lo hi:Int)
 | frz (o:Obj) (u:HO)
 | tbl (ps:Array Value)
 | ext (φ:Heap->Prop)
noncomputable abbrev Hp:=Addr->Option HO
noncomputable def upd (H:Hp) (a:Addr) (o:HO):Hp:=fun b=>if b=a then some o else H b
theorem zaq {H:Hp} {a:Addr} {o:HO}:upd H a o a=some o:=by unfold upd; rw [if_pos rfl]
theorem zaA {H:Hp} {a b:Addr} {o:HO} (h:b≠a):upd H a o b=H b:=by unfold upd; rw [if_neg h]
theorem zta {H:Hp} {a b:Addr} {o u:HO} (h:H a=some o) (h':H b=some u) (d:o≠u):a≠b:=by
 intro e; subst e; rw [h] at h'; exact d (Option.some.inj h')
theorem zbL {H:Hp} {a b:Addr} {o:HO} (h:H a=some o) (h':H b=none):a≠b:=by
 intro e; subst e; rw [h] at h'; cases h'
section
variable (P:Program) (w:World)
noncomputable def za9 (H:Hp) (h:Heap) (a:Addr):HO->Prop
 | .lst xs=>xs.length<=sizeLine/\∃(its:List Value) (n:Nat),Vals xs its/\h.get? a=some { cls:=.type "list",data:=.seq its.toArray n }
 | .tup xs=>xs.length<=sizeLine/\∃its:List Value,Vals xs its/\IsTup h a its.toArray/\∃o,h.get? a=some o/\o.dict=none
 | .dK kvs=>kvs.length<=sizeLine/\(a == sysModules)=false/\∃vs,KV kvs vs/\h.DictOf (zbg P w) a vs
 | .dT kvs=>kvs.length<=sizeLine/\(a == sysModules)=false/\∃xs:List (List Key × Addr × Value),
   Paired (fun (p:List Key × V) (q:List Key × Addr × Value)=>p.1=q.1/\H q.2.1=some (.tup (p.1.map kV))/\RelV p.2 q.2.2) kvs xs /\
   ∃o es ep,h.get? a=some o/\o.ExactDict/\o.data=.dict es ep/\es.toList=xs.map (entryOfKey (tupleKind (zbg P w)))/\(xs.map (·.1)).Nodup
 | .set S n=>h.SetOf (intKind P w) a S n
 | .ins C dx fs=>H dx=some (.own a)/\fs.length<=1000/\dx≠a/\h.get? a=some (PySem.W.instObj C dx) /\
   ∃mA,h.Ns1 dx mA/\(∀f,RelO (fs.lookup f) (mA f))/\PySem.Within mA (fs.map (·.1))
 | .own _=>∃o,h.get? a=some o
 | .xd fs=>∃mA,h.Ns1 a mA/\∀f,RelO (fs.lookup f) (mA f)
 | .rng lo hi=>∃t u v,h.get? a=some { cls:=.type "range",data:=.fields #[.int lo t,.int hi u,.int 1 v] }
 | .frz o u=>h.get? a=some o/\za9 H h a u
 | .tbl ps=>h.get? a=some { cls:=.none,data:=.fields ps }
 | .met f x=>h.get? a=some (PySem.W.methodObj (.ref f) (.ref x))
 | .ext φ=>φ h/\(∃o,h.get? a=some o)/\∀h1 h2:Heap,φ h1->(∀o,h1.get? a=some o->h2.get? a=some o)->φ h2
noncomputable def HOk (H:Hp) (h:Heap):Prop:=∀a o,H a=some o->za9 P w H h a o
end
section
variable {P:Program} {w:World} {H H':Hp} {h h':Heap} {a:Addr} {o:HO}
theorem za9.lt (x:za9 P w H h a o):a < h.objs.size:=by
 cases o with
 | lst xs=>obtain ⟨_,_,_,_,e⟩:=x; exact Heap.lt_size e
 | tup xs=>obtain ⟨_,_,_,p,_⟩:=x; exact p.lt
 | dK kvs=>obtain ⟨_,_,_,_,o,_,_,e,_⟩:=x; exact Heap.lt_size e
 | dT kvs=>obtain ⟨_,_,_,_,o,_,_,e,_⟩:=x; exact Heap.lt_size e
 | set S n=>obtain ⟨o,_,_,_,e,_⟩:=x; exact Heap.lt_size e
 | ins C dx fs=>obtain ⟨_,_,_,e,_⟩:=x; exact Heap.lt_size e
 | own y=>obtain ⟨_,e⟩:=x; exact Heap.lt_size e
 | xd fs=>obtain ⟨_,⟨_,_,_,e,_⟩,_⟩:=x; exact Heap.lt_size e
 | rng lo hi=>obtain ⟨_,_,_,e⟩:=x; exact Heap.lt_size e
 | frz ob u=>obtain ⟨e,_⟩:=x; exact Heap.lt_size e
 | tbl ps=>exact Heap.lt_size (show h.get? a=some _ from x)
 | met f y=>exact Heap.lt_size (show h.get? a=some _ from x)
 | ext φ=>obtain ⟨_,⟨_,e⟩,_⟩:=x; exact Heap.lt_size e
theorem Paired.mapP {α β:Type} {F G:α->β->Prop} {l₁:List α} {l₂:List β} (h:Paired F l₁ l₂) (f:∀a b,F a b->G a b):Paired G l₁ l₂:=by
 induction h with
 | nil=>exact .nil
 | cons r _ ih=>exact .cons (f _ _ r) ih
theorem za9.stay (x:za9 P w H h a o) (k:∀b u,(b=a\/H b=some (.own a))->h.get? b=some u->h'.get? b=some u)
  (ho:∀b,H b=some (.own a)->H' b=some (.own a)) (ht:∀b xs,H b=some (.tup xs)->H' b=some (.tup xs)):za9 P w H' h' a o:=by
 induction o with
 | lst xs=>obtain ⟨z,its,n,r,e⟩:=x; exact ⟨z,its,n,r,k _ _ (.inl rfl) e⟩
 | tup xs=>obtain ⟨z,its,r,⟨ob,e,c⟩,ob2,e2,c2⟩:=x; exact ⟨z,its,r,⟨ob,k _ _ (.inl rfl) e,c⟩,ob2,k _ _ (.inl rfl) e2,c2⟩
 | dK kvs=>obtain ⟨z,y,vs,r,ob,es,ep,e,c⟩:=x; exact ⟨z,y,vs,r,ob,es,ep,k _ _ (.inl rfl) e,c⟩
 | dT kvs=>
  obtain ⟨z,y,xs,r,ob,es,ep,e,c⟩:=x
  exact ⟨z,y,xs,Paired.mapP r fun p q z=>⟨z.1,ht _ _ z.2.1,z.2.2⟩,ob,es,ep,k _ _ (.inl rfl) e,c⟩
 | set S n=>obtain ⟨ob,es,ep,t,e,c⟩:=x; exact ⟨ob,es,ep,t,k _ _ (.inl rfl) e,c⟩
 | ins C dx fs=>
  obtain ⟨d,z,ne,e,mA,⟨od,es,ep,e2,c⟩,r⟩:=x
  exact ⟨ho _ d,z,ne,k _ _ (.inl rfl) e,mA,⟨od,es,ep,k _ _ (.inr d) e2,c⟩,r⟩
 | own y=>obtain ⟨ob,e⟩:=x; exact ⟨ob,k _ _ (.inl rfl) e⟩
 | xd fs=>obtain ⟨mA,⟨od,es,ep,e,c⟩,r⟩:=x; exact ⟨mA,⟨od,es,ep,k _ _ (.inl rfl) e,c⟩,r⟩
 | rng lo hi=>obtain ⟨t,u,v,e⟩:=x; exact ⟨t,u,v,k _ _ (.inl rfl) e⟩
 | frz ob u ih=>obtain ⟨e,q⟩:=x; exact ⟨k _ _ (.inl rfl) e,ih q⟩
 | tbl ps=>
  have e:h.get? a=some { cls:=.none,data:=.fields ps }:=x
  show h'.get? a=some { cls:=.none,data:=.fields ps }
  exact k a _ (.inl rfl) e
 | met f y=>
  have e:h.get? a=some (PySem.W.methodObj (.ref f) (.ref y)):=x
  show h'.get? a=some (PySem.W.methodObj (.ref f) (.ref y))
  exact k a _ (.inl rfl) e
 | ext φ=>obtain ⟨p,⟨o,e⟩,st⟩:=x; exact ⟨st _ _ p fun o q=>k _ _ (.inl rfl) q,⟨o,k _ _ (.inl rfl) e⟩,st⟩
theorem HOk.lt (x:HOk P w H h) (e:H a=some o):a < h.objs.size:=(x a o e).lt
theorem HOk.fresh (x:HOk P w H h) (e:h.objs.size<=a):H a=none:=by
 cases q:H a with
 | none=>rfl
 | some u=>exact absurd (Nat.lt_of_lt_of_le (x.lt q) e) (Nat.lt_irrefl _)
theorem HOk.kept (x:HOk P w H h) (k:∀b u,h.get? b=some u->h'.get? b=some u):HOk P w H h':=fun a o e=>
 (x a o e).stay (fun b u _ q=>k b u q) (fun _ q=>q) fun _ _ q=>q
theorem HOk.laid (x:HOk P w H h) (k:∀b u,h.get? b=some u->h'.get? b=some u) (hp:h.objs.size<=a) (new:za9 P w (upd H a o) h' a o):HOk P w (upd H a o) h':=fun b u e=>by
 have hn:=x.fresh hp
 by_cases hb:b=a
 ·subst hb; rw [zaq] at e; cases e; exact new
 ·rw [zaA hb] at e
  exact (x b u e).stay (fun c v _ q=>k c v q) (fun c q=>by rw [zaA (zbL q hn)]; exact q) fun c xs q=>by rw [zaA (zbL q hn)]; exact q
end
noncomputable def Rd (H:Hp) (a:Addr) (u:HO):Prop:=H a=some u\/∃o,H a=some (.frz o u)
theorem Rd.of {H:Hp} {a:Addr} {u:HO} (h:H a=some u):Rd H a u:=.inl h
theorem Rd.ok {P:Program} {w:World} {H:Hp} {h:Heap} {a:Addr} {u:HO} (r:Rd H a u) (x:HOk P w H h):za9 P w H h a u:=by
 rcases r with r | ⟨o,r⟩
 ·exact x a u r
 ·obtain ⟨_,q⟩:=x a _ r
  exact q
noncomputable def Mut:Option HO->Prop
 | some (.lst _)=>True
 | some (.dK _)=>True
 | some (.dT _)=>True
 | some (.set _ _)=>True
 | some (.ins _ _ _)=>True
 | some (.ext _)=>True
 | _=>False
section
variable {P:Program} {w:World} {H:Hp} {h h':Heap} {x e:Addr} {o':HO}
theorem HOk.write (ok:HOk P w H h) (mu:Mut (H x)) (he:e=x\/H e=some (.own x)) (k:∀b u,b≠e->h.get? b=some u->h'.get? b=some u) (heo:∃u,h'.get? e=some u)
  (new:za9 P w (upd H x o') h' x o'):HOk P w (upd H x o') h':=fun b u q=>by
 have nown:∀c y,H c=some (.own y)->c≠x:=fun c y r z=>by subst z; rw [r] at mu; exact mu
 have ntup:∀c xs,H c=some (.tup xs)->c≠x:=fun c xs r z=>by subst z; rw [r] at mu; exact mu
 by_cases hb:b=x
 ·subst hb; rw [zaq] at q; cases q; exact new
 ·rw [zaA hb] at q
  by_cases hbe:b=e
  ·have q':H b=some (.own x):=by
    rcases he with z | z
    ·exact absurd (hbe.trans z) hb
    ·rw [hbe]; exact z
   rw [q] at q'; cases q'
   obtain ⟨v,hv⟩:=heo
   exact ⟨v,by rw [hbe]; exact hv⟩
  ·refine (ok b u q).stay (fun c v hc r=>k c v ?_ r) (fun c r=>by rw [zaA (nown c b r)]; exact r) fun c xs r=>by rw [zaA (ntup c xs r)]; exact r
   rcases hc with rfl | hc
   ·exact hbe
   ·rintro rfl
    rcases he with z | z
    ·exact nown c b hc z
    ·rw [hc] at z; cases z; exact hb rfl
end
structure Un (fs ex:List Addr) (H H':Hp) (h h':Heap):Prop where
 keep:∀b o,h.get? b=some o->H b=none->b∉fs->b∉ex->h'.get? b=some o
 slot:∀b o,h.get? b=some o->H b=none->b∈fs->b∉ex->∃sl,h'.get? b=some { o with slots:=sl }
 free:∀b o,h.get? b=some o->H b=none->b∉ex->H' b=none
 there:∀b o,h.get? b=some o->b∉ex->∃o',h'.get? b=some o'
 tups:∀b xs,H b=some (.tup xs)->H' b=some (.tup xs)
 frzs:∀b o u,H b=some (.frz o u)->H' b=some (.frz o u)
 tbls:∀b ps,H b=some (.tbl ps)->∃more,H' b=some (.tbl (ps++more))
section
variable {fs fs' ex ex':List Addr} {H H1 H2:Hp} {h h1 h2 h':Heap} {a x e:Addr} {o:HO}
theorem Un.any (u:Un fs ex H H1 h h1) {b:Addr} {ob:Obj} (q:h.get? b=some ob) (n:H b=none) (hx:b∉ex):∃sl,h1.get? b=some { ob with slots:=sl }:=by
 by_cases hb:b∈fs
 ·exact u.slot b ob q n hb hx
 ·exact ⟨ob.slots,u.keep b ob q n hb hx⟩
theorem Un.trans (a:Un fs ex H H1 h h1) (b:Un fs ex H1 H2 h1 h2):Un fs ex H H2 h h2 where
 keep:=fun c ob q n hc hx=>b.keep c ob (a.keep c ob q n hc hx) (a.free c ob q n hx) hc hx
 slot:=fun c ob q n hc hx=>by
  obtain ⟨sl,e1⟩:=a.slot c ob q n hc hx
  obtain ⟨sl',e2⟩:=b.slot c _ e1 (a.free c ob q n hx) hc hx
  exact ⟨sl',e2⟩
 free:=fun c ob q n hx=>by
  obtain ⟨o',e1⟩:=a.there c ob q hx
  exact b.free c o' e1 (a.free c ob q n hx) hx
 there:=fun c ob q hx=>by
  obtain ⟨o',e1⟩:=a.there c ob q hx
  exact b.there c o' e1 hx
 tups:=fun c xs q=>b.tups c xs (a.tups c xs q)
 frzs:=fun c ob xs q=>b.frzs c ob xs (a.frzs c ob xs q)
 tbls:=fun c ps q=>by
  obtain ⟨m1,e1⟩:=a.tbls c ps q
  obtain ⟨m2,e2⟩:=b.tbls c _ e1
  exact ⟨m1++m2,by rw [e2,Array.append_assoc]⟩
theorem Un.kept (k:∀b u,h.get? b=some u->h'.get? b=some u):Un fs ex H H h h':=
 ⟨fun b ob q _ _ _=>k b ob q,fun b ob q _ _ _=>⟨ob.slots,k b ob q⟩,fun _ _ _ n _=>n,fun b ob q _=>⟨ob,k b ob q⟩,fun _ _ q=>q,fun _ _ _ q=>q,fun _ ps q=>⟨#[],by rw [q]; simp⟩⟩
theorem Un.refl:Un fs ex H H h h:=Un.kept fun _ _ q=>q
theorem Un.laid (k:∀b u,h.get? b=some u->h'.get? b=some u) (hp:h.objs.size<=a) (hn:H a=none):Un fs ex H (upd H a o) h h' where
 keep:=fun b u q _ _ _=>k b u q
 slot:=fun b u q _ _ _=>⟨u.slots,k b u q⟩
 free:=fun b u q n _=>by rw [zaA (Nat.ne_of_lt (Nat.lt_of_lt_of_le (Heap.lt_size q) hp))]; exact n
 there:=fun b u q _=>⟨u,k b u q⟩
 tups:=fun b xs q=>by rw [zaA (zbL q hn)]; exact q
 frzs:=fun b u xs q=>by rw [zaA (zbL q hn)]; exact q
 tbls:=fun b ps q=>⟨#[],by rw [zaA (zbL q hn),q]; simp⟩
theorem Un.write (mu:Mut (H x)) (he:e=x\/H e=some (.own x)) (k:∀b u,b≠e->h.get? b=some u->h'.get? b=some u) (heo:∃u,h'.get? e=some u):Un fs ex H (upd H x o) h h':=by
 have hx:∀b,H b=none->b≠x:=fun b n z=>by subst z; rw [n] at mu; exact mu
 have hb:∀b,H b=none->b≠e:=fun b n z=>by
  subst z
  rcases he with r | r
  ·exact hx b n r
  ·rw [n] at r; cases r
 have hm:∀b u,H b=some u->¬ Mut (some u)->b≠x:=fun b u q nm z=>by subst z; rw [q] at mu; exact nm mu
 refine ⟨fun b u q n _ _=>k b u (hb b n) q,fun b u q n _ _=>⟨u.slots,k b u (hb b n) q⟩,fun b u q n _=>by rw [zaA (hx b n)]; exact n,fun b u q _=>?_,
  fun b xs q=>by rw [zaA (hm b _ q fun z=>z)]; exact q,fun b u xs q=>by rw [zaA (hm b _ q fun z=>z)]; exact q,fun b ps q=>⟨#[],by rw [zaA (hm b _ q fun z=>z),q]; simp⟩⟩
 by_cases hbe:b=e
 ·subst hbe; exact heo
 ·exact ⟨u,k b u hbe q⟩
theorem Un.mono (u:Un fs ex H H1 h h1) (hs:∀b∈fs,b∈fs') (hx:∀b∈ex,b∈ex'):Un fs' ex' H H1 h h1:=
 ⟨fun b ob q n hb he=>u.keep b ob q n (fun z=>hb (hs b z)) fun z=>he (hx b z),fun _ _ q n _ he=>u.any q n fun z=>he (hx _ z),fun b ob q n he=>u.free b ob q n fun z=>he (hx b z),fun b ob q he=>u.there b ob q fun z=>he (hx b z),u.tups,u.frzs,u.tbls⟩
end
noncomputable def trk (h:Heap) (H:Hp):List Addr:=(List.range h.objs.size).filter fun a=>(H a).isSome
noncomputable def hidT (h:Heap) (H:Hp):Heap:=PySem.W.hideAll h (trk h H)
theorem zmz (h:Heap) (H:Hp):(hidT h H).objs.size=h.objs.size:=PySem.W.hideAll_size _ _
theorem zn6 {h:Heap} {H:Hp} {b:Addr} {o:Obj} (e:h.get? b=some o) (n:H b=none):(hidT h H).get? b=some o:=
 PySem.W.hideAll_get _ e fun hm=>by
  have q:(H b).isSome=true:=(List.mem_filter.mp hm).2
  rw [n] at q; simp at q
theorem zpV {h:Heap} {H:Hp} {b:Addr} {o:Obj} (e:(hidT h H).get? b=some o):h.get? b=some o/\H b=none:=by
 have e':h.get? b=some o:=PySem.W.of_hideAll (trk h H) e
 refine ⟨e',?_⟩
 cases q:H b with
 | none=>rfl
 | some x=>
  have hm:b∈trk h H:=List.mem_filter.mpr ⟨List.mem_range.mpr (Heap.lt_size e'),by simp [q]⟩
  have z:(hidT h H).get? b=none:=PySem.W.hideAll_none (trk h H) hm
  rw [z] at e; cases e
noncomputable def zgu (g h:Heap) (L:Addr):List (Addr × Obj):=(List.range h.objs.size).filterMap fun a=>if a=L\/(g.get? a).isSome=true then none else (h.get? a).map fun o=>(a,o)
theorem zgc {g h:Heap} {L a:Addr} {o:Obj} (h1:a≠L) (h2:g.get? a=none) (h3:h.get? a=some o):(a,o)∈zgu g h L:=
 List.mem_filterMap.mpr ⟨a,List.mem_range.mpr (Heap.lt_size h3),by simp [h1,h2,h3]⟩
theorem zgK {g h:Heap} {L:Addr} {p:Addr × Obj} (hp:p∈zgu g h L):p.1≠L/\g.get? p.1=none/\h.get? p.1=some p.2:=by
 obtain ⟨b,_,e⟩:=List.mem_filterMap.mp hp
 split at e
 ·cases e
 ·rename_i hn
  cases q:h.get? b with
  | none=>rw [q] at e; simp at e
  | some u=>
   rw [q] at e
   simp only [Option.map_some,Option.some.injEq] at e
   subst e
   refine ⟨fun z=>hn (.inl z),?_,q⟩
   show g.get? b=none
   cases r:g.get? b with
   | none=>rfl
   | some v=>exact (hn (.inr (by simp [r]))).elim
noncomputable def rest (g h:Heap) (L d:Addr):List (Addr × Obj):=(zgu g h L).filter fun p=>decide (p.1≠d)
theorem znQ {g h:Heap} {L:Addr}:News g L h (zgu g h L):=fun p hp=>let ⟨a,b,c⟩:=zgK hp; ⟨c,a,b⟩
end L2
namespace L2
open PySem PySem.Spec PyProof.Rows
structure Mod (K:PySem.W.Frag) (mg:Str->Option Value) (base:Heap):Prop where
 kin:K.In base
 glob:base.Ns mainGlobals mg
 blt:∃mb,base.Ns builtinsNs mb/\∀x:Str,x≠"__name__"->mb x=bootBuiltins x
 nolimit:base.NoLimit
structure Cx where
 prog:Program
 w:World
 K:PySem.W.Frag
 mg:Str->Option Value
 base:Heap
 A:Around
 N:List Str
 s₀:Shared
 H₀:Hp
 env:Env
 outer:List Env
 stack:List Env
 ex:List Addr
 fn:Str->Bool
 calm:Bool
 pn:List (Addr × Obj)
 xe:Value->Shared->Prop
noncomputable def frs (l:List Env):List Addr:=l.filterMap (·.frame)
noncomputable abbrev Cx.fs (X:Cx):List Addr:=frs X.outer
noncomputable def Vis (sc:Scope) (x:Str):Prop:=sc.names.lookup x=some .local\/sc.names.lookup x=some .cell\/sc.names.lookup x=some .free
noncomputable def Loc (sc:Scope) (x:Str):Prop:=sc.names.lookup x=some .local\/sc.names.lookup x=some .cell
noncomputable def Look (env:Env) (h:Heap) (m:Str->Option Value) (x:Str) (u:Value):Prop:=
 (env.kindOf x=some .local/\m x=some u)\/((env.kindOf x=some .cell\/env.kindOf x=some .free)/\∃c,env.cells.lookup x=some c/\h.IsCell c (some u))
structure Cx.Ok (X:Cx):Prop where
 mod:Mod X.K X.mg X.base
 kind:X.env.scope.kind=.function
 glob:X.env.globals=mainGlobals
 blt:X.env.builtins=builtinsNs
 above:X.s₀.heap.objs.size<=X.env.locals
 inj:∀x y c,X.env.cells.lookup x=some c->X.env.cells.lookup y=some c->x=y
 has:∀x,(X.env.kindOf x=some .cell\/X.env.kindOf x=some .free)->∃c,X.env.cells.lookup x=some c
 cab:∀x c,X.fn x=true->X.env.cells.lookup x=some c->X.s₀.heap.objs.size<=c
 hd:X.calm=true->X.A.handled=none
 frames:X.A.frames=some X.stack
 stk:X.stack=X.outer\/(X.stack=X.env::X.outer/\X.env.frame=some X.env.locals)
 exf:∀b∈X.ex,b≠X.env.locals/\∀x c,X.env.cells.lookup x=some c->c≠b
 bs:∀b o,X.base.get? b=some o->X.s₀.heap.get? b=some o/\X.H₀ b=none
 bsz:X.base.objs.size<=X.s₀.heap.objs.size
 noex:∀b o,X.base.get? b=some o->b∉X.ex
 exfs:∀b∈X.ex,b∉X.fs
 funs:X.s₀.heap.FunFrames X.base X.outer
 frf:∀b∈X.fs,X.H₀ b=none
structure Inv (X:Cx) (pins:List (Addr × Obj)) (σ:List (Option V)) (H:Hp) (s:Shared):Prop where
 ok:X.Ok
 os:s.os=X.s₀.os
 bare:AllBare s.gens
 base:Un X.fs X.ex X.H₀ H X.s₀.heap s.heap
 loc:∃m,s.heap.Ns X.env.locals m/\∀(i:Nat) (x:Str) (v:V),X.N[i]? = some x->σ[i]? = some (some v)->Vis X.env.scope x->∃u,RelV v u/\Look X.env s.heap m x u
 cell:∀x c,X.env.cells.lookup x=some c->∃v,s.heap.IsCell c v
 free:H X.env.locals=none
 freeC:∀x c,X.env.cells.lookup x=some c->H c=none
 pin:∀p∈X.pn++pins,s.heap.get? p.1=some p.2/\H p.1=none/\p.1≠X.env.locals/\p.1∉X.fs/\∀v,p.2.data≠.cell v
 hok:HOk X.prog X.w H s.heap
 len:σ.length=X.N.length
section
variable {X:Cx} {pins:List (Addr × Obj)} {σ:List (Option V)} {H H':Hp} {s:Shared} {h':Heap}
theorem Cx.Ok.nofr (ok:X.Ok) {b:Addr} {o:Obj} (e:X.base.get? b=some o):b∉X.fs:=fun hb=>by
 have:=(ok.funs.mem hb).1
 rw [e] at this; cases this
theorem Inv.bs (I:Inv X pins σ H s):∀b o,X.base.get? b=some o->s.heap.get? b=some o/\H b=none:=fun b o e=>
 ⟨I.base.keep b o (I.ok.bs b o e).1 (I.ok.bs b o e).2 (I.ok.nofr e) (I.ok.noex b o e),I.base.free b o (I.ok.bs b o e).1 (I.ok.bs b o e).2 (I.ok.noex b o e)⟩
theorem Inv.bk (I:Inv X pins σ H s):∀b o,X.base.get? b=some o->s.heap.get? b=some o:=fun b o e=>(I.bs b o e).1
theorem Inv.mod (I:Inv X pins σ H s):Mod X.K X.mg X.base:=I.ok.mod
theorem Inv.kIn (I:Inv X pins σ H s):X.K.In s.heap:=I.ok.mod.kin.keeps I.bk
theorem Inv.nolimit (I:Inv X pins σ H s):s.heap.NoLimit:=I.ok.mod.nolimit.keeps I.bk
theorem Inv.fr (I:Inv X pins σ H s):∃m,Fr X.base X.env.locals s.heap m:=
 let ⟨m,hn,_⟩:=I.loc
 ⟨m,hn,I.bk,Nat.le_trans I.ok.bsz I.ok.above⟩
theorem Inv.lt (I:Inv X pins σ H s):X.env.locals < s.heap.objs.size:=let ⟨_,hn,_⟩:=I.loc; hn.lt
theorem Inv.sz (I:Inv X pins σ H s):X.s₀.heap.objs.size<=s.heap.objs.size:=Nat.le_trans I.ok.above (Nat.le_of_lt I.lt)
theorem Inv.nofs (I:Inv X pins σ H s) {a:Addr} (h:s.heap.objs.size<=a):a∉X.fs:=fun hb=>by
 obtain ⟨_,o,ho,_⟩:=I.ok.funs.mem hb
 exact absurd (Nat.lt_of_lt_of_le (Heap.lt_size ho) (Nat.le_trans I.sz h)) (Nat.lt_irrefl _)
theorem Inv.cne (I:Inv X pins σ H s):∀x c,X.env.cells.lookup x=some c->c≠X.env.locals:=fun x c e z=>by
 obtain ⟨v,o,ho,hd⟩:=I.cell x c e
 obtain ⟨m,⟨o',es,ep,ho',hd',_⟩,_⟩:=I.loc
 rw [z,ho'] at ho; cases ho; rw [hd'] at hd; cases hd
theorem Inv.funs (I:Inv X pins σ H s):s.heap.FunFrames X.base X.outer:=by
 have all:∀(l:List Env),(∀b∈frs l,b∈X.fs)->X.s₀.heap.FunFrames X.base l->s.heap.FunFrames X.base l:=by
  intro l
  induction l with
  | nil=>intro _ _; trivial
  | cons env r ih=>
   intro hs hl
   obtain ⟨hk,⟨L,o,hf,hn,ho,hd⟩,hr⟩:=hl
   have hL:L∈X.fs:=hs L (by unfold frs; rw [List.filterMap_cons,hf]; exact List.mem_cons_self)
   obtain ⟨sl,e⟩:=I.base.slot L o ho (I.ok.frf L hL) hL fun z=>I.ok.exfs L z hL
   exact ⟨hk,⟨L,_,hf,hn,e,hd⟩,ih (fun b hb=>hs b (by unfold frs; rw [List.filterMap_cons,hf]; exact List.mem_cons_of_mem _ hb)) hr⟩
 exact all X.outer (fun _ hb=>hb) I.ok.funs
theorem Inv.stack (I:Inv X pins σ H s):s.heap.FunFrames X.base X.stack:=by
 rcases I.ok.stk with e | ⟨e,hf⟩
 ·rw [e]; exact I.funs
 ·rw [e]
  obtain ⟨m,hn,_⟩:=I.loc
  refine .cons (by rw [I.ok.kind]; decide) hf hn ?_ I.funs
  exact Heap.get?_none_of_le (Nat.le_trans I.ok.bsz I.ok.above)
theorem Inv.stkSub (I:Inv X pins σ H s):∀b∈frs X.stack,b∈X.env.locals::X.fs:=fun b hb=>by
 rcases I.ok.stk with e | ⟨e,hf⟩
 ·rw [e] at hb; exact List.mem_cons_of_mem _ hb
 ·rw [e] at hb
  unfold frs at hb
  rw [List.filterMap_cons,hf] at hb
  exact hb
theorem Inv.stkFree (I:Inv X pins σ H s):∀b∈frs X.stack,H b=none:=fun b hb=>by
 rcases List.mem_cons.mp (I.stkSub b hb) with e | hb
 ·rw [e]; exact I.free
 ·obtain ⟨_,o,ho,_⟩:=I.ok.funs.mem hb
  exact I.base.free b o ho (I.ok.frf b hb) fun z=>I.ok.exfs b z hb
theorem Inv.step {g':Array GenState} {t':Nat} {d':Drawn} {ch:List Addr} (I:Inv X pins σ H s)
  (hch:∀b∈ch,(b∈X.ex\/X.s₀.heap.objs.size<=b)/\b≠X.env.locals/\(∀x c,X.env.cells.lookup x=some c->c≠b)/\∀p∈X.pn++pins,p.1≠b)
  (keep:∀b o,b≠X.env.locals->b∉X.fs->b∉ch->s.heap.get? b=some o->H b=none->h'.get? b=some o)
  (slot:∀b o,b≠X.env.locals->b∈X.fs->b∉ch->s.heap.get? b=some o->H b=none->∃sl,h'.get? b=some { o with slots:=sl }) (free:∀b o,b∉ch->s.heap.get? b=some o->H b=none->H' b=none)
  (there:∀b o,b∉ch->s.heap.get? b=some o->∃o',h'.get? b=some o')
  (tups:∀b xs,H b=some (.tup xs)->H' b=some (.tup xs)) (frzs:∀b o u,H b=some (.frz o u)->H' b=some (.frz o u)) (tbls:∀b ps,H b=some (.tbl ps)->∃more,H' b=some (.tbl (ps++more)))
  (ns:∀m,s.heap.Ns X.env.locals m->h'.Ns X.env.locals m) (hok:HOk X.prog X.w H' h') (hg:AllBare g') :
  Inv X pins σ H' { s with heap:=h',gens:=g',drawn:=d',toks:=t' }:=by
 have neL:∀b o,X.s₀.heap.get? b=some o->b≠X.env.locals:=fun b o e=>Nat.ne_of_lt (Nat.lt_of_lt_of_le (Heap.lt_size e) I.ok.above)
 have neC:∀b o,X.s₀.heap.get? b=some o->b∉X.ex->b∉ch:=fun b o e hx hb=>by
  rcases (hch b hb).1 with z | z
  ·exact hx z
  ·exact absurd (Nat.lt_of_lt_of_le (Heap.lt_size e) z) (Nat.lt_irrefl _)
 have cellK:∀x c,X.env.cells.lookup x=some c->∀v,s.heap.IsCell c v->h'.IsCell c v:=fun x c e v ⟨o,ho,hd⟩=>by
  have nch:c∉ch:=fun z=>(hch c z).2.2.1 x c e rfl
  by_cases hc:c∈X.fs
  ·obtain ⟨sl,q⟩:=slot c o (I.cne x c e) hc nch ho (I.freeC x c e)
   exact ⟨_,q,hd⟩
  ·exact ⟨o,keep c o (I.cne x c e) hc nch ho (I.freeC x c e),hd⟩
 refine ⟨I.ok,I.os,hg,⟨fun b o e n hb hx=>?_,fun b o e n hb hx=>?_,fun b o e n hx=>?_,fun b o e hx=>?_,fun b xs e=>tups b xs (I.base.tups b xs e),fun b o xs e=>frzs b o xs (I.base.frzs b o xs e),fun b ps e=>?_⟩,?_,fun x c e=>?_,?_,fun x c e=>?_,fun p hp=>?_,hok,I.len⟩
 ·exact keep b o (neL b o e) hb (neC b o e hx) (I.base.keep b o e n hb hx) (I.base.free b o e n hx)
 ·obtain ⟨sl,e1⟩:=I.base.slot b o e n hb hx
  obtain ⟨sl',e2⟩:=slot b _ (neL b o e) hb (neC b o e hx) e1 (I.base.free b o e n hx)
  exact ⟨sl',e2⟩
 ·obtain ⟨o',e1⟩:=I.base.there b o e hx
  exact free b o' (neC b o e hx) e1 (I.base.free b o e n hx)
 ·obtain ⟨o',e1⟩:=I.base.there b o e hx
  exact there b o' (neC b o e hx) e1
 ·obtain ⟨m1,e1⟩:=I.base.tbls b ps e
  obtain ⟨m2,e2⟩:=tbls b _ e1
  exact ⟨m1++m2,by rw [e2,Array.append_assoc]⟩
 ·obtain ⟨m,hn,hl⟩:=I.loc
  refine ⟨m,ns m hn,fun i x v e1 e2 e3=>?_⟩
  obtain ⟨u,r,l⟩:=hl i x v e1 e2 e3
  refine ⟨u,r,?_⟩
  rcases l with l | ⟨k,c,e,z⟩
  ·exact .inl l
  ·exact .inr ⟨k,c,e,cellK x c e _ z⟩
 ·obtain ⟨v,z⟩:=I.cell x c e
  exact ⟨v,cellK x c e v z⟩
 ·obtain ⟨m,⟨o,_,_,ho,_⟩,_⟩:=I.loc
  exact free _ o (fun z=>(hch _ z).2.1 rfl) ho I.free
 ·obtain ⟨v,o,ho,hd⟩:=I.cell x c e
  exact free c o (fun z=>(hch c z).2.2.1 x c e rfl) ho (I.freeC x c e)
 ·obtain ⟨e,n,ne,nf,d⟩:=I.pin p hp
  have nch:p.1∉ch:=fun z=>(hch p.1 z).2.2.2 p hp rfl
  exact ⟨keep p.1 p.2 ne nf nch e n,free p.1 p.2 nch e n,ne,nf,d⟩
theorem Inv.un {t':Nat} (I:Inv X pins σ H s) (u:Un X.fs [] H H' s.heap h') (hok:HOk X.prog X.w H' h'):Inv X pins σ H' { s with heap:=h',toks:=t' }:=by
 obtain ⟨m,⟨o,es,ep,ho,r⟩,_⟩:=id I.loc
 obtain ⟨sl,hL⟩:=u.any ho I.free (by simp)
 exact I.step (g':=s.gens) (d':=s.drawn) (ch:=[]) (fun _ z=>nomatch z) (fun b o _ hb _ e n=>u.keep b o e n hb (by simp)) (fun b o _ hb _ e n=>u.slot b o e n hb (by simp)) (fun b o _ e n=>u.free b o e n (by simp)) (fun b o _ e=>u.there b o e (by simp)) u.tups u.frzs u.tbls (fun m' hm=>by
  obtain ⟨o',es',ep',ho',r'⟩:=hm
  rw [ho] at ho'; cases ho'
  exact ⟨_,es',ep',hL,r'⟩) hok I.bare
theorem Inv.call {g':Array GenState} {t':Nat} {d':Drawn} {ch:List Addr} (I:Inv X pins σ H s) (u:Un (frs X.stack) ch H H' s.heap h') (hok:HOk X.prog X.w H' h') (hg:AllBare g')
  (hch:∀b∈ch,(b∈X.ex\/X.s₀.heap.objs.size<=b)/\b≠X.env.locals/\(∀x c,X.env.cells.lookup x=some c->c≠b)/\∀p∈X.pn++pins,p.1≠b) :
  Inv X pins σ H' { s with heap:=h',gens:=g',drawn:=d',toks:=t' }:=by
 obtain ⟨m,⟨o,es,ep,ho,r⟩,_⟩:=id I.loc
 obtain ⟨sl,hL⟩:=u.any ho I.free fun z=>(hch _ z).2.1 rfl
 exact I.step (ch:=ch) hch (fun b o hL hb hc e n=>u.keep b o e n (fun z=>(List.mem_cons.mp (I.stkSub b z)).elim hL hb) hc) (fun b o _ _ hc e n=>u.any e n hc) (fun b o hc e n=>u.free b o e n hc) (fun b o hc e=>u.there b o e hc) u.tups u.frzs u.tbls (fun m' hm=>by
  obtain ⟨o',es',ep',ho',r'⟩:=hm
  rw [ho] at ho'; cases ho'
  exact ⟨_,es',ep',hL,r'⟩) hok hg
theorem Inv.turned {t':Nat} {it:Addr} (I:Inv X pins σ H s) (k:∀b o,b≠it->s.heap.get? b=some o->h'.get? b=some o) (hn:H it=none) (hL:it≠X.env.locals)
  (h1:it∈X.ex\/X.s₀.heap.objs.size<=it) (h2:∀x c,X.env.cells.lookup x=some c->c≠it) (h3:∀p∈X.pn++pins,p.1≠it):Inv X pins σ H { s with heap:=h',toks:=t' }:=by
 have nit:∀b u,H b=some u->b≠it:=fun b u e z=>by rw [z,hn] at e; cases e
 refine I.step (g':=s.gens) (d':=s.drawn) (ch:=[it]) (fun b hb=>?_) (fun b o _ _ hc e _=>k b o (fun z=>hc (by simp [z])) e) (fun b o _ _ hc e _=>⟨o.slots,k b o (fun z=>hc (by simp [z])) e⟩) (fun _ _ _ _ n=>n)
  (fun b o hc e=>⟨o,k b o (fun z=>hc (by simp [z])) e⟩) (fun _ _ e=>e) (fun _ _ _ e=>e) (fun b ps e=>⟨#[],by rw [e]; simp⟩) (fun m hm=>?_) (fun b u e=>?_) I.bare
 ·have e:b=it:=by simpa using hb
  subst e
  exact ⟨h1,hL,h2,h3⟩
 ·obtain ⟨o,es,ep,ho,r⟩:=hm
  exact ⟨o,es,ep,k _ o (Ne.symm hL) ho,r⟩
 ·refine (I.hok b u e).stay (fun c v hc q=>k c v ?_ q) (fun _ q=>q) fun _ _ q=>q
  rcases hc with z | z
  ·rw [z]; exact nit b u e
  ·exact nit c _ z
theorem Inv.tok (I:Inv X pins σ H s) (t:Nat):Inv X pins σ H { s with toks:=t }:=I.un (h':=s.heap) (t':=t) Un.refl I.hok
theorem Inv.kept {t':Nat} (I:Inv X pins σ H s) (k:∀b u,s.heap.get? b=some u->h'.get? b=some u):Inv X pins σ H { s with heap:=h',toks:=t' }:=I.un (Un.kept k) (I.hok.kept k)
theorem Inv.laid {a:Addr} {o:HO} {t':Nat} (I:Inv X pins σ H s) (k:∀b u,s.heap.get? b=some u->h'.get? b=some u) (hp:s.heap.objs.size<=a) (new:za9 X.prog X.w (upd H a o) h' a o) :
  Inv X pins σ (upd H a o) { s with heap:=h',toks:=t' }:=I.un (Un.laid k hp (I.hok.fresh hp)) (I.hok.laid k hp new)
theorem Inv.write {x e:Addr} {o:HO} {t':Nat} (I:Inv X pins σ H s) (mu:Mut (H x)) (he:e=x\/H e=some (.own x)) (k:∀b u,b≠e->s.heap.get? b=some u->h'.get? b=some u) (heo:∃u,h'.get? e=some u)
  (new:za9 X.prog X.w (upd H x o) h' x o):Inv X pins σ (upd H x o) { s with heap:=h',toks:=t' }:=I.un (Un.write mu he k heo) (I.hok.write mu he k heo new)
theorem Inv.pins_of {pins':List (Addr × Obj)} (I:Inv X pins σ H s) (h:∀p∈pins',s.heap.get? p.1=some p.2/\H p.1=none/\p.1≠X.env.locals/\p.1∉X.fs/\∀v,p.2.data≠.cell v):Inv X pins' σ H s:=
 ⟨I.ok,I.os,I.bare,I.base,I.loc,I.cell,I.free,I.freeC,fun p hp=>(List.mem_append.mp hp).elim (fun z=>I.pin p (List.mem_append_left _ z)) (h p),I.hok,I.len⟩
theorem zj3 {N:List Str} (hN:N.Nodup) {i j:Nat} {x:Str} (a:N[i]? = some x) (b:N[j]? = some x):i=j:=by
 obtain ⟨h1,e1⟩:=List.getElem?_eq_some_iff.mp a
 obtain ⟨h2,e2⟩:=List.getElem?_eq_some_iff.mp b
 exact (List.getElem_inj hN).mp (e1.trans e2.symm)
theorem zh0 {M:Model} {A:Around} {E:Value->Shared->Prop} {i:Nat} {x:Str} {v:V} {u:Value} {Q:Unit->Shared->Prop} (I:Inv X pins σ H s) (hN:X.N.Nodup) (hi:X.N[i]? = some x) (hx:Loc X.env.scope x) (r:RelV v u)
  (h:∀s',Inv X pins (σ.set i (some v)) H s'->(∃a,Heap.SameBut a s.heap s'.heap/\(a=X.env.locals\/X.env.cells.lookup x=some a))->Q () s') (hf:X.fn x=true\/X.env.scope.names.lookup x=some .local:=by first | exact .inl rfl | exact .inr rfl | assumption):wpAny M A (storeName X.env x u) Q E s:=by
 obtain ⟨m,hn,hl⟩:=id I.loc
 have hcls:(X.env.scope.kind == .class || (X.env.scope.kind == .module && X.env.locals != X.env.globals))=false:=by rw [I.ok.kind]; rfl
 have hiσ:i < σ.length:=by rw [I.len]; exact (List.getElem?_eq_some_iff.mp hi).1
 have cne:=I.cne
 have tracked:∀{a:Addr} {h':Heap},(∃o,s.heap.get? a=some o/\H a=none)->Heap.SameBut a s.heap h'->HOk X.prog X.w H h':=fun {a h'} ha hs b ob e=>by
  obtain ⟨_,_,hfree⟩:=ha
  refine (I.hok b ob e).stay (fun c w' hc q=>(hs.2 c ?_).trans q) (fun _ q=>q) fun _ _ q=>q
  rintro rfl
  rcases hc with rfl | hc
  ·rw [hfree] at e; cases e
  ·rw [hfree] at hc; cases hc
 rcases hx with hk | hk
 ·refine wpAny_storeName_local hk hn (fun h' hn' hs=>?_) hcls
  obtain ⟨oL,_,_,hoL,_⟩:=id hn
  refine h _ ⟨I.ok,I.os,I.bare,⟨fun b o e n hb hx=>?_,fun b o e n hb hx=>?_,I.base.free,fun b o e hx=>?_,I.base.tups,I.base.frzs,I.base.tbls⟩,⟨_,hn',fun j y v' e1 e2 e3=>?_⟩,fun y c e=>?_,I.free,I.freeC,fun p hp=>?_,tracked ⟨oL,hoL,I.free⟩ hs,by simpa using I.len⟩ ⟨_,hs,.inl rfl⟩
  ·exact (hs.2 b (Nat.ne_of_lt (Nat.lt_of_lt_of_le (Heap.lt_size e) I.ok.above))).trans (I.base.keep b o e n hb hx)
  ·obtain ⟨sl,e1⟩:=I.base.slot b o e n hb hx
   exact ⟨sl,(hs.2 b (Nat.ne_of_lt (Nat.lt_of_lt_of_le (Heap.lt_size e) I.ok.above))).trans e1⟩
  ·obtain ⟨o',e1⟩:=I.base.there b o e hx
   exact ⟨o',(hs.2 b (Nat.ne_of_lt (Nat.lt_of_lt_of_le (Heap.lt_size e) I.ok.above))).trans e1⟩
  ·by_cases hj:j=i
   ·subst hj
    rw [hi] at e1; cases e1
    rw [List.getElem?_set_self hiσ] at e2
    cases e2
    exact ⟨u,r,.inl ⟨hk,by simp⟩⟩
   ·rw [List.getElem?_set_ne (Ne.symm hj)] at e2
    obtain ⟨u',r',q⟩:=hl j y v' e1 e2 e3
    refine ⟨u',r',?_⟩
    rcases q with ⟨k,e⟩ | ⟨k,c,e,z⟩
    ·refine .inl ⟨k,?_⟩
     have:y≠x:=fun e=>hj (zj3 hN e1 (e ▸ hi))
     simp [this,e]
    ·exact .inr ⟨k,c,e,z.sameBut hs (cne y c e)⟩
  ·obtain ⟨w',z⟩:=I.cell y c e
   exact ⟨w',z.sameBut hs (cne y c e)⟩
  ·obtain ⟨e,n,ne,nf,d⟩:=I.pin p hp
   exact ⟨(hs.2 p.1 ne).trans e,n,ne,nf,d⟩
 ·have hfn:X.fn x=true:=by
   rcases hf with z | z
   ·exact z
   ·rw [z] at hk; cases hk
  obtain ⟨c,hc⟩:=I.ok.has x (.inl hk)
  obtain ⟨w',z⟩:=I.cell x c hc
  refine wpAny_storeName_cell I.ok.kind hk hc z (fun h' hc' hs=>?_)
  obtain ⟨oc,hoc,hocd⟩:=id z
  refine h { s with heap:=h' } ⟨I.ok,I.os,I.bare,⟨fun b o e n hb hx=>?_,fun b o e n hb hx=>?_,I.base.free,fun b o e hx=>?_,I.base.tups,I.base.frzs,I.base.tbls⟩,⟨m,hn.sameBut hs (Ne.symm (cne x c hc)),fun j y v' e1 e2 e3=>?_⟩,fun y c' e=>?_,I.free,I.freeC,fun p hp=>?_,tracked ⟨oc,hoc,I.freeC x c hc⟩ hs,by simpa using I.len⟩ ⟨c,hs,.inr hc⟩
  ·exact (hs.2 b (Nat.ne_of_lt (Nat.lt_of_lt_of_le (Heap.lt_size e) (I.ok.cab x c hfn hc)))).trans (I.base.keep b o e n hb hx)
  ·obtain ⟨sl,e1⟩:=I.base.slot b o e n hb hx
   exact ⟨sl,(hs.2 b (Nat.ne_of_lt (Nat.lt_of_lt_of_le (Heap.lt_size e) (I.ok.cab x c hfn hc)))).trans e1⟩
  ·obtain ⟨o',e1⟩:=I.base.there b o e hx
   exact ⟨o',(hs.2 b (Nat.ne_of_lt (Nat.lt_of_lt_of_le (Heap.lt_size e) (I.ok.cab x c hfn hc)))).trans e1⟩
  ·by_cases hj:j=i
   ·subst hj
    rw [hi] at e1; cases e1
    rw [List.getElem?_set_self hiσ] at e2
    cases e2
    exact ⟨u,r,.inr ⟨.inl hk,c,hc,hc'⟩⟩
   ·rw [List.getElem?_set_ne (Ne.symm hj)] at e2
    obtain ⟨u',r',q⟩:=hl j y v' e1 e2 e3
    refine ⟨u',r',?_⟩
    rcases q with q | ⟨k,c',e,z'⟩
    ·exact .inl q
    ·refine .inr ⟨k,c',e,z'.sameBut hs ?_⟩
     rintro rfl
     exact hj (zj3 hN e1 (I.ok.inj _ _ _ e hc ▸ hi))
  ·by_cases hcc:c'=c
   ·subst hcc; exact ⟨_,hc'⟩
   ·obtain ⟨w2,z2⟩:=I.cell y c' e
    exact ⟨w2,z2.sameBut hs hcc⟩
  ·obtain ⟨e,n,ne,nf,d⟩:=I.pin p hp
   refine ⟨(hs.2 p.1 ?_).trans e,n,ne,nf,d⟩
   intro q
   rw [q,hoc] at e
   have q':oc=p.2:=Option.some.inj e
   exact d w' (by rw [<-q']; exact hocd)
theorem zjI {M:Model} {A:Around} {E:Value->Shared->Prop} {i:Nat} {x:Str} {v:V} {u:Value} {Q:Unit->Shared->Prop} (I:Inv X pins σ H s) (hN:X.N.Nodup) (hi:X.N[i]? = some x) (hx:Loc X.env.scope x) (r:RelV v u)
  (h:∀s',Inv X pins (σ.set i (some v)) H s'->Q () s') (hf:X.fn x=true\/X.env.scope.names.lookup x=some .local:=by first | exact .inl rfl | exact .inr rfl | assumption):wpAny M A (storeName X.env x u) Q E s:=
 zh0 I hN hi hx r (fun s' I' _=>h s' I') hf
theorem Inv.call' {s':Shared} {ch:List Addr} (I:Inv X pins σ H s) (ho:s'.os=s.os) (u:Un (frs X.stack) ch H H' s.heap s'.heap) (hok:HOk X.prog X.w H' s'.heap) (hg:AllBare s'.gens)
  (hch:∀b∈ch,(b∈X.ex\/X.s₀.heap.objs.size<=b)/\b≠X.env.locals/\(∀x c,X.env.cells.lookup x=some c->c≠b)/\∀p∈X.pn++pins,p.1≠b):Inv X pins σ H' s':=by
 obtain ⟨h',g',d',t',o'⟩:=s'
 have e:o'=s.os:=ho
 subst e
 exact I.call (g':=g') (t':=t') (d':=d') u hok hg hch
end
noncomputable abbrev XK:=Value->Option Addr->Hp->Prop
noncomputable abbrev St:=List (Option V)
noncomputable abbrev VK:=V->Hp->Prop
noncomputable abbrev TE:=St->Hp->VK->Prop
noncomputable abbrev TT:=St->Hp->(Bool->Hp->Prop)->Prop
noncomputable abbrev TA:=St->Hp->(List V->Hp->Prop)->Prop
structure Ends where
 nx:St->Hp->Prop
 rt:VK
 bk:St->Hp->Prop:=fun _ _=>False
 ct:St->Hp->Prop:=fun _ _=>False
noncomputable abbrev TS:=Ends->St->Hp->Prop
noncomputable def EP (X:Cx) (pins:List (Addr × Obj)) (σ:St) (Q:VK) (u:Value) (s':Shared):Prop:=∃v H',Inv X pins σ H' s'/\RelV v u/\Q v H'
noncomputable def TP (X:Cx) (pins:List (Addr × Obj)) (σ:St) (Q:Bool->Hp->Prop) (b:Bool) (s':Shared):Prop:=∃H',Inv X pins σ H' s'/\Q b H'
noncomputable def AP (X:Cx) (pins:List (Addr × Obj)) (σ:St) (Q:List V->Hp->Prop) (us:List Value) (s':Shared):Prop:=∃vs H',Inv X pins σ H' s'/\Vals vs us/\Q vs H'
noncomputable def SP (X:Cx) (pins:List (Addr × Obj)) (D:Ends) (f:Flow) (s':Shared):Prop:=
 match f with
 | .next=>∃σ' H',Inv X pins σ' H' s'/\D.nx σ' H'
 | .brk=>∃σ' H',Inv X pins σ' H' s'/\D.bk σ' H'
 | .cont=>∃σ' H',Inv X pins σ' H' s'/\D.ct σ' H'
 | .ret u=>∃v σ' H',Inv X pins σ' H' s'/\RelV v u/\D.rt v H'
noncomputable def PE (X:Cx) (e:Expr) (t:TE):Prop:=
 ∀(pins:List (Addr × Obj)) (s:Shared) (σ:St) (H:Hp) (Q:VK),Inv X pins σ H s->t σ H Q->wpAny (model X.prog X.w) X.A (eval e X.env) (EP X pins σ Q) X.xe s
noncomputable def PT (X:Cx) (e:Expr) (t:TT):Prop:=
 ∀(pins:List (Addr × Obj)) (s:Shared) (σ:St) (H:Hp) (Q:Bool->Hp->Prop),Inv X pins σ H s->t σ H Q->wpAny (model X.prog X.w) X.A (isTrue e X.env (eval e X.env)) (TP X pins σ Q) X.xe s
noncomputable def PW (X:Cx) (e:Expr) (t:TT):Prop:=
 ∀(whole:Sem Value) (pins:List (Addr × Obj)) (s:Shared) (σ:St) (H:Hp) (Q:Bool->Hp->Prop),Inv X pins σ H s->t σ H Q->wpAny (model X.prog X.w) X.A (isTrue e X.env whole) (TP X pins σ Q) X.xe s
theorem PW.pt {X:Cx} {e:Expr} {t:TT} (h:PW X e t):PT X e t:=h _
noncomputable def PA (X:Cx) (es:List Expr) (t:TA):Prop:=
 ∀(pos:Pos) (pins:List (Addr × Obj)) (s:Shared) (σ:St) (H:Hp) (Q:List V->Hp->Prop),Inv X pins σ H s->t σ H Q->wpAny (model X.prog X.w) X.A (spliced (backTo pos (starEach es X.env))) (AP X pins σ Q) X.xe s
noncomputable def PS (X:Cx) (st:Stmt) (t:TS):Prop:=
 ∀(pins:List (Addr × Obj)) (s:Shared) (σ:St) (H:Hp) (D:Ends),Inv X pins σ H s->t D σ H->wpAny (model X.prog X.w) X.A (exec st X.env) (SP X pins D) X.xe s
noncomputable def PSs (X:Cx) (st:List Stmt) (t:TS):Prop:=
 ∀(pins:List (Addr × Obj)) (s:Shared) (σ:St) (H:Hp) (D:Ends),Inv X pins σ H s->t D σ H->wpAny (model X.prog X.w) X.A (execs st X.env) (SP X pins D) X.xe s
theorem thn {α:Type} {t:Sem α} {Q Q':α->Shared->Prop} {M:Model} {A:Around} {E:Value->Shared->Prop} {s:Shared} (h:wpAny M A t Q E s) (hQ:∀a s,Q a s->Q' a s):wpAny M A t Q' E s:=wpAny_mono h hQ fun _ _ x=>x
end L2
namespace L2
open PySem PySem.Spec PyProof.Rows
section
variable {X:Cx}
noncomputable def tVar (i:Nat):TE:=fun σ H Q=>∃v,σ[i]? = some (some v)/\Q v H
noncomputable def tC (v:V):TE:=fun _ H Q=>Q v H
theorem zfx {i:Nat} {x:Str} {pos:Pos} (hN:X.N[i]? = some x) (hv:Vis X.env.scope x) (hd:(x == ("__debug__" : Str))=false:=by decide) (hcd:(x == ("__classdict__" : Str))=false:=by decide):PE X (.Name x pos) (tVar i):=by
 intro pins s σ H Q I h
 obtain ⟨v,e,h⟩:=h
 obtain ⟨m,hn,hl⟩:=I.loc
 obtain ⟨u,r,l⟩:=hl i x v hN e hv
 have fin:EP X pins σ Q u s:=⟨v,H,I,r,h⟩
 rcases l with ⟨hk,hm⟩ | ⟨hk,c,hc,hcell⟩
 ·exact wpAny_Name (wpAny_loadName_local I.ok.kind hk hn hm fin) hd
 ·rcases hk with hk | hk
  ·exact wpAny_Name (wpAny_loadName_cell I.ok.kind hk hc hcell fin) hd
  ·exact wpAny_Name (wpAny_loadName_free I.ok.kind hk hc hcell fin hcd) hd
theorem zri {i j pos}:PE X (.Constant (.int i) j pos) (tC (.int i)):=fun _ _ _ H _ I h=>wpAny_Constant_int ⟨.int i,H,I.tok _,⟨_,rfl⟩,h⟩
theorem zs0 {b j pos}:PE X (.Constant (.bool b) j pos) (tC (.bl b)):=fun _ _ _ H _ I h=>Constant_bool ⟨.bl b,H,I,rfl,h⟩
theorem zrg {j pos}:PE X (.Constant .none j pos) (tC .non):=fun _ _ _ H _ I h=>Constant_none ⟨.non,H,I,rfl,h⟩
noncomputable def Gl (X:Cx) (x:Str):Prop:=X.env.kindOf x=some .globalImplicit
theorem zp8 {E:Value->Shared->Prop} {pins:List (Addr × Obj)} {s:Shared} {σ:St} {H:Hp} {x:Str} {u:Value} {pos:Pos} {Q:Value->Shared->Prop} (I:Inv X pins σ H s) (hg:Gl X x) (hm:X.mg x=some u) (h:Q u s)
  (hd:(x == ("__debug__" : Str))=false:=by decide):wpAny (model X.prog X.w) X.A (eval (.Name x pos) X.env) Q E s:=
 Calls.Name_function_global I.ok.kind hg (Calls.loadGlobal_global (by rw [I.ok.glob]; exact I.mod.glob.keeps I.bk) hm h) hd
theorem zir {E:Value->Shared->Prop} {pins:List (Addr × Obj)} {s:Shared} {σ:St} {H:Hp} {x:Str} {u:Value} {pos:Pos} {Q:Value->Shared->Prop} (I:Inv X pins σ H s) (hg:Gl X x) (hm:X.mg x=none) (hv:bootBuiltins x=some u) (h:Q u s)
  (hn:x≠"__name__" := by decide) (hd:(x == ("__debug__" : Str))=false:=by decide):wpAny (model X.prog X.w) X.A (eval (.Name x pos) X.env) Q E s:=by
 obtain ⟨mb,h1,h2⟩:=I.mod.blt
 exact Calls.Name_function_global I.ok.kind hg (Calls.loadGlobal_builtin (by rw [I.ok.glob]; exact I.mod.glob.keeps I.bk) hm (by rw [I.ok.blt]; exact h1.keeps I.bk) ((h2 x hn).trans hv) h) hd
theorem zpI {x:Str} {v:V} {u:Value} {pos:Pos} (hg:Gl X x) (hm:X.mg x=none) (hv:bootBuiltins x=some u) (r:RelV v u) (hn:x≠"__name__" := by decide) (hd:(x == ("__debug__" : Str))=false:=by decide):PE X (.Name x pos) (tC v):=
 fun _ _ _ H _ I h=>zir I hg hm hv ⟨v,H,I,r,h⟩ hn hd
variable {a b:Expr} {ta tb:TE} {pos:Pos}
noncomputable def tB (t:TE):TT:=fun σ H Q=>t σ H fun x H1=>∃c,x=.bl c/\Q c H1
variable {tA tB':TT} {rest:List Expr}
noncomputable def tAnd (t u:TT):TT:=fun σ H Q=>t σ H fun c H1=>if c=true then u σ H1 Q else Q false H1
noncomputable def tOr (t u:TT):TT:=fun σ H Q=>t σ H fun c H1=>if c=true then Q true H1 else u σ H1 Q
noncomputable def tNot (t:TT):TT:=fun σ H Q=>t σ H fun c H1=>Q (! c) H1
theorem zpw (ha:PT X a tA):PW X (.BoolOp .And [a] pos) tA:=by
 intro wh pins s σ H Q I h
 refine isTrue_and (thn (ha pins s σ H Q I h) fun c s1 e=>?_)
 cases c with
 | true=>exact isTrue_and_nil e
 | false=>exact e
theorem zq7 (ha:PT X a tA):PW X (.BoolOp .Or [a] pos) tA:=by
 intro wh pins s σ H Q I h
 refine isTrue_or (thn (ha pins s σ H Q I h) fun c s1 e=>?_)
 cases c with
 | false=>exact isTrue_or_nil e
 | true=>exact e
theorem zq8 (ha:PT X a tA) (hb:PW X (.BoolOp .And (b::rest) pos) tB'):PW X (.BoolOp .And (a::b::rest) pos) (tAnd tA tB'):=by
 intro wh pins s σ H Q I h
 refine isTrue_and (thn (ha pins s σ H _ I h) fun c s1 ⟨H1,I1,q1⟩=>?_)
 cases c with
 | true=>exact hb wh pins s1 σ H1 Q I1 q1
 | false=>exact ⟨H1,I1,q1⟩
theorem zsV (ha:PT X a tA) (hb:PW X (.BoolOp .Or (b::rest) pos) tB'):PW X (.BoolOp .Or (a::b::rest) pos) (tOr tA tB'):=by
 intro wh pins s σ H Q I h
 refine isTrue_or (thn (ha pins s σ H _ I h) fun c s1 ⟨H1,I1,q1⟩=>?_)
 cases c with
 | true=>exact ⟨H1,I1,q1⟩
 | false=>exact hb wh pins s1 σ H1 Q I1 q1
theorem zq9 (ha:PT X a tA):PT X (.UnaryOp .Not a pos) (tNot tA):=by
 intro pins s σ H Q I h
 exact isTrue_not (ha pins s σ H (fun c H1=>Q (! c) H1) I h)
noncomputable def zsM (ta tb:TE):TE:=fun σ H Q=>ta σ H fun x H1=>∃c,x=.bl c/\if c=true then tb σ H1 Q else Q (.bl false) H1
noncomputable def zsH (ta:TE):TE:=fun σ H Q=>ta σ H fun x H1=>∃c,x=.bl c/\Q (.bl (! c)) H1
theorem zre {op} {t:TE} (h:PE X a t):PE X (.BoolOp op [a] pos) t:=fun pins s σ H Q I hw=>BoolOp_one (h pins s σ H Q I hw)
theorem zrl (ha:PE X a ta) (hb:PE X (.BoolOp .And (b::rest) pos) tb):PE X (.BoolOp .And (a::b::rest) pos) (zsM ta tb):=by
 intro pins s σ H Q I h
 refine BoolOp_and (thn (ha pins s σ H _ I h) fun v s1 ⟨x,H1,I1,r1,q1⟩=>?_)
 obtain ⟨c,rfl,q1⟩:=q1
 cases r1
 refine wpAny_truthy_bool ?_
 cases c with
 | true=>exact hb pins s1 σ H1 Q I1 q1
 | false=>exact ⟨.bl false,H1,I1,rfl,q1⟩
theorem zrf (ha:PE X a ta):PE X (.UnaryOp .Not a pos) (zsH ta):=by
 intro pins s σ H Q I h
 refine UnaryOp_ (thn (ha pins s σ H _ I h) fun v s1 ⟨x,H1,I1,r1,q1⟩=>?_)
 obtain ⟨c,rfl,q1⟩:=q1
 cases r1
 exact not_of (wpAny_truthy_bool ⟨.bl (! c),H1,I1,rfl,q1⟩)
noncomputable def tIf (t:TT) (ta tb:TE):TE:=fun σ H Q=>t σ H fun c H1=>if c=true then ta σ H1 Q else tb σ H1 Q
theorem znF {c:Expr} (hc:PT X c tA) (ha:PE X a ta) (hb:PE X b tb):PE X (.IfExp c a b pos) (tIf tA ta tb):=by
 intro pins s σ H Q I h
 refine wpAny_IfExp (thn (hc pins s σ H _ I h) fun d s1 ⟨H1,I1,q1⟩=>?_)
 cases d with
 | true=>exact ha pins s1 σ H1 Q I1 q1
 | false=>exact hb pins s1 σ H1 Q I1 q1
end
end L2
namespace L2
open PySem PySem.Spec PyProof.Rows
noncomputable def SqL (K:PySem.W.Frag) (H:Hp) (a:Addr) (xs:List V):Prop:=
 Rd H a (.lst xs) \/
  ∃(o:Obj) (its:Array Value) (n:Nat),K.lookup a=some o/\o.cls=.type "list"/\o.dict=none/\o.data=.seq its n/\its.size<=sizeLine/\Vals xs its.toList
noncomputable def SqT (K:PySem.W.Frag) (H:Hp) (a:Addr) (xs:List V):Prop:=
 Rd H a (.tup xs) \/
  ∃(o:Obj) (its:Array Value) (n:Nat),K.lookup a=some o/\o.cls=.type "tuple"/\o.data=.seq its n/\its.size<=sizeLine/\Vals xs its.toList
noncomputable def absV:Value->Option V
 | .none=>some .non
 | .bool b=>some (.bl b)
 | .int i _=>some (.int i)
 | .str x _=>some (.str x)
 | .bytes b _=>some (.byt b)
 | .float b _=>some (.flt b)
 | .ref a=>some (.ref a)
 | .type n=>some (.ty n)
 | _=>none
theorem RelV.abs {x:V} {u:Value} (r:RelV x u):absV u=some x:=by
 cases x with
 | non=>cases r; rfl
 | bl _=>cases r; rfl
 | int _=>obtain ⟨t,rfl⟩:=r; rfl
 | str _=>obtain ⟨t,rfl⟩:=r; rfl
 | byt _=>obtain ⟨t,rfl⟩:=r; rfl
 | flt _=>obtain ⟨t,rfl⟩:=r; rfl
 | ref _=>cases r; rfl
 | ty _=>cases r; rfl
theorem RelV.inj {x y:V} {u:Value} (r:RelV x u) (q:RelV y u):x=y:=Option.some.inj (r.abs.symm.trans q.abs)
theorem Vals.inj {xs ys:List V} {us:List Value} (h:Vals xs us) (h':Vals ys us):xs=ys:=by
 induction h generalizing ys with
 | nil=>cases h'; rfl
 | cons r t ih=>
  cases h' with
  | cons r' t'=>rw [r.inj r',ih t']
section
variable {X:Cx} {pins:List (Addr × Obj)} {σ:St} {H:Hp} {s:Shared} {a:Addr} {xs ys:List V}
theorem SqL.of {K:PySem.W.Frag} (h:H a=some (.lst xs)):SqL K H a xs:=.inl (.inl h)
theorem SqT.of {K:PySem.W.Frag} (h:H a=some (.tup xs)):SqT K H a xs:=.inl (.inl h)
theorem Inv.list (I:Inv X pins σ H s) (h:SqL X.K H a xs):∃its:List Value,Vals xs its/\PlainL s.heap a its.toArray/\xs.length<=sizeLine:=by
 rcases h with h | ⟨o,its,n,hk,hc,hd,hs,hz,r⟩
 ·obtain ⟨z,its,n,r,e⟩:=h.ok I.hok
  exact ⟨its,r,⟨_,n,e,rfl,rfl,rfl⟩,z⟩
 ·refine ⟨its.toList,r,⟨o,n,I.kIn a o hk,hc,hd,by simpa using hs⟩,?_⟩
  have e:=r.length
  simp only [Array.length_toList] at e
  omega
theorem Inv.tuple (I:Inv X pins σ H s) (h:SqT X.K H a xs):∃its:List Value,Vals xs its/\IsTup s.heap a its.toArray/\xs.length<=sizeLine:=by
 rcases h with h | ⟨o,its,n,hk,hc,hs,hz,r⟩
 ·obtain ⟨z,its,r,p,_⟩:=h.ok I.hok
  exact ⟨its,r,p,z⟩
 ·refine ⟨its.toList,r,⟨o,I.kIn a o hk,hc,n,by simpa using hs⟩,?_⟩
  have e:=r.length
  simp only [Array.length_toList] at e
  omega
theorem Inv.list_inj (I:Inv X pins σ H s) (h:SqL X.K H a xs) (h':SqL X.K H a ys):xs=ys:=by
 obtain ⟨its,r,⟨o,n,e,_,_,d⟩,_⟩:=I.list h
 obtain ⟨its',r',⟨o',n',e',_,_,d'⟩,_⟩:=I.list h'
 rw [e] at e'; cases e'
 rw [d] at d'
 injection d' with d1 _
 have:its=its':=by simpa using congrArg Array.toList d1
 subst this
 exact r.inj r'
theorem Inv.tuple_inj (I:Inv X pins σ H s) (h:SqT X.K H a xs) (h':SqT X.K H a ys):xs=ys:=by
 obtain ⟨its,r,⟨o,e,_,n,d⟩,_⟩:=I.tuple h
 obtain ⟨its',r',⟨o',e',_,n',d'⟩,_⟩:=I.tuple h'
 rw [e] at e'; cases e'
 rw [d] at d'
 injection d' with d1 _
 have:its=its':=by simpa using congrArg Array.toList d1
 subst this
 exact r.inj r'
end
noncomputable abbrev Cx.wish (X:Cx) (E:Value->Shared->Prop):Cx:={ X with xe:=E }
noncomputable abbrev Cx.nox (X:Cx):Cx:=X.wish fun _ _=>False
theorem Cx.Ok.wish {X:Cx} (ok:X.Ok) (E:Value->Shared->Prop):(X.wish E).Ok:=
 ⟨ok.mod,ok.kind,ok.glob,ok.blt,ok.above,ok.inj,ok.has,ok.cab,ok.hd,ok.frames,ok.stk,ok.exf,ok.bs,ok.bsz,ok.noex,ok.exfs,ok.funs,ok.frf⟩
theorem Cx.Ok.unwish {X:Cx} {E:Value->Shared->Prop} (ok:(X.wish E).Ok):X.Ok:=
 ⟨ok.mod,ok.kind,ok.glob,ok.blt,ok.above,ok.inj,ok.has,ok.cab,ok.hd,ok.frames,ok.stk,ok.exf,ok.bs,ok.bsz,ok.noex,ok.exfs,ok.funs,ok.frf⟩
section
variable {X:Cx} {pins:List (Addr × Obj)} {σ:St} {H:Hp} {s:Shared} {E:Value->Shared->Prop}
theorem Inv.wish (I:Inv X pins σ H s) (E:Value->Shared->Prop):Inv (X.wish E) pins σ H s:=⟨I.ok.wish E,I.os,I.bare,I.base,I.loc,I.cell,I.free,I.freeC,I.pin,I.hok,I.len⟩
theorem Inv.unwish (I:Inv (X.wish E) pins σ H s):Inv X pins σ H s:=⟨I.ok.unwish,I.os,I.bare,I.base,I.loc,I.cell,I.free,I.freeC,I.pin,I.hok,I.len⟩
theorem SP.unwish {D:Ends} {f:Flow} {s':Shared} (h:SP (X.wish E) pins D f s'):SP X pins D f s':=by
 cases f with
 | next=>obtain ⟨σ',H',I,q⟩:=h; exact ⟨σ',H',I.unwish,q⟩
 | brk=>obtain ⟨σ',H',I,q⟩:=h; exact ⟨σ',H',I.unwish,q⟩
 | cont=>obtain ⟨σ',H',I,q⟩:=h; exact ⟨σ',H',I.unwish,q⟩
 | ret u=>obtain ⟨v,σ',H',I,r,q⟩:=h; exact ⟨v,σ',H',I.unwish,r,q⟩
theorem PE.nox {e:Expr} {t:TE} (h:PE X.nox e t):PE X e t:=fun pins s σ H Q I hw=>
 wpAny_mono (h pins s σ H Q (I.wish _) hw) (fun _ _ ⟨v,H',I',r,q⟩=>⟨v,H',I'.unwish,r,q⟩) fun _ _ z=>False.elim z
theorem PT.nox {e:Expr} {t:TT} (h:PT X.nox e t):PT X e t:=fun pins s σ H Q I hw=>
 wpAny_mono (h pins s σ H Q (I.wish _) hw) (fun _ _ ⟨H',I',q⟩=>⟨H',I'.unwish,q⟩) fun _ _ z=>False.elim z
theorem PSs.nox {st:List Stmt} {t:TS} (h:PSs X.nox st t):PSs X st t:=fun pins s σ H D I hw=>
 wpAny_mono (h pins s σ H D (I.wish _) hw) (fun _ _ q=>q.unwish) fun _ _ z=>False.elim z
end
section
variable {X:Cx} {st:Stmt} {rest:List Stmt} {t u:TS} {e:Expr} {te:TE} {pos:Pos}
noncomputable def zsI:TS:=fun D σ H=>D.nx σ H
noncomputable def tSeq (t u:TS):TS:=fun D σ H=>t { D with nx:=u D } σ H
theorem zpA:PSs X [] zsI:=fun _ _ σ H _ I h=>wpAny_execs_nil ⟨σ,H,I,h⟩
theorem znA (h1:PS X st t) (h2:PSs X rest u):PSs X (st::rest) (tSeq t u):=by
 intro pins s σ H D I h
 refine wpAny_execs_cons (thn (h1 pins s σ H { D with nx:=u D } I h) fun f s1 q=>?_)
 cases f with
 | next=>
  obtain ⟨σ',H',I',q⟩:=q
  exact h2 pins s1 σ' H' D I' q
 | ret v=>exact q
 | brk=>exact q
 | cont=>exact q
theorem Inv.quiet {pins:List (Addr × Obj)} {σ:St} {H:Hp} {s:Shared} (I:Inv X pins σ H s):interactive X.env=false:=by simp [interactive,I.ok.kind]
noncomputable def zsJ (te:TE):TS:=fun D σ H=>te σ H fun _ H1=>D.nx σ H1
theorem zlO (he:PE X e te) (hs:swapsWith e none pos.line X.env=pure false:=by rfl):PS X (.Expr e pos) (zsJ te):=by
 intro pins s σ H D I h
 exact wpAny_Expr_any (thn (he pins s σ H _ I h) fun v s1 ⟨x,H1,I1,r1,q1⟩=>⟨σ,H1,I1,q1⟩) I.quiet hs
noncomputable def tRet (te:TE):TS:=fun D σ H=>te σ H D.rt
theorem zra (he:PE X e te):PS X (.Return (some e) pos) (tRet te):=by
 intro pins s σ H D I h
 exact wpAny_Return_some (thn (he pins s σ H _ I h) fun v s1 ⟨x,H1,I1,r1,q1⟩=>⟨x,σ,H1,I1,r1,q1⟩)
noncomputable def tIfS (c:TT) (t u:TS):TS:=fun D σ H=>c σ H fun b H1=>if b=true then t D σ H1 else u D σ H1
theorem zsW {c:Expr} {a b:List Stmt} {tc:TT} (hc:PT X c tc) (ha:PSs X a t) (hb:PSs X b u):PS X (.If c a b pos) (tIfS tc t u):=by
 intro pins s σ H D I h
 refine wpAny_If (thn (hc pins s σ H _ I h) fun d s1 ⟨H1,I1,q1⟩=>?_)
 cases d with
 | true=>exact ha pins s1 σ H1 D I1 q1
 | false=>exact hb pins s1 σ H1 D I1 q1
noncomputable def zqJ:TS:=fun _ _ _=>False
theorem znC:PS X st zqJ:=fun _ _ _ _ _ _ h=>h.elim
end
noncomputable abbrev TG:=V->St->Hp->(St->Hp->Prop)->Prop
noncomputable abbrev TGs:=List V->St->Hp->(St->Hp->Prop)->Prop
noncomputable def PG (X:Cx) (target:Expr) (t:TG):Prop:=
 ∀(pins:List (Addr × Obj)) (s:Shared) (σ:St) (H:Hp) (v:V) (u:Value) (Q:St->Hp->Prop),Inv X pins σ H s->RelV v u->t v σ H Q ->
  wpAny (model X.prog X.w) X.A (assign target X.env u) (fun _ s'=>∃σ' H',Inv X pins σ' H' s'/\Q σ' H') X.xe s
noncomputable def PGs (X:Cx) (ts:List Expr) (t:TGs):Prop:=
 ∀(pins:List (Addr × Obj)) (s:Shared) (σ:St) (H:Hp) (vs:List V) (us:List Value) (Q:St->Hp->Prop),Inv X pins σ H s->Vals vs us->t vs σ H Q ->
  wpAny (model X.prog X.w) X.A (assignInOrder ((assignEach ts X.env).map (·.2)) us) (fun _ s'=>∃σ' H',Inv X pins σ' H' s'/\Q σ' H') X.xe s
noncomputable abbrev TSet:=V->V->V->Hp->(Hp->Prop)->Prop
noncomputable def PSet (X:Cx) (t:TSet):Prop:=
 ∀(pins:List (Addr × Obj)) (s:Shared) (σ:St) (H:Hp) (o i v:V) (ov iv u:Value) (Q:Hp->Prop),Inv X pins σ H s->RelV o ov->RelV i iv->RelV v u->t o i v H Q ->
  wpAny (model X.prog X.w) X.A (setItem ov iv u) (fun _ s'=>∃H',Inv X pins σ H' s'/\Q H') X.xe s
section
variable {X:Cx} {pos:Pos}
noncomputable def zr7 (i:Nat):TG:=fun v σ H Q=>Q (σ.set i (some v)) H
theorem zpD {i:Nat} {x:Str} (hN:X.N.Nodup) (hi:X.N[i]? = some x) (hx:Loc X.env.scope x) (hf:X.fn x=true\/X.env.scope.names.lookup x=some .local:=by first | exact .inl rfl | exact .inr rfl | assumption):PG X (.Name x pos) (zr7 i):=by
 intro pins s σ H v u Q I r h
 exact wpAny_assign_Name (zjI I hN hi hx r (fun s' I'=>⟨_,H,I',h⟩) hf)
noncomputable def gNil:TGs:=fun vs σ H Q=>vs=[]/\Q σ H
noncomputable def ztl (t:TG) (u:TGs):TGs:=fun vs σ H Q=>∃v r,vs=v::r/\t v σ H fun σ' H'=>u r σ' H' Q
theorem zlT:PGs X [] gNil:=by
 intro pins s σ H vs us Q I r h
 obtain ⟨e,h⟩:=h
 subst e
 cases r
 exact assignInOrder_nil ⟨σ,H,I,h⟩
theorem zhy {e:Expr} {es:List Expr} {t:TG} {u:TGs} (h1:PG X e t) (h2:PGs X es u)
  (hs:(assignEach (e::es) X.env).map (·.2)=assign e X.env::(assignEach es X.env).map (·.2):=by rfl):PGs X (e::es) (ztl t u):=by
 intro pins s σ H vs us Q I r h
 obtain ⟨v,vr,e1,h⟩:=h
 subst e1
 cases r with
 | cons r rr=>
  rw [hs]
  refine assignInOrder_cons (thn (h1 pins s σ H _ _ _ I r h) fun _ s1 ⟨σ1,H1,I1,q1⟩=>?_)
  exact h2 pins s1 σ1 H1 _ _ Q I1 rr q1
noncomputable def gTup (K:PySem.W.Frag) (n:Nat) (t:TGs):TG:=fun v σ H Q=>∃a xs,v=.ref a/\SqT K H a xs/\xs.length=n/\t xs σ H Q
theorem zoE {es:List Expr} {k:Nat} {t:TGs} {n:Nat} (hc:X.calm=true) (h:PGs X es t)
  (hn:(assignEach es X.env).length=n:=by rfl) (hst:(assignEach es X.env).findIdx? (·.1)=none:=by rfl):PG X (.Tuple es k pos) (gTup X.K n t):=by
 intro pins s σ H v u Q I r hw
 obtain ⟨a,xs,e1,hq,hl,hw⟩:=hw
 subst e1
 cases r
 obtain ⟨its,rv,ht,hz⟩:=I.tuple hq
 refine assign_Tuple_tuple (I.ok.hd hc) ht (by simp [hn,<-hl,rv.length]) hst fun h' hx=>?_
 have I1:Inv X pins σ H { s with heap:=h' }:=I.kept (t':=s.toks) fun b o e=>hx b o (Nat.ne_of_lt (Heap.lt_size e)) e
 exact h pins _ σ H xs _ Q I1 (by simpa using rv) hw
noncomputable def gSub (to ti:TE) (t:TSet):TG:=fun v σ H Q=>to σ H fun o H1=>ti σ H1 fun i H2=>t o i v H2 fun H3=>Q σ H3
theorem zlU {o i:Expr} {to ti:TE} {t:TSet} (ho:PE X o to) (hi:PE X i ti) (hs:PSet X t)
  (ha:∀v,assign (.Subscript o i pos) X.env v=(do
   let ov <-holding [v] (eval o X.env)
   let iv <-holding [v,ov] (eval i X.env)
   standAt pos
   holding [v,ov,iv] (setItem ov iv v)
   release [v,ov,iv] []):=by intro _; rfl):PG X (.Subscript o i pos) (gSub to ti t):=by
 intro pins s σ H v u Q I r h
 rw [ha]
 refine wpAny_bind (wpAny_holding (thn (ho pins s σ H _ I h) fun ov s1 ⟨x,H1,I1,r1,q1⟩=>?_))
 refine wpAny_bind (wpAny_holding (thn (hi pins s1 σ H1 _ I1 q1) fun iv s2 ⟨y,H2,I2,r2,q2⟩=>?_))
 refine wpAny_bind (wpAny_standAt (wpAny_bind (wpAny_holding (thn (hs pins s2 σ H2 x y v ov iv u _ I2 r1 r2 r q2) fun _ s3 ⟨H3,I3,q3⟩=>?_))))
 exact wpAny_release ⟨σ,H3,I3,q3⟩
noncomputable def tAsg (te:TE) (g:TG):TS:=fun D σ H=>te σ H fun x H1=>g x σ H1 D.nx
theorem zoC {tg e:Expr} {te:TE} {g:TG} (he:PE X e te) (hg:PG X tg g) (hs:swapsWithSole [tg] e pos.line X.env=pure false:=by rfl) (hw:swappedStores [tg] e X.env=pure none:=by rfl)
  (h1:(assignEach [tg] X.env).map (·.2)=[assign tg X.env]:=by rfl):PS X (.Assign [tg] e pos) (tAsg te g):=by
 intro pins s σ H D I h
 refine wpAny_Assign_stores (thn (he pins s σ H _ I h) fun v s1 ⟨x,H1,I1,r1,q1⟩=>?_) hs hw
 rw [h1]
 exact thn (hg pins s1 σ H1 x v _ I1 r1 q1) fun _ s2 q=>q
theorem zoB {i:Nat} {x:Str} {e:Expr} {te:TE} {pos':Pos} (hN:X.N.Nodup) (hi:X.N[i]? = some x) (hx:Loc X.env.scope x) (he:PE X e te) (hs:swapsWith e (some (.Name x pos')) pos.line X.env=pure false:=by rfl) (hf:X.fn x=true\/X.env.scope.names.lookup x=some .local:=by first | exact .inl rfl | exact .inr rfl | assumption) :
  PS X (.Assign [.Name x pos'] e pos) (tAsg te (zr7 i)):=by
 intro pins s σ H D I h
 refine wpAny_Assign_Name (thn (he pins s σ H _ I h) fun v s1 ⟨y,H1,I1,r1,q1⟩=>?_) hs
 exact zjI I1 hN hi hx r1 (fun s2 I2=>⟨_,H1,I2,q1⟩) hf
end
section
variable {X:Cx} {pos:Pos}
noncomputable def zqI (c:TT) (tb:TS):TS:=fun D σ H=>∃W:Nat->St->Hp->Prop,(∃m,W m σ H)/\∀m σ H,W m σ H ->
 c σ H fun b H1=>if b=true then ∃N:St->Hp->Prop,(∀σ' H',N σ' H'->∃m',m' < m/\W m' σ' H')/\tb { D with nx:=N,ct:=N,bk:=D.nx } σ H1 else D.nx σ H1
theorem znB {c:Expr} {body:List Stmt} {tc:TT} {tb:TS} (hp:PassesOwn (model X.prog X.w) X.A X.env X.xe) (hc:PT X c tc) (hb:PSs X body tb):PS X (.While c body [] pos) (zqI tc tb):=by
 intro pins s σ H D I h
 obtain ⟨W,⟨m0,w0⟩,turn⟩:=h
 refine wpAny_While (codeAny_whileLoop (fun n s'=>∃σ' H',Inv X pins σ' H' s'/\W n σ' H') ?_ m0 ⟨σ,H,I,w0⟩)
 rintro n s1 ⟨σ1,H1,I1,w1⟩
 refine wpAny_passesOwn hp (thn (hc pins s1 σ1 H1 _ I1 (turn n σ1 H1 w1)) fun b s2 ⟨H2,I2,q2⟩=>?_)
 cases b with
 | true=>
  obtain ⟨N,hN,q2⟩:=q2
  rw [if_pos rfl]
  refine wpAny_passesOwn hp (thn (hb pins s2 σ1 H2 _ I2 q2) fun f s3 q3=>?_)
  cases f with
  | next=>
   obtain ⟨σ3,H3,I3,n3⟩:=q3
   obtain ⟨m',hm,w3⟩:=hN σ3 H3 n3
   exact ⟨m',hm,σ3,H3,I3,w3⟩
  | cont=>
   obtain ⟨σ3,H3,I3,n3⟩:=q3
   obtain ⟨m',hm,w3⟩:=hN σ3 H3 n3
   exact ⟨m',hm,σ3,H3,I3,w3⟩
  | brk=>exact q3
  | ret v=>exact q3
 | false=>
  rw [if_neg Bool.false_ne_true]
  exact wpAny_execs_nil ⟨σ1,H2,I2,q2⟩
end
structure It where
 go:Nat->Hp->Prop
 yld:Nat->Hp->V->Hp->Prop
 stop:Nat->Hp->Prop
noncomputable def FpOk (X:Cx) (pins:List (Addr × Obj)) (H:Hp) (b:Addr):Prop:=
 H b=none/\b≠X.env.locals/\b∉X.fs/\(b∈X.ex\/X.s₀.heap.objs.size<=b)/\(∀x c,X.env.cells.lookup x=some c->c≠b)/\∀p∈X.pn++pins,p.1≠b
theorem Inv.fpOk {X:Cx} {pins:List (Addr × Obj)} {σ:St} {H H':Hp} {s:Shared} {b:Addr} (I:Inv X pins σ H s) (hb:s.heap.objs.size<=b) (hn:H' b=none):FpOk X pins H' b:=by
 refine ⟨hn,Nat.ne_of_gt (Nat.lt_of_lt_of_le I.lt hb),I.nofs hb,.inr (Nat.le_trans I.sz hb),fun x c e z=>?_,fun p hp z=>?_⟩
 ·obtain ⟨v,q⟩:=I.cell x c e
  exact absurd (Nat.lt_of_lt_of_le q.lt (by rw [z]; exact hb)) (Nat.lt_irrefl _)
 ·exact absurd (Nat.lt_of_lt_of_le (Heap.lt_size (I.pin p hp).1) (by rw [z]; exact hb)) (Nat.lt_irrefl _)
structure Turn (P:Program) (w:World) (K:PySem.W.Frag) (tg:Expr) (J:It) (fp:List Addr) (it:Addr) (tn:Nat->Heap->Prop):Prop where
 mem:it∈fp
 obj:∀i h,tn i h->∀b∈fp,∃o,h.get? b=some o/\∀v,o.data≠.cell v
 keep:∀i h h',tn i h->(∀b∈fp,∀o,h.get? b=some o->h'.get? b=some o)->tn i h'
 item:∀(X:Cx),X.prog=P->X.w=w->X.K=K->X.calm=true->∀(i:Nat) (pins:List (Addr × Obj)) (s:Shared) (σ:St) (H:Hp) (E:Value->Shared->Prop),Inv X pins σ H s->(∀b∈fp,FpOk X pins H b)->tn i s.heap->J.go i H ->
  wpAny (model P w) X.A (pyNext (.ref it)) (fun r s1=>∃u,r=some u /\
   wpAny (model P w) X.A (letOwnedTupleGo tg (.ref it) u) (fun _ s2=>∃x H',Inv X pins σ H' s2/\RelV x u/\J.yld i H x H'/\tn (i + 1) s2.heap/\∀b∈fp,H' b=none) E s1) E s
 done:∀(X:Cx),X.prog=P->X.w=w->X.K=K->X.calm=true->∀(i:Nat) (pins:List (Addr × Obj)) (s:Shared) (σ:St) (H:Hp) (E:Value->Shared->Prop),Inv X pins σ H s->(∀b∈fp,FpOk X pins H b)->tn i s.heap->J.stop i H ->
  wpAny (model P w) X.A (pyNext (.ref it)) (fun r s1=>r=none/\Inv X pins σ H s1) E s
 self:∀(A:Around) (i:Nat) (s:Shared) (Q:Value->Shared->Prop) (E:Value->Shared->Prop),tn i s.heap->Q (.ref it) s->wpAny (model P w) A (pyIter (.ref it)) Q E s
noncomputable abbrev TI:=St->Hp->(It->Hp->Prop)->Prop
noncomputable def PIE (X:Cx) (pins:List (Addr × Obj)) (σ:St) (tg:Expr) (R:It->Hp->Prop) (itv:Value) (s2:Shared):Prop:=
 ∃(it:Addr) (fp:List Addr) (tn:Nat->Heap->Prop) (J:It) (H':Hp),itv=.ref it/\Inv X pins σ H' s2/\Turn X.prog X.w X.K tg J fp it tn/\tn 0 s2.heap/\(∀b∈fp,FpOk X pins H' b)/\R J H'
noncomputable def PI (X:Cx) (tg iter:Expr) (wi:TI):Prop:=
 ∀(pins:List (Addr × Obj)) (s:Shared) (σ:St) (H:Hp) (R:It->Hp->Prop),Inv X pins σ H s->wi σ H R ->
  wpAny (model X.prog X.w) X.A (eval iter X.env) (fun v s1=>wpAny (model X.prog X.w) X.A (pyIter v) (PIE X pins σ tg R) X.xe s1) X.xe s
theorem zqg {M:Model} {A:Around} {E:Value->Shared->Prop} {s:Shared} {tg:Expr} {it:Addr} {u:Value} {o:Obj} {n:String} {vs:Array Value} {Q:Unit->Shared->Prop} (ho:s.heap.get? it=some o) (hc:o.cls=.type n) (hd:o.data=.fields vs)
    (hn : ["enumerate","zip","dict_itemiterator","dict_reverseitemiterator","odict_iterator","itertools.zip_longest","itertools.pairwise"].contains n=false) (hQ:Q () s):wpAny M A (letOwnedTupleGo tg (.ref it) u) Q E s:=by
  unfold letOwnedTupleGo
  cases tg <;> first
    | exact wpAny_pure hQ
    | (cases u <;> first
        | exact wpAny_pure hQ
        | (refine wpAny_bind (wpAny_load ho ?_)
           rw [hc,hd]
           show wpAny M A (if (["enumerate","zip","dict_itemiterator","dict_reverseitemiterator","odict_iterator","itertools.zip_longest","itertools.pairwise"].contains n && vs[0]? == some (rawInt _))=true then _ else _) Q E s
           rw [if_neg (by intro h; rw [hn,Bool.false_and] at h; cases h)]
           exact wpAny_pure hQ))
noncomputable def Itl (K:PySem.W.Frag) (a:Addr):It:=
 ⟨fun i H=>∃xs x,SqL K H a xs/\xs[i]? = some x,fun i H x H'=>H'=H/\∀xs,SqL K H a xs->xs[i]? = some x,fun i H=>∃xs,SqL K H a xs/\xs.length<=i⟩
noncomputable def Itt (K:PySem.W.Frag) (a:Addr):It:=
 ⟨fun i H=>∃xs x,SqT K H a xs/\xs[i]? = some x,fun i H x H'=>H'=H/\∀xs,SqT K H a xs->xs[i]? = some x,fun i H=>∃xs,SqT K H a xs/\xs.length<=i⟩
noncomputable def Itr (lo:Int) (n:Nat):It:=⟨fun i _=>i < n,fun i H x H'=>H'=H/\x=.int (lo + i),fun i _=>n<=i⟩
theorem zlf {P:Program} {w:World} {K:PySem.W.Frag} {tg:Expr} (a it:Addr):Turn P w K tg (Itl K a) [it] it (fun i h=>h.IsListIter it a i) where
 mem:=by simp
 obj:=fun i h st b hb=>by
  have e:b=it:=by simpa using hb
  subst e
  obtain ⟨o,e,c,d⟩:=st
  exact ⟨o,e,fun v z=>by rw [d] at z; cases z⟩
 keep:=fun i h h' st k=>st.at fun o e=>k it (by simp) o e
 item:=by
  intro X hP hw hK hc i pins s σ H E I hf st hg
  subst hP hw hK
  obtain ⟨xs,x,hq,hx⟩:=hg
  obtain ⟨its,rv,p,hz⟩:=I.list hq
  obtain ⟨u,hu,ru⟩:=rv.get hx
  obtain ⟨f0,f1,f2,f3,f4,f5⟩:=hf it (by simp)
  refine wpAny_pyNext_list_item st p.isList (x:=u) (by simpa using hu) fun h' st' sb=>?_
  have I1:Inv X pins σ H { s with heap:=h' }:=I.turned (t':=s.toks) (fun b o hb e=>(sb.2 b hb).trans e) f0 f1 f3 f4 f5
  obtain ⟨o,e,c,d⟩:=id st'
  exact ⟨u,rfl,zqg (s:={ s with heap:=h' }) e c d (by decide) ⟨x,H,I1,ru,⟨rfl,fun ys hy=>by rw [I.list_inj hy hq]; exact hx⟩,st',fun b hb=>(hf b hb).1⟩⟩
 done:=by
  intro X hP hw hK hc i pins s σ H E I hf st hg
  subst hP hw hK
  obtain ⟨xs,hq,hx⟩:=hg
  obtain ⟨its,rv,p,hz⟩:=I.list hq
  obtain ⟨f0,f1,f2,f3,f4,f5⟩:=hf it (by simp)
  have hl:=rv.length
  exact wpAny_pyNext_list_end (I.ok.hd hc) st p.isList (by simp; omega) fun h' eb=>⟨rfl,I.turned (t':=s.toks) (fun b o hb e=>eb b o hb e) f0 f1 f3 f4 f5⟩
 self:=fun _ _ _ _ _ st h=>wpAny_pyIter_listiter st h
theorem zkp {P:Program} {w:World} {K:PySem.W.Frag} {tg:Expr} (a it:Addr):Turn P w K tg (Itt K a) [it] it (fun i h=>h.IsTupleIter it a i) where
 mem:=by simp
 obj:=fun i h st b hb=>by
  have e:b=it:=by simpa using hb
  subst e
  obtain ⟨o,e,c,d⟩:=st
  exact ⟨o,e,fun v z=>by rw [d] at z; cases z⟩
 keep:=fun i h h' st k=>st.at fun o e=>k it (by simp) o e
 item:=by
  intro X hP hw hK hc i pins s σ H E I hf st hg
  subst hP hw hK
  obtain ⟨xs,x,hq,hx⟩:=hg
  obtain ⟨its,rv,p,hz⟩:=I.tuple hq
  obtain ⟨u,hu,ru⟩:=rv.get hx
  obtain ⟨f0,f1,f2,f3,f4,f5⟩:=hf it (by simp)
  refine wpAny_pyNext_tuple_item st (show s.heap.IsTuple a its.toArray from p) (x:=u) (by simpa using hu) fun h' st' sb=>?_
  have I1:Inv X pins σ H { s with heap:=h' }:=I.turned (t':=s.toks) (fun b o hb e=>(sb.2 b hb).trans e) f0 f1 f3 f4 f5
  obtain ⟨o,e,c,d⟩:=id st'
  exact ⟨u,rfl,zqg (s:={ s with heap:=h' }) e c d (by decide) ⟨x,H,I1,ru,⟨rfl,fun ys hy=>by rw [I.tuple_inj hy hq]; exact hx⟩,st',fun b hb=>(hf b hb).1⟩⟩
 done:=by
  intro X hP hw hK hc i pins s σ H E I hf st hg
  subst hP hw hK
  obtain ⟨xs,hq,hx⟩:=hg
  obtain ⟨its,rv,p,hz⟩:=I.tuple hq
  obtain ⟨f0,f1,f2,f3,f4,f5⟩:=hf it (by simp)
  have hl:=rv.length
  exact wpAny_pyNext_tuple_end (I.ok.hd hc) st (show s.heap.IsTuple a its.toArray from p) (by simp; omega) fun h' eb=>⟨rfl,I.turned (t':=s.toks) (fun b o hb e=>eb b o hb e) f0 f1 f3 f4 f5⟩
 self:=fun _ _ _ _ _ st h=>wpAny_pyIter_tupleiter st h
theorem zkq {P:Program} {w:World} {K:PySem.W.Frag} {tg:Expr} (it:Addr) (lo:Int) (n:Nat):Turn P w K tg (Itr lo n) [it] it (fun i h=>IsRangeIter h it (lo + (i:Nat) * 1) ((n:Int) - (i:Nat)) 1) where
 mem:=by simp
 obj:=fun i h st b hb=>by
  have e:b=it:=by simpa using hb
  subst e
  exact ⟨_,st,fun v z=>by
   have z':Data.fields _=Data.cell v:=z
   cases z'⟩
 keep:=fun i h h' st k=>k it (by simp) _ st
 item:=by
  intro X hP hw hK hc i pins s σ H E I hf st hg
  subst hP hw hK
  obtain ⟨f0,f1,f2,f3,f4,f5⟩:=hf it (by simp)
  have W:=Walks.range (prog:=X.prog) (w:=X.w) (I.ok.hd hc) it lo 1 n
  refine W.item i s _ _ hg st fun v h' tk hv st' kk=>?_
  obtain ⟨t,rfl⟩:=hv
  have I1:Inv X pins σ H { s with heap:=h',toks:=tk }:=I.turned (fun b o hb e=>kk b o (by simpa using hb) e) f0 f1 f3 f4 f5
  refine ⟨_,rfl,zqg (s:={ s with heap:=h',toks:=tk }) (n := "range_iterator") st' rfl rfl (by decide) ⟨.int (lo + i),H,I1,⟨t,?_⟩,⟨rfl,rfl⟩,st',fun b hb=>(hf b hb).1⟩⟩
  rw [Int.mul_one]
 done:=by
  intro X hP hw hK hc i pins s σ H E I hf st hg
  subst hP hw hK
  obtain ⟨f0,f1,f2,f3,f4,f5⟩:=hf it (by simp)
  exact wpAny_pyNext_range_end (I.ok.hd hc) st (by have:n<=i:=hg; omega) fun h' eb=>⟨rfl,I.turned (t':=s.toks) (fun b o hb e=>eb b o hb e) f0 f1 f3 f4 f5⟩
 self:=fun _ _ _ _ _ st h=>wpAny_pyIter_rangeiter st h
end L2
namespace L2
open PySem PySem.Spec PyProof.Rows
section
variable {X:Cx} {tg:Expr}
theorem znw {pins:List (Addr × Obj)} {σ:St} {H:Hp} {s:Shared} {R:It->Hp->Prop} {E:Value->Shared->Prop} {lo hi:Int} {t u v:Tok} {tk:Nat} (I:Inv X pins σ H s) (h1 : -(2 ^ 62)<=lo) (h2:lo < 2 ^ 62) (h3 : -(2 ^ 62)<=hi) (h4:hi < 2 ^ 62)
  (q:R (Itr lo (hi - lo).toNat) H):wpAny (model X.prog X.w) X.A (pyIter (.ref s.heap.objs.size)) (PIE X pins σ tg R) E { s with heap:=s.heap.push { cls:=.type "range",data:=.fields #[.int lo t,.int hi u,.int 1 v] },toks:=tk }:=by
 refine wpAny_pyIter_range (IsRange.new ..) (small_one h1 h2 h3 h4) ?_
 have I1:Inv X pins σ H { s with heap:=s.heap.push { cls:=.type "range",data:=.fields #[.int lo t,.int hi u,.int 1 v] },toks:=tk }:=I.kept fun b o e=>Heap.get?_push_of_some _ e
 refine ⟨(s.heap.push { cls:=.type "range",data:=.fields #[.int lo t,.int hi u,.int 1 v] }).objs.size,[(s.heap.push { cls:=.type "range",data:=.fields #[.int lo t,.int hi u,.int 1 v] }).objs.size],_,_,H,rfl,
  I1.kept (t':=tk) fun b o e=>Heap.get?_push_of_some _ e,zkq _ lo (hi - lo).toNat,?_,fun b hb=>?_,q⟩
 ·have e1:lo + ((0:Nat):Int) * 1=lo:=by simp
  have e2:(((hi - lo).toNat:Nat):Int) - ((0:Nat):Int)=Builtin.Range.rangeSize lo hi 1:=by rw [rangeSize_one]; split <;> omega
  show IsRangeIter _ _ (lo + ((0:Nat):Int) * 1) ((((hi - lo).toNat:Nat):Int) - ((0:Nat):Int)) 1
  rw [e1,e2]
  exact Heap.get?_push_size _ rfl
 ·have e:b=(s.heap.push { cls:=.type "range",data:=.fields #[.int lo t,.int hi u,.int 1 v] }).objs.size:=by simpa using hb
  subst e
  exact I1.fpOk (Nat.le_refl _) (I1.hok.fresh (Nat.le_refl _))
noncomputable def ztj (ta:TA):TI:=fun σ H R=>ta σ H fun vs H1=>∃j:Int,vs=[.int j]/\-(2 ^ 62)<=j/\j < 2 ^ 62/\R (Itr 0 j.toNat) H1
theorem zlR {a:Expr} {ta:TA} {p pos:Pos} (hg:Gl X "range") (hm:X.mg "range" = none) (ha:PA X [a] ta) (hs:starEach [a] X.env=[(false,eval a X.env)]:=by rfl):PI X tg (.Call (.Name "range" p) [a] [] pos) (ztj ta):=by
 intro pins s σ H R I h
 refine Call_ (zir I hg hm boot_range (PyProof.Rows.callWith_type1 (thn (ha pos pins s σ H _ I h) fun us s1 ⟨vs,H1,I1,r1,q1⟩=>?_) hs rfl))
 obtain ⟨j,e,q1,q2,q⟩:=q1
 subst e
 cases r1 with
 | cons r rr=>
  cases rr
  obtain ⟨t,rfl⟩:=r
  exact call_range_1 (znw I1 (by omega) (by omega) q1 q2 (by simpa using q))
noncomputable def tFor (wi:TI) (g:TG) (tb:TS):TS:=fun D σ H=>wi σ H fun J H1=>∃W:Nat->Nat->St->Hp->Prop,(∃m,W 0 m σ H1)/\∀i m σ H,W i m σ H ->
 (J.stop i H/\D.nx σ H)\/(J.go i H/\∃N:St->Hp->Prop,(∀σ' H',N σ' H'->∃m',m' < m/\W (i + 1) m' σ' H')/\∀x H',J.yld i H x H'->g x σ H' fun σ2 H2=>tb { D with nx:=N,ct:=N,bk:=D.nx } σ2 H2)
noncomputable def zih (fp:List Addr) (h:Heap):List (Addr × Obj):=fp.filterMap fun b=>(h.get? b).map fun o=>(b,o)
theorem zd6 {fp:List Addr} {h:Heap} {b:Addr} {o:Obj} (hb:b∈fp) (e:h.get? b=some o):(b,o)∈zih fp h:=List.mem_filterMap.mpr ⟨b,hb,by rw [e]; rfl⟩
theorem zl6 {fp:List Addr} {h:Heap} {p:Addr × Obj} (hp:p∈zih fp h):p.1∈fp/\h.get? p.1=some p.2:=by
 obtain ⟨b,hb,e⟩:=List.mem_filterMap.mp hp
 cases q:h.get? b with
 | none=>rw [q] at e; cases e
 | some o=>
  rw [q] at e
  have e':(b,o)=p:=Option.some.inj e
  subst e'
  exact ⟨hb,q⟩
theorem Inv.pinned {pins:List (Addr × Obj)} {σ:St} {H:Hp} {s:Shared} {fp:List Addr} (I:Inv X pins σ H s) (hf:∀b∈fp,FpOk X pins H b) (ho:∀b∈fp,∃o,s.heap.get? b=some o/\∀v,o.data≠.cell v):Inv X (pins++zih fp s.heap) σ H s:=
 I.pins_of fun p hp=>(List.mem_append.mp hp).elim (fun z=>I.pin p (List.mem_append_right _ z)) fun z=>by
  obtain ⟨hb,e⟩:=zl6 z
  obtain ⟨f0,f1,f2,_⟩:=hf p.1 hb
  obtain ⟨o,e',d⟩:=ho p.1 hb
  rw [e] at e'; cases e'
  exact ⟨e,f0,f1,f2,d⟩
theorem Inv.unpinned {pins pl:List (Addr × Obj)} {σ:St} {H:Hp} {s:Shared} (I:Inv X (pins++pl) σ H s):Inv X pins σ H s:=I.pins_of fun p hp=>I.pin p (List.mem_append_right _ (List.mem_append_left _ hp))
theorem zlN {iter:Expr} {body:List Stmt} {wi:TI} {g:TG} {tb:TS} {pos:Pos} (hp:PassesOwn (model X.prog X.w) X.A X.env X.xe) (hc:X.calm=true) (hi:PI X tg iter wi) (hg:PG X tg g) (hb:PSs X body tb)
  (hs:∀x,foldedSetIterable iter X.env x=pure x:=by intro _; rfl):PS X (.For tg iter body [] pos) (tFor wi g tb):=by
 intro pins s σ H D I h
 refine wpAny_For (thn (hi pins s σ H _ I h) fun v s1 h1=>thn h1 fun itv s2 h2=>?_) hs
 obtain ⟨it,fp,tn,J,H2,e,I2,T,st2,f2,W,⟨m0,w0⟩,turn⟩:=h2
 subst e
 have stat:∀{H':Hp},(∀b∈fp,H' b=none)->∀b∈fp,FpOk X pins H' b:=fun hn b hb=>⟨hn b hb,(f2 b hb).2⟩
 refine codeAny_forLoop_any (fun n s'=>∃i σ' H',Inv X pins σ' H' s'/\tn i s'.heap/\(∀b∈fp,H' b=none)/\W i n σ' H') ?_ m0 ⟨0,σ,H2,I2,st2,fun b hb=>(f2 b hb).1,w0⟩
 rintro n s3 ⟨i,σ3,H3,I3,st3,fr3,w3⟩
 rcases turn i n σ3 H3 w3 with ⟨stop,qn⟩ | ⟨go,N,hN,step⟩
 ·refine wpAny_passesOwn hp (thn (T.done X rfl rfl rfl hc i pins s3 σ3 H3 X.xe I3 (stat fr3) st3 stop) fun r s4 ⟨hr,I4⟩=>?_)
  subst hr
  exact wpAny_execs_nil ⟨σ3,H3,I4,qn⟩
 ·refine wpAny_passesOwn hp (thn (T.item X rfl rfl rfl hc i pins s3 σ3 H3 X.xe I3 (stat fr3) st3 go) fun r s4 ⟨u,hr,h4⟩=>?_)
  subst hr
  refine wpAny_passesOwn hp (thn h4 fun _ s5 ⟨x,H5,I5,r5,y5,st5,fr5⟩=>?_)
  have I5':=I5.pinned (stat fr5) (T.obj _ _ st5)
  refine wpAny_passesOwn hp (thn (hg _ s5 σ3 H5 x u _ I5' r5 (step x H5 y5)) fun _ s6 ⟨σ6,H6,I6,q6⟩=>?_)
  refine wpAny_passesOwn hp (thn (hb _ s6 σ6 H6 _ I6 q6) fun f s7 q7=>?_)
  have again:∀{σ7:St} {H7:Hp},Inv X (pins++zih fp s5.heap) σ7 H7 s7->N σ7 H7->∃m,m < n/\∃i σ' H',Inv X pins σ' H' s7/\tn i s7.heap/\(∀b∈fp,H' b=none)/\W i m σ' H':=fun {σ7 H7} I7 n7=>by
   obtain ⟨m',hm,w7⟩:=hN σ7 H7 n7
   refine ⟨m',hm,i + 1,σ7,H7,I7.unpinned,T.keep _ _ _ st5 fun b hb o e=>(I7.pin (b,o) (List.mem_append_right _ (List.mem_append_right _ (zd6 hb e)))).1,fun b hb=>?_,w7⟩
   obtain ⟨o,e,d⟩:=T.obj _ _ st5 b hb
   exact (I7.pin (b,o) (List.mem_append_right _ (List.mem_append_right _ (zd6 hb e)))).2.1
  cases f with
  | next=>obtain ⟨σ7,H7,I7,n7⟩:=q7; exact again I7 n7
  | cont=>obtain ⟨σ7,H7,I7,n7⟩:=q7; exact again I7 n7
  | brk=>obtain ⟨σ7,H7,I7,q7⟩:=q7; exact ⟨σ7,H7,I7.unpinned,q7⟩
  | ret v=>obtain ⟨x7,σ7,H7,I7,r7,q7⟩:=q7; exact ⟨x7,σ7,H7,I7.unpinned,r7,q7⟩
end
end L2
namespace L2
open PySem PySem.Spec PyProof.Rows
noncomputable abbrev R2:=V->V->Hp->VK->Prop
noncomputable def OpR (X:Cx) (f:Value->Value->Sem Value) (r:R2):Prop:=
 ∀(pins:List (Addr × Obj)) (s:Shared) (σ:St) (H:Hp) (x y:V) (v u:Value) (Q:VK),Inv X pins σ H s->RelV x v->RelV y u->r x y H Q ->
  wpAny (model X.prog X.w) X.A (f v u) (EP X pins σ Q) X.xe s
noncomputable def UnR (X:Cx) (f:Value->Sem Value) (r:V->Hp->VK->Prop):Prop:=
 ∀(pins:List (Addr × Obj)) (s:Shared) (σ:St) (H:Hp) (x:V) (v:Value) (Q:VK),Inv X pins σ H s->RelV x v->r x H Q ->
  wpAny (model X.prog X.w) X.A (f v) (EP X pins σ Q) X.xe s
noncomputable def zcK (X:Cx) (f:Value) (r:List V->Hp->VK->Prop):Prop:=
 ∀(pins:List (Addr × Obj)) (s:Shared) (σ:St) (H:Hp) (xs:List V) (us:List Value) (Q:VK),Inv X pins σ H s->Vals xs us->r xs H Q ->
  wpAny (model X.prog X.w) X.A (call f us) (EP X pins σ Q) X.xe s
noncomputable def TruR (X:Cx) (r:V->Hp->(Bool->Hp->Prop)->Prop):Prop:=
 ∀(pins:List (Addr × Obj)) (s:Shared) (σ:St) (H:Hp) (x:V) (v:Value) (Q:Bool->Hp->Prop),Inv X pins σ H s->RelV x v->r x H Q ->
  wpAny (model X.prog X.w) X.A (truthy v) (TP X pins σ Q) X.xe s
noncomputable def tOp (r:R2) (ta tb:TE):TE:=fun σ H Q=>ta σ H fun x H1=>tb σ H1 fun y H2=>r x y H2 Q
noncomputable def tUn (r:V->Hp->VK->Prop) (ta:TE):TE:=fun σ H Q=>ta σ H fun x H1=>r x H1 Q
noncomputable def rI (C:Int->Int->Prop) (g:Int->Int->V):R2:=fun x y H Q=>∃i j,x=.int i/\y=.int j/\C i j/\Q (g i j) H
noncomputable def rI0 (g:Int->Int->V):R2:=fun x y H Q=>∃i j,x=.int i/\y=.int j/\Q (g i j) H
noncomputable def rU (g:Int->V):V->Hp->VK->Prop:=fun x H Q=>∃i,x=.int i/\Q (g i) H
section
variable {X:Cx} {a b c:Expr} {ta tb tc:TE} {pos:Pos}
theorem binT (ha:PE X a ta) (hb:PE X b tb) {pins:List (Addr × Obj)} {s:Shared} {σ:St} {H:Hp} {R:V->V->Hp->Prop} (I:Inv X pins σ H s)
  (h:ta σ H fun x H1=>tb σ H1 fun y H2=>R x y H2) {Q:Value->Shared->Prop} {f:Value->Value->Sem Value}
  (hf:∀v u s2 x y H2,Inv X pins σ H2 s2->RelV x v->RelV y u->R x y H2->wpAny (model X.prog X.w) X.A (f v u) Q X.xe s2) :
  wpAny (model X.prog X.w) X.A (eval a X.env) (fun v s₁=>wpAny (model X.prog X.w) X.A (eval b X.env) (fun u s₂=>wpAny (model X.prog X.w) X.A (f v u) Q X.xe s₂) X.xe s₁) X.xe s:=by
 refine thn (ha pins s σ H _ I h) fun v s1 ⟨x,H1,I1,r1,q1⟩=>?_
 refine thn (hb pins s1 σ H1 _ I1 q1) fun u s2 ⟨y,H2,I2,r2,q2⟩=>?_
 exact hf v u s2 x y H2 I2 r1 r2 q2
theorem zsY {op:Operator} {r:R2} (ho:OpR X (binaryOp op) r) (ha:PE X a ta) (hb:PE X b tb):PE X (.BinOp a op b pos) (tOp r ta tb):=by
 intro pins s σ H Q I h
 exact wpAny_BinOp (binT ha hb I h fun v u s2 x y H2 I2 rx ry q=>ho pins s2 σ H2 x y v u Q I2 rx ry q)
theorem zsX {op:UnaryOp} {r:V->Hp->VK->Prop} (ho:UnR X (unaryOp op) r) (ha:PE X a ta):PE X (.UnaryOp op a pos) (tUn r ta):=by
 intro pins s σ H Q I h
 exact UnaryOp_ (thn (ha pins s σ H _ I h) fun v s1 ⟨x,H1,I1,r1,q1⟩=>ho pins s1 σ H1 x v Q I1 r1 q1)
theorem opI {f:Value->Value->Sem Value} {C:Int->Int->Prop} {g:Int->Int->Int}
  (rule:∀(i j:Int) (t u:Tok) (s:Shared) (Q:Value->Shared->Prop) (E:Value->Shared->Prop),C i j->Q (.int (g i j) s.toks) { s with toks:=s.toks + 1 }->wpAny (model X.prog X.w) X.A (f (.int i t) (.int j u)) Q E s) :
  OpR X f (rI C fun i j=>.int (g i j)):=by
 intro pins s σ H x y v u Q I rx ry h
 obtain ⟨i,j,rfl,rfl,hc,q⟩:=h
 obtain ⟨t,rfl⟩:=rx
 obtain ⟨t',rfl⟩:=ry
 exact rule i j t t' s _ _ hc ⟨.int (g i j),H,I.tok _,⟨_,rfl⟩,q⟩
theorem opI0 {f:Value->Value->Sem Value} {g:Int->Int->Int}
  (rule:∀(i j:Int) (t u:Tok) (s:Shared) (Q:Value->Shared->Prop) (E:Value->Shared->Prop),Q (.int (g i j) s.toks) { s with toks:=s.toks + 1 }->wpAny (model X.prog X.w) X.A (f (.int i t) (.int j u)) Q E s) :
  OpR X f (rI0 fun i j=>.int (g i j)):=by
 intro pins s σ H x y v u Q I rx ry h
 obtain ⟨i,j,rfl,rfl,q⟩:=h
 obtain ⟨t,rfl⟩:=rx
 obtain ⟨t',rfl⟩:=ry
 exact rule i j t t' s _ _ ⟨.int (g i j),H,I.tok _,⟨_,rfl⟩,q⟩
theorem opB0 {f:Value->Value->Sem Value} {g:Int->Int->Bool}
  (rule:∀(i j:Int) (t u:Tok) (s:Shared) (Q:Value->Shared->Prop) (E:Value->Shared->Prop),Q (.bool (g i j)) s->wpAny (model X.prog X.w) X.A (f (.int i t) (.int j u)) Q E s) :
  OpR X f (rI0 fun i j=>.bl (g i j)):=by
 intro pins s σ H x y v u Q I rx ry h
 obtain ⟨i,j,rfl,rfl,q⟩:=h
 obtain ⟨t,rfl⟩:=rx
 obtain ⟨t',rfl⟩:=ry
 exact rule i j t t' s _ _ ⟨.bl (g i j),H,I,rfl,q⟩
noncomputable def CDiv (i j:Int):Prop:=0 < j/\j < 1073741824
noncomputable def CPow (i j:Int):Prop:=0<=j/\j<=1000000/\i.natAbs < 2 ^ 64
noncomputable def CMul (i j:Int):Prop:=(-(2 ^ 64) < i/\i < 2 ^ 64)\/(-(2 ^ 64) < j/\j < 2 ^ 64)
theorem CMul.ok {i j:Int} (h:CMul i j):IntMulOk i j:=by
 rcases h with ⟨h1,h2⟩ | ⟨h1,h2⟩
 ·exact .of_left (intBits_le_64 h1 h2)
 ·exact .of_right (intBits_le_64 h1 h2)
theorem zoF:OpR X (binaryOp .Add) (rI0 fun i j=>.int (i + j)):=opI0 fun _ _ _ _ _ _ _ q=>add_int q
theorem zrp:OpR X (binaryOp .Mult) (rI CMul fun i j=>.int (i * j)):=opI fun _ _ _ _ _ _ _ hc q=>mul_int q hc.ok
theorem zpP:OpR X (binaryOp .FloorDiv) (rI CDiv fun i j=>.int (i / j)):=opI fun i j _ _ _ _ _ hc q=>by
 have h1:(0:Int) < j:=hc.1
 have h2:j < 1073741824:=hc.2
 exact floordiv_int (by omega) (by rw [Int.fdiv_eq_ediv_of_nonneg i (by omega)]; exact q) (.inl (PyProof.noPylong_small (by omega)))
theorem zrq:OpR X (binaryOp .Mod) (rI (fun _ j=>0 < j) fun i j=>.int (i % j)):=opI fun i j _ _ _ _ _ hc q=>by
 have h1:(0:Int) < j:=hc
 exact mod_int' (by omega) (by rw [Int.fmod_eq_emod_of_nonneg i (by omega)]; exact q)
theorem zrn:OpR X (binaryOp .Pow) (rI CPow fun i j=>.int (i ^ j.toNat)):=opI fun _ _ _ _ _ _ _ hc q=>pow_int_small hc.1 hc.2.1 hc.2.2 q
theorem unI {f:Value->Sem Value} {g:Int->Int}
  (rule:∀(i:Int) (t:Tok) (s:Shared) (Q:Value->Shared->Prop) (E:Value->Shared->Prop),Q (.int (g i) s.toks) { s with toks:=s.toks + 1 }->wpAny (model X.prog X.w) X.A (f (.int i t)) Q E s) :
  UnR X f (rU fun i=>.int (g i)):=by
 intro pins s σ H x v Q I rx h
 obtain ⟨i,rfl,q⟩:=h
 obtain ⟨t,rfl⟩:=rx
 exact rule i t s _ _ ⟨.int (g i),H,I.tok _,⟨_,rfl⟩,q⟩
theorem zqz:UnR X (unaryOp .USub) (rU fun i=>.int (-i)):=unI fun _ _ _ _ _ q=>neg_int q
end
noncomputable def scal:V->V->Bool
 | .non,.non=>true | .non,.int _=>true | .int _,.non=>true | .non,.bl _=>true | .bl _,.non=>true | .non,.str _=>true | .str _,.non=>true
 | .int _,.int _=>true | .bl _,.bl _=>true | .str _,.str _=>true | .byt _,.byt _=>true
 | .int _,.str _=>true | .str _,.int _=>true | .bl _,.str _=>true | .str _,.bl _=>true
 | _,_=>false
noncomputable def rEq:R2:=fun x y H Q=>scal x y=true/\Q (.bl (decide (x=y))) H
noncomputable def rNe:R2:=fun x y H Q=>scal x y=true/\Q (.bl (! decide (x=y))) H
theorem zjv {i j:Int}:decide (V.int i=V.int j)=(i == j):=by
 rw [Bool.eq_iff_iff]
 simp
theorem zmJ {i j:Bool}:decide (V.bl i=V.bl j)=(i == j):=by
 rw [Bool.eq_iff_iff]
 simp
theorem zju {i j:Str}:decide (V.str i=V.str j)=(i == j):=by
 rw [Bool.eq_iff_iff]
 simp
theorem zmI {i j:Array UInt8}:decide (V.byt i=V.byt j)=(i.toList == j.toList):=by
 rw [Bool.eq_iff_iff]
 cases i
 cases j
 simp
section
variable {X:Cx} {a b c:Expr} {ta tb tc:TE} {pos:Pos}
theorem zaT {pins:List (Addr × Obj)} {σ:St} {H:Hp} {s:Shared} {Q:VK} {k k':Bool} (I:Inv X pins σ H s) (q:Q (.bl k) H) (e:k=k'):EP X pins σ Q (.bool k') s:=by
 subst e
 exact ⟨.bl k,H,I,rfl,q⟩
theorem zru:OpR X (compareOp .Eq) rEq:=by
 intro pins s σ H x y v u Q I rx ry h
 obtain ⟨hs,q⟩:=h
 cases x with
 | non=>
  cases rx
  cases y with
  | non=>cases ry; exact PySem.EqNone.eq_none_none (zaT I q (by simp))
  | bl j=>cases ry; exact PySem.EqNone.eq_none_bool (zaT I q (by simp))
  | int j=>obtain ⟨t',rfl⟩:=ry; exact PySem.EqNone.eq_none_int (zaT I q (by simp))
  | str j=>obtain ⟨t',rfl⟩:=ry; exact PySem.EqNone.eq_none_str (zaT I q (by simp))
  | _=>exact absurd (show false=true from hs) Bool.false_ne_true
 | bl i=>
  cases rx
  cases y with
  | non=>cases ry; exact PySem.EqNone.eq_bool_none (zaT I q (by simp))
  | bl j=>cases ry; exact eq_bool (zaT I q zmJ)
  | str j=>obtain ⟨t',rfl⟩:=ry; exact PySem.EqMixed.eq_bool_str (zaT I q (by simp))
  | _=>exact absurd (show false=true from hs) Bool.false_ne_true
 | int i=>
  obtain ⟨t,rfl⟩:=rx
  cases y with
  | non=>cases ry; exact PySem.EqNone.eq_int_none (zaT I q (by simp))
  | int j=>obtain ⟨t',rfl⟩:=ry; exact eq_int (zaT I q zjv)
  | str j=>obtain ⟨t',rfl⟩:=ry; exact PySem.EqMixed.eq_int_str (zaT I q (by simp))
  | _=>exact absurd (show false=true from hs) Bool.false_ne_true
 | str i=>
  obtain ⟨t,rfl⟩:=rx
  cases y with
  | non=>cases ry; exact PySem.EqNone.eq_str_none (zaT I q (by simp))
  | bl j=>cases ry; exact PySem.EqMixed.eq_str_bool (zaT I q (by simp))
  | int j=>obtain ⟨t',rfl⟩:=ry; exact PySem.EqMixed.eq_str_int (zaT I q (by simp))
  | str j=>obtain ⟨t',rfl⟩:=ry; exact eq_str (zaT I q zju)
  | _=>exact absurd (show false=true from hs) Bool.false_ne_true
 | byt i=>
  obtain ⟨t,rfl⟩:=rx
  cases y with
  | byt j=>obtain ⟨t',rfl⟩:=ry; exact PySem.W.eq_bytes (zaT I q zmI)
  | _=>exact absurd (show false=true from hs) Bool.false_ne_true
 | _=>cases y <;> exact absurd (show false=true from hs) Bool.false_ne_true
theorem zro:OpR X (compareOp .NotEq) rNe:=by
 intro pins s σ H x y v u Q I rx ry h
 obtain ⟨hs,q⟩:=h
 cases x with
 | non=>
  cases rx
  cases y with
  | non=>cases ry; exact PySem.EqNone.ne_none_none (zaT I q (by simp))
  | bl j=>cases ry; exact PySem.EqNone.ne_none_bool (zaT I q (by simp))
  | int j=>obtain ⟨t',rfl⟩:=ry; exact PySem.EqNone.ne_none_int (zaT I q (by simp))
  | str j=>obtain ⟨t',rfl⟩:=ry; exact PySem.EqNone.ne_none_str (zaT I q (by simp))
  | _=>exact absurd (show false=true from hs) Bool.false_ne_true
 | bl i=>
  cases rx
  cases y with
  | non=>cases ry; exact PySem.EqNone.ne_bool_none (zaT I q (by simp))
  | bl j=>cases ry; exact ne_bool (zaT I q (congrArg not zmJ))
  | str j=>obtain ⟨t',rfl⟩:=ry; exact PySem.EqMixed.ne_bool_str (zaT I q (by simp))
  | _=>exact absurd (show false=true from hs) Bool.false_ne_true
 | int i=>
  obtain ⟨t,rfl⟩:=rx
  cases y with
  | non=>cases ry; exact PySem.EqNone.ne_int_none (zaT I q (by simp))
  | int j=>obtain ⟨t',rfl⟩:=ry; exact ne_int (zaT I q (congrArg not zjv))
  | str j=>obtain ⟨t',rfl⟩:=ry; exact PySem.EqMixed.ne_int_str (zaT I q (by simp))
  | _=>exact absurd (show false=true from hs) Bool.false_ne_true
 | str i=>
  obtain ⟨t,rfl⟩:=rx
  cases y with
  | non=>cases ry; exact PySem.EqNone.ne_str_none (zaT I q (by simp))
  | bl j=>cases ry; exact PySem.EqMixed.ne_str_bool (zaT I q (by simp))
  | int j=>obtain ⟨t',rfl⟩:=ry; exact PySem.EqMixed.ne_str_int (zaT I q (by simp))
  | str j=>obtain ⟨t',rfl⟩:=ry; exact ne_str (zaT I q (congrArg not zju))
  | _=>exact absurd (show false=true from hs) Bool.false_ne_true
 | byt i=>
  obtain ⟨t,rfl⟩:=rx
  cases y with
  | byt j=>obtain ⟨t',rfl⟩:=ry; exact PySem.W.ne_bytes (zaT I q (congrArg not zmI))
  | _=>exact absurd (show false=true from hs) Bool.false_ne_true
 | _=>cases y <;> exact absurd (show false=true from hs) Bool.false_ne_true
theorem zpO:OpR X (compareOp .Lt) (rI0 fun i j=>.bl (decide (i < j))):=opB0 fun _ _ _ _ _ _ _ q=>lt_int q
theorem zs2:OpR X (compareOp .LtE) (rI0 fun i j=>.bl (decide (i<=j))):=opB0 fun _ _ _ _ _ _ _ q=>le_int q
theorem zs3:OpR X (compareOp .Gt) (rI0 fun i j=>.bl (decide (j < i))):=opB0 fun _ _ _ _ _ _ _ q=>gt_int q
theorem zs4:OpR X (compareOp .GtE) (rI0 fun i j=>.bl (decide (j<=i))):=opB0 fun _ _ _ _ _ _ _ q=>ge_int q
theorem zl0:OpR X (compareOp .In) (fun x y H Q=>∃i j,x=.str i/\y=.str j/\Q (.bl (!(Builtin.Str.occurrences j i 0 j.length 1).isEmpty)) H):=by
 intro pins s σ H x y v u Q I rx ry h
 obtain ⟨i,j,rfl,rfl,q⟩:=h
 obtain ⟨t,rfl⟩:=rx
 obtain ⟨t',rfl⟩:=ry
 exact in_str (zaT I q rfl)
theorem zrr:OpR X (compareOp .Is) (fun x y H Q=>y=.non/\Q (.bl (decide (x=.non))) H):=by
 intro pins s σ H x y v u Q I rx ry h
 obtain ⟨rfl,q⟩:=h
 cases ry
 refine is_none_gen (zaT I q ?_)
 cases x <;> first
  | (cases rx; rfl)
  | (obtain ⟨t,rfl⟩:=rx; rfl)
theorem zpL:OpR X (compareOp .IsNot) (fun x y H Q=>y=.non/\Q (.bl (! decide (x=.non))) H):=by
 intro pins s σ H x y v u Q I rx ry h
 obtain ⟨rfl,q⟩:=h
 cases ry
 refine isnot_none_gen (zaT I q ?_)
 cases x <;> first
  | (cases rx; rfl)
  | (obtain ⟨t,rfl⟩:=rx; rfl)
theorem OpR.or {f:Value->Value->Sem Value} {r r':R2} (h:OpR X f r) (h':OpR X f r'):OpR X f (fun x y H Q=>r x y H Q\/r' x y H Q):=by
 intro pins s σ H x y v u Q I rx ry q
 rcases q with q | q
 ·exact h pins s σ H x y v u Q I rx ry q
 ·exact h' pins s σ H x y v u Q I rx ry q
theorem zeh (b:Expr) {op:CmpOp} (h:op≠.In:=by decide) (h2:op≠.NotIn:=by decide):behindInMarks op b=false:=by
 have e1:(op == CmpOp.In)=false:=by cases op <;> first | rfl | exact absurd rfl h
 have e2:(op == CmpOp.NotIn)=false:=by cases op <;> first | rfl | exact absurd rfl h2
 cases b <;> simp [behindInMarks,e1,e2]
theorem zpG {op:CmpOp} {r:R2} (ho:OpR X (compareOp op) r) (ha:PE X a ta) (hb:PE X b tb) (hm:behindInMarks op b=false):PE X (.Compare a [op] [b] pos) (tOp r ta tb):=by
 intro pins s σ H Q I h
 exact wpAny_Compare1 (binT ha hb I h fun v u s2 x y H2 I2 rx ry q=>ho pins s2 σ H2 x y v u Q I2 rx ry q) hm
noncomputable def zsF (t:TE):TT:=fun σ H Q=>t σ H fun x H'=>∃k,x=.bl k/\Q k H'
theorem zpz {op:CmpOp} {r:R2} (ho:OpR X (compareOp op) r) (ha:PE X a ta) (hb:PE X b tb) (hm:behindInMarks op b=false):PT X (.Compare a [op] [b] pos) (zsF (tOp r ta tb)):=by
 intro pins s σ H Q I h
 refine wpAny_isTrue_Compare1 (thn (ha pins s σ H _ I h) fun v s1 ⟨x,H1,I1,r1,q1⟩=>thn (hb pins s1 σ H1 _ I1 q1) fun u s2 ⟨y,H2,I2,r2,q2⟩=>
  thn (ho pins s2 σ H2 x y v u _ I2 r1 r2 q2) fun c s3 ⟨z,H3,I3,r3,k,e,q3⟩=>?_) hm
 subst e
 cases r3
 exact wpAny_truthy_bool ⟨H3,I3,q3⟩
noncomputable def zot (r r':R2) (ta tb tc:TE):TE:=fun σ H Q=>ta σ H fun x H1=>tb σ H1 fun y H2=>r x y H2 fun z H3=>∃k,z=.bl k /\
 (if k=true then tc σ H3 fun w' H4=>r' y w' H4 Q else Q (.bl false) H3)
theorem znH {op op':CmpOp} {r r':R2} (ho:OpR X (compareOp op) r) (ho':OpR X (compareOp op') r') (ha:PE X a ta) (hb:PE X b tb) (hc:PE X c tc)
  (hm:lastMarks [op,op'] [b,c]=false:=by with_unfolding_all rfl):PE X (.Compare a [op,op'] [b,c] pos) (zot r r' ta tb tc):=by
 intro pins s σ H Q I h
 refine Compare_chain (thn (ha pins s σ H _ I h) fun v s1 ⟨x,H1,I1,r1,q1⟩=>chain_link (thn (hb pins s1 σ H1 _ I1 q1) fun u s2 ⟨y,H2,I2,r2,q2⟩=>
  thn (ho pins s2 σ H2 x y v u _ I2 r1 r2 q2) fun d s3 ⟨z,H3,I3,r3,k,e,q3⟩=>?_)) hm
 subst e
 cases r3
 refine wpAny_truthy_bool ?_
 cases k with
 | false=>exact ite_ff ⟨.bl false,H3,I3,rfl,q3⟩
 | true=>exact ite_tt (chain_last (thn (hc pins s3 σ H3 _ I3 q3) fun w' s4 ⟨z',H4,I4,r4,q4⟩=>ho' pins s4 σ H4 y z' u w' Q I4 r2 r4 q4))
noncomputable def TruV (K:PySem.W.Frag) (x:V) (H:Hp) (k:Bool):Prop:=
 match x with
 | .non=>k=false
 | .bl b=>k=b
 | .int i=>k=(i != 0)
 | .str y=>y.length<=sizeLine/\k=((y.length:Int) != 0)
 | .byt y=>y.size<=sizeLine/\k=((y.size:Int) != 0)
 | .ref p=>(∃xs,SqL K H p xs/\k = ! xs.isEmpty)\/(∃xs,SqT K H p xs/\k = ! xs.isEmpty)\/∃kvs,Rd H p (.dK kvs)/\k = ! kvs.isEmpty
 | _=>False
theorem zkW {κ:Type} {kvs:List (κ × V)} {vs:List (κ × Value)} (r:KV kvs vs):(! vs.isEmpty) = ! kvs.isEmpty:=by
 cases r <;> rfl
theorem zg1 {xs:List V} {its:List Value} (r:Vals xs its):(! its.toArray.isEmpty) = ! xs.isEmpty:=by
 cases r <;> simp
theorem zg0:(sizeLine:Nat) < 2 ^ 63:=by rw [sizeLine_eq]; decide
theorem zqF:TruR X (fun x H Q=>∃k,TruV X.K x H k/\Q k H):=by
 intro pins s σ H x v Q I rx h
 obtain ⟨k,e,q⟩:=h
 have hl:=zg0
 have hs:sizeLine=16777216:=sizeLine_eq
 cases x with
 | non=>
  cases rx
  have e':k=false:=e
  subst e'
  exact truthy_none ⟨H,I,q⟩
 | bl b=>
  cases rx
  have e':k=b:=e
  subst e'
  exact wpAny_truthy_bool ⟨H,I,q⟩
 | int i=>
  obtain ⟨t,rfl⟩:=rx
  have e':k=(i != 0):=e
  subst e'
  exact PySem.P.truthy_int ⟨H,I,q⟩
 | str y=>
  obtain ⟨t,rfl⟩:=rx
  obtain ⟨hy,e'⟩:y.length<=sizeLine/\k=((y.length:Int) != 0):=e
  subst e'
  exact PySem.P.truthy_str (by omega) ⟨H,I.tok _,q⟩
 | byt y=>
  obtain ⟨t,rfl⟩:=rx
  obtain ⟨hy,e'⟩:y.size<=sizeLine/\k=((y.size:Int) != 0):=e
  subst e'
  exact PySem.W.truthy_bytes (by omega) ⟨H,I.tok _,q⟩
 | ref p=>
  cases rx
  have e':(∃xs,SqL X.K H p xs/\k = ! xs.isEmpty)\/(∃xs,SqT X.K H p xs/\k = ! xs.isEmpty)\/∃kvs,Rd H p (.dK kvs)/\k = ! kvs.isEmpty:=e
  rcases e' with ⟨xs,hx,e'⟩ | ⟨xs,hx,e'⟩ | ⟨kvs,hx,e'⟩
  ·subst e'
   obtain ⟨its,r,pl,hz⟩:=I.list hx
   have hlen:=r.length
   exact wpAny_truthy_list pl.isList (by simp only [List.size_toArray]; omega) ⟨H,I.tok _,by rw [zg1 r]; exact q⟩
  ·subst e'
   obtain ⟨its,r,pl,hz⟩:=I.tuple hx
   have hlen:=r.length
   exact truthy_tuple pl (by simp only [List.size_toArray]; omega) ⟨H,I.tok _,by rw [zg1 r]; exact q⟩
  ·subst e'
   obtain ⟨hz,hS,vs,r,m⟩:kvs.length<=sizeLine/\(p == sysModules)=false/\∃vs,KV kvs vs/\s.heap.DictOf (zbg X.prog X.w) p vs:=hx.ok I.hok
   have hlen:kvs.length=vs.length:=Paired.length r
   exact wpAny_truthy_dict hS m (by omega) ⟨H,I.tok _,by rw [zkW r]; exact q⟩
 | _=>exact (show False from e).elim
theorem znz (ha:PE X a ta) (he:∀whole,isTrue a X.env whole=(do let v <-whole; standAt a.pos; holding [v] (truthy v))) :
  PT X a (fun σ H Q=>ta σ H fun x H'=>∃k,TruV X.K x H' k/\Q k H'):=by
 intro pins s σ H Q I h
 exact isTrue_plain (thn (ha pins s σ H _ I h) fun v s1 ⟨x,H1,I1,r1,q1⟩=>zqF pins s1 σ H1 x v Q I1 r1 q1) (he _)
theorem zgX:OpR X (binaryOp .Add) (fun x y H Q=>∃i j,x=.str i/\y=.str j/\i.length + j.length<=sizeLine/\Q (.str (i++j)) H):=by
 intro pins s σ H x y v u Q I rx ry h
 obtain ⟨i,j,rfl,rfl,hz,q⟩:=h
 obtain ⟨t,rfl⟩:=rx
 obtain ⟨t',rfl⟩:=ry
 exact add_str (fun t' tk=>⟨.str (i++j),H,I.tok _,⟨_,rfl⟩,q⟩) hz
theorem vals1 {x:V} {us:List Value} (r:Vals [x] us):∃u,us=[u]/\RelV x u:=by
 cases r with
 | cons r1 r2=>cases r2; exact ⟨_,rfl,r1⟩
theorem zqx {x y:V} {us:List Value} (r:Vals [x,y] us):∃u w',us=[u,w']/\RelV x u/\RelV y w':=by
 cases r with
 | cons r1 r2=>
  cases r2 with
  | cons r3 r4=>cases r4; exact ⟨_,_,rfl,r1,r3⟩
noncomputable def LenV (K:PySem.W.Frag) (x:V) (H:Hp) (n:Nat):Prop:=
 match x with
 | .str y=>y.length<=sizeLine/\n=y.length
 | .byt y=>y.size<=sizeLine/\n=y.size
 | .ref p=>(∃xs,SqL K H p xs/\n=xs.length)\/∃xs,SqT K H p xs/\n=xs.length
 | _=>False
theorem zoh:zcK X (.builtin "len") (fun xs H Q=>∃x n,xs=[x]/\LenV X.K x H n/\Q (.int n) H):=by
 intro pins s σ H xs us Q I r h
 obtain ⟨x,n,rfl,e,q⟩:=h
 obtain ⟨u,rfl,rx⟩:=vals1 r
 have hl:=zg0
 have hs:sizeLine=16777216:=sizeLine_eq
 cases x with
 | str y=>
  obtain ⟨t,rfl⟩:=rx
  obtain ⟨hy,e'⟩:y.length<=sizeLine/\n=y.length:=e
  subst e'
  exact len_str (by omega) ⟨.int _,H,I.tok _,⟨_,rfl⟩,q⟩
 | byt y=>
  obtain ⟨t,rfl⟩:=rx
  obtain ⟨hy,e'⟩:y.size<=sizeLine/\n=y.size:=e
  subst e'
  exact PySem.W.len_bytes (by omega) ⟨.int _,H,I.tok _,⟨_,rfl⟩,q⟩
 | ref p=>
  cases rx
  have e':(∃xs,SqL X.K H p xs/\n=xs.length)\/∃xs,SqT X.K H p xs/\n=xs.length:=e
  rcases e' with ⟨xs,hx,e'⟩ | ⟨xs,hx,e'⟩
  ·subst e'
   obtain ⟨its,r',pl,hz⟩:=I.list hx
   have hlen:=r'.length
   exact Calls.call_len_list pl.isList (by simp only [List.size_toArray]; omega) ⟨.int xs.length,H,I.tok _,⟨_,by simp only [List.size_toArray]; rw [hlen]⟩,q⟩
  ·subst e'
   obtain ⟨its,r',pl,hz⟩:=I.tuple hx
   have hlen:=r'.length
   exact len_tuple pl (by simp only [List.size_toArray]; omega) ⟨.int xs.length,H,I.tok _,⟨_,by simp only [List.size_toArray]; rw [hlen]⟩,q⟩
 | _=>exact (show False from e).elim
end
end L2
namespace L2
open PySem PySem.Spec PyProof.Rows
structure ObjM (h:Heap) (x dx C:Addr) (mA:Str->Option Value):Prop where
 obj:h.get? x=some (PySem.W.instObj C dx)
 ns:h.Ns1 dx mA
 ne:dx≠x
section
variable {prog:Program} {w:World} {A:Around} {E:Value->Shared->Prop} {s:Shared} {K:PySem.W.Frag} {x dx C f:Addr} {mA:Str->Option Value} {name:Str} {v:Value}
end
noncomputable def putF (f:Str) (v:V):List (Str × V)->List (Str × V)
 | []=>[(f,v)]
 | (g,x)::r=>if g=f then (g,v)::r else (g,x)::putF f v r
theorem RelO.some_of {v:V} {o:Option Value} (r:RelO (some v) o):∃u,o=some u/\RelV v u:=by
 cases o with
 | none=>exact (show False from r).elim
 | some u=>exact ⟨u,rfl,r⟩
theorem RelO.none_of {o:Option Value} (r:RelO none o):o=none:=by
 cases o with
 | none=>rfl
 | some u=>exact (show False from r).elim
section
variable {P:Program} {w:World} {H H':Hp} {h h':Heap} {a C dx:Addr} {fs fs':List (Str × V)}
end
structure Cls (K:PySem.W.Frag) (C:Addr):Prop where
 pg:PySem.W.plainGet K C Str.empty=true
 hd:PySem.W.hasDictIn K C=true
 po:PySem.W.plainOver K C=true
 sa:PySem.W.findIn K (.ref C) "__setattr__" = some (some (.builtin "object.__setattr__"))
theorem Cls.get {K:PySem.W.Frag} {C:Addr} (c:Cls K C) (f:Str):PySem.W.plainGet K C f=true:=c.pg
structure Con (K:PySem.W.Frag) (C:Addr) (f:Str) (v:V) (u:Value):Prop where
 at_:PySem.W.findIn K (.ref C) f=some (some u)
 rel:RelV v u
 get:PySem.W.specialIn K u "__get__" = some none
 cp:PySem.W.copiedNames.contains f=false
structure Meth (K:PySem.W.Frag) (C:Addr) (m:Str) (f:Addr):Prop where
 at_:PySem.W.findIn K (.ref C) m=some (some (.ref f))
 fn:PySem.W.isFn K (.ref f)=true
 kp:PySem.W.keepIn K (.ref f)=true
section
variable {X:Cx} {pins:List (Addr × Obj)} {σ:St} {H:Hp} {s:Shared} {a C dx:Addr} {fs:List (Str × V)} {f:Str} {v:V} {A:Around} {E:Value->Shared->Prop}
theorem Inv.made (I:Inv X pins σ H s):Inv X pins σ (upd (upd H s.heap.objs.size (.own (s.heap.objs.size + 1))) (s.heap.objs.size + 1) (.ins C s.heap.objs.size []))
  { s with heap:=(s.heap.push PySem.W.emptyDict).push (PySem.W.instObj C s.heap.objs.size) }:=by
 have e1:(s.heap.push PySem.W.emptyDict).get? s.heap.objs.size=some PySem.W.emptyDict:=Heap.get?_push_size s.heap rfl
 have e2:((s.heap.push PySem.W.emptyDict).push (PySem.W.instObj C s.heap.objs.size)).get? (s.heap.objs.size + 1)=some (PySem.W.instObj C s.heap.objs.size):=by
  have:=Heap.get?_push_size (s.heap.push PySem.W.emptyDict) (o:=PySem.W.instObj C s.heap.objs.size) rfl
  rwa [Heap.size_push] at this
 have e3:(s.heap.push PySem.W.emptyDict).Ns s.heap.objs.size (fun _=>none):=⟨PySem.W.emptyDict,#[],_,e1,rfl,(fun e he=>absurd he (by simp)),fun _=>rfl⟩
 have I1:=I.laid (a:=s.heap.objs.size) (o:=.own (s.heap.objs.size + 1)) (h':=s.heap.push PySem.W.emptyDict) (t':=s.toks) (fun b u q=>Heap.get?_push_of_some _ q) (Nat.le_refl _) ⟨_,e1⟩
 refine I1.laid (a:=s.heap.objs.size + 1) (o:=.ins C s.heap.objs.size []) (t':=s.toks) (fun b u q=>Heap.get?_push_of_some _ q) (Nat.le_of_eq (Heap.size_push _ _)) ?_
 have ne:s.heap.objs.size≠s.heap.objs.size + 1:=Nat.ne_of_lt (Nat.lt_succ_self _)
 refine ⟨by rw [zaA ne,zaq],Nat.zero_le _,ne,e2,fun _=>none,(Heap.Ns1.of_empty e3).at fun o q=>Heap.get?_push_of_some _ q,fun _=>True.intro,fun y hy=>absurd rfl hy⟩
end
section
variable {X:Cx} {o e value:Expr} {f:Str} {pos pos' tpos:Pos} {ta tv:TE}
end
section
variable {X:Cx} {pins:List (Addr × Obj)} {σ:St} {H:Hp} {s:Shared} {A:Around} {E:Value->Shared->Prop} {Q:Value->Shared->Prop} {c:Value} {b:Bool}
inductive TyOf (K:PySem.W.Frag) (H:Hp):V->Value->Prop where
 | non:TyOf K H .non (.type "NoneType")
 | bl (x:Bool):TyOf K H (.bl x) (.type "bool")
 | int (i:Int):TyOf K H (.int i) (.type "int")
 | str (x:Str):TyOf K H (.str x) (.type "str")
 | flt (x:UInt64):TyOf K H (.flt x) (.type "float")
 | lst {a:Addr} {xs:List V} (e:H a=some (.lst xs)):TyOf K H (.ref a) (.type "list")
 | frz {a:Addr} {o:Obj} {xs:List V} (e:H a=some (.frz o (.lst xs))):TyOf K H (.ref a) (.type "list")
 | tup {a:Addr} {xs:List V} (e:H a=some (.tup xs)):TyOf K H (.ref a) (.type "tuple")
 | dK {a:Addr} {kvs:List (Key × V)} (e:H a=some (.dK kvs)):TyOf K H (.ref a) (.type "dict")
 | dT {a:Addr} {kvs:List (List Key × V)} (e:H a=some (.dT kvs)):TyOf K H (.ref a) (.type "dict")
 | ins {a C dx:Addr} {fs:List (Str × V)} (e:H a=some (.ins C dx fs)) (cl:Cls K C) (ha:PySem.W.findIn K (.ref C) "__class__" = some (some (.builtin "object.__class__")))
   (hn:PySem.W.specialIn K (.builtin "object.__class__") "__get__" = some (some (.builtin "getset_descriptor.__get__"))) (htk:PySem.W.takesIn K (.builtin "object.__class__")=some true)
   (hm:PySem.W.mroIn K C (.type "object")=some true):TyOf K H (.ref a) (.ref C)
end
end L2
namespace L2
open PySem PySem.Spec PyProof.Rows
structure Room (k:Nat) (A:Around):Prop where
 hd:A.handled=none
 dp:A.depth + 3 * k + 5 < recursionLimit
 un:A.units + 16 * k + 200 < cLine
 gd:A.guards=some []
theorem Room.mono {j k:Nat} {A:Around} (r:Room k A) (h:j<=k):Room j A:=⟨r.hd,by have:=r.dp; omega,by have:=r.un; omega,r.gd⟩
theorem Room.deeper {k:Nat} {A:Around} (r:Room (k + 1) A) (env:Env):Room k (A.deeper env):=
 ⟨r.hd,by have:=r.dp; show A.depth + 1 + 3 * k + 5 < _; omega,by have:=r.un; show A.units + 3 + 16 * k + 200 < _; omega,r.gd⟩
theorem Room.in1 {k:Nat} {A:Around} (r:Room (k + 1) A):Room k A.in1:=
 ⟨r.hd,by have:=r.dp; show A.depth + 3 * k + 5 < _; omega,by have:=r.un; show A.units + 1 + 16 * k + 200 < _; omega,r.gd⟩
theorem zkR {A:Around} {C:Addr} {us:List Value} {kw:List (Str × Value)}:(A.under (.builtin "type.__call__" ⟨.ref C::us,kw⟩)).depth=A.depth + 1:=by
 first | rfl | simp [Around.under,Code.weight,Code.isCreation,Code.isGuard,Code.isCaller,Code.frames,Code.isFrame,guardIds]
theorem zkQ {A:Around} {C:Addr} {us:List Value} {kw:List (Str × Value)}:(A.under (.builtin "type.__call__" ⟨.ref C::us,kw⟩)).units=A.units + 1:=by
 first | rfl | simp [Around.under,Code.cUnits,Code.frames,Code.isFrame]
theorem Room.make {k:Nat} {A:Around} (r:Room (k + 1) A) (C:Addr) (us:List Value) (kw:List (Str × Value)):Room k (A.under (.builtin "type.__call__" ⟨.ref C::us,kw⟩)):=
 ⟨r.hd,by have:=r.dp; rw [zkR]; omega,by have:=r.un; rw [zkQ]; omega,(by have:=r.gd; first | exact this | (simp [Around.under,Code.isGuard,guardIds]; exact this))⟩
theorem Room.depth {k:Nat} {A:Around} (r:Room k A):A.depth < recursionLimit:=by have:=r.dp; omega
theorem Room.units {k:Nat} {A:Around} (r:Room k A):A.units + 64 < cLine:=by have:=r.un; omega
noncomputable def tNil:TA:=fun _ H Q=>Q [] H
noncomputable def zsK (ta:TE) (tr:TA):TA:=fun σ H Q=>ta σ H fun x H1=>tr σ H1 fun xs H2=>Q (x::xs) H2
section
variable {X:Cx} {e:Expr} {es:List Expr} {te:TE} {t:TA} {pos:Pos}
theorem zeQ:PA X [] tNil:=fun _ _ _ _ H Q I h=>Calls.spliced_nil ⟨[],H,I,.nil,h⟩
theorem zcy (ha:PE X e te) (hr:PA X es t) (hs:starEach (e::es) X.env=(false,eval e X.env)::starEach es X.env:=by rfl):PA X (e::es) (zsK te t):=by
 intro pos pins s σ H Q I h
 rw [hs]
 show wpAny _ _ (spliced ((false,eval e X.env)::backTo pos (starEach es X.env))) _ _ s
 refine Calls.spliced_cons (thn (ha pins s σ H _ I h) fun u s1 ⟨x,H1,I1,r1,q1⟩=>?_)
 exact thn (hr pos pins s1 σ H1 _ I1 q1) fun us s2 ⟨xs,H2,I2,r2,q2⟩=>⟨x::xs,H2,I2,.cons r1 r2,q2⟩
noncomputable def tTup (t:TA):TE:=fun σ H Q=>t σ H fun xs H1=>xs.length<=sizeLine/\∀p,H1 p=none->Q (.ref p) (upd H1 p (.tup xs))
noncomputable def tLst (t:TA):TE:=fun σ H Q=>t σ H fun xs H1=>xs.length<=sizeLine/\∀p,H1 p=none->Q (.ref p) (upd H1 p (.lst xs))
theorem zrd {x1} (h:PA X es t):PE X (.Tuple es x1 pos) (tTup t):=by
 intro pins s σ H Q I hq
 refine wpAny_Tuple_spliced (thn (h pos pins s σ H _ I hq) fun us s1 ⟨xs,H1,I1,r,z,q⟩=>⟨by rw [<-r.length]; exact z,?_⟩)
 have hf:H1 s1.heap.objs.size=none:=I1.hok.fresh (Nat.le_refl _)
 refine ⟨.ref s1.heap.objs.size,upd H1 s1.heap.objs.size (.tup xs),I1.laid (t':=s1.toks) (fun b u e=>Heap.get?_push_of_some _ e) (Nat.le_refl _) ?_,rfl,q _ hf⟩
 exact ⟨z,us,r,⟨_,Heap.get?_push_size _ rfl,rfl,_,rfl⟩,_,Heap.get?_push_size _ rfl,rfl⟩
theorem zrh (h:PA X es t):PE X (.List es pos) (tLst t):=by
 intro pins s σ H Q I hq
 refine wpAny_List_spliced (thn (h pos pins s σ H _ I hq) fun us s1 ⟨xs,H1,I1,r,z,q⟩=>⟨by rw [<-r.length]; exact z,?_⟩)
 have hf:H1 s1.heap.objs.size=none:=I1.hok.fresh (Nat.le_refl _)
 refine ⟨.ref s1.heap.objs.size,upd H1 s1.heap.objs.size (.lst xs),I1.laid (t':=s1.toks) (fun b u e=>Heap.get?_push_of_some _ e) (Nat.le_refl _) ?_,rfl,q _ hf⟩
 exact ⟨z,us,0,r,Heap.get?_push_size _ rfl⟩
end
noncomputable abbrev Sp:=List V->Hp->VK->XK->Prop
noncomputable abbrev CXT:=List Env->Hp->Shared->XK->Value->Shared->Prop
structure Env0 (P:Program) (w:World) (K:PySem.W.Frag) (mg:Str->Option Value) (base:Heap) (A:Around) (outer:List Env) (s:Shared) (H:Hp):Prop where
 frames:A.frames=some outer
 mod:Mod K mg base
 bs:∀b o,base.get? b=some o->s.heap.get? b=some o/\H b=none
 bsz:base.objs.size<=s.heap.objs.size
 funs:s.heap.FunFrames base outer
 frf:∀b∈frs outer,H b=none
 hok:HOk P w H s.heap
 bare:AllBare s.gens
noncomputable def CE (outer:List Env) (P:Program) (w:World) (H:Hp) (s:Shared) (Q:VK) (u:Value) (s':Shared):Prop:=
 ∃v H',s'.os=s.os/\AllBare s'.gens/\Un (frs outer) [] H H' s.heap s'.heap/\HOk P w H' s'.heap/\RelV v u/\Q v H'
noncomputable def CR (CX:CXT) (outer:List Env) (P:Program) (w:World) (H:Hp) (s:Shared) (Q:VK) (E:XK) (r:Result) (s':Shared):Prop:=
 match r with
 | .ok (.ret u)=>CE outer P w H s Q u s'
 | .ok _=>False
 | .error e=>CX outer H s E e s'
structure FnOk (P:Program) (w:World) (K:PySem.W.Frag) (mg:Str->Option Value) (base:Heap) (CX:CXT) (k:Nat) (f:Addr) (fd:FuncData) (ps:List Str) (sp:Sp):Prop where
 len:∀vs H Q E,sp vs H Q E->vs.length=ps.length
 run:∀(A:Around) (outer:List Env) (s:Shared) (H:Hp) (args:Args) (us:List Value) (vs:List V) (Q:VK) (E:XK),Room k A->Env0 P w K mg base A outer s H->BindsTo s fd args (ps.zip us)->Vals vs us->sp vs H Q E ->
  codeAny (model P w) A (.call (.ref f) args) (CR CX outer P w H s Q E) s
theorem FnOk.mono {P:Program} {w:World} {K:PySem.W.Frag} {mg:Str->Option Value} {base:Heap} {CX:CXT} {j k:Nat} {f:Addr} {fd:FuncData} {ps:List Str} {sp:Sp} (F:FnOk P w K mg base CX j f fd ps sp) (h:j<=k) :
  FnOk P w K mg base CX k f fd ps sp:=⟨F.len,fun A outer s H args us vs Q E hr=>F.run A outer s H args us vs Q E (hr.mono h)⟩
theorem FnOk.imp {P:Program} {w:World} {K:PySem.W.Frag} {mg:Str->Option Value} {base:Heap} {CX:CXT} {k:Nat} {f:Addr} {fd:FuncData} {ps:List Str} {sp sp':Sp} (F:FnOk P w K mg base CX k f fd ps sp)
  (h:∀vs H Q E,sp' vs H Q E->sp vs H Q E):FnOk P w K mg base CX k f fd ps sp':=
 ⟨fun vs H Q E q=>F.len vs H Q E (h _ _ _ _ q),fun A outer s H args us vs Q E hr he hb hv hs=>F.run A outer s H args us vs Q E hr he hb hv (h _ _ _ _ hs)⟩
theorem Env0.make {P:Program} {w:World} {K:PySem.W.Frag} {mg:Str->Option Value} {base:Heap} {A:Around} {outer:List Env} {s:Shared} {H:Hp} (e:Env0 P w K mg base A outer s H) (C:Addr) (us:List Value) (kw:List (Str × Value)) :
  Env0 P w K mg base (A.under (.builtin "type.__call__" ⟨.ref C::us,kw⟩)) outer s H:=⟨by first | exact e.frames | (simpa [Around.under,Code.envs,Code.isFrame,pushEnvs] using e.frames),e.mod,e.bs,e.bsz,e.funs,e.frf,e.hok,e.bare⟩
theorem Env0.in1 {P:Program} {w:World} {K:PySem.W.Frag} {mg:Str->Option Value} {base:Heap} {A:Around} {outer:List Env} {s:Shared} {H:Hp} (e:Env0 P w K mg base A outer s H) :
  Env0 P w K mg base A.in1 outer s H:=⟨e.frames,e.mod,e.bs,e.bsz,e.funs,e.frf,e.hok,e.bare⟩
section
variable {X:Cx} {pins:List (Addr × Obj)} {σ:St} {H:Hp} {s s':Shared}
theorem Inv.env0 (I:Inv X pins σ H s):Env0 X.prog X.w X.K X.mg X.base X.A X.stack s H:=
 ⟨I.ok.frames,I.ok.mod,I.bs,Nat.le_trans I.ok.bsz I.sz,I.stack,I.stkFree,I.hok,I.bare⟩
theorem Inv.after {Q:VK} {u:Value} (I:Inv X pins σ H s) (h:CE X.stack X.prog X.w H s Q u s'):EP X pins σ Q u s':=by
 obtain ⟨v,H',os,bare,un,hok,r,q⟩:=h
 obtain ⟨hh,g,d,t,os'⟩:=s'
 obtain rfl:os'=s.os:=os
 exact ⟨v,H',I.call (h':=hh) (g':=g) (d':=d) (t':=t) (ch:=[]) un hok bare (fun b z=>absurd z (by simp)),r,q⟩
end
noncomputable def zsL (sp:Sp) (dvs:List V) (E:XK) (t:TA):TE:=fun σ H Q=>t σ H fun vs H1=>sp (vs++dvs) H1 Q E
noncomputable def zgQ (K:PySem.W.Frag) (fd:FuncData) (ps:List Str) (ds:List Value):Prop:=
 ∀(s:Shared) (us:List Value),K.In s.heap->(us++ds).length=ps.length->BindsTo s fd ⟨us,[]⟩ (ps.zip (us++ds))
theorem zgQ.all {K:PySem.W.Frag} {fd:FuncData} {ps:List Str} (h:∀us:List Value,us.length=ps.length->bindArgs fd ⟨us,[]⟩=pure (ps.zip us)):zgQ K fd ps []:=fun s us _ hl=>by
 rw [List.append_nil] at hl ⊢
 exact .of_eq (h us hl)
noncomputable def zm7 (CX:CXT) (X:Cx) (E:XK):Prop:=∀(pins:List (Addr × Obj)) (σ:St) (H:Hp) (s:Shared) (e:Value) (s':Shared),Inv X pins σ H s->CX X.stack H s E e s'->X.xe e s'
section
variable {X:Cx} {CX:CXT} {k:Nat} {f C:Addr} {fd:FuncData} {ps:List Str} {sp:Sp} {dvs:List V} {ds:List Value} {E:XK} {x m:Str} {p pos apos:Pos} {e o:Expr} {es:List Expr} {ta:TE} {t:TA}
theorem zqX {pins:List (Addr × Obj)} {σ:St} {H:Hp} {s:Shared} {Q:VK} {us:List Value} {vs:List V} (F:FnOk X.prog X.w X.K X.mg X.base CX k f fd ps sp) (hr:Room k X.A) (hb:zgQ X.K fd ps ds) (hd:Vals dvs ds) (hx:zm7 CX X E)
  (I:Inv X pins σ H s) (r:Vals vs us) (h:sp (vs++dvs) H Q E):wpAny (model X.prog X.w) X.A (call (.ref f) us) (EP X pins σ Q) X.xe s:=by
 have r2:Vals (vs++dvs) (us++ds):=r.append hd
 have hl:(us++ds).length=ps.length:=by rw [<-r2.length]; exact F.len _ _ _ _ h
 refine wpAny_call (codeAny_mono (F.run X.A X.stack s H ⟨us,[]⟩ (us++ds) (vs++dvs) Q E hr I.env0 (hb s us I.kIn hl) r2 h) fun r s' hq=>?_)
 cases r with
 | error e=>exact hx pins σ H s e s' I hq
 | ok fl=>
  cases fl with
  | ret u=>exact I.after hq
  | next=>exact False.elim hq
  | brk=>exact False.elim hq
  | cont=>exact False.elim hq
theorem zpH (F:FnOk X.prog X.w X.K X.mg X.base CX k f fd ps sp) (hr:Room k X.A) (hg:Gl X x) (hm:X.mg x=some (.ref f)) (hk:PySem.W.keepIn X.K (.ref f)=true) (hb:zgQ X.K fd ps ds) (hd:Vals dvs ds) (hx:zm7 CX X E)
  (ha:PA X (e::es) t) (hdb:(x == ("__debug__" : Str))=false:=by decide) (he:starEach (e::es) X.env=(false,eval e X.env)::starEach es X.env:=by rfl) (hpl:(backTo pos (starEach es X.env)).any (·.1)=false:=by rfl) :
  PE X (.Call (.Name x p) (e::es) [] pos) (zsL sp dvs E t):=by
 intro pins s σ H Q I h
 refine wpAny_Call_Name_kw (zp8 I hg hm ?_ hdb)
 refine PySem.W.callWith_K (h₀:=X.base) I.ok.mod.kin hk (thn (ha pos pins s σ H _ I h) fun us s1 ⟨vs,H1,I1,r,q⟩=>⟨I1.kIn,?_⟩) he hpl
 exact zqX F hr hb hd hx I1 r q
structure Mk (K:PySem.W.Frag) (C f:Addr):Prop where
 makes:PySem.W.makesIn K C=true
 init:PySem.W.findIn K (.ref C) "__init__" = some (some (.ref f))
 fn:PySem.W.isFn K (.ref f)=true
 kp:PySem.W.keepIn K (.ref C)=true
end
section
variable {X:Cx} {CX:CXT} {k:Nat} {f C:Addr} {fd:FuncData} {ps ks:List Str} {sp:Sp} {E:XK} {x m:Str} {p pos apos kpos:Pos} {e o:Expr} {es:List Expr} {kws:List Keyword} {te ta:TE} {t tk:TA} {nm:Option Str}
structure KBinds (K:PySem.W.Frag) (fd:FuncData) (ps ks:List Str) (g:List Value->List Value->List Value) (gV:List V->List V->List V):Prop where
 to:∀(s:Shared) (us ws:List Value),K.In s.heap->(g us ws).length=ps.length->BindsTo s fd ⟨us,ks.zip ws⟩ (ps.zip (g us ws))
 rel:∀{vs:List V} {us:List Value} {zs:List V} {ws:List Value},Vals vs us->Vals zs ws->Vals (gV vs zs) (g us ws)
variable {g:List Value->List Value->List Value} {gV:List V->List V->List V}
end
structure FnScope (N P:List Str) (sc:Scope):Prop where
 kind:sc.kind=.function
 co:sc.isCoroutine=false
 gen:sc.isGenerator=false
 nd:N.Nodup
 pre:N.take P.length=P
 par:∀x∈P,sc.names.lookup x=some .local\/sc.names.lookup x=some .cell
 nofree:∀y∈sc.names,y.2≠.free
theorem ziH {kindOf:Str->Option NameKind} {x:Str}:∀{binds:List (Str × Value)} {m:Str->Option Value},(∀v,(x,v)∉binds)->bindL kindOf binds m x=m x
 | [],_,_=>rfl
 | (n,v)::r,m,h=>by
  unfold bindL
  rw [ziH fun w hw=>h w (List.mem_cons_of_mem _ hw)]
  split
  ·have:x≠n:=by rintro rfl; exact h v List.mem_cons_self
   simp [this]
  ·rfl
theorem ziJ {kindOf:Str->Option NameKind} {x:Str}:∀{binds:List (Str × Value)} {m:Str->Option Value},(∀v,(x,v)∉binds)->bindC kindOf binds m x=m x
 | [],_,_=>rfl
 | (n,v)::r,m,h=>by
  unfold bindC
  rw [ziJ fun w hw=>h w (List.mem_cons_of_mem _ hw)]
  split
  ·rfl
  ·have:x≠n:=by rintro rfl; exact h v List.mem_cons_self
   simp [this]
theorem ziI {kindOf:Str->Option NameKind} {x:Str} {v:Value}:∀{P:List Str} {vs:List Value} {i:Nat} {m:Str->Option Value},P.Nodup->P[i]? = some x->vs[i]? = some v->kindOf x=some .local ->
  bindL kindOf (P.zip vs) m x=some v
 | [],_,_,_,_,h,_,_=>by simp at h
 | _::_,[],_,_,_,_,h,_=>by simp at h
 | p::P,w::vs,0,m,nd,h1,h2,hk=>by
  simp at h1 h2; subst h1; subst h2
  show bindL kindOf ((p,w)::P.zip vs) m p=_
  unfold bindL
  rw [ziH fun v hv=>(List.nodup_cons.mp nd).1 (List.of_mem_zip hv).1,if_pos hk]
  simp
 | p::P,w::vs,i + 1,m,nd,h1,h2,hk=>by
  show bindL kindOf ((p,w)::P.zip vs) m x=_
  unfold bindL
  exact ziI (i:=i) (List.nodup_cons.mp nd).2 (by simpa using h1) (by simpa using h2) hk
theorem ziK {kindOf:Str->Option NameKind} {x:Str} {v:Value}:∀{P:List Str} {vs:List Value} {i:Nat} {m:Str->Option Value},P.Nodup->P[i]? = some x->vs[i]? = some v->kindOf x≠some .local ->
  bindC kindOf (P.zip vs) m x=some v
 | [],_,_,_,_,h,_,_=>by simp at h
 | _::_,[],_,_,_,_,h,_=>by simp at h
 | p::P,w::vs,0,m,nd,h1,h2,hk=>by
  simp at h1 h2; subst h1; subst h2
  show bindC kindOf ((p,w)::P.zip vs) m p=_
  unfold bindC
  rw [ziJ fun v hv=>(List.nodup_cons.mp nd).1 (List.of_mem_zip hv).1,if_neg hk]
  simp
 | p::P,w::vs,i + 1,m,nd,h1,h2,hk=>by
  show bindC kindOf ((p,w)::P.zip vs) m x=_
  unfold bindC
  exact ziK (i:=i) (List.nodup_cons.mp nd).2 (by simpa using h1) (by simpa using h2) hk
noncomputable def start (N:List Str) (vs:List V):St:=vs.map some++List.replicate (N.length - vs.length) none
noncomputable def cxOf (CX:CXT) (P:Program) (w:World) (K:PySem.W.Frag) (mg:Str->Option Value) (base:Heap) (N:List Str) (qual:Str) (scope:Scope) (f:Addr) (cd:Value) (A:Around) (outer:List Env) (s:Shared) (H:Hp) (E:XK):Cx where
 prog:=P
 w:=w
 K:=K
 mg:=mg
 base:=base
 A:=A.deeper (envOfC qual scope s.heap.objs.size f cd)
 N:=N
 s₀:=s
 H₀:=H
 env:=envOfC qual scope s.heap.objs.size f cd
 outer:=outer
 stack:=envOfC qual scope s.heap.objs.size f cd::outer
 ex:=[]
 calm:=true
 fn:=fun _=>true
 pn:=[]
 xe:=fun e s'=>wpAny (model P w) (A.deeper (envOfC qual scope s.heap.objs.size f cd)) (leaving (envOfC qual scope s.heap.objs.size f cd) e) (fun _ s''=>CX outer H s E e s'') (fun e' s''=>CX outer H s E e' s'') s'
theorem zkj {sc:Scope} {n:Nat} {x:Str} (h:sc.names.lookup x=some .cell):∃c,(cellsFrom n sc.names []).lookup x=some c:=by
 have q:=PySem.W.cellsFrom_some sc.names n [] (.inl h)
 exact Option.isSome_iff_exists.mp q
theorem zmt {CX:CXT} {P:Program} {w:World} {K:PySem.W.Frag} {mg:Str->Option Value} {base:Heap} {N ps:List Str} {qual:Str} {scope:Scope} {f:Addr} {cd:Value} {A:Around} {outer:List Env} {s s1:Shared} {H:Hp} {E:XK} {us:List Value} {vs:List V}
  (S:FnScope N ps scope) (hd:A.handled=none) (e0:Env0 P w K mg base A outer s H) (hl:vs.length=ps.length) (r:Vals vs us)
  (x:InCallC s s.heap.objs.size (bindL (envOfC qual scope s.heap.objs.size f cd).kindOf (ps.zip us) fun _=>none) (cellsFrom (s.heap.objs.size + 1) scope.names []) (bindC (envOfC qual scope s.heap.objs.size f cd).kindOf (ps.zip us) fun _=>none) s1) :
  Inv (cxOf CX P w K mg base N qual scope f cd A outer s H E) [] (start N vs) H s1:=by
 have hpl:ps.length<=N.length:=by have:=congrArg List.length S.pre; rw [List.length_take] at this; omega
 obtain ⟨h1,tk,rfl,hk⟩:=x.done
 have noA:∀b:Addr,b∉(cxOf CX P w K mg base N qual scope f cd A outer s H E).ex:=fun b z=>absurd (show b∈([]:List Addr) from z) (by simp)
 refine ⟨⟨e0.mod,S.kind,rfl,rfl,Nat.le_refl _,fun y z c h1 h2=>?_,fun y hy=>?_,fun y c _ h=>?_,fun _=>hd,Around.frames_deeper e0.frames,.inr ⟨rfl,rfl⟩,fun b z=>absurd z (noA b),e0.bs,e0.bsz,fun b _ _=>noA b,fun b z=>absurd z (noA b),e0.funs,e0.frf⟩,
  rfl,e0.bare,Un.kept hk,⟨_,x.toInCall.ns,fun i y v h1 h2 h3=>?_⟩,fun y c h=>⟨_,x.cell y c h⟩,e0.hok.fresh (Nat.le_refl _),fun y c h=>?_,fun p hp=>absurd (show p∈([]:List (Addr × Obj)) from hp) (by simp),e0.hok.kept hk,?_⟩
 ·exact name_of_addr x.apart (PySem.mem_of_lookup h1) (PySem.mem_of_lookup h2)
 ·have hy:scope.names.lookup y=some .cell\/scope.names.lookup y=some .free:=hy
  rcases hy with hy | hy
  ·exact zkj hy
  ·exact absurd rfl (S.nofree _ (PySem.mem_of_lookup hy))
 ·exact Nat.le_of_lt (x.above y c (PySem.mem_of_lookup h))
 ·have hi:i < vs.length:=by
   unfold start at h2
   by_cases hi:i < vs.length
   ·exact hi
   ·rw [List.getElem?_append_right (by simpa using hi)] at h2
    rw [List.getElem?_replicate] at h2
    split at h2 <;> cases h2
  have ha:vs[i]? = some v:=by
   unfold start at h2
   rw [List.getElem?_append_left (by simpa using hi),List.getElem?_map] at h2
   cases e:vs[i]? with
   | none=>rw [e] at h2; cases h2
   | some a=>rw [e] at h2; cases h2; rfl
  obtain ⟨u,hu,rv⟩:=r.get ha
  have hp:ps[i]? = some y:=by
   rw [<-S.pre,List.getElem?_take_of_lt (by omega)]; exact h1
  have ndP:ps.Nodup:=by rw [<-S.pre]; exact S.nd.sublist (List.take_sublist _ _)
  refine ⟨u,rv,?_⟩
  rcases S.par y (List.mem_of_getElem? hp) with k | k
  ·exact .inl ⟨k,ziI ndP hp hu k⟩
  ·obtain ⟨c,e⟩:=zkj (n:=s.heap.objs.size + 1) k
   refine .inr ⟨.inl k,c,e,?_⟩
   have q:=x.cell y c e
   rw [ziK ndP hp hu (by show scope.names.lookup y≠_; rw [k]; decide)] at q
   exact q
 ·exact e0.hok.fresh (Nat.le_of_lt (x.above y c (PySem.mem_of_lookup h)))
 ·unfold start
  show _=N.length
  rw [List.length_append,List.length_map,List.length_replicate]
  omega
theorem zsd {CX:CXT} {P:Program} {w:World} {K:PySem.W.Frag} {mg:Str->Option Value} {base:Heap} {k:Nat} {f:Addr} {name qual:Str} {params:Arguments} {body:List Stmt} {scope:Scope} {dV kV doc pm cdv ct oc:Value} {an od:Option Addr}
  {osl:Array (Option Value)} {N ps:List Str} {sp:Sp} (lk:K.lookup f=some ⟨oc,od,.func (PySem.W.fnOf name qual params body scope dV kV doc pm an cdv ct),osl⟩) (hcd:PySem.W.codeIn K cdv qual=true) (S:FnScope N ps scope)
  (len:∀vs H Q E,sp vs H Q E->vs.length=ps.length)
  (hbody:∀(A:Around) (outer:List Env) (s:Shared) (H:Hp) (vs:List V) (Q:VK) (E:XK),Room k (A.deeper (envOfC qual scope s.heap.objs.size f cdv))->sp vs H Q E ->
   ∃t,PSs (cxOf CX P w K mg base N qual scope f cdv A outer s H E) body t/\t { nx:=fun _ H'=>Q .non H',rt:=Q } (start N vs) H) :
  FnOk P w K mg base CX (k + 1) f (PySem.W.fnOf name qual params body scope dV kV doc pm an cdv ct) ps sp:=by
 refine ⟨len,fun A outer s H args us vs Q E hr e0 hb r hsp=>?_⟩
 have hl:=len _ _ _ _ hsp
 have KX:K.In s.heap:=e0.mod.kin.keeps fun b o e=>(e0.bs b o e).1
 have lim:s.heap.NoLimit:=e0.mod.nolimit.keeps fun b o e=>(e0.bs b o e).1
 have hkind:∀y∈ps.zip us,scope.names.lookup y.1=some .local\/(scope.names.lookup y.1=some .cell/\((cellsFrom (s.heap.objs.size + 1) scope.names []).lookup y.1).isSome=true):=fun ⟨n,v⟩ hy=>by
  rcases S.par n (List.of_mem_zip hy).1 with q | q
  ·exact .inl q
  ·exact .inr ⟨q,PySem.W.cellsFrom_some _ _ _ (.inl q)⟩
 refine codeAny_call_function hr.depth (KX _ _ lk) rfl S.co S.gen rfl (PySem.W.codeRec_of KX hcd) (hb _ _ _ _ ?_)
 refine wpAny_newFunctionEnv_cells S.kind hkind fun env he s1 x=>?_
 subst he
 refine ⟨lim.keeps x.toInCall.keep,codeAny_func ?_⟩
 obtain ⟨t,ht,hq⟩:=hbody A outer s H vs Q E (hr.deeper _) hsp
 have I:Inv (cxOf CX P w K mg base N qual scope f cdv A outer s H E) [] (start N vs) H s1:=zmt S hr.hd e0 hl r x
 refine wpAny_mono (ht [] s1 (start N vs) H _ I hq) (fun fl s' hs=>?_) fun e s' hs=>hs
 have fin:∀{σ':St} {H':Hp} {v:V} {u:Value},Inv (cxOf CX P w K mg base N qual scope f cdv A outer s H E) [] σ' H' s'->RelV v u->Q v H'->CE outer P w H s Q u s':=
  fun {σ' H' v u} J rv q=>⟨v,H',J.os,J.bare,J.base,J.hok,rv,q⟩
 cases fl with
 | ret u=>
  obtain ⟨v,σ',H',J,rv,q⟩:=hs
  exact fin J rv q
 | next=>
  obtain ⟨σ',H',J,q⟩:=hs
  exact fin (v:=V.non) (u:=Value.none) J rfl q
 | brk=>
  obtain ⟨_,_,_,q⟩:=hs
  exact False.elim q
 | cont=>
  obtain ⟨_,_,_,q⟩:=hs
  exact False.elim q
end L2
namespace L2
open PySem PySem.Spec PyProof.Rows
section
variable {X:Cx} {x:Str} {p pos:Pos} {e:Expr} {es:List Expr} {t:TA} {id T:String} {r:List V->Hp->VK->Prop}
noncomputable def tCB (r:List V->Hp->VK->Prop) (t:TA):TE:=fun σ H Q=>t σ H fun vs H1=>r vs H1 Q
theorem zcT (hc:zcK X (.builtin id) r) (hg:Gl X x) (hm:X.mg x=none) (hv:bootBuiltins x=some (.builtin id)) (ha:PA X (e::es) t) (hn:x≠"__name__" := by decide) (hdb:(x == ("__debug__" : Str))=false:=by decide)
  (he:starEach (e::es) X.env=(false,eval e X.env)::starEach es X.env:=by rfl) (hpl:(backTo pos (starEach es X.env)).any (·.1)=false:=by rfl):PE X (.Call (.Name x p) (e::es) [] pos) (tCB r t):=by
 intro pins s σ H Q I h
 refine wpAny_Call_Name_kw (zir I hg hm hv ?_ hn hdb)
 exact PyProof.Rows.callWith_builtin1 (thn (ha pos pins s σ H _ I h) fun us s1 ⟨vs,H1,I1,r1,q1⟩=>hc pins s1 σ H1 vs us Q I1 r1 q1) he hpl
theorem zcx (hc:zcK X (.type T) r) (hg:Gl X x) (hm:X.mg x=none) (hv:bootBuiltins x=some (.type T)) (ha:PA X (e::es) t) (hn:x≠"__name__" := by decide) (hdb:(x == ("__debug__" : Str))=false:=by decide)
  (he:starEach (e::es) X.env=(false,eval e X.env)::starEach es X.env:=by rfl) (hpl:(backTo pos (starEach es X.env)).any (·.1)=false:=by rfl):PE X (.Call (.Name x p) (e::es) [] pos) (tCB r t):=by
 intro pins s σ H Q I h
 refine wpAny_Call_Name_kw (zir I hg hm hv ?_ hn hdb)
 exact PyProof.Rows.callWith_type1 (thn (ha pos pins s σ H _ I h) fun us s1 ⟨vs,H1,I1,r1,q1⟩=>hc pins s1 σ H1 vs us Q I1 r1 q1) he hpl
end
end L2
namespace HT
open PySem PyProof.Rows
noncomputable def lexLt:List Int->List Int->Bool
 | [],[]=>false
 | [],_::_=>true
 | _::_,[]=>false
 | x::xs,y::ys=>if x=y then lexLt xs ys else decide (x < y)
theorem lexLt_cons (x y:Int) (xs ys:List Int):lexLt (x::xs) (y::ys)=if x=y then lexLt xs ys else decide (x < y):=rfl
theorem zhJ:lexLt [] []=false:=rfl
theorem zgL (y:Int) (ys:List Int):lexLt [] (y::ys)=true:=rfl
theorem zgM (x:Int) (xs:List Int):lexLt (x::xs) []=false:=rfl
theorem zoc (A:Around) (s:Shared) (a:Int) (t:Tok) (c:Int) (u:Tok):∃e,SeqAt.EqAt A s (.int a t) (.int c u) e/\(e=true↔a=c):=
 ⟨(a == c),SeqAt.EqAt.int_int a t c u,by simp⟩
theorem rcLt_int (A:Around) (s:Shared) (a:Int) (t:Tok) (c:Int) (u:Tok) (prog:Program) (w:World) (E:Value->Shared->Prop) (Q:Value->Shared->Prop) (h:Q (.bool (decide (a < c))) s) :
  wpAny (model prog w) A (richCompare .Lt (.int a t) (.int c u)) Q E s:=
 (PyProof.Rows.lt_int h:wpAny (model prog w) A (compareOp .Lt (.int a t) (.int c u)) Q E s)
section
open PySem.SeqAt
open PySem.AutoSeq1 (wpAny_loadPart')
open PySem.MeetsSeq PySem.MeetsSeq2 PySem.MeetsSeq3
theorem zhl (l b:Addr) (items items2:Array Value) (n n2:Nat) (dd dd2:Option Addr) (sl sl2:Array (Option Value)) (ns ms:List Int) (hi:IntsAre items.toList ns) (hj:IntsAre items2.toList ms) :
  Meets (Builtin.«tuple.__lt__» ⟨[.ref l,.ref b],[]⟩)
   (fun _ R s=>s.heap.get? l=some { cls:=.type "tuple",dict:=dd,data:=.seq items n,slots:=sl }/\s.heap.get? b=some { cls:=.type "tuple",dict:=dd2,data:=.seq items2 n2,slots:=sl2 } /\
    R (.ok (.ret (.bool (lexLt ns ms)))) s):=
 .of_wp fun prog w A R s h=>by
  obtain ⟨hp,g,d,tk,os⟩:=s; obtain ⟨hl,hb,h⟩:=h
  have f2:=AutoSeq1.sub_tuple_tuple
  have z1:items.size=ns.length:=by rw [<-hi.length]; simp
  have z2:items2.size=ms.length:=by rw [<-hj.length]; simp
  wp_walk using wpAny_loadPart' hl,wpAny_loadPart' hb,wpAny_forIn_list _ (fun rest b s'=>b.1=none/\s'=⟨hp,g,d,tk,os⟩/\∃(vs ws:List Value) (ns' ms':List Int),rest=vs.zip ws /\
   IntsAre vs ns'/\IntsAre ws ms'/\ns'.length + items2.size=ms'.length + items.size/\R (.ok (.ret (.bool (lexLt ns' ms')))) ⟨hp,g,d,tk,os⟩) _
  case turn=>
   rintro ⟨y,x⟩ rest b s' ⟨hb',rfl,vs,ws,ns',ms',hz,hvi,hwi,hlen,hR⟩
   cases hvi with
   | nil=>rw [List.zip_nil_left] at hz; cases hz
   | cons a t hvi'=>
    cases hwi with
    | nil=>rw [List.zip_nil_right] at hz; cases hz
    | cons c u hwi'=>
     rw [List.zip_cons_cons] at hz
     injection hz with hyx hrest
     injection hyx with hy hx
     subst hy hx
     rw [lexLt_cons] at hR
     simp only [List.length_cons] at hlen
     obtain ⟨e,he,hiff⟩:=zoc A.in1 ⟨hp,g,d,tk,os⟩ a t c u
     refine wpAny_bind (he prog w _ _ ?_)
     cases e with
     | true=>
      rw [if_pos (hiff.mp rfl)] at hR
      wp_walk
      exact ⟨rfl,rfl,_,_,_,_,hrest,hvi',hwi',by omega,hR⟩
     | false=>
      rw [if_neg (fun q=>absurd (hiff.mpr q) Bool.false_ne_true)] at hR
      have hri:=rcLt_int A.in1 ⟨hp,g,d,tk,os⟩ a t c u prog w
      wp_walk using hri
      exact ⟨_,rfl,by simpa using hR⟩
  case fin=>
   rintro ⟨b1,b2⟩ s' ⟨hb',rfl,vs,ws,ns',ms',hz,hvi,hwi,hlen,hR⟩
   simp only at hb'
   subst hb'
   have hv:lexLt ns' ms'=decide (items.size < items2.size):=by
    cases hvi with
    | nil=>
     cases hwi with
     | nil=>
      simp only [List.length_nil] at hlen
      rw [zhJ]
      exact (decide_eq_false (by omega)).symm
     | cons c u hw=>
      simp only [List.length_nil,List.length_cons] at hlen
      rw [zgL]
      exact (decide_eq_true (by omega)).symm
    | cons a t hv=>
     cases hwi with
     | nil=>
      simp only [List.length_nil,List.length_cons] at hlen
      rw [zgM]
      exact (decide_eq_false (by omega)).symm
     | cons c u hw=>
      rw [List.zip_cons_cons] at hz
      cases hz
   rw [hv] at hR
   wp_walk
   exact ⟨_,rfl,by simpa [Builtin.Tuple.tupleCompareSizes] using hR⟩
  case h=>
   exact ⟨rfl,rfl,items.toList,items2.toList,ns,ms,rfl,hi,hj,by omega,h⟩
end
section
variable {prog:Program} {w:World} {A:Around} {E:Value->Shared->Prop} {s:Shared}
theorem lt_tupInts {l b:Addr} {items items2:Array Value} {ns ms:List Int} {Q:Value->Shared->Prop} (hl:IsTup s.heap l items) (hb:IsTup s.heap b items2) (hi:IntsAre items.toList ns) (hj:IntsAre items2.toList ms)
  (hu:A.units < cLine) (h:Q (.bool (lexLt ns ms)) s):wpAny (model prog w) A (compareOp .Lt (.ref l) (.ref b)) Q E s:=by
 obtain ⟨⟨cls,dd,data,sl⟩,ho,hc,n,hd⟩:=id hl
 obtain ⟨⟨cls2,dd2,data2,sl2⟩,ho2,hc2,n2,hd2⟩:=id hb
 simp only at hc hd hc2 hd2
 subst hc hd hc2 hd2
 exact richCompare_meets_room (op:=.Lt) ⟨_,ho,rfl⟩ ⟨_,ho2,rfl⟩ PySem.F.slot_tuple_lt PySem.F.entry_tuple_lt (PySem.F.args_tuple_lt_2 _ _) (zhl l b items items2 n n2 dd dd2 sl sl2 ns ms hi hj)
  ⟨ho,ho2,show Value.bool (lexLt ns ms)≠Value.notImplemented/\Q (.bool (lexLt ns ms)) s from ⟨(fun x=>nomatch x),h⟩⟩ hu
theorem cat_tup {t b:Addr} {vs ws:List Value} {Q:Value->Shared->Prop} (ht:IsTup s.heap t vs.toArray) (hb:IsTup s.heap b ws.toArray) (hv:vs≠[])
  (h1:ws=[]->Q (.ref t) s) (h2:ws≠[]->Q (.ref s.heap.objs.size) { s with heap:=s.heap.push { cls:=.type "tuple",data:=.seq (vs++ws).toArray } })
  (hsz:vs.length + ws.length<=sizeLine):wpAny (model prog w) A (binaryOp .Add (.ref t) (.ref b)) Q E s:=by
 obtain ⟨⟨cls,dd,data,sl⟩,ho,hc,n,hd⟩:=id ht
 obtain ⟨⟨cls2,dd2,data2,sl2⟩,ho2,hc2,n2,hd2⟩:=id hb
 simp only at hc hd hc2 hd2
 subst hc hd hc2 hd2
 have e:vs.toArray++ws.toArray=(vs++ws).toArray:=by simp
 by_cases hw:ws=[]
 ·exact concat_meets ⟨_,ho,rfl⟩ ⟨_,ho2,rfl⟩ noFill_tuple_add seq_tuple_add PySem.F.slot_tuple_add PySem.F.entry_tuple_add (PySem.F.args_tuple_add_2 _ _)
   (tuple_addW1 t b vs.toArray ws.toArray n n2 dd dd2 sl sl2 (by simpa using hv) (by simp [hw])) ⟨ho,ho2,h1 hw⟩
 ·refine concat_meets ⟨_,ho,rfl⟩ ⟨_,ho2,rfl⟩ noFill_tuple_add seq_tuple_add PySem.F.slot_tuple_add PySem.F.entry_tuple_add (PySem.F.args_tuple_add_2 _ _)
   (tuple_addW2 t b vs.toArray ws.toArray n n2 dd dd2 sl sl2 (by simpa using hv) (by simpa using hw) (by rw [List.size_toArray,List.size_toArray]; exact hsz)) ⟨ho,ho2,?_⟩
  rw [e]
  exact h2 hw
noncomputable def sIx (n d:Nat):Option Int->Nat
 | none=>d
 | some v=>if v < 0 then (v + (n:Int)).toNat else min v.toNat n
theorem sIx_none (n d:Nat):sIx n d none=d:=rfl
theorem sIx_nat (n d k:Nat):sIx n d (some (k:Int))=min k n:=by
 show (if (k:Int) < 0 then ((k:Int) + (n:Int)).toNat else min (k:Int).toNat n)=min k n
 rw [if_neg (by omega),Int.toNat_natCast]
theorem zqW (n d:Nat) (hd:d<=n) (o:Option Int):sIx n d o<=n:=by
 cases o with
 | none=>exact hd
 | some v=>
  show (if v < 0 then (v + (n:Int)).toNat else min v.toNat n)<=n
  by_cases hv:v < 0
  ·rw [if_pos hv]; omega
  ·rw [if_neg hv]; exact Nat.min_le_right _ _
theorem zmQ (v:Int) (n d:Nat):(if v < 0 then max (v + (n:Int)) 0 else min v (n:Int))=((sIx n d (some v):Nat):Int):=by
 show (if v < 0 then max (v + (n:Int)) 0 else min v (n:Int))=(((if v < 0 then (v + (n:Int)).toNat else min v.toNat n):Nat):Int)
 by_cases hv:v < 0
 ·simp only [if_pos hv]; omega
 ·simp only [if_neg hv]; omega
theorem zk8 (lo hi:Option Int) (n:Nat):Builtin.Slice.sliceAdjust lo hi 1 (n:Int)=(((sIx n 0 lo:Nat):Int),((sIx n n hi:Nat):Int)):=by
 have h1:¬ ((1:Int) < 0):=by omega
 unfold Builtin.Slice.sliceAdjust
 simp only [h1,if_false]
 refine Prod.ext ?_ ?_
 ·cases lo with
  | none=>rfl
  | some v=>exact zmQ v n 0
 ·cases hi with
  | none=>rfl
  | some v=>exact zmQ v n n
theorem zkJ (i j:Nat):Builtin.Slice.slicePlaces (i:Int) (j:Int) 1=j - i:=by
 unfold Builtin.Slice.slicePlaces
 have h1:(1:Int) > 0:=by omega
 simp only [h1,if_true,Int.ediv_one]
 split <;> omega
theorem zgS {v:Value} {o:Option Int} {Q:Option Int->Shared->Prop} (p:IsPart v o) (h:Q o s):wpAny (model prog w) A (Builtin.Slice.slicePartIndex v) Q E s:=by
 cases p with
 | none=>exact slicePart_none h
 | int i t=>exact slicePart_int h
theorem zfF {sl:Addr} {vl vu:Value} {lo hi:Option Int} {n:Nat} {Q:Int × Int × Nat->Shared->Prop} (hs:s.heap.IsSliceOf sl vl vu .none) (pl:IsPart vl lo) (pu:IsPart vu hi)
  (h:Q (((sIx n 0 lo:Nat):Int),1,sIx n n hi - sIx n 0 lo) s):wpAny (model prog w) A (Builtin.Slice.sliceApplied (.ref sl) (pure (n:Int))) Q E s:=by
 obtain ⟨os,hos,hcs,hds⟩:=id hs
 unfold Builtin.Slice.sliceApplied Builtin.Slice.sliceFields
 refine wpAny_bind (wpAny_bind (wpAny_field hos hds (x:=vl) rfl (wpAny_bind (wpAny_field hos hds (x:=vu) rfl (wpAny_bind (wpAny_field hos hds (x:=.none) rfl (wpAny_pure ?_)))))))
 refine wpAny_bind (slicePart_none ?_)
 show wpAny _ _ (if ((1:Int) == 0)=true then _ else _) _ _ s
 rw [if_neg (by decide)]
 refine wpAny_bind (zgS pl (wpAny_bind (zgS pu (wpAny_bind (wpAny_pure ?_)))))
 show wpAny _ _ (match Builtin.Slice.sliceAdjust lo hi 1 (n:Int) with | (lo,hi)=>pure (lo,(1:Int),Builtin.Slice.slicePlaces lo hi 1)) _ _ s
 rw [zk8 lo hi n]
 show wpAny _ _ (pure (((sIx n 0 lo:Nat):Int),(1:Int),Builtin.Slice.slicePlaces ((sIx n 0 lo:Nat):Int) ((sIx n n hi:Nat):Int) 1)) _ _ s
 rw [zkJ]
 exact wpAny_pure h
theorem znD (xs:Array Value) (i k:Nat):((List.range k).filterMap fun (m:Nat)=>xs[((i:Int) + (m:Int) * 1).toNat]?).toArray=((xs.toList.drop i).take k).toArray:=by
 have e:(fun (m:Nat)=>xs[((i:Int) + (m:Int) * 1).toNat]?)=fun m=>xs[i + m]?:=by
  funext m
  have:((i:Int) + (m:Int) * 1).toNat=i + m:=by omega
  rw [this]
 rw [e]
 have:=pick_run xs i k
 rw [List.filterMap_map] at this
 have e2:((fun x=>xs[x]?) ∘ fun x=>i + x)=fun m=>xs[i + m]?:=rfl
 rw [e2] at this
 rw [this]
theorem getItem_tuple_cut {t sl:Addr} {items:Array Value} {vl vu:Value} {lo hi:Option Int} {Q:Value->Shared->Prop} (ht:IsTup s.heap t items) (hs:s.heap.IsSliceOf sl vl vu .none) (pl:IsPart vl lo) (pu:IsPart vu hi)
  (hw:¬ (sIx items.size 0 lo=0/\sIx items.size items.size hi=items.size))
  (h:Q (.ref s.heap.objs.size) { s with heap:=s.heap.push { cls:=.type "tuple",data:=.seq ((items.toList.drop (sIx items.size 0 lo)).take (sIx items.size items.size hi - sIx items.size 0 lo)).toArray } })
  (hsz:items.size<=sizeLine):wpAny (model prog w) A (getItem (.ref t) (.ref sl)) Q E s:=by
 have htake:sizeOk (.seq ((items.toList.drop (sIx items.size 0 lo)).take (sIx items.size items.size hi - sIx items.size 0 lo)).toArray):=by
  show ((items.toList.drop (sIx items.size 0 lo)).take (sIx items.size items.size hi - sIx items.size 0 lo)).toArray.size<=sizeLine
  rw [List.size_toArray,List.length_take,List.length_drop,Array.length_toList]
  omega
 have hj:sIx items.size items.size hi<=items.size:=zqW _ _ (Nat.le_refl _) hi
 obtain ⟨os,hos,hcs,hds⟩:=id hs
 have hTs:s.TypeIs (.ref sl) "slice" := ⟨os,hos,hcs⟩
 unfold getItem
 try with_reducible refine wpAny_holding ?_
 first | refine wpAny_bind (wpAny_pure ?_) | skip
 refine wpAny_bind (wpAny_sequenceKey ht.typeIs (by decide) ?_)
 refine wpAny_bind (wpAny_callSpecial?_slot (name:=Str.ofString "__getitem__") ht.typeIs PyProof.Rows.slot_tuple_getitem
  (wpAny_call_entry PyProof.Rows.slot_tuple_getitem ht.typeIs entry_tuple_getitem ?_ (args_tuple_getitem _ _)))
 show wpAny _ _ (Builtin.Tuple.tupleItemsOf (.ref t) >>= _) _ _ s
 refine wpAny_bind (tupleItemsOf_ ht ?_)
 refine wpAny_bind (wpAny_typeOf hTs ?_)
 rw [if_pos (by decide)]
 refine wpAny_bind (zfF hs pl pu ?_)
 have hno:¬ ((((sIx items.size 0 lo:Nat):Int) == 0 && (1:Int) == 1 && (sIx items.size items.size hi - sIx items.size 0 lo) == items.size)=true):=by
  intro q
  rw [Bool.and_eq_true,Bool.and_eq_true] at q
  have q1:((sIx items.size 0 lo:Nat):Int)=0:=eq_of_beq q.1.1
  have q2:sIx items.size items.size hi - sIx items.size 0 lo=items.size:=eq_of_beq q.2
  exact hw ⟨by omega,by omega⟩
 show wpAny _ _ (if (((sIx items.size 0 lo:Nat):Int) == 0 && (1:Int) == 1 && (sIx items.size items.size hi - sIx items.size 0 lo) == items.size)=true then _ else _) _ _ s
 rw [if_neg hno,znD]
 first
  | exact wpAny_bind (m:=Builtin.Tuple.tupleExact _) (wpAny_newObj_type (wpAny_pure ⟨_,rfl,wpAny_pure h⟩) htake)
  | exact wpAny_bind (m:=Builtin.Tuple.tupleExact _) (wpAny_newObj_type (wpAny_bind (wpAny_pure (wpAny_pure ⟨_,rfl,wpAny_pure h⟩))) htake)
  | exact wpAny_bind (wpAny_bind (m:=Builtin.Tuple.tupleExact _) (wpAny_newObj_type (wpAny_pure (wpAny_pure ⟨_,rfl,wpAny_pure h⟩)) htake))
  | exact wpAny_bind (wpAny_bind (m:=Builtin.Tuple.tupleExact _) (wpAny_newObj_type (wpAny_pure ⟨_,rfl,wpAny_pure h⟩) htake))
end
end HT
namespace L2
open PySem PySem.Spec PyProof.Rows
noncomputable abbrev TO:=St->Hp->(Option Int->Hp->Prop)->Prop
noncomputable def PO (X:Cx) (e:Option Expr) (t:TO):Prop:=
 ∀(pins:List (Addr × Obj)) (s:Shared) (σ:St) (H:Hp) (Q:Option Int->Hp->Prop),Inv X pins σ H s->t σ H Q ->
  wpAny (model X.prog X.w) X.A (evalPart e X.env) (fun u s'=>∃o H',Inv X pins σ H' s'/\IsPart u o/\Q o H') X.xe s
noncomputable def zpa:TO:=fun _ H Q=>Q none H
noncomputable def zsG (t:TE):TO:=fun σ H Q=>t σ H fun x H1=>∃i,x=.int i/\Q (some i) H1
theorem zfg {ns:List Int}:∀{us:List Value},Vals (ns.map V.int) us->IntsAre us ns:=by
 induction ns with
 | nil=>intro us r; rw [List.map_nil] at r; cases r; exact .nil
 | cons n ns ih=>
  intro us r
  rw [List.map_cons] at r
  cases r with
  | cons r1 r2=>
   obtain ⟨t,e⟩:=r1
   subst e
   exact .cons n t (ih r2)
section
variable {X:Cx} {e:Expr} {te:TE} {lo hi:Option Expr} {tl th:TO} {pos p2:Pos}
theorem zpC:PO X none zpa:=by
 intro pins s σ H Q I h
 rw [evalPart_none]
 exact wpAny_pure ⟨none,H,I,.none,h⟩
theorem zpB (h:PE X e te):PO X (some e) (zsG te):=by
 intro pins s σ H Q I hw
 rw [evalPart_some]
 refine thn (h pins s σ H _ I hw) fun u s1 ⟨x,H1,I1,r1,q1⟩=>?_
 obtain ⟨i,rfl,q⟩:=q1
 obtain ⟨t,rfl⟩:=r1
 exact ⟨some i,H1,I1,.int i t,q⟩
noncomputable def SlR (X:Cx) (r:V->Option Int->Option Int->Hp->VK->Prop):Prop:=
 ∀(pins:List (Addr × Obj)) (s:Shared) (σ:St) (H:Hp) (x:V) (v vl vu:Value) (lo hi:Option Int) (sl:Addr) (Q:VK),Inv X pins σ H s->RelV x v->s.heap.IsSliceOf sl vl vu .none->IsPart vl lo->IsPart vu hi->r x lo hi H Q ->
  ∃T id,typeLookup (.type T) "__getitem__" = pure (some (.builtin id))/\s.TypeIs v T/\wpAny (model X.prog X.w) X.A (getItem v (.ref sl)) (EP X pins σ Q) X.xe s
theorem SlR.or {r r':V->Option Int->Option Int->Hp->VK->Prop} (h:SlR X r) (h':SlR X r'):SlR X (fun x lo hi H Q=>r x lo hi H Q\/r' x lo hi H Q):=by
 intro pins s σ H x v vl vu lo hi sl Q I rx hs pl pu q
 rcases q with q | q
 ·exact h pins s σ H x v vl vu lo hi sl Q I rx hs pl pu q
 ·exact h' pins s σ H x v vl vu lo hi sl Q I rx hs pl pu q
noncomputable def tSl (r:V->Option Int->Option Int->Hp->VK->Prop) (te:TE) (tl th:TO):TE:=fun σ H Q=>te σ H fun x H1=>tl σ H1 fun l H2=>th σ H2 fun u H3=>r x l u H3 Q
theorem znE {r:V->Option Int->Option Int->Hp->VK->Prop} (hr:SlR X r) (he:PE X e te) (hl:PO X lo tl) (hu:PO X hi th):PE X (.Subscript e (.Slice lo hi none p2) pos) (tSl r te tl th):=by
 intro pins s σ H Q I h
 refine Subscript_ (thn (he pins s σ H _ I h) fun v s1 ⟨x,H1,I1,r1,q1⟩=>?_)
 refine wpAny_Slice (thn (hl pins s1 σ H1 _ I1 q1) fun vl s2 ⟨l,H2,I2,pl,q2⟩=>thn (hu pins s2 σ H2 _ I2 q2) fun vu s3 ⟨u,H3,I3,pu,q3⟩=>?_)
 rw [evalPart_none]
 refine wpAny_pure ?_
 have I4:Inv X pins σ H3 { s3 with heap:=s3.heap.push { cls:=.type "slice",data:=.fields #[vl,vu,.none] } }:=I3.kept (t':=s3.toks) fun b ob q=>Heap.get?_push_of_some _ q
 obtain ⟨T,id,hT,ht,hg⟩:=hr pins { s3 with heap:=s3.heap.push { cls:=.type "slice",data:=.fields #[vl,vu,.none] } } σ H3 x v vl vu l u s3.heap.objs.size Q I4 r1 (Heap.IsSliceOf.new ..) pl pu q3
 show wpAny (model X.prog X.w) X.A (subscriptTail e (.Slice lo hi none p2) v (.ref s3.heap.objs.size)) (EP X pins σ Q) X.xe { s3 with heap:=s3.heap.push { cls:=.type "slice",data:=.fields #[vl,vu,.none] } }
 exact tail_any (ops:=[.ref s3.heap.objs.size,v]) ht hT hg (by with_unfolding_all rfl)
noncomputable def cutV (xs:List V) (lo hi:Option Int):List V:=(xs.drop (HT.sIx xs.length 0 lo)).take (HT.sIx xs.length xs.length hi - HT.sIx xs.length 0 lo)
theorem zgo (xs:List V) (lo hi:Option Int):(cutV xs lo hi).length<=xs.length:=by
 unfold cutV
 rw [List.length_take,List.length_drop]
 omega
noncomputable def rSlT (K:PySem.W.Frag):V->Option Int->Option Int->Hp->VK->Prop:=fun x lo hi H Q=>∃a xs,x=.ref a/\SqT K H a xs /\
 ¬ (HT.sIx xs.length 0 lo=0/\HT.sIx xs.length xs.length hi=xs.length)/\∀p,H p=none->Q (.ref p) (upd H p (.tup (cutV xs lo hi)))
theorem zqM:SlR X (rSlT X.K):=by
 intro pins s σ H x v vl vu lo hi sl Q I rx hs pl pu h
 obtain ⟨a,xs,rfl,hx,hw,q⟩:=h
 cases rx
 obtain ⟨its,r,ht,hz⟩:=I.tuple hx
 have hlen:its.toArray.size=xs.length:=by rw [List.size_toArray]; exact r.length.symm
 refine ⟨"tuple",_,PyProof.Rows.slot_tuple_getitem.lookup,ht.typeIs,?_⟩
 refine HT.getItem_tuple_cut ht hs pl pu (by rw [hlen]; exact hw) ?_ (by rw [hlen]; exact hz)
 rw [hlen]
 refine ⟨.ref s.heap.objs.size,_,I.laid (t':=s.toks) (o:=.tup (cutV xs lo hi)) (fun b ob q=>Heap.get?_push_of_some _ q) (Nat.le_refl _) ?_,rfl,q _ (I.hok.fresh (Nat.le_refl _))⟩
 exact ⟨Nat.le_trans (zgo xs lo hi) hz,_,(r.drop (HT.sIx xs.length 0 lo)).take (HT.sIx xs.length xs.length hi - HT.sIx xs.length 0 lo),IsTup.new _ _,_,Heap.get?_push_size _ rfl,rfl⟩
noncomputable def zpt (K:PySem.W.Frag):R2:=fun x y H Q=>∃a b xs ys,x=.ref a/\y=.ref b/\SqT K H a xs/\SqT K H b ys/\xs≠[]/\xs.length + ys.length<=sizeLine /\
 (ys=[]->Q (.ref a) H)/\(ys≠[]->∀p,H p=none->Q (.ref p) (upd H p (.tup (xs++ys))))
theorem Vals.nil_iff {xs:List V} {us:List Value} (r:Vals xs us):us=[]↔xs=[]:=by
 cases r with
 | nil=>simp
 | cons _ _=>simp
theorem zl2:OpR X (binaryOp .Add) (zpt X.K):=by
 intro pins s σ H x y v u Q I rx ry h
 obtain ⟨a,b,xs,ys,rfl,rfl,ha,hb,hx,hz,q1,q2⟩:=h
 cases rx
 cases ry
 obtain ⟨its,r1,p1,_⟩:=I.tuple ha
 obtain ⟨its2,r2,p2,_⟩:=I.tuple hb
 refine HT.cat_tup p1 p2 (fun z=>hx (r1.nil_iff.mp z)) (fun z=>⟨.ref a,H,I,rfl,q1 (r2.nil_iff.mp z)⟩) (fun z=>?_) (by rw [<-r1.length,<-r2.length]; exact hz)
 refine ⟨.ref s.heap.objs.size,_,I.laid (t':=s.toks) (o:=.tup (xs++ys)) (fun b ob q=>Heap.get?_push_of_some _ q) (Nat.le_refl _) ?_,rfl,q2 (fun w=>z (r2.nil_iff.mpr w)) _ (I.hok.fresh (Nat.le_refl _))⟩
 exact ⟨by rw [List.length_append]; exact hz,_,r1.append r2,IsTup.new _ _,_,Heap.get?_push_size _ rfl,rfl⟩
end
end L2
namespace L2
open PySem PySem.Spec PyProof.Rows
noncomputable def ixN (n:Nat) (i:Int):Option Nat:=if 0<=i then (if i < n then some i.toNat else none) else if -(n:Int)<=i then some (i + n).toNat else none
noncomputable def atI {α:Type} (xs:List α) (i:Int):Option α:=(ixN xs.length i).bind fun j=>xs[j]?
theorem zmq {n:Nat} {i:Int} {j:Nat} (h:ixN n i=some j):seqIndex? i n=some j/\j < n/\-(n:Int)<=i/\i < n:=by
 unfold ixN at h
 by_cases h0:0<=i
 ·rw [if_pos h0] at h
  by_cases h1:i < n
  ·rw [if_pos h1] at h
   have e:i.toNat=j:=Option.some.inj h
   exact ⟨by rw [seqIndex_of h0 h1,e],by omega,by omega,h1⟩
  ·rw [if_neg h1] at h; cases h
 ·rw [if_neg h0] at h
  by_cases h1 : -(n:Int)<=i
  ·rw [if_pos h1] at h
   have e:(i + n).toNat=j:=Option.some.inj h
   exact ⟨by rw [seqIndex_neg (by omega) h1,e],by omega,h1,by omega⟩
  ·rw [if_neg h1] at h; cases h
theorem zjx {α:Type} {xs:List α} {i:Int} {v:α} (h:atI xs i=some v):∃j,seqIndex? i xs.length=some j/\xs[j]? = some v/\j < xs.length/\-(xs.length:Int)<=i/\i < xs.length:=by
 unfold atI at h
 cases e:ixN xs.length i with
 | none=>rw [e] at h; cases h
 | some j=>
  rw [e] at h
  obtain ⟨h1,h2,h3,h4⟩:=zmq e
  exact ⟨j,h1,h,h2,h3,h4⟩
noncomputable def zjA (b:Expr):Prop:=∀o i,subscripted b false o i=operate [o,i] (getItem o i)
noncomputable def IxR (X:Cx) (r:R2):Prop:=
 ∀(value slice:Expr) (pins:List (Addr × Obj)) (s:Shared) (σ:St) (H:Hp) (x y:V) (v u:Value) (Q:VK),Inv X pins σ H s->RelV x v->RelV y u->r x y H Q ->
  subscripted slice false v u=operate [v,u] (getItem v u)->wpAny (model X.prog X.w) X.A (subscriptTail value slice v u) (EP X pins σ Q) X.xe s
noncomputable def MtR (X:Cx) (id:String) (r:V->List V->Hp->VK->Prop):Prop:=
 ∀(pins:List (Addr × Obj)) (s:Shared) (σ:St) (H:Hp) (x:V) (xs:List V) (v:Value) (us:List Value) (Q:VK),Inv X pins σ H s->RelV x v->Vals xs us->r x xs H Q ->
  wpAny (model X.prog X.w) X.A (call (.builtin id) (v::us)) (EP X pins σ Q) X.xe s
section
variable {X:Cx} {a b:Expr} {ta tb:TE} {pos:Pos}
theorem IxR.or {r r':R2} (h:IxR X r) (h':IxR X r'):IxR X (fun x y H Q=>r x y H Q\/r' x y H Q):=by
 intro value slice pins s σ H x y v u Q I rx ry q hs
 rcases q with q | q
 ·exact h value slice pins s σ H x y v u Q I rx ry q hs
 ·exact h' value slice pins s σ H x y v u Q I rx ry q hs
theorem MtR.or {id:String} {r r':V->List V->Hp->VK->Prop} (h:MtR X id r) (h':MtR X id r'):MtR X id (fun x xs H Q=>r x xs H Q\/r' x xs H Q):=by
 intro pins s σ H x xs v us Q I rx rs q
 rcases q with q | q
 ·exact h pins s σ H x xs v us Q I rx rs q
 ·exact h' pins s σ H x xs v us Q I rx rs q
theorem zsZ {r:R2} (hr:IxR X r) (ha:PE X a ta) (hb:PE X b tb) (hs:zjA b):PE X (.Subscript a b pos) (tOp r ta tb):=by
 intro pins s σ H Q I h
 exact Subscript_ (binT ha hb I h fun v u s2 x y H2 I2 rx ry q=>hr a b pins s2 σ H2 x y v u Q I2 rx ry q (hs _ _))
noncomputable def rIxL (K:PySem.W.Frag):R2:=fun x y H Q=>∃p xs i v,x=.ref p/\y=.int i/\SqL K H p xs/\atI xs i=some v/\Q v H
noncomputable def rIxT (K:PySem.W.Frag):R2:=fun x y H Q=>∃p xs i v,x=.ref p/\y=.int i/\SqT K H p xs/\atI xs i=some v/\Q v H
noncomputable def rIxS:R2:=fun x y H Q=>∃z i c,x=.str z/\y=.int i/\z.length<=sizeLine/\atI z.cps.toList i=some c/\Q (.str ⟨#[c]⟩) H
theorem zqc:IxR X (rIxL X.K):=by
 intro value slice pins s σ H x y v u Q I rx ry h hs
 obtain ⟨p,xs,i,z,rfl,rfl,hq,he,q⟩:=h
 cases rx
 obtain ⟨t,rfl⟩:=ry
 obtain ⟨its,r,pl,hz⟩:=I.list hq
 obtain ⟨j,h1,h2,h3,h4,h5⟩:=zjx he
 obtain ⟨w,ew,rw'⟩:=r.get h2
 have hl:=r.length
 have hn:=zg0
 have fin:EP X pins σ Q w s:=⟨z,H,I,rw',q⟩
 by_cases h0:0<=i
 ·have hj:i.toNat=j:=by
   rw [seqIndex_of h0 h5] at h1
   exact Option.some.inj h1
  exact item_listR pl.isList h0 (by omega) (by rw [hj]; simpa using ew) fin hs
 ·have hj:(i + (its.toArray.size:Int)).toNat=j:=by
   rw [seqIndex_neg (by omega) h4] at h1
   rw [List.size_toArray,<-hl]
   exact Option.some.inj h1
  exact subscriptTail_builtinR (x:=w) pl.isList.typeIs slot_list_getitem.lookup
   (wpAny_getItem_list_neg (Q:=fun r s'=>r=w/\EP X pins σ Q r s') pl.isList (by omega) (by rw [List.size_toArray] <;> omega) (by omega) (by rw [hj]; simpa using ew) ⟨rfl,fin⟩) hs
theorem zrO:IxR X (rIxT X.K):=by
 intro value slice pins s σ H x y v u Q I rx ry h hs
 obtain ⟨p,xs,i,z,rfl,rfl,hq,he,q⟩:=h
 cases rx
 obtain ⟨t,rfl⟩:=ry
 obtain ⟨its,r,pl,hz⟩:=I.tuple hq
 obtain ⟨j,h1,h2,h3,h4,h5⟩:=zjx he
 obtain ⟨w,ew,rw'⟩:=r.get h2
 have hl:=r.length
 have hn:=zg0
 have fin:EP X pins σ Q w s:=⟨z,H,I,rw',q⟩
 exact subscriptTail_builtinR (x:=w) pl.typeIs slot_tuple_getitem.lookup
  (getItem_tuple (j:=j) (Q:=fun r s'=>r=w/\EP X pins σ Q r s') pl (by omega) (by omega) (by rw [List.size_toArray,<-hl]; exact h1) (by simpa using ew) ⟨rfl,fin⟩) hs
theorem zrP:IxR X rIxS:=by
 intro value slice pins s σ H x y v u Q I rx ry h hs
 obtain ⟨z,i,c,rfl,rfl,hz,he,q⟩:=h
 obtain ⟨t,rfl⟩:=rx
 obtain ⟨t',rfl⟩:=ry
 obtain ⟨j,h1,h2,h3,h4,h5⟩:=zjx he
 have hl:z.cps.toList.length=z.length:=by simp [Str.length]
 rw [hl] at h1 h4 h5
 have hn:=zg0
 exact tail_any (typeIs_str s z t) slot_str_getitem.lookup (getItem_str (c:=c) (by
  have e1:decide (i < -(2 ^ 63:Int))=false:=decide_eq_false (by omega)
  have e2:decide (i >= 2 ^ 63)=false:=decide_eq_false (by omega)
  rw [e1,e2,Bool.or_false]) (by rw [h1]; simpa using h2) ⟨.str ⟨#[c]⟩,H,I.tok _,⟨_,rfl⟩,q⟩) hs
noncomputable def rIx (K:PySem.W.Frag):R2:=fun x y H Q=>rIxL K x y H Q\/rIxT K x y H Q\/rIxS x y H Q
theorem zrQ:IxR X (rIx X.K):=zqc.or (zrO.or zrP)
theorem zkP (its:List Value) (n j:Nat) (u:Value):Obj.mapSeq (·.setIfInBounds j u) { cls:=.type "list",data:=.seq its.toArray n }={ cls:=.type "list",data:=.seq (its.set j u).toArray n }:=by
 simp [Obj.mapSeq]
theorem Inv.lst {pins:List (Addr × Obj)} {σ:St} {H:Hp} {s:Shared} {p:Addr} {xs:List V} (I:Inv X pins σ H s) (h:H p=some (.lst xs)) :
  ∃(its:List Value) (n:Nat),Vals xs its/\s.heap.get? p=some { cls:=.type "list",data:=.seq its.toArray n }/\xs.length<=sizeLine:=by
 obtain ⟨z,its,n,r,e⟩:=I.hok p _ h
 exact ⟨its,n,r,e,z⟩
theorem Inv.lstUpd {pins:List (Addr × Obj)} {σ:St} {H:Hp} {s:Shared} {p:Addr} {xs ys:List V} {its its':List Value} {n n':Nat} {f:Obj->Obj} (I:Inv X pins σ H s) (h:H p=some (.lst xs))
  (ho:s.heap.get? p=some { cls:=.type "list",data:=.seq its.toArray n }) (hf:f { cls:=.type "list",data:=.seq its.toArray n }={ cls:=.type "list",data:=.seq its'.toArray n' }) (r:Vals ys its') (hz:ys.length<=sizeLine) (t:Nat) :
  Inv X pins σ (upd H p (.lst ys)) { s with heap:=s.heap.update p f,toks:=t }:=by
 have e:(s.heap.update p f).get? p=some { cls:=.type "list",data:=.seq its'.toArray n' }:=by
  rw [Heap.get?_update_self f ho (by rw [hf] <;> rfl),hf]
 refine I.write (x:=p) (e:=p) (by rw [h]; trivial) (.inl rfl) (fun b u hb q=>(Heap.get?_update_other _ _ (Ne.symm hb)).trans q) ⟨_,e⟩ ?_
 exact ⟨hz,its',n',r,e⟩
noncomputable def zq2:V->V->V->Hp->(Hp->Prop)->Prop:=fun o i v H Q=>∃p xs k j,o=.ref p/\i=.int k/\H p=some (.lst xs)/\ixN xs.length k=some j/\Q (upd H p (.lst (xs.set j v)))
theorem zhq:PSet X zq2:=by
 intro pins s σ H o i v ov iv u Q I ro ri rv h
 obtain ⟨p,xs,k,j,rfl,rfl,hp,hj,q⟩:=h
 cases ro
 obtain ⟨t,rfl⟩:=ri
 obtain ⟨its,n,r,ho,hz⟩:=I.lst hp
 obtain ⟨h1,h2,h3,h4⟩:=zmq hj
 have hl:=r.length
 have hn:=zg0
 have I':Inv X pins σ (upd H p (.lst (xs.set j v))) { s with heap:=s.heap.update p (Obj.mapSeq (·.setIfInBounds j u)) }:=
  I.lstUpd hp ho (zkP its n j u) (r.set rv j) (by rw [List.length_set]; exact hz) s.toks
 by_cases h0:0<=k
 ·have hk:k.toNat=j:=by
   rw [seqIndex_of h0 h4] at h1
   exact Option.some.inj h1
  exact PySem.W.ki_setAt ho h0 (by omega) (by rw [List.size_toArray,<-hl]; exact h4) (by rw [hk]; exact ⟨_,I',q⟩)
 ·have hk:(k + (its.toArray.size:Int)).toNat=j:=by
   rw [seqIndex_neg (by omega) h3] at h1
   rw [List.size_toArray,<-hl]
   exact Option.some.inj h1
  exact PySem.W.ki_setBack ho (by omega) (by rw [List.size_toArray,<-hl]; exact h3) (by omega) (by rw [hk]; exact ⟨_,I',q⟩)
theorem zh5 (lo hi:Option Int) (n:Nat):(sliceBounds lo hi none n).1=((HT.sIx n 0 lo:Nat):Int)/\(sliceBounds lo hi none n).2.1=((HT.sIx n n hi:Nat):Int)/\(sliceBounds lo hi none n).2.2=1:=by
 refine ⟨?_,?_,rfl⟩
 ·cases lo with
  | none=>simp [sliceBounds,HT.sIx]
  | some i=>
   simp only [sliceBounds,HT.sIx,Option.getD_none,show (1:Int) > 0 by decide,if_true]
   by_cases h:i < 0
   ·simp only [h,if_true] <;> omega
   ·simp only [h,if_false] <;> omega
 ·cases hi with
  | none=>simp [sliceBounds,HT.sIx]
  | some i=>
   simp only [sliceBounds,HT.sIx,Option.getD_none,show (1:Int) > 0 by decide,if_true]
   by_cases h:i < 0
   ·simp only [h,if_true] <;> omega
   ·simp only [h,if_false] <;> omega
theorem zhn (its:List Value) (lo hi:Option Int):slicePick its.toArray lo hi none=((its.drop (HT.sIx its.length 0 lo)).take (HT.sIx its.length its.length hi - HT.sIx its.length 0 lo)).toArray:=by
 obtain ⟨h1,h2,h3⟩:=zh5 lo hi its.toArray.size
 unfold slicePick
 rw [h1,h2,h3]
 simp only [sliceRange_one,pick_run,List.size_toArray] <;> rfl
noncomputable def rSlL (K:PySem.W.Frag):V->Option Int->Option Int->Hp->VK->Prop:=fun x lo hi H Q=>∃a xs,x=.ref a/\SqL K H a xs/\∀p,H p=none->Q (.ref p) (upd H p (.lst (cutV xs lo hi)))
theorem zpc:SlR X (rSlL X.K):=by
 intro pins s σ H x v vl vu lo hi sl Q I rx hs pl pu h
 obtain ⟨a,xs,rfl,hx,q⟩:=h
 cases rx
 obtain ⟨its,r,ht,hz⟩:=I.list hx
 have hlen:=r.length
 refine ⟨"list",_,slot_list_getitem.lookup,ht.isList.typeIs,?_⟩
 refine wpAny_getItem_list_slice ht.isList hs pl pu .none (by simp) ?_ (by rw [List.size_toArray] <;> omega)
 rw [zhn,<-hlen]
 refine ⟨.ref s.heap.objs.size,_,I.laid (t':=s.toks) (o:=.lst (cutV xs lo hi)) (fun b ob q=>Heap.get?_push_of_some _ q) (Nat.le_refl _) ?_,rfl,q _ (I.hok.fresh (Nat.le_refl _))⟩
 exact ⟨Nat.le_trans (zgo xs lo hi) hz,_,0,(r.drop (HT.sIx xs.length 0 lo)).take (HT.sIx xs.length xs.length hi - HT.sIx xs.length 0 lo),Heap.get?_push_size _ rfl⟩
noncomputable def zdF:V->Bool
 | .non=>true
 | .bl _=>true
 | .int _=>true
 | .str _=>true
 | _=>false
noncomputable def eqV:V->V->Bool
 | .non,.non=>true
 | .bl a,.bl b=>a == b
 | .bl a,.int b=>(if a then 1 else 0) == b
 | .int a,.bl b=>a == (if b then 1 else 0)
 | .int a,.int b=>a == b
 | .str a,.str b=>a == b
 | _,_=>false
theorem zsk {A:Around} {s:Shared} {y x:V} {u v:Value} (ry:RelV y u) (rx:RelV x v) (fy:zdF y=true) (fx:zdF x=true):SeqAt.EqAt A s u v (eqV y x):=by
 cases y with
 | non=>
  cases ry
  cases x with
  | non=>cases rx; exact SeqAt.EqAt.same _
  | bl b=>cases rx; exact SeqAt.EqAt.none_bool b
  | int b=>obtain ⟨t,rfl⟩:=rx; exact SeqAt.EqAt.none_int b t
  | str b=>obtain ⟨t,rfl⟩:=rx; exact SeqAt.EqAt.none_str b t
  | _=>exact absurd (show false=true from fx) Bool.false_ne_true
 | bl a=>
  cases ry
  cases x with
  | non=>cases rx; exact SeqAt.EqAt.bool_none a
  | bl b=>cases rx; exact SeqAt.EqAt.bool_bool a b
  | int b=>obtain ⟨t,rfl⟩:=rx; exact SeqAt.EqAt.bool_int a b t
  | str b=>obtain ⟨t,rfl⟩:=rx; exact SeqAt.EqAt.bool_str a b t
  | _=>exact absurd (show false=true from fx) Bool.false_ne_true
 | int a=>
  obtain ⟨t',rfl⟩:=ry
  cases x with
  | non=>cases rx; exact SeqAt.EqAt.int_none a t'
  | bl b=>cases rx; exact SeqAt.EqAt.int_bool a t' b
  | int b=>obtain ⟨t,rfl⟩:=rx; exact SeqAt.EqAt.int_int a t' b t
  | str b=>obtain ⟨t,rfl⟩:=rx; exact SeqAt.EqAt.int_str a t' b t
  | _=>exact absurd (show false=true from fx) Bool.false_ne_true
 | str a=>
  obtain ⟨t',rfl⟩:=ry
  cases x with
  | non=>cases rx; exact SeqAt.EqAt.str_none a t'
  | bl b=>cases rx; exact SeqAt.EqAt.str_bool a t' b
  | int b=>obtain ⟨t,rfl⟩:=rx; exact SeqAt.EqAt.str_int a t' b t
  | str b=>obtain ⟨t,rfl⟩:=rx; exact SeqAt.EqAt.str_str a t' b t
  | _=>exact absurd (show false=true from fx) Bool.false_ne_true
 | _=>exact absurd (show false=true from fy) Bool.false_ne_true
noncomputable def eqU (x:V) (u:Value):Bool:=match u with
 | .none=>eqV .non x
 | .bool b=>eqV (.bl b) x
 | .int i _=>eqV (.int i) x
 | .str z _=>eqV (.str z) x
 | _=>false
theorem zkh {x y:V} {u:Value} (r:RelV y u) (f:zdF y=true):eqU x u=eqV y x:=by
 cases y with
 | non=>cases r; rfl
 | bl b=>cases r; rfl
 | int i=>obtain ⟨t,rfl⟩:=r; rfl
 | str z=>obtain ⟨t,rfl⟩:=r; rfl
 | _=>exact absurd (show false=true from f) Bool.false_ne_true
theorem zgt {x:V}:∀{xs:List V} {us:List Value},Vals xs us->xs.all zdF=true->us.any (eqU x)=xs.any fun y=>eqV y x
 | _,_,.nil,_=>rfl
 | y::xs,u::us,.cons r t,f=>by
  rw [List.all_cons,Bool.and_eq_true] at f
  rw [List.any_cons,List.any_cons,zkh r f.1,zgt t f.2]
theorem zdg {A:Around} {s:Shared} {x:V} {v:Value} (rx:RelV x v) (fx:zdF x=true):∀{xs:List V} {us:List Value},Vals xs us->xs.all zdF=true->∀u∈us,SeqAt.EqAt A s u v (eqU x u)
 | _,_,.nil,_=>fun u hu=>by cases hu
 | y::xs,u::us,.cons r t,f=>fun u' hu=>by
  rw [List.all_cons,Bool.and_eq_true] at f
  rcases List.mem_cons.mp hu with rfl | hu
  ·rw [zkh r f.1]; exact zsk r rx f.1 fx
  ·exact zdg rx fx t f.2 u' hu
noncomputable def inV (x:V) (xs:List V):Bool:=xs.any fun y=>eqV y x
noncomputable def rIn (K:PySem.W.Frag) (neg:Bool):R2:=fun x y H Q=>∃p xs,y=.ref p/\(SqL K H p xs\/SqT K H p xs)/\zdF x=true/\xs.all zdF=true/\Q (.bl (if neg then ! inV x xs else inV x xs)) H
theorem zl1:OpR X (compareOp .In) (rIn X.K false):=by
 intro pins s σ H x y v u Q I rx ry h
 obtain ⟨p,xs,rfl,hq,fx,fs,q⟩:=h
 cases ry
 rcases hq with hq | hq
 ·obtain ⟨its,r,pl,hz⟩:=I.list hq
  refine SeqAt.in_listAt (eqU x) pl.isList (fun w hw=>zdg rx fx r fs w (by simpa using hw)) ⟨.bl _,H,I,rfl,?_⟩
  rw [show its.toArray.any (eqU x)=its.any (eqU x) by simp,zgt r fs]
  exact q
 ·obtain ⟨its,r,pl,hz⟩:=I.tuple hq
  refine SeqAt.in_tupleAt (eqU x) pl (fun w hw=>zdg rx fx r fs w (by simpa using hw)) ⟨.bl _,H,I,rfl,?_⟩
  rw [show its.toArray.any (eqU x)=its.any (eqU x) by simp,zgt r fs]
  exact q
theorem zij:OpR X (compareOp .NotIn) (rIn X.K true):=by
 intro pins s σ H x y v u Q I rx ry h
 obtain ⟨p,xs,rfl,hq,fx,fs,q⟩:=h
 cases ry
 rcases hq with hq | hq
 ·obtain ⟨its,r,pl,hz⟩:=I.list hq
  refine SeqAt.notIn_listAt (eqU x) pl.isList (fun w hw=>zdg rx fx r fs w (by simpa using hw)) ⟨.bl _,H,I,rfl,?_⟩
  rw [show its.toArray.any (eqU x)=its.any (eqU x) by simp,zgt r fs]
  exact q
 ·obtain ⟨its,r,pl,hz⟩:=I.tuple hq
  refine SeqAt.notIn_tupleAt (eqU x) pl (fun w hw=>zdg rx fx r fs w (by simpa using hw)) ⟨.bl _,H,I,rfl,?_⟩
  rw [show its.toArray.any (eqU x)=its.any (eqU x) by simp,zgt r fs]
  exact q
theorem zii:OpR X (compareOp .NotIn) (fun x y H Q=>∃i j,x=.str i/\y=.str j/\Q (.bl (!(!(Builtin.Str.occurrences j i 0 j.length 1).isEmpty))) H):=by
 intro pins s σ H x y v u Q I rx ry h
 obtain ⟨i,j,rfl,rfl,q⟩:=h
 obtain ⟨t,rfl⟩:=rx
 obtain ⟨t',rfl⟩:=ry
 exact notIn_str ⟨.bl _,H,I,rfl,q⟩
theorem zcK.or {f:Value} {r r':List V->Hp->VK->Prop} (h:zcK X f r) (h':zcK X f r'):zcK X f (fun xs H Q=>r xs H Q\/r' xs H Q):=by
 intro pins s σ H xs us Q I rs q
 rcases q with q | q
 ·exact h pins s σ H xs us Q I rs q
 ·exact h' pins s σ H xs us Q I rs q
theorem ziG:zcK X (.type "list") (fun xs H Q=>∃p ys,xs=[.ref p]/\(SqL X.K H p ys\/SqT X.K H p ys)/\∀l,H l=none->Q (.ref l) (upd H l (.lst ys))):=by
 intro pins s σ H xs us Q I r h
 obtain ⟨p,ys,rfl,hq,q⟩:=h
 obtain ⟨u,rfl,rx⟩:=vals1 r
 cases rx
 have fin:∀(its:List Value),Vals ys its->ys.length<=sizeLine->∀(h':Heap) (c':Nat),(∀b o',s.heap.get? b=some o'->h'.get? b=some o') ->
   h'.get? s.heap.objs.size=some { cls:=.type "list",dict:=none,data:=.seq its.toArray c',slots:=#[] }->EP X pins σ Q (.ref s.heap.objs.size) { s with heap:=h' }:=fun its r' hz h' c' kp e=>
  ⟨.ref s.heap.objs.size,_,I.laid (t':=s.toks) kp (Nat.le_refl _) (show za9 X.prog X.w _ h' _ (.lst ys) from ⟨hz,its,c',r',e⟩),rfl,q _ (I.hok.fresh (Nat.le_refl _))⟩
 rcases hq with hq | hq
 ·obtain ⟨its,r',pl,hz⟩:=I.list hq
  have hlen:=r'.length
  obtain ⟨o,ho,hc,n,hd⟩:=pl.isList
  exact call_list_seq p (.inl rfl) ho hc hd (fun h' c' kp e=>fin its r' hz h' c' kp e) (by simp only [List.size_toArray] <;> omega)
 ·obtain ⟨its,r',pl,hz⟩:=I.tuple hq
  have hlen:=r'.length
  obtain ⟨o,ho,hc,n,hd⟩:=pl
  exact call_list_seq p (.inr rfl) ho hc hd (fun h' c' kp e=>fin its r' hz h' c' kp e) (by simp only [List.size_toArray] <;> omega)
theorem zhS:zcK X (.type "tuple") (fun xs H Q=>∃p ys,xs=[.ref p]/\((SqL X.K H p ys/\∀l,H l=none->Q (.ref l) (upd H l (.tup ys)))\/(SqT X.K H p ys/\Q (.ref p) H))):=by
 intro pins s σ H xs us Q I r h
 obtain ⟨p,ys,rfl,h⟩:=h
 obtain ⟨u,rfl,rx⟩:=vals1 r
 cases rx
 rcases h with ⟨hq,q⟩ | ⟨hq,q⟩
 ·obtain ⟨its,r',pl,hz⟩:=I.list hq
  have hlen:=r'.length
  refine call_tuple_list pl.isList (fun h' kp=>?_) (by simp only [List.size_toArray] <;> omega)
  have I1:Inv X pins σ H { s with heap:=h' }:=I.kept (t':=s.toks) kp
  have I2:Inv X pins σ (upd H h'.objs.size (.tup ys)) { s with heap:=h'.push { cls:=.type "tuple",data:=.seq its.toArray } }:=
   I1.laid (t':=s.toks) (fun b o e=>Heap.get?_push_of_some _ e) (Nat.le_refl _) (show za9 X.prog X.w _ _ _ (.tup ys) from ⟨hz,its,r',IsTup.new _ _,_,Heap.get?_push_size _ rfl,rfl⟩)
  exact ⟨.ref h'.objs.size,_,I2,rfl,q _ (I1.hok.fresh (Nat.le_refl _))⟩
 ·obtain ⟨its,r',pl,hz⟩:=I.tuple hq
  exact call_tuple_same pl ⟨.ref p,H,I,rfl,q⟩
noncomputable def tyV (K:PySem.W.Frag) (T:String) (x:V) (H:Hp):Prop:=match x with
 | .str _=>T = "str"
 | .int _=>T = "int"
 | .ref p=>(T = "list"/\∃xs,SqL K H p xs)\/(T = "tuple"/\((∃o,K.lookup p=some o/\o.cls=.type "tuple"/\o.dict=none)\/∃xs,Rd H p (.tup xs))) \/
   (T = "dict"/\((∃kvs,Rd H p (.dK kvs))\/∃kvs,H p=some (.dT kvs)))\/(T = "set"/\∃S n,H p=some (.set S n))
 | _=>False
theorem zos {pins:List (Addr × Obj)} {σ:St} {H:Hp} {s:Shared} {T:String} {x:V} {v:Value} (I:Inv X pins σ H s) (r:RelV x v) (ty:tyV X.K T x H) :
  s.TypeIs v T/\∀a,v=.ref a->∃ob,s.heap.get? a=some ob/\ob.dict=none:=by
 cases x with
 | str z=>
  obtain ⟨t,rfl⟩:=r
  cases (show T = "str" from ty)
  exact ⟨typeIs_str s z t,fun _ e=>nomatch e⟩
 | int i=>
  obtain ⟨t,rfl⟩:=r
  cases (show T = "int" from ty)
  exact ⟨typeIs_int s i t,fun _ e=>nomatch e⟩
 | ref p=>
  cases r
  rcases ty with ⟨rfl,xs,hq⟩ | ⟨rfl,⟨o,hk,hc,hd⟩ | ⟨xs,hq⟩⟩ | ⟨rfl,hk⟩ | ⟨rfl,S,n,hk⟩
  ·obtain ⟨its,_,pl,_⟩:=I.list hq
   refine ⟨pl.isList.typeIs,fun a e=>?_⟩
   cases e
   obtain ⟨o,n,e,c,hd,_⟩:=pl
   exact ⟨o,e,hd⟩
  ·refine ⟨⟨o,I.kIn p o hk,hc⟩,fun a e=>?_⟩
   cases e
   exact ⟨o,I.kIn _ o hk,hd⟩
  ·obtain ⟨_,its,_,⟨o,ho,hc,_⟩,o2,ho2,hd2⟩:=hq.ok I.hok
   refine ⟨⟨o,ho,hc⟩,fun a e=>?_⟩
   cases e
   exact ⟨o2,ho2,hd2⟩
  ·have z:∃o,s.heap.get? p=some o/\o.ExactDict:=by
    rcases hk with ⟨kvs,hk⟩ | ⟨kvs,hk⟩
    ·obtain ⟨_,_,_,_,o,_,_,e,ex,_⟩:=(show za9 X.prog X.w H s.heap p (.dK kvs) from hk.ok I.hok)
     exact ⟨o,e,ex⟩
    ·obtain ⟨_,_,_,_,o,_,_,e,ex,_⟩:=I.hok p _ hk
     exact ⟨o,e,ex⟩
   obtain ⟨o,e,ex⟩:=z
   refine ⟨⟨o,e,ex.1⟩,fun a e2=>?_⟩
   cases e2
   exact ⟨o,e,ex.2.1⟩
  ·obtain ⟨o,_,_,_,e,ex,_⟩:=I.hok p _ hk
   refine ⟨⟨o,e,ex.1⟩,fun a e2=>?_⟩
   cases e2
   exact ⟨o,e,ex.2.1⟩
 | _=>exact False.elim ty
noncomputable def tBM0 (K:PySem.W.Frag) (T:String) (r:V->List V->Hp->VK->Prop) (to:TE):TE:=fun σ H Q=>to σ H fun x H1=>tyV K T x H1/\r x [] H1 Q
noncomputable def tBM (K:PySem.W.Frag) (T:String) (r:V->List V->Hp->VK->Prop) (to:TE) (t:TA):TE:=fun σ H Q=>to σ H fun x H1=>tyV K T x H1/\t σ H1 fun xs H2=>r x xs H2 Q
variable {o e:Expr} {es:List Expr} {to:TE} {t:TA} {name:Str} {apos cpos:Pos} {T id:String} {r:V->List V->Hp->VK->Prop}
theorem zrj (pa:PlainAttrs T) (slot:Slot T name id) (hty:typeOf (.builtin id)=pure (.type "method_descriptor")) (hm:MtR X id r) (ho:PE X o to)
  (hbase:attributeBase o name X.env (eval o X.env)=eval o X.env:=by rfl) (hline:(apos.endLine == cpos.line)=true:=by rfl):PE X (.Call (.Attribute o name apos) [] [] cpos) (tBM0 X.K T r to):=by
 intro pins s σ H Q I h
 refine wpAny_Call_method0_late hbase hline (thn (ho pins s σ H _ I h) fun v s1 ⟨x,H1,I1,r1,ty,q1⟩=>?_)
 obtain ⟨h1,h2⟩:=zos I1 r1 ty
 exact ⟨T,id,pa,slot,hty,h1,h2,Calls.callWith_builtin rfl (PySem.evalArgs_none (hm pins s1 σ H1 x [] v [] Q I1 r1 .nil q1))⟩
theorem zrk (pa:PlainAttrs T) (slot:Slot T name id) (hty:typeOf (.builtin id)=pure (.type "method_descriptor")) (hm:MtR X id r) (ho:PE X o to) (ha:PA X (e::es) t)
  (hbase:attributeBase o name X.env (eval o X.env)=eval o X.env:=by rfl)
  (hfew:((backTo cpos (starEach (e::es) X.env)).all (fun x=>! x.1) && (backToKw cpos (keywordEach [] X.env)).all (fun x=>x.1.isSome)
   && decide ((e::es).length + ([]:List Keyword).length + (if ([]:List Keyword).isEmpty then 0 else 1) < 30))=true:=by rfl)
  (hline:(apos.endLine == cpos.line)=true:=by rfl) (hs:starEach (e::es) X.env=(false,eval e X.env)::starEach es X.env:=by rfl) (hplain:(backTo cpos (starEach es X.env)).any (·.1)=false:=by rfl) :
  PE X (.Call (.Attribute o name apos) (e::es) [] cpos) (tBM X.K T r to t):=by
 intro pins s σ H Q I h
 refine wpAny_Call_method_late hbase hfew hline rfl (thn (ho pins s σ H _ I h) fun v s1 ⟨x,H1,I1,r1,ty,q1⟩=>?_)
 obtain ⟨h1,h2⟩:=zos I1 r1 ty
 refine ⟨T,id,pa,slot,hty,h1,h2,?_⟩
 have hA:=ha cpos pins s1 σ H1 _ I1 q1
 rw [hs] at hA ⊢
 refine Calls.callWith_builtin (by show (false || (backTo cpos (starEach es X.env)).any (·.1))=false; rw [hplain] <;> rfl) (Calls.evalArgs_plain ?_)
 exact thn hA fun us s2 ⟨vs,H2,I2,r2,q2⟩=>hm pins s2 σ H2 x vs v us Q I2 r1 r2 q2
end
end L2
namespace L2
open PySem PySem.Spec PyProof.Rows
noncomputable def MtM (X:Cx) (id:String) (r:V->List V->Hp->VK->Prop):Prop:=
 ∀(pins:List (Addr × Obj)) (s:Shared) (σ:St) (H:Hp) (x:V) (xs:List V) (v:Value) (us:List Value) (Q:VK),Inv X pins σ H s->RelV x v->Vals xs us->r x xs H Q ->
  wpAny (model X.prog X.w) X.A (call (.builtin id) (v::us)) (EP X pins σ Q) X.xe s
theorem Vals.one {x:V} {us:List Value} (h:Vals [x] us):∃u,us=[u]/\RelV x u:=by
 cases h with
 | cons r t=>cases t; exact ⟨_,rfl,r⟩
theorem Vals.zero:∀{us:List Value},Vals [] us->us=[]
 | _,.nil=>rfl
theorem Vals.eraseIdx:∀{xs:List V} {us:List Value} (i:Nat),Vals xs us->Vals (xs.eraseIdx i) (us.eraseIdx i)
 | _,_,_,.nil=>.nil
 | _,_,0,.cons _ t=>t
 | _,_,i + 1,.cons r t=>.cons r (Vals.eraseIdx i t)
theorem Vals.reverse {xs:List V} {us:List Value} (h:Vals xs us):Vals xs.reverse us.reverse:=by
 induction h with
 | nil=>exact .nil
 | cons r t ih=>rw [List.reverse_cons,List.reverse_cons]; exact Vals.append ih (.cons r .nil)
section
variable {X:Cx} {pins:List (Addr × Obj)} {σ:St} {H:Hp} {s:Shared} {l b:Addr} {xs ys zs:List V}
theorem Inv.lset {its its':List Value} {n:Nat} {f:Array Value->Array Value} {t':Nat} (I:Inv X pins σ H s) (hH:H l=some (.lst xs))
  (e:s.heap.get? l=some { cls:=.type "list",data:=.seq its.toArray n }) (hf:f its.toArray=its'.toArray) (hv:Vals ys its') (hz:ys.length<=sizeLine) :
  Inv X pins σ (upd H l (.lst ys)) { s with heap:=s.heap.update l (Obj.mapSeq f),toks:=t' }:=by
 have q:=PySem.IsL.update e f
 rw [hf] at q
 refine I.write (x:=l) (e:=l) (by rw [hH]; exact trivial) (.inl rfl) (fun b' u hb hu=>(Heap.get?_update_other s.heap (Obj.mapSeq f) (Ne.symm hb)).trans hu) ⟨_,q⟩ ?_
 exact ⟨hz,its',_,hv,q⟩
theorem Inv.lnew {its:List Value} {t':Nat} (I:Inv X pins σ H s) (hv:Vals ys its) (hz:ys.length<=sizeLine) :
  Inv X pins σ (upd H s.heap.objs.size (.lst ys)) { s with heap:=s.heap.push { cls:=.type "list",data:=.seq its.toArray },toks:=t' }:=
 I.laid (fun _ _ q=>Heap.get?_push_of_some _ q) (Nat.le_refl _) ⟨hz,its,0,hv,Heap.get?_push_size _ rfl⟩
theorem Inv.fresh (I:Inv X pins σ H s):H s.heap.objs.size=none:=I.hok.fresh (Nat.le_refl _)
theorem Inv.lstM (I:Inv X pins σ H s) (hH:H l=some (.lst xs)):xs.length<=sizeLine/\∃(its:List Value) (n:Nat),Vals xs its/\xs.length=its.length/\s.heap.get? l=some { cls:=.type "list",data:=.seq its.toArray n }:=by
 obtain ⟨z,its,n,r,e⟩:=I.hok l _ hH
 exact ⟨z,its,n,r,r.length,e⟩
end
section
variable {X:Cx}
noncomputable def zlI:V->List V->Hp->VK->Prop:=fun x vs H Q=>∃l xs y,x=.ref l/\vs=[y]/\H l=some (.lst xs)/\xs.length < sizeLine/\Q .non (upd H l (.lst (xs++[y])))
theorem zce:MtM X "list.append" zlI:=by
 intro pins s σ H x vs v us Q I rx rv h
 obtain ⟨l,xs,y,rfl,rfl,hH,hz,q⟩:=h
 cases rx
 obtain ⟨u,rfl,ru⟩:=rv.one
 obtain ⟨z,its,n,r,hl,e⟩:=I.lstM hH
 refine call_meets F.slot_list_append ⟨_,e,rfl⟩ F.entry_list_append (F.args_list_append_2 _ _) (PySem.list_append l its.toArray n u (by rw [List.size_toArray]; omega)) ⟨e,?_⟩
 refine ⟨.non,_,I.lset (its':=its++[u]) hH e (by simp) (r.append (.cons ru .nil)) ?_,rfl,q⟩
 rw [List.length_append,List.length_singleton]
 omega
end
section
variable {prog:Program} {w:World} {A:Around} {E:Value->Shared->Prop} {s:Shared}
end
section
variable {X:Cx}
end
end L2
namespace L2
open PySem PySem.Spec PyProof.Rows
section
variable {κ:Type} [DecidableEq κ]
noncomputable def valV (kvs:List (κ × V)) (k:κ):Option V:=(kvs.find? fun kv=>decide (kv.1=k)).map (·.2)
noncomputable def putK (kvs:List (κ × V)) (k:κ) (v:V):List (κ × V):=
 if (kvs.any fun kv=>decide (kv.1=k))=true then kvs.map (fun kv=>if kv.1=k then (kv.1,v) else kv) else kvs++[(k,v)]
noncomputable def zsl (kvs:List (κ × V)) (k:κ):List (κ × V):=kvs.filter fun kv=>decide (kv.1≠k)
theorem zfK {p:κ × V} {r:List (κ × V)} {k:κ} (e:p.1=k):valV (p::r) k=some p.2:=by simp [valV,List.find?_cons,e]
theorem zeC {p:κ × V} {r:List (κ × V)} {k:κ} (e:¬ p.1=k):valV (p::r) k=valV r k:=by simp [valV,List.find?_cons,e]
theorem zjG (k:κ):∀kvs:List (κ × V),(kvs.any fun kv=>decide (kv.1=k))=(valV kvs k).isSome
 | []=>rfl
 | p::r=>by
  rw [List.any_cons]
  by_cases e:p.1=k
  ·simp only [zfK e,decide_eq_true e,Bool.true_or,Option.isSome_some]
  ·rw [zeC e,decide_eq_false e,Bool.false_or]; exact zjG k r
theorem zen (kvs:List (κ × V)) (k:κ) (v:V):(putK kvs k v).length<=kvs.length + 1:=by
 unfold putK
 split
 ·rw [List.length_map]; omega
 ·rw [List.length_append,List.length_cons,List.length_nil]; omega
theorem RelO.isSome_eq {o:Option V} {u:Option Value} (r:RelO o u):o.isSome=u.isSome:=by
 cases o with
 | none=>cases u with
  | none=>rfl
  | some _=>exact (show False from r).elim
 | some _=>cases u with
  | none=>exact (show False from r).elim
  | some _=>rfl
theorem RelO.getD {o:Option V} {u:Option Value} {d:V} {d':Value} (r:RelO o u) (rd:RelV d d'):RelV (o.getD d) (u.getD d'):=by
 cases o with
 | none=>cases u with
  | none=>exact rd
  | some _=>exact (show False from r).elim
 | some _=>cases u with
  | none=>exact (show False from r).elim
  | some _=>exact r
theorem KV.val {kvs:List (κ × V)} {vs:List (κ × Value)} (r:KV kvs vs) (k:κ):RelO (valV kvs k) (valueAt vs k):=by
 unfold KV at r
 induction r with
 | nil=>exact True.intro
 | @cons p q ps qs h t ih=>
  obtain ⟨h1,h2⟩:=h
  by_cases e:p.1=k
  ·have e':q.1=k:=h1.symm.trans e
   have b:valueAt (q::qs) k=some q.2:=by simp [valueAt,List.find?_cons,e']
   rw [zfK e,b]; exact h2
  ·have e':¬ q.1=k:=fun z=>e (h1.trans z)
   have b:valueAt (q::qs) k=valueAt qs k:=by simp [valueAt,List.find?_cons,e']
   rw [zeC e,b]; exact ih
theorem KV.any {kvs:List (κ × V)} {vs:List (κ × Value)} (r:KV kvs vs) (k:κ):(kvs.any fun kv=>decide (kv.1=k))=vs.any fun kv=>decide (kv.1=k):=by
 unfold KV at r
 induction r with
 | nil=>rfl
 | cons h t ih=>rw [List.any_cons,List.any_cons,ih,h.1]
theorem KV.repl {kvs:List (κ × V)} {vs:List (κ × Value)} (r:KV kvs vs) (k:κ) {y:V} {u:Value} (ry:RelV y u) :
  KV (kvs.map fun kv=>if kv.1=k then (kv.1,y) else kv) (vs.map fun kv=>if kv.1=k then (kv.1,u) else kv):=by
 unfold KV at r ⊢
 induction r with
 | nil=>exact .nil
 | @cons p q ps qs h t ih=>
  rw [List.map_cons,List.map_cons]
  refine .cons ?_ ih
  obtain ⟨h1,h2⟩:=h
  by_cases e:p.1=k
  ·rw [if_pos e,if_pos (h1.symm.trans e)]; exact ⟨h1,ry⟩
  ·rw [if_neg e,if_neg (fun z=>e (h1.trans z))]; exact ⟨h1,h2⟩
theorem KV.put {kvs:List (κ × V)} {vs:List (κ × Value)} (r:KV kvs vs) (k:κ) {y:V} {u:Value} (ry:RelV y u):KV (putK kvs k y) (stored vs k u):=by
 unfold putK stored
 rw [r.any k]
 by_cases e:(vs.any fun kv=>decide (kv.1=k))=true
 ·rw [if_pos e,if_pos e]; exact r.repl k ry
 ·rw [if_neg e,if_neg e]; exact Paired.snoc r ⟨rfl,ry⟩
theorem KV.drop {kvs:List (κ × V)} {vs:List (κ × Value)} (r:KV kvs vs) (k:κ):KV (zsl kvs k) (without vs k):=by
 unfold KV at r ⊢
 unfold zsl without
 induction r with
 | nil=>exact .nil
 | @cons p q ps qs h t ih=>
  obtain ⟨h1,h2⟩:=h
  rw [List.filter_cons,List.filter_cons]
  by_cases e:p.1=k
  ·have a:¬ decide (p.1≠k)=true:=by simp [e]
   have b:¬ decide (q.1≠k)=true:=by simp [h1.symm.trans e]
   rw [if_neg a,if_neg b]; exact ih
  ·have e':¬ q.1=k:=fun z=>e (h1.trans z)
   have a:decide (p.1≠k)=true:=by simp [e]
   have b:decide (q.1≠k)=true:=by simp [e']
   rw [if_pos a,if_pos b]; exact .cons ⟨h1,h2⟩ ih
theorem KV.keys {kvs:List (κ × V)} {vs:List (κ × Value)} (r:KV kvs vs):kvs.map (·.1)=vs.map (·.1):=by
 unfold KV at r
 induction r with
 | nil=>rfl
 | cons h t ih=>rw [List.map_cons,List.map_cons,ih,h.1]
theorem KV.length {kvs:List (κ × V)} {vs:List (κ × Value)} (r:KV kvs vs):kvs.length=vs.length:=Paired.length r
end
theorem zkV {P:Program} {w:World} {k:Key} {u:Value} (r:RelV (kV k) u):(zbg P w).is k u=true:=by
 cases k with
 | inl i=>obtain ⟨t,e⟩:=(show ∃t,u=Value.int i t from r); subst e; exact zjc P w i t
 | inr x=>obtain ⟨t,e⟩:=(show ∃t,u=Value.str x t from r); subst e; exact zjb P w x t
theorem ziw {P:Program} {w:World}:∀{ks:List Key} {us:List Value},Vals (ks.map kV) us->ItemsAre (zbg P w) ks us
 | [],_,r=>by rw [List.map_nil] at r; cases r; exact .nil
 | k::ks,_,r=>by
  rw [List.map_cons] at r
  cases r with
  | cons h t=>exact .cons (zkV h) (ziw t)
noncomputable abbrev KT (H:Hp):List (List Key × V)->List (List Key × Addr × Value)->Prop:=Paired fun p q=>p.1=q.1/\H q.2.1=some (.tup (p.1.map kV))/\RelV p.2 q.2.2
theorem KT.val {H:Hp} {kvs:List (List Key × V)} {xs:List (List Key × Addr × Value)} (r:KT H kvs xs) (k:List Key):RelO (valV kvs k) ((atKey xs k).map (·.2)):=by
 induction r with
 | nil=>exact True.intro
 | @cons p q ps qs h t ih=>
  obtain ⟨h1,_,h2⟩:=h
  by_cases e:p.1=k
  ·have e':q.1=k:=h1.symm.trans e
   have b:atKey (q::qs) k=some q.2:=by simp [atKey,List.find?_cons,e']
   rw [zfK e,b]; exact h2
  ·have e':¬ q.1=k:=fun z=>e (h1.trans z)
   have b:atKey (q::qs) k=atKey qs k:=by simp [atKey,List.find?_cons,e']
   rw [zeC e,b]; exact ih
theorem KT.repl {H:Hp} {kvs:List (List Key × V)} {xs:List (List Key × Addr × Value)} (r:KT H kvs xs) (k:List Key) {y:V} {u:Value} (ry:RelV y u) :
  KT H (kvs.map fun kv=>if kv.1=k then (kv.1,y) else kv) (xs.map (putAt k u)):=by
 induction r with
 | nil=>exact .nil
 | @cons p q ps qs h t ih=>
  rw [List.map_cons,List.map_cons]
  refine .cons ?_ ih
  obtain ⟨h1,h2,h3⟩:=h
  unfold putAt
  by_cases e:p.1=k
  ·rw [if_pos e,if_pos (h1.symm.trans e)]; exact ⟨h1,h2,ry⟩
  ·rw [if_neg e,if_neg (fun z=>e (h1.trans z))]; exact ⟨h1,h2,h3⟩
theorem KT.put {H:Hp} {kvs:List (List Key × V)} {xs:List (List Key × Addr × Value)} (r:KT H kvs xs) (k:List Key) {b:Addr} {y:V} {u:Value} (hb:H b=some (.tup (k.map kV))) (ry:RelV y u) :
  KT H (putK kvs k y) (storedH xs k b u):=by
 have e:(kvs.any fun kv=>decide (kv.1=k))=(atKey xs k).isSome:=by
  rw [zjG,(r.val k).isSome_eq,Option.isSome_map]
 unfold putK storedH
 rw [e]
 by_cases q:(atKey xs k).isSome=true
 ·rw [if_pos q,if_pos q]; exact r.repl k ry
 ·rw [if_neg q,if_neg q]; exact Paired.snoc r ⟨rfl,hb,ry⟩
theorem KT.keeps {H H':Hp} {kvs:List (List Key × V)} {xs:List (List Key × Addr × Value)} (r:KT H kvs xs) (ht:∀b ys,H b=some (.tup ys)->H' b=some (.tup ys)):KT H' kvs xs:=
 Paired.mapP r fun _ _ z=>⟨z.1,ht _ _ z.2.1,z.2.2⟩
section
variable {P:Program} {w:World} {H:Hp} {h:Heap} {a:Addr}
theorem zq1 {u:HO} (ok:HOk P w H h) (e:Rd H a u):za9 P w H h a u:=e.ok ok
theorem zk2 {kvs:List (Key × V)} (ok:HOk P w H h) (e:Rd H a (.dK kvs)):kvs.length<=sizeLine/\(a == sysModules)=false/\∃vs,KV kvs vs/\h.DictOf (zbg P w) a vs:=
 show za9 P w H h a (.dK kvs) from zq1 ok e
theorem ztq {kvs:List (Key × V)} (ok:HOk P w H h) (e:H a=some (.dK kvs)):kvs.length<=sizeLine/\(a == sysModules)=false/\∃vs,KV kvs vs/\h.DictOf (zbg P w) a vs:=zk2 ok (.inl e)
theorem zit {ks:List Key} (ok:HOk P w H h) (e:H a=some (.tup (ks.map kV))):(tupleKind (zbg P w)).is h ks a:=by
 obtain ⟨_,its,r,⟨o,h1,h2,n,h3⟩,_⟩:=(show za9 P w H h a (.tup (ks.map kV)) from ok a _ e)
 exact ⟨o,its.toArray,n,h1,h2,h3,by simpa using ziw r⟩
theorem zmH {kvs:List (List Key × V)} (ok:HOk P w H h) (e:Rd H a (.dT kvs)):kvs.length<=sizeLine/\(a == sysModules)=false /\
  ∃xs,KT H kvs xs/\h.DictOfH (tupleKind (zbg P w)) a xs:=by
 obtain ⟨z,y,xs,r,o,es,ep,h1,h2,h3,h4,h5⟩:=(show za9 P w H h a (.dT kvs) from zq1 ok e)
 refine ⟨z,y,xs,r,o,es,ep,h1,h2,h3,h4,fun x hx=>?_,h5⟩
 have all:∀{l:List (List Key × V)} {m:List (List Key × Addr × Value)},KT H l m->∀x∈m,(tupleKind (zbg P w)).is h x.1 x.2.1:=by
  intro l m q
  induction q with
  | nil=>intro x hx; exact nomatch hx
  | @cons p q ps qs hq t ih=>
   intro x hx
   rcases List.mem_cons.mp hx with e | hx
   ·subst e
    exact zit ok (by rw [<-hq.1]; exact hq.2.1)
   ·exact ih x hx
 exact all r x hx
theorem ztp {kvs:List (List Key × V)} (ok:HOk P w H h) (e:H a=some (.dT kvs)):kvs.length<=sizeLine/\(a == sysModules)=false /\
  ∃xs,KT H kvs xs/\h.DictOfH (tupleKind (zbg P w)) a xs:=zmH ok (.inl e)
end
noncomputable def DGet (H:Hp) (a:Addr) (y:V) (r:Option V):Prop:=
 (∃kvs k,Rd H a (.dK kvs)/\y=kV k/\r=valV kvs k)\/∃kvs k b,Rd H a (.dT kvs)/\y=.ref b/\H b=some (.tup (k.map kV))/\r=valV kvs k
noncomputable def DPut (H:Hp) (a:Addr) (y v:V) (H':Hp):Prop:=
 (∃kvs k,H a=some (.dK kvs)/\y=kV k/\kvs.length < sizeLine/\H'=upd H a (.dK (putK kvs k v))) \/
 ∃kvs k b,H a=some (.dT kvs)/\y=.ref b/\H b=some (.tup (k.map kV))/\kvs.length < sizeLine/\H'=upd H a (.dT (putK kvs k v))
theorem DGet.k {H:Hp} {a:Addr} {kvs:List (Key × V)} {k:Key} (e:H a=some (.dK kvs)):DGet H a (kV k) (valV kvs k):=.inl ⟨kvs,k,.inl e,rfl,rfl⟩
theorem DGet.t {H:Hp} {a b:Addr} {kvs:List (List Key × V)} {k:List Key} (e:H a=some (.dT kvs)) (eb:H b=some (.tup (k.map kV))):DGet H a (.ref b) (valV kvs k):=.inr ⟨kvs,k,b,.inl e,rfl,eb,rfl⟩
theorem DPut.k {H:Hp} {a:Addr} {kvs:List (Key × V)} {k:Key} {v:V} (e:H a=some (.dK kvs)) (hl:kvs.length < sizeLine):DPut H a (kV k) v (upd H a (.dK (putK kvs k v))):=.inl ⟨kvs,k,e,rfl,hl,rfl⟩
theorem DPut.t {H:Hp} {a b:Addr} {kvs:List (List Key × V)} {k:List Key} {v:V} (e:H a=some (.dT kvs)) (eb:H b=some (.tup (k.map kV))) (hl:kvs.length < sizeLine) :
  DPut H a (.ref b) v (upd H a (.dT (putK kvs k v))):=.inr ⟨kvs,k,b,e,rfl,eb,hl,rfl⟩
section
variable {X:Cx} {pins:List (Addr × Obj)} {σ:St} {H:Hp} {s:Shared} {a:Addr} {y v:V} {u r:Value} {o:Option V} {A:Around} {E:Value->Shared->Prop}
theorem Inv.big (I:Inv X pins σ H s):sysModules < s.heap.objs.size:=by
 have h:mainGlobals < s.heap.objs.size:=(I.mod.glob.keeps I.bk).lt
 exact Nat.lt_trans (by decide) h
theorem zmM {Q:Value->Shared->Prop} (hu:A.units + 1 < cLine) (I:Inv X pins σ H s) (g:DGet H a y (some v)) (ry:RelV y u) (h:∀w' s',Inv X pins σ H s'->RelV v w'->Q w' s') :
  wpAny (model X.prog X.w) A (getItem (.ref a) u) Q E s:=by
 rcases g with ⟨kvs,k,e,ey,l⟩ | ⟨kvs,k,b,e,ey,eb,l⟩
 ·subst ey
  obtain ⟨z,hd,vs,rel,dd⟩:=zk2 I.hok e
  obtain ⟨w',hw,rw'⟩:=RelO.some_of (v:=v) (o:=valueAt vs k) (by rw [l]; exact rel.val k)
  exact wpAny_getItem_of (zkV ry) dd.mapOf hw (h w' _ (I.tok _) rw')
 ·subst ey
  cases (show u=Value.ref b from ry)
  obtain ⟨z,hd,xs,rel,dd⟩:=zmH I.hok e
  obtain ⟨w',hw,rw'⟩:=RelO.some_of (v:=v) (o:=(atKey xs k).map (·.2)) (by rw [l]; exact rel.val k)
  obtain ⟨p,hp,hp2⟩:=Option.map_eq_some_iff.mp hw
  refine wpAny_getItem_heap (tupleKind_room_in1 hu) (zit I.hok eb) dd hp ?_
  rw [hp2]
  exact h w' _ (I.tok _) rw'
theorem d_in {Q:Value->Shared->Prop} (hu:A.units + 1 < cLine) (I:Inv X pins σ H s) (g:DGet H a y o) (ry:RelV y u) (h:∀s',Inv X pins σ H s'->Q (.bool o.isSome) s') :
  wpAny (model X.prog X.w) A (compareOp .In u (.ref a)) Q E s:=by
 rcases g with ⟨kvs,k,e,ey,l⟩ | ⟨kvs,k,b,e,ey,eb,l⟩
 ·subst ey
  obtain ⟨z,hd,vs,rel,dd⟩:=zk2 I.hok e
  refine wpAny_in_of (zkV ry) hd dd.mapOf ?_
  rw [<-(rel.val k).isSome_eq,<-l]
  exact h _ (I.tok _)
 ·subst ey
  cases (show u=Value.ref b from ry)
  obtain ⟨z,hd,xs,rel,dd⟩:=zmH I.hok e
  refine wpAny_in_heap (tupleKind_room_in1 hu) (zit I.hok eb) hd dd ?_
  have q:=(rel.val k).isSome_eq
  rw [Option.isSome_map] at q
  rw [<-q,<-l]
  exact h _ (I.tok _)
theorem zqk {Q:Value->Shared->Prop} (hu:A.units + 1 < cLine) (I:Inv X pins σ H s) (g:DGet H a y o) (ry:RelV y u) (h:∀s',Inv X pins σ H s'->Q (.bool (! o.isSome)) s') :
  wpAny (model X.prog X.w) A (compareOp .NotIn u (.ref a)) Q E s:=by
 rcases g with ⟨kvs,k,e,ey,l⟩ | ⟨kvs,k,b,e,ey,eb,l⟩
 ·subst ey
  obtain ⟨z,hd,vs,rel,dd⟩:=zk2 I.hok e
  refine wpAny_notIn_of (zkV ry) hd dd.mapOf ?_
  rw [<-(rel.val k).isSome_eq,<-l]
  exact h _ (I.tok _)
 ·subst ey
  cases (show u=Value.ref b from ry)
  obtain ⟨z,hd,xs,rel,dd⟩:=zmH I.hok e
  refine wpAny_notIn_heap (tupleKind_room_in1 hu) (zit I.hok eb) hd dd ?_
  have q:=(rel.val k).isSome_eq
  rw [Option.isSome_map] at q
  rw [<-q,<-l]
  exact h _ (I.tok _)
theorem zmK {h':Heap} {t':Nat} {ob:HO} (I:Inv X pins σ H s) (mu:Mut (H a)) (hs:Heap.SameBut a s.heap h') (he:∃q,h'.get? a=some q) (new:za9 X.prog X.w (upd H a ob) h' a ob) :
  Inv X pins σ (upd H a ob) { s with heap:=h',toks:=t' }:=
 I.write (x:=a) (e:=a) mu (.inl rfl) (fun b q hb z=>(hs.2 b hb).trans z) he new
theorem zoX {P:Program} {w:World} {H':Hp} {h':Heap} {kvs:List (Key × V)} {vs:List (Key × Value)} (z:kvs.length<=sizeLine) (hd:(a == sysModules)=false) (rel:KV kvs vs) (dd:h'.DictOf (zbg P w) a vs) :
  za9 P w H' h' a (.dK kvs):=⟨z,hd,vs,rel,dd⟩
theorem zmL {H':Hp} {Q:Unit->Shared->Prop} (hu:A.units + 1 < cLine) (I:Inv X pins σ H s) (g:DPut H a y v H') (ry:RelV y u) (rv:RelV v r) (h:∀s',Inv X pins σ H' s'->Q () s') :
  wpAny (model X.prog X.w) A (setItem (.ref a) u r) Q E s:=by
 rcases g with ⟨kvs,k,e,ey,l,eH⟩ | ⟨kvs,k,b,e,ey,eb,l,eH⟩
 ·subst ey eH
  obtain ⟨z,hd,vs,rel,dd⟩:=ztq I.hok e
  have hz:vs.length<=sizeLine:=by rw [<-rel.length]; exact z
  have hl:(putK kvs k v).length<=sizeLine:=by have:=zen kvs k v; omega
  refine wpAny_setItem_pairs (hsz:=hz) (zkV ry) dd fun h' dd' hs=>h _ ?_
  have he:∃q,h'.get? a=some q:=let ⟨q,_,_,hq,_⟩:=dd'; ⟨q,hq⟩
  exact zmK I (by rw [e]; exact True.intro) hs he (zoX hl hd (rel.put k rv) dd')
 ·subst ey eH
  cases (show u=Value.ref b from ry)
  obtain ⟨z,hd,xs,rel,dd⟩:=ztp I.hok e
  have hz:xs.length<=sizeLine:=by rw [<-Paired.length rel]; exact z
  have hl:(putK kvs k v).length<=sizeLine:=by have:=zen kvs k v; omega
  refine wpAny_setItem_heap (hsz:=hz) (tupleKind_room_in1 hu) (zit I.hok eb) dd fun h' dd' hs=>h _ ?_
  obtain ⟨q,es,ep,hq,h2,h3,h4,_,h5⟩:=dd'
  refine zmK I (by rw [e]; exact True.intro) hs ⟨q,hq⟩ ⟨hl,hd,_,(rel.put k eb rv).keeps fun c ys ec=>?_,q,es,ep,hq,h2,h3,h4,h5⟩
  rw [zaA (zta ec e (fun z=>nomatch z))]
  exact ec
end
section
variable {X:Cx} {pins:List (Addr × Obj)} {σ:St} {H:Hp} {s:Shared} {a:Addr} {kvs:List (Key × V)} {k:Key} {u:Value} {A:Around} {E:Value->Shared->Prop}
theorem zts {Q:Value->Shared->Prop} (I:Inv X pins σ H s) (e:Rd H a (.dK kvs)) (h:∀t s',Inv X pins σ H s'->Q (.int kvs.length t) s'):wpAny (model X.prog X.w) A (call (.builtin "len") [.ref a]) Q E s:=by
 obtain ⟨z,hd,vs,rel,dd⟩:=zk2 I.hok e
 refine call_len_dict hd dd (by rw [<-rel.length]; rw [sizeLine_eq] at z; omega) ?_
 rw [<-rel.length]
 exact h _ _ (I.tok _)
end
theorem zjt {X:Cx} {pins:List (Addr × Obj)} {σ:St} {H:Hp} {s:Shared} {a:Addr} {y:V} {o:Option V} (I:Inv X pins σ H s) (g:DGet H a y o):s.TypeIs (.ref a) "dict" := by
 rcases g with ⟨kvs,k,e,_,_⟩ | ⟨kvs,k,b,e,_,_,_⟩
 ·obtain ⟨_,_,vs,_,dd⟩:=zk2 I.hok e
  exact dd.typeIs
 ·obtain ⟨_,_,xs,_,dd⟩:=zmH I.hok e
  exact dd.typeIs
section
variable {X:Cx} {o i e value:Expr} {pos pos' tpos:Pos} {td ty tv:TE}
end
theorem zoe {P:Program} {w:World} {H:Hp} (h:Heap) (hb:sysModules < h.objs.size):za9 P w H (h.push { cls:=.type "dict",data:=.dict #[] }) h.objs.size (.dK []):=
 ⟨Nat.zero_le _,beq_eq_false_iff_ne.mpr (Ne.symm (Nat.ne_of_lt hb)),[],.nil,Heap.DictOf.new h⟩
noncomputable def zqK:TE:=fun _ H Q=>∀p,H p=none->Q (.ref p) (upd H p (.dK []))
section
variable {X:Cx} {pos:Pos}
theorem znG:PE X (.Dict [] [] pos) zqK:=fun pins s σ H Q I h=>
 wpAny_Dict_empty ⟨.ref s.heap.objs.size,_,I.laid (a:=s.heap.objs.size) (o:=.dK []) (t':=s.toks) (fun _ _ q=>Heap.get?_push_of_some _ q) (Nat.le_refl _) (zoe s.heap I.big),rfl,h _ (I.hok.fresh (Nat.le_refl _))⟩
end
noncomputable def zdK (kvs more:List (Key × V)):List (Key × V):=more.foldl (fun acc kv=>putK acc kv.1 kv.2) kvs
theorem KV.merge:∀{more:List (Key × V)} {rs:List (Key × Value)} {kvs:List (Key × V)} {vs:List (Key × Value)},KV more rs->KV kvs vs->KV (zdK kvs more) (merged vs rs):=by
 intro more rs kvs vs r
 unfold KV at r
 induction r generalizing kvs vs with
 | nil=>intro q; exact q
 | @cons p q ps qs h t ih=>
  intro r0
  have e:KV (putK kvs p.1 p.2) (stored vs q.1 q.2):=by
   have:=r0.put p.1 h.2
   rw [<-h.1]; exact this
  exact ih e
theorem zdh:∀(more kvs:List (Key × V)),(zdK kvs more).length<=kvs.length + more.length
 | [],kvs=>by show kvs.length<=kvs.length + 0; omega
 | p::r,kvs=>by
  have h1:=zdh r (putK kvs p.1 p.2)
  have h2:=zen kvs p.1 p.2
  show (zdK (putK kvs p.1 p.2) r).length<=_
  rw [List.length_cons]; omega
structure M1 (X:Cx) (o:Expr) (m:Str) (apos:Pos) (e:Expr) (cpos:Pos):Prop where
 base:attributeBase o m X.env (eval o X.env)=eval o X.env
 few:((backTo cpos (starEach [e] X.env)).all (fun x=>! x.1) && (backToKw cpos (keywordEach [] X.env)).all (fun x=>x.1.isSome)
  && decide (([e]:List Expr).length + ([]:List Keyword).length + (if ([]:List Keyword).isEmpty then 0 else 1) < 30))=true
 line:(apos.endLine == cpos.line)=true
 trees:backTo cpos (starEach [e] X.env)=[(false,eval e X.env)]
structure M2 (X:Cx) (o:Expr) (m:Str) (apos:Pos) (e f:Expr) (cpos:Pos):Prop where
 base:attributeBase o m X.env (eval o X.env)=eval o X.env
 few:((backTo cpos (starEach [e,f] X.env)).all (fun x=>! x.1) && (backToKw cpos (keywordEach [] X.env)).all (fun x=>x.1.isSome)
  && decide (([e,f]:List Expr).length + ([]:List Keyword).length + (if ([]:List Keyword).isEmpty then 0 else 1) < 30))=true
 line:(apos.endLine == cpos.line)=true
 trees:backTo cpos (starEach [e,f] X.env)=[(false,eval e X.env),(false,eval f X.env)]
section
variable {X:Cx} {pins:List (Addr × Obj)} {σ:St} {H:Hp} {s:Shared} {a:Addr} {y d:V} {u r:Value} {o:Option V} {A:Around} {E:Value->Shared->Prop}
end
section
variable {X:Cx} {o e f:Expr} {apos cpos:Pos} {td ty tx:TE}
end
section
variable {X:Cx} {pins:List (Addr × Obj)} {σ:St} {H:Hp} {s:Shared} {a:Addr} {kvs:List (Key × V)} {A:Around} {E:Value->Shared->Prop}
end
section
variable {X:Cx} {pins:List (Addr × Obj)} {σ:St} {H:Hp} {s:Shared} {a:Addr} {y:V} {u:Value} {A:Around} {E:Value->Shared->Prop}
end
end L2
namespace Att
open PySem PySem.W PySem.Calls PyProof.Rows
theorem zgf {P:Params} {h:Heap}:∀(ns:List Int) (vs:List Value),WellAll P h vs (ns.map WData.int)->IntsAre vs ns:=by
 intro ns
 induction ns with
 | nil=>
  intro vs w
  rw [List.map_nil] at w
  cases w
  exact .nil
 | cons n ns ih=>
  intro vs w
  rw [List.map_cons] at w
  cases w with
  | cons a b=>
   cases a
   exact .cons _ _ (ih _ b)
theorem zln {l:OpenLaw} {n:Nat} (hn:l.most=some n) {P:Params} {h:Heap} {args:List WData} {vals:List Value}
  (hpre:l.row.toRowW.claim.pre args=true) (hwl:WellAll P h vals args) :
  ∃a vs ns,vals=[Value.ref a]/\args=[WData.list (ns.map WData.int)]/\h.get? a=some { cls:=.type "list",data:=.seq vs.toArray }/\IntsAre vs ns/\ns.length<=n:=by
 have hsh:WShape.hasAll [] args [.list .int]=true:=(pre_splitW hpre).1
 have hc:l.pre.holds [] { args:=args }=true:=(pre_splitW hpre).2
 obtain ⟨d,r,rfl,h1,h2⟩:=hasAllW_cons hsh
 obtain rfl:=hasAllW_nil h2
 obtain ⟨xs,rfl,h3⟩:=hasW_list h1
 obtain ⟨ns,rfl⟩:=items_int h3
 have hlen:ns.length<=n:=by
  unfold OpenLaw.pre at hc
  have h4:(WTm.not (.lt (.lit (.int (n:Int))) (.len (.arg 0)))).holds [] { args:=[.list (ns.map .int)] }=true:=by
   have h4:=(holds_andW hc).1
   rw [hn] at h4
   exact h4
  have h5:=condW_of h4 (w_not (w_lt w_lit (w_len_list (w_arg rfl))))
  rw [List.length_map] at h5
  refine Nat.le_of_not_lt fun q=>?_
  have q':(n:Int) < ((ns.length:Nat):Int):=by omega
  first
   | (rw [decide_eq_true q'] at h5; exact absurd h5 (by decide))
   | (simp at h5; omega)
 cases hwl with
 | cons w1 w2=>
  cases w2
  cases w1 with
  | list ho hall=>exact ⟨_,_,ns,rfl,rfl,ho,zgf ns _ hall,hlen⟩
theorem zlP (l:OpenLaw) (args:List WData):l.row.toRowW.claim.post args (.bool true) args=true:=
 postW_of (r:=l.row.toRowW) (X:=(true == true))
  (show WShape.has [] (.bool true) .bool=true by first | rfl | decide | simp [WShape.has,WShape.arms,WShape.armsAll])
  (show (WTm.eq .res (.lit (.bool true))).value [] { args:=args,res:=some (.bool true),after:=args }=some (.bool (true == true)) from w_eq_bool (w_res rfl) w_lit) rfl
theorem attach_call {l:OpenLaw} {n:Nat} {q:Program} {loose:List Str} {XP:(Str->Option Value)->Heap->Prop} {YP:World->Heap->Prop} {d:DefRec}
  (hn:l.most=some n) (hdf:d.params.defaults=[])
  (call:∀(w:World) (s₀ s₁:Shared) (mg mb:Str->Option Value) (fa:Addr) (o:Obj) (pm cd doc:Value) (a:Addr) (vs:List Value) (ns:List Int),
   Ground q loose [] XP w s₀ mg mb s₁.heap->YP w s₁.heap ->
   s₁.heap.get? fa=some o->o.data=.func (docDef d.name d.params d.body d.scope pm cd doc)->s₁.heap.CodeRec cd d.name->mg d.name=some (.ref fa) ->
   s₁.heap.get? a=some { cls:=.type "list",data:=.seq vs.toArray }->IntsAre vs ns->ns.length<=n->s₁.gens = #[] ->
   codeAny (model l.prog w) callerA (.call (.ref fa) ⟨[.ref a],[]⟩) (fun r s'=>r=.ok (.ret (.bool true))/\OldK s₁.heap s'.heap/\s'.os=s₁.os/\AllBare s'.gens) s₁) :
  WalkO q loose XP YP l.row.toRowW d [] (fun f vs=>PySem.call f vs):=by
 intro w s₀ s₁ mg mb G Y fa o pm cd doc dV kV ho hd hcd hD hmg hg args vals as hpre hlay hrd hwl hlo
 obtain rfl:dV=.none:=Dflts.none hD hdf
 obtain rfl:kV=.none:=Dflts.noKw hD
 obtain ⟨a,vs,ns,rfl,rfl,hobj,hints,hlen⟩:=zln hn hpre hwl
 refine enter_call (codeAny_mono (call w s₀ s₁ mg mb fa o pm cd doc a vs ns G Y ho (fd_plain hd) hcd hmg hobj hints hlen hg) fun r s' hq=>?_)
 obtain ⟨rfl,h2,h3,h4⟩:=hq
 exact ⟨.inl ⟨.bool true,.bool true,[],rfl,fun _=>rfl,.bool true,zlP l _,fun _=>⟨List.Pairwise.nil,fun _ hm=>(nomatch hm)⟩⟩,h2,h3,h4⟩
section
variable {prog:Program} {w:World} {A:Around} {E:Value->Shared->Prop} {s:Shared} {K:Frag}
end
end Att
namespace L2
open PySem PySem.Spec PyProof.Rows
theorem zhY:∀{vs:List Value} {ns:List Int},IntsAre vs ns->Vals (ns.map V.int) vs
 | _,_,.nil=>.nil
 | _,_,.cons n t h=>.cons ⟨t,rfl⟩ (zhY h)
noncomputable def Only (H:Hp):Prop:=∀b,H b=none\/∃o xs,H b=some (.frz o (.lst xs))
theorem zn0 {P:Program} {w:World} {K:PySem.W.Frag} {mg mb:Str->Option Value} {CX:CXT} {k:Nat} {fa a:Addr} {fd:FuncData} {x:Str} {sp:Sp} {s₁:Shared} {vs:List Value} {ns:List Int}
  (KX:K.In s₁.heap) (hns:s₁.heap.Ns mainGlobals mg) (hb:s₁.heap.Ns builtinsNs mb) (hbb:∀x:Str,x≠"__name__"->mb x=bootBuiltins x) (hlim:s₁.heap.NoLimit) (hg:s₁.gens = #[])
  (ha:s₁.heap.get? a=some { cls:=.type "list",data:=.seq vs.toArray }) (hi:IntsAre vs ns) (hl:ns.length<=sizeLine) (hr:Room k callerA)
  (F:∀base:Heap,K.In base->base.Ns mainGlobals mg->FnOk P w K mg base CX k fa fd [x] sp) (hbind:∀(s:Shared) (u:Value),BindsTo s fd ⟨[u],[]⟩ [(x,u)])
  (hsp:∀H:Hp,Only H->SqL K H a (ns.map V.int)->sp [.ref a] H (fun v _=>v=.bl true) fun _ _ _=>False)
  (hCX:∀H e s',CX [] H s₁ (fun _ _ _=>False) e s'->False) :
  codeAny (model P w) callerA (.call (.ref fa) ⟨[.ref a],[]⟩) (fun r s'=>r=.ok (.ret (.bool true))/\OldK s₁.heap s'.heap/\s'.os=s₁.os/\AllBare s'.gens) s₁:=by
 have rv:=zhY hi
 have lenV:=hi.length
 have core:∀H:Hp,Only H->SqL K H a (ns.map V.int)->HOk P w H s₁.heap->(∀b,H b≠none->b=a)->(H a≠none->K.lookup a=none) ->
   codeAny (model P w) callerA (.call (.ref fa) ⟨[.ref a],[]⟩) (fun r s'=>r=.ok (.ret (.bool true))/\OldK s₁.heap s'.heap/\s'.os=s₁.os/\AllBare s'.gens) s₁:=by
  intro H hO hS hok hA hK
  have base_of:∀{b:Addr} {o:Obj},s₁.heap.get? b=some o->H b=none->(hidT s₁.heap H).get? b=some o:=fun e n=>zn6 e n
  have noA:∀{b:Addr} {o:Obj} {es:Array DictEntry} {ep:Nat},s₁.heap.get? b=some o->o.data=.dict es ep->H b=none:=fun {b o es ep} e d=>by
   cases q:H b with
   | none=>rfl
   | some u=>
    have e':b=a:=hA b (by rw [q]; simp)
    subst e'
    rw [ha] at e; cases e
    have d':Data.seq vs.toArray _=Data.dict es ep:=d
    cases d'
  have nsK:∀{b:Addr} {m:Str->Option Value},s₁.heap.Ns b m->(hidT s₁.heap H).Ns b m:=fun {b m} ⟨o,es,ep,e,d,r⟩=>⟨o,es,ep,base_of e (noA e d),d,r⟩
  have hKb:K.In (hidT s₁.heap H):=fun b o e=>base_of (KX b o e) (by
   cases q:H b with
   | none=>rfl
   | some u=>
    have e':b=a:=hA b (by rw [q]; simp)
    subst e'
    rw [hK (by rw [q]; simp)] at e; cases e)
  have hM:Mod K mg (hidT s₁.heap H):=⟨hKb,nsK hns,⟨mb,nsK hb,hbb⟩,let ⟨mc,h1,h2⟩:=hlim; ⟨mc,nsK h1,h2⟩⟩
  have e0:Env0 P w K mg (hidT s₁.heap H) callerA [] s₁ H:=⟨rfl,hM,fun b o e=>zpV e,Nat.le_of_eq (zmz _ _),trivial,fun b hb=>absurd (show b∈([]:List Addr) from hb) (by simp),hok,.of_eq hg⟩
  refine codeAny_mono ((F _ hKb (nsK hns)).run callerA [] s₁ H ⟨[.ref a],[]⟩ [.ref a] [.ref a] _ _ hr e0 (hbind s₁ (.ref a)) (.cons rfl .nil) (hsp H hO hS)) fun r s' h=>?_
  cases r with
  | error e=>exact (hCX H e s' h).elim
  | ok fl=>
   cases fl with
   | next=>exact False.elim h
   | brk=>exact False.elim h
   | cont=>exact False.elim h
   | ret u=>
    obtain ⟨v,H',os,bare,un,hok',r',q⟩:=h
    have q':v=.bl true:=q
    subst q'
    obtain rfl:u=Value.bool true:=r'
    refine ⟨rfl,OldK.of_keep fun b o e=>?_,os,bare⟩
    cases q:H b with
    | none=>exact un.keep b o e q (by intro z; exact absurd (show b∈([]:List Addr) from z) (by simp)) (by simp)
    | some u=>
     rcases hO b with z | ⟨ob,xs,z⟩
     ·rw [q] at z; cases z
     ·have z2:=un.frzs b ob _ z
      obtain ⟨e1,_⟩:=hok b _ z
      obtain ⟨e2,_⟩:=hok' b _ z2
      rw [e] at e1; cases e1
      exact e2
 cases hk:K.lookup a with
 | some o=>
  have e:=KX a o hk
  rw [ha] at e
  cases e
  refine core (fun _=>none) (fun _=>.inl rfl) (.inr ⟨_,vs.toArray,_,hk,rfl,rfl,rfl,by rw [List.size_toArray,lenV]; exact hl,by simpa using rv⟩) (fun b u z=>by have z':(none:Option HO)=some u:=z; cases z') (fun b z=>absurd rfl z) fun z=>absurd rfl z
 | none=>
  refine core (fun b=>if b=a then some (.frz { cls:=.type "list",data:=.seq vs.toArray } (.lst (ns.map V.int))) else none) (fun b=>?_) (.inl (.inr ⟨{ cls:=.type "list",data:=.seq vs.toArray },if_pos rfl⟩)) (fun b u z=>?_) (fun b z=>?_) fun _=>hk
  ·by_cases hb:b=a
   ·exact .inr ⟨_,_,if_pos hb⟩
   ·exact .inl (if_neg hb)
  ·by_cases hb:b=a
   ·have z':=(if_pos hb).symm.trans z
    cases z'
    subst hb
    exact ⟨ha,by rw [List.length_map]; exact hl,vs,_,rv,ha⟩
   ·have z':=(if_neg hb).symm.trans z
    cases z'
  ·by_cases hb:b=a
   ·exact hb
   ·exact absurd (if_neg hb) z
end L2
namespace L2
open PySem PySem.Spec PyProof.Rows
noncomputable abbrev KOf {K:PySem.W.Frag} {h:Heap} (_:K.In h):PySem.W.Frag:=K
theorem walk_of {l:PySem.W.OpenLaw} {n k:Nat} {q:Program} {loose:List Str} {XP:(Str->Option Value)->Heap->Prop} {YP:World->Heap->Prop} {d:DefRec} {K:Params->PySem.W.Frag} {CX:World->CXT} {sp:World->Sp} {x:Str}
  (hn:l.most=some n) (hn2:n<=sizeLine) (hdf:d.params.defaults=[]) (hr:Room k callerA)
  (hY:∀(w:World) (h:Heap),YP w h->(K w.params).In h)
  (F:∀(w:World) (mg:Str->Option Value) (fa:Addr) (h:Heap),(K w.params).In h->h.Ns mainGlobals mg->mg d.name=some (.ref fa) ->
   ∃fd:FuncData,(∀(s:Shared) (u:Value),BindsTo s fd ⟨[u],[]⟩ [(x,u)]) /\
    ∀base:Heap,(K w.params).In base->base.Ns mainGlobals mg->FnOk l.prog w (K w.params) mg base (CX w) k fa fd [x] (sp w))
  (hsp:∀(w:World) (H:Hp) (a:Addr) (ns:List Int),ns.length<=n->Only H->SqL (K w.params) H a (ns.map V.int)->sp w [.ref a] H (fun v _=>v=.bl true) fun _ _ _=>False)
  (hCX:∀(w:World) (H:Hp) (s:Shared) (e:Value) (s':Shared),CX w [] H s (fun _ _ _=>False) e s'->False) :
  PySem.W.WalkO q loose XP YP l.row.toRowW d [] (fun f vs=>PySem.call f vs):=by
 refine Att.attach_call hn hdf fun w s₀ s₁ mg mb fa o pm cd doc a vs ns G Y ho hd hcd hmg hobj hints hlen hg=>?_
 have KX:=hY w _ Y
 obtain ⟨fd,hb,hF⟩:=F w mg fa _ KX G.T.g hmg
 exact zn0 KX G.T.g G.T.b G.T.builtins G.T.nolimit hg hobj hints (Nat.le_trans hlen hn2) hr hF hb (fun H hO hS=>hsp w H a ns hlen hO hS) fun H e s'=>hCX w H s₁ e s'
end L2
namespace L2
open PySem PySem.Spec PyProof.Rows
noncomputable def zch (s:Stmt):Arguments:=match s with
 | .FunctionDef _ a _ _ _ _ _ _ _ _=>a
 | _=>{ posonlyargs:=[],args:=[],vararg:=none,kwonlyargs:=[],kw_defaults:=[],kwarg:=none,defaults:=[] }
noncomputable def zbp (s:Stmt):List Stmt:=match s with
 | .FunctionDef _ _ b _ _ _ _ _ _ _=>b
 | _=>[]
noncomputable def zab (s:Stmt):Scope:=match s with
 | .FunctionDef _ _ _ _ _ _ sc _ _ _=>sc
 | _=>{ kind:=.function,names:=[],isGenerator:=false,isCoroutine:=false }
noncomputable abbrev CX0:CXT:=fun _ _ _ _ _ _=>False
noncomputable abbrev E0:XK:=fun _ _ _=>False
theorem zs1 {X:Cx}:zm7 CX0 X E0:=fun _ _ _ _ _ _ _ h=>h.elim
structure Fun (K:PySem.W.Frag) (x qual:Str) (st:Stmt) (f:Addr) (fd:FuncData):Prop where
 ex:∃(oc:Value) (od:Option Addr) (kV doc pm:Value) (an:Option Addr) (cdv ct:Value) (osl:Array (Option Value)),
  fd=PySem.W.fnOf x qual (zch st) (zbp st) (zab st) .none kV doc pm an cdv ct/\K.lookup f=some ⟨oc,od,.func fd,osl⟩/\PySem.W.codeIn K cdv qual=true
 kp:PySem.W.keepIn K (.ref f)=true
section
variable {P:Program} {w:World} {K:PySem.W.Frag} {mg:Str->Option Value} {base:Heap}
theorem Fun.ok {x qual:Str} {st:Stmt} {f:Addr} {fd:FuncData} {N ps:List Str} {k:Nat} {sp:Sp} (F:Fun K x qual st f fd) (S:FnScope N ps (zab st)) (len:∀vs H Q E,sp vs H Q E->vs.length=ps.length)
  (hbody:∀(cdv:Value) (A:Around) (outer:List Env) (s:Shared) (H:Hp) (vs:List V) (Q:VK) (E:XK),Room k (A.deeper (envOfC qual (zab st) s.heap.objs.size f cdv))->sp vs H Q E ->
   ∃t,PSs (cxOf CX0 P w K mg base N qual (zab st) f cdv A outer s H E).nox (zbp st) t/\t { nx:=fun _ H'=>Q .non H',rt:=Q } (start N vs) H):FnOk P w K mg base CX0 (k + 1) f fd ps sp:=by
 obtain ⟨oc,od,kV,doc,pm,an,cdv,ct,osl,rfl,lk,hcd⟩:=F.ex
 refine zsd lk hcd S len fun A outer s H vs Q E hr hsp=>?_
 obtain ⟨t,h,q⟩:=hbody cdv A outer s H vs Q E hr hsp
 exact ⟨t,h.nox,q⟩
theorem Fun.binds {x qual:Str} {st:Stmt} {f:Addr} {fd:FuncData} {ps:List Str} (F:Fun K x qual st f fd)
  (h:∀(kV doc pm:Value) (an:Option Addr) (cdv ct:Value) (us:List Value),us.length=ps.length->bindArgs (PySem.W.fnOf x qual (zch st) (zbp st) (zab st) .none kV doc pm an cdv ct) ⟨us,[]⟩=pure (ps.zip us)):zgQ K fd ps []:=by
 obtain ⟨oc,od,kV,doc,pm,an,cdv,ct,osl,rfl,lk,hcd⟩:=F.ex
 exact .all (h kV doc pm an cdv ct)
theorem zsa {x qual:Str} {st:Stmt} {f:Addr} {oc:Value} {od an:Option Addr} {osl:Array (Option Value)} {kV doc pm cdv ct:Value} (l:K.lookup f=some ⟨oc,od,.func (PySem.W.fnOf x qual (zch st) (zbp st) (zab st) .none kV doc pm an cdv ct),osl⟩)
  (c:PySem.W.codeIn K cdv qual=true) (k:PySem.W.keepIn K (.ref f)=true):Fun K x qual st f (PySem.W.fnOf x qual (zch st) (zbp st) (zab st) .none kV doc pm an cdv ct):=⟨⟨oc,od,kV,doc,pm,an,cdv,ct,osl,rfl,l,c⟩,k⟩
end
theorem zmx {A:Around} {k:Nat} (hr:Room k A):A.units + 1 < cLine:=Nat.lt_of_le_of_lt (Nat.add_le_add_left (by decide:1<=64) _) hr.units
section
variable {X:Cx}
theorem pv (i:Nat) {x:Str} {pos:Pos} (hN:X.N[i]? = some x:=by rfl) (hv:Vis X.env.scope x:=by first | exact Or.inl rfl | exact Or.inr (Or.inl rfl) | exact Or.inr (Or.inr rfl)) (hd:(x == ("__debug__" : Str))=false:=by decide)
  (hcd:(x == ("__classdict__" : Str))=false:=by decide):PE X (.Name x pos) (tVar i):=zfx hN hv hd hcd
theorem zmX:zcK X (.builtin "len") (fun xs H Q=>∃a kvs,xs=[V.ref a]/\Rd H a (.dK kvs)/\Q (.int kvs.length) H):=by
 intro pins s σ H xs us Q I r h
 obtain ⟨a,kvs,rfl,ha,q⟩:=h
 obtain ⟨u,rfl,ru⟩:=vals1 r
 cases ru
 exact zts I ha fun t s' I'=>⟨.int kvs.length,H,I',⟨t,rfl⟩,q⟩
end
noncomputable def Same (H H':Hp):Prop:=∀b o,H b=some o->H' b=some o
theorem Same.refl (H:Hp):Same H H:=fun _ _ h=>h
theorem Same.trans {H H1 H2:Hp} (a:Same H H1) (b:Same H1 H2):Same H H2:=fun c o h=>b c o (a c o h)
theorem Same.free {H H':Hp} (e:Same H H') {l:Addr} (h:H' l=Option.none):H l=Option.none:=by
 cases q:H l with
 | none=>rfl
 | some o=>
  rw [e l o q] at h
  cases h
theorem Same.seq {K:PySem.W.Frag} {H H':Hp} {a:Addr} {xs:List V} (e:Same H H') (h:SqL K H a xs):SqL K H' a xs:=by
 rcases h with (h | ⟨o,h⟩) | h
 ·exact .inl (.inl (e _ _ h))
 ·exact .inl (.inr ⟨o,e _ _ h⟩)
 ·exact .inr h
section
variable {κ:Type} [DecidableEq κ]
end
end L2
end
section
namespace DL
open PySem
open PySem.SeqAt
open PySem.AutoSeq1 (wpAny_loadPart')
open PySem.MeetsSeq PySem.MeetsSeq2 PySem.MeetsSeq3
noncomputable def zmr (items:Array Value) (x:Value):Nat->Option Fin × Unit->Sem (ForInStep (Option Fin × Unit)):=fun i _=>match items[i]? with
 | some y=>do
  let c <-eqBool y x
  if c=true then do
    let r <-retInt i
    pure (ForInStep.done (some r,()))
   else pure (ForInStep.yield (none,()))
 | _=>pure (ForInStep.yield (none,()))
theorem zqb {prog:Program} {w:World} {A:Around} {E:Value->Shared->Prop} {s:Shared} {items:Array Value} {x:Value} {e:Value->Bool} {j:Nat} (hj:j < items.size) (hit:e items[j]=true) (he:∀y,y∈items->EqAt A s y x (e y))
  {Q:Option Fin × Unit->Shared->Prop} (hq:Q (some (.done (.ret (.int j s.toks))),()) { s with toks:=s.toks + 1 }) :
  ∀(k i:Nat),j=i + k->(∀m (hm:m < items.size),i<=m->m < j->e items[m]=false)->wpAny (model prog w) A (forIn (List.range' i (items.size - i)) (none,()) (zmr items x)) Q E s:=by
 intro k
 induction k with
 | zero=>
  intro i hk _
  obtain rfl:j=i:=by omega
  obtain ⟨r,hr⟩:∃r,items.size - j=r + 1:=⟨items.size - j - 1,by omega⟩
  rw [hr,List.range'_succ,List.forIn_cons]
  refine wpAny_bind ?_
  unfold zmr
  rw [show items[j]? = some items[j] by simp [hj]]
  refine wpAny_bind (he _ (Array.getElem_mem hj) prog w _ _ ?_)
  rw [hit,if_pos rfl]
  refine wpAny_bind (m:=retInt j) ?_
  unfold retInt
  wp_walk
  exact hq
 | succ k ih=>
  intro i hk hno
  have hi:i < items.size:=by omega
  obtain ⟨r,hr⟩:∃r,items.size - i=r + 1:=⟨items.size - i - 1,by omega⟩
  rw [hr,List.range'_succ,List.forIn_cons]
  refine wpAny_bind ?_
  unfold zmr
  rw [show items[i]? = some items[i] by simp [hi]]
  refine wpAny_bind (he _ (Array.getElem_mem hi) prog w _ _ ?_)
  rw [hno i hi (Nat.le_refl _) (by omega),if_neg Bool.false_ne_true]
  refine wpAny_pure ?_
  have:=ih (i + 1) (by omega) (fun m hm h1 h2=>hno m hm (by omega) h2)
  rw [show items.size - (i + 1)=r by omega] at this
  exact this
theorem zhm (l:Addr) (items:Array Value) (n:Nat) (dd:Option Addr) (sl:Array (Option Value)) (x:Value) (e:Value->Bool) (j:Nat) (hj:j < items.size)
  (hit:e items[j]=true) (hno:∀m (hm:m < items.size),m < j->e items[m]=false) :
  Meets (Builtin.«tuple.index» ⟨[.ref l,x],[]⟩)
   (fun A R s=>s.heap.get? l=some { cls:=.type "tuple",dict:=dd,data:=.seq items n,slots:=sl }/\(∀y,y∈items->EqAt A.in1 s y x (e y))/\R (.ok (.ret (.int j s.toks))) { s with toks:=s.toks + 1 }):=by
 intro prog w A R s h
 obtain ⟨hp,g,d,tk,os⟩:=s; obtain ⟨hl,he,h⟩:=h
 unfold Builtin.«tuple.index»
 simp only [Std.Legacy.Range.forIn_eq_forIn_range']
 generalize hF : @forIn Sem (List Nat) Nat _ (Option Fin × Unit)=F
 wp_walk using wpAny_loadPart' hl
 subst hF
 rw [show ([:min items.size items.size]:Std.Legacy.Range).size=items.size - 0 by simp [Std.Legacy.Range.size]]
 refine zqb hj hit he ?_ j 0 (by omega) (fun m hm _ h2=>hno m hm h2)
 exact wpAny_pure h
end DL
end
section
namespace DL
open PySem PyProof.Rows
theorem ziQ:isSubtype (.type "tuple") (.type "set")=pure false:=by rw [isSubtype_type]; kernel_rfl
theorem zhZ:isSubtype (.type "tuple") (.type "frozenset")=pure false:=by rw [isSubtype_type]; kernel_rfl
section
variable {prog:Program} {w:World} {A:Around} {E:Value->Shared->Prop} {s:Shared}
noncomputable abbrev set0 (led:Bool):Obj:={ cls:=.type "set",dict:=none,data:=.set #[] 0 (.fresh 0 0 led) }
noncomputable def zm6 (prog:Program) (w:World) (s:Shared) (ns:List Int) (n:Nat) (h':Heap):Prop:=
 h'.SetOf (intKind prog w) s.heap.objs.size (fun k=>(firstMet (fun i=>ns.getD i 0) n).any (· == k)) (firstMet (fun i=>ns.getD i 0) n).length/\∀b o,b < s.heap.objs.size->s.heap.get? b=some o->h'.get? b=some o
set_option maxHeartbeats 3200000 in
theorem ziy {t:Addr} {items:Array Value} {ns:List Int} {led:Bool} {R:Result->Shared->Prop} (hh:A.handled=none) (ht:s.heap.IsTuple t items) (hi:IntsAre items.toList ns) (hb:items.size + 1 < scanBound)
  (hR:∀h' tk,zm6 prog w s ns items.size h'->R (.ok (.ret .none)) { s with heap:=h',toks:=tk }) :
  wpAny (model prog w) A.in1 (Builtin.«set.__init__» ⟨[.ref s.heap.objs.size,.ref t],[]⟩) (fun fin s'=>match fin with | .done f=>R (.ok f) s' | .again c'=>c'.quiet=true/\codeAny (model prog w) A c' R s') (fun e s'=>R (.error e) s') { s with heap:=s.heap.push (set0 led) }:=by
 obtain ⟨⟨ocls,odict,odata,oslots⟩,hol,hcl,nl,hdl⟩:=ht
 simp only at hcl hdl
 subst hcl; subst hdl
 have hol1:=Heap.get?_push_of_some (set0 led) hol
 have g1:=ziQ
 have g2:=zhZ
 have g3:(Value.type "tuple" == Value.type "dict")=false:=by decide
 have hT1:(s.heap.push (set0 led)).IsTuple t items:=⟨_,hol1,rfl,nl,rfl⟩
 have hS:(s.heap.push (set0 led)).get? s.heap.objs.size=some (set0 led):=Heap.get?_push_size _ rfl
 unfold Builtin.«set.__init__» noKeywords Builtin.Frozenset.updateFrom
 generalize hPI:pyIter=PI
 wp_walk
 subst hPI
 refine wpAny_pyIter_tuple hT1 (wpAny_bind (wpAny_runValue ?_))
 have ltT:t < s.heap.objs.size:=Heap.lt_size hol
 have z1:(s.heap.push (set0 led)).objs.size=s.heap.objs.size + 1:=Heap.size_push ..
 have neI:t≠(s.heap.push (set0 led)).objs.size:=by rw [z1]; exact Nat.ne_of_lt (Nat.lt_succ_of_lt ltT)
 have hout:s.heap.objs.size∉[(s.heap.push (set0 led)).objs.size,t]:=by
  rw [z1]
  simp only [List.mem_cons,List.not_mem_nil,or_false,not_or]
  exact ⟨Nat.ne_of_lt (Nat.lt_succ_self _),Nat.ne_of_gt ltT⟩
 have hval:∀(i:Nat) (v:Value),items[i]? = some v->∃tk,v=.int ((fun i=>ns.getD i 0) i) tk:=fun i v hv=>IntsAre.int_at hi i v (by rw [Array.getElem?_toList]; exact hv)
 refine codeAny_set_update_loopS ((Walks.tuple (A:=A.in1.in1) hh _ t neI items).toS) s.heap.objs.size hout (fun i=>ns.getD i 0) hval hb (items.size - 0) 0 _ (by omega) (Nat.zero_le _) ⟨⟨_,Heap.get?_push_size _ rfl,rfl,rfl⟩,hT1.push _⟩ ?_ fun s' hm hS'=>?_
 ·exact SetOf_congr ((setObjOf_fresh (knd:=intKind prog w) led).setOf (Heap.get?_push_of_some _ hS) (by unfold scanBound; omega)) (fun _=>rfl) rfl
 ·obtain ⟨h',g',d',tk',os'⟩:=s'
  obtain rfl:g'=s.gens:=hm.gens
  obtain rfl:d'=s.drawn:=hm.drawn
  obtain rfl:os'=s.os:=hm.os
  show wpAny _ _ _ _ _ _
  refine wpAny_pure ?_
  show wpAny _ _ (ret Value.none) _ _ _
  refine wpAny_pure (hR h' tk' ⟨hS',fun b o hb2 e=>?_⟩)
  refine hm.heap b o ?_ (Heap.get?_push_of_some _ (Heap.get?_push_of_some _ e))
  rw [z1]
  simp only [List.mem_cons,List.not_mem_nil,or_false,not_or]
  exact ⟨Nat.ne_of_lt hb2,Nat.ne_of_lt (Nat.lt_succ_of_lt hb2)⟩
set_option maxHeartbeats 3200000 in
theorem ziF {t:Addr} {items:Array Value} {ns:List Int} {Q:Value->Shared->Prop} (hh:A.handled=none) (ht:s.heap.IsTuple t items) (hi:IntsAre items.toList ns) (hb:items.size + 1 < scanBound)
  (h:∀h' tk,zm6 prog w s ns items.size h'->Q (.ref s.heap.objs.size) { s with heap:=h',toks:=tk }):wpAny (model prog w) A (call (.type "set") [.ref t]) Q E s:=by
 obtain ⟨c,tl,hmro⟩:=F.called_set.mro
 have a1:=F.called_set.made
 have a2:=F.called_set.sub
 refine wpAny_call (codeAny_of_tree ?_)
 show wpAny _ _ (callAny (.type "set") _) _ _ _
 refine wpAny_pure ⟨Code.quiet_builtin _ (by decide +kernel),codeAny_builtin F.entry_type_call ?_⟩
 rw [Around.under_plain (weight_type_call_type "set" [.ref t] []) rfl]
 have a3:=F.called_set.notType
 have a4:=F.called_set.canCreate
 have a5:=F.typeCall_set_1 (.ref t)
 repeat (any_goals (first | assumption | wp_step))
 refine codeAny_mono (code_set_new_1 (.ref t) (E:=E) (Q₁:=fun obj s₁=>∃led:Bool,obj=.ref s.heap.objs.size/\s₁ = { s with heap:=s.heap.push (set0 led) }) fun led=>⟨led,rfl,rfl⟩) fun r s₁ hr=>?_
 cases r with
 | error e=>exact hr
 | ok fl=>
  cases fl with
  | ret obj=>
   obtain ⟨led,rfl,rfl⟩:=hr
   have hT:Shared.TypeIs { s with heap:=s.heap.push (set0 led) } (.ref s.heap.objs.size) "set" := ⟨_,Heap.get?_push_size _ rfl,rfl⟩
   have b1:=F.called_set.init.lookup
   have b2:=F.called_set.init.bind (.ref s.heap.objs.size)
   repeat (any_goals (first | assumption | wp_step))
   refine codeAny_mono (codeAny_call_builtin (R:=wants (fun r s₂=>r=.none/\∃h' tk,s₂ = { s with heap:=h',toks:=tk }/\zm6 prog w s ns items.size h') E) F.called_set.init.plain F.entry_set_init (check_set_init_1 hT ?_)) fun r₂ s₂ hr₂=>?_
   ·refine ziy (A:=A.in1) (led:=led) hh ht hi hb fun h2 tk he=>?_
    exact ⟨rfl,h2,tk,rfl,he⟩
   ·cases r₂ with
    | error e=>exact hr₂
    | ok fl₂=>
     cases fl₂ with
     | ret r=>
      obtain ⟨rfl,h',tk,rfl,he⟩:=hr₂
      repeat (any_goals (first | assumption | wp_step))
      exact h _ _ he
     | _=>exact hr₂.elim
  | _=>exact hr.elim
end
end DL
end
section
namespace DL
open PySem PyProof.Rows PySem.W
noncomputable def ziu {α:Type} (c:Nat->Nat->Bool):KasT α->α
 | .ret a=>a
 | .ask i j k=>ziu c (k (c i j))
inductive Asks (n:Nat) {α:Type} (P:α->Prop):KasT α->Prop where
 | ret {a:α}:P a->Asks n P (.ret a)
 | ask {i j:Nat} {k:Bool->KasT α}:i < n->j < n->(∀b,Asks n P (k b))->Asks n P (.ask i j k)
theorem Asks.bind {n:Nat} {α β:Type} {P:α->Prop} {P':β->Prop} {t:KasT α} {f:α->KasT β} (h:Asks n P t) (hf:∀a,P a->Asks n P' (f a)):Asks n P' (t.bind f):=by
 induction h with
 | ret h=>exact hf _ h
 | ask h1 h2 _ ih=>exact .ask h1 h2 ih
theorem Asks.run {n:Nat} {α:Type} {P:α->Prop} {t:KasT α} (h:Asks n P t) (c:Nat->Nat->Bool):P (ziu c t):=by
 induction h with
 | ret h=>exact h
 | ask _ _ _ ih=>exact ih _
theorem Asks.mono {n:Nat} {α:Type} {P P':α->Prop} {t:KasT α} (h:Asks n P t) (hp:∀a,P a->P' a):Asks n P' t:=by
 induction h with
 | ret h=>exact .ret (hp _ h)
 | ask h1 h2 _ ih=>exact .ask h1 h2 ih
theorem zmo {n:Nat} {α:Type} {P:α->Prop} {cmp:Nat->Nat->(Bool->Shared->Prop)->Shared->Prop} {c:Nat->Nat->Bool} {s:Shared} (hc:∀i j C,i < n->j < n->C (c i j) s->cmp i j C s) {Q:α->Shared->Prop} {t:KasT α} (h:Asks n P t):Q (ziu c t) s->t.kasWp cmp Q s:=by
 induction h with
 | ret _=>exact fun q=>q
 | ask h1 h2 _ ih=>exact fun q=>hc _ _ _ h1 h2 (ih _ q)
noncomputable def zcN (n:Nat) (p:Array Nat):Prop:=p.toList.Perm (List.range n)
theorem zcN.bd {n:Nat} {p:Array Nat} (h:zcN n p) (hn:0 < n) (k:Nat):p.getD k 0 < n:=by
 by_cases hk:k < p.size
 ·have e:p.getD k 0=p[k]:=by simp [Array.getD,hk]
  rw [e]
  exact List.mem_range.mp (h.mem_iff.mp (by simp))
 ·have e:p.getD k 0=0:=by simp [Array.getD,hk]
  rw [e]; exact hn
theorem zcN.rev {n:Nat} {p:Array Nat} (h:zcN n p) (i j:Nat):zcN n (kas_rev p i j):=(Array.perm_iff_toList_perm.mp (mirror_perm p i j ((j - i) / 2))).trans h
theorem zcN.bub {n:Nat} {p:Array Nat} (h:zcN n p) (i j:Nat):zcN n (bubble p i j):=(Array.perm_iff_toList_perm.mp (bubble_perm p i j)).trans h
section
variable {n:Nat} (hn:0 < n)
include hn
theorem zhU {p:Array Nat} (h:zcN n p):∀f k,Asks n (fun _=>True) (kas_asc p f k)
 | 0,k=>.ret trivial
 | f + 1,k=>.ask (h.bd hn _) (h.bd hn _) fun b=>by
  cases b with
  | true=>rw [if_pos rfl]; exact .ret trivial
  | false=>rw [if_neg Bool.false_ne_true]; exact zhU h f (k + 1)
theorem ze2:∀f (p:Array Nat) k q,zcN n p->Asks n (fun r=>zcN n r.1) (kas_desc f p k q)
 | 0,p,k,q,h=>.ret h
 | f + 1,p,k,q,h=>.ask (h.bd hn _) (h.bd hn _) fun b=>by
  cases b with
  | true=>
   rw [if_pos rfl]
   split
   ·exact ze2 f _ _ _ (h.rev _ _)
   ·exact ze2 f _ _ _ h
  | false=>
   rw [if_neg Bool.false_ne_true]
   refine .ask (h.bd hn _) (h.bd hn _) fun b=>?_
   cases b with
   | true=>rw [if_pos rfl]; exact .ret h
   | false=>rw [if_neg Bool.false_ne_true]; exact ze2 f _ _ _ h
theorem ziL {p:Array Nat} (h:zcN n p) (a b:Nat):Asks n (fun r=>zcN n r.2) (kas_tail3 a b p):=
 Asks.bind (zhU hn (h.rev 0 a) _ _) fun m _=>.ret (h.rev 0 a)
theorem zg7 {p:Array Nat} (h:zcN n p) (a b:Nat):Asks n (fun r=>zcN n r.2) (kas_descPart a b p):=by
 refine Asks.bind (ze2 hn _ p _ _ h) fun r hr=>?_
 split
 ·exact ziL hn (hr.rev _ _) _ _
 ·exact ziL hn hr _ _
theorem zk6 {p:Array Nat} (h:zcN n p) (a:Nat):Asks n (fun r=>zcN n r.2) (kas_count a p):=by
 refine Asks.bind (zhU hn h _ _) fun k _=>?_
 split
 ·exact .ret h
 ·split
  ·refine .ask (h.bd hn _) (h.bd hn _) fun b=>?_
   cases b with
   | true=>rw [if_pos rfl]; exact .ret h
   | false=>rw [if_neg Bool.false_ne_true]; exact zg7 hn (h.rev _ _) _ _
  ·exact zg7 hn h _ _
theorem zfh {p:Array Nat} (h:zcN n p) (k:Nat):∀f l r,Asks n (fun _=>True) (kas_place p k f l r)
 | 0,l,r=>.ret trivial
 | f + 1,l,r=>by
  unfold kas_place
  split
  ·exact .ret trivial
  ·refine .ask (h.bd hn _) (h.bd hn _) fun b=>?_
   cases b with
   | true=>rw [if_pos rfl]; exact zfh h k f _ _
   | false=>rw [if_neg Bool.false_ne_true]; exact zfh h k f _ _
theorem zkl:∀f (p:Array Nat) k,zcN n p->Asks n (zcN n) (kas_bin f p k)
 | 0,p,k,h=>.ret h
 | f + 1,p,k,h=>Asks.bind (zfh hn h k _ _ _) fun l _=>zkl f _ _ (h.bub _ _)
theorem ziM:Asks n (zcN n) (kas_sort n):=by
 refine Asks.bind (zk6 hn (p:=List.toArray (List.range n)) (by unfold zcN; simp) n) fun r hr=>?_
 split
 ·exact zkl hn _ _ _ hr
 ·exact .ret hr
end
noncomputable def zgF (n:Nat) (c:Nat->Nat->Bool):List Nat:=if n < 2 then List.range n else (ziu c (kas_sort n)).toList
theorem zfa (n:Nat) (c:Nat->Nat->Bool):(zgF n c).Perm (List.range n):=by
 unfold zgF
 split
 ·exact .refl _
 ·exact (ziM (n:=n) (by omega)).run c
noncomputable def lexI:List Int->List Int->Bool
 | [],[]=>false
 | [],_::_=>true
 | _::_,[]=>false
 | x::xs,y::ys=>if x=y then lexI xs ys else decide (x < y)
noncomputable def lexZ (fin:Bool):List (List Int)->List (List Int)->Bool
 | k::ks,l::ls=>if k=l then lexZ fin ks ls else lexI k l
 | _,_=>fin
noncomputable def lexR (ks ls:List (List Int)):Bool:=lexZ (decide (ks.length < ls.length)) ks ls
end DL
end
section
namespace DL
open PySem PyProof.Rows PySem.W PySem.Calls
section
variable {prog:Program} {w:World} {A:Around} {E:Value->Shared->Prop} {s:Shared}
theorem zkt {a:Addr} {vs:List Value} {n:Nat} {P:PySem.Fin->Shared->Prop} (ho:s.heap.get? a=some (seqObj "list" vs.toArray n)) (h2:vs.length < 2)
  (h:∀h' c,(∀b o,b≠a->s.heap.get? b=some o->h'.get? b=some o)->h'.get? a=some (seqObj "list" vs.toArray c)->P (.done (.ret .none)) { s with heap:=h' }) :
  wpAny (model prog w) A (Builtin.«list.sort» ⟨[.ref a],[]⟩) P E s:=by
 have fits:vs.length<=sizeLine:=by rw [sizeLine_eq]; omega
 have up:=fun (h:Heap) (f:Array Value->Array Value)=>Heap.SameBut.update h a (Obj.mapSeq f)
 obtain ⟨e1,ho1⟩:∃e1,(s.heap.update a (Obj.mapSeq fun _=>(#[]:Array Value))).get? a=some (seqObj "list" #[] e1):=⟨_,get?_update_seq ho fun _=>#[]⟩
 rw [list_sort_plain]
 refine wpAny_bind (listItems_at ho rfl (wpAny_bind (listUpdate_at ho rfl ?_ (by rw [List.size_toArray]; exact fits) (Nat.zero_le _))))
 refine wpAny_bind (seqEpoch_at ho1 rfl (wpAny_bind (wpAny_newTuple (wpAny_bind (wpAny_newList (wpAny_holding ?_) (Nat.zero_le _))) (by show vs.length<=_; exact fits))))
 dsimp only
 have hlt:vs.toArray.size < 2:=by rw [List.size_toArray]; exact h2
 rw [if_pos hlt,if_pos hlt]
 refine wpAny_bind (wpAny_pure ?_)
 have hrun:(pure ():StateT SortSt Sem Unit).run (SortSt.mk' general' (vs.toArray.zip vs.toArray) #[] 7 none)=pure ((),SortSt.mk' general' (vs.toArray.zip vs.toArray) #[] 7 none):=rfl
 rw [hrun]
 refine wpAny_bind (wpAny_pure ?_)
 dsimp only
 have hout:(arrOf (SortSt.mk' general' (vs.toArray.zip vs.toArray) #[] 7 none)).map (·.2)=vs.toArray:=by
  show ((vs.toArray.zip vs.toArray).map (·.2))=vs.toArray
  apply Array.ext'
  simp [List.map_snd_zip]
 rw [hout]
 have keep3:∀b o,(s.heap.update a (Obj.mapSeq fun _=>(#[]:Array Value))).get? b=some o->(((s.heap.update a (Obj.mapSeq fun _=>(#[]:Array Value))).push (seqObj "tuple" vs.toArray 0)).push (seqObj "list" #[] 0)).get? b=some o:=fun b o e=>Heap.get?_push_of_some _ (Heap.get?_push_of_some _ e)
 have ho3:=keep3 _ _ ho1
 refine wpAny_bind (seqEpoch_at ho3 rfl (wpAny_bind (listUpdate_at ho3 rfl ?_ (Nat.zero_le _) (by rw [List.size_toArray]; exact Nat.le_succ_of_le fits))))
 simp only [bne_self_eq_false,Bool.false_eq_true,if_false]
 refine wpAny_pure (h _ _ (fun b o hb e=>?_) (get?_update_seq ho3 fun _=>vs.toArray))
 exact ((up _ _).2 b hb).trans (keep3 b o (((up _ _).2 b hb).trans e))
theorem zh2 {l:Addr} {vs:List Value} {Q:Value->Shared->Prop} (hl:s.heap.IsList l vs.toArray) (h2:vs.length < 2)
  (h:∀h' c D,(∀b o,s.heap.get? b=some o->h'.get? b=some o)->s.heap.objs.size<=D->h'.get? D=some (seqObj "list" vs.toArray c)->Q (.ref D) { s with heap:=h' }) :
  wpAny (model prog w) A (call (.builtin "sorted") [.ref l]) Q E s:=by
 refine Calls.call_function_entry kind_sorted plain_sorted entry_sorted (args_sorted1 _) ?_
 unfold Builtin.«sorted»
 refine wpAny_bind (m:=checkCount "sorted" 1 1 _) (wpAny_pure (wpAny_bind (collect_list hl ?_ (by rw [sizeLine_eq]; omega))))
 refine wpAny_bind (wpAny_newList ?_ (by rw [sizeLine_eq]; omega))
 generalize hH:((s.heap.push (seqObj "list" #[] 0)).update s.heap.objs.size (Obj.mapSeq (·++vs.toArray)))=H1
 have hsz:H1.objs.size=s.heap.objs.size + 1:=by rw [<-hH,Heap.size_update,size_push']
 have keep:∀b o,s.heap.get? b=some o->(H1.push (seqObj "list" vs.toArray 0)).get? b=some o:=fun b o q=>by
  have hlt:b < s.heap.objs.size:=Heap.lt_size q
  refine Heap.get?_push_of_some _ ?_
  rw [<-hH,Heap.get?_update_ne _ _ _ _ (Nat.ne_of_lt hlt)]
  exact Heap.get?_push_of_some _ q
 have hoL:(H1.push (seqObj "list" vs.toArray 0)).get? H1.objs.size=some (seqObj "list" vs.toArray 0):=Heap.get?_push_size _ rfl
 refine wpAny_bind (wpAny_holding (wpAny_call_entry slot_list_sort ⟨_,hoL,rfl⟩ entry_list_sort ?_ (args_list_sort _)))
 refine zkt (s:={ s with heap:=H1.push (seqObj "list" vs.toArray 0) }) hoL h2 fun h' c kp hD=>?_
 refine ⟨_,rfl,wpAny_pure ⟨_,rfl,h h' c _ (fun b o e=>kp b o ?_ (keep b o e)) (by rw [hsz]; exact Nat.le_succ _) hD⟩⟩
 rw [hsz]
 exact Nat.ne_of_lt (Nat.lt_succ_of_lt (Heap.lt_size e))
end
end DL
end
section
namespace DL
open PySem PySem.Spec PyProof.Rows L2 PySem.W PySem.Calls
structure Lft (fr:List Addr) (a:Addr) (oe:Obj) (vs:Array Value) (T:Option Addr) (v:Value) (h h':Heap):Prop where
 keep:∀b o,b∉fr->b≠a->T≠some b->h.get? b=some o->h'.get? b=some o
 slot:∀b o,h.get? b=some o->(∀vs:Array Value,o.data≠Data.fields vs)->∃sl,h'.get? b=some { cls:=o.cls,dict:=o.dict,data:=o.data,slots:=sl }
 obj:∃tb ot ts,(h.get? tb=none\/T=some tb)/\tb≠a/\h'.get? a=some { cls:=oe.cls,dict:=oe.dict,data:=.fields (vs.setIfInBounds 1 (.ref tb)),slots:=oe.slots }/\h'.get? tb=some ot/\ot.data=.fields ts/\ts[3]? = some v
section
variable {M:Model} {A:Around} {E:Value->Shared->Prop} {s:Shared} {B:Heap} {env:Env} {outer:List Env} {L a:Addr} {oe:Obj} {vs:Array Value} {Q:Unit->Shared->Prop}
end
end DL
end
section
namespace DL
open PySem PySem.Spec PyProof.Rows L2 PySem.W PySem.Calls
noncomputable def ztu (h B:Heap) (a:Addr) (cls:Value) (od L:Option Addr):Prop:=
 ∃oe vs,h.get? a=some oe/\oe.cls=cls/\(∀dx,od=some dx->oe.dict=some dx)/\oe.data=.fields vs /\
  (vs[1]? = some Value.none\/(∃T oT ts,vs[1]? = some (.ref T)/\B.get? T=none/\T≠a/\h.get? T=some oT/\oT.data=.fields ts/\ts[3]? = some Value.none) \/
   ∃l T oT ts,L=some l/\vs[1]? = some (.ref T)/\B.get? T=none/\T≠a/\h.get? T=some oT/\oT.data=.fields ts/\ts[3]? = some (rawInt ↑l))
noncomputable def topF (st:List Env):Option Addr:=st.head?.bind (·.frame)
structure Fly (P:Program) (w:World) (st:List Env) (H:Hp) (s:Shared) (H':Hp) (a:Addr) (cls:Value) (od:Option Addr) (s':Shared):Prop where
 os:s'.os=s.os
 bare:AllBare s'.gens
 un:Un (frs st) [] H H' s.heap s'.heap
 hok:HOk P w H' s'.heap
 ex:∃B:Heap,B.StaysIn s'.heap/\B.get? a=none/\s'.heap.FunFrames B st/\ztu s'.heap B a cls od (topF st) /\
  (∀b o,s.heap.get? b=some o->b∉frs st->∃o',B.get? b=some o')/\∀b u,H' b=some u->∃o',B.get? b=some o'
section
variable {X:Cx} {pins:List (Addr × Obj)} {σ:L2.St} {H H':Hp} {s s':Shared} {a:Addr} {cls:Value} {od:Option Addr} {M:Model} {E:Value->Shared->Prop}
end
noncomputable def CXR (P:Program) (w:World):CXT:=fun outer H s E e s'=>∃a cls H' od,e=.ref a/\Fly P w outer H s H' a cls od s'/\E cls od H'
end DL
end
section
namespace DL
open PySem PySem.Spec PyProof.Rows L2 PySem.W PySem.Calls
theorem zrx {P:Program} {w:World} {H:Hp} {h:Heap} {a:Addr} {o:HO} (x:za9 P w H h a o):∃u,h.get? a=some u:=by
 cases o with
 | lst xs=>obtain ⟨_,_,_,_,e⟩:=x; exact ⟨_,e⟩
 | tup xs=>obtain ⟨_,_,_,_,o,e,_⟩:=x; exact ⟨_,e⟩
 | dK kvs=>obtain ⟨_,_,_,_,o,_,_,e,_⟩:=x; exact ⟨_,e⟩
 | dT kvs=>obtain ⟨_,_,_,_,o,_,_,e,_⟩:=x; exact ⟨_,e⟩
 | set S n=>obtain ⟨o,_,_,_,e,_⟩:=x; exact ⟨_,e⟩
 | ins C dx fs=>obtain ⟨_,_,_,e,_⟩:=x; exact ⟨_,e⟩
 | own y=>exact x
 | xd fs=>obtain ⟨_,⟨_,_,_,e,_⟩,_⟩:=x; exact ⟨_,e⟩
 | rng lo hi=>obtain ⟨_,_,_,e⟩:=x; exact ⟨_,e⟩
 | frz ob u=>obtain ⟨e,_⟩:=x; exact ⟨_,e⟩
 | tbl ps=>exact ⟨_,(show h.get? a=some _ from x)⟩
 | met f y=>exact ⟨_,(show h.get? a=some _ from x)⟩
 | ext φ=>exact x.2.1
noncomputable abbrev vErr:List Value:=[Value.type "ValueError",Value.type "Exception",Value.type "BaseException",Value.type "object"]
structure XC (K:PySem.W.Frag) (mg:Str->Option Value) (x:Str) (C:Addr):Prop where
 bound:mg x=some (.ref C)
 exc:excIn K C vErr "ValueError.__new__" = true
section
variable {X:Cx} {pins:List (Addr × Obj)} {σ:L2.St} {H:Hp} {s:Shared} {x:Str} {C:Addr} {np cpos pos:Pos} {e₀:Expr} {rest:List Expr} {t:TA}
theorem Fly.made {h':Heap} {e:Addr} {cls:Value} {vs:List Value} (I:Inv X pins σ H s) (m:s.heap.MadeExcOf h' e cls vs):Fly X.prog X.w X.stack H s H e cls none { heap:=h',gens:=s.gens,drawn:=s.drawn,toks:=s.toks,os:=s.os }:=by
 obtain ⟨t,m1,m2,m3⟩:=m.there
 have hst:∀b o,(hideAll s.heap (frs X.stack)).get? b=some o->h'.get? b=some o:=fun b o e=>m.keeps b o (of_hideAll _ e)
 refine ⟨rfl,I.bare,Un.kept m.keeps,I.hok.kept m.keeps,hideAll s.heap (frs X.stack),hst,?_,?_,⟨_,_,m1,rfl,(fun _ e=>nomatch e),rfl,.inl rfl⟩,fun b o e n=>⟨o,hideAll_get _ e n⟩,fun b u e=>?_⟩
 ·cases q:(hideAll s.heap (frs X.stack)).get? e with
  | none=>rfl
  | some o=>have:=of_hideAll _ q; rw [m.new] at this; cases this
 ·have ff:=I.stack
  have key:∀l:List Env,(∀b∈frs l,b∈frs X.stack)->s.heap.FunFrames X.base l->h'.FunFrames (hideAll s.heap (frs X.stack)) l:=by
   intro l
   induction l with
   | nil=>intro _ _; unfold Heap.FunFrames; trivial
   | cons env l ih=>
    intro hs hf
    unfold Heap.FunFrames at hf ⊢
    obtain ⟨f1,⟨L,o,f2,f3,f4,f5⟩,f6⟩:=hf
    refine ⟨f1,⟨L,o,f2,hideAll_none _ (hs L ?_),m.keeps _ _ f4,f5⟩,ih (fun b hb=>hs b ?_) f6⟩
    ·unfold frs; rw [List.filterMap_cons,f2]; exact List.mem_cons_self
    ·unfold frs; rw [List.filterMap_cons,f2]; exact List.mem_cons_of_mem _ hb
  exact key X.stack (fun _ hb=>hb) ff
 ·obtain ⟨o,eo⟩:=zrx (I.hok b u e)
  exact ⟨o,hideAll_get _ eo fun z=>by rw [I.stkFree b z] at e; cases e⟩
end
end DL
end
section
namespace DL
open PySem PySem.Spec PyProof.Rows L2
inductive D where
 | non | bl (b:Bool) | int (i:Int) | str (x:Str)
 | tup (ds:List D) | lst (ds:List D)
 | dic (kvs:List (Key × D))
 | obj (c:Nat) (fs:List (Str × D))
instance:Inhabited D:=⟨.non⟩
inductive Res (α:Type) where
 | ok (a:α) | exc (x:D) | stuck
noncomputable def Res.bind {α β:Type} (r:Res α) (f:α->Res β):Res β:=match r with
 | .ok a=>f a
 | .exc x=>.exc x
 | .stuck=>.stuck
@[simp] theorem bind_ok {α β:Type} (a:α) (f:α->Res β):(Res.ok a).bind f=f a:=rfl
@[simp] theorem bind_exc {α β:Type} (x:D) (f:α->Res β):(Res.exc x:Res α).bind f=.exc x:=rfl
@[simp] theorem bind_stuck {α β:Type} (f:α->Res β):(Res.stuck:Res α).bind f=.stuck:=rfl
noncomputable def fin {α:Type} (r:Res α) (q:α->Prop) (x:D->Prop):Prop:=match r with
 | .ok a=>q a
 | .exc e=>x e
 | .stuck=>False
theorem zag {α:Type} {r:Res α} {q q':α->Prop} {x:D->Prop} (h:fin r q x) (hq:∀a,q a->q' a):fin r q' x:=by
 cases r with
 | ok a=>exact hq a h
 | exc e=>exact h
 | stuck=>exact h
theorem zai {α β:Type} {r:Res α} {f:α->Res β} {q:β->Prop} {x:D->Prop} (h:fin (r.bind f) q x):fin r (fun a=>fin (f a) q x) x:=by
 cases r with
 | ok a=>exact h
 | exc e=>exact h
 | stuck=>exact h
noncomputable abbrev GH:=Addr->Option D
inductive Scl:V->D->Prop where
 | non:Scl .non .non
 | bl (b:Bool):Scl (.bl b) (.bl b)
 | int (i:Int):Scl (.int i) (.int i)
 | str (x:Str):Scl (.str x) (.str x)
inductive KC (K:PySem.W.Frag) (a:Addr):D->Prop where
 | lst {xs:List V} {ds:List D}:SqL K (fun _=>none) a xs->Paired Scl xs ds->KC K a (.lst ds)
 | tup {xs:List V} {ds:List D}:SqT K (fun _=>none) a xs->Paired Scl xs ds->(∃o,K.lookup a=some o/\o.cls=.type "tuple"/\o.dict=none)->KC K a (.tup ds)
inductive RG (K:PySem.W.Frag) (G:GH):V->D->Prop where
 | scl {v:V} {d:D}:Scl v d->RG K G v d
 | ref {a:Addr} {d:D}:G a=some d->RG K G (.ref a) d
 | kc {a:Addr} {d:D}:KC K a d->RG K G (.ref a) d
noncomputable abbrev RGs (K:PySem.W.Frag) (G:GH):List V->List D->Prop:=Paired (RG K G)
noncomputable abbrev RKs (K:PySem.W.Frag) (G:GH):List (Key × V)->List (Key × D)->Prop:=Paired fun p q=>p.1=q.1/\RG K G p.2 q.2
noncomputable abbrev xD (nm:Str) (ds:List (Str × D)):D:=.obj 0 (("__class__",.str nm)::ds)
noncomputable def XN (K:PySem.W.Frag) (nm:Str) (C:Addr):Prop:=∃o cd,K.lookup C=some o/\o.data=Data.cls cd/\cd.name=nm
noncomputable def XcO (a C:Addr) (od:Option Addr):Heap->Prop:=fun h=>∃oe vs,h.get? a=some oe/\oe.cls=.ref C/\(∀dx,od=some dx->oe.dict=some dx)/\oe.data=.fields vs
noncomputable def XF (G:GH) (od:Option Addr) (ds:List (Str × D)):Prop:=match od with
 | none=>ds=[]
 | some dx=>G dx=some (.obj 1 ds)
theorem XF.mono {G G':GH} {od:Option Addr} {ds:List (Str × D)} (h:XF G od ds) (ge:∀a d,G a=some d->G' a=some d):XF G' od ds:=by
 cases od with
 | none=>exact h
 | some dx=>exact ge _ _ h
noncomputable abbrev RFs (K:PySem.W.Frag) (G:GH):List (Str × V)->List (Str × D)->Prop:=Paired fun p q=>p.1=q.1/\RG K G p.2 q.2
inductive OB (K:PySem.W.Frag) (G:GH) (H:Hp) (a:Addr):D->Prop where
 | lst {xs:List V} {ds:List D}:Rd H a (.lst xs)->RGs K G xs ds->OB K G H a (.lst ds)
 | tup {xs:List V} {ds:List D}:Rd H a (.tup xs)->RGs K G xs ds->OB K G H a (.tup ds)
 | dic {ob:Obj} {ps:List (Key × V)} {kvs:List (Key × D)}:H a=some (.frz ob (.dK ps))->RKs K G ps kvs->OB K G H a (.dic kvs)
 | exc {nm:Str} {C:Addr} {od:Option Addr} {ds:List (Str × D)}:H a=some (.ext (XcO a C od))->XN K nm C->XF G od ds->OB K G H a (xD nm ds)
 | fld {fs:List (Str × V)} {ds:List (Str × D)}:H a=some (.xd fs)->RFs K G fs ds->OB K G H a (.obj 1 ds)
noncomputable def GOk (K:PySem.W.Frag) (G:GH) (H:Hp):Prop:=∀a d,G a=some d->OB K G H a d
inductive OwnO (K:PySem.W.Frag) (G:GH) (H:Hp) (a:Addr):D->Prop where
 | lst {xs:List V} {ds:List D}:H a=some (.lst xs)->RGs K G xs ds->OwnO K G H a (.lst ds)
 | dic {ps:List (Key × V)} {kvs:List (Key × D)}:H a=some (.dK ps)->RKs K G ps kvs->OwnO K G H a (.dic kvs)
structure Own (K:PySem.W.Frag) (G:GH) (H:Hp) (a:Addr) (d:D):Prop where
 un:G a=none
 ob:OwnO K G H a d
structure Grow (K:PySem.W.Frag) (G:GH) (H:Hp) (G':GH) (H':Hp):Prop where
 ok:GOk K G' H'
 he:∀a o,H a=some o->H' a=some o
 ge:∀a d,G a=some d->G' a=some d
 gf:∀a,H a≠none->G' a=G a
section
variable {K:PySem.W.Frag} {G G' G1 G2:GH} {H H' H1 H2:Hp} {a p:Addr} {d:D} {v:V}
theorem Rd.mono {u:HO} (h:Rd H a u) (he:∀a o,H a=some o->H' a=some o):Rd H' a u:=by
 rcases h with h | ⟨o,h⟩
 ·exact .inl (he _ _ h)
 ·exact .inr ⟨o,he _ _ h⟩
theorem Rd.isS {u:HO} (h:Rd H a u):H a≠none:=by
 rcases h with h | ⟨o,h⟩ <;> rw [h] <;> simp
theorem RG.mono (h:RG K G v d) (ge:∀a d,G a=some d->G' a=some d):RG K G' v d:=by
 cases h with
 | scl s=>exact .scl s
 | ref e=>exact .ref (ge _ _ e)
 | kc k=>exact .kc k
theorem RGs.mono {xs:List V} {ds:List D} (h:RGs K G xs ds) (ge:∀a d,G a=some d->G' a=some d):RGs K G' xs ds:=Paired.mono (fun _ _ r=>r.mono ge) h
theorem RKs.mono {xs:List (Key × V)} {ds:List (Key × D)} (h:RKs K G xs ds) (ge:∀a d,G a=some d->G' a=some d):RKs K G' xs ds:=Paired.mono (fun _ _ r=>⟨r.1,r.2.mono ge⟩) h
theorem OB.mono (h:OB K G H a d) (ge:∀a d,G a=some d->G' a=some d) (he:∀o,H a=some o->H' a=some o):OB K G' H' a d:=by
 have rd:∀{u:HO},Rd H a u->Rd H' a u:=fun r=>by
  rcases r with r | ⟨o,r⟩
  ·exact .inl (he _ r)
  ·exact .inr ⟨o,he _ r⟩
 cases h with
 | lst r s=>exact .lst (rd r) (s.mono ge)
 | tup r s=>exact .tup (rd r) (s.mono ge)
 | dic r s=>exact .dic (he _ r) (RKs.mono s ge)
 | exc r n f=>exact .exc (he _ r) n (f.mono ge)
 | fld r s=>exact .fld (he _ r) (Paired.mono (fun _ _ r=>⟨r.1,r.2.mono ge⟩) s)
theorem OB.isS (h:OB K G H a d):H a≠none:=by
 cases h with
 | lst r s=>exact Rd.isS r
 | tup r s=>exact Rd.isS r
 | dic r s=>rw [r]; simp
 | exc r n f=>rw [r]; simp
 | fld r s=>rw [r]; simp
theorem GOk.isN (g:GOk K G H) (h:H p=none):G p=none:=by
 cases e:G p with
 | none=>rfl
 | some d=>exact absurd h (g p d e).isS
theorem OwnO.isS (h:OwnO K G H a d):H a≠none:=by
 cases h with
 | lst r s=>rw [r]; simp
 | dic r s=>rw [r]; simp
theorem OwnO.mono (h:OwnO K G H a d) (ge:∀a d,G a=some d->G' a=some d) (he:∀o,H a=some o->H' a=some o):OwnO K G' H' a d:=by
 cases h with
 | lst r s=>exact .lst (he _ r) (s.mono ge)
 | dic r s=>exact .dic (he _ r) (RKs.mono s ge)
theorem Own.mono (h:Own K G H a d) (w:Grow K G H G' H'):Own K G' H' a d:=
 ⟨by rw [w.gf a h.ob.isS]; exact h.un,h.ob.mono w.ge fun o e=>w.he _ _ e⟩
noncomputable def fz (H:Hp) (a:Addr) (ob:Obj):Hp:=match H a with
 | some (.dK ps)=>upd H a (.frz ob (.dK ps))
 | _=>H
theorem zmC {b:Addr} {ob:Obj} (h:b≠a):fz H a ob b=H b:=by
 unfold fz
 cases e:H a with
 | none=>rfl
 | some u=>cases u <;> first | rfl | exact zaA h
theorem zr8 {xs:List V} {ob:Obj} (h:H a=some (.lst xs)):fz H a ob=H:=by
 unfold fz
 rw [h]
theorem zr9 {ps:List (Key × V)} {ob:Obj} (h:H a=some (.dK ps)):fz H a ob a=some (.frz ob (.dK ps)):=by
 unfold fz
 rw [h]; exact zaq
theorem OwnO.fast (h:OwnO K G H a d) (ob:Obj):OB K G (fz H a ob) a d:=by
 cases h with
 | lst r s=>rw [zr8 r]; exact .lst (.inl r) s
 | dic r s=>exact .dic (zr9 r) s
theorem GOk.fast (g:GOk K G H) (hn:G a=none) (ob:Obj):GOk K G (fz H a ob):=fun b d e=>by
 have hb:b≠a:=by rintro rfl; rw [hn] at e; cases e
 exact (g b d e).mono (fun _ _ z=>z) fun o z=>by rw [zmC hb]; exact z
theorem Grow.refl (g:GOk K G H):Grow K G H G H:=⟨g,fun _ _ e=>e,fun _ _ e=>e,fun _ _=>rfl⟩
theorem Grow.trans (x:Grow K G H G1 H1) (y:Grow K G1 H1 G2 H2):Grow K G H G2 H2:=
 ⟨y.ok,fun a o e=>y.he _ _ (x.he _ _ e),fun a d e=>y.ge _ _ (x.ge _ _ e),fun a h=>by
  have h1:H1 a≠Option.none:=by
   cases e:H a with
   | none=>exact absurd e h
   | some o=>rw [x.he _ _ e]; simp
  rw [y.gf a h1,x.gf a h]⟩
noncomputable def gset (G:GH) (a:Addr) (d:D):GH:=fun b=>if b=a then some d else G b
theorem zaL:gset G a d a=some d:=if_pos rfl
theorem zbA {b:Addr} (h:b≠a):gset G a d b=G b:=if_neg h
theorem zbk (hn:G a=none):∀b e,G b=some e->gset G a d b=some e:=fun b e h=>by
 have:b≠a:=by rintro rfl; rw [hn] at h; cases h
 rw [zbA this]; exact h
theorem GOk.gset (g:GOk K G H) (hn:G a=none) (o:OB K G H a d):GOk K (gset G a d) H:=fun b e h=>by
 by_cases hb:b=a
 ·subst hb; rw [zaL] at h; cases h
  exact o.mono (zbk hn) fun _ q=>q
 ·rw [zbA hb] at h
  exact (g b e h).mono (zbk hn) fun _ q=>q
theorem zle (hn:H p=none) {o:HO}:∀a u,H a=some u->upd H p o a=some u:=fun a u e=>by
 rw [zaA (zbL e hn)]; exact e
theorem Grow.new (g:GOk K G H) (hn:H p=none) (o:HO):Grow K G H G (upd H p o):=
 ⟨fun a d e=>(g a d e).mono (fun _ _ q=>q) fun u q=>zle hn _ _ q,fun a u e=>zle hn _ _ e,fun _ _ e=>e,fun _ _=>rfl⟩
theorem Grow.newF (g:GOk K G H) (hn:H p=none) {o:HO} (ob:OB K G (upd H p o) p d):Grow K G H (gset G p d) (upd H p o):=by
 have w:=Grow.new g hn o
 have gn:=g.isN hn
 exact ⟨w.ok.gset gn ob,w.he,fun a e h=>zbk gn a e h,fun a h=>zbA (by rintro rfl; exact h hn)⟩
theorem Grow.frz (w:Grow K G H G' H') (hn:H a=none) (o:Own K G' H' a d) (ob:Obj):Grow K G H (gset G' a d) (fz H' a ob):=
 ⟨(w.ok.fast o.un ob).gset o.un (o.ob.fast ob),fun b u e=>by rw [zmC (by rintro rfl; rw [hn] at e; cases e)]; exact w.he b u e,fun b e h=>zbk o.un b e (w.ge b e h),fun b h=>by rw [zbA (by rintro rfl; exact h hn)]; exact w.gf b h⟩
theorem RG.lst {ds:List D} (g:GOk K G H) (h:RG K G v (.lst ds)):∃a xs,v=.ref a/\SqL K H a xs/\RGs K G xs ds:=by
 cases h with
 | scl s=>cases s
 | ref e=>
  cases g _ _ e with
  | lst r s=>exact ⟨_,_,rfl,.inl r,s⟩
 | kc k=>
  cases k with
  | lst r s=>
   refine ⟨_,_,rfl,?_,Paired.mono (fun _ _ z=>.scl z) s⟩
   rcases r with (r | ⟨o,r⟩) | r
   ·cases r
   ·cases r
   ·exact .inr r
theorem RG.tup {ds:List D} (g:GOk K G H) (h:RG K G v (.tup ds)):∃a xs,v=.ref a/\SqT K H a xs/\RGs K G xs ds:=by
 cases h with
 | scl s=>cases s
 | ref e=>
  cases g _ _ e with
  | tup r s=>exact ⟨_,_,rfl,.inl r,s⟩
 | kc k=>
  cases k with
  | tup r s _=>
   refine ⟨_,_,rfl,?_,Paired.mono (fun _ _ z=>.scl z) s⟩
   rcases r with (r | ⟨o,r⟩) | r
   ·cases r
   ·cases r
   ·exact .inr r
theorem RG.dic {kvs:List (Key × D)} (g:GOk K G H) (h:RG K G v (.dic kvs)):∃a ps,v=.ref a/\Rd H a (.dK ps)/\RKs K G ps kvs:=by
 cases h with
 | scl s=>cases s
 | ref e=>
  cases g _ _ e with
  | dic r s=>exact ⟨_,_,rfl,.inr ⟨_,r⟩,s⟩
 | kc k=>cases k
theorem RG.int {i:Int} (g:GOk K G H) (h:RG K G v (.int i)):v=.int i:=by
 cases h with
 | scl s=>cases s; rfl
 | ref e=>cases g _ _ e
 | kc k=>cases k
theorem RG.str {x:Str} (g:GOk K G H) (h:RG K G v (.str x)):v=.str x:=by
 cases h with
 | scl s=>cases s; rfl
 | ref e=>cases g _ _ e
 | kc k=>cases k
theorem RG.bl {b:Bool} (g:GOk K G H) (h:RG K G v (.bl b)):v=.bl b:=by
 cases h with
 | scl s=>cases s; rfl
 | ref e=>cases g _ _ e
 | kc k=>cases k
theorem RG.non (g:GOk K G H) (h:RG K G v .non):v=.non:=by
 cases h with
 | scl s=>cases s; rfl
 | ref e=>cases g _ _ e
 | kc k=>cases k
noncomputable def RB (K:PySem.W.Frag) (G:GH) (H:Hp) (v:V) (d:D):Prop:=RG K G v d\/∃a,v=.ref a/\Own K G H a d
theorem RG.rb (h:RG K G v d):RB K G H v d:=.inl h
theorem RB.mono (h:RB K G H v d) (w:Grow K G H G' H'):RB K G' H' v d:=by
 rcases h with h | ⟨a,e,h⟩
 ·exact .inl (h.mono w.ge)
 ·exact .inr ⟨a,e,h.mono w⟩
theorem RB.lst {ds:List D} (g:GOk K G H) (h:RB K G H v (.lst ds)):∃a xs,v=.ref a/\SqL K H a xs/\RGs K G xs ds:=by
 rcases h with h | ⟨a,e,h⟩
 ·exact h.lst g
 ·cases h.ob with
  | lst r s=>exact ⟨a,_,e,SqL.of r,s⟩
theorem RB.tup {ds:List D} (g:GOk K G H) (h:RB K G H v (.tup ds)):∃a xs,v=.ref a/\SqT K H a xs/\RGs K G xs ds:=by
 rcases h with h | ⟨a,e,h⟩
 ·exact h.tup g
 ·cases h.ob
theorem RB.dic {kvs:List (Key × D)} (g:GOk K G H) (h:RB K G H v (.dic kvs)):∃a ps,v=.ref a/\Rd H a (.dK ps)/\RKs K G ps kvs:=by
 rcases h with h | ⟨a,e,h⟩
 ·exact h.dic g
 ·cases h.ob with
  | dic r s=>exact ⟨a,_,e,.inl r,s⟩
theorem RB.int {i:Int} (g:GOk K G H) (h:RB K G H v (.int i)):v=.int i:=by
 rcases h with h | ⟨a,e,h⟩
 ·exact h.int g
 ·cases h.ob
theorem RB.str {x:Str} (g:GOk K G H) (h:RB K G H v (.str x)):v=.str x:=by
 rcases h with h | ⟨a,e,h⟩
 ·exact h.str g
 ·cases h.ob
theorem RB.bl {b:Bool} (g:GOk K G H) (h:RB K G H v (.bl b)):v=.bl b:=by
 rcases h with h | ⟨a,e,h⟩
 ·exact h.bl g
 ·cases h.ob
theorem RB.non (g:GOk K G H) (h:RB K G H v .non):v=.non:=by
 rcases h with h | ⟨a,e,h⟩
 ·exact h.non g
 ·cases h.ob
theorem Paired.get {α β:Type} {F:α->β->Prop}:∀{l:List α} {r:List β} {i:Nat} {b:β},Paired F l r->r[i]? = some b->∃a,l[i]? = some a/\F a b
 | _,_,_,_,.nil,e=>by simp at e
 | _,_,0,_,.cons h _,e=>by simp at e; subst e; exact ⟨_,rfl,h⟩
 | _,_,i + 1,b,.cons _ t,e=>by
  obtain ⟨a,h1,h2⟩:=Paired.get (i:=i) t (by simpa using e)
  exact ⟨a,by simpa using h1,h2⟩
theorem Paired.app {α β:Type} {F:α->β->Prop} {l l':List α} {r r':List β} (h:Paired F l r) (q:Paired F l' r'):Paired F (l++l') (r++r'):=by
 induction h with
 | nil=>exact q
 | cons h _ ih=>exact .cons h ih
theorem Paired.tk {α β:Type} {F:α->β->Prop} {l:List α} {r:List β} (n:Nat) (h:Paired F l r):Paired F (l.take n) (r.take n):=by
 induction h generalizing n with
 | nil=>cases n <;> exact .nil
 | cons h _ ih=>cases n with
  | zero=>exact .nil
  | succ n=>exact .cons h (ih n)
theorem Paired.dr {α β:Type} {F:α->β->Prop} {l:List α} {r:List β} (n:Nat) (h:Paired F l r):Paired F (l.drop n) (r.drop n):=by
 induction h generalizing n with
 | nil=>cases n <;> exact .nil
 | cons h t ih=>cases n with
  | zero=>exact .cons h t
  | succ n=>exact ih n
theorem Paired.st {α β:Type} {F:α->β->Prop} {a:α} {b:β} (h:F a b) {l:List α} {r:List β} (n:Nat) (p:Paired F l r):Paired F (l.set n a) (r.set n b):=by
 induction p generalizing n with
 | nil=>exact .nil
 | cons q t ih=>cases n with
  | zero=>exact .cons h t
  | succ n=>exact .cons q (ih n)
theorem Paired.er {α β:Type} {F:α->β->Prop} {l:List α} {r:List β} (n:Nat) (p:Paired F l r):Paired F (l.eraseIdx n) (r.eraseIdx n):=by
 induction p generalizing n with
 | nil=>exact .nil
 | cons q t ih=>cases n with
  | zero=>exact t
  | succ n=>exact .cons q (ih n)
end
inductive Md where
 | sh | ow | bw
 deriving DecidableEq
noncomputable abbrev Rho:=List (Option D)
structure GE where
 gh:GH
 h0:Hp
 hd:Nat->Option (Option V × Option D)
noncomputable def Bw (K:PySem.W.Frag) (h0:Hp) (G:GH) (H:Hp) (v:V) (d:D):Prop:=RG K G v d\/∃a,v=V.ref a/\Own K G H a d/\h0 a≠none
theorem Bw.grow {K:PySem.W.Frag} {h0:Hp} {G G':GH} {H H':Hp} {v:V} {d:D} (h:Bw K h0 G H v d) (w:Grow K G H G' H'):Bw K h0 G' H' v d:=by
 rcases h with h | ⟨a,e,h1,h2⟩
 ·exact .inl (h.mono w.ge)
 ·exact .inr ⟨a,e,h1.mono w,h2⟩
theorem Bw.rb {K:PySem.W.Frag} {h0:Hp} {G:GH} {H:Hp} {v:V} {d:D} (h:Bw K h0 G H v d):RB K G H v d:=by
 rcases h with h | ⟨a,e,h1,h2⟩
 ·exact .inl h
 ·exact .inr ⟨a,e,h1⟩
noncomputable def Lk (r:Rho) (st:L2.St) (i:Nat) (o:Option V × Option D):Prop:=st[i]? = some o.1/\∀d,r[i]? = some (some d)->o.2=some d
structure SI (X:Cx) (g:GE) (m:List Md) (r:Rho) (G:GH) (st:L2.St) (H:Hp):Prop where
 gok:GOk X.K G H
 old:∀a o,g.h0 a=some o->H a=some o
 ge:∀a d,g.gh a=some d->G a=some d
 gf:∀a,g.h0 a≠none->G a=g.gh a
 lm:m.length=st.length
 lr:r.length=st.length
 sh:∀(i:Nat) d,r[i]? = some (some d)->m[i]? = some .sh->∃v,st[i]? = some (some v)/\RG X.K G v d
 ow:∀(i:Nat) d,r[i]? = some (some d)->m[i]? = some .ow->∃a,st[i]? = some (some (V.ref a))/\Own X.K G H a d/\g.h0 a=none
 bw:∀(i:Nat) d,r[i]? = some (some d)->m[i]? = some .bw->∃v,st[i]? = some (some v)/\Bw X.K g.h0 G H v d
 dis:∀(i j:Nat) a d e,i≠j->r[i]? = some (some d)->r[j]? = some (some e)->m[i]? = some .ow->m[j]? = some .ow->st[i]? = some (some (V.ref a))->st[j]? = some (some (V.ref a))->False
 lk:∀(i:Nat) o,g.hd i=some o->m[i]? = some .bw->Lk r st i o
section
variable {X:Cx} {g:GE} {m:List Md} {r:Rho} {G G':GH} {st:L2.St} {H H':Hp}
theorem SI.grow (s:SI X g m r G st H) (w:Grow X.K G H G' H'):SI X g m r G' st H' where
 gok:=w.ok
 old:=fun a o e=>w.he _ _ (s.old a o e)
 ge:=fun a d e=>w.ge _ _ (s.ge a d e)
 gf:=fun a h=>by
  have h1:H a≠none:=by
   cases e:g.h0 a with
   | none=>exact absurd e h
   | some o=>rw [s.old _ _ e]; simp
  rw [w.gf a h1,s.gf a h]
 lm:=s.lm
 lr:=s.lr
 sh:=fun i d h1 h2=>by obtain ⟨v,h3,h4⟩:=s.sh i d h1 h2; exact ⟨v,h3,h4.mono w.ge⟩
 ow:=fun i d h1 h2=>by obtain ⟨a,h3,h4,h5⟩:=s.ow i d h1 h2; exact ⟨a,h3,h4.mono w,h5⟩
 bw:=fun i d h1 h2=>by obtain ⟨v,h3,h4⟩:=s.bw i d h1 h2; exact ⟨v,h3,h4.grow w⟩
 dis:=s.dis
 lk:=s.lk
theorem SI.grown (s:SI X g m r G st H):Grow X.K g.gh g.h0 G H:=⟨s.gok,s.old,s.ge,s.gf⟩
theorem SI.frz (s:SI X g m r G st H) (i:Nat) (hi:m[i]? = some .ow):(∃G',(∀a d,G a=some d->G' a=some d)/\SI X g (m.set i .sh) r G' st H)\/∃a,∀ob,∃G',(∀a d,G a=some d->G' a=some d)/\SI X g (m.set i .sh) r G' st (fz H a ob):=by
 have hlt:i < m.length:=(List.getElem?_eq_some_iff.mp hi).1
 by_cases hb:∃d,r[i]? = some (some d)
 ·obtain ⟨d,hd⟩:=hb
  obtain ⟨a,h1,h2,h3⟩:=s.ow i d hd hi
  refine .inr ⟨a,fun ob=>⟨gset G a d,zbk h2.un,(s.gok.fast h2.un ob).gset h2.un (h2.ob.fast ob),fun b o e=>by rw [zmC (by rintro rfl; rw [h3] at e; cases e)]; exact s.old b o e,fun b e h=>zbk h2.un b e (s.ge b e h),fun b h=>?_,by simpa using s.lm,s.lr,?_,?_,?_,?_,fun j o hj hm=>?_⟩⟩
  ·rw [zbA (by rintro rfl; exact h h3)]; exact s.gf b h
  ·intro j e hj hm
   by_cases hij:i=j
   ·subst hij
    rw [hd] at hj; cases hj
    exact ⟨_,h1,.ref zaL⟩
   ·rw [List.getElem?_set_ne hij] at hm
    obtain ⟨v,q1,q2⟩:=s.sh j e hj hm
    exact ⟨v,q1,q2.mono (zbk h2.un)⟩
  ·intro j e hj hm
   by_cases hij:i=j
   ·subst hij
    rw [List.getElem?_set_self hlt] at hm; cases hm
   ·rw [List.getElem?_set_ne hij] at hm
    obtain ⟨b,q1,q2,q3⟩:=s.ow j e hj hm
    have hba:b≠a:=by
     rintro rfl
     exact s.dis i j b d e hij hd hj hi hm h1 q1
    exact ⟨b,q1,⟨by rw [zbA hba]; exact q2.un,q2.ob.mono (zbk h2.un) fun _ z=>by rw [zmC hba]; exact z⟩,q3⟩
  ·intro j e hj hm
   by_cases hij:i=j
   ·subst hij
    rw [List.getElem?_set_self hlt] at hm; cases hm
   ·rw [List.getElem?_set_ne hij] at hm
    obtain ⟨v,q1,q2⟩:=s.bw j e hj hm
    refine ⟨v,q1,?_⟩
    rcases q2 with q2 | ⟨b,rfl,q2,q3⟩
    ·exact .inl (q2.mono (zbk h2.un))
    ·have hba:b≠a:=by rintro rfl; exact q3 h3
     exact .inr ⟨b,rfl,⟨by rw [zbA hba]; exact q2.un,q2.ob.mono (zbk h2.un) fun _ z=>by rw [zmC hba]; exact z⟩,q3⟩
  ·intro j k b e e' hjk hj hk hm hm' q1 q2
   have hij:i≠j:=by
    rintro rfl
    rw [List.getElem?_set_self hlt] at hm; cases hm
   have hik:i≠k:=by
    rintro rfl
    rw [List.getElem?_set_self hlt] at hm'; cases hm'
   rw [List.getElem?_set_ne hij] at hm
   rw [List.getElem?_set_ne hik] at hm'
   exact s.dis j k b e e' hjk hj hk hm hm' q1 q2
  ·refine s.lk j o hj ?_
   by_cases hij:i=j
   ·subst hij; rw [List.getElem?_set_self hlt] at hm; cases hm
   ·rw [List.getElem?_set_ne hij] at hm; exact hm
 ·refine .inl ⟨G,fun _ _ z=>z,s.gok,s.old,s.ge,s.gf,by simpa using s.lm,s.lr,?_,?_,?_,?_,fun j o hj hm=>?_⟩
  ·intro j e hj hm
   have hij:i≠j:=by rintro rfl; exact hb ⟨e,hj⟩
   rw [List.getElem?_set_ne hij] at hm
   exact s.sh j e hj hm
  ·intro j e hj hm
   have hij:i≠j:=by rintro rfl; exact hb ⟨e,hj⟩
   rw [List.getElem?_set_ne hij] at hm
   exact s.ow j e hj hm
  ·intro j e hj hm
   have hij:i≠j:=by rintro rfl; exact hb ⟨e,hj⟩
   rw [List.getElem?_set_ne hij] at hm
   exact s.bw j e hj hm
  ·intro j k b e e' hjk hj hk hm hm' q1 q2
   have hij:i≠j:=by rintro rfl; exact hb ⟨e,hj⟩
   have hik:i≠k:=by rintro rfl; exact hb ⟨e',hk⟩
   rw [List.getElem?_set_ne hij] at hm
   rw [List.getElem?_set_ne hik] at hm'
   exact s.dis j k b e e' hjk hj hk hm hm' q1 q2
  ·refine s.lk j o hj ?_
   by_cases hij:i=j
   ·subst hij; rw [List.getElem?_set_self hlt] at hm; cases hm
   ·rw [List.getElem?_set_ne hij] at hm; exact hm
end
end DL
end
section
namespace DL
open PySem PySem.Spec PyProof.Rows L2
theorem PE.imp {X:Cx} {e:Expr} {t t':TE} (h:PE X e t) (i:∀σ H Q,t' σ H Q->t σ H Q):PE X e t':=fun pins s σ H Q I q=>h pins s σ H Q I (i σ H Q q)
theorem PT.imp {X:Cx} {e:Expr} {t t':TT} (h:PT X e t) (i:∀σ H Q,t' σ H Q->t σ H Q):PT X e t':=fun pins s σ H Q I q=>h pins s σ H Q I (i σ H Q q)
theorem PW.imp {X:Cx} {e:Expr} {t t':TT} (h:PW X e t) (i:∀σ H Q,t' σ H Q->t σ H Q):PW X e t':=fun whole pins s σ H Q I q=>h whole pins s σ H Q I (i σ H Q q)
theorem PA.imp {X:Cx} {e:List Expr} {t t':TA} (h:PA X e t) (i:∀σ H Q,t' σ H Q->t σ H Q):PA X e t':=fun pos pins s σ H Q I q=>h pos pins s σ H Q I (i σ H Q q)
theorem PS.imp {X:Cx} {e:Stmt} {t t':TS} (h:PS X e t) (i:∀D σ H,t' D σ H->t D σ H):PS X e t':=fun pins s σ H D I q=>h pins s σ H D I (i D σ H q)
theorem PSs.imp {X:Cx} {e:List Stmt} {t t':TS} (h:PSs X e t) (i:∀D σ H,t' D σ H->t D σ H):PSs X e t':=fun pins s σ H D I q=>h pins s σ H D I (i D σ H q)
noncomputable def ExV (X:Cx) (σ:L2.St) (G:GH) (H':Hp) (e:Value) (x:D) (s':Shared):Prop:=
 ∃pins s H1 a C od nm ds,e=.ref a/\x=xD nm ds/\XN X.K nm C/\XF G od ds/\Inv X pins σ H1 s/\Fly X.prog X.w X.stack H1 s H' a (.ref C) od s'
noncomputable def XW (X:Cx) (σ:L2.St) (G:GH) (H:Hp) (x:D):Prop:=∀pins e s' G' H',Grow X.K G H G' H'->Inv X pins σ H' s'->ExV X σ G' H' e x s'->X.xe e s'
theorem XW.grow {X:Cx} {σ:L2.St} {G G1:GH} {H H1:Hp} {x:D} (h:XW X σ G H x) (w:Grow X.K G H G1 H1):XW X σ G1 H1 x:=fun pins e s' G' H' w' I q=>h pins e s' G' H' (w.trans w') I q
noncomputable abbrev FE:=Rho->Res D
noncomputable def tE (X:Cx) (g:GE) (m:List Md) (f:FE):TE:=fun σ H Q=>∃r G,SI X g m r G σ H/\fin (f r) (fun d=>∀v G' H',Grow X.K G H G' H'->RG X.K G' v d->Q v H') (XW X σ G H)
noncomputable def tB (X:Cx) (g:GE) (m:List Md) (f:FE):TE:=fun σ H Q=>∃r G,SI X g m r G σ H/\fin (f r) (fun d=>∀v G' H',Grow X.K G H G' H'->RB X.K G' H' v d->Q v H') (XW X σ G H)
noncomputable def tO (X:Cx) (g:GE) (m:List Md) (f:FE):TE:=fun σ H Q=>∃r G,SI X g m r G σ H/\fin (f r) (fun d=>∀a G' H',Grow X.K G H G' H'->H a=none->Own X.K G' H' a d->Q (.ref a) H') (XW X σ G H)
noncomputable def tQ (X:Cx) (g:GE) (m:List Md) (f:Rho->Res Bool):TT:=fun σ H Q=>∃r G,SI X g m r G σ H/\fin (f r) (fun b=>∀G' H',Grow X.K G H G' H'->Q b H') (XW X σ G H)
noncomputable def tL (X:Cx) (g:GE) (m:List Md) (f:Rho->Res (List D)):TA:=fun σ H Q=>∃r G,SI X g m r G σ H/\fin (f r) (fun ds=>∀vs G' H',Grow X.K G H G' H'->RGs X.K G' vs ds->Q vs H') (XW X σ G H)
noncomputable def tLB (X:Cx) (g:GE) (m:List Md) (f:Rho->Res (List D)):TA:=fun σ H Q=>∃r G,SI X g m r G σ H/\fin (f r) (fun ds=>∀vs G' H',Grow X.K G H G' H'->Paired (RB X.K G' H') vs ds->Q vs H') (XW X σ G H)
noncomputable def SE (X:Cx) (g:GE) (m:List Md) (e:Expr) (f:FE):Prop:=PE X e (tE X g m f)
noncomputable def SB (X:Cx) (g:GE) (m:List Md) (e:Expr) (f:FE):Prop:=PE X e (tB X g m f)
noncomputable def SO (X:Cx) (g:GE) (m:List Md) (e:Expr) (f:FE):Prop:=PE X e (tO X g m f)
noncomputable def SQ (X:Cx) (g:GE) (m:List Md) (e:Expr) (f:Rho->Res Bool):Prop:=PT X e (tQ X g m f)
noncomputable def SW (X:Cx) (g:GE) (m:List Md) (e:Expr) (f:Rho->Res Bool):Prop:=PW X e (tQ X g m f)
noncomputable def SA (X:Cx) (g:GE) (m:List Md) (es:List Expr) (f:Rho->Res (List D)):Prop:=PA X es (tL X g m f)
noncomputable def SAB (X:Cx) (g:GE) (m:List Md) (es:List Expr) (f:Rho->Res (List D)):Prop:=PA X es (tLB X g m f)
section
variable {X:Cx} {g:GE} {m:List Md} {e a b c:Expr} {f fa fb fc:FE} {pos:Pos}
theorem SE.toB (h:SE X g m e f):SB X g m e f:=PE.imp h fun σ H Q ⟨r,G,si,q⟩=>⟨r,G,si,zag q fun d k v G' H' w z=>k v G' H' w z.rb⟩
theorem Inv.fast {pins:List (Addr × Obj)} {σ:L2.St} {H:Hp} {s:Shared} (I:Inv X pins σ H s) (a:Addr):∃ob,Inv X pins σ (fz H a ob) s:=by
 cases e:H a with
 | none=>exact ⟨{ cls:=.none,data:=.fields #[] },by unfold fz; rw [e]; exact I⟩
 | some u=>
  cases u with
  | dK ps=>
   obtain ⟨z1,z2,vs,z3,o,es,ep,z4,z5⟩:=(show za9 X.prog X.w H s.heap a (.dK ps) from I.hok a _ e)
   have ef:fz H a o=upd H a (.frz o (.dK ps)):=by unfold fz; rw [e]
   refine ⟨o,?_⟩
   rw [ef]
   exact I.write (t':=s.toks) (h':=s.heap) (x:=a) (e:=a) (by rw [e]; exact trivial) (.inl rfl) (fun b u _ q=>q) ⟨o,z4⟩ (show za9 X.prog X.w _ s.heap a (.frz o (.dK ps)) from ⟨z4,z1,z2,vs,z3,o,es,ep,z4,z5⟩)
  | _=>exact ⟨{ cls:=.none,data:=.fields #[] },by unfold fz; rw [e]; exact I⟩
theorem SO.toE (h:SO X g m e f):SE X g m e f:=by
 intro pins s σ H Q I ⟨r,G,si,q⟩
 refine thn (h pins s σ H (fun v H'=>∃a,v=.ref a/\∀ob,Q v (fz H' a ob)) I ⟨r,G,si,zag q fun d k a G' H' w hn o=>⟨a,rfl,fun ob=>k _ _ _ (w.frz hn o ob) (.ref zaL)⟩⟩) fun u s' ⟨v,H',I',rv,a,_,z⟩=>?_
 obtain ⟨ob,I2⟩:=Inv.fast I' a
 exact ⟨v,_,I2,rv,z ob⟩
theorem SO.toB (h:SO X g m e f):SB X g m e f:=h.toE.toB
theorem SE.eq {f':FE} (h:SE X g m e f) (q:∀r,f' r=f r):SE X g m e f':=by
 have:f'=f:=funext q
 rw [this]; exact h
theorem ziZ {v:V} {d:D} (h:PE X e (tC v)) (s:Scl v d):SE X g m e fun _=>.ok d:=
 PE.imp h fun σ H Q ⟨r,G,si,q⟩=>q v G H (Grow.refl si.gok) (.scl s)
theorem zqT {i:Int} {j}:SE X g m (.Constant (.int i) j pos) fun _=>.ok (.int i):=ziZ zri (.int i)
theorem s_bl {i:Bool} {j}:SE X g m (.Constant (.bool i) j pos) fun _=>.ok (.bl i):=ziZ zs0 (.bl i)
theorem zf2 {j}:SE X g m (.Constant .none j pos) fun _=>.ok .non:=ziZ zrg .non
noncomputable def getV (r:Rho) (i:Nat):Res D:=match r[i]? with
 | some (some d)=>.ok d
 | _=>.stuck
theorem zhN {r:Rho} {i:Nat} {q:D->Prop} {x:D->Prop} (h:fin (getV r i) q x):∃d,r[i]? = some (some d)/\q d:=by
 unfold getV at h
 split at h
 ·rename_i d e; exact ⟨d,e,h⟩
 ·exact h.elim
theorem zsP (i:Nat) {x:Str} (hm:m[i]? = some .sh) (hN:X.N[i]? = some x) (hv:Vis X.env.scope x) (hd:(x == ("__debug__" : Str))=false:=by decide) (hcd:(x == ("__classdict__" : Str))=false:=by decide) :
  SE X g m (.Name x pos) fun r=>getV r i:=by
 refine PE.imp (zfx hN hv hd hcd) fun σ H Q ⟨r,G,si,q⟩=>?_
 obtain ⟨d,e,k⟩:=zhN q
 obtain ⟨v,e1,e2⟩:=si.sh i d e hm
 exact ⟨v,e1,k v G H (Grow.refl si.gok) e2⟩
theorem zqR (i:Nat) {x:Str} (hm:i < m.length) (hN:X.N[i]? = some x) (hv:Vis X.env.scope x) (hd:(x == ("__debug__" : Str))=false:=by decide) (hcd:(x == ("__classdict__" : Str))=false:=by decide) :
  SB X g m (.Name x pos) fun r=>getV r i:=by
 refine PE.imp (zfx hN hv hd hcd) fun σ H Q ⟨r,G,si,q⟩=>?_
 obtain ⟨d,e,k⟩:=zhN q
 have hm':m[i]? = some m[i]:=List.getElem?_eq_getElem hm
 cases h:m[i] with
 | sh=>
  obtain ⟨v,e1,e2⟩:=si.sh i d e (hm'.trans (by rw [h]))
  exact ⟨v,e1,k v G H (Grow.refl si.gok) e2.rb⟩
 | ow=>
  obtain ⟨v,e1,e2,_⟩:=si.ow i d e (hm'.trans (by rw [h]))
  exact ⟨_,e1,k _ G H (Grow.refl si.gok) (.inr ⟨v,rfl,e2⟩)⟩
 | bw=>
  obtain ⟨v,e1,e2⟩:=si.bw i d e (hm'.trans (by rw [h]))
  exact ⟨_,e1,k _ G H (Grow.refl si.gok) e2.rb⟩
theorem seq2 {β:Type} {k:D->D->Res β} {q:β->Prop} {R:V->V->Hp->Prop} {r:Rho} {G:GH} {σ:L2.St} {H:Hp} (si:SI X g m r G σ H)
  (h:fin ((fa r).bind fun d1=>(fb r).bind fun d2=>k d1 d2) q (XW X σ G H))
  (hk:∀d1 d2 v1 v2 G2 H2,Grow X.K G H G2 H2->RB X.K G2 H2 v1 d1->RB X.K G2 H2 v2 d2->fin (k d1 d2) q (XW X σ G H)->R v1 v2 H2) :
  tB X g m fa σ H fun v1 H1=>tB X g m fb σ H1 fun v2 H2=>R v1 v2 H2:=by
 refine ⟨r,G,si,zag (zai h) fun d1 h1 v1 G1 H1 w1 r1=>⟨r,G1,si.grow w1,?_⟩⟩
 cases e:fb r with
 | ok d2=>
  rw [e] at h1
  exact fun v2 G2 H2 w2 r2=>hk d1 d2 v1 v2 G2 H2 (w1.trans w2) (r1.mono w2) r2 h1
 | exc x=>
  rw [e] at h1
  exact (show XW X σ G H x from h1).grow w1
 | stuck=>
  rw [e] at h1
  exact h1
noncomputable def opt {α:Type}:Option α->Res α
 | some a=>.ok a
 | none=>.stuck
@[simp] theorem opt_some {α:Type} (a:α):opt (some a)=.ok a:=rfl
@[simp] theorem opt_none {α:Type}:opt (none:Option α)=.stuck:=rfl
theorem zaJ {α:Type} {o:Option α} {q:α->Prop} {x:D->Prop} (h:fin (opt o) q x):∃a,o=some a/\q a:=by
 cases o with
 | none=>exact h.elim
 | some a=>exact ⟨a,rfl,h⟩
noncomputable def OpD (K:PySem.W.Frag) (r:R2) (k:D->D->Option D):Prop:=∀(G:GH) (H:Hp) (v1 v2:V) (d1 d2 d:D) (Q:VK),GOk K G H->RB K G H v1 d1->RB K G H v2 d2->k d1 d2=some d ->
 (∀v G' H',Grow K G H G' H'->RG K G' v d->Q v H')->r v1 v2 H Q
noncomputable def f2 (fa fb:FE) (k:D->D->Option D):FE:=fun r=>(fa r).bind fun d1=>(fb r).bind fun d2=>opt (k d1 d2)
theorem zpg {R:R2} {k:D->D->Option D} (ho:OpD X.K R k) (h:PE X e (tOp R (tB X g m fa) (tB X g m fb))):SE X g m e (f2 fa fb k):=by
 refine PE.imp h fun σ H Q ⟨r,G,si,q⟩=>?_
 refine seq2 si q fun d1 d2 v1 v2 G2 H2 w r1 r2 q2=>?_
 obtain ⟨d,e,q2⟩:=zaJ q2
 exact ho G2 H2 v1 v2 d1 d2 d Q w.ok r1 r2 e fun v G' H' w' z=>q2 v G' H' (w.trans w') z
theorem zky {op:Operator} {R:R2} {k:D->D->Option D} (hr:OpR X (binaryOp op) R) (ho:OpD X.K R k) (ha:SB X g m a fa) (hb:SB X g m b fb):SE X g m (.BinOp a op b pos) (f2 fa fb k):=zpg ho (zsY hr ha hb)
theorem zpj {op:CmpOp} {R:R2} {k:D->D->Option D} (hr:OpR X (compareOp op) R) (ho:OpD X.K R k) (ha:SB X g m a fa) (hb:SB X g m b fb) (hm:behindInMarks op b=false):SE X g m (.Compare a [op] [b] pos) (f2 fa fb k):=zpg ho (zpG hr ha hb hm)
noncomputable def asB:D->Option Bool
 | .bl b=>some b
 | _=>none
noncomputable def zaB (f:FE):Rho->Res Bool:=fun r=>(f r).bind fun d=>opt (asB d)
theorem zhw {op:CmpOp} {R:R2} {k:D->D->Option D} (hr:OpR X (compareOp op) R) (ho:OpD X.K R k) (ha:SB X g m a fa) (hb:SB X g m b fb) (hm:behindInMarks op b=false):SQ X g m (.Compare a [op] [b] pos) (zaB (f2 fa fb k)):=by
 refine PT.imp (zpz hr ha hb hm) fun σ H Q ⟨r,G,si,q⟩=>?_
 have e:zaB (f2 fa fb k) r=(fa r).bind fun d1=>(fb r).bind fun d2=>(opt (k d1 d2)).bind fun d=>opt (asB d):=by
  unfold zaB f2
  cases fa r with
  | ok d1=>cases fb r <;> rfl
  | exc _=>rfl
  | stuck=>rfl
 rw [e] at q
 refine seq2 (R:=fun x y H2=>R x y H2 fun x H'=>∃k,x=V.bl k/\Q k H') si q fun d1 d2 v1 v2 G2 H2 w r1 r2 q3=>?_
 obtain ⟨d,e,q3⟩:=zaJ (zai q3)
 obtain ⟨b,eb,q3⟩:=zaJ q3
 cases d with
 | bl b'=>
  cases eb
  exact ho G2 H2 v1 v2 d1 d2 _ _ w.ok r1 r2 e fun v G' H' w' z=>⟨_,z.bl w'.ok,q3 G' H' (w.trans w')⟩
 | _=>cases eb
end
end DL
end
section
namespace DL
open PySem PySem.Spec PyProof.Rows L2
instance decMul (i j:Int):Decidable (CMul i j):=by unfold CMul; infer_instance
instance decDiv (i j:Int):Decidable (CDiv i j):=by unfold CDiv; infer_instance
instance decPow (i j:Int):Decidable (CPow i j):=by unfold CPow; infer_instance
noncomputable def zjl (k:Int->Int->D):D->D->Option D
 | .int a,.int b=>some (k a b)
 | _,_=>none
noncomputable def zix (C:Int->Int->Prop) [∀a b,Decidable (C a b)] (k:Int->Int->D):D->D->Option D
 | .int a,.int b=>if C a b then some (k a b) else none
 | _,_=>none
@[simp] theorem ints2_int (k:Int->Int->D) (a b:Int):zjl k (.int a) (.int b)=some (k a b):=rfl
@[simp] theorem intsC_int (C:Int->Int->Prop) [∀a b,Decidable (C a b)] (k:Int->Int->D) (a b:Int):zix C k (.int a) (.int b)=if C a b then some (k a b) else none:=rfl
section
variable {K:PySem.W.Frag}
theorem zfd {gv:Int->Int->V} {gd:Int->Int->D} (hs:∀i j,Scl (gv i j) (gd i j)):OpD K (rI0 gv) (zjl gd):=by
 intro G H v1 v2 d1 d2 d Q g r1 r2 e q
 unfold zjl at e
 split at e
 ·cases e
  exact ⟨_,_,r1.int g,r2.int g,q _ G H (Grow.refl g) (.scl (hs _ _))⟩
 ·cases e
theorem zfO {C:Int->Int->Prop} [∀a b,Decidable (C a b)] {gv:Int->Int->V} {gd:Int->Int->D} (hs:∀i j,Scl (gv i j) (gd i j)):OpD K (rI C gv) (zix C gd):=by
 intro G H v1 v2 d1 d2 d Q g r1 r2 e q
 unfold zix at e
 split at e
 ·split at e
  ·rename_i hc
   cases e
   exact ⟨_,_,r1.int g,r2.int g,hc,q _ G H (Grow.refl g) (.scl (hs _ _))⟩
  ·cases e
 ·cases e
theorem OpD.or {r r':R2} {k k':D->D->Option D} (h:OpD K r k) (h':OpD K r' k'):OpD K (fun x y H Q=>r x y H Q\/r' x y H Q) (fun a b=>match k a b with | some d=>some d | none=>k' a b):=by
 intro G H v1 v2 d1 d2 d Q g r1 r2 e q
 cases e1:k d1 d2 with
 | some d'=>
  simp only [e1] at e
  cases e
  exact .inl (h G H v1 v2 d1 d2 d Q g r1 r2 e1 q)
 | none=>
  simp only [e1] at e
  exact .inr (h' G H v1 v2 d1 d2 d Q g r1 r2 e q)
end
noncomputable abbrev mulI:D->D->Option D:=zix CMul fun a b=>.int (a * b)
noncomputable abbrev zhO:D->D->Option D:=zix CDiv fun a b=>.int (a / b)
noncomputable abbrev modI:D->D->Option D:=zix (fun _ b=>0 < b) fun a b=>.int (a % b)
noncomputable abbrev powI:D->D->Option D:=zix CPow fun a b=>.int (a ^ b.toNat)
noncomputable abbrev ltI:D->D->Option D:=zjl fun a b=>.bl (decide (a < b))
noncomputable abbrev leI:D->D->Option D:=zjl fun a b=>.bl (decide (a<=b))
noncomputable abbrev gtI:D->D->Option D:=zjl fun a b=>.bl (decide (b < a))
noncomputable abbrev geI:D->D->Option D:=zjl fun a b=>.bl (decide (b<=a))
section
variable {X:Cx} {g:GE} {m:List Md} {e a b c:Expr} {f fa fb fc:FE} {pos:Pos}
theorem ziY (ha:SB X g m a fa) (hb:SB X g m b fb):SE X g m (.BinOp a .Mult b pos) (f2 fa fb mulI):=zky zrp (zfO fun _ _=>.int _) ha hb
theorem zlp (ha:SB X g m a fa) (hb:SB X g m b fb):SE X g m (.BinOp a .FloorDiv b pos) (f2 fa fb zhO):=zky zpP (zfO fun _ _=>.int _) ha hb
theorem zeL (ha:SB X g m a fa) (hb:SB X g m b fb):SE X g m (.BinOp a .Mod b pos) (f2 fa fb modI):=zky zrq (zfO fun _ _=>.int _) ha hb
theorem zsS (ha:SB X g m a fa) (hb:SB X g m b fb):SE X g m (.BinOp a .Pow b pos) (f2 fa fb powI):=zky zrn (zfO fun _ _=>.int _) ha hb
theorem s_lt (ha:SB X g m a fa) (hb:SB X g m b fb):SE X g m (.Compare a [.Lt] [b] pos) (f2 fa fb ltI):=zpj zpO (zfd fun _ _=>.bl _) ha hb (zeh _)
theorem q_lt (ha:SB X g m a fa) (hb:SB X g m b fb):SQ X g m (.Compare a [.Lt] [b] pos) (zaB (f2 fa fb ltI)):=zhw zpO (zfd fun _ _=>.bl _) ha hb (zeh _)
theorem q_gt (ha:SB X g m a fa) (hb:SB X g m b fb):SQ X g m (.Compare a [.Gt] [b] pos) (zaB (f2 fa fb gtI)):=zhw zs3 (zfd fun _ _=>.bl _) ha hb (zeh _)
theorem q_ge (ha:SB X g m a fa) (hb:SB X g m b fb):SQ X g m (.Compare a [.GtE] [b] pos) (zaB (f2 fa fb geI)):=zhw zs4 (zfd fun _ _=>.bl _) ha hb (zeh _)
noncomputable def f1 (fa:FE) (k:D->Option D):FE:=fun r=>(fa r).bind fun d=>opt (k d)
noncomputable def negI:D->Option D
 | .int a=>some (.int (-a))
 | _=>none
@[simp] theorem negI_int (a:Int):negI (.int a)=some (.int (-a)):=rfl
theorem zpi (ha:SB X g m a fa):SE X g m (.UnaryOp .USub a pos) (f1 fa negI):=by
 refine PE.imp (zsX zqz ha) fun σ H Q ⟨r,G,si,q⟩=>⟨r,G,si,zag (zai q) fun d q1 v G1 H1 w1 r1=>?_⟩
 obtain ⟨d',e,q2⟩:=zaJ q1
 cases d with
 | int i=>
  cases e
  exact ⟨i,r1.int w1.ok,q2 _ G1 H1 w1 (.scl (.int _))⟩
 | _=>cases e
noncomputable def truD:D->Option Bool
 | .non=>some false
 | .bl b=>some b
 | .int i=>some (i != 0)
 | .str y=>if y.length<=sizeLine then some ((y.length:Int) != 0) else none
 | .lst ds=>some (! ds.isEmpty)
 | .tup ds=>some (! ds.isEmpty)
 | .dic kvs=>some (! kvs.isEmpty)
 | .obj _ _=>none
theorem zge {α β:Type} {F:α->β->Prop} {l:List α} {r:List β} (h:Paired F l r):l.isEmpty=r.isEmpty:=by cases h <;> rfl
theorem zo7 {K:PySem.W.Frag} {G:GH} {H:Hp} {v:V} {d:D} {b:Bool} (gk:GOk K G H) (h:RB K G H v d) (e:truD d=some b):TruV K v H b:=by
 cases d with
 | non=>cases e; rw [h.non gk]; rfl
 | bl b'=>cases e; rw [h.bl gk]; rfl
 | int i=>cases e; rw [h.int gk]; rfl
 | str y=>
  rw [h.str gk]
  have e':(if y.length<=sizeLine then some ((y.length:Int) != 0) else none)=some b:=e
  by_cases hy:y.length<=sizeLine
  ·rw [if_pos hy] at e'; cases e'; exact ⟨hy,rfl⟩
  ·rw [if_neg hy] at e'; cases e'
 | lst ds=>
  cases e
  obtain ⟨a,xs,rfl,s,r⟩:=h.lst gk
  exact .inl ⟨xs,s,by rw [zge r]⟩
 | tup ds=>
  cases e
  obtain ⟨a,xs,rfl,s,r⟩:=h.tup gk
  exact .inr (.inl ⟨xs,s,by rw [zge r]⟩)
 | dic kvs=>
  cases e
  obtain ⟨a,xs,rfl,s,r⟩:=h.dic gk
  exact .inr (.inr ⟨xs,s,by rw [zge r]⟩)
 | obj _ _=>cases e
noncomputable def fTru (f:FE):Rho->Res Bool:=fun r=>(f r).bind fun d=>opt (truD d)
theorem zeb (ha:SB X g m a fa) (he:∀whole,isTrue a X.env whole=(do let v <-whole; standAt a.pos; holding [v] (truthy v)):=by intro _; rfl):SQ X g m a (fTru fa):=by
 refine PT.imp (znz ha he) fun σ H Q ⟨r,G,si,q⟩=>⟨r,G,si,zag (zai q) fun d q1 v G1 H1 w1 r1=>?_⟩
 obtain ⟨b,e,q2⟩:=zaJ q1
 exact ⟨b,zo7 w1.ok r1 e,q2 G1 H1 w1⟩
noncomputable abbrev FQ:=Rho->Res Bool
noncomputable def fAnd (p q:FQ):FQ:=fun r=>(p r).bind fun c=>if c=true then q r else .ok false
noncomputable def fOr (p q:FQ):FQ:=fun r=>(p r).bind fun c=>if c=true then .ok true else q r
noncomputable def fNot (p:FQ):FQ:=fun r=>(p r).bind fun c=>.ok (! c)
variable {p q:FQ} {rest:List Expr}
theorem ztm {α:Type} {r:Res α} {q:α->Prop} {x x':D->Prop} (h:fin r q x) (hx:∀e,x e->x' e):fin r q x':=by
 cases r with
 | ok a=>exact h
 | exc e=>exact hx e h
 | stuck=>exact h
theorem zbd {α:Type} {r:Res α} {σ:L2.St} {G G1:GH} {H H1:Hp} {P P':α->Prop} (h:fin r P (XW X σ G H)) (w:Grow X.K G H G1 H1) (hp:∀a,P a->P' a):fin r P' (XW X σ G1 H1):=ztm (zag h hp) fun _ x=>x.grow w
theorem zlK (ha:SQ X g m a p):SW X g m (.BoolOp .And [a] pos) p:=zpw ha
theorem zkI (ha:SQ X g m a p):SW X g m (.BoolOp .Or [a] pos) p:=zq7 ha
theorem zpv (ha:SQ X g m a p) (hb:SW X g m (.BoolOp .And (b::rest) pos) q):SW X g m (.BoolOp .And (a::b::rest) pos) (fAnd p q):=by
 refine PW.imp (zq8 ha hb) fun σ H Q ⟨r,G,si,k⟩=>⟨r,G,si,zag (zai k) fun c k1 G1 H1 w1=>?_⟩
 cases c with
 | true=>rw [if_pos rfl] at k1 ⊢; exact ⟨r,G1,si.grow w1,zbd k1 w1 fun b z G' H' w'=>z G' H' (w1.trans w')⟩
 | false=>rw [if_neg Bool.false_ne_true] at k1 ⊢; exact k1 G1 H1 w1
theorem q_or (ha:SQ X g m a p) (hb:SW X g m (.BoolOp .Or (b::rest) pos) q):SW X g m (.BoolOp .Or (a::b::rest) pos) (fOr p q):=by
 refine PW.imp (zsV ha hb) fun σ H Q ⟨r,G,si,k⟩=>⟨r,G,si,zag (zai k) fun c k1 G1 H1 w1=>?_⟩
 cases c with
 | true=>rw [if_pos rfl] at k1 ⊢; exact k1 G1 H1 w1
 | false=>rw [if_neg Bool.false_ne_true] at k1 ⊢; exact ⟨r,G1,si.grow w1,zbd k1 w1 fun b z G' H' w'=>z G' H' (w1.trans w')⟩
theorem SW.toQ (h:SW X g m e p):SQ X g m e p:=PW.pt h
theorem zfH (ha:SQ X g m a p):SQ X g m (.UnaryOp .Not a pos) (fNot p):=
 PT.imp (zq9 ha) fun σ H Q ⟨r,G,si,k⟩=>⟨r,G,si,zag (zai k) fun c k1 G1 H1 w1=>k1 G1 H1 w1⟩
noncomputable def vAnd (fa fb:FE):FE:=fun r=>(fa r).bind fun d=>(opt (asB d)).bind fun c=>if c=true then fb r else .ok (.bl false)
noncomputable def vOr (fa fb:FE):FE:=fun r=>(fa r).bind fun d=>(opt (asB d)).bind fun c=>if c=true then .ok (.bl true) else fb r
noncomputable def vNot (fa:FE):FE:=fun r=>(fa r).bind fun d=>(opt (asB d)).bind fun c=>.ok (.bl (! c))
theorem zkw {op} (h:SE X g m a fa):SE X g m (.BoolOp op [a] pos) fa:=zre h
theorem zkz (ha:SE X g m a fa) (hb:SE X g m (.BoolOp .And (b::rest) pos) fb):SE X g m (.BoolOp .And (a::b::rest) pos) (vAnd fa fb):=by
 refine PE.imp (zrl ha hb) fun σ H Q ⟨r,G,si,k⟩=>⟨r,G,si,zag (zai k) fun d k1 v G1 H1 w1 r1=>?_⟩
 obtain ⟨c,e,k2⟩:=zaJ (zai k1)
 cases d with
 | bl c'=>
  cases e
  refine ⟨_,r1.bl w1.ok,?_⟩
  cases c with
  | true=>rw [if_pos rfl] at k2 ⊢; exact ⟨r,G1,si.grow w1,zbd k2 w1 fun b z v G' H' w'=>z v G' H' (w1.trans w')⟩
  | false=>rw [if_neg Bool.false_ne_true] at k2 ⊢; exact k2 _ G1 H1 w1 (.scl (.bl _))
 | _=>cases e
theorem zph (ha:SE X g m a fa):SE X g m (.UnaryOp .Not a pos) (vNot fa):=by
 refine PE.imp (zrf ha) fun σ H Q ⟨r,G,si,k⟩=>⟨r,G,si,zag (zai k) fun d k1 v G1 H1 w1 r1=>?_⟩
 obtain ⟨c,e,k2⟩:=zaJ (zai k1)
 cases d with
 | bl c'=>cases e; exact ⟨_,r1.bl w1.ok,k2 _ G1 H1 w1 (.scl (.bl _))⟩
 | _=>cases e
noncomputable def fIf (p:FQ) (fa fb:FE):FE:=fun r=>(p r).bind fun c=>if c=true then fa r else fb r
theorem zqU (hc:SQ X g m c p) (ha:SE X g m a fa) (hb:SE X g m b fb):SE X g m (.IfExp c a b pos) (fIf p fa fb):=by
 refine PE.imp (znF hc ha hb) fun σ H Q ⟨r,G,si,k⟩=>⟨r,G,si,zag (zai k) fun c k1 G1 H1 w1=>?_⟩
 cases c with
 | true=>rw [if_pos rfl] at k1 ⊢; exact ⟨r,G1,si.grow w1,zbd k1 w1 fun b z v G' H' w'=>z v G' H' (w1.trans w')⟩
 | false=>rw [if_neg Bool.false_ne_true] at k1 ⊢; exact ⟨r,G1,si.grow w1,zbd k1 w1 fun b z v G' H' w'=>z v G' H' (w1.trans w')⟩
variable {es:List Expr} {fl fr:Rho->Res (List D)}
noncomputable def lNil:Rho->Res (List D):=fun _=>.ok []
noncomputable def zac (fa:FE) (fl:Rho->Res (List D)):Rho->Res (List D):=fun r=>(fa r).bind fun d=>(fl r).bind fun ds=>.ok (d::ds)
theorem zcM:SA X g m [] lNil:=PA.imp zeQ fun σ H Q ⟨r,G,si,k⟩=>k [] G H (Grow.refl si.gok) .nil
theorem zbD (ha:SE X g m e fa) (hr:SA X g m es fl) (hs:starEach (e::es) X.env=(false,eval e X.env)::starEach es X.env:=by rfl):SA X g m (e::es) (zac fa fl):=by
 refine PA.imp (zcy ha hr hs) fun σ H Q ⟨r,G,si,k⟩=>⟨r,G,si,zag (zai k) fun d k1 v G1 H1 w1 r1=>⟨r,G1,si.grow w1,?_⟩⟩
 exact zbd (zai k1) w1 fun ds z vs G2 H2 w2 r2=>z (v::vs) G2 H2 (w1.trans w2) (.cons (r1.mono w2.ge) r2)
theorem zaE:SAB X g m [] lNil:=PA.imp zeQ fun σ H Q ⟨r,G,si,k⟩=>k [] G H (Grow.refl si.gok) .nil
theorem zan (ha:SB X g m e fa) (hr:SAB X g m es fl) (hs:starEach (e::es) X.env=(false,eval e X.env)::starEach es X.env:=by rfl):SAB X g m (e::es) (zac fa fl):=by
 refine PA.imp (zcy ha hr hs) fun σ H Q ⟨r,G,si,k⟩=>⟨r,G,si,zag (zai k) fun d k1 v G1 H1 w1 r1=>⟨r,G1,si.grow w1,?_⟩⟩
 exact zbd (zai k1) w1 fun ds z vs G2 H2 w2 r2=>z (v::vs) G2 H2 (w1.trans w2) (.cons (r1.mono w2) r2)
noncomputable def sz (ds:List D):Option (List D):=if ds.length<=sizeLine then some ds else none
theorem zpb {ds ds':List D} (h:sz ds=some ds'):ds'=ds/\ds.length<=sizeLine:=by
 unfold sz at h; split at h
 ·rename_i hl; cases h; exact ⟨rfl,hl⟩
 ·cases h
theorem zsN {ds:List D} (h:ds.length<=sizeLine):sz ds=some ds:=if_pos h
noncomputable def mkT (fl:Rho->Res (List D)):FE:=fun r=>(fl r).bind fun ds=>(opt (sz ds)).bind fun ds=>.ok (.tup ds)
noncomputable def mkL (fl:Rho->Res (List D)):FE:=fun r=>(fl r).bind fun ds=>(opt (sz ds)).bind fun ds=>.ok (.lst ds)
theorem znk {x1} (h:SA X g m es fl):SE X g m (.Tuple es x1 pos) (mkT fl):=by
 refine PE.imp (zrd h) fun σ H Q ⟨r,G,si,k⟩=>⟨r,G,si,zag (zai k) fun ds k1 vs G1 H1 w1 r1=>?_⟩
 obtain ⟨ds',e,k2⟩:=zaJ (zai k1)
 obtain ⟨rfl,hl⟩:=zpb e
 have hlen:=Paired.length r1
 refine ⟨by omega,fun p hp=>?_⟩
 exact k2 _ _ _ (w1.trans (Grow.newF (d:=.tup ds') w1.ok hp (.tup (.inl zaq) r1))) (.ref zaL)
theorem zim (h:SA X g m es fl):SO X g m (.List es pos) (mkL fl):=by
 refine PE.imp (zrh h) fun σ H Q ⟨r,G,si,k⟩=>⟨r,G,si,zag (zai k) fun ds k1 vs G1 H1 w1 r1=>?_⟩
 obtain ⟨ds',e,k2⟩:=zaJ (zai k1)
 obtain ⟨rfl,hl⟩:=zpb e
 have hlen:=Paired.length r1
 refine ⟨by omega,fun p hp=>?_⟩
 have hn:H p=none:=by
  cases q:H p with
  | none=>rfl
  | some o=>rw [w1.he _ _ q] at hp; cases hp
 exact k2 p G1 _ (w1.trans (Grow.new w1.ok hp _)) hn ⟨w1.ok.isN hp,.lst zaq r1⟩
end
end DL
end
section
namespace DL
open PySem PySem.Spec PyProof.Rows L2
noncomputable def zjE (K:PySem.W.Frag) (r:List V->Hp->VK->Prop) (k:List D->Option D):Prop:=∀(G:GH) (H:Hp) (vs:List V) (ds:List D) (d:D) (Q:VK),GOk K G H->Paired (RB K G H) vs ds->k ds=some d ->
 (∀v G' H',Grow K G H G' H'->RG K G' v d->Q v H')->r vs H Q
noncomputable def zsy (K:PySem.W.Frag) (r:List V->Hp->VK->Prop) (k:List D->Option D):Prop:=∀(G:GH) (H:Hp) (vs:List V) (ds:List D) (d:D) (Q:VK),GOk K G H->Paired (RB K G H) vs ds->k ds=some d ->
 (∀a G' H',Grow K G H G' H'->H a=none->Own K G' H' a d->Q (.ref a) H')->r vs H Q
noncomputable def fC (fl:Rho->Res (List D)) (k:List D->Option D):FE:=fun r=>(fl r).bind fun ds=>opt (k ds)
theorem Grow.back {K:PySem.W.Frag} {G G1:GH} {H H1:Hp} (w:Grow K G H G1 H1) {a:Addr} (hn:H1 a=none):H a=none:=by
 cases q:H a with
 | none=>rfl
 | some o=>rw [w.he _ _ q] at hn; cases hn
section
variable {X:Cx} {g:GE} {m:List Md} {e a b c:Expr} {f fa fb fc:FE} {pos p p2:Pos} {es:List Expr} {fl:Rho->Res (List D)} {x:Str} {id T:String} {R:List V->Hp->VK->Prop} {k:List D->Option D}
theorem s_cb (hk:zjE X.K R k) (h:PE X e (tCB R (tLB X g m fl))):SE X g m e (fC fl k):=by
 refine PE.imp h fun σ H Q ⟨r,G,si,q⟩=>⟨r,G,si,zag (zai q) fun ds q1 vs G1 H1 w1 r1=>?_⟩
 obtain ⟨d,e,q2⟩:=zaJ q1
 exact hk G1 H1 vs ds d Q w1.ok r1 e fun v G' H' w' z=>q2 v G' H' (w1.trans w') z
theorem zpk (hk:zsy X.K R k) (h:PE X e (tCB R (tLB X g m fl))):SO X g m e (fC fl k):=by
 refine PE.imp h fun σ H Q ⟨r,G,si,q⟩=>⟨r,G,si,zag (zai q) fun ds q1 vs G1 H1 w1 r1=>?_⟩
 obtain ⟨d,e,q2⟩:=zaJ q1
 exact hk G1 H1 vs ds d Q w1.ok r1 e fun v G' H' w' hn z=>q2 v G' H' (w1.trans w') (w1.back hn) z
noncomputable def lenD:List D->Option D
 | [.str y]=>if y.length<=sizeLine then some (.int y.length) else none
 | [.lst ds]=>some (.int ds.length)
 | [.tup ds]=>some (.int ds.length)
 | [.dic kvs]=>some (.int kvs.length)
 | _=>none
theorem zrG {K:PySem.W.Frag}:zjE K (fun xs H Q=>(∃x n,xs=[x]/\LenV K x H n/\Q (.int n) H)\/∃a kvs,xs=[V.ref a]/\Rd H a (.dK kvs)/\Q (.int kvs.length) H) lenD:=by
 intro G H vs ds d Q gk rs e q
 unfold lenD at e
 split at e
 ·split at e
  ·cases e
   cases rs with
   | cons r t=>cases t; exact .inl ⟨_,_,rfl,by rw [r.str gk]; exact ⟨by assumption,rfl⟩,q _ G H (Grow.refl gk) (.scl (.int _))⟩
  ·cases e
 ·cases e
  cases rs with
  | cons r t=>
   cases t
   obtain ⟨a,xs,rfl,s,r⟩:=r.lst gk
   have:=Paired.length r
   exact .inl ⟨_,_,rfl,.inl ⟨xs,s,rfl⟩,q _ G H (Grow.refl gk) (.scl (by rw [this]; exact .int _))⟩
 ·cases e
  cases rs with
  | cons r t=>
   cases t
   obtain ⟨a,xs,rfl,s,r⟩:=r.tup gk
   have:=Paired.length r
   exact .inl ⟨_,_,rfl,.inr ⟨xs,s,rfl⟩,q _ G H (Grow.refl gk) (.scl (by rw [this]; exact .int _))⟩
 ·cases e
  cases rs with
  | cons r t=>
   cases t
   obtain ⟨a,xs,rfl,s,r⟩:=r.dic gk
   have:=Paired.length r
   exact .inr ⟨_,_,rfl,s,q _ G H (Grow.refl gk) (.scl (by rw [this]; exact .int _))⟩
 ·cases e
theorem zcn (hg:Gl X "len") (hm:X.mg "len" = none) (ha:SAB X g m (e::es) fl) (he:starEach (e::es) X.env=(false,eval e X.env)::starEach es X.env:=by rfl) (hpl:(backTo pos (starEach es X.env)).any (·.1)=false:=by rfl) :
  SE X g m (.Call (.Name "len" p) (e::es) [] pos) (fC fl lenD):=s_cb zrG (zcT (zcK.or zoh zmX) hg hm PySem.boot_len ha (by decide) (by decide) he hpl)
noncomputable def zhI:List D->Option D
 | [.lst ds]=>some (.lst ds)
 | [.tup ds]=>some (.lst ds)
 | _=>none
theorem zp7 {K:PySem.W.Frag}:zsy K (fun xs H Q=>∃p ys,xs=[.ref p]/\(SqL K H p ys\/SqT K H p ys)/\∀l,H l=none->Q (.ref l) (upd H l (.lst ys))) zhI:=by
 intro G H vs ds d Q gk rs e q
 have fin:∀{ys:List V} {zs:List D},RGs K G ys zs->(∀(a:Addr) (G':GH) (H':Hp),Grow K G H G' H'->H a=none->Own K G' H' a (.lst zs)->Q (.ref a) H')->∀l,H l=none->Q (.ref l) (upd H l (.lst ys)):=
  fun r q l hl=>q l G _ (Grow.new gk hl _) hl ⟨gk.isN hl,.lst zaq r⟩
 unfold zhI at e
 split at e
 ·cases e
  cases rs with
  | cons r t=>
   cases t
   obtain ⟨a,xs,rfl,s,r⟩:=r.lst gk
   exact ⟨a,xs,rfl,.inl s,fin r q⟩
 ·cases e
  cases rs with
  | cons r t=>
   cases t
   obtain ⟨a,xs,rfl,s,r⟩:=r.tup gk
   exact ⟨a,xs,rfl,.inr s,fin r q⟩
 ·cases e
theorem zl7 (hg:Gl X "list") (hm:X.mg "list" = none) (ha:SAB X g m (e::es) fl) (he:starEach (e::es) X.env=(false,eval e X.env)::starEach es X.env:=by rfl) (hpl:(backTo pos (starEach es X.env)).any (·.1)=false:=by rfl) :
  SO X g m (.Call (.Name "list" p) (e::es) [] pos) (fC fl zhI):=zpk zp7 (zcx ziG hg hm rfl ha (by decide) (by decide) he hpl)
noncomputable def tupD:List D->Option D
 | [.lst ds]=>some (.tup ds)
 | [.tup ds]=>some (.tup ds)
 | _=>none
theorem zqE {K:PySem.W.Frag}:zjE K (fun xs H Q=>∃p ys,xs=[.ref p]/\((SqL K H p ys/\∀l,H l=none->Q (.ref l) (upd H l (.tup ys)))\/(SqT K H p ys/\Q (.ref p) H))) tupD:=by
 intro G H vs ds d Q gk rs e q
 unfold tupD at e
 split at e
 ·cases e
  cases rs with
  | cons r t=>
   cases t
   obtain ⟨a,xs,rfl,s,r⟩:=r.lst gk
   exact ⟨a,xs,rfl,.inl ⟨s,fun l hl=>q _ _ _ (Grow.newF gk hl (.tup (.inl zaq) r)) (.ref zaL)⟩⟩
 ·cases e
  cases rs with
  | cons r t=>
   cases t
   rcases r with r | ⟨a,_,o⟩
   ·obtain ⟨a,xs,rfl,s,r'⟩:=r.tup gk
    exact ⟨a,xs,rfl,.inr ⟨s,q _ G H (Grow.refl gk) r⟩⟩
   ·cases o.ob
 ·cases e
theorem zf1 (hg:Gl X "tuple") (hm:X.mg "tuple" = none) (ha:SAB X g m (e::es) fl) (he:starEach (e::es) X.env=(false,eval e X.env)::starEach es X.env:=by rfl) (hpl:(backTo pos (starEach es X.env)).any (·.1)=false:=by rfl) :
  SE X g m (.Call (.Name "tuple" p) (e::es) [] pos) (fC fl tupD):=s_cb zqE (zcx zhS hg hm rfl ha (by decide) (by decide) he hpl)
noncomputable def ixD:D->D->Option D
 | .lst ds,.int i=>atI ds i
 | .tup ds,.int i=>atI ds i
 | .str z,.int i=>if z.length<=sizeLine then (atI z.cps.toList i).map fun c=>.str ⟨#[c]⟩ else none
 | _,_=>none
theorem zst {K:PySem.W.Frag} {G:GH} {xs:List V} {ds:List D} {i:Int} {d:D} (r:RGs K G xs ds) (h:atI ds i=some d):∃v,atI xs i=some v/\RG K G v d:=by
 unfold atI at h ⊢
 rw [Paired.length r]
 cases e:ixN ds.length i with
 | none=>rw [e] at h; cases h
 | some j=>
  rw [e] at h
  exact Paired.get r h
theorem zqa {K:PySem.W.Frag}:OpD K (rIx K) ixD:=by
 intro G H v1 v2 d1 d2 d Q gk r1 r2 e q
 unfold ixD at e
 split at e
 ·obtain ⟨a,xs,rfl,s,r⟩:=r1.lst gk
  obtain ⟨v,ev,rv⟩:=zst r e
  exact .inl ⟨a,xs,_,v,rfl,r2.int gk,s,ev,q v G H (Grow.refl gk) rv⟩
 ·obtain ⟨a,xs,rfl,s,r⟩:=r1.tup gk
  obtain ⟨v,ev,rv⟩:=zst r e
  exact .inr (.inl ⟨a,xs,_,v,rfl,r2.int gk,s,ev,q v G H (Grow.refl gk) rv⟩)
 ·split at e
  ·rename_i z i hz
   cases ec:atI z.cps.toList i with
   | none=>rw [ec] at e; cases e
   | some c=>
    rw [ec] at e; cases e
    exact .inr (.inr ⟨z,i,c,r1.str gk,r2.int gk,hz,ec,q _ G H (Grow.refl gk) (.scl (.str _))⟩)
  ·cases e
 ·cases e
noncomputable def cutL {α:Type} (xs:List α) (lo hi:Option Int):List α:=(xs.drop (HT.sIx xs.length 0 lo)).take (HT.sIx xs.length xs.length hi - HT.sIx xs.length 0 lo)
theorem zsp {α β:Type} {F:α->β->Prop} {xs:List α} {ds:List β} (r:Paired F xs ds) (lo hi:Option Int):Paired F (cutL xs lo hi) (cutL ds lo hi):=by
 unfold cutL
 rw [Paired.length r]
 exact Paired.tk _ (Paired.dr _ r)
noncomputable abbrev FP:=Rho->Res (Option Int)
noncomputable def tP (X:Cx) (g:GE) (m:List Md) (f:FP):TO:=fun σ H Q=>∃r G,SI X g m r G σ H/\fin (f r) (fun o=>∀G' H',Grow X.K G H G' H'->Q o H') (XW X σ G H)
noncomputable def SP1 (X:Cx) (g:GE) (m:List Md) (e:Option Expr) (f:FP):Prop:=PO X e (tP X g m f)
theorem PO.imp {X:Cx} {e:Option Expr} {t t':TO} (h:PO X e t) (i:∀σ H Q,t' σ H Q->t σ H Q):PO X e t':=fun pins s σ H Q I q=>h pins s σ H Q I (i σ H Q q)
noncomputable def asI:D->Option Int
 | .int i=>some i
 | _=>none
noncomputable def zjs (f:FE):FP:=fun r=>(f r).bind fun d=>(opt (asI d)).bind fun i=>.ok (some i)
theorem zjZ:SP1 X g m none fun _=>.ok none:=PO.imp zpC fun σ H Q ⟨r,G,si,q⟩=>q G H (Grow.refl si.gok)
theorem zjY (h:SB X g m e f):SP1 X g m (some e) (zjs f):=by
 refine PO.imp (zpB h) fun σ H Q ⟨r,G,si,q⟩=>⟨r,G,si,zag (zai q) fun d q1 v G1 H1 w1 r1=>?_⟩
 obtain ⟨i,e,q2⟩:=zaJ (zai q1)
 cases d with
 | int j=>cases e; exact ⟨_,r1.int w1.ok,q2 G1 H1 w1⟩
 | _=>cases e
noncomputable def slD (d:D) (lo hi:Option Int):Option D:=match d with
 | .tup ds=>if HT.sIx ds.length 0 lo=0/\HT.sIx ds.length ds.length hi=ds.length then none else some (.tup (cutL ds lo hi))
 | .lst ds=>some (.lst (cutL ds lo hi))
 | _=>none
noncomputable def fSl (fa:FE) (fl fh:FP):FE:=fun r=>(fa r).bind fun d=>(fl r).bind fun lo=>(fh r).bind fun hi=>opt (slD d lo hi)
theorem zqO {R:V->Option Int->Option Int->Hp->Prop} {fl fh:FP} {r:Rho} {G:GH} {σ:L2.St} {H:Hp} {q:D->Prop} (si:SI X g m r G σ H) (h:fin (fSl fa fl fh r) q (XW X σ G H))
  (hk:∀d lo hi v G2 H2 d',Grow X.K G H G2 H2->RB X.K G2 H2 v d->slD d lo hi=some d'->q d'->R v lo hi H2) :
  tB X g m fa σ H fun x H1=>tP X g m fl σ H1 fun l H2=>tP X g m fh σ H2 fun u H3=>R x l u H3:=by
 refine ⟨r,G,si,zag (zai h) fun d h1 v G1 H1 w1 r1=>⟨r,G1,si.grow w1,zbd (zai h1) w1 fun lo h2 G2 H2 w2=>⟨r,G2,(si.grow w1).grow w2,?_⟩⟩⟩
 refine zbd (zai h2) (w1.trans w2) fun hi h3 G3 H3 w3=>?_
 obtain ⟨d',e,h4⟩:=zaJ h3
 exact hk d lo hi v G3 H3 d' ((w1.trans w2).trans w3) ((r1.mono w2).mono w3) e h4
theorem znl {lo hi:Option Expr} {fl fh:FP} (he:SB X g m e f) (hl:SP1 X g m lo fl) (hu:SP1 X g m hi fh):SE X g m (.Subscript e (.Slice lo hi none p2) pos) (fSl f fl fh):=by
 refine PE.imp (znE (SlR.or zpc zqM) he hl hu) fun σ H Q ⟨r,G,si,q⟩=>?_
 refine zqO si q fun d lo hi v G2 H2 d' w r1 e q2=>?_
 cases d with
 | tup ds=>
  obtain ⟨a,xs,rfl,s,r⟩:=r1.tup w.ok
  have e':(if HT.sIx ds.length 0 lo=0/\HT.sIx ds.length ds.length hi=ds.length then none else some (D.tup (cutL ds lo hi)))=some d':=e
  by_cases hw:HT.sIx ds.length 0 lo=0/\HT.sIx ds.length ds.length hi=ds.length
  ·rw [if_pos hw] at e'; cases e'
  rw [if_neg hw] at e'
  cases e'
  rw [<-Paired.length r] at hw
  refine .inr ⟨a,xs,rfl,s,hw,fun p hp=>?_⟩
  exact q2 _ _ _ (w.trans (Grow.newF w.ok hp (.tup (.inl zaq) (zsp r lo hi)))) (.ref zaL)
 | lst ds=>
  cases e
  obtain ⟨a,xs,rfl,s,r⟩:=r1.lst w.ok
  exact .inl ⟨a,xs,rfl,s,fun p hp=>q2 _ _ _ (w.trans (Grow.newF w.ok hp (.lst (.inl zaq) (zsp r lo hi)))) (.ref zaL)⟩
 | _=>cases e
end
end DL
end
section
namespace DL
open PySem PySem.Spec PyProof.Rows L2
inductive Out where
 | nx (r:Rho) | rt (d:D) | bk (r:Rho) | ct (r:Rho) | exc (x:D) (r:Rho) | stuck
noncomputable abbrev FS:=Rho->Out
noncomputable def Gle (G G':GH):Prop:=∀a d,G a=some d->G' a=some d
theorem Gle.refl (G:GH):Gle G G:=fun _ _ e=>e
theorem Gle.trans {G G1 G2:GH} (a:Gle G G1) (b:Gle G1 G2):Gle G G2:=fun x d e=>b x d (a x d e)
noncomputable def forget (m:List Md) (r:Rho):Rho:=List.zipWith (fun md o=>if md=Md.sh then o else none) m r
noncomputable def zda (m:List Md):List Md:=m.map fun _=>Md.sh
theorem zc9 {m:List Md} {r:Rho} {i:Nat} {d:D} (h:(forget m r)[i]? = some (some d)):r[i]? = some (some d)/\m[i]? = some .sh:=by
 unfold forget at h
 rw [List.getElem?_zipWith] at h
 cases e1:m[i]? with
 | none=>rw [e1] at h; cases h
 | some md=>
  cases e2:r[i]? with
  | none=>rw [e1,e2] at h; cases h
  | some o=>
   rw [e1,e2] at h
   have h':(if md=Md.sh then o else none)=some d:=Option.some.inj h
   split at h'
   ·rename_i hm; subst hm; rw [h']; exact ⟨rfl,rfl⟩
   ·cases h'
section
variable {X:Cx} {g:GE} {m:List Md} {r:Rho} {G:GH} {st:L2.St} {H:Hp}
theorem SI.forget (s:SI X g m r G st H):SI X g (zda m) (forget m r) G st H where
 gok:=s.gok
 old:=s.old
 ge:=s.ge
 gf:=s.gf
 lm:=by rw [zda,List.length_map]; exact s.lm
 lr:=by rw [DL.forget,List.length_zipWith,s.lm,s.lr,Nat.min_self]
 sh:=fun i d h _=>s.sh i d (zc9 h).1 (zc9 h).2
 ow:=fun i d h hm=>by rw [zda,List.getElem?_map,(zc9 h).2] at hm; cases hm
 bw:=fun i d h hm=>by rw [zda,List.getElem?_map,(zc9 h).2] at hm; cases hm
 dis:=fun i j a d e _ h _ hm=>by rw [zda,List.getElem?_map,(zc9 h).2] at hm; cases hm
 lk:=fun i o _ hm=>by rw [zda,List.getElem?_map] at hm; cases q:m[i]? <;> rw [q] at hm <;> cases hm
theorem SI.set (s:SI X g m r G st H) (i:Nat) {v:V} {d:D} (hv:RG X.K G v d):SI X g (m.set i .sh) (r.set i (some d)) G (st.set i (some v)) H where
 gok:=s.gok
 old:=s.old
 ge:=s.ge
 gf:=s.gf
 lm:=by simp [s.lm]
 lr:=by simp [s.lr]
 sh:=fun j e h hm=>by
  by_cases hij:i=j
  ·subst hij
   have hl:i < r.length:=by
    have:=(List.getElem?_eq_some_iff.mp h).1
    simpa using this
   rw [List.getElem?_set_self hl] at h
   cases h
   exact ⟨v,by rw [List.getElem?_set_self (by rw [<-s.lr]; exact hl)],hv⟩
  ·rw [List.getElem?_set_ne hij] at h hm
   rw [List.getElem?_set_ne hij]
   exact s.sh j e h hm
 ow:=fun j e h hm=>by
  by_cases hij:i=j
  ·subst hij
   have hl:i < m.length:=by
    have:=(List.getElem?_eq_some_iff.mp hm).1
    simpa using this
   rw [List.getElem?_set_self hl] at hm; cases hm
  ·rw [List.getElem?_set_ne hij] at h hm
   rw [List.getElem?_set_ne hij]
   exact s.ow j e h hm
 bw:=fun j e h hm=>by
  by_cases hij:i=j
  ·subst hij
   have hl:i < m.length:=by
    have:=(List.getElem?_eq_some_iff.mp hm).1
    simpa using this
   rw [List.getElem?_set_self hl] at hm; cases hm
  ·rw [List.getElem?_set_ne hij] at h hm
   rw [List.getElem?_set_ne hij]
   exact s.bw j e h hm
 dis:=fun j k a d1 d2 hjk h1 h2 hm hm' q1 q2=>by
  have hij:i≠j:=by
   rintro rfl
   have hl:i < m.length:=by
    have:=(List.getElem?_eq_some_iff.mp hm).1
    simpa using this
   rw [List.getElem?_set_self hl] at hm; cases hm
  have hik:i≠k:=by
   rintro rfl
   have hl:i < m.length:=by
    have:=(List.getElem?_eq_some_iff.mp h2).1
    rw [List.length_set,s.lr,<-s.lm] at this; exact this
   rw [List.getElem?_set_self hl] at hm'; cases hm'
  rw [List.getElem?_set_ne hij] at h1 hm q1
  rw [List.getElem?_set_ne hik] at h2 hm' q2
  exact s.dis j k a d1 d2 hjk h1 h2 hm hm' q1 q2
 lk:=fun j o hj hm=>by
  have hij:i≠j:=by
   rintro rfl
   have hl:i < m.length:=by
    have:=(List.getElem?_eq_some_iff.mp hm).1
    simpa using this
   rw [List.getElem?_set_self hl] at hm; cases hm
  rw [List.getElem?_set_ne hij] at hm
  have:=s.lk j o hj hm
  exact ⟨by rw [List.getElem?_set_ne hij]; exact this.1,fun d h=>this.2 d (by rw [List.getElem?_set_ne hij] at h; exact h)⟩
theorem SI.setO (s:SI X g m r G st H) (i:Nat) {a:Addr} {d:D} (ho:Own X.K G H a d) (h0:g.h0 a=none) (hx:∀(j:Nat) (b:Addr) (e:D),r[j]? = some (some e)->m[j]? = some Md.ow->st[j]? = some (some (V.ref b))->b≠a) :
  SI X g (m.set i .ow) (r.set i (some d)) G (st.set i (some (V.ref a))) H where
 gok:=s.gok
 old:=s.old
 ge:=s.ge
 gf:=s.gf
 lm:=by simp [s.lm]
 lr:=by simp [s.lr]
 sh:=fun j e h hm=>by
  by_cases hij:i=j
  ·subst hij
   have hl:i < m.length:=by
    have:=(List.getElem?_eq_some_iff.mp hm).1
    simpa using this
   rw [List.getElem?_set_self hl] at hm; cases hm
  ·rw [List.getElem?_set_ne hij] at h hm
   rw [List.getElem?_set_ne hij]
   exact s.sh j e h hm
 ow:=fun j e h hm=>by
  by_cases hij:i=j
  ·subst hij
   have hl:i < r.length:=by
    have:=(List.getElem?_eq_some_iff.mp h).1
    simpa using this
   rw [List.getElem?_set_self hl] at h
   cases h
   exact ⟨a,by rw [List.getElem?_set_self (by rw [<-s.lr]; exact hl)],ho,h0⟩
  ·rw [List.getElem?_set_ne hij] at h hm
   rw [List.getElem?_set_ne hij]
   exact s.ow j e h hm
 bw:=fun j e h hm=>by
  by_cases hij:i=j
  ·subst hij
   have hl:i < m.length:=by
    have:=(List.getElem?_eq_some_iff.mp hm).1
    simpa using this
   rw [List.getElem?_set_self hl] at hm; cases hm
  ·rw [List.getElem?_set_ne hij] at h hm
   rw [List.getElem?_set_ne hij]
   exact s.bw j e h hm
 dis:=fun j k b d1 d2 hjk h1 h2 hm hm' q1 q2=>by
  by_cases hij:i=j
  ·subst hij
   rw [List.getElem?_set_ne hjk] at h2 hm' q2
   have hl:i < st.length:=by
    have:=(List.getElem?_eq_some_iff.mp q1).1
    simpa using this
   rw [List.getElem?_set_self hl] at q1
   have e:a=b:=by injection q1 with q1; injection q1 with q1; injection q1
   exact hx k b d2 h2 hm' q2 e.symm
  ·by_cases hik:i=k
   ·subst hik
    rw [List.getElem?_set_ne hij] at h1 hm q1
    have hl:i < st.length:=by
     have:=(List.getElem?_eq_some_iff.mp q2).1
     simpa using this
    rw [List.getElem?_set_self hl] at q2
    have e:a=b:=by injection q2 with q2; injection q2 with q2; injection q2
    exact hx j b d1 h1 hm q1 e.symm
   ·rw [List.getElem?_set_ne hij] at h1 hm q1
    rw [List.getElem?_set_ne hik] at h2 hm' q2
    exact s.dis j k b d1 d2 hjk h1 h2 hm hm' q1 q2
 lk:=fun j o hj hm=>by
  have hij:i≠j:=by
   rintro rfl
   have hl:i < m.length:=by
    have:=(List.getElem?_eq_some_iff.mp hm).1
    simpa using this
   rw [List.getElem?_set_self hl] at hm; cases hm
  rw [List.getElem?_set_ne hij] at hm
  have:=s.lk j o hj hm
  exact ⟨by rw [List.getElem?_set_ne hij]; exact this.1,fun d h=>this.2 d (by rw [List.getElem?_set_ne hij] at h; exact h)⟩
theorem SI.other (s:SI X g m r G st H) {p:Addr} (hp:G p=none) (h0:g.h0 p=none) (hm:∀(i:Nat),m[i]?≠some Md.ow) (o:HO):SI X g m r G st (upd H p o) where
 gok:=fun b e h=>(s.gok b e h).mono (fun _ _ z=>z) fun o' q=>by rw [zaA (by rintro rfl; rw [hp] at h; cases h)]; exact q
 old:=fun b o' h=>by rw [zaA (by rintro rfl; rw [h0] at h; cases h)]; exact s.old b o' h
 ge:=s.ge
 gf:=s.gf
 lm:=s.lm
 lr:=s.lr
 sh:=s.sh
 ow:=fun i d _ h=>absurd h (hm i)
 bw:=fun i d h1 h2=>by
  obtain ⟨v,h3,h4⟩:=s.bw i d h1 h2
  refine ⟨v,h3,?_⟩
  rcases h4 with h4 | ⟨a,rfl,h4,h5⟩
  ·exact .inl h4
  ·have ha:a≠p:=by rintro rfl; exact h5 h0
   exact .inr ⟨a,rfl,⟨h4.un,h4.ob.mono (fun _ _ z=>z) fun o' z=>by rw [zaA ha]; exact z⟩,h5⟩
 dis:=fun i j a d e _ _ _ h=>absurd h (hm i)
 lk:=s.lk
theorem SI.less (s:SI X g m r G st H) {r':Rho} (hl:r'.length=r.length) (h:∀(i:Nat) d,r'[i]? = some (some d)->r[i]? = some (some d)):SI X g m r' G st H:=
 ⟨s.gok,s.old,s.ge,s.gf,s.lm,hl.trans s.lr,fun i d a b=>s.sh i d (h i d a) b,fun i d a b=>s.ow i d (h i d a) b,fun i d a b=>s.bw i d (h i d a) b,fun i j a d e n p q x y=>s.dis i j a d e n (h i d p) (h j e q) x y,fun i o hi hm=>by
  have:=s.lk i o hi hm
  exact ⟨this.1,fun d hd=>this.2 d (h i d hd)⟩⟩
theorem SI.held (s:SI X g m r G st H) {j:Nat} {b:Addr} {e:D} (h:r[j]? = some (some e)) (hm:m[j]? = some .ow) (hs:st[j]? = some (some (V.ref b))):H b≠none:=by
 obtain ⟨a,h1,h2,_⟩:=s.ow j e h hm
 rw [hs] at h1
 injection h1 with h1; injection h1 with h1; injection h1 with h1
 rw [h1]; exact h2.ob.isS
theorem SI.new (s:SI X g m r G st H) {a:Addr} (hn:H a=none):g.h0 a=none:=by
 cases q:g.h0 a with
 | none=>rfl
 | some o=>rw [s.old _ _ q] at hn; cases hn
theorem SI.setN (s:SI X g m r G st H) {G':GH} {H':Hp} (w:Grow X.K G H G' H') (i:Nat) {a:Addr} {d:D} (hn:H a=none) (ho:Own X.K G' H' a d):SI X g (m.set i .ow) (r.set i (some d)) G' (st.set i (some (V.ref a))) H':=by
 refine (s.grow w).setO i ho ?_ fun j b e h1 h2 h3=>?_
 ·cases q:g.h0 a with
  | none=>rfl
  | some o=>rw [s.old _ _ q] at hn; cases hn
 ·rintro rfl
  exact s.held h1 h2 h3 hn
theorem SI.mut (s:SI X g m r G st H) {i:Nat} {d:D} (hm:m[i]? = some .ow) (hd:r[i]? = some (some d)) :
  ∃a,st[i]? = some (some (V.ref a))/\Own X.K G H a d/\∀(o':HO) (d':D),OwnO X.K G (upd H a o') a d'->SI X g m (r.set i (some d')) G st (upd H a o'):=by
 obtain ⟨a,h1,h2,h3⟩:=s.ow i d hd hm
 have hl:i < r.length:=(List.getElem?_eq_some_iff.mp hd).1
 refine ⟨a,h1,h2,fun o' d' ob=>?_⟩
 have oth:∀(j:Nat) (b:Addr) (e:D),j≠i->r[j]? = some (some e)->m[j]? = some .ow->st[j]? = some (some (V.ref b))->b≠a:=fun j b e hj q1 q2 q3 z=>by
  subst z
  exact s.dis i j b d e (Ne.symm hj) hd q1 hm q2 h1 q3
 refine ⟨fun b e h=>?_,fun b o h=>?_,s.ge,s.gf,s.lm,by simp [s.lr],?_,?_,?_,?_,fun j o hj hm'=>?_⟩
 ·have hb:b≠a:=by rintro rfl; rw [h2.un] at h; cases h
  exact (s.gok b e h).mono (fun _ _ z=>z) fun o q=>by rw [zaA hb]; exact q
 ·have hb:b≠a:=by rintro rfl; rw [h3] at h; cases h
  rw [zaA hb]; exact s.old b o h
 ·intro j e h hm'
  have hij:i≠j:=by rintro rfl; rw [hm] at hm'; cases hm'
  rw [List.getElem?_set_ne hij] at h
  exact s.sh j e h hm'
 ·intro j e h hm'
  by_cases hij:i=j
  ·subst hij
   rw [List.getElem?_set_self hl] at h; cases h
   exact ⟨a,h1,⟨h2.un,ob⟩,h3⟩
  ·rw [List.getElem?_set_ne hij] at h
   obtain ⟨b,q1,q2,q3⟩:=s.ow j e h hm'
   have hb:=oth j b e (Ne.symm hij) h hm' q1
   exact ⟨b,q1,⟨q2.un,q2.ob.mono (fun _ _ z=>z) fun o z=>by rw [zaA hb]; exact z⟩,q3⟩
 ·intro j e h hm'
  have hij:i≠j:=by rintro rfl; rw [hm] at hm'; cases hm'
  rw [List.getElem?_set_ne hij] at h
  obtain ⟨v,q1,q2⟩:=s.bw j e h hm'
  refine ⟨v,q1,?_⟩
  rcases q2 with q2 | ⟨b,rfl,q2,q3⟩
  ·exact .inl q2
  ·have hb:b≠a:=by rintro rfl; exact q3 h3
   exact .inr ⟨b,rfl,⟨q2.un,q2.ob.mono (fun _ _ z=>z) fun o z=>by rw [zaA hb]; exact z⟩,q3⟩
 ·have bound:∀(j:Nat) e,(r.set i (some d'))[j]? = some (some e)->∃e',r[j]? = some (some e'):=fun j e h=>by
   by_cases hij:i=j
   ·subst hij; exact ⟨d,hd⟩
   ·rw [List.getElem?_set_ne hij] at h; exact ⟨e,h⟩
  intro j k b d1 d2 hjk q1 q2 p1 p2 z1 z2
  obtain ⟨e1,q1⟩:=bound j d1 q1
  obtain ⟨e2,q2⟩:=bound k d2 q2
  exact s.dis j k b e1 e2 hjk q1 q2 p1 p2 z1 z2
 ·have hij:i≠j:=by rintro rfl; rw [hm] at hm'; cases hm'
  have:=s.lk j o hj hm'
  exact ⟨this.1,fun d'' h=>this.2 d'' (by rw [List.getElem?_set_ne hij] at h; exact h)⟩
end
noncomputable def RV (ro:Bool) (K:PySem.W.Frag) (H0:Hp) (G:GH) (H:Hp) (v:V) (d:D):Prop:=match ro with
 | false=>RG K G v d
 | true=>(∃a,v=.ref a/\H0 a=none/\Own K G H a d)\/(d=.non/\v=.non)
noncomputable def oTo (X:Cx) (g:GE) (ro:Bool) (m' mb:List Md) (G:GH) (D:Ends):Out->Prop
 | .nx r'=>∀σ' G' H',Gle G G'->SI X g m' r' G' σ' H'->D.nx σ' H'
 | .rt d=>∀v G' H',Grow X.K g.gh g.h0 G' H'->RV ro X.K g.h0 G' H' v d->D.rt v H'
 | .bk r'=>∀σ' G' H',Gle G G'->SI X g mb r' G' σ' H'->D.bk σ' H'
 | .ct r'=>∀σ' G' H',Gle G G'->SI X g mb r' G' σ' H'->D.ct σ' H'
 | .exc x r'=>∀pins e s' σ' G' H',Gle G G'->SI X g (zda m') r' G' σ' H'->Inv X pins σ' H' s'->ExV X σ' G' H' e x s'->X.xe e s'
 | .stuck=>False
noncomputable def tS (X:Cx) (g:GE) (ro:Bool) (m m' mb:List Md) (f:FS):TS:=fun D σ H=>∃r G,SI X g m r G σ H/\oTo X g ro m' mb G D (f r)
noncomputable def SS (X:Cx) (g:GE) (ro:Bool) (mb m:List Md) (st:Stmt) (f:FS) (m':List Md):Prop:=m'.length=m.length/\PS X st (tS X g ro m m' mb f)
noncomputable def SSs (X:Cx) (g:GE) (ro:Bool) (mb m:List Md) (st:List Stmt) (f:FS) (m':List Md):Prop:=m'.length=m.length/\PSs X st (tS X g ro m m' mb f)
theorem zdP {m m':List Md} (h:m'.length=m.length):zda m'=zda m:=by
 unfold zda
 rw [List.map_const',List.map_const',h]
theorem oTo.x {X:Cx} {g:GE} {ro:Bool} {m m' mb:List Md} {r:Rho} {G:GH} {D:Ends} {σ:L2.St} {H:Hp} {x:DL.D} (h:oTo X g ro m' mb G D (.exc x (forget m r))) (si:SI X g m r G σ H) (hl:m'.length=m.length):XW X σ G H x:=
 fun pins e s' G' H' w I ex=>h pins e s' σ G' H' w.ge (by rw [zdP hl]; exact (si.grow w).forget) I ex
section
variable {X:Cx} {g:GE} {ro:Bool} {m m' m1 mb:List Md} {e a b c tg:Expr} {f fa fb fc:FE} {p:FQ} {pos pos':Pos} {st:Stmt} {sts sts':List Stmt} {s1 s2:FS}
theorem oTo.gle {G G1:GH} {D:Ends} {o:Out} (h:oTo X g ro m' mb G D o) (w:Gle G G1):oTo X g ro m' mb G1 D o:=by
 cases o with
 | nx r'=>exact fun σ' G' H' q si=>h σ' G' H' (w.trans q) si
 | rt d=>exact h
 | bk r'=>exact fun σ' G' H' q si=>h σ' G' H' (w.trans q) si
 | ct r'=>exact fun σ' G' H' q si=>h σ' G' H' (w.trans q) si
 | exc x r'=>exact fun pins e s' σ' G' H' q=>h pins e s' σ' G' H' (w.trans q)
 | stuck=>exact h
noncomputable def seqF (s1 s2:FS):FS:=fun r=>match s1 r with
 | .nx r'=>s2 r'
 | o=>o
noncomputable def zaj:FS:=fun r=>.nx r
theorem zaf:SSs X g ro mb m [] zaj m:=⟨rfl,PSs.imp zpA fun D σ H ⟨r,G,si,q⟩=>q σ G H (Gle.refl G) si⟩
theorem zaa (h1:SS X g ro mb m st s1 m1) (h2:SSs X g ro mb m1 sts s2 m'):SSs X g ro mb m (st::sts) (seqF s1 s2) m':=by
 refine ⟨h2.1.trans h1.1,PSs.imp (znA h1.2 h2.2) fun D σ H ⟨r,G,si,q⟩=>⟨r,G,si,?_⟩⟩
 unfold seqF at q
 cases e:s1 r with
 | nx r'=>
  rw [e] at q
  exact fun σ' G' H' w si'=>⟨r',G',si',oTo.gle q w⟩
 | rt d=>rw [e] at q; exact q
 | bk r'=>rw [e] at q; exact q
 | ct r'=>rw [e] at q; exact q
 | exc x r'=>rw [e] at q; exact fun pins e s' σ' G' H' w si'=>q pins e s' σ' G' H' w (by rw [zdP h2.1]; exact si')
 | stuck=>rw [e] at q; exact q
theorem ziX:SS X g ro mb m st (fun _=>.stuck) m:=⟨rfl,PS.imp znC fun D σ H ⟨r,G,si,q⟩=>q⟩
theorem znn (i:Nat) (hi:m[i]? = some .ow) (h:SS X g ro mb (m.set i .sh) st s1 m'):SS X g ro mb m st s1 m':=by
 refine ⟨h.1.trans (by simp),fun pins s σ H D I ⟨r,G,si,q⟩=>?_⟩
 rcases si.frz i hi with ⟨G',le,si'⟩ | ⟨a,z⟩
 ·exact h.2 pins s σ H D I ⟨r,G',si',oTo.gle q le⟩
 ·obtain ⟨ob,I2⟩:=Inv.fast I a
  obtain ⟨G',le,si'⟩:=z ob
  exact h.2 pins s σ _ D I2 ⟨r,G',si',oTo.gle q le⟩
noncomputable def onE {α:Type} (m:List Md) (r:Rho) (x:Res α) (k:α->Out):Out:=match x with
 | .ok a=>k a
 | .exc e=>.exc e (forget m r)
 | .stuck=>.stuck
@[simp] theorem onE_ok {α:Type} (m:List Md) (r:Rho) (a:α) (k:α->Out):onE m r (.ok a) k=k a:=rfl
theorem zbz {α:Type} {x:Res α} {k:α->Out} {r:Rho} {G:GH} {D:Ends} {σ:L2.St} {H:Hp} (si:SI X g m r G σ H) (hl:m'.length=m.length) (h:oTo X g ro m' mb G D (onE m r x k)):fin x (fun a=>oTo X g ro m' mb G D (k a)) (XW X σ G H):=by
 cases x with
 | ok a=>exact h
 | exc e=>exact oTo.x h si hl
 | stuck=>exact h
noncomputable def setF (m:List Md) (i:Nat) (f:FE):FS:=fun r=>onE m r (f r) fun d=>.nx (r.set i (some d))
theorem zsR (i:Nat) {x:Str} (hN:X.N.Nodup) (hi:X.N[i]? = some x) (hx:Loc X.env.scope x) (he:SE X g m e f) (hs:swapsWith e (some (.Name x pos')) pos.line X.env=pure false:=by rfl)
  (hf:X.fn x=true\/X.env.scope.names.lookup x=some .local:=by first | exact .inl rfl | exact .inr rfl | assumption):SS X g ro mb m (.Assign [.Name x pos'] e pos) (setF m i f) (m.set i .sh):=by
 have hl:(m.set i .sh).length=m.length:=by simp
 refine ⟨hl,PS.imp (zoB hN hi hx he hs hf) fun D σ H ⟨r,G,si,q⟩=>⟨r,G,si,?_⟩⟩
 exact zag (zbz si hl q) fun d q v G' H' w rv=>q _ G' H' w.ge ((si.grow w).set i rv)
theorem zcl (i:Nat) {x:Str} (hN:X.N.Nodup) (hi:X.N[i]? = some x) (hx:Loc X.env.scope x) (he:SO X g m e f) (hs:swapsWith e (some (.Name x pos')) pos.line X.env=pure false:=by rfl)
  (hf:X.fn x=true\/X.env.scope.names.lookup x=some .local:=by first | exact .inl rfl | exact .inr rfl | assumption):SS X g ro mb m (.Assign [.Name x pos'] e pos) (setF m i f) (m.set i .ow):=by
 have hl:(m.set i .ow).length=m.length:=by simp
 refine ⟨hl,PS.imp (zoB hN hi hx he hs hf) fun D σ H ⟨r,G,si,q⟩=>⟨r,G,si,?_⟩⟩
 exact zag (zbz si hl q) fun d q a G' H' w hn ho=>q _ G' H' w.ge (si.setN w i hn ho)
noncomputable def zod (m:List Md) (f:FE):FS:=fun r=>onE m r (f r) fun _=>.nx r
theorem zov (he:SE X g m e f) (hs:swapsWith e none pos.line X.env=pure false:=by rfl):SS X g ro mb m (.Expr e pos) (zod m f) m:=
 ⟨rfl,PS.imp (zlO he hs) fun D σ H ⟨r,G,si,q⟩=>⟨r,G,si,zag (zbz si rfl q) fun d q v G' H' w _=>q σ G' H' w.ge (si.grow w)⟩⟩
noncomputable def retF (m:List Md) (f:FE):FS:=fun r=>onE m r (f r) fun d=>.rt d
theorem zaN (he:SE X g m e f):SS X g false mb m (.Return (some e) pos) (retF m f) m:=
 ⟨rfl,PS.imp (zra he) fun D σ H ⟨r,G,si,q⟩=>⟨r,G,si,zag (zbz si rfl q) fun d q v G' H' w rv=>q v G' H' (si.grow w).grown rv⟩⟩
noncomputable def ifF (m:List Md) (p:FQ) (s1 s2:FS):FS:=fun r=>onE m r (p r) fun c=>if c=true then s1 r else s2 r
theorem s_if (hc:SQ X g m c p) (h1:SSs X g ro mb m sts s1 m') (h2:SSs X g ro mb m sts' s2 m'):SS X g ro mb m (.If c sts sts' pos) (ifF m p s1 s2) m':=by
 refine ⟨h1.1,PS.imp (zsW hc h1.2 h2.2) fun D σ H ⟨r,G,si,q⟩=>⟨r,G,si,zag (zbz si h1.1 q) fun c q G' H' w=>?_⟩⟩
 cases c with
 | true=>rw [if_pos rfl] at q ⊢; exact ⟨r,G',si.grow w,oTo.gle q w.ge⟩
 | false=>rw [if_neg Bool.false_ne_true] at q ⊢; exact ⟨r,G',si.grow w,oTo.gle q w.ge⟩
theorem zbO (i:Nat) (h:SSs X g ro mb m sts s1 m') (hi:m'[i]? = some .ow):SSs X g ro mb m sts s1 (m'.set i .sh):=by
 refine ⟨by simp [h.1],fun pins s σ H D I ⟨r,G,si,q⟩=>?_⟩
 refine thn (h.2 pins s σ H ⟨fun σ' H'=>D.nx σ' H'\/∃a,∀ob,D.nx σ' (fz H' a ob),D.rt,D.bk,D.ct⟩ I ⟨r,G,si,?_⟩) fun f s' p=>?_
 ·cases e:s1 r with
  | nx r'=>
   rw [e] at q
   intro σ' G' H' w si'
   rcases si'.frz i hi with ⟨G2,le,si2⟩ | ⟨a,z⟩
   ·exact .inl (q σ' G2 H' (w.trans le) si2)
   ·refine .inr ⟨a,fun ob=>?_⟩
    obtain ⟨G2,le,si2⟩:=z ob
    exact q σ' G2 _ (w.trans le) si2
  | rt d=>rw [e] at q; exact q
  | bk r'=>rw [e] at q; exact q
  | ct r'=>rw [e] at q; exact q
  | exc x r'=>rw [e] at q; exact fun pins e s' σ' G' H' w si'=>q pins e s' σ' G' H' w (by rw [zdP (m:=m') (by simp)]; exact si')
  | stuck=>rw [e] at q; exact q
 ·cases f with
  | next=>
   obtain ⟨σ',H',I',z | ⟨a,z⟩⟩:=p
   ·exact ⟨σ',H',I',z⟩
   ·obtain ⟨ob,I2⟩:=Inv.fast I' a
    exact ⟨σ',_,I2,z ob⟩
  | brk=>exact p
  | cont=>exact p
  | ret u=>exact p
end
end DL
end
section
namespace DL
open PySem PySem.Spec PyProof.Rows L2
noncomputable abbrev FT:=D->Rho->Option Rho
noncomputable abbrev FTs:=List D->Rho->Option Rho
noncomputable def tG (X:Cx) (g:GE) (m m':List Md) (ft:FT):TG:=fun v σ H Q=>∃r G d,SI X g m r G σ H/\RG X.K G v d/\∃r',ft d r=some r'/\∀σ',SI X g m' r' G σ' H->Q σ' H
noncomputable def tGs (X:Cx) (g:GE) (m m':List Md) (ft:FTs):TGs:=fun vs σ H Q=>∃r G ds,SI X g m r G σ H/\RGs X.K G vs ds/\∃r',ft ds r=some r'/\∀σ',SI X g m' r' G σ' H->Q σ' H
theorem PG.imp {X:Cx} {e:Expr} {t t':TG} (h:PG X e t) (i:∀v σ H Q,t' v σ H Q->t v σ H Q):PG X e t':=fun pins s σ H v u Q I r q=>h pins s σ H v u Q I r (i v σ H Q q)
theorem PGs.imp {X:Cx} {e:List Expr} {t t':TGs} (h:PGs X e t) (i:∀v σ H Q,t' v σ H Q->t v σ H Q):PGs X e t':=fun pins s σ H v u Q I r q=>h pins s σ H v u Q I r (i v σ H Q q)
noncomputable def SG (X:Cx) (g:GE) (m:List Md) (tg:Expr) (ft:FT) (m':List Md):Prop:=m'.length=m.length/\PG X tg (tG X g m m' ft)
structure SGs (X:Cx) (g:GE) (m:List Md) (ts:List Expr) (n:Nat) (ft:FTs) (m':List Md):Prop where
 ml:m'.length=m.length
 ln:∀ds r r',ft ds r=some r'->ds.length=n
 pg:PGs X ts (tGs X g m m' ft)
noncomputable def ftN (i:Nat):FT:=fun d r=>some (r.set i (some d))
noncomputable def ftT (ft:FTs):FT:=fun d r=>match d with
 | .tup ds=>ft ds r
 | .lst ds=>ft ds r
 | _=>none
noncomputable def zcf:FTs:=fun ds r=>match ds with
 | []=>some r
 | _=>none
noncomputable def zau (ft:FT) (fts:FTs):FTs:=fun ds r=>match ds with
 | []=>none
 | d::ds=>(ft d r).bind fun r'=>fts ds r'
section
variable {X:Cx} {g:GE} {m m' m1:List Md} {tg:Expr} {ts:List Expr} {ft:FT} {fts:FTs} {pos:Pos} {n:Nat}
theorem zr6 (i:Nat) {x:Str} (hN:X.N.Nodup) (hi:X.N[i]? = some x) (hx:Loc X.env.scope x) (hf:X.fn x=true\/X.env.scope.names.lookup x=some .local:=by first | exact .inl rfl | exact .inr rfl | assumption) :
  SG X g m (.Name x pos) (ftN i) (m.set i .sh):=
 ⟨by simp,PG.imp (zpD hN hi hx hf) fun v σ H Q ⟨r,G,d,si,rv,r',e,k⟩=>by cases e; exact k _ (si.set i rv)⟩
theorem zeV:SGs X g m [] 0 zcf m:=by
 refine ⟨rfl,fun ds r r' e=>?_,PGs.imp zlT fun v σ H Q ⟨r,G,ds,si,rv,r',e,k⟩=>?_⟩
 ·cases ds with
  | nil=>rfl
  | cons _ _=>cases e
 ·cases rv with
  | nil=>cases e; exact ⟨rfl,k σ si⟩
  | cons _ _=>cases e
theorem zba (h1:SG X g m tg ft m1) (h2:SGs X g m1 ts n fts m') (hs:(assignEach (tg::ts) X.env).map (·.2)=assign tg X.env::(assignEach ts X.env).map (·.2):=by rfl):SGs X g m (tg::ts) (n + 1) (zau ft fts) m':=by
 refine ⟨h2.ml.trans h1.1,fun ds r r' e=>?_,PGs.imp (zhy h1.2 h2.pg hs) fun v σ H Q ⟨r,G,ds,si,rv,r',e,k⟩=>?_⟩
 ·cases ds with
  | nil=>cases e
  | cons d ds=>
   have e':((ft d r).bind fun r'=>fts ds r')=some r':=e
   cases q:ft d r with
   | none=>rw [q] at e'; cases e'
   | some r1=>
    rw [q] at e'
    have:=h2.ln ds r1 r' e'
    simp [this]
 ·cases rv with
  | nil=>cases e
  | @cons v0 d vs ds rv rs=>
   have e':((ft d r).bind fun r'=>fts ds r')=some r':=e
   cases q:ft d r with
   | none=>rw [q] at e'; cases e'
   | some r1=>
    rw [q] at e'
    exact ⟨_,_,rfl,r,G,d,si,rv,r1,q,fun σ' si'=>⟨r1,G,ds,si',rs,r',e',k⟩⟩
theorem zrc {k:Nat} {t:TGs} (hc:X.calm=true) (h:PGs X ts t) (hn:(assignEach ts X.env).length=n) (hst:(assignEach ts X.env).findIdx? (·.1)=none) :
  PG X (.Tuple ts k pos) (fun v σ H Q=>∃a xs,v=.ref a/\SqL X.K H a xs/\xs.length=n/\t xs σ H Q):=by
 intro pins s σ H v u Q I r hw
 obtain ⟨a,xs,e1,hq,hl,hw⟩:=hw
 subst e1
 cases r
 obtain ⟨its,rv,⟨o,nn,l1,l2,l3,l4⟩,hz⟩:=I.list hq
 rw [PyProof.Rows.assign_Tuple]
 refine wpAny_bind (wpAny_standAt ?_)
 unfold unpack
 rw [hst,show (assignEach ts X.env).length=its.toArray.size by simp [hn,<-hl,rv.length]]
 refine wpAny_bind (wpAny_holding (PySem.W.kun_itemsOf (I.ok.hd hc) ⟨o,l1,l2,nn,l4⟩ fun h' hx=>?_))
 have I1:Inv X pins σ H { s with heap:=h' }:=I.kept (t':=s.toks) fun b o e=>hx b o (Nat.ne_of_lt (Heap.lt_size e)) e
 exact h pins _ σ H xs _ Q I1 (by simpa using rv) hw
theorem PG.or {e:Expr} {t t':TG} (h:PG X e t) (h':PG X e t'):PG X e (fun v σ H Q=>t v σ H Q\/t' v σ H Q):=fun pins s σ H v u Q I r q=>q.elim (h pins s σ H v u Q I r) (h' pins s σ H v u Q I r)
theorem zeU {k:Nat} (hc:X.calm=true) (h:SGs X g m ts n fts m') (hn:(assignEach ts X.env).length=n:=by rfl) (hst:(assignEach ts X.env).findIdx? (·.1)=none:=by rfl):SG X g m (.Tuple ts k pos) (ftT fts) m':=by
 refine ⟨h.ml,PG.imp (PG.or (zoE hc h.pg hn hst) (zrc hc h.pg hn hst)) fun v σ H Q ⟨r,G,d,si,rv,r',e,k⟩=>?_⟩
 cases d with
 | tup ds=>
  obtain ⟨a,xs,rfl,s,rs⟩:=rv.tup si.gok
  exact .inl ⟨a,xs,rfl,s,(Paired.length rs).trans (h.ln ds r r' e),r,G,ds,si,rs,r',e,k⟩
 | lst ds=>
  obtain ⟨a,xs,rfl,s,rs⟩:=rv.lst si.gok
  exact .inr ⟨a,xs,rfl,s,(Paired.length rs).trans (h.ln ds r r' e),r,G,ds,si,rs,r',e,k⟩
 | _=>cases e
end
structure Yields (K:PySem.W.Frag) (J:It) (ds:List D) (G0:GH):Prop where
 go:∀G H (i:Nat),Gle G0 G->GOk K G H->i < ds.length->J.go i H
 yld:∀G H (i:Nat) x H' d,Gle G0 G->GOk K G H->J.yld i H x H'->ds[i]? = some d->∃G',Grow K G H G' H'/\RG K G' x d
 stop:∀G H,Gle G0 G->GOk K G H->J.stop ds.length H
noncomputable abbrev FI:=Rho->Res (List D)
noncomputable def tI (X:Cx) (g:GE) (m:List Md) (f:FI):TI:=fun σ H R=>∃r G,SI X g m r G σ H/\fin (f r) (fun ds=>∀J G' H',Grow X.K G H G' H'->Yields X.K J ds G'->R J H') (XW X σ G H)
noncomputable def SIt (X:Cx) (g:GE) (m:List Md) (tg iter:Expr) (f:FI):Prop:=PI X tg iter (tI X g m f)
theorem PI.imp {X:Cx} {tg e:Expr} {t t':TI} (h:PI X tg e t) (i:∀σ H Q,t' σ H Q->t σ H Q):PI X tg e t':=fun pins s σ H R I q=>h pins s σ H R I (i σ H R q)
theorem ziO {K:PySem.W.Frag} {a:Addr} {ds:List D} {G0:GH} (h0:RG K G0 (.ref a) (.lst ds)):Yields K (Itl K a) ds G0:=by
 have at_:∀G H,Gle G0 G->GOk K G H->∃xs,SqL K H a xs/\RGs K G xs ds:=fun G H w gk=>by
  obtain ⟨b,xs,e,s,r⟩:=(h0.mono w).lst gk
  cases e
  exact ⟨xs,s,r⟩
 refine ⟨fun G H i w gk hi=>?_,fun G H i x H' d w gk y e=>?_,fun G H w gk=>?_⟩
 ·obtain ⟨xs,s,r⟩:=at_ G H w gk
  have hl:=Paired.length r
  exact ⟨xs,xs[i],s,List.getElem?_eq_getElem (by omega)⟩
 ·obtain ⟨xs,s,r⟩:=at_ G H w gk
  obtain ⟨rfl,y⟩:=y
  obtain ⟨v,e1,rv⟩:=Paired.get r e
  have:=y xs s
  rw [e1] at this; cases this
  exact ⟨G,Grow.refl gk,rv⟩
 ·obtain ⟨xs,s,r⟩:=at_ G H w gk
  exact ⟨xs,s,Nat.le_of_eq (Paired.length r)⟩
theorem zlb {K:PySem.W.Frag} {a:Addr} {ds:List D} {G0:GH} (h0:RG K G0 (.ref a) (.tup ds)):Yields K (Itt K a) ds G0:=by
 have at_:∀G H,Gle G0 G->GOk K G H->∃xs,SqT K H a xs/\RGs K G xs ds:=fun G H w gk=>by
  obtain ⟨b,xs,e,s,r⟩:=(h0.mono w).tup gk
  cases e
  exact ⟨xs,s,r⟩
 refine ⟨fun G H i w gk hi=>?_,fun G H i x H' d w gk y e=>?_,fun G H w gk=>?_⟩
 ·obtain ⟨xs,s,r⟩:=at_ G H w gk
  have hl:=Paired.length r
  exact ⟨xs,xs[i],s,List.getElem?_eq_getElem (by omega)⟩
 ·obtain ⟨xs,s,r⟩:=at_ G H w gk
  obtain ⟨rfl,y⟩:=y
  obtain ⟨v,e1,rv⟩:=Paired.get r e
  have:=y xs s
  rw [e1] at this; cases this
  exact ⟨G,Grow.refl gk,rv⟩
 ·obtain ⟨xs,s,r⟩:=at_ G H w gk
  exact ⟨xs,s,Nat.le_of_eq (Paired.length r)⟩
noncomputable def rngD (lo:Int) (n:Nat):List D:=(List.range n).map fun (i:Nat)=>D.int (lo + (i:Int))
theorem zqu {K:PySem.W.Frag} {lo:Int} {n:Nat} {G0:GH}:Yields K (Itr lo n) (rngD lo n) G0:=by
 have hl:(rngD lo n).length=n:=by simp [rngD]
 refine ⟨fun G H i w gk hi=>(by rw [hl] at hi; exact hi),fun G H i x H' d w gk y e=>?_,fun G H w gk=>(by rw [hl]; exact Nat.le_refl _)⟩
 obtain ⟨rfl,rfl⟩:=y
 have hi:i < n:=by
  have:=(List.getElem?_eq_some_iff.mp e).1
  rw [hl] at this; exact this
 unfold rngD at e
 rw [List.getElem?_map,List.getElem?_range hi] at e
 cases e
 exact ⟨G,Grow.refl gk,.scl (.int _)⟩
noncomputable def zaU:D->Option (List D)
 | .lst ds=>some ds
 | .tup ds=>some ds
 | _=>none
section
variable {X:Cx} {g:GE} {m m' m1 mb:List Md} {tg e a b c iter:Expr} {f fa fb:FE} {p:FQ} {pos pos':Pos} {ro:Bool} {fl:Rho->Res (List D)} {sts:List Stmt} {s1:FS}
noncomputable def fSeq (k:D->Option (List D)) (f:FE):FI:=fun r=>(f r).bind fun d=>opt (k d)
theorem zlQ {l:Expr} {tl:TE} (hl:PE X l tl):PI X tg l (fun σ H R=>tl σ H fun x H1=>(∃a,x=.ref a/\(∃xs,SqL X.K H1 a xs)/\R (Itl X.K a) H1)\/∃a,x=.ref a/\(∃xs,SqT X.K H1 a xs)/\R (Itt X.K a) H1):=by
 intro pins s σ H R I h
 refine thn (hl pins s σ H _ I h) fun v s1 ⟨x,H1,I1,r1,q1⟩=>?_
 rcases q1 with ⟨a,e,⟨xs,hq⟩,q⟩ | ⟨a,e,⟨xs,hq⟩,q⟩
 ·subst e
  cases r1
  obtain ⟨its,rv,p,hz⟩:=I1.list hq
  refine wpAny_pyIter_list p.isList ?_
  refine ⟨s1.heap.objs.size,[s1.heap.objs.size],_,_,H1,rfl,I1.kept (t':=s1.toks) fun b o e=>Heap.get?_push_of_some _ e,zlf a _,⟨_,Heap.get?_push_size _ rfl,rfl,rfl⟩,fun b hb=>?_,q⟩
  have e:b=s1.heap.objs.size:=by simpa using hb
  subst e
  exact I1.fpOk (Nat.le_refl _) (I1.hok.fresh (Nat.le_refl _))
 ·subst e
  cases r1
  obtain ⟨its,rv,p,hz⟩:=I1.tuple hq
  refine wpAny_pyIter_tuple (show s1.heap.IsTuple a its.toArray from p) ?_
  refine ⟨s1.heap.objs.size,[s1.heap.objs.size],_,_,H1,rfl,I1.kept (t':=s1.toks) fun b o e=>Heap.get?_push_of_some _ e,zkp a _,⟨_,Heap.get?_push_size _ rfl,rfl,rfl⟩,fun b hb=>?_,q⟩
  have e:b=s1.heap.objs.size:=by simpa using hb
  subst e
  exact I1.fpOk (Nat.le_refl _) (I1.hok.fresh (Nat.le_refl _))
theorem zkY (h:SE X g m e f):SIt X g m tg e (fSeq zaU f):=by
 refine PI.imp (zlQ h) fun σ H R ⟨r,G,si,q⟩=>⟨r,G,si,zag (zai q) fun d q v G' H' w rv=>?_⟩
 obtain ⟨ds,e,q⟩:=zaJ q
 cases d with
 | lst ds'=>
  cases e
  obtain ⟨a,xs,rfl,s,rs⟩:=rv.lst w.ok
  exact .inl ⟨a,rfl,⟨xs,s⟩,q _ G' H' w (ziO rv)⟩
 | tup ds'=>
  cases e
  obtain ⟨a,xs,rfl,s,rs⟩:=rv.tup w.ok
  exact .inr ⟨a,rfl,⟨xs,s⟩,q _ G' H' w (zlb rv)⟩
 | _=>cases e
structure YieldsC (K:PySem.W.Frag) (J:It) (ds:List D) (G0:GH) (H0:Hp):Prop where
 go:∀G H (i:Nat),Grow K G0 H0 G H->i < ds.length->J.go i H
 yld:∀G H (i:Nat) x H' d,Grow K G0 H0 G H->J.yld i H x H'->ds[i]? = some d->∃G',Grow K G H G' H'/\RG K G' x d
 stop:∀G H,Grow K G0 H0 G H->J.stop ds.length H
theorem Yields.toC {K:PySem.W.Frag} {J:It} {ds:List D} {G0:GH} {H0:Hp} (y:Yields K J ds G0):YieldsC K J ds G0 H0:=
 ⟨fun G H i w hi=>y.go G H i w.ge w.ok hi,fun G H i x H' d w q e=>y.yld G H i x H' d w.ge w.ok q e,fun G H w=>y.stop G H w.ge w.ok⟩
noncomputable def tIC (X:Cx) (g:GE) (m:List Md) (f:FI):TI:=fun σ H R=>∃r G,SI X g m r G σ H/\fin (f r) (fun ds=>∀J G' H',Grow X.K G H G' H'->YieldsC X.K J ds G' H'->R J H') (XW X σ G H)
noncomputable def SItC (X:Cx) (g:GE) (m:List Md) (tg iter:Expr) (f:FI):Prop:=PI X tg iter (tIC X g m f)
theorem SIt.toC {fi:FI} (h:SIt X g m tg iter fi):SItC X g m tg iter fi:=PI.imp h fun σ H R ⟨r,G,si,q⟩=>⟨r,G,si,zag q fun ds k J G' H' w y=>k J G' H' w y.toC⟩
theorem zqv {K:PySem.W.Frag} {a:Addr} {ds:List D} {G0:GH} {H0:Hp} (o:Own K G0 H0 a (.lst ds)):YieldsC K (Itl K a) ds G0 H0:=by
 have at_:∀G H,Grow K G0 H0 G H->∃xs,SqL K H a xs/\RGs K G xs ds:=fun G H w=>by
  cases (o.mono w).ob with
  | lst r s=>exact ⟨_,SqL.of r,s⟩
 refine ⟨fun G H i w hi=>?_,fun G H i x H' d w y e=>?_,fun G H w=>?_⟩
 ·obtain ⟨xs,s,r⟩:=at_ G H w
  have hl:=Paired.length r
  exact ⟨xs,xs[i],s,List.getElem?_eq_getElem (by omega)⟩
 ·obtain ⟨xs,s,r⟩:=at_ G H w
  obtain ⟨rfl,y⟩:=y
  obtain ⟨v,e1,rv⟩:=Paired.get r e
  have:=y xs s
  rw [e1] at this; cases this
  exact ⟨G,Grow.refl w.ok,rv⟩
 ·obtain ⟨xs,s,r⟩:=at_ G H w
  exact ⟨xs,s,Nat.le_of_eq (Paired.length r)⟩
theorem zbm (h:SB X g m e f):SItC X g m tg e (fSeq zaU f):=by
 refine PI.imp (zlQ h) fun σ H R ⟨r,G,si,q⟩=>⟨r,G,si,zag (zai q) fun d q v G' H' w rv=>?_⟩
 obtain ⟨ds,e,q⟩:=zaJ q
 cases d with
 | lst ds'=>
  cases e
  rcases rv with rv | ⟨a,rfl,o⟩
  ·obtain ⟨a,xs,rfl,s,rs⟩:=rv.lst w.ok
   exact .inl ⟨a,rfl,⟨xs,s⟩,q _ G' H' w (ziO rv).toC⟩
  ·cases o.ob with
   | lst r s=>exact .inl ⟨a,rfl,⟨_,SqL.of r⟩,q _ G' H' w (zqv o)⟩
 | tup ds'=>
  cases e
  rcases rv with rv | ⟨a,rfl,o⟩
  ·obtain ⟨a,xs,rfl,s,rs⟩:=rv.tup w.ok
   exact .inr ⟨a,rfl,⟨xs,s⟩,q _ G' H' w (zlb rv).toC⟩
  ·cases o.ob
 | _=>cases e
noncomputable def rng1:List D->Option (List D)
 | [.int j]=>if -(2 ^ 62)<=j/\j < 2 ^ 62 then some (rngD 0 j.toNat) else none
 | _=>none
noncomputable def fRng (k:List D->Option (List D)) (fl:Rho->Res (List D)):FI:=fun r=>(fl r).bind fun ds=>opt (k ds)
theorem zd7 {pn:Pos} (hg:Gl X "range") (hm:X.mg "range" = none) (ha:SAB X g m [a] fl) (hs:starEach [a] X.env=[(false,eval a X.env)]:=by rfl):SIt X g m tg (.Call (.Name "range" pn) [a] [] pos) (fRng rng1 fl):=by
 refine PI.imp (zlR hg hm ha hs) fun σ H R ⟨r,G,si,q⟩=>⟨r,G,si,zag (zai q) fun ds q vs G' H' w rs=>?_⟩
 obtain ⟨zs,e,q⟩:=zaJ q
 unfold rng1 at e
 split at e
 ·split at e
  ·rename_i j hj
   cases e
   cases rs with
   | cons r1 t=>cases t; exact ⟨j,by rw [r1.int w.ok],hj.1,hj.2,q _ G' H' w zqu⟩
  ·cases e
 ·cases e
noncomputable def forF (ft:FT) (body:FS):List D->FS
 | [],r=>.nx r
 | d::ds,r=>match ft d r with
  | none=>.stuck
  | some r1=>match body r1 with
   | .nx r'=>forF ft body ds r'
   | .ct r'=>forF ft body ds r'
   | .bk r'=>.nx r'
   | o=>o
noncomputable def zbK (m:List Md) (fi:FI) (ft:FT) (body:FS):FS:=fun r=>onE m r (fi r) fun ds=>forF ft body ds r
theorem zf4 (hp:PassesOwn (model X.prog X.w) X.A X.env X.xe) (hc:X.calm=true) {ft:FT} {fi:FI} (hi:SIt X g m tg iter fi) (hg:SG X g m tg ft m) (hb:SSs X g ro m m sts s1 m)
  (hs:∀x,foldedSetIterable iter X.env x=pure x:=by intro _; rfl):SS X g ro mb m (.For tg iter sts [] pos) (zbK m fi ft s1) m:=by
 refine ⟨rfl,PS.imp (zlN hp hc hi hg.2 hb.2 hs) fun D σ H ⟨r,G,si,q⟩=>⟨r,G,si,zag (zbz si rfl q) fun ds q J G0 H0 w0 Y=>?_⟩⟩
 refine ⟨fun i n σ H=>∃r G,SI X g m r G σ H/\Gle G0 G/\i<=ds.length/\n=ds.length - i/\oTo X g ro m mb G D (forF ft s1 (ds.drop i) r),⟨ds.length,r,G0,si.grow w0,Gle.refl G0,Nat.zero_le _,rfl,oTo.gle q w0.ge⟩,?_⟩
 rintro i n σ1 H1 ⟨r1,G1,si1,le1,hi,rfl,q1⟩
 by_cases hlt:i < ds.length
 ·have hd:ds.drop i=ds[i]::ds.drop (i + 1):=List.drop_eq_getElem_cons hlt
  rw [hd] at q1
  unfold forF at q1
  refine .inr ⟨Y.go G1 H1 i le1 si1.gok hlt,fun σ' H'=>∃r G,SI X g m r G σ' H'/\Gle G0 G/\oTo X g ro m mb G D (forF ft s1 (ds.drop (i + 1)) r),fun σ' H' ⟨r',G',si',le',q'⟩=>⟨ds.length - (i + 1),by omega,r',G',si',le',hlt,rfl,q'⟩,fun x H' y=>?_⟩
  obtain ⟨G',w',rv⟩:=Y.yld G1 H1 i x H' ds[i] le1 si1.gok y (List.getElem?_eq_getElem hlt)
  have le':Gle G0 G':=le1.trans w'.ge
  cases eft:ft ds[i] r1 with
  | none=>simp only [eft] at q1; exact q1.elim
  | some r2=>
   simp only [eft] at q1
   refine ⟨r1,G',ds[i],si1.grow w',rv,r2,eft,fun σ2 si2=>⟨r2,G',si2,?_⟩⟩
   cases eb:s1 r2 with
   | nx r'=>simp only [eb] at q1; exact fun σ3 G3 H3 le3 si3=>⟨r',G3,si3,le'.trans le3,oTo.gle q1 (Gle.trans w'.ge le3)⟩
   | ct r'=>simp only [eb] at q1; exact fun σ3 G3 H3 le3 si3=>⟨r',G3,si3,le'.trans le3,oTo.gle q1 (Gle.trans w'.ge le3)⟩
   | bk r'=>simp only [eb] at q1; exact fun σ3 G3 H3 le3 si3=>q1 σ3 G3 H3 (Gle.trans w'.ge le3) si3
   | rt d=>simp only [eb] at q1; exact q1
   | exc x r'=>simp only [eb] at q1; exact fun pins e s' σ3 G3 H3 le3=>q1 pins e s' σ3 G3 H3 (Gle.trans w'.ge le3)
   | stuck=>simp only [eb] at q1; exact q1
 ·have e:i=ds.length:=by omega
  subst e
  rw [List.drop_length] at q1
  exact .inl ⟨Y.stop G1 H1 le1 si1.gok,q1 σ1 G1 H1 (Gle.refl _) si1⟩
noncomputable def zbR (m:List Md):List Md:=m.map fun x=>if x=Md.sh then Md.sh else Md.bw
noncomputable def zji (m:List Md) (r:Rho) (st:L2.St) (G:GH) (H:Hp):GE:=⟨G,H,fun i=>if m[i]? = some Md.ow\/m[i]? = some Md.bw then some ((st[i]?).join,(r[i]?).join) else none⟩
theorem zdL {m:List Md} {i:Nat} {x:Md} (h:m[i]? = some x):(zbR m)[i]? = some (if x=Md.sh then Md.sh else Md.bw):=by
 unfold zbR; rw [List.getElem?_map,h]; rfl
theorem znX {m:List Md} {i:Nat} (h:(zbR m)[i]? = some Md.sh):m[i]? = some Md.sh:=by
 cases q:m[i]? with
 | none=>unfold zbR at h; rw [List.getElem?_map,q] at h; cases h
 | some x=>
  rw [zdL q] at h
  cases x <;> first | rfl | (simp at h)
theorem zj6 {m:List Md} {i:Nat} (h:(zbR m)[i]? = some Md.ow):False:=by
 cases q:m[i]? with
 | none=>unfold zbR at h; rw [List.getElem?_map,q] at h; cases h
 | some x=>
  rw [zdL q] at h
  cases x <;> simp at h
theorem lockM_bw {m:List Md} {i:Nat} (h:(zbR m)[i]? = some Md.bw):m[i]? = some Md.ow\/m[i]? = some Md.bw:=by
 cases q:m[i]? with
 | none=>unfold zbR at h; rw [List.getElem?_map,q] at h; cases h
 | some x=>
  rw [zdL q] at h
  cases x with
  | sh=>simp at h
  | ow=>exact .inl rfl
  | bw=>exact .inr rfl
theorem SI.lock {r:Rho} {G:GH} {st:L2.St} {H:Hp} (s:SI X g m r G st H):SI X (zji m r st G H) (zbR m) r G st H where
 gok:=s.gok
 old:=fun _ _ e=>e
 ge:=fun _ _ e=>e
 gf:=fun _ _=>rfl
 lm:=by unfold zbR; rw [List.length_map]; exact s.lm
 lr:=s.lr
 sh:=fun i d h hm=>s.sh i d h (znX hm)
 ow:=fun i d h hm=>(zj6 hm).elim
 bw:=fun i d h hm=>by
  rcases lockM_bw hm with z | z
  ·obtain ⟨a,h1,h2,_⟩:=s.ow i d h z
   exact ⟨_,h1,.inr ⟨a,rfl,h2,h2.ob.isS⟩⟩
  ·obtain ⟨v,h1,h2⟩:=s.bw i d h z
   refine ⟨v,h1,?_⟩
   rcases h2 with h2 | ⟨a,e,h2,_⟩
   ·exact .inl h2
   ·exact .inr ⟨a,e,h2,h2.ob.isS⟩
 dis:=fun i j a d e _ _ _ hm=>(zj6 hm).elim
 lk:=fun i o h hm=>by
  have h':(if m[i]? = some Md.ow\/m[i]? = some Md.bw then some ((st[i]?).join,(r[i]?).join) else none)=some o:=h
  rw [if_pos (lockM_bw hm)] at h'
  cases h'
  have hi:i < st.length:=by
   have:=(List.getElem?_eq_some_iff.mp hm).1
   unfold zbR at this
   rw [List.length_map,s.lm] at this; exact this
  refine ⟨?_,fun d hd=>by rw [hd]; rfl⟩
  rw [List.getElem?_eq_getElem hi]; rfl
theorem SI.unlock {r r':Rho} {G G':GH} {st st':L2.St} {H H':Hp} (s:SI X g m r G st H) (s':SI X (zji m r st G H) (zbR m) r' G' st' H'):SI X g m r' G' st' H':=by
 have w:Grow X.K G H G' H':=s'.grown
 have hlk:∀(i:Nat),(m[i]? = some Md.ow\/m[i]? = some Md.bw)->st'[i]? = some (st[i]?).join/\∀d,r'[i]? = some (some d)->r[i]? = some (some d):=fun i hi=>by
  have hm:(zbR m)[i]? = some Md.bw:=by
   rcases hi with z | z <;> rw [zdL z] <;> simp
  obtain ⟨h1,h2⟩:=s'.lk i ((st[i]?).join,(r[i]?).join) (if_pos hi) hm
  refine ⟨h1,fun d hd=>?_⟩
  have:=h2 d hd
  cases q:r[i]? with
  | none=>rw [q] at this; cases this
  | some o=>rw [q] at this; rw [show o=some d from this]
 have hst:∀(i:Nat) v,(m[i]? = some Md.ow\/m[i]? = some Md.bw)->st[i]? = some (some v)->st'[i]? = some (some v):=fun i v hi h=>by
  rw [(hlk i hi).1,h]; rfl
 refine ⟨s'.gok,fun a o e=>s'.old a o (s.old a o e),fun a d e=>s'.ge a d (s.ge a d e),fun a h=>?_,?_,s'.lr,fun i d h hm=>?_,fun i d h hm=>?_,fun i d h hm=>?_,fun i j a d e hij h1 h2 m1 m2 q1 q2=>?_,fun i o hi hm=>?_⟩
 ·have h1:H a≠none:=by
   cases e:g.h0 a with
   | none=>exact absurd e h
   | some o=>rw [s.old _ _ e]; simp
  rw [w.gf a h1,s.gf a h]
 ·have:=s'.lm
  unfold zbR at this
  rw [List.length_map] at this; exact this
 ·exact s'.sh i d h (by rw [zdL hm]; simp)
 ·obtain ⟨a,h1,h2,h3⟩:=s.ow i d ((hlk i (.inl hm)).2 d h) hm
  exact ⟨a,hst i _ (.inl hm) h1,h2.mono w,h3⟩
 ·obtain ⟨v,h1,h2⟩:=s.bw i d ((hlk i (.inr hm)).2 d h) hm
  exact ⟨v,hst i _ (.inr hm) h1,h2.grow w⟩
 ·have e1:=(hlk i (.inl m1)).2 d h1
  have e2:=(hlk j (.inl m2)).2 e h2
  obtain ⟨b,z1,_,_⟩:=s.ow i d e1 m1
  obtain ⟨c,z2,_,_⟩:=s.ow j e e2 m2
  have y1:=hst i _ (.inl m1) z1
  have y2:=hst j _ (.inl m2) z2
  rw [q1] at y1
  rw [q2] at y2
  cases y1
  cases y2
  exact s.dis i j a d e hij e1 e2 m1 m2 z1 z2
 ·obtain ⟨h1,h2⟩:=s.lk i o hi hm
  refine ⟨?_,fun d hd=>h2 d ((hlk i (.inr hm)).2 d hd)⟩
  rw [(hlk i (.inr hm)).1,h1]; rfl
theorem SI.unlockX {r r':Rho} {G G':GH} {st st':L2.St} {H H':Hp} (s:SI X g m r G st H) (s':SI X (zji m r st G H) (zda (zbR m)) r' G' st' H'):SI X g (zda m) r' G' st' H':=by
 have w:Grow X.K G H G' H':=s'.grown
 have el:zda (zbR m)=zda m:=zdP (by unfold zbR; rw [List.length_map])
 rw [el] at s'
 have no:∀{i:Nat} {x:Md},(zda m)[i]? = some x->x=Md.sh:=fun {i x} h=>by
  unfold zda at h
  rw [List.getElem?_map] at h
  cases q:m[i]? with
  | none=>rw [q] at h; cases h
  | some y=>rw [q] at h; cases h; rfl
 refine ⟨s'.gok,fun a o e=>s'.old a o (s.old a o e),fun a d e=>s'.ge a d (s.ge a d e),fun a h=>?_,s'.lm,s'.lr,s'.sh,fun i d h hm=>(nomatch (no hm)),fun i d h hm=>(nomatch (no hm)),fun i j a d e hij h1 h2 m1 m2=>(nomatch (no m1)),fun i o hi hm=>(nomatch (no hm))⟩
 have h1:H a≠none:=by
  cases e:g.h0 a with
  | none=>exact absurd e h
  | some o=>rw [s.old _ _ e]; simp
 rw [w.gf a h1,s.gf a h]
theorem zjR (hp:PassesOwn (model X.prog X.w) X.A X.env X.xe) (hc:X.calm=true) {ft:FT} {fi:FI} (hi:SItC X g m tg iter fi) (hg:∀g',SG X g' (zbR m) tg ft (zbR m)) (hb:∀g',SSs X g' ro (zbR m) (zbR m) sts s1 (zbR m))
  (hs:∀x,foldedSetIterable iter X.env x=pure x:=by intro _; rfl):SS X g ro mb m (.For tg iter sts [] pos) (zbK m fi ft s1) m:=by
 have hgA:PG X tg (fun v σ H Q=>∃g',tG X g' (zbR m) (zbR m) ft v σ H Q):=fun pins s σ H v u Q I r ⟨g',q⟩=>(hg g').2 pins s σ H v u Q I r q
 have hbA:PSs X sts (fun D σ H=>∃g',tS X g' ro (zbR m) (zbR m) (zbR m) s1 D σ H):=fun pins s σ H D I ⟨g',q⟩=>(hb g').2 pins s σ H D I q
 refine ⟨rfl,PS.imp (zlN hp hc hi hgA hbA hs) fun D σ H ⟨r,G,si,q⟩=>⟨r,G,si,zag (zbz si rfl q) fun ds q J G0 H0 w0 Y=>?_⟩⟩
 have si0:=si.grow w0
 refine ⟨fun i n σ1 H1=>∃r1 G1,SI X (zji m r σ G0 H0) (zbR m) r1 G1 σ1 H1/\i<=ds.length/\n=ds.length - i/\oTo X g ro m mb G1 D (forF ft s1 (ds.drop i) r1),⟨ds.length,r,G0,si0.lock,Nat.zero_le _,rfl,oTo.gle q w0.ge⟩,?_⟩
 rintro i n σ1 H1 ⟨r1,G1,si1,hi,rfl,q1⟩
 have wg:Grow X.K G0 H0 G1 H1:=si1.grown
 by_cases hlt:i < ds.length
 ·have hd:ds.drop i=ds[i]::ds.drop (i + 1):=List.drop_eq_getElem_cons hlt
  rw [hd] at q1
  unfold forF at q1
  refine .inr ⟨Y.go G1 H1 i wg hlt,fun σ' H'=>∃r' G',SI X (zji m r σ G0 H0) (zbR m) r' G' σ' H'/\oTo X g ro m mb G' D (forF ft s1 (ds.drop (i + 1)) r'),fun σ' H' ⟨r',G',si',q'⟩=>⟨ds.length - (i + 1),by omega,r',G',si',hlt,rfl,q'⟩,fun x H' y=>?_⟩
  obtain ⟨G',w',rv⟩:=Y.yld G1 H1 i x H' ds[i] wg y (List.getElem?_eq_getElem hlt)
  cases eft:ft ds[i] r1 with
  | none=>simp only [eft] at q1; exact q1.elim
  | some r2=>
   simp only [eft] at q1
   refine ⟨zji m r σ G0 H0,r1,G',ds[i],si1.grow w',rv,r2,eft,fun σ2 si2=>⟨zji m r σ G0 H0,r2,G',si2,?_⟩⟩
   cases eb:s1 r2 with
   | nx r'=>simp only [eb] at q1; exact fun σ3 G3 H3 le3 si3=>⟨r',G3,si3,oTo.gle q1 (Gle.trans w'.ge le3)⟩
   | ct r'=>simp only [eb] at q1; exact fun σ3 G3 H3 le3 si3=>⟨r',G3,si3,oTo.gle q1 (Gle.trans w'.ge le3)⟩
   | bk r'=>simp only [eb] at q1; exact fun σ3 G3 H3 le3 si3=>q1 σ3 G3 H3 (Gle.trans w'.ge le3) (si0.unlock si3)
   | rt d=>
    simp only [eb] at q1
    intro v G2 H2 wr rv2
    refine q1 v G2 H2 (si0.grown.trans wr) ?_
    cases ro with
    | false=>exact rv2
    | true=>
     rcases rv2 with ⟨a,e1,e2,e3⟩ | z
     ·exact .inl ⟨a,e1,si0.grown.back e2,e3⟩
     ·exact .inr z
   | exc x r'=>simp only [eb] at q1; exact fun pins e s' σ3 G3 H3 le3 si3=>q1 pins e s' σ3 G3 H3 (Gle.trans w'.ge le3) (si0.unlockX si3)
   | stuck=>simp only [eb] at q1; exact q1
 ·have e:i=ds.length:=by omega
  subst e
  rw [List.drop_length] at q1
  exact .inl ⟨Y.stop G1 H1 wg,q1 σ1 G1 H1 (Gle.refl _) (si0.unlock si1)⟩
noncomputable def zbM (m:List Md) (p:FQ) (body:FS):Nat->FS
 | 0,_=>.stuck
 | n + 1,r=>onE m r (p r) fun c=>if c=true then (match body r with
   | .nx r'=>zbM m p body n r'
   | .ct r'=>zbM m p body n r'
   | .bk r'=>.nx r'
   | o=>o) else .nx r
theorem zf0 (n:Nat) (hp:PassesOwn (model X.prog X.w) X.A X.env X.xe) (hc:SQ X g m c p) (hb:SSs X g ro m m sts s1 m):SS X g ro mb m (.While c sts [] pos) (zbM m p s1 n) m:=by
 refine ⟨rfl,PS.imp (znB hp hc hb.2) fun D σ H ⟨r,G,si,q⟩=>?_⟩
 refine ⟨fun n σ H=>∃r G,SI X g m r G σ H/\oTo X g ro m mb G D (zbM m p s1 n r),⟨n,r,G,si,q⟩,?_⟩
 rintro n σ1 H1 ⟨r1,G1,si1,q1⟩
 cases n with
 | zero=>exact q1.elim
 | succ n=>
  unfold zbM at q1
  refine ⟨r1,G1,si1,zag (zbz si1 rfl q1) fun c q2 G2 H2 w2=>?_⟩
  cases c with
  | false=>rw [if_neg Bool.false_ne_true] at q2 ⊢; exact q2 σ1 G2 H2 w2.ge (si1.grow w2)
  | true=>
   rw [if_pos rfl] at q2 ⊢
   refine ⟨fun σ' H'=>∃r G,SI X g m r G σ' H'/\oTo X g ro m mb G D (zbM m p s1 n r),fun σ' H' h=>⟨n,Nat.lt_succ_self _,h⟩,r1,G2,si1.grow w2,?_⟩
   cases eb:s1 r1 with
   | nx r'=>simp only [eb] at q2; exact fun σ3 G3 H3 le3 si3=>⟨r',G3,si3,oTo.gle q2 (Gle.trans w2.ge le3)⟩
   | ct r'=>simp only [eb] at q2; exact fun σ3 G3 H3 le3 si3=>⟨r',G3,si3,oTo.gle q2 (Gle.trans w2.ge le3)⟩
   | bk r'=>simp only [eb] at q2; exact fun σ3 G3 H3 le3 si3=>q2 σ3 G3 H3 (Gle.trans w2.ge le3) si3
   | rt d=>simp only [eb] at q2; exact q2
   | exc x r'=>simp only [eb] at q2; exact fun pins e s' σ3 G3 H3 le3=>q2 pins e s' σ3 G3 H3 (Gle.trans w2.ge le3)
   | stuck=>simp only [eb] at q2; exact q2
end
noncomputable def noX:Res D->Res D
 | .ok d=>.ok d
 | _=>.stuck
@[simp] theorem noX_ok (d:D):noX (.ok d)=.ok d:=rfl
inductive ArgsOk (K:PySem.W.Frag) (G:GH) (H:Hp):List Md->List V->List D->Prop where
 | nil:ArgsOk K G H [] [] []
 | sh {v:V} {d:D} {ms:List Md} {vs:List V} {ds:List D}:RG K G v d->ArgsOk K G H ms vs ds->ArgsOk K G H (.sh::ms) (v::vs) (d::ds)
 | bw {v:V} {d:D} {ms:List Md} {vs:List V} {ds:List D}:RB K G H v d->ArgsOk K G H ms vs ds->ArgsOk K G H (.bw::ms) (v::vs) (d::ds)
section
variable {K:PySem.W.Frag} {G G':GH} {H H':Hp}
theorem ArgsOk.mono:∀{ms:List Md} {vs:List V} {ds:List D},ArgsOk K G H ms vs ds->Grow K G H G' H'->ArgsOk K G' H' ms vs ds
 | _,_,_,.nil,_=>.nil
 | _,_,_,.sh h t,w=>.sh (h.mono w.ge) (t.mono w)
 | _,_,_,.bw h t,w=>.bw (h.mono w) (t.mono w)
theorem ArgsOk.len {ms:List Md} {vs:List V} {ds:List D} (h:ArgsOk K G H ms vs ds):vs.length=ms.length/\ds.length=ms.length:=by
 induction h with
 | nil=>exact ⟨rfl,rfl⟩
 | sh h t ih=>exact ⟨congrArg (· + 1) ih.1,congrArg (· + 1) ih.2⟩
 | bw h t ih=>exact ⟨congrArg (· + 1) ih.1,congrArg (· + 1) ih.2⟩
theorem ArgsOk.app {dvs:List V} {dds:List D} (hs:Paired Scl dvs dds):∀{ms:List Md} {vs:List V} {ds:List D},ArgsOk K G H ms vs ds->ArgsOk K G H (ms++List.replicate dds.length .sh) (vs++dvs) (ds++dds)
 | _,_,_,.nil=>by
  induction hs with
  | nil=>exact .nil
  | cons h t ih=>exact .sh (.scl h) ih
 | _,_,_,.sh h t=>.sh h (t.app hs)
 | _,_,_,.bw h t=>.bw h (t.app hs)
theorem ArgsOk.get:∀{ms:List Md} {vs:List V} {ds:List D} {i:Nat} {d:D},ArgsOk K G H ms vs ds->ds[i]? = some d->∃v,vs[i]? = some v/\((ms[i]? = some .sh/\RG K G v d)\/(ms[i]? = some .bw/\RB K G H v d))
 | _,_,_,_,_,.nil,e=>by simp at e
 | _,_,_,0,_,.sh h t,e=>by simp at e; subst e; exact ⟨_,rfl,.inl ⟨rfl,h⟩⟩
 | _,_,_,0,_,.bw h t,e=>by simp at e; subst e; exact ⟨_,rfl,.inr ⟨rfl,h⟩⟩
 | _,_,_,i + 1,d,.sh h t,e=>by
  obtain ⟨v,h1,h2⟩:=t.get (i:=i) (d:=d) (by simpa using e)
  exact ⟨v,by simpa using h1,by simpa using h2⟩
 | _,_,_,i + 1,d,.bw h t,e=>by
  obtain ⟨v,h1,h2⟩:=t.get (i:=i) (d:=d) (by simpa using e)
  exact ⟨v,by simpa using h1,by simpa using h2⟩
end
noncomputable def spM (K:PySem.W.Frag) (ro:Bool) (ms:List Md) (F:List D->Res D):Sp:=fun vs H Q _=>∃G ds,GOk K G H/\ArgsOk K G H ms vs ds/\fin (F ds) (fun d=>∀v G' H',Grow K G H G' H'->RV ro K H G' H' v d->Q v H') fun _=>False
noncomputable def outR (ro:Bool):Out->Res D
 | .nx _=>if ro=true then .stuck else .ok .non
 | .rt d=>.ok d
 | .exc x _=>.exc x
 | _=>.stuck
noncomputable def zas (n:Nat) (ds:List D):Rho:=ds.map some++List.replicate (n - ds.length) none
noncomputable def zeE (n:Nat) (ms:List Md):List Md:=ms++List.replicate (n - ms.length) .sh
section
variable {P:Program} {w:World} {K:PySem.W.Frag} {mg:Str->Option Value} {base:Heap}
theorem zjL {X:Cx} {N:List Str} {ms:List Md} {vs:List V} {ds:List D} {G:GH} {H:Hp} (gk:GOk X.K G H) (rs:ArgsOk X.K G H ms vs ds) (hn:ms.length<=N.length):SI X ⟨G,H,fun _=>none⟩ (zeE N.length ms) (zas N.length ds) G (L2.start N vs) H:=by
 obtain ⟨l1,l2⟩:=rs.len
 have e1:(L2.start N vs).length=N.length:=by unfold L2.start; rw [List.length_append,List.length_map,List.length_replicate]; omega
 have e2:(zas N.length ds).length=N.length:=by unfold zas; rw [List.length_append,List.length_map,List.length_replicate]; omega
 have e3:(zeE N.length ms).length=N.length:=by unfold zeE; rw [List.length_append,List.length_replicate]; omega
 have at_:∀(i:Nat) d,(zas N.length ds)[i]? = some (some d)->i < ms.length/\(zeE N.length ms)[i]? = ms[i]?/\∃v,(L2.start N vs)[i]? = some (some v)/\((ms[i]? = some .sh/\RG X.K G v d)\/(ms[i]? = some .bw/\RB X.K G H v d)):=fun i d h=>by
  unfold zas at h
  by_cases hi:i < ds.length
  ·rw [List.getElem?_append_left (by simpa using hi),List.getElem?_map] at h
   have hd:ds[i]? = some d:=by
    cases z:ds[i]? with
    | none=>rw [z] at h; cases h
    | some d'=>rw [z] at h; cases h; rfl
   obtain ⟨v,hv,rv⟩:=rs.get hd
   refine ⟨by omega,?_,v,?_,rv⟩
   ·unfold zeE
    rw [List.getElem?_append_left (by omega)]
   ·unfold L2.start
    rw [List.getElem?_append_left (by rw [List.length_map]; omega),List.getElem?_map,hv]
    rfl
  ·rw [List.getElem?_append_right (by simpa using hi),List.getElem?_replicate] at h
   split at h <;> cases h
 refine ⟨gk,fun _ _ e=>e,fun _ _ e=>e,fun _ _=>rfl,by rw [e3,e1],by rw [e1,e2],fun i d h hm=>?_,fun i d h hm=>?_,fun i d h hm=>?_,fun i j a d e _ h _ hm=>?_,fun i o h=>nomatch h⟩
 ·obtain ⟨_,hq,v,h1,h2⟩:=at_ i d h
  rw [hq] at hm
  rcases h2 with ⟨_,h2⟩ | ⟨h3,h2⟩
  ·exact ⟨v,h1,h2⟩
  ·rw [hm] at h3; cases h3
 ·obtain ⟨_,hq,v,h1,h2⟩:=at_ i d h
  rw [hq] at hm
  rcases h2 with ⟨h3,h2⟩ | ⟨h3,h2⟩ <;> rw [hm] at h3 <;> cases h3
 ·obtain ⟨_,hq,v,h1,h2⟩:=at_ i d h
  rw [hq] at hm
  rcases h2 with ⟨h3,h2⟩ | ⟨h3,h2⟩
  ·rw [hm] at h3; cases h3
  ·refine ⟨v,h1,?_⟩
   rcases h2 with h2 | ⟨a,rfl,h2⟩
   ·exact .inl h2
   ·exact .inr ⟨a,rfl,h2,h2.ob.isS⟩
 ·obtain ⟨_,hq,v,h1,h2⟩:=at_ i d h
  rw [hq] at hm
  rcases h2 with ⟨h3,h2⟩ | ⟨h3,h2⟩ <;> rw [hm] at h3 <;> cases h3
theorem zkk {X:Cx} {ro:Bool} {fs:FS} {m':List Md} {G:GH} {H:Hp} {r:Rho} {Q:VK} (q:fin (outR ro (fs r)) (fun d=>∀v G' H',Grow X.K G H G' H'->RV ro X.K H G' H' v d->Q v H') fun _=>False) :
  oTo X ⟨G,H,fun _=>none⟩ ro m' [] G { nx:=fun _ H'=>Q .non H',rt:=Q } (fs r):=by
 cases e:fs r with
 | nx r'=>
  rw [e] at q
  cases ro with
  | false=>exact fun σ' G' H' _ si=>q .non G' H' si.grown (.scl .non)
  | true=>exact q.elim
 | rt d=>rw [e] at q; exact fun v G' H' wg rv=>q v G' H' wg rv
 | bk r'=>rw [e] at q; exact q.elim
 | ct r'=>rw [e] at q; exact q.elim
 | exc x r'=>rw [e] at q; exact q.elim
 | stuck=>rw [e] at q; exact q
theorem zoT {x qual:Str} {st:Stmt} {f:Addr} {fd:FuncData} {N ps:List Str} {k:Nat} {ro:Bool} {ms:List Md} {fs:FS} {m':List Md} (F:Fun K x qual st f fd) (S:FnScope N ps (zab st)) (hms:ms.length=ps.length)
  (hbody:∀(cdv:Value) (A:Around) (outer:List Env) (s:Shared) (H:Hp) (g:GE) (E:XK),Room k (A.deeper (envOfC qual (zab st) s.heap.objs.size f cdv)) ->
   SSs (cxOf CX0 P w K mg base N qual (zab st) f cdv A outer s H E).nox g ro [] (zeE N.length ms) (zbp st) fs m') :
  FnOk P w K mg base CX0 (k + 1) f fd ps (spM K ro ms fun ds=>outR ro (fs (zas N.length ds))):=by
 refine F.ok S (fun vs H Q E ⟨G,ds,gk,rs,q⟩=>rs.len.1.trans hms) fun cdv A outer s H vs Q E hr h=>?_
 obtain ⟨G,ds,gk,rs,q⟩:=h
 have hpl:ps.length<=N.length:=by have:=congrArg List.length S.pre; rw [List.length_take] at this; omega
 exact ⟨_,(hbody cdv A outer s H ⟨G,H,fun _=>none⟩ E hr).2,zas N.length ds,G,zjL gk rs (by omega),zkk q⟩
end
section
variable {X:Cx} {g:GE} {m:List Md} {e:Expr} {f:FE} {es:List Expr} {fl:Rho->Res (List D)} {k:Nat} {fa:Addr} {fd:FuncData} {ps:List Str} {F:List D->Res D} {dvs:List V} {ds:List Value} {dds:List D} {x:Str} {p pos:Pos} {ms:List Md}
noncomputable def tLM (X:Cx) (g:GE) (m:List Md) (ms:List Md) (f:Rho->Res (List D)):TA:=fun σ H Q=>∃r G,SI X g m r G σ H/\fin (f r) (fun ds=>∀vs G' H',Grow X.K G H G' H'->ArgsOk X.K G' H' ms vs ds->Q vs H') (XW X σ G H)
noncomputable def SAM (X:Cx) (g:GE) (m:List Md) (es:List Expr) (ms:List Md) (f:Rho->Res (List D)):Prop:=PA X es (tLM X g m ms f)
theorem zaX:SAM X g m [] [] lNil:=PA.imp zeQ fun σ H Q ⟨r,G,si,k⟩=>k [] G H (Grow.refl si.gok) .nil
theorem m_sh (ha:SE X g m e f) (hr:SAM X g m es ms fl) (hs:starEach (e::es) X.env=(false,eval e X.env)::starEach es X.env:=by rfl):SAM X g m (e::es) (.sh::ms) (zac f fl):=by
 refine PA.imp (zcy ha hr hs) fun σ H Q ⟨r,G,si,k⟩=>⟨r,G,si,zag (zai k) fun d k1 v G1 H1 w1 r1=>⟨r,G1,si.grow w1,?_⟩⟩
 exact zbd (zai k1) w1 fun ds z vs G2 H2 w2 r2=>z (v::vs) G2 H2 (w1.trans w2) (.sh (r1.mono w2.ge) r2)
theorem m_bw (ha:SB X g m e f) (hr:SAM X g m es ms fl) (hs:starEach (e::es) X.env=(false,eval e X.env)::starEach es X.env:=by rfl):SAM X g m (e::es) (.bw::ms) (zac f fl):=by
 refine PA.imp (zcy ha hr hs) fun σ H Q ⟨r,G,si,k⟩=>⟨r,G,si,zag (zai k) fun d k1 v G1 H1 w1 r1=>⟨r,G1,si.grow w1,?_⟩⟩
 exact zbd (zai k1) w1 fun ds z vs G2 H2 w2 r2=>z (v::vs) G2 H2 (w1.trans w2) (.bw (r1.mono w2) r2)
noncomputable def zaH (fl:Rho->Res (List D)) (dds:List D) (F:List D->Res D):FE:=fun r=>(fl r).bind fun ds=>noX (F (ds++dds))
theorem zmY {ro:Bool} {vs:List V} {zs:List D} {G:GH} {H:Hp} {Q:VK} (gk:GOk X.K G H) (rs:ArgsOk X.K G H ms vs zs) (hsc:Paired Scl dvs dds) (q:fin (noX (F (zs++dds))) (fun d=>∀v G' H',Grow X.K G H G' H'->RV ro X.K H G' H' v d->Q v H') fun _=>False) :
  spM X.K ro (ms++List.replicate dds.length .sh) F (vs++dvs) H Q E0:=by
 refine ⟨G,zs++dds,gk,rs.app hsc,?_⟩
 cases e:F (zs++dds) with
 | ok d=>rw [e] at q; exact q
 | exc x=>rw [e] at q; exact q.elim
 | stuck=>rw [e] at q; exact q.elim
theorem zmF {α:Type} {r:Res α} {q:α->Prop} {x:D->Prop} (h:fin r q x) (hr:∀e,r≠.exc e):fin r q fun _=>False:=by
 cases r with
 | ok a=>exact h
 | exc e=>exact absurd rfl (hr e)
 | stuck=>exact h
theorem zry (r:Res D) (e:D):noX r≠.exc e:=by cases r <;> simp [noX]
theorem zqV (G1:FnOk X.prog X.w X.K X.mg X.base CX0 k fa fd ps (spM X.K false (ms++List.replicate dds.length .sh) F)) (hr:Room k X.A) (hg:Gl X x) (hm:X.mg x=some (.ref fa)) (hk:PySem.W.keepIn X.K (.ref fa)=true) (hb:zgQ X.K fd ps ds) (hd:Vals dvs ds) (hsc:Paired Scl dvs dds)
  (ha:SAM X g m (e::es) ms fl) (hdb:(x == ("__debug__" : Str))=false:=by decide) (he:starEach (e::es) X.env=(false,eval e X.env)::starEach es X.env:=by rfl) (hpl:(backTo pos (starEach es X.env)).any (·.1)=false:=by rfl) :
  SE X g m (.Call (.Name x p) (e::es) [] pos) (zaH fl dds F):=by
 refine PE.imp (zpH G1 hr hg hm hk hb hd zs1 ha hdb he hpl) fun σ H Q ⟨r,G,si,q⟩=>⟨r,G,si,?_⟩
 cases ez:fl r with
 | ok zs=>
  unfold zaH at q
  rw [ez] at q
  intro vs G' H' w' rs
  exact zmY w'.ok rs hsc (zag (zmF q (zry _)) fun d k v G2 H2 w2 rv=>k v G2 H2 (w'.trans w2) rv)
 | exc x=>unfold zaH at q; rw [ez] at q; exact q
 | stuck=>unfold zaH at q; rw [ez] at q; exact q
end
end DL
end
section
namespace DL
open PySem PySem.Spec PyProof.Rows L2
theorem zog {env:Env}:∀(l:List (Str × NameKind)) (cs:List (Str × Addr)),(∀x∈l,x.2=.free->∃c,env.cells.lookup x.1=some c)->(∀x c,cs.lookup x=some c->env.cells.lookup x=some c) ->
  ∃cl,(forIn l cs (fun (x:Str × NameKind) (cs:List (Str × Addr))=>if (x.2 == NameKind.free)=true then (do let a <-cellOf env x.1; pure (ForInStep.yield ((x.1,a)::cs))) else pure (ForInStep.yield cs)):Sem (List (Str × Addr)))=pure cl /\
   (∀x c,cl.lookup x=some c->env.cells.lookup x=some c)/\(∀x,(x,NameKind.free)∈l->∃c,cl.lookup x=some c)/\(∀x c,cs.lookup x=some c->∃c',cl.lookup x=some c'):=by
 intro l
 induction l with
 | nil=>intro cs _ h; exact ⟨cs,rfl,h,fun x hx=>(by cases hx),fun x c h=>⟨c,h⟩⟩
 | cons y l ih=>
  intro cs hf hc
  obtain ⟨n,k⟩:=y
  by_cases hk:k=.free
  ·subst hk
   obtain ⟨c,ec⟩:=hf (n,.free) List.mem_cons_self rfl
   have e1:cellOf env n=pure c:=by unfold cellOf; rw [ec]
   have hc':∀x c',((n,c)::cs).lookup x=some c'->env.cells.lookup x=some c':=fun x c' h=>by
    rw [List.lookup_cons] at h
    cases q:x == n with
    | true=>rw [q] at h; cases h; rw [eq_of_beq q]; exact ec
    | false=>rw [q] at h; exact hc x c' h
   obtain ⟨cl,e2,h1,h2,h3⟩:=ih ((n,c)::cs) (fun x hx=>hf x (List.mem_cons_of_mem _ hx)) hc'
   refine ⟨cl,?_,h1,fun x hx=>?_,fun x c' h=>?_⟩
   ·rw [<-e2]
    rw [List.forIn_cons]
    show (cellOf env n >>= fun a=>pure (ForInStep.yield ((n,a)::cs))) >>= _=_
    rw [e1]
    rfl
   ·rcases List.mem_cons.mp hx with z | z
    ·cases z; exact h3 n c (by rw [List.lookup_cons]; simp)
    ·exact h2 x z
   ·cases q:x == n with
    | true=>exact h3 x c (by rw [List.lookup_cons,q])
    | false=>exact h3 x c' (by rw [List.lookup_cons,q]; exact h)
  ·obtain ⟨cl,e2,h1,h2,h3⟩:=ih cs (fun x hx=>hf x (List.mem_cons_of_mem _ hx)) hc
   have hb:(k == NameKind.free)=false:=by simpa using hk
   refine ⟨cl,?_,h1,fun x hx=>?_,h3⟩
   ·rw [<-e2,List.forIn_cons]
    simp only [hb,Bool.false_eq_true,if_false]
    rfl
   ·rcases List.mem_cons.mp hx with z | z
    ·cases z; exact absurd rfl hk
    ·exact h2 x z
theorem zk3 {scope:Scope} {env:Env} (hf:∀x∈scope.names,x.2=.free->∃c,env.cells.lookup x.1=some c) :
  ∃cl,closureFor scope env=pure cl/\(∀x c,cl.lookup x=some c->env.cells.lookup x=some c)/\(∀x,(x,NameKind.free)∈scope.names->∃c,cl.lookup x=some c):=by
 obtain ⟨cl,e,h1,h2,_⟩:=zog scope.names [] hf (fun x c h=>by cases h)
 refine ⟨cl,?_,h1,h2⟩
 have e0:closureFor scope env=((forIn scope.names ([]:List (Str × Addr)) (fun (x:Str × NameKind) (cs:List (Str × Addr))=>if (x.2 == NameKind.free)=true then (do let a <-cellOf env x.1; pure (ForInStep.yield ((x.1,a)::cs))) else pure (ForInStep.yield cs)):Sem (List (Str × Addr))) >>= fun cs=>pure cs):=rfl
 rw [e0,e]
 rfl
theorem zej {f:Str->NameKind->NameKind}:∀(l:List (Str × NameKind)) (x:Str),(l.map fun y=>(y.1,f y.1 y.2)).lookup x=(l.lookup x).map (f x)
 | [],x=>rfl
 | (n,k)::l,x=>by
  rw [List.map_cons,List.lookup_cons,List.lookup_cons]
  cases q:x == n with
  | true=>simp [eq_of_beq q]
  | false=>exact zej l x
noncomputable def relK (env:Env) (n:Str) (k:NameKind):NameKind:=if (k == .free && env.scope.kind == .function && env.kindOf n == some .cell)=true then .cell else k
theorem zeg (scope:Scope) (env:Env) (x:Str):(relabel scope env).names.lookup x=(scope.names.lookup x).map (relK env x):=by
 rw [<-zej]
 unfold relabel
 congr 1
 apply List.map_congr_left
 intro y _
 obtain ⟨n,k⟩:=y
 show (if (k == NameKind.free && env.scope.kind == .function && env.kindOf n == some .cell)=true then (n,NameKind.cell) else (n,k))=(n,relK env n k)
 unfold relK
 split <;> rfl
structure CompSc (X:Cx) (scope:Scope) (N':List Str) (nl:Nat) (cap:List Nat):Prop where
 kind:scope.kind=.function
 nocell:∀y∈scope.names,y.2≠.cell
 names:∀y∈scope.names,y.2=.local->scope.names.lookup y.1=some .local
 freeK:∀y∈scope.names,y.2=.free->X.env.kindOf y.1=some .cell\/X.env.kindOf y.1=some .free
 len:N'.length=nl + cap.length
 capN:∀j,j < cap.length->∃x,N'[nl + j]? = some x/\X.N[cap.getD j 0]? = some x/\scope.names.lookup x=some .free
noncomputable def cxC (X:Cx) (s₀:Shared) (H₀:Hp) (N':List Str) (scope:Scope) (cl:List (Str × Addr)) (C:Addr) (fp:List Addr):Cx where
 prog:=X.prog
 w:=X.w
 K:=X.K
 mg:=X.mg
 base:=X.base
 A:=X.A
 N:=N'
 s₀:=s₀
 H₀:=H₀
 env:=compEnvC scope cl C X.env
 outer:=X.stack
 stack:=X.stack
 ex:=fp
 fn:=fun _=>false
 calm:=X.calm
 pn:=[]
 xe:=fun _ _=>False
section
variable {X:Cx} {pins:List (Addr × Obj)} {σ:L2.St} {H:Hp} {s:Shared} {scope:Scope} {N':List Str} {nl:Nat} {cap:List Nat} {cl:List (Str × Addr)} {C:Addr} {fp:List Addr}
theorem zso (I:Inv X pins σ H s) (sc:CompSc X scope N' nl cap) (h1:∀x c,cl.lookup x=some c->X.env.cells.lookup x=some c) (h2:∀x,(x,NameKind.free)∈scope.names->∃c,cl.lookup x=some c)
  (hf:∀b∈fp,FpOk X pins H b/\b < s.heap.objs.size) (hC:s.heap.objs.size<=C):(cxC X s H N' scope cl C fp).Ok where
 mod:=I.ok.mod
 kind:=sc.kind
 glob:=I.ok.glob
 blt:=I.ok.blt
 above:=hC
 inj:=fun x y c a b=>I.ok.inj x y c (h1 x c a) (h1 y c b)
 has:=fun x hk=>by
  have hk':(scope.names.lookup x).map (relK X.env x)=some .cell\/(scope.names.lookup x).map (relK X.env x)=some .free:=by
   rw [<-zeg]; exact hk
  cases e:scope.names.lookup x with
  | none=>rw [e] at hk'; rcases hk' with z | z <;> cases z
  | some k=>
   have hm:=PySem.mem_of_lookup e
   have kf:k=.free:=by
    rw [e] at hk'
    have hk2:relK X.env x k=.cell\/relK X.env x k=.free:=by
     rcases hk' with z | z
     ·exact .inl (Option.some.inj z)
     ·exact .inr (Option.some.inj z)
    unfold relK at hk2
    split at hk2
    ·rename_i hc
     simp only [Bool.and_eq_true,beq_iff_eq] at hc
     exact hc.1.1
    ·rcases hk2 with z | z
     ·exact absurd z (sc.nocell _ hm)
     ·exact z
   subst kf
   exact h2 x hm
 cab:=fun x c h=>by cases h
 hd:=I.ok.hd
 frames:=I.ok.frames
 stk:=.inl rfl
 exf:=fun b hb=>⟨Nat.ne_of_lt (Nat.lt_of_lt_of_le (hf b hb).2 hC),fun x c e=>(hf b hb).1.2.2.2.2.1 x c (h1 x c e)⟩
 bs:=I.bs
 bsz:=Nat.le_trans I.ok.bsz I.sz
 noex:=fun b o e hb=>by
  obtain ⟨_,_,_,hx,_⟩:=(hf b hb).1
  rcases hx with z | z
  ·exact I.ok.noex b o e z
  ·exact absurd (Nat.lt_of_lt_of_le (Heap.lt_size e) (Nat.le_trans I.ok.bsz z)) (Nat.lt_irrefl _)
 exfs:=fun b hb hfs=>by
  obtain ⟨_,q1,q2,_⟩:=(hf b hb).1
  rcases List.mem_cons.mp (I.stkSub b hfs) with z | z
  ·exact q1 z
  ·exact q2 z
 funs:=I.stack
 frf:=I.stkFree
end
noncomputable def zep (ft:FT) (q:FQ) (fe:FE) (r0:Rho):List D->Res (List D)
 | []=>.ok []
 | d::ds=>(opt (ft d r0)).bind fun r1=>(q r1).bind fun c=>if c=true then (fe r1).bind fun v=>(zep ft q fe r0 ds).bind fun vs=>.ok (v::vs) else zep ft q fe r0 ds
noncomputable def capR (nl:Nat) (cap:List Nat) (r:Rho):Rho:=List.replicate nl none++cap.map fun i=>r.getD i none
noncomputable def capM (nl:Nat) (cap:List Nat) (m:List Md):List Md:=List.replicate nl Md.sh++cap.map fun i=>if m.getD i Md.sh=Md.sh then Md.sh else Md.bw
noncomputable def capS (nl:Nat) (cap:List Nat) (st:L2.St):L2.St:=List.replicate nl none++cap.map fun i=>st.getD i none
theorem zgp {α:Type} {nl:Nat} {cap:List Nat} {u:α} {h:Nat->α} {i:Nat} (hi:nl<=i):(List.replicate nl u++cap.map h)[i]? = (cap[i - nl]?).map h:=by
 rw [List.getElem?_append_right (by simpa using hi),List.length_replicate,List.getElem?_map]
section
variable {X:Cx} {pins:List (Addr × Obj)} {σ:L2.St} {H H':Hp} {s:Shared} {scope:Scope} {N':List Str} {nl:Nat} {cap:List Nat} {cl:List (Str × Addr)} {C:Addr} {fp:List Addr} {g:GE} {G G':GH} {m:List Md} {r:Rho}
theorem ztt (si:SI X g m r G σ H) (w:Grow X.K G H G' H'):SI (cxC X s H N' scope cl C fp) ⟨G,H,fun _=>none⟩ (capM nl cap m) (capR nl cap r) G' (capS nl cap σ) H':=by
 have lens:(capM nl cap m).length=nl + cap.length:=by simp [capM]
 have lens2:(capR nl cap r).length=nl + cap.length:=by simp [capR]
 have lens3:(capS nl cap σ).length=nl + cap.length:=by simp [capS]
 have rget:∀(i:Nat) d,(capR nl cap r)[i]? = some (some d)->nl<=i/\∃j,cap[i - nl]? = some j/\r[j]? = some (some d):=fun i d h=>by
  by_cases hi:i < nl
  ·unfold capR at h
   rw [List.getElem?_append_left (by simpa using hi),List.getElem?_replicate] at h
   split at h <;> cases h
  ·refine ⟨by omega,?_⟩
   unfold capR at h
   rw [zgp (by omega)] at h
   cases e:cap[i - nl]? with
   | none=>rw [e] at h; cases h
   | some j=>
    rw [e] at h
    refine ⟨j,rfl,?_⟩
    have h':r.getD j none=some d:=Option.some.inj h
    rw [List.getD_eq_getElem?_getD] at h'
    cases e2:r[j]? with
    | none=>rw [e2] at h'; cases h'
    | some o=>rw [e2] at h'; rw [show o=some d from h']
 have mget:∀(i j:Nat) md,nl<=i->cap[i - nl]? = some j->(capM nl cap m)[i]? = some md->md=if m.getD j Md.sh=Md.sh then Md.sh else Md.bw:=fun i j md hi hj h=>by
  unfold capM at h
  rw [zgp hi,hj] at h
  exact (Option.some.inj h).symm
 have sget:∀(i j:Nat) v,nl<=i->cap[i - nl]? = some j->σ[j]? = some (some v)->(capS nl cap σ)[i]? = some (some v):=fun i j v hi hj h=>by
  unfold capS
  rw [zgp hi,hj]
  show some (σ.getD j none)=_
  rw [List.getD_eq_getElem?_getD,h]
  rfl
 have mj:∀(j:Nat) d,r[j]? = some (some d)->m[j]? = some (m.getD j Md.sh):=fun j d h=>by
  have hl:j < m.length:=by
   have:=(List.getElem?_eq_some_iff.mp h).1
   rw [si.lr,<-si.lm] at this; exact this
  rw [List.getD_eq_getElem?_getD,List.getElem?_eq_getElem hl]
  rfl
 refine ⟨w.ok,w.he,w.ge,w.gf,by rw [lens,lens3],by rw [lens2,lens3],fun i d h hm=>?_,fun i d h hm=>?_,fun i d h hm=>?_,fun i j a d e _ h _ hm=>?_,fun i o h=>nomatch h⟩
 ·obtain ⟨hi,j,hj,hr⟩:=rget i d h
  have e:=mget i j _ hi hj hm
  have hsh:m.getD j Md.sh=Md.sh:=by
   by_cases z:m.getD j Md.sh=Md.sh
   ·exact z
   ·rw [if_neg z] at e; cases e
  obtain ⟨v,h1,h2⟩:=si.sh j d hr (by rw [mj j d hr,hsh])
  exact ⟨v,sget i j v hi hj h1,h2.mono w.ge⟩
 ·obtain ⟨hi,j,hj,hr⟩:=rget i d h
  have e:=mget i j _ hi hj hm
  split at e <;> cases e
 ·obtain ⟨hi,j,hj,hr⟩:=rget i d h
  have e:=mget i j _ hi hj hm
  have hsh:m.getD j Md.sh≠Md.sh:=by
   intro z
   rw [if_pos z] at e; cases e
  have hmj:=mj j d hr
  cases q:m.getD j Md.sh with
  | sh=>exact absurd q hsh
  | ow=>
   rw [q] at hmj
   obtain ⟨a,h1,h2,_⟩:=si.ow j d hr hmj
   exact ⟨_,sget i j _ hi hj h1,.inr ⟨a,rfl,h2.mono w,h2.ob.isS⟩⟩
  | bw=>
   rw [q] at hmj
   obtain ⟨v,h1,h2⟩:=si.bw j d hr hmj
   refine ⟨v,sget i j _ hi hj h1,?_⟩
   rcases h2 with h2 | ⟨a,rfl,h2,_⟩
   ·exact .inl (h2.mono w.ge)
   ·exact .inr ⟨a,rfl,h2.mono w,h2.ob.isS⟩
 ·obtain ⟨hi,j',hj,hr⟩:=rget i d h
  have e:=mget i j' _ hi hj hm
  split at e <;> cases e
theorem zsq (I:Inv X pins σ H s) (ok:(cxC X s H N' scope cl C fp).Ok) (sc:CompSc X scope N' nl cap) (h1:∀x c,cl.lookup x=some c->X.env.cells.lookup x=some c) (h2:∀x,(x,NameKind.free)∈scope.names->∃c,cl.lookup x=some c)
  (hN:X.N.Nodup) {s4:Shared} {H4:Hp} {mc:Str->Option Value} (hos:s4.os=s.os) (hb:AllBare s4.gens) (kp:∀b o,s.heap.get? b=some o->s4.heap.get? b=some o) (hns:s4.heap.Ns C mc) (hC:s.heap.objs.size<=C) (hHC:H4 C=none)
  (hH:∀b,H b=none->b < s.heap.objs.size->H4 b=none) (un:Un (frs X.stack) fp H H4 s.heap s4.heap) (hok:HOk X.prog X.w H4 s4.heap):Inv (cxC X s H N' scope cl C fp) [] (capS nl cap σ) H4 s4:=by
 refine ⟨ok,hos,hb,un,⟨mc,hns,fun i x v e1 e2 e3=>?_⟩,fun x c e=>?_,hHC,fun x c e=>?_,fun p hp=>absurd (show p∈([]:List (Addr × Obj)) from hp) (by simp),hok,?_⟩
 ·have hi:nl<=i:=by
   by_cases z:i < nl
   ·unfold capS at e2
    rw [List.getElem?_append_left (by simpa using z),List.getElem?_replicate] at e2
    split at e2 <;> cases e2
   ·omega
  unfold capS at e2
  rw [zgp hi] at e2
  cases ej:cap[i - nl]? with
  | none=>rw [ej] at e2; cases e2
  | some j=>
   rw [ej] at e2
   have hj:i - nl < cap.length:=(List.getElem?_eq_some_iff.mp ej).1
   obtain ⟨x',q1,q2,q3⟩:=sc.capN (i - nl) hj
   have ed:cap.getD (i - nl) 0=j:=by rw [List.getD_eq_getElem?_getD,ej]; rfl
   rw [ed] at q2
   have ei:nl + (i - nl)=i:=by omega
   rw [ei] at q1
   have e1':N'[i]? = some x:=e1
   rw [q1] at e1'
   have ex:x'=x:=Option.some.inj e1'
   subst ex
   have hv:σ[j]? = some (some v):=by
    have z:σ.getD j none=some v:=Option.some.inj e2
    rw [List.getD_eq_getElem?_getD] at z
    cases q:σ[j]? with
    | none=>rw [q] at z; cases z
    | some o=>rw [q] at z; rw [show o=some v from z]
   have hfree:=PySem.mem_of_lookup q3
   have kX:=sc.freeK _ hfree rfl
   obtain ⟨mx,hnx,hl⟩:=I.loc
   obtain ⟨u,ru,lk⟩:=hl j x' v q2 hv (.inr kX)
   refine ⟨u,ru,.inr ?_⟩
   obtain ⟨c,ec⟩:=h2 x' hfree
   have hkk:Env.kindOf (cxC X s H N' scope cl C fp).env x'=some .cell\/Env.kindOf (cxC X s H N' scope cl C fp).env x'=some .free:=by
    have z:(relabel scope X.env).names.lookup x'=some (relK X.env x' .free):=by rw [zeg,q3]; rfl
    show (relabel scope X.env).names.lookup x'=_\/(relabel scope X.env).names.lookup x'=_
    rw [z]
    unfold relK
    split
    ·exact .inl rfl
    ·exact .inr rfl
   refine ⟨hkk,c,ec,?_⟩
   rcases lk with ⟨k,_⟩ | ⟨_,c',ec',hcell⟩
   ·rcases kX with z | z <;> rw [k] at z <;> cases z
   ·rw [h1 x' c ec] at ec'
    cases ec'
    obtain ⟨o,ho,hd⟩:=hcell
    exact ⟨o,kp c o ho,hd⟩
 ·obtain ⟨v,o,ho,hd⟩:=I.cell x c (h1 x c e)
  exact ⟨v,o,kp c o ho,hd⟩
 ·obtain ⟨v,o,ho,hd⟩:=I.cell x c (h1 x c e)
  exact hH c (I.freeC x c (h1 x c e)) (Heap.lt_size ho)
 ·show (capS nl cap σ).length=N'.length
  rw [sc.len]
  simp [capS]
end
end DL
end
section
namespace DL
open PySem PySem.Spec PyProof.Rows L2
section
variable {prog:Program} {w:World} {A:Around} {R:Result->Shared->Prop} {s:Shared}
theorem zql {elt target iter:Expr} {ifs:List Expr} {scope:Scope} {pos:Pos} {it acc:Value} {env:Env} (I:Nat->Shared->Prop)
  (turn:∀n s,I n s->wpAny (model prog w) A (pyNext it) (fun r s1=>match r with
   | none=>R (.ok .next) s1
   | some v=>wpAny (model prog w) A (letOwnedTupleGo target it v) (fun _ s1'=>wpAny (model prog w) A (assign target env v) (fun _ s2=>
     wpAny (model prog w) A (forIn ifs true fun c r=>if r=true then do let ok <-isTrue c env (eval c env); pure (ForInStep.yield ok) else pure (ForInStep.yield r)) (fun ok s3=>
      if ok=true then wpAny (model prog w) A (eval elt env) (fun x s4=>
       wpAny (model prog w) A (call (.builtin "list.append") [acc,x]) (fun _ s5=>∃m,m < n/\I m s5) (notedBy (model prog w) A env fun e s'=>R (.error e) s') s4) (notedBy (model prog w) A env fun e s'=>R (.error e) s') s3
      else ∃m,m < n/\I m s3) (notedBy (model prog w) A env fun e s'=>R (.error e) s') s2) (notedBy (model prog w) A env fun e s'=>R (.error e) s') s1')
     (notedBy (model prog w) A env fun e s'=>R (.error e) s') s1) (notedBy (model prog w) A env fun e s'=>R (.error e) s') s)
  (n:Nat) (h:I n s):codeAny (model prog w) A (.compLoop (.ListComp elt [⟨target,iter,ifs,0⟩] scope pos) 0 it acc env) R s:=by
 refine codeAny_loop rfl I (fun n s hI=>?_) n h
 show wpAny _ A ((compTurn (.ListComp elt [⟨target,iter,ifs,0⟩] scope pos) 0 it acc env).onRaise (fun x=>do noteFrame x env; theTreesLotGoes x)) _ _ s
 refine wpAny_noted ?_
 rw [compTurn_list]
 refine wpAny_bind (wpAny_standAt (wpAny_bind (wpAny_mono (turn n s hI) (fun r s1 h1=>?_) fun _ _ h'=>h')))
 cases r with
 | none=>exact wpAny_pure h1
 | some v=>
  refine wpAny_bind (wpAny_mono h1 (fun _ s1' h1'=>?_) fun _ _ h'=>h')
  refine wpAny_bind (wpAny_mono h1' (fun _ s2 h2=>wpAny_bind (wpAny_mono h2 (fun ok s3 h3=>?_) fun _ _ h'=>h')) fun _ _ h'=>h')
  cases ok with
  | false=>exact wpAny_pure ⟨rfl,h3⟩
  | true=>
   exact wpAny_bind (wpAny_bind (wpAny_mono h3 (fun x s4 h4=>wpAny_bind (wpAny_mono h4 (fun _ s5 h5=>wpAny_pure (wpAny_pure ⟨rfl,h5⟩)) fun _ _ h'=>h')) fun _ _ h'=>h'))
end
noncomputable def SQs (X:Cx) (g:GE) (m:List Md) (ifs:List Expr) (f:FQ):Prop:=∀(pins:List (Addr × Obj)) (s:Shared) (σ:L2.St) (H:Hp) (Q:Bool->Hp->Prop),Inv X pins σ H s->tQ X g m f σ H Q ->
 wpAny (model X.prog X.w) X.A (forIn ifs true fun c r=>if r=true then do let ok <-isTrue c X.env (eval c X.env); pure (ForInStep.yield ok) else pure (ForInStep.yield r)) (TP X pins σ Q) X.xe s
section
variable {X:Cx} {g:GE} {m:List Md} {c:Expr} {p:FQ}
theorem zcm:SQs X g m [] fun _=>.ok true:=fun pins s σ H Q I ⟨r,G,si,q⟩=>wpAny_tests_nil ⟨H,I,q G H (Grow.refl si.gok)⟩
theorem zgW (h:SQ X g m c p):SQs X g m [c] p:=fun pins s σ H Q I q=>wpAny_tests_one (h pins s σ H Q I q)
end
noncomputable def FtOk (ft:FT) (nl:Nat):Prop:=∀d r r1,ft d r=some r1->r1.length=r.length/\∀i,nl<=i->r1[i]? = r[i]?
noncomputable def zop (ft:FTs) (nl:Nat):Prop:=∀d r r1,ft d r=some r1->r1.length=r.length/\∀i,nl<=i->r1[i]? = r[i]?
theorem zaY {i nl:Nat} (h:i < nl):FtOk (ftN i) nl:=fun d r r1 e=>by
 cases e
 exact ⟨by simp,fun j hj=>by rw [List.getElem?_set_ne (by omega)]⟩
theorem zb7 {nl:Nat}:zop zcf nl:=fun ds r r1 e=>by
 cases ds with
 | nil=>cases e; exact ⟨rfl,fun _ _=>rfl⟩
 | cons _ _=>cases e
theorem zaD {ft:FT} {fts:FTs} {nl:Nat} (h1:FtOk ft nl) (h2:zop fts nl):zop (zau ft fts) nl:=fun ds r r1 e=>by
 cases ds with
 | nil=>cases e
 | cons d ds=>
  have e':((ft d r).bind fun r'=>fts ds r')=some r1:=e
  cases q:ft d r with
  | none=>rw [q] at e'; cases e'
  | some r2=>
   rw [q] at e'
   obtain ⟨a1,a2⟩:=h1 d r r2 q
   obtain ⟨b1,b2⟩:=h2 ds r2 r1 e'
   exact ⟨b1.trans a1,fun i hi=>(b2 i hi).trans (a2 i hi)⟩
theorem zek {fts:FTs} {nl:Nat} (h:zop fts nl):FtOk (ftT fts) nl:=fun d r r1 e=>by
 cases d with
 | tup ds=>exact h ds r r1 e
 | lst ds=>exact h ds r r1 e
 | _=>cases e
section
variable {X:Cx} {pins:List (Addr × Obj)} {σ:L2.St} {H2:Hp} {s2:Shared} {scope:Scope} {N':List Str} {nl:Nat} {cap:List Nat} {cl:List (Str × Addr)} {fp:List Addr} {g:GE} {G2:GH} {m:List Md} {r:Rho} {elt tg iter:Expr} {ifs:List Expr} {pos:Pos}
 {J:It} {it:Addr} {tn:Nat->Heap->Prop} {ds vs:List D} {ft:FT} {q:FQ} {fe:FE} {E:Value->Shared->Prop}
theorem zqo (i:Nat):(capM nl cap m)[i]?≠some Md.ow:=fun h=>by
 by_cases hi:i < nl
 ·unfold capM at h
  rw [List.getElem?_append_left (by simpa using hi),List.getElem?_replicate] at h
  split at h <;> cases h
 ·unfold capM at h
  rw [zgp (by omega)] at h
  cases e:cap[i - nl]? with
  | none=>rw [e] at h; cases h
  | some j=>
   rw [e] at h
   have h':(if m.getD j Md.sh=Md.sh then Md.sh else Md.bw)=Md.ow:=Option.some.inj h
   split at h' <;> cases h'
theorem zmR {i:Nat} (hi:i < nl) (d:D):(capR nl cap r)[i]?≠some (some d):=fun h=>by
 unfold capR at h
 rw [List.getElem?_append_left (by simpa using hi),List.getElem?_replicate] at h
 split at h <;> cases h
noncomputable def tEl (El:PySem.W.Frag->GH->Hp->GH->Hp->V->D->Prop) (X:Cx) (g:GE) (m:List Md) (f:FE):TE:=fun σ H Q=>∃r G,SI X g m r G σ H/\fin (f r) (fun d=>∀v G' H',Grow X.K G H G' H'->El X.K G H G' H' v d->Q v H') (XW X σ G H)
theorem zg6 {El:PySem.W.Frag->GH->Hp->GH->Hp->V->D->Prop} {Rl:Addr->GH->Hp->List V->List D->Prop} (R0:∀p G H,Rl p G H [] []) (Rg:∀{p G H G' H' ws ds},Rl p G H ws ds->Grow X.K G H G' H'->Rl p G' H' ws ds) (Rn:∀{p G H ws ds},Rl p G H ws ds->ws.length=ds.length)
  (Ra:∀{p G H G' H' ws ds v d},Rl p G H ws ds->Grow X.K G H G' H'->Grow X.K G2 H2 G H->H p=some (.lst ws)->El X.K G H G' H' v d->Rl p G' (upd H' p (.lst (ws++[v]))) (ws++[v]) (ds++[d])) (hN:X.N.Nodup) (hcalm:X.calm=true) (sc:CompSc X scope N' nl cap) (h1:∀x c,cl.lookup x=some c->X.env.cells.lookup x=some c) (h2:∀x,(x,NameKind.free)∈scope.names->∃c,cl.lookup x=some c)
  (I2:Inv X pins σ H2 s2) (si:SI X g m r G2 σ H2) (T:Turn X.prog X.w X.K tg J fp it tn) (st:tn 0 s2.heap) (hf:∀b∈fp,FpOk X pins H2 b) (Y:YieldsC X.K J ds G2 H2) (hsz:ds.length<=sizeLine)
  (hg:∀C,SG (cxC X s2 H2 N' scope cl C fp) ⟨G2,H2,fun _=>none⟩ (capM nl cap m) tg ft (capM nl cap m)) (hft:FtOk ft nl) (hq:∀C,SQs (cxC X s2 H2 N' scope cl C fp) ⟨G2,H2,fun _=>none⟩ (capM nl cap m) ifs q) (he:∀C,PE (cxC X s2 H2 N' scope cl C fp) elt (tEl El (cxC X s2 H2 N' scope cl C fp) ⟨G2,H2,fun _=>none⟩ (capM nl cap m) fe))
  (hres:zep ft q fe (capR nl cap r) ds=.ok vs) {RR:Value->Addr->Result->Shared->Prop}
  (hRR:∀(p C:Addr) (s':Shared) (H':Hp) (G':GH),Inv X pins σ H' s'->(∃mm,s'.heap.Ns C mm)->H' C=none->C≠X.env.locals->X.s₀.heap.objs.size<=C->(∀x c,X.env.cells.lookup x=some c->c≠C)->(∀z∈X.pn++pins,z.1≠C) ->
   Grow X.K G2 H2 G' H'->H2 p=none->(∃ws,H' p=some (.lst ws)/\G' p=none/\Rl p G' H' ws vs)->RR (.ref p) C (.ok .next) s') :
  wpAny (model X.prog X.w) X.A (newList []) (fun acc s3=>wpAny (model X.prog X.w) X.A (newFunctionEnv scope X.env.globals cl [] X.env.qual none .none (some X.env)) (fun cenv s4=>
   codeAny (model X.prog X.w) X.A (.compStart (.ListComp elt [⟨tg,iter,ifs,0⟩] scope pos) 0 (.ref it) acc { cenv with scope:=relabel scope X.env }) (RR acc cenv.locals) s4) E s3) E s2:=by
 refine wpAny_newObj_type (wpAny_newFunctionEnv sc.nocell (by intro y hy; simp at hy) (fun h₁ hns₁ hsb₁=>?_) sc.kind)
 dsimp only at hns₁ hsb₁ ⊢
 generalize hH2:s2.heap.push { cls:=.type "list",dict:=none,data:=.seq ([]:List Value).toArray }=HH at hns₁ hsb₁ ⊢
 have hC:HH.objs.size=s2.heap.objs.size + 1:=by rw [<-hH2,Heap.size_push]
 have hDC:s2.heap.objs.size≠HH.objs.size:=by rw [hC]; exact Nat.ne_of_lt (Nat.lt_succ_self _)
 have hCle:s2.heap.objs.size<=HH.objs.size:=by rw [hC]; exact Nat.le_succ _
 have below:∀b,b < s2.heap.objs.size->b≠HH.objs.size/\b≠s2.heap.objs.size:=fun b hb=>⟨by rw [hC]; exact Nat.ne_of_lt (Nat.lt_succ_of_lt hb),Nat.ne_of_lt hb⟩
 have old:∀b o,s2.heap.get? b=some o->h₁.get? b=some o:=fun b o e=>hsb₁.extBut b o (below b (Heap.lt_size e)).1 (Heap.get?_push_of_some _ (hH2 ▸ Heap.get?_push_of_some _ e))
 have hacc:h₁.get? s2.heap.objs.size=some { cls:=.type "list",dict:=none,data:=.seq ([]:List Value).toArray }:=hsb₁.extBut _ _ hDC (Heap.get?_push_of_some _ (hH2 ▸ Heap.get?_push_size _ rfl))
 have hp2:H2 s2.heap.objs.size=none:=I2.hok.fresh (Nat.le_refl _)
 have hflt:∀b∈fp,FpOk X pins H2 b/\b < s2.heap.objs.size:=fun b hb=>⟨hf b hb,by
  obtain ⟨o,e,_⟩:=T.obj 0 s2.heap st b hb
  exact Heap.lt_size e⟩
 have ok:=zso (fp:=fp) I2 sc h1 h2 hflt hCle
 generalize hXX:cxC X s2 H2 N' scope cl HH.objs.size fp=XX at ok
 have hG2p:G2 s2.heap.objs.size=none:=si.gok.isN hp2
 have w0:Grow X.K G2 H2 G2 (upd H2 s2.heap.objs.size (.lst [])):=Grow.new si.gok hp2 _
 have hok4:HOk X.prog X.w (upd H2 s2.heap.objs.size (.lst [])) h₁:=I2.hok.laid old (Nat.le_refl _) ⟨Nat.zero_le _,[],0,.nil,hacc⟩
 have IC:Inv XX [] (capS nl cap σ) (upd H2 s2.heap.objs.size (.lst [])) { s2 with heap:=h₁,toks:=s2.toks + ([]:List (Str × Value)).length }:=by
  subst hXX
  refine zsq I2 ok sc h1 h2 hN rfl I2.bare old hns₁ hCle ?_ (fun b hb hlt=>?_) (Un.laid old (Nat.le_refl _) hp2) hok4
  ·rw [zaA (Ne.symm hDC)]; exact I2.hok.fresh hCle
  ·rw [zaA (below b hlt).2]; exact hb
 have SC:SI XX ⟨G2,H2,fun _=>none⟩ (capM nl cap m) (capR nl cap r) G2 (capS nl cap σ) (upd H2 s2.heap.objs.size (.lst [])):=by
  subst hXX
  exact ztt si w0
 have hst₁:tn 0 h₁:=T.keep _ _ _ st fun b _ o e=>old b o e
 have hfX:∀(H':Hp),(∀b∈fp,H' b=none)->∀b∈fp,FpOk XX [] H' b:=fun H' hn b hb=>by
  clear IC SC
  subst hXX
  obtain ⟨z0,z1,z2,z3,z4,z5⟩:=hf b hb
  refine ⟨hn b hb,?_,?_,?_,?_,?_⟩
  ·exact (below b (hflt b hb).2).1
  ·intro hfs
   rcases List.mem_cons.mp (I2.stkSub b hfs) with z | z
   ·exact z1 z
   ·exact z2 z
  ·exact .inl hb
  ·exact fun x c e=>z4 x c (h1 x c e)
  ·intro p hp; exact absurd (show p∈([]:List (Addr × Obj)) from hp) (by simp)
 have eA:XX.A=X.A:=Eq.rec (motive:=fun z _=>z.A=X.A) rfl hXX
 have eP:XX.prog=X.prog:=Eq.rec (motive:=fun z _=>z.prog=X.prog) rfl hXX
 have eW:XX.w=X.w:=Eq.rec (motive:=fun z _=>z.w=X.w) rfl hXX
 have eK:XX.K=X.K:=Eq.rec (motive:=fun z _=>z.K=X.K) rfl hXX
 have eX:XX.xe=fun _ _=>False:=Eq.rec (motive:=fun z _=>z.xe=fun _ _=>False) rfl hXX
 have eE:XX.env=compEnvC scope cl HH.objs.size X.env:=Eq.rec (motive:=fun z _=>z.env=compEnvC scope cl HH.objs.size X.env) rfl hXX
 have eC:XX.calm=true:=Eq.rec (motive:=fun z _=>z.calm=true) hcalm hXX
 have eH:XX.H₀ = H2:=Eq.rec (motive:=fun z _=>z.H₀ = H2) rfl hXX
 have hg':PG XX tg (tG XX ⟨G2,H2,fun _=>none⟩ (capM nl cap m) (capM nl cap m) ft):=Eq.rec (motive:=fun z _=>PG z tg (tG z ⟨G2,H2,fun _=>none⟩ (capM nl cap m) (capM nl cap m) ft)) (hg _).2 hXX
 have hq':SQs XX ⟨G2,H2,fun _=>none⟩ (capM nl cap m) ifs q:=Eq.rec (motive:=fun z _=>SQs z ⟨G2,H2,fun _=>none⟩ (capM nl cap m) ifs q) (hq _) hXX
 have he':PE XX elt (tEl El XX ⟨G2,H2,fun _=>none⟩ (capM nl cap m) fe):=Eq.rec (motive:=fun z _=>PE z elt (tEl El z ⟨G2,H2,fun _=>none⟩ (capM nl cap m) fe)) (he _) hXX
 have fin':∀{H':Hp} {s':Shared} {σ':L2.St} {G':GH} {ws:List V},Inv XX [] σ' H' s'->Grow X.K G2 H2 G' H'->H' s2.heap.objs.size=some (.lst ws)->G' s2.heap.objs.size=none->Rl s2.heap.objs.size G' H' ws vs->RR (.ref s2.heap.objs.size) HH.objs.size (.ok .next) s':=fun {H' s' σ' G' ws} J1 wg hpp hgp rs=>by
  clear IC SC hfX hg' hq' he' eA eP eW eK eX eE eC eH
  subst hXX
  have un:=J1.base
  refine hRR _ _ s' H' G' ?_ (let ⟨mm,hn,_⟩:=J1.loc; ⟨mm,hn⟩) J1.free (Nat.ne_of_gt (Nat.lt_of_lt_of_le I2.lt hCle)) (Nat.le_trans I2.sz hCle) (fun x c e z=>?_) (fun z hz e=>?_) wg hp2 ⟨_,hpp,hgp,rs⟩
  ·refine I2.call' J1.os un J1.hok J1.bare fun b hb=>?_
   obtain ⟨z0,z1,z2,z3,z4,z5⟩:=hf b hb
   exact ⟨z3,z1,z4,z5⟩
  ·obtain ⟨v,o,ho,_⟩:=I2.cell x c e
   exact absurd (Nat.lt_of_lt_of_le (Heap.lt_size ho) hCle) (by rw [z]; exact Nat.lt_irrefl _)
  ·have:=(I2.pin z hz).1
   exact absurd (Nat.lt_of_lt_of_le (Heap.lt_size this) hCle) (by rw [e]; exact Nat.lt_irrefl _)
 have loop:codeAny (model X.prog X.w) X.A (.compLoop (.ListComp elt [⟨tg,iter,ifs,0⟩] scope pos) 0 (.ref it) (.ref s2.heap.objs.size) (compEnvC scope cl HH.objs.size X.env)) (RR (.ref s2.heap.objs.size) HH.objs.size)
   { s2 with heap:=h₁,toks:=s2.toks + ([]:List (Str × Value)).length }:=by
  refine zql (fun n s'=>∃(i:Nat) (σ':L2.St) (H':Hp) (G':GH) (ws:List V) (done rest:List D),Inv XX [] σ' H' s'/\SI XX ⟨G2,H2,fun _=>none⟩ (capM nl cap m) (capR nl cap r) G' σ' H'/\tn i s'.heap/\(∀b∈fp,H' b=none)/\Grow X.K G2 H2 G' H' /\
    H' s2.heap.objs.size=some (.lst ws)/\G' s2.heap.objs.size=none/\Rl s2.heap.objs.size G' H' ws done/\zep ft q fe (capR nl cap r) (ds.drop i)=.ok rest/\vs=done++rest/\done.length<=i/\i<=ds.length/\n=ds.length - i) ?_ ds.length
   ⟨0,_,_,G2,[],[],vs,IC,SC,hst₁,fun b hb=>?_,w0,zaq,hG2p,R0 _ _ _,hres,rfl,Nat.le_refl _,Nat.zero_le _,rfl⟩
  rotate_left
  ·rw [zaA (below b (hflt b hb).2).2]; exact (hf b hb).1
  rintro n s3 ⟨i,σ3,H3,G3,ws,done,rest,I3,S3,st3,fr3,w3,hp3,hg3,rs3,hr3,hv3,hd3,hi3,rfl⟩
  have weaken:∀{α:Type} {t:Sem α} {Q:α->Shared->Prop} {s':Shared} {E':Value->Shared->Prop},wpAny (model XX.prog XX.w) XX.A t Q XX.xe s'->wpAny (model X.prog X.w) X.A t Q E' s':=fun h=>by
   rw [eP,eW,eA,eX] at h
   exact wpAny_mono h (fun _ _ z=>z) fun _ _ z=>z.elim
  by_cases hlt:i < ds.length
  ·have hd:ds.drop i=ds[i]::ds.drop (i + 1):=List.drop_eq_getElem_cons hlt
   rw [hd] at hr3
   unfold zep at hr3
   have it3:=T.item XX eP eW eK eC i [] s3 σ3 H3 (notedBy (model X.prog X.w) X.A (compEnvC scope cl HH.objs.size X.env) fun e s'=>RR (.ref s2.heap.objs.size) HH.objs.size (.error e) s') I3 (hfX H3 fr3) st3 (Y.go G3 H3 i w3 hlt)
   rw [eA] at it3
   refine thn it3 fun rr s4 ⟨u,hr,h4⟩=>?_
   subst hr
   refine thn h4 fun _ s5 ⟨x,H5,I5,r5,y5,st5,fr5⟩=>?_
   obtain ⟨G5,w5,rv5⟩:=Y.yld G3 H3 i x H5 ds[i] w3 y5 (List.getElem?_eq_getElem hlt)
   have w25:=w3.trans w5
   cases eft:ft ds[i] (capR nl cap r) with
   | none=>rw [eft] at hr3; cases hr3
   | some r1=>
    rw [eft] at hr3
    simp only [opt_some,bind_ok] at hr3
    have I5':=I5.pinned (hfX H5 fr5) (T.obj _ _ st5)
    have S5:SI XX ⟨G2,H2,fun _=>none⟩ (capM nl cap m) (capR nl cap r) G5 σ3 H5:=S3.grow (by rw [eK]; exact w5)
    have rv5':RG XX.K G5 x ds[i]:=by rw [eK]; exact rv5
    have as5:=hg' _ s5 σ3 H5 x u (fun σ6 H6=>H6=H5/\SI XX ⟨G2,H2,fun _=>none⟩ (capM nl cap m) r1 G5 σ6 H5) I5' r5 ⟨capR nl cap r,G5,ds[i],S5,rv5',r1,eft,fun σ6 si6=>⟨rfl,si6⟩⟩
    rw [eE] at as5
    refine thn (weaken as5) fun _ s6 ⟨σ6,H6,I6,e6,S6⟩=>?_
    subst e6
    obtain ⟨fl1,fl2⟩:=hft _ _ _ eft
    cases eq1:q r1 with
    | stuck=>rw [eq1] at hr3; cases hr3
    | exc xx=>rw [eq1] at hr3; cases hr3
    | ok b1=>
     rw [eq1] at hr3
     simp only [bind_ok] at hr3
     have te6:=hq' _ s6 σ6 H6 (fun b H7=>b=b1/\∃G7,Grow X.K G5 H6 G7 H7) I6 ⟨r1,G5,S6,by rw [eq1]; exact fun G7 H7 w7=>⟨rfl,G7,by rw [eK] at w7; exact w7⟩⟩
     rw [eE] at te6
     refine thn (weaken te6) fun b s7 ⟨H7,I7,eb,G7,w7⟩=>?_
     subst eb
     have S7:SI XX ⟨G2,H2,fun _=>none⟩ (capM nl cap m) r1 G7 σ6 H7:=S6.grow (by rw [eK]; exact w7)
     have w27:=w25.trans w7
     have hp7:H7 s2.heap.objs.size=some (.lst ws):=w7.he _ _ (w5.he _ _ hp3)
     have hg7:G7 s2.heap.objs.size=none:=by
      rw [w7.gf _ (by rw [w5.he _ _ hp3]; simp),w5.gf _ (by rw [hp3]; simp)]; exact hg3
     have back:∀{σ8:L2.St} {H8:Hp} {G8:GH} {s8:Shared},Inv XX ([]++zih fp s5.heap) σ8 H8 s8->Inv XX [] σ8 H8 s8/\tn (i + 1) s8.heap/\∀b∈fp,H8 b=none:=fun {σ8 H8 G8 s8} I8=>by
      refine ⟨I8.unpinned,T.keep _ _ _ st5 fun b hb o e=>(I8.pin (b,o) (List.mem_append_right _ (List.mem_append_right _ (zd6 hb e)))).1,fun b hb=>?_⟩
      obtain ⟨o,e,_⟩:=T.obj _ _ st5 b hb
      exact (I8.pin (b,o) (List.mem_append_right _ (List.mem_append_right _ (zd6 hb e)))).2.1
     have less:∀{σ8:L2.St} {H8:Hp} {G8:GH},SI XX ⟨G2,H2,fun _=>none⟩ (capM nl cap m) r1 G8 σ8 H8->SI XX ⟨G2,H2,fun _=>none⟩ (capM nl cap m) (capR nl cap r) G8 σ8 H8:=fun h=>h.less fl1.symm fun j d hj=>by
      by_cases hjn:j < nl
      ·exact absurd hj (zmR hjn d)
      ·rw [fl2 j (by omega)]; exact hj
     cases b with
     | false=>
      rw [if_neg Bool.false_ne_true] at hr3 ⊢
      obtain ⟨I7',t7,f7⟩:=back (G8:=G7) I7
      exact ⟨ds.length - (i + 1),by omega,i + 1,σ6,H7,G7,ws,done,rest,I7',less S7,t7,f7,w27,hp7,hg7,Rg rs3 (w5.trans w7),hr3,hv3,by omega,hlt,rfl⟩
     | true=>
      rw [if_pos rfl] at hr3 ⊢
      cases ee1:fe r1 with
      | stuck=>rw [ee1] at hr3; cases hr3
      | exc xx=>rw [ee1] at hr3; cases hr3
      | ok d1=>
       rw [ee1] at hr3
       simp only [bind_ok] at hr3
       cases er:zep ft q fe (capR nl cap r) (ds.drop (i + 1)) with
       | stuck=>rw [er] at hr3; cases hr3
       | exc xx=>rw [er] at hr3; cases hr3
       | ok rest'=>
        rw [er] at hr3
        simp only [bind_ok] at hr3
        cases hr3
        have el7:=he' _ s7 σ6 H7 (fun v H8=>∃G8,Grow X.K G7 H7 G8 H8/\El X.K G7 H7 G8 H8 v d1) I7 ⟨r1,G7,S7,by rw [ee1]; exact fun v G8 H8 w8 rv=>⟨G8,by rw [eK] at w8; exact w8,by rw [eK] at rv; exact rv⟩⟩
        rw [eE] at el7
        refine thn (weaken el7) fun u8 s8 ⟨v8,H8,I8,r8,G8,w8,rv8⟩=>?_
        have hp8:H8 s2.heap.objs.size=some (.lst ws):=w8.he _ _ hp7
        have hg8:G8 s2.heap.objs.size=none:=by rw [w8.gf _ (by rw [hp7]; simp)]; exact hg7
        have S8:SI XX ⟨G2,H2,fun _=>none⟩ (capM nl cap m) r1 G8 σ6 H8:=S7.grow (by rw [eK]; exact w8)
        have hlen:=Rn rs3
        have ap8:=zce (X:=XX) _ s8 σ6 H8 (.ref s2.heap.objs.size) [v8] (.ref s2.heap.objs.size) [u8] (fun v H9=>H9=upd H8 s2.heap.objs.size (.lst (ws++[v8]))) I8 rfl (.cons r8 .nil) ⟨_,ws,v8,rfl,rfl,hp8,by omega,rfl⟩
        refine thn (weaken ap8) fun u9 s9 ⟨v9,H9,I9,r9,e9⟩=>?_
        subst e9
        obtain ⟨I9',t9,f9⟩:=back (G8:=G8) I9
        have rsn:=Ra (Rg rs3 (w5.trans w7)) w8 w27 hp7 rv8
        have w28:=w27.trans w8
        refine ⟨ds.length - (i + 1),by omega,i + 1,σ6,_,G8,ws++[v8],done++[d1],rest',I9',less (S8.other hg8 hp2 zqo _),t9,f9,?_,zaq,hg8,rsn,er,by rw [hv3,List.append_assoc]; rfl,by rw [List.length_append,List.length_singleton]; omega,hlt,rfl⟩
        refine ⟨fun b e hb=>(w28.ok b e hb).mono (fun _ _ z=>z) fun o z=>?_,fun b o hb=>?_,w28.ge,w28.gf⟩
        ·rw [zaA (by rintro rfl; rw [hg8] at hb; cases hb)]; exact z
        ·rw [zaA (by rintro rfl; rw [hp2] at hb; cases hb)]; exact w28.he b o hb
  ·have e:i=ds.length:=by omega
   subst e
   rw [List.drop_length] at hr3
   cases hr3
   rw [List.append_nil] at hv3
   subst hv3
   have dn:=T.done XX eP eW eK eC ds.length [] s3 σ3 H3 (notedBy (model X.prog X.w) X.A (compEnvC scope cl HH.objs.size X.env) fun e s'=>RR (.ref s2.heap.objs.size) HH.objs.size (.error e) s') I3 (hfX H3 fr3) st3 (Y.stop G3 H3 w3)
   rw [eA] at dn
   refine thn dn fun rr s4 ⟨hr,I4⟩=>?_
   subst hr
   exact fin' I4 w3 hp3 hg3 rs3
 exact codeAny_compStart_list loop (T.self X.A 0 _ _ _ hst₁ loop)
end
end DL
end
section
namespace DL
open PySem PySem.Spec PyProof.Rows L2
noncomputable def noXL:Res (List D)->Res (List D)
 | .ok d=>.ok d
 | _=>.stuck
@[simp] theorem noXL_ok (d:List D):noXL (.ok d)=.ok d:=rfl
noncomputable def zbC (nl:Nat) (cap:List Nat) (fi:FI) (ft:FT) (q:FQ) (fe:FE):FE:=fun r=>(fi r).bind fun ds=>(opt (sz ds)).bind fun ds=>(noXL (zep ft q fe (capR nl cap r) ds)).bind fun vs=>.ok (.lst vs)
section
variable {X:Cx} {g:GE} {m mb:List Md} {scope:Scope} {N':List Str} {nl:Nat} {cap:List Nat} {elt tg iter:Expr} {ifs:List Expr} {pos pos' spos:Pos} {fi:FI} {ft:FT} {q:FQ} {fe:FE} {ro:Bool}
theorem ziz {r:Rho} {P:D->Prop} {x:D->Prop} (h:fin (zbC nl cap fi ft q fe r) P x):fin (fi r) (fun ds=>∃vs,ds.length<=sizeLine/\zep ft q fe (capR nl cap r) ds=.ok vs/\P (.lst vs)) x:=by
 unfold zbC at h
 refine zag (zai h) fun ds h1=>?_
 obtain ⟨ds',e2,h2⟩:=zaJ (zai h1)
 obtain ⟨rfl,hl⟩:=zpb e2
 cases e3:zep ft q fe (capR nl cap r) ds' with
 | ok vs=>rw [e3] at h2; exact ⟨vs,hl,rfl,h2⟩
 | exc x=>rw [e3] at h2; exact h2.elim
 | stuck=>rw [e3] at h2; exact h2.elim
theorem CompSc.clo {pins:List (Addr × Obj)} {σ:L2.St} {H:Hp} {s:Shared} (sc:CompSc X scope N' nl cap) (ok:X.Ok):∃cl,closureFor scope X.env=pure cl/\(∀x c,cl.lookup x=some c->X.env.cells.lookup x=some c)/\(∀x,(x,NameKind.free)∈scope.names->∃c,cl.lookup x=some c):=
 zk3 fun y hy hf=>ok.has y.1 (sc.freeK y hy hf)
theorem zc8 (hN:X.N.Nodup) (hcalm:X.calm=true) (sc:CompSc X scope N' nl cap) (hi:SItC X g m tg iter fi) (hg:∀s0 H0 cl C fp g',SG (cxC X s0 H0 N' scope cl C fp) g' (capM nl cap m) tg ft (capM nl cap m)) (hft:FtOk ft nl)
  (hq:∀s0 H0 cl C fp g',SQs (cxC X s0 H0 N' scope cl C fp) g' (capM nl cap m) ifs q) (he:∀s0 H0 cl C fp g',SE (cxC X s0 H0 N' scope cl C fp) g' (capM nl cap m) elt fe)
  (hs:∀x,foldedSetIterable iter X.env x=pure x:=by intro _; rfl):SO X g m (.ListComp elt [⟨tg,iter,ifs,0⟩] scope pos) (zbC nl cap fi ft q fe):=by
 intro pins s σ H Q I h
 obtain ⟨r,G,si,k⟩:=h
 obtain ⟨cl,hcl,h1,h2⟩:=sc.clo (pins:=pins) (σ:=σ) (H:=H) (s:=s) I.ok
 have k1:=ziz k
 rw [eval_ListComp]
 refine wpAny_comprehension_free (use:=none) rfl hs hcl sc.kind sc.names (thn (hi pins s σ H (fun J H'=>∃G' ds vs,Grow X.K G H G' H'/\YieldsC X.K J ds G' H'/\ds.length<=sizeLine/\zep ft q fe (capR nl cap r) ds=.ok vs /\
  (∀a G' H',Grow X.K G H G' H'->H a=none->Own X.K G' H' a (.lst vs)->Q (.ref a) H')) I ⟨r,G,si,zag k1 fun ds ⟨vs,z1,z2,z3⟩ J G' H' w y=>⟨G',ds,vs,w,y,z1,z2,z3⟩⟩) fun v s1 hv=>thn hv fun itv s2 hv2=>?_)
 obtain ⟨it,fp,tn,J,H2,rfl,I2,T,st,hf,G2,ds,vs,w2,Y,hsz,hres,hQ⟩:=hv2
 refine zg6 (El:=fun K _ _ G' _ v d=>RG K G' v d) (Rl:=fun _ G _ ws ds=>RGs X.K G ws ds) (fun _ _ _=>.nil) (fun h w=>h.mono w.ge) Paired.length (fun h w _ _ e=>Paired.snoc (h.mono w.ge) e) (RR:=fun acc C=>compPost (model X.prog X.w) X.A X.xe none (EP X pins σ Q) acc C) hN hcalm sc h1 h2 I2 (si.grow w2) T st hf Y hsz (fun C=>hg _ _ _ _ _ _) hft (fun C=>hq _ _ _ _ _ _) (fun C=>he _ _ _ _ _ _) hres ?_
 intro p C s' H' G' I' hns hC1 hC2 hC3 hC4 hC5 w' hp ⟨ws,o1,o2,o3⟩
 have ho:Own X.K G' H' p (.lst vs):=⟨o2,.lst o1 o3⟩
 obtain ⟨mm,hn⟩:=hns
 refine ⟨mm,hn,fun h' hsb=>⟨.ref p,H',?_,rfl,hQ p G' H' (w2.trans w') (w2.back hp) ho⟩⟩
 exact I'.turned (it:=C) (t':=s'.toks) (fun b o hb e=>hsb.extBut b o hb e) hC1 hC2.symm.symm (.inr hC3) hC4 hC5
theorem zbP (i:Nat) {y:Str} (hN:X.N.Nodup) (hcalm:X.calm=true) (hy:X.N[i]? = some y) (hyl:X.env.scope.names.lookup y=some .local) (sc:CompSc X scope N' nl cap) (hi:SItC X g m tg iter fi) (hg:∀s0 H0 cl C fp g',SG (cxC X s0 H0 N' scope cl C fp) g' (capM nl cap m) tg ft (capM nl cap m)) (hft:FtOk ft nl)
  (hq:∀s0 H0 cl C fp g',SQs (cxC X s0 H0 N' scope cl C fp) g' (capM nl cap m) ifs q) (he:∀s0 H0 cl C fp g',SE (cxC X s0 H0 N' scope cl C fp) g' (capM nl cap m) elt fe)
  (hsw:swapsWith (.ListComp elt [⟨tg,iter,ifs,0⟩] scope pos) (some (.Name y pos')) spos.line X.env=pure true:=by rfl) (hs:∀x,foldedSetIterable iter X.env x=pure x:=by intro _; rfl) :
  SS X g ro mb m (.Assign [.Name y pos'] (.ListComp elt [⟨tg,iter,ifs,0⟩] scope pos) spos) (setF m i (zbC nl cap fi ft q fe)) (m.set i .ow):=by
 refine ⟨by simp,?_⟩
 intro pins s σ H D0 I h
 obtain ⟨r,G,si,k⟩:=h
 obtain ⟨cl,hcl,h1,h2⟩:=sc.clo (pins:=pins) (σ:=σ) (H:=H) (s:=s) I.ok
 have k1:=ziz (zbz si (m':=m.set i .ow) (by simp) k)
 rw [exec_Assign_Name_used _ _ _ _ hsw]
 refine wpAny_bind (wpAny_standAt (wpAny_bind ?_))
 show wpAny _ X.A (do let _ <-comprehension (.ListComp elt [⟨tg,iter,ifs,0⟩] scope pos) scope X.env _ (newList []) false (eval iter X.env) (some (assign (.Name y pos') X.env))) _ _ s
 refine wpAny_bind (wpAny_mono (wpAny_comprehension_free (use:=some (assign (.Name y pos') X.env)) (Q:=fun _ s'=>SP X pins D0 .next s') rfl hs hcl sc.kind sc.names (thn (hi pins s σ H (fun J H'=>∃G' ds vs,Grow X.K G H G' H'/\YieldsC X.K J ds G' H'/\ds.length<=sizeLine/\zep ft q fe (capR nl cap r) ds=.ok vs /\
  (∀σ' G' H',Gle G G'->SI X g (m.set i .ow) (r.set i (some (.lst vs))) G' σ' H'->D0.nx σ' H')) I ⟨r,G,si,zag k1 fun ds ⟨vs,z1,z2,z3⟩ J G' H' w y=>⟨G',ds,vs,w,y,z1,z2,z3⟩⟩) fun v s1 hv=>thn hv fun itv s2 hv2=>?_)) (fun _ s' hq=>wpAny_pure (wpAny_pure hq)) fun _ _ e=>e)
 obtain ⟨it,fp,tn,J,H2,rfl,I2,T,st,hf,G2,ds,vs,w2,Y,hsz,hres,hQ⟩:=hv2
 refine zg6 (El:=fun K _ _ G' _ v d=>RG K G' v d) (Rl:=fun _ G _ ws ds=>RGs X.K G ws ds) (fun _ _ _=>.nil) (fun h w=>h.mono w.ge) Paired.length (fun h w _ _ e=>Paired.snoc (h.mono w.ge) e) (RR:=fun acc C=>compPost (model X.prog X.w) X.A X.xe (some (assign (.Name y pos') X.env)) (fun _ s'=>SP X pins D0 .next s') acc C) hN hcalm sc h1 h2 I2 (si.grow w2) T st hf Y hsz (fun C=>hg _ _ _ _ _ _) hft (fun C=>hq _ _ _ _ _ _) (fun C=>he _ _ _ _ _ _) hres ?_
 intro p C s' H' G' I' hns hC1 hC2 hC3 hC4 hC5 w' hp ⟨ws,o1,o2,o3⟩
 have ho:Own X.K G' H' p (.lst vs):=⟨o2,.lst o1 o3⟩
 obtain ⟨mm,hn⟩:=hns
 show wpAny _ X.A (assign (.Name y pos') X.env (.ref p)) _ _ s'
 refine wpAny_assign_Name (zh0 I' hN hy (.inl hyl) (v:=.ref p) rfl (fun s'' I'' ⟨a,hsb,ha⟩=>?_) (.inr hyl))
 have hCa:C≠a:=by
  rcases ha with z | z
  ·rw [z]; exact hC2
  ·exact (hC4 y a z).symm
 refine ⟨mm,hn.sameBut hsb hCa,fun h' hsb'=>?_⟩
 refine ⟨_,H',I''.turned (it:=C) (t':=s''.toks) (fun b o hb e=>hsb'.extBut b o hb e) hC1 hC2 (.inr hC3) hC4 hC5,?_⟩
 exact hQ _ G' H' (w2.trans w').ge (si.setN (w2.trans w') i (w2.back hp) ho)
end
end DL
end
section
namespace DL
open PySem PySem.Spec PyProof.Rows L2
noncomputable def MutD (K:PySem.W.Frag) (r:V->List V->Hp->VK->Prop) (mk:D->List D->Option D):Prop:=∀(G:GH) (H:Hp) (a:Addr) (d:D) (vs:List V) (ds:List D) (d':D) (Q:VK),GOk K G H->Own K G H a d->RGs K G vs ds->mk d ds=some d' ->
 (∀o',OwnO K G (upd H a o') a d'->Q .non (upd H a o'))->r (.ref a) vs H Q
noncomputable def tyB (T:String):D->Bool
 | .lst _=>T == "list"
 | .dic _=>T == "dict"
 | _=>false
noncomputable def mutF (T:String) (m:List Md) (i:Nat) (fl:Rho->Res (List D)) (mk:D->List D->Option D):FS:=fun r=>match r[i]? with
 | some (some d)=>if tyB T d=true then onE m r (fl r) fun ds=>(match mk d ds with
  | some d'=>.nx (r.set i (some d'))
  | none=>.stuck) else .stuck
 | _=>.stuck
theorem zqA {K:PySem.W.Frag} {G:GH} {H:Hp} {a:Addr} {d:D} {T:String} (o:Own K G H a d) (t:tyB T d=true):tyV K T (.ref a) H:=by
 cases o.ob with
 | lst r s=>exact .inl ⟨eq_of_beq t,_,SqL.of r⟩
 | dic r s=>exact .inr (.inr (.inl ⟨eq_of_beq t,.inl ⟨_,.inl r⟩⟩))
section
variable {X:Cx} {g:GE} {m mb:List Md} {e a b o:Expr} {es:List Expr} {f fa fb:FE} {fl:Rho->Res (List D)} {pos pos' apos cpos:Pos} {ro:Bool} {x name:Str} {T id:String} {R:V->List V->Hp->VK->Prop} {mk:D->List D->Option D}
theorem znR (i:Nat) (hm:m[i]? = some .ow) (hk:MutD X.K R mk) {D0:Ends} {σ:L2.St} {H:Hp} (h:tS X g ro m m mb (mutF T m i fl mk) D0 σ H) :
  ∃v,σ[i]? = some (some v)/\tyV X.K T v H/\tL X g m fl σ H fun xs H2=>R v xs H2 fun _ H1=>D0.nx σ H1:=by
 obtain ⟨r,G,si,k⟩:=h
 unfold mutF at k
 cases er:r[i]? with
 | none=>simp only [er] at k; exact (show False from k).elim
 | some oo=>
  cases oo with
  | none=>simp only [er] at k; exact (show False from k).elim
  | some d=>
   simp only [er] at k
   by_cases ht:tyB T d=true
   ·rw [if_pos ht] at k
    obtain ⟨a,h1,h2,h3⟩:=si.mut hm er
    refine ⟨_,h1,zqA h2 ht,r,G,si,zag (zbz si rfl k) fun ds k2 vs G' H' w rs=>?_⟩
    cases em:mk d ds with
    | none=>simp only [em] at k2; exact (show False from k2).elim
    | some d'=>
     simp only [em] at k2
     obtain ⟨a',h1',h2',h3'⟩:=(si.grow w).mut hm er
     rw [h1] at h1'; cases h1'
     exact hk G' H' a d vs ds d' _ w.ok h2' rs em fun o' ob=>k2 σ G' _ w.ge (h3' o' d' ob)
   ·rw [if_neg ht] at k; exact (show False from k).elim
theorem zgI (i:Nat) (hm:m[i]? = some .ow) (pa:PlainAttrs T) (slot:Slot T name id) (hty:typeOf (.builtin id)=pure (.type "method_descriptor")) (hmt:MtR X id R) (hk:MutD X.K R mk) (hN:X.N[i]? = some x) (hv:Vis X.env.scope x) (ha:SA X g m (e::es) fl)
  (hd:(x == ("__debug__" : Str))=false:=by decide) (hcd:(x == ("__classdict__" : Str))=false:=by decide)
  (hbase:attributeBase (.Name x pos') name X.env (eval (.Name x pos') X.env)=eval (.Name x pos') X.env:=by rfl)
  (hfew:((backTo cpos (starEach (e::es) X.env)).all (fun x=>! x.1) && (backToKw cpos (keywordEach [] X.env)).all (fun x=>x.1.isSome) && decide ((e::es).length + ([]:List Keyword).length + (if ([]:List Keyword).isEmpty then 0 else 1) < 30))=true:=by rfl)
  (hline:(apos.endLine == cpos.line)=true:=by rfl) (hst:starEach (e::es) X.env=(false,eval e X.env)::starEach es X.env:=by rfl) (hplain:(backTo cpos (starEach es X.env)).any (·.1)=false:=by rfl) :
  SS X g ro mb m (.Expr (.Call (.Attribute (.Name x pos') name apos) (e::es) [] cpos) pos) (mutF T m i fl mk) m:=
 ⟨rfl,PS.imp (zlO (zrk pa slot hty hmt (zfx hN hv hd hcd) ha hbase hfew hline hst hplain)) fun D0 σ H h=>znR i hm hk h⟩
noncomputable def appD:D->List D->Option D
 | .lst ds,[d]=>if ds.length < sizeLine then some (.lst (ds++[d])) else none
 | _,_=>none
theorem zgs {K:PySem.W.Frag}:MutD K zlI appD:=by
 intro G H a d vs ds d' Q gk ow rs e q
 unfold appD at e
 split at e
 ·split at e
  ·rename_i hl
   cases e
   cases ow.ob with
   | lst r s=>
    cases rs with
    | cons r1 t=>
     cases t
     have:=Paired.length s
     exact ⟨a,_,_,rfl,rfl,r,by omega,q _ (.lst zaq (Paired.snoc s r1))⟩
  ·cases e
 ·cases e
theorem Paired.rev {α β:Type} {F:α->β->Prop}:∀{l:List α} {r:List β},Paired F l r->Paired F l.reverse r.reverse
 | _,_,.nil=>.nil
 | _,_,.cons h t=>by rw [List.reverse_cons,List.reverse_cons]; exact Paired.snoc (Paired.rev t) h
noncomputable def zqd (x:Int) (n:Nat):Nat:=if x < 0 then (x + (n:Int)).toNat else min x.toNat n
noncomputable def insL {α:Type} (xs:List α) (x:Int) (y:α):List α:=xs.take (zqd x xs.length)++y::xs.drop (zqd x xs.length)
noncomputable def zlF:V->List V->Hp->VK->Prop:=fun x vs H Q=>∃l xs i y,x=.ref l/\vs=[.int i,y]/\H l=some (.lst xs)/\-(2 ^ 63)<=i/\i < 2 ^ 63/\xs.length < sizeLine/\Q .non (upd H l (.lst (insL xs i y)))
theorem zmd:MtR X "list.insert" zlF:=by
 intro pins s σ H x vs v us Q I rx rv h
 obtain ⟨l,xs,i,y,rfl,rfl,hH,h1,h2,hz,q⟩:=h
 cases rx
 obtain ⟨u,w',rfl,⟨t,rfl⟩,ry⟩:=zqx rv
 obtain ⟨z,its,n,r,hl,e⟩:=I.lstM hH
 have hfit:¬(! Builtin.List.listFitsIndex i)=true:=by rw [fitsIndex_both h1 h2]; exact Bool.false_ne_true
 refine call_meets PySem.F.slot_list_insert ⟨_,e,rfl⟩ PySem.F.entry_list_insert (PySem.F.args_list_insert_3 _ _ _) (AutoListH.list_insert_list_int_val_1 l its.toArray n i t w' hfit (by rw [List.size_toArray]; omega)) ⟨e,?_⟩
 refine ⟨.non,_,I.lset (its':=insL its i w') hH e ?_ ?_ ?_,rfl,q⟩
 ·show ((its.toArray.extract 0 (if i < 0 then (i + ((its.toArray.size:Nat):Int)).toNat else min i.toNat its.toArray.size)).push w'++its.toArray.extract (if i < 0 then (i + ((its.toArray.size:Nat):Int)).toNat else min i.toNat its.toArray.size))=(insL its i w').toArray
  rw [List.size_toArray]
  unfold insL zqd
  generalize (if i < 0 then (i + ((its.length:Nat):Int)).toNat else min i.toNat its.length)=k
  apply Array.ext'
  simp
  exact List.take_of_length_le (by rw [List.length_drop]; exact Nat.le_refl _)
 ·unfold insL
  rw [hl]
  exact Vals.append (r.take _) (.cons ry (r.drop _))
 ·unfold insL
  rw [List.length_append,List.length_cons,List.length_take,List.length_drop]
  omega
noncomputable def insD:D->List D->Option D
 | .lst ds,[.int i,d]=>if ds.length < sizeLine/\-(2 ^ 63)<=i/\i < 2 ^ 63 then some (.lst (insL ds i d)) else none
 | _,_=>none
theorem zrZ {α β:Type} {F:α->β->Prop} {l:List α} {r:List β} {x:α} {y:β} (h:Paired F l r) (i:Int) (hxy:F x y):Paired F (insL l i x) (insL r i y):=by
 unfold insL
 rw [Paired.length h]
 exact Paired.app (Paired.tk _ h) (.cons hxy (Paired.dr _ h))
theorem zrY {K:PySem.W.Frag}:MutD K zlF insD:=by
 intro G H a d vs ds d' Q gk ow rs e q
 unfold insD at e
 split at e
 ·split at e
  ·rename_i hl
   cases e
   cases ow.ob with
   | lst r s=>
    cases rs with
    | cons r1 t=>
     cases t with
     | cons r2 t=>
      cases t
      have:=Paired.length s
      exact ⟨a,_,_,_,rfl,by rw [r1.int gk],r,hl.2.1,hl.2.2,by omega,q _ (.lst zaq (zrZ s _ r2))⟩
  ·cases e
 ·cases e
end
noncomputable def zbB:D->Bool
 | .non=>true
 | .bl _=>true
 | .int _=>true
 | .str _=>true
 | _=>false
noncomputable def toV:D->V
 | .non=>.non
 | .bl b=>.bl b
 | .int i=>.int i
 | .str x=>.str x
 | _=>.non
noncomputable def eqs (a b:D):Bool:=eqV (toV a) (toV b)
@[simp] theorem eqs_int (a b:Int):eqs (.int a) (.int b)=(a == b):=rfl
@[simp] theorem eqs_str (a b:Str):eqs (.str a) (.str b)=(a == b):=rfl
@[simp] theorem eqs_non_int (b:Int):eqs .non (.int b)=false:=rfl
@[simp] theorem eqs_int_non (b:Int):eqs (.int b) .non=false:=rfl
section
variable {K:PySem.W.Frag} {G:GH} {H:Hp} {v:V} {d:D}
theorem RB.flat (h:RB K G H v d) (gk:GOk K G H) (hf:zbB d=true):v=toV d/\zdF v=true:=by
 cases d with
 | non=>rw [h.non gk]; exact ⟨rfl,rfl⟩
 | bl b=>rw [h.bl gk]; exact ⟨rfl,rfl⟩
 | int i=>rw [h.int gk]; exact ⟨rfl,rfl⟩
 | str x=>rw [h.str gk]; exact ⟨rfl,rfl⟩
 | _=>cases hf
theorem zse {xs:List V} {ds:List D} (h:RGs K G xs ds) (gk:GOk K G H) (hf:ds.all zbB=true):xs=ds.map toV/\xs.all zdF=true:=by
 induction h with
 | nil=>exact ⟨rfl,rfl⟩
 | cons r t ih=>
  rw [List.all_cons,Bool.and_eq_true] at hf
  obtain ⟨e1,e2⟩:=RB.flat (H:=H) r.rb gk hf.1
  obtain ⟨e3,e4⟩:=ih hf.2
  exact ⟨by rw [List.map_cons,<-e3,<-e1],by rw [List.all_cons,e2,e4]; rfl⟩
end
noncomputable def keyD:D->Option Key
 | .int i=>some (.inl i)
 | .str x=>some (.inr x)
 | _=>none
noncomputable def hasK (kvs:List (Key × D)) (k:Key):Bool:=kvs.any fun kv=>decide (kv.1=k)
noncomputable def getK (kvs:List (Key × D)) (k:Key):Option D:=(kvs.find? fun kv=>decide (kv.1=k)).map (·.2)
noncomputable def inB (x c:D):Option Bool:=match c with
 | .lst ds=>if zbB x=true/\ds.all zbB=true then some (ds.any fun y=>eqs y x) else none
 | .tup ds=>if zbB x=true/\ds.all zbB=true then some (ds.any fun y=>eqs y x) else none
 | .dic kvs=>(keyD x).map (hasK kvs)
 | .str y=>match x with
  | .str z=>some (!(Builtin.Str.occurrences y z 0 y.length 1).isEmpty)
  | _=>none
 | _=>none
noncomputable def inD (x c:D):Option D:=(inB x c).map .bl
noncomputable def ninD (x c:D):Option D:=(inB x c).map fun b=>.bl (! b)
theorem zoU {K:PySem.W.Frag} {G:GH} {k:Key} {ps:List (Key × V)} {kvs:List (Key × D)} (h:RKs K G ps kvs) (d:D) (e:getK kvs k=some d):∃v,valV ps k=some v/\RG K G v d:=by
 induction h with
 | nil=>cases e
 | @cons p q ps kvs r t ih=>
  obtain ⟨k1,v1⟩:=p
  obtain ⟨k2,d2⟩:=q
  obtain ⟨e1,r1⟩:=r
  have e1':k1=k2:=e1
  subst e1'
  by_cases hk:k1=k
  ·subst hk
   have:d2=d:=by simpa [getK,List.find?_cons] using e
   subst this
   exact ⟨v1,zfK rfl,r1⟩
  ·have e':getK kvs k=some d:=by simpa [getK,List.find?_cons,hk] using e
   obtain ⟨v,h1,h2⟩:=ih e'
   exact ⟨v,by rw [zeC hk]; exact h1,h2⟩
theorem zmE {K:PySem.W.Frag} {G:GH} {k:Key} {ps:List (Key × V)} {kvs:List (Key × D)} (h:RKs K G ps kvs) (e:getK kvs k=none):valV ps k=none:=by
 induction h with
 | nil=>rfl
 | @cons p q ps kvs r t ih=>
  obtain ⟨k1,v1⟩:=p
  obtain ⟨k2,d2⟩:=q
  obtain ⟨e1,r1⟩:=r
  have e1':k1=k2:=e1
  subst e1'
  by_cases hk:k1=k
  ·subst hk; simp [getK,List.find?_cons] at e
  ·have e':getK kvs k=none:=by simpa [getK,List.find?_cons,hk] using e
   rw [zeC hk]; exact ih e'
theorem zr3 (kvs:List (Key × D)) (k:Key):hasK kvs k=(getK kvs k).isSome:=by
 induction kvs with
 | nil=>rfl
 | cons p r ih=>
  by_cases e:p.1=k
  ·simp [hasK,getK,List.find?_cons,e]
  ·have h1:hasK (p::r) k=hasK r k:=by simp [hasK,e]
   have h2:getK (p::r) k=getK r k:=by simp [getK,List.find?_cons,e]
   rw [h1,h2,ih]
theorem zka {K:PySem.W.Frag} {G:GH} {H:Hp} {v:V} {d:D} {k:Key} (gk:GOk K G H) (h:RB K G H v d) (e:keyD d=some k):v=kV k:=by
 cases d with
 | int i=>cases e; exact h.int gk
 | str x=>cases e; exact h.str gk
 | _=>cases e
section
variable {X:Cx} {g:GE} {m mb:List Md} {e a b o c:Expr} {f fa fb fc:FE} {pos pos':Pos}
noncomputable def rInD (neg:Bool):R2:=fun y x H Q=>∃a o,x=.ref a/\DGet H a y o/\Q (.bl (if neg then ! o.isSome else o.isSome)) H
theorem zrs (hu:X.A.units + 1 < cLine):OpR X (compareOp .In) (rInD false):=by
 intro pins s σ H y x u v Q I ry rx h
 obtain ⟨a,oo,rfl,hg,q⟩:=h
 cases rx
 exact d_in hu I hg ry fun s' I'=>⟨.bl _,H,I',rfl,q⟩
theorem zpM (hu:X.A.units + 1 < cLine):OpR X (compareOp .NotIn) (rInD true):=by
 intro pins s σ H y x u v Q I ry rx h
 obtain ⟨a,oo,rfl,hg,q⟩:=h
 cases rx
 exact zqk hu I hg ry fun s' I'=>⟨.bl _,H,I',rfl,q⟩
noncomputable def rInA (K:PySem.W.Frag) (neg:Bool):R2:=fun x y H Q=>rIn K neg x y H Q\/rInD neg x y H Q\/∃i j,x=.str i/\y=.str j/\Q (.bl (if neg then !(!(Builtin.Str.occurrences j i 0 j.length 1).isEmpty) else !(Builtin.Str.occurrences j i 0 j.length 1).isEmpty)) H
theorem zrt (hu:X.A.units + 1 < cLine):OpR X (compareOp .In) (rInA X.K false):=OpR.or zl1 (OpR.or (zrs hu) zl0)
theorem zpN (hu:X.A.units + 1 < cLine):OpR X (compareOp .NotIn) (rInA X.K true):=OpR.or zij (OpR.or (zpM hu) zii)
theorem zmw {K:PySem.W.Frag} (neg:Bool):OpD K (rInA K neg) (fun x c=>(inB x c).map fun b=>.bl (if neg then ! b else b)):=by
 intro G H v1 v2 d1 d2 d Q gk r1 r2 e q
 have seq:∀{xs:List V} {ds:List D} {p:Addr},RGs K G xs ds->v2=.ref p->(SqL K H p xs\/SqT K H p xs)->zbB d1=true->ds.all zbB=true->d=.bl (if neg then !(ds.any fun y=>eqs y d1) else ds.any fun y=>eqs y d1)->rInA K neg v1 v2 H Q:=fun {xs ds p} rs e2 hs hf hfs ed=>by
  obtain ⟨e1,f1⟩:=RB.flat r1 gk hf
  obtain ⟨e3,f3⟩:=zse rs gk hfs
  refine .inl ⟨p,xs,e2,hs,f1,f3,q _ G H (Grow.refl gk) ?_⟩
  have:inV v1 xs=ds.any fun y=>eqs y d1:=by
   unfold inV
   rw [e3,List.any_map,e1]
   rfl
  rw [this,ed]
  exact .scl (.bl _)
 cases d2 with
 | lst ds=>
  by_cases hc:zbB d1=true/\ds.all zbB=true
  ·simp only [inB,if_pos hc,Option.map_some] at e
   obtain ⟨p,xs,e2,hs,rs⟩:=r2.lst gk
   exact seq rs e2 (.inl hs) hc.1 hc.2 (Option.some.inj e).symm
  ·simp only [inB,if_neg hc,Option.map_none] at e
   cases e
 | tup ds=>
  by_cases hc:zbB d1=true/\ds.all zbB=true
  ·simp only [inB,if_pos hc,Option.map_some] at e
   obtain ⟨p,xs,e2,hs,rs⟩:=r2.tup gk
   exact seq rs e2 (.inr hs) hc.1 hc.2 (Option.some.inj e).symm
  ·simp only [inB,if_neg hc,Option.map_none] at e
   cases e
 | dic kvs=>
  simp only [inB] at e
  cases ek:keyD d1 with
  | none=>rw [ek] at e; cases e
  | some k=>
   rw [ek] at e
   cases e
   obtain ⟨p,ps,rfl,hs,rs⟩:=r2.dic gk
   refine .inr (.inl ⟨p,valV ps k,rfl,by rw [zka gk r1 ek]; exact .inl ⟨ps,k,hs,rfl,rfl⟩,q _ G H (Grow.refl gk) ?_⟩)
   have:(valV ps k).isSome=hasK kvs k:=by
    rw [zr3]
    cases eg:getK kvs k with
    | none=>rw [zmE rs eg]; rfl
    | some d=>obtain ⟨v,h1,_⟩:=zoU rs d eg; rw [h1]; rfl
   rw [this]
   exact .scl (.bl _)
 | str y=>
  cases d1 with
  | str z=>cases e; exact .inr (.inr ⟨z,y,r1.str gk,r2.str gk,q _ G H (Grow.refl gk) (.scl (.bl _))⟩)
  | _=>cases e
 | _=>cases e
theorem zth {K:PySem.W.Frag}:OpD K (rInA K false) inD:=by
 have h:=zmw (K:=K) false
 have e:(fun x c=>(inB x c).map fun b=>D.bl (if false=true then ! b else b))=inD:=by
  funext x c; unfold inD; cases inB x c <;> rfl
 rw [e] at h; exact h
theorem zrz {K:PySem.W.Frag}:OpD K (rInA K true) ninD:=by
 have h:=zmw (K:=K) true
 have e:(fun x c=>(inB x c).map fun b=>D.bl (if true=true then ! b else b))=ninD:=by
  funext x c; unfold ninD; cases inB x c <;> rfl
 rw [e] at h; exact h
theorem q_in (hu:X.A.units + 1 < cLine) (ha:SB X g m a fa) (hb:SB X g m b fb) (hm:behindInMarks .In b=false:=by rfl):SQ X g m (.Compare a [.In] [b] pos) (zaB (f2 fa fb inD)):=zhw (zrt hu) zth ha hb hm
theorem zlJ (hu:X.A.units + 1 < cLine) (ha:SB X g m a fa) (hb:SB X g m b fb) (hm:behindInMarks .NotIn b=false:=by rfl):SQ X g m (.Compare a [.NotIn] [b] pos) (zaB (f2 fa fb ninD)):=zhw (zpN hu) zrz ha hb hm
noncomputable def isD:D->D->Option D
 | .non,.non=>some (.bl true)
 | _,.non=>some (.bl false)
 | _,_=>none
noncomputable def isnD:D->D->Option D
 | .non,.non=>some (.bl false)
 | _,.non=>some (.bl true)
 | _,_=>none
theorem RB.isnon {K:PySem.W.Frag} {G:GH} {H:Hp} {v:V} {d:D} (gk:GOk K G H) (h:RB K G H v d):(v=.non↔d=.non):=by
 constructor
 ·intro e
  subst e
  rcases h with h | ⟨a,e,_⟩
  ·cases h with
   | scl s=>cases s; rfl
  ·cases e
 ·intro e
  subst e
  exact h.non gk
theorem ztf {K:PySem.W.Frag}:OpD K (fun x y H Q=>y=.non/\Q (.bl (decide (x=.non))) H) isD:=by
 intro G H v1 v2 d1 d2 d Q gk r1 r2 e q
 have hn:=r1.isnon gk
 cases d2 with
 | non=>
  refine ⟨r2.non gk,q _ G H (Grow.refl gk) ?_⟩
  cases d1 with
  | non=>cases e; rw [decide_eq_true (hn.mpr rfl)]; exact .scl (.bl _)
  | _=>cases e; rw [decide_eq_false (fun z=>by have:=hn.mp z; cases this)]; exact .scl (.bl _)
 | _=>cases d1 <;> cases e
theorem zrW {K:PySem.W.Frag}:OpD K (fun x y H Q=>y=.non/\Q (.bl (! decide (x=.non))) H) isnD:=by
 intro G H v1 v2 d1 d2 d Q gk r1 r2 e q
 have hn:=r1.isnon gk
 cases d2 with
 | non=>
  refine ⟨r2.non gk,q _ G H (Grow.refl gk) ?_⟩
  cases d1 with
  | non=>cases e; rw [decide_eq_true (hn.mpr rfl)]; exact .scl (.bl _)
  | _=>cases e; rw [decide_eq_false (fun z=>by have:=hn.mp z; cases this)]; exact .scl (.bl _)
 | _=>cases d1 <;> cases e
theorem q_is (ha:SB X g m a fa) (hb:SB X g m b fb):SQ X g m (.Compare a [.Is] [b] pos) (zaB (f2 fa fb isD)):=zhw zrr ztf ha hb (zeh _)
theorem zq6 (ha:SB X g m a fa) (hb:SB X g m b fb):SQ X g m (.Compare a [.IsNot] [b] pos) (zaB (f2 fa fb isnD)):=zhw zpL zrW ha hb (zeh _)
end
end DL
end
section
namespace DL
open PySem PySem.Spec PyProof.Rows L2
section
variable {X:Cx} {g:GE} {m mb:List Md} {e a b o c:Expr} {f fa fb fc:FE} {pos pos' p1 p2:Pos} {ro:Bool} {x:Str}
noncomputable def rIxD:R2:=fun x y H Q=>∃a v,x=.ref a/\DGet H a y (some v)/\Q v H
theorem zrR (hu:X.A.units + 1 < cLine):IxR X rIxD:=by
 intro value slice pins s σ H x y v u Q I rx ry h hs
 obtain ⟨a,w,rfl,hg,q⟩:=h
 cases rx
 exact tail_any (zjt I hg) PySem.F.slot_dict_getitem.lookup (zmM hu I hg ry fun w' s' I' rw'=>⟨w,H,I',rw',q⟩) hs
noncomputable def ixA:D->D->Option D
 | .dic kvs,k=>(keyD k).bind (getK kvs)
 | c,k=>ixD c k
theorem zrS {K:PySem.W.Frag}:OpD K (fun x y H Q=>rIxD x y H Q\/rIx K x y H Q) ixA:=by
 intro G H v1 v2 d1 d2 d Q gk r1 r2 e q
 cases d1 with
 | dic kvs=>
  obtain ⟨a,ps,rfl,hs,rs⟩:=r1.dic gk
  have e':(keyD d2).bind (getK kvs)=some d:=e
  cases ek:keyD d2 with
  | none=>rw [ek] at e'; cases e'
  | some k=>
   rw [ek] at e'
   obtain ⟨v,h1,h2⟩:=zoU rs d e'
   refine .inl ⟨a,v,rfl,?_,q v G H (Grow.refl gk) h2⟩
   rw [zka gk r2 ek,<-h1]
   exact .inl ⟨ps,k,hs,rfl,rfl⟩
 | lst ds=>exact .inr (zqa G H v1 v2 _ d2 d Q gk r1 r2 e q)
 | tup ds=>exact .inr (zqa G H v1 v2 _ d2 d Q gk r1 r2 e q)
 | str ds=>exact .inr (zqa G H v1 v2 _ d2 d Q gk r1 r2 e q)
 | _=>cases e
theorem zdD (hu:X.A.units + 1 < cLine) (ha:SB X g m a fa) (hb:SB X g m b fb) (hs:zjA b:=by intro _ _; rfl):SE X g m (.Subscript a b pos) (f2 fa fb ixA):=zpg zrS (zsZ (IxR.or (zrR hu) zrQ) ha hb hs)
theorem zgY:SO X g m (.Dict [] [] pos) fun _=>.ok (.dic []):=
 PE.imp znG fun σ H Q ⟨r,G,si,q⟩ p hp=>q p G _ (Grow.new si.gok hp _) hp ⟨si.gok.isN hp,.dic zaq .nil⟩
noncomputable def putD (kvs:List (Key × D)) (k:Key) (d:D):List (Key × D):=if (kvs.any fun kv=>decide (kv.1=k))=true then kvs.map fun kv=>if kv.1=k then (kv.1,d) else kv else kvs++[(k,d)]
theorem zoo {K:PySem.W.Frag} {G:GH} {k:Key} {ps:List (Key × V)} {kvs:List (Key × D)} (h:RKs K G ps kvs):(ps.any fun kv=>decide (kv.1=k))=kvs.any fun kv=>decide (kv.1=k):=by
 induction h with
 | nil=>rfl
 | cons r t ih=>rw [List.any_cons,List.any_cons,ih,r.1]
theorem zpx {K:PySem.W.Frag} {G:GH} {ps:List (Key × V)} {kvs:List (Key × D)} {k:Key} {v:V} {d:D} (r:RKs K G ps kvs) (h:RG K G v d):RKs K G (putK ps k v) (putD kvs k d):=by
 unfold putK putD
 rw [zoo r]
 by_cases hc:(kvs.any fun kv=>decide (kv.1=k))=true
 ·rw [if_pos hc,if_pos hc]
  clear hc
  induction r with
  | nil=>exact .nil
  | @cons p q ps kvs r t ih=>
   refine .cons ?_ ih
   obtain ⟨p1,p2⟩:=p
   obtain ⟨q1,q2⟩:=q
   have e:p1=q1:=r.1
   subst e
   by_cases hk:p1=k
   ·simp only [hk,if_true,true_and]; exact h
   ·simp only [hk,if_false,true_and]; exact r.2
 ·rw [if_neg hc,if_neg hc]
  exact Paired.snoc r ⟨rfl,h⟩
noncomputable def stoD:D->D->D->Option D
 | .lst ds,.int k,v=>(ixN ds.length k).map fun j=>.lst (ds.set j v)
 | .dic kvs,k,v=>(keyD k).bind fun k=>if kvs.length < sizeLine then some (.dic (putD kvs k v)) else none
 | _,_,_=>none
noncomputable def zq3:V->V->V->Hp->(Hp->Prop)->Prop:=fun o i v H Q=>∃p H',o=.ref p/\DPut H p i v H'/\Q H'
theorem ziT (hu:X.A.units + 1 < cLine):PSet X zq3:=by
 intro pins s σ H o i v ov iv u Q I ro ri rv h
 obtain ⟨p,H',rfl,hp,q⟩:=h
 cases ro
 exact zmL hu I hp ri rv fun s' I'=>⟨H',I',q⟩
theorem PSet.or {t t':TSet} (h:PSet X t) (h':PSet X t'):PSet X (fun o i v H Q=>t o i v H Q\/t' o i v H Q):=by
 intro pins s σ H o i v ov iv u Q I ro ri rv q
 rcases q with q | q
 ·exact h pins s σ H o i v ov iv u Q I ro ri rv q
 ·exact h' pins s σ H o i v ov iv u Q I ro ri rv q
theorem zll {K:PySem.W.Frag} {G:GH} {H:Hp} {a:Addr} {d k v d':D} {kv vv:V} {Q:Hp->Prop} (gk:GOk K G H) (ow:Own K G H a d) (rk:RB K G H kv k) (rv:RG K G vv v) (e:stoD d k v=some d') (q:∀o',OwnO K G (upd H a o') a d'->Q (upd H a o')) :
  zq2 (.ref a) kv vv H Q\/zq3 (.ref a) kv vv H Q:=by
 cases ow.ob with
 | @lst xs ds r s=>
  cases k with
  | int k=>
   have e':(ixN ds.length k).map (fun j=>D.lst (ds.set j v))=some d':=e
   cases ej:ixN ds.length k with
   | none=>rw [ej] at e'; cases e'
   | some j=>
    rw [ej] at e'
    cases e'
    exact .inl ⟨a,xs,k,j,rfl,rk.int gk,r,by rw [Paired.length s]; exact ej,q _ (.lst zaq (Paired.st rv j s))⟩
  | _=>cases e
 | @dic ps kvs r s=>
  have e':(keyD k).bind (fun k=>if kvs.length < sizeLine then some (D.dic (putD kvs k v)) else none)=some d':=e
  cases ek:keyD k with
  | none=>rw [ek] at e'; cases e'
  | some k'=>
   rw [ek] at e'
   have e2:(if kvs.length < sizeLine then some (D.dic (putD kvs k' v)) else none)=some d':=e'
   by_cases hl:kvs.length < sizeLine
   ·rw [if_pos hl] at e2
    cases e2
    have:=Paired.length s
    refine .inr ⟨a,_,rfl,?_,q _ (.dic zaq (zpx s rv))⟩
    rw [zka gk rk ek]
    exact DPut.k r (by omega)
   ·rw [if_neg hl] at e2; cases e2
noncomputable def putF (m:List Md) (i:Nat) (fk fv:FE):FS:=fun r=>onE m r (fv r) fun v=>match r[i]? with
 | some (some d)=>onE m r (fk r) fun k=>(match stoD d k v with
  | some d'=>.nx (r.set i (some d'))
  | none=>.stuck)
 | _=>.stuck
theorem zlo (i:Nat) (hu:X.A.units + 1 < cLine) (hm:m[i]? = some .ow) (hN:X.N[i]? = some x) (hv:Vis X.env.scope x) (hk:SB X g m b fb) (he:SE X g m e f)
  (hd:(x == ("__debug__" : Str))=false:=by decide) (hcd:(x == ("__classdict__" : Str))=false:=by decide)
  (ha:∀v,assign (.Subscript (.Name x p1) b p2) X.env v=(do
   let ov <-holding [v] (eval (.Name x p1) X.env)
   let iv <-holding [v,ov] (eval b X.env)
   standAt p2
   holding [v,ov,iv] (setItem ov iv v)
   release [v,ov,iv] []):=by intro _; rfl)
  (hs:swapsWithSole [.Subscript (.Name x p1) b p2] e pos.line X.env=pure false:=by rfl) (hw:swappedStores [.Subscript (.Name x p1) b p2] e X.env=pure none:=by rfl)
  (h1:(assignEach [.Subscript (.Name x p1) b p2] X.env).map (·.2)=[assign (.Subscript (.Name x p1) b p2) X.env]:=by rfl) :
  SS X g ro mb m (.Assign [.Subscript (.Name x p1) b p2] e pos) (putF m i fb f) m:=by
 refine ⟨rfl,PS.imp (zoC he (zlU (zfx hN hv hd hcd) hk (PSet.or zhq (ziT hu)) ha) hs hw h1) fun D0 σ H ⟨r,G,si,k⟩=>⟨r,G,si,?_⟩⟩
 refine zag (zbz si rfl k) fun v k1 vv G1 H1 w1 rv=>?_
 cases er:r[i]? with
 | none=>simp only [er] at k1; exact (show False from k1).elim
 | some oo=>
  cases oo with
  | none=>simp only [er] at k1; exact (show False from k1).elim
  | some d=>
   simp only [er] at k1
   obtain ⟨a,h1,h2,h3⟩:=(si.grow w1).mut hm er
   refine ⟨_,h1,r,G1,si.grow w1,?_⟩
   refine zag (zbz (m:=m) (si.grow w1) rfl (oTo.gle k1 w1.ge)) fun kk k2 kv G2 H2 w2 rk=>?_
   cases es:stoD d kk v with
   | none=>simp only [es] at k2; exact (show False from k2).elim
   | some d'=>
    simp only [es] at k2
    obtain ⟨a',h1',h2',h3'⟩:=((si.grow w1).grow w2).mut hm er
    rw [h1] at h1'; cases h1'
    exact zll w2.ok h2' rk (rv.mono w2.ge) es fun o' ob=>k2 σ G2 _ w2.ge (h3' o' d' ob)
end
mutual
noncomputable def toPy:D->PyData
 | .non=>.none
 | .bl b=>.bool b
 | .int i=>.int i
 | .str x=>.str x
 | .tup ds=>.tuple (zc6 ds)
 | .lst ds=>.list (zc6 ds)
 | .dic _=>.none
 | .obj _ _=>.none
noncomputable def zc6:List D->List PyData
 | []=>[]
 | d::ds=>toPy d::zc6 ds
end
noncomputable def Shp:Nat->D->Prop
 | _,.non=>True
 | _,.bl _=>True
 | _,.int _=>True
 | _,.str x=>PyData.strOk x=true
 | 0,.tup _=>False
 | 0,.lst _=>False
 | k + 1,.tup ds=>∀d∈ds,Shp k d
 | k + 1,.lst ds=>∀d∈ds,Shp k d
 | _,.dic _=>False
 | _,.obj _ _=>False
theorem zhp {k:Nat} {ds:List D}:Shp (k + 1) (.lst ds)↔∀d∈ds,Shp k d:=by simp only [Shp]
theorem zho {k:Nat} {ds:List D}:Shp (k + 1) (.tup ds)↔∀d∈ds,Shp k d:=by simp only [Shp]
noncomputable def eqb (a b:D):Bool:=PyData.eqv (toPy a) (toPy b)
section
variable {X:Cx} {pins:List (Addr × Obj)} {σ:L2.St} {H:Hp} {s:Shared} {G:GH}
theorem zif {k:Nat} (ih:∀(d:D) (v:V) (u:Value),Shp k d->RG X.K G v d->L2.RelV v u->∃as,Reads s.heap u (toPy d) as) (ds:List D) (vs:List V) (us:List Value) (h:∀d∈ds,Shp k d) (r:RGs X.K G vs ds) (q:Vals vs us):∃as,ReadsAll s.heap us (zc6 ds) as:=by
 induction r generalizing us with
 | nil=>cases q; exact ⟨[],.nil⟩
 | cons r t ih'=>
  cases q with
  | cons r' t'=>
   obtain ⟨a1,h1⟩:=ih _ _ _ (h _ List.mem_cons_self) r r'
   obtain ⟨a2,h2⟩:=ih' _ (fun x hx=>h x (List.mem_cons_of_mem _ hx)) t'
   exact ⟨a1++a2,.cons h1 h2⟩
theorem zfN (I:Inv X pins σ H s) (gk:GOk X.K G H):∀(k:Nat) (d:D) (v:V) (u:Value),Shp k d->RB X.K G H v d->L2.RelV v u->∃as,Reads s.heap u (toPy d) as:=by
 intro k
 induction k with
 | zero=>
  intro d v u hs r ru
  cases d with
  | non=>rw [r.non gk] at ru; cases ru; exact ⟨_,.none⟩
  | bl b=>rw [r.bl gk] at ru; cases ru; exact ⟨_,.bool b⟩
  | int i=>rw [r.int gk] at ru; obtain ⟨t,rfl⟩:=ru; exact ⟨_,.int i t⟩
  | str x=>rw [r.str gk] at ru; obtain ⟨t,rfl⟩:=ru; exact ⟨_,.str x t⟩
  | tup _=>unfold Shp at hs; exact hs.elim
  | lst _=>unfold Shp at hs; exact hs.elim
  | dic _=>unfold Shp at hs; exact hs.elim
  | obj _ _=>unfold Shp at hs; exact hs.elim
 | succ k ih=>
  intro d v u hs r ru
  cases d with
  | non=>rw [r.non gk] at ru; cases ru; exact ⟨_,.none⟩
  | bl b=>rw [r.bl gk] at ru; cases ru; exact ⟨_,.bool b⟩
  | int i=>rw [r.int gk] at ru; obtain ⟨t,rfl⟩:=ru; exact ⟨_,.int i t⟩
  | str x=>rw [r.str gk] at ru; obtain ⟨t,rfl⟩:=ru; exact ⟨_,.str x t⟩
  | tup ds=>
   obtain ⟨a,xs,rfl,sq,rs⟩:=r.tup gk
   cases ru
   obtain ⟨its,rv,pl,_⟩:=I.tuple sq
   obtain ⟨o,ho,hc,n,hd⟩:=pl
   obtain ⟨as,h⟩:=zif (k:=k) (fun d v u h1 h2 h3=>ih d v u h1 h2.rb h3) ds xs its (zho.mp hs) rs rv
   refine ⟨as,?_⟩
   unfold toPy
   exact .tuple ho hc hd (by simpa using h)
  | lst ds=>
   obtain ⟨a,xs,rfl,sq,rs⟩:=r.lst gk
   cases ru
   obtain ⟨its,rv,pl,_⟩:=I.list sq
   obtain ⟨o,ho,hc,n,hd⟩:=pl.isList
   obtain ⟨as,h⟩:=zif (k:=k) (fun d v u h1 h2 h3=>ih d v u h1 h2.rb h3) ds xs its (zhp.mp hs) rs rv
   refine ⟨a::as,?_⟩
   unfold toPy
   exact .list ho hc hd (by simpa using h)
  | dic _=>unfold Shp at hs; exact hs.elim
  | obj _ _=>unfold Shp at hs; exact hs.elim
theorem ziS {k:Nat} (ih:∀d,Shp k d->PyData.canLay0 (toPy d)=true/\PyData.depth (toPy d)<=k):∀ds:List D,(∀d∈ds,Shp k d)->PyData.canLayAll0 (zc6 ds)=true/\PyData.depthAll (zc6 ds)<=k
 | [],_=>by unfold zc6 PyData.canLayAll0 PyData.depthAll; exact ⟨rfl,Nat.zero_le _⟩
 | d::ds,h=>by
  obtain ⟨a1,a2⟩:=ih d (h d List.mem_cons_self)
  obtain ⟨b1,b2⟩:=ziS ih ds fun x hx=>h x (List.mem_cons_of_mem _ hx)
  unfold zc6 PyData.canLayAll0 PyData.depthAll
  rw [a1,b1]
  exact ⟨rfl,Nat.max_le.mpr ⟨a2,b2⟩⟩
theorem zqP:∀(k:Nat) (d:D),Shp k d->PyData.canLay0 (toPy d)=true/\PyData.depth (toPy d)<=k:=by
 intro k
 induction k with
 | zero=>
  intro d hs
  cases d with
  | non=>unfold toPy PyData.canLay0 PyData.depth; exact ⟨rfl,Nat.zero_le _⟩
  | bl b=>unfold toPy PyData.canLay0 PyData.depth; exact ⟨rfl,Nat.zero_le _⟩
  | int i=>unfold toPy PyData.canLay0 PyData.depth; exact ⟨rfl,Nat.zero_le _⟩
  | str x=>unfold Shp at hs; unfold toPy PyData.canLay0 PyData.depth; exact ⟨hs,Nat.zero_le _⟩
  | tup _=>unfold Shp at hs; exact hs.elim
  | lst _=>unfold Shp at hs; exact hs.elim
  | dic _=>unfold Shp at hs; exact hs.elim
  | obj _ _=>unfold Shp at hs; exact hs.elim
 | succ k ih=>
  intro d hs
  cases d with
  | non=>unfold toPy PyData.canLay0 PyData.depth; exact ⟨rfl,Nat.zero_le _⟩
  | bl b=>unfold toPy PyData.canLay0 PyData.depth; exact ⟨rfl,Nat.zero_le _⟩
  | int i=>unfold toPy PyData.canLay0 PyData.depth; exact ⟨rfl,Nat.zero_le _⟩
  | str x=>unfold Shp at hs; unfold toPy PyData.canLay0 PyData.depth; exact ⟨hs,Nat.zero_le _⟩
  | tup ds=>
   obtain ⟨b1,b2⟩:=ziS ih ds (zho.mp hs)
   unfold toPy PyData.canLay0 PyData.depth
   exact ⟨b1,Nat.succ_le_succ b2⟩
  | lst ds=>
   obtain ⟨b1,b2⟩:=ziS ih ds (zhp.mp hs)
   unfold toPy PyData.canLay0 PyData.depth
   exact ⟨b1,Nat.succ_le_succ b2⟩
  | dic _=>unfold Shp at hs; exact hs.elim
  | obj _ _=>unfold Shp at hs; exact hs.elim
theorem zeJ {d:D} (h:Shp 60 d):SeqAt.shaped (toPy d)=true:=by
 obtain ⟨a,b⟩:=zqP 60 d h
 unfold SeqAt.shaped
 rw [a,decide_eq_true (Nat.le_trans b (by decide))]
 rfl
end
section
variable {X:Cx} {g:GE} {m mb:List Md} {e a b o c:Expr} {f fa fb fc:FE} {pos pos':Pos}
noncomputable def zkv (a b:D):Bool:=zbB a && zbB b && scal (toV a) (toV b)
open Classical in
noncomputable def eqB (a b:D):Option Bool:=if zkv a b=true then some (eqs a b) else if Shp 60 a/\Shp 60 b then some (eqb a b) else none
noncomputable def eqD (a b:D):Option D:=(eqB a b).map .bl
noncomputable def neD (a b:D):Option D:=(eqB a b).map fun c=>.bl (! c)
theorem zki {a b:D} (h:zkv a b=false) (h1:Shp 60 a) (h2:Shp 60 b):eqB a b=some (eqb a b):=by
 unfold eqB
 rw [if_neg (by rw [h]; exact Bool.false_ne_true),if_pos ⟨h1,h2⟩]
theorem zeY {a b:D} (h:zkv a b=true):eqB a b=some (eqs a b):=by
 unfold eqB
 rw [if_pos h]
@[simp] theorem eqB_int (a b:Int):eqB (.int a) (.int b)=some (a == b):=zeY rfl
@[simp] theorem eqB_str (a b:Str):eqB (.str a) (.str b)=some (a == b):=zeY rfl
@[simp] theorem eqB_non_int (b:Int):eqB .non (.int b)=some false:=zeY rfl
@[simp] theorem eqB_int_non (b:Int):eqB (.int b) .non=some false:=zeY rfl
@[simp] theorem eqB_non_non:eqB .non .non=some true:=zeY rfl
theorem zjO {a b:D} (h:scal (toV a) (toV b)=true) (fa:zbB a=true) (fb:zbB b=true):decide (toV a=toV b)=eqs a b:=by
 cases a <;> cases b <;> first
  | exact absurd (show false=true from fa) Bool.false_ne_true
  | exact absurd (show false=true from fb) Bool.false_ne_true
  | exact absurd (show false=true from h) Bool.false_ne_true
  | exact zjv
  | exact zmJ
  | exact zju
  | rfl
  | simp [toV,eqs,eqV]
noncomputable def zhv (K:PySem.W.Frag) (neg:Bool):R2:=fun x y H Q=>∃(G:GH) (d1 d2:D),GOk K G H/\RB K G H x d1/\RB K G H y d2/\Shp 60 d1/\Shp 60 d2/\Q (.bl (if neg then ! eqb d1 d2 else eqb d1 d2)) H
theorem zil (hu:X.A.units + 64 < cLine):OpR X (compareOp .Eq) (zhv X.K false):=by
 intro pins s σ H x y v u Q I rx ry h
 obtain ⟨G,d1,d2,gk,r1,r2,s1,s2,q⟩:=h
 obtain ⟨as,h1⟩:=zfN I gk 60 d1 x v s1 r1 rx
 obtain ⟨bs,h2⟩:=zfN I gk 60 d2 y u s2 r2 ry
 exact SeqAt.compareEq_shaped h1 h2 (zeJ s1) (zeJ s2) hu ⟨.bl _,H,I,rfl,q⟩
theorem zik (hu:X.A.units + 64 < cLine):OpR X (compareOp .NotEq) (zhv X.K true):=by
 intro pins s σ H x y v u Q I rx ry h
 obtain ⟨G,d1,d2,gk,r1,r2,s1,s2,q⟩:=h
 obtain ⟨as,h1⟩:=zfN I gk 60 d1 x v s1 r1 rx
 obtain ⟨bs,h2⟩:=zfN I gk 60 d2 y u s2 r2 ry
 exact SeqAt.compareNe_shaped h1 h2 (zeJ s1) (zeJ s2) hu ⟨.bl _,H,I,rfl,q⟩
theorem eq_cases {a b:D} {c:Bool} (h:eqB a b=some c):(zkv a b=true/\c=eqs a b)\/(Shp 60 a/\Shp 60 b/\c=eqb a b):=by
 unfold eqB at h
 split at h
 ·rename_i hs; cases h; exact .inl ⟨hs,rfl⟩
 ·split at h
  ·rename_i hs; cases h; exact .inr ⟨hs.1,hs.2,rfl⟩
  ·cases h
theorem zsi {K:PySem.W.Frag}:OpD K (fun x y H Q=>rEq x y H Q\/zhv K false x y H Q) eqD:=by
 intro G H v1 v2 d1 d2 d Q gk r1 r2 e q
 unfold eqD at e
 cases ec:eqB d1 d2 with
 | none=>rw [ec] at e; cases e
 | some c=>
  rw [ec] at e
  cases e
  rcases eq_cases ec with ⟨hs,rfl⟩ | ⟨s1,s2,rfl⟩
  ·unfold zkv at hs
   rw [Bool.and_eq_true,Bool.and_eq_true] at hs
   obtain ⟨e1,_⟩:=RB.flat r1 gk hs.1.1
   obtain ⟨e2,_⟩:=RB.flat r2 gk hs.1.2
   refine .inl ⟨by rw [e1,e2]; exact hs.2,?_⟩
   rw [e1,e2,zjO hs.2 hs.1.1 hs.1.2]
   exact q _ G H (Grow.refl gk) (.scl (.bl _))
  ·exact .inr ⟨G,d1,d2,gk,r1,r2,s1,s2,q _ G H (Grow.refl gk) (.scl (.bl _))⟩
theorem zrA {K:PySem.W.Frag}:OpD K (fun x y H Q=>rNe x y H Q\/zhv K true x y H Q) neD:=by
 intro G H v1 v2 d1 d2 d Q gk r1 r2 e q
 unfold neD at e
 cases ec:eqB d1 d2 with
 | none=>rw [ec] at e; cases e
 | some c=>
  rw [ec] at e
  cases e
  rcases eq_cases ec with ⟨hs,rfl⟩ | ⟨s1,s2,rfl⟩
  ·unfold zkv at hs
   rw [Bool.and_eq_true,Bool.and_eq_true] at hs
   obtain ⟨e1,_⟩:=RB.flat r1 gk hs.1.1
   obtain ⟨e2,_⟩:=RB.flat r2 gk hs.1.2
   refine .inl ⟨by rw [e1,e2]; exact hs.2,?_⟩
   rw [e1,e2,zjO hs.2 hs.1.1 hs.1.2]
   exact q _ G H (Grow.refl gk) (.scl (.bl _))
  ·exact .inr ⟨G,d1,d2,gk,r1,r2,s1,s2,q _ G H (Grow.refl gk) (.scl (.bl _))⟩
theorem s_eq (hu:X.A.units + 64 < cLine) (ha:SB X g m a fa) (hb:SB X g m b fb):SE X g m (.Compare a [.Eq] [b] pos) (f2 fa fb eqD):=zpj (OpR.or zru (zil hu)) zsi ha hb (zeh _)
theorem s_ne (hu:X.A.units + 64 < cLine) (ha:SB X g m a fa) (hb:SB X g m b fb):SE X g m (.Compare a [.NotEq] [b] pos) (f2 fa fb neD):=zpj (OpR.or zro (zik hu)) zrA ha hb (zeh _)
theorem q_eq (hu:X.A.units + 64 < cLine) (ha:SB X g m a fa) (hb:SB X g m b fb):SQ X g m (.Compare a [.Eq] [b] pos) (zaB (f2 fa fb eqD)):=zhw (OpR.or zru (zil hu)) zsi ha hb (zeh _)
theorem q_ne (hu:X.A.units + 64 < cLine) (ha:SB X g m a fa) (hb:SB X g m b fb):SQ X g m (.Compare a [.NotEq] [b] pos) (zaB (f2 fa fb neD)):=zhw (OpR.or zro (zik hu)) zrA ha hb (zeh _)
noncomputable def ziA (fa fb fc:FE) (k k':D->D->Option D):FE:=fun r=>(fa r).bind fun x=>(fb r).bind fun y=>(opt (k x y)).bind fun z=>(opt (asB z)).bind fun c=>if c=true then (fc r).bind fun w=>opt (k' y w) else .ok (.bl false)
noncomputable def zpu (K:PySem.W.Frag):R2:=fun x y H Q=>∃l b xs zs,x=.ref l/\y=.ref b/\SqL K H l xs/\SqL K H b zs/\xs.length + zs.length<=sizeLine/\∀p,H p=none->Q (.ref p) (upd H p (.lst (xs++zs)))
theorem zl3:OpR X (binaryOp .Add) (zpu X.K):=by
 intro pins s σ H x y v u Q I rx ry h
 obtain ⟨l,b,xs,zs,rfl,rfl,hH,hB,hz,q⟩:=h
 cases rx
 cases ry
 obtain ⟨its,r,pl,_⟩:=I.list hH
 obtain ⟨its2,r2,pl2,_⟩:=I.list hB
 have l1:=r.length
 have l2:=r2.length
 obtain ⟨⟨cls,dd,data,sl⟩,ho,hc,n,hd⟩:=pl.isList
 obtain ⟨⟨cls2,dd2,data2,sl2⟩,ho2,hc2,n2,hd2⟩:=pl2.isList
 simp only at hc hd hc2 hd2
 subst hc hd hc2 hd2
 have e:its.toArray++its2.toArray=(its++its2).toArray:=by simp
 refine concat_meets ⟨_,ho,rfl⟩ ⟨_,ho2,rfl⟩ noFill_list_add seq_list_add PySem.F.slot_list_add PySem.F.entry_list_add (PySem.F.args_list_add_2 _ _) (list_addW _ _ its.toArray its2.toArray n n2 dd dd2 sl sl2 (by simp; omega)) ⟨ho,ho2,?_⟩
 rw [e]
 exact ⟨.ref _,_,I.lnew (t':=s.toks) (r.append r2) (by rw [List.length_append]; omega),rfl,q _ I.fresh⟩
noncomputable def addA:D->D->Option D
 | .int a,.int b=>some (.int (a + b))
 | .str a,.str b=>if a.length + b.length<=sizeLine then some (.str (a++b)) else none
 | .lst a,.lst b=>if a.length + b.length<=sizeLine then some (.lst (a++b)) else none
 | .tup (x::a),.tup b=>if (x::a).length + b.length<=sizeLine then some (.tup (x::a++b)) else none
 | _,_=>none
theorem zm5 {K:PySem.W.Frag}:OpD K (fun x y H Q=>(∃i j,x=.int i/\y=.int j/\Q (.int (i + j)) H)\/(∃i j,x=.str i/\y=.str j/\i.length + j.length<=sizeLine/\Q (.str (i++j)) H)\/zpu K x y H Q\/zpt K x y H Q) addA:=by
 intro G H v1 v2 d1 d2 d Q gk r1 r2 e q
 unfold addA at e
 split at e
 ·cases e
  exact .inl ⟨_,_,r1.int gk,r2.int gk,q _ G H (Grow.refl gk) (.scl (.int _))⟩
 ·split at e
  ·rename_i hl
   cases e
   exact .inr (.inl ⟨_,_,r1.str gk,r2.str gk,hl,q _ G H (Grow.refl gk) (.scl (.str _))⟩)
  ·cases e
 ·split at e
  ·rename_i hl
   cases e
   obtain ⟨a,xs,rfl,s1,t1⟩:=r1.lst gk
   obtain ⟨b,ys,rfl,s2,t2⟩:=r2.lst gk
   have l1:=Paired.length t1
   have l2:=Paired.length t2
   exact .inr (.inr (.inl ⟨a,b,xs,ys,rfl,rfl,s1,s2,by omega,fun p hp=>q _ _ _ (Grow.newF gk hp (.lst (.inl zaq) (Paired.app t1 t2))) (.ref zaL)⟩))
  ·cases e
 ·split at e
  ·rename_i x0 a0 b0 hl
   cases e
   rcases r1 with r1 | ⟨a',_,oo⟩
   ·obtain ⟨a,xs,rfl,s1,t1⟩:=r1.tup gk
    obtain ⟨b,ys,rfl,s2,t2⟩:=r2.tup gk
    have l1:=Paired.length t1
    have l2:=Paired.length t2
    refine .inr (.inr (.inr ⟨a,b,xs,ys,rfl,rfl,s1,s2,?_,by omega,fun hy=>?_,fun _ p hp=>q _ _ _ (Grow.newF gk hp (.tup (.inl zaq) (Paired.app t1 t2))) (.ref zaL)⟩))
    ·rintro rfl
     cases t1
    ·subst hy
     cases t2
     refine q _ G H (Grow.refl gk) ?_
     rw [List.append_nil]
     exact r1
   ·cases oo.ob
  ·cases e
 ·cases e
theorem zef (ha:SB X g m a fa) (hb:SB X g m b fb):SE X g m (.BinOp a .Add b pos) (f2 fa fb addA):=zky (OpR.or zoF (OpR.or zgX (OpR.or zl3 zl2))) zm5 ha hb
end
end DL
end
section
namespace DL
open PySem PySem.Spec PyProof.Rows L2
structure DefAt (K:PySem.W.Frag) (mg:Str->Option Value) (x:Str) (st:Stmt):Prop where
 ex:∃f fd,mg x=some (.ref f)/\Fun K x x st f fd
structure Callee (P:Program) (w:World) (K:PySem.W.Frag) (mg:Str->Option Value) (base:Heap) (x:Str) (ps:List Str) (ds:List Value) (k:Nat) (ro:Bool) (ms:List Md) (F:List D->Res D):Prop where
 ex:∃f fd,mg x=some (.ref f)/\PySem.W.keepIn K (.ref f)=true/\zgQ K fd ps ds/\FnOk P w K mg base CX0 k f fd ps (spM K ro ms F)
section
variable {P:Program} {w:World} {K:PySem.W.Frag} {mg:Str->Option Value} {base:Heap}
theorem zrC {x:Str} {st:Stmt} {N ps:List Str} {k:Nat} {ro:Bool} {ms:List Md} {fs:FS} {m':List Md} (A:DefAt K mg x st) (S:FnScope N ps (zab st)) (hms:ms.length=ps.length)
  (hb:∀(kV doc pm:Value) (an:Option Addr) (cdv ct:Value) (us:List Value),us.length=ps.length->bindArgs (PySem.W.fnOf x x (zch st) (zbp st) (zab st) .none kV doc pm an cdv ct) ⟨us,[]⟩=pure (ps.zip us))
  (hbody:∀(f:Addr) (cdv:Value) (A:Around) (outer:List Env) (s:Shared) (H:Hp) (g:GE) (E:XK),Room k (A.deeper (envOfC x (zab st) s.heap.objs.size f cdv)) ->
   SSs (cxOf CX0 P w K mg base N x (zab st) f cdv A outer s H E).nox g ro [] (zeE N.length ms) (zbp st) fs m') :
  Callee P w K mg base x ps [] (k + 1) ro ms fun ds=>outR ro (fs (zas N.length ds)):=by
 obtain ⟨f,fd,h1,F⟩:=A.ex
 exact ⟨f,fd,h1,F.kp,F.binds hb,zoT F S hms (hbody f)⟩
structure DefAtD (K:PySem.W.Frag) (mg:Str->Option Value) (x:Str) (st:Stmt) (dds:List Value):Prop where
 ex:∃(f T:Addr) (o:Obj) (n:Nat) (oc:Value) (od:Option Addr) (kV doc pm:Value) (an:Option Addr) (cdv ct:Value) (osl:Array (Option Value)),
  mg x=some (.ref f)/\K.lookup T=some o/\o.data=.seq dds.toArray n/\K.lookup f=some ⟨oc,od,.func (PySem.W.fnOf x x (zch st) (zbp st) (zab st) (.ref T) kV doc pm an cdv ct),osl⟩/\PySem.W.codeIn K cdv x=true/\PySem.W.keepIn K (.ref f)=true
theorem zja {x:Str} {st:Stmt} {N ps:List Str} {k:Nat} {ro:Bool} {ms:List Md} {fs:FS} {m':List Md} {dds ds:List Value} (A:DefAtD K mg x st dds) (S:FnScope N ps (zab st)) (hms:ms.length=ps.length) (nn:Nat) (hn:nn + ds.length=ps.length)
  (hb:∀(T:Addr) (kV doc pm:Value) (an:Option Addr) (cdv ct:Value) (us:List Value),us.length=nn->∃kk:Option (Array Value)->Sem (List (Str × Value)),bindArgs (PySem.W.fnOf x x (zch st) (zbp st) (zab st) (.ref T) kV doc pm an cdv ct) ⟨us,[]⟩=seqItems? (.ref T) >>= kk/\kk (some dds.toArray)=pure (ps.zip (us++ds)))
  (hbody:∀(f:Addr) (cdv:Value) (A:Around) (outer:List Env) (s:Shared) (H:Hp) (g:GE) (E:XK),Room k (A.deeper (envOfC x (zab st) s.heap.objs.size f cdv)) ->
   SSs (cxOf CX0 P w K mg base N x (zab st) f cdv A outer s H E).nox g ro [] (zeE N.length ms) (zbp st) fs m') :
  Callee P w K mg base x ps ds (k + 1) ro ms fun zs=>outR ro (fs (zas N.length zs)):=by
 obtain ⟨f,T,o,n,oc,od,kV,doc,pm,an,cdv,ct,osl,h1,hT,hd,lk,hcd,kp⟩:=A.ex
 refine ⟨f,PySem.W.fnOf x x (zch st) (zbp st) (zab st) (.ref T) kV doc pm an cdv ct,h1,kp,fun s us KX hl=>?_,?_⟩
 ·obtain ⟨kk,e1,e2⟩:=hb T kV doc pm an cdv ct us (by rw [List.length_append] at hl; omega)
  exact BindsTo.of_defaults rfl (KX _ _ hT) hd e1 e2
 ·have hpl:ps.length<=N.length:=by have:=congrArg List.length S.pre; rw [List.length_take] at this; omega
  refine zsd lk hcd S (fun vs H Q E ⟨G,ds,gk,rs,q⟩=>rs.len.1.trans hms) fun A outer s H vs Q E hr ⟨G,ds,gk,rs,q⟩=>?_
  exact ⟨_,(hbody f cdv A outer s H ⟨G,H,fun _=>none⟩ E hr).2.nox,zas N.length ds,G,zjL gk rs (by omega),zkk q⟩
end
section
variable {X:Cx} {g:GE} {m:List Md} {e:Expr} {es:List Expr} {fl:Rho->Res (List D)} {k:Nat} {ps:List Str} {F:List D->Res D} {dvs:List V} {ds:List Value} {dds:List D} {x:Str} {p pos:Pos} {i:Nat} {ms ms':List Md}
theorem zoY (c:Callee X.prog X.w X.K X.mg X.base x ps ds k false ms' F) (hr:Room k X.A) (ha:SAM X g m (e::es) ms fl) (hms:ms'=ms++List.replicate dds.length .sh:=by rfl) (hg:Gl X x:=by rfl) (hd:Vals dvs ds:=by exact .nil) (hsc:Paired Scl dvs dds:=by exact .nil)
  (hdb:(x == ("__debug__" : Str))=false:=by decide) (he:starEach (e::es) X.env=(false,eval e X.env)::starEach es X.env:=by rfl) (hpl:(backTo pos (starEach es X.env)).any (·.1)=false:=by rfl) :
  SE X g m (.Call (.Name x p) (e::es) [] pos) (zaH fl dds F):=by
 subst hms
 obtain ⟨f,fd,h1,h2,h3,h4⟩:=c.ex
 exact zqV h4 hr hg h1 h2 h3 hd hsc ha hdb he hpl
theorem v_ (i:Nat) (hm:m[i]? = some .sh:=by rfl) (hN:X.N[i]? = some x:=by rfl) (hv:Vis X.env.scope x:=by first | exact Or.inl rfl | exact Or.inr (Or.inl rfl) | exact Or.inr (Or.inr rfl)) (hd:(x == ("__debug__" : Str))=false:=by decide) (hcd:(x == ("__classdict__" : Str))=false:=by decide) :
  SE X g m (.Name x p) fun r=>getV r i:=zsP i hm hN hv hd hcd
theorem vb_ (i:Nat) (hm:i < m.length:=by decide) (hN:X.N[i]? = some x:=by rfl) (hv:Vis X.env.scope x:=by first | exact Or.inl rfl | exact Or.inr (Or.inl rfl) | exact Or.inr (Or.inr rfl)) (hd:(x == ("__debug__" : Str))=false:=by decide) (hcd:(x == ("__classdict__" : Str))=false:=by decide) :
  SB X g m (.Name x p) fun r=>getV r i:=zqR i hm hN hv hd hcd
end
end DL
end
section
namespace DL
open PySem PySem.Spec PyProof.Rows L2
noncomputable def zmO (osc:Scope) (ON:List Str) (sc:Scope) (N':List Str) (nl:Nat) (cap:List Nat):Bool:=
 decide (sc.kind=.function) && sc.names.all (fun y=>decide (y.2≠.cell)) && sc.names.all (fun y=>decide (y.2≠.local) || decide (sc.names.lookup y.1=some .local)) &&
 sc.names.all (fun y=>decide (y.2≠.free) || (decide (osc.names.lookup y.1=some .cell) || decide (osc.names.lookup y.1=some .free))) && decide (N'.length=nl + cap.length) &&
 (List.range cap.length).all fun j=>match N'[nl + j]?,ON[cap.getD j 0]? with
  | some x,some y=>decide (x=y) && decide (sc.names.lookup x=some .free)
  | _,_=>false
theorem zay {X:Cx} {osc:Scope} {ON:List Str} {sc:Scope} {N':List Str} {nl:Nat} {cap:List Nat} (h1:X.env.scope=osc) (h2:X.N=ON) (h:zmO osc ON sc N' nl cap=true):CompSc X sc N' nl cap:=by
 subst h1 h2
 unfold zmO at h
 simp only [Bool.and_eq_true,List.all_eq_true,decide_eq_true_eq,Bool.or_eq_true] at h
 obtain ⟨⟨⟨⟨⟨a1,a2⟩,a3⟩,a4⟩,a5⟩,a6⟩:=h
 refine ⟨a1,a2,fun y hy hl=>(a3 y hy).resolve_left fun z=>z hl,fun y hy hf=>(a4 y hy).resolve_left fun z=>z hf,a5,fun j hj=>?_⟩
 have h6:=a6 j (List.mem_range.mpr hj)
 cases e1:N'[nl + j]? with
 | none=>rw [e1] at h6; cases h6
 | some x=>
  cases e2:X.N[cap.getD j 0]? with
  | none=>rw [e1,e2] at h6; cases h6
  | some y=>
   rw [e1,e2] at h6
   simp only [Bool.and_eq_true,decide_eq_true_eq] at h6
   exact ⟨x,rfl,by rw [h6.1],h6.2⟩
section
variable {X:Cx} {g:GE} {m mb:List Md} {e a b c:Expr} {f fa fb fc:FE} {pos pos':Pos}
theorem zk4 {R R':R2} {k k':D->D->Option D} (ho:OpD X.K R k) (ho':OpD X.K R' k') {σ:L2.St} {H:Hp} {Q:VK} (h:tE X g m (ziA fa fb fc k k') σ H Q):zot R R' (tB X g m fa) (tB X g m fb) (tB X g m fc) σ H Q:=by
 obtain ⟨r,G,si,q⟩:=h
 refine seq2 si q fun d1 d2 v1 v2 G2 H2 w r1 r2 q2=>?_
 obtain ⟨z,ez,q3⟩:=zaJ (zai q2)
 obtain ⟨cc,ec,q4⟩:=zaJ (zai q3)
 refine ho G2 H2 v1 v2 d1 d2 z _ w.ok r1 r2 ez fun v G3 H3 w3 rv=>?_
 cases z with
 | bl b'=>
  cases ec
  refine ⟨_,rv.bl w3.ok,?_⟩
  cases cc with
  | false=>rw [if_neg Bool.false_ne_true] at q4 ⊢; exact q4 _ G3 H3 (w.trans w3) (.scl (.bl _))
  | true=>
   rw [if_pos rfl] at q4 ⊢
   refine ⟨r,G3,(si.grow w).grow w3,zbd (zai q4) (w.trans w3) fun d3 q5 v3 G4 H4 w4 r3=>?_⟩
   obtain ⟨d,e,q6⟩:=zaJ q5
   exact ho' G4 H4 v2 v3 d2 d3 d Q w4.ok ((r2.mono w3).mono w4) r3 e fun v G' H' w' z=>q6 v G' H' (((w.trans w3).trans w4).trans w') z
 | _=>cases ec
theorem zno {op op':CmpOp} {R R':R2} {k k':D->D->Option D} (hr:OpR X (compareOp op) R) (hr':OpR X (compareOp op') R') (ho:OpD X.K R k) (ho':OpD X.K R' k') (ha:SB X g m a fa) (hb:SB X g m b fb) (hc:SB X g m c fc)
  (hm:lastMarks [op,op'] [b,c]=false:=by with_unfolding_all rfl):SE X g m (.Compare a [op,op'] [b,c] pos) (ziA fa fb fc k k'):=PE.imp (znH hr hr' ha hb hc hm) fun σ H Q h=>zk4 ho ho' h
theorem zs6 {K:PySem.W.Frag}:OpD K (rI0 fun i j=>V.bl (decide (i < j))) ltI:=zfd fun _ _=>.bl _
theorem zs7 {K:PySem.W.Frag}:OpD K (rI0 fun i j=>V.bl (decide (i<=j))) leI:=zfd fun _ _=>.bl _
end
end DL
end
section
namespace DL
open PySem PySem.Spec PyProof.Rows L2
theorem ztx {K:PySem.W.Frag} {h:Heap} {mg:Str->Option Value} {x:Str} {st:Stmt} (KX:K.In h) (G:h.Ns mainGlobals mg) {f:Addr} {oc:Value} {od an:Option Addr} {osl:Array (Option Value)} {kV doc pm cdv ct:Value} (a:PySem.W.nsIn K mainGlobals x=some (some (.ref f)))
  (l:K.lookup f=some ⟨oc,od,.func (PySem.W.fnOf x x (zch st) (zbp st) (zab st) .none kV doc pm an cdv ct),osl⟩) (c:PySem.W.codeIn K cdv x=true) (k:PySem.W.keepIn K (.ref f)=true):DefAt K mg x st:=
 ⟨f,_,PySem.W.mg_of KX G a,zsa l c k⟩
theorem ztr {K:PySem.W.Frag} {h:Heap} {mg:Str->Option Value} {x:Str} {st:Stmt} {dds:List Value} (KX:K.In h) (G:h.Ns mainGlobals mg) {f T:Addr} {oc tc:Value} {od an td:Option Addr} {osl tsl:Array (Option Value)} {n:Nat} {kV doc pm cdv ct:Value} (a:PySem.W.nsIn K mainGlobals x=some (some (.ref f)))
  (l:K.lookup f=some ⟨oc,od,.func (PySem.W.fnOf x x (zch st) (zbp st) (zab st) (.ref T) kV doc pm an cdv ct),osl⟩) (t:K.lookup T=some ⟨tc,td,.seq dds.toArray n,tsl⟩) (c:PySem.W.codeIn K cdv x=true) (k:PySem.W.keepIn K (.ref f)=true):DefAtD K mg x st dds:=
 ⟨f,T,_,n,oc,od,kV,doc,pm,an,cdv,ct,osl,PySem.W.mg_of KX G a,t,rfl,l,c,k⟩
theorem ztw {P:Program} {w:World} {K:PySem.W.Frag} {mg:Str->Option Value} {x p:Str} {st:Stmt} {k:Nat} {F:List D->Res D} {fa:Addr} (hfa:mg x=some (.ref fa)) (A:DefAt K mg x st)
  (hb:∀(kV doc pm:Value) (an:Option Addr) (cdv ct:Value) (us:List Value),us.length=[p].length->bindArgs (PySem.W.fnOf x x (zch st) (zbp st) (zab st) .none kV doc pm an cdv ct) ⟨us,[]⟩=pure ([p].zip us))
  (C:∀(f:Addr) (fd:FuncData),Fun K x x st f fd->∀base:Heap,FnOk P w K mg base CX0 k f fd [p] (spM K false [.sh] F)) :
  ∃fd:FuncData,(∀(s:Shared) (u:Value),BindsTo s fd ⟨[u],[]⟩ [(p,u)])/\∀base:Heap,K.In base->base.Ns mainGlobals mg->FnOk P w K mg base CX0 k fa fd [p] (spM K false [.sh] F):=by
 obtain ⟨f,fd,h1,Fn⟩:=A.ex
 rw [hfa] at h1
 cases h1
 refine ⟨fd,fun s u=>?_,fun base _ _=>C fa fd Fn base⟩
 obtain ⟨oc,od,kV,doc,pm,an,cdv,ct,osl,rfl,lk,hcd⟩:=Fn.ex
 exact .of_eq (hb kV doc pm an cdv ct [u] rfl)
theorem zty {l:PySem.W.OpenLaw} {k:Nat} {q:Program} {loose:List Str} {XP:(Str->Option Value)->Heap->Prop} {YP:World->Heap->Prop} {d:DefRec} {K:Params->PySem.W.Frag} {x:Str} {F:List D->Res D} (hn:l.most=some 63) (hdf:d.params.defaults=[]) (hr:Room k callerA)
  (hY:∀(w:World) (h:Heap),YP w h->(K w.params).In h) (hF:∀ns:List Int,ns.length<=63->F [.lst (ns.map .int)]=.ok (.bl true))
  (C:∀(w:World) (mg:Str->Option Value) (fa:Addr) (h:Heap),(K w.params).In h->h.Ns mainGlobals mg->mg d.name=some (.ref fa) ->
   ∃fd:FuncData,(∀(s:Shared) (u:Value),BindsTo s fd ⟨[u],[]⟩ [(x,u)])/\∀base:Heap,(K w.params).In base->base.Ns mainGlobals mg->FnOk l.prog w (K w.params) mg base CX0 k fa fd [x] (spM (K w.params) false [.sh] F)) :
  PySem.W.WalkO q loose XP YP l.row.toRowW d [] (fun f vs=>PySem.call f vs):=by
 refine L2.walk_of (n:=63) (k:=k) (x:=x) (CX:=fun _=>CX0) (sp:=fun w=>spM (K w.params) false [.sh] F) hn (by decide) hdf hr hY C (fun w H a ns hl hO hS=>?_) fun _ _ _ _ _ z=>z
 have intsP:∀(l:List Int),Paired Scl (l.map V.int) (l.map D.int):=fun l=>by
  induction l with
  | nil=>exact .nil
  | cons i l ih=>exact .cons (.int i) ih
 rcases hS with hS | hS
 ·refine ⟨fun b=>if b=a then some (.lst (ns.map D.int)) else none,[.lst (ns.map .int)],fun b d' hb=>?_,.sh (.ref (if_pos rfl)) .nil,?_⟩
  ·by_cases e:b=a
   ·subst e
    have hb':some (D.lst (ns.map D.int))=some d':=(if_pos rfl).symm.trans hb
    cases hb'
    exact .lst hS (Paired.mono (fun _ _ z=>.scl z) (intsP ns))
   ·have hb':(none:Option D)=some d':=(if_neg e).symm.trans hb
    cases hb'
  ·rw [hF ns hl]
   intro v G' H' w' rv
   exact rv.bl w'.ok
 ·refine ⟨fun _=>none,[.lst (ns.map .int)],fun b d' hb=>(by cases hb),.sh (.kc (.lst (.inr hS) (intsP ns))) .nil,?_⟩
  rw [hF ns hl]
  intro v G' H' w' rv
  exact rv.bl w'.ok
end DL
end
section
namespace DL
open PySem PySem.Spec PyProof.Rows L2
open AutoSeq1 (wpAny_loadPart')
section
variable {prog:Program} {w:World} {A:Around} {E:Value->Shared->Prop} {s:Shared}
theorem zfe {it t:Addr} {i:Nat} {items} {x:Value} {Q:Value->Shared->Prop} (hit:s.heap.IsTupleIter it t i) (ht:s.heap.IsTuple t items) (hx:items[i]? = some x)
  (hQ:∀h',h'.IsTupleIter it t (i + 1)->Heap.SameBut it s.heap h'->Q x { s with heap:=h' }):wpAny (model prog w) A (Builtin.SmallTypes.nextOf (.ref it)) Q E s:=by
 obtain ⟨o,ho,hc,hd⟩:=id hit
 obtain ⟨ol,hol,_,nl,hdl⟩:=ht
 unfold Builtin.SmallTypes.nextOf
 refine wpAny_bind (wpAny_callSpecial?_slot (name:=Str.ofString "__next__") hit.typeIs F.slot_tuple_iterator_next
  (wpAny_call_entry F.slot_tuple_iterator_next hit.typeIs F.entry_tuple_iterator_next ?_ (F.args_tuple_iterator_next_1 _)))
 show wpAny _ _ (field (.ref it) 0 >>= _) _ _ s
 refine wpAny_bind (wpAny_field ho hd (x:=.ref t) rfl ?_)
 show wpAny _ _ (if (Value.ref t == Value.none)=true then _ else _) _ _ s
 rw [if_neg (show ¬ ((Value.ref t == Value.none)=true) from Bool.false_ne_true)]
 show wpAny _ _ (field (.ref it) 1 >>= _) _ _ s
 refine wpAny_bind (wpAny_field ho hd (x:=.int i 0) rfl ?_)
 show wpAny _ _ (seqItems? (.ref t) >>= _) _ _ s
 refine wpAny_bind (wpAny_seqItems hol hdl ?_)
 simp only [Int.toNat_natCast,hx]
 refine wpAny_bind (wpAny_setField ho hd (by simp) (wpAny_pure ⟨x,rfl,wpAny_pure (hQ _ ?_ (Heap.SameBut.update ..))⟩))
 exact ⟨_,Heap.get?_update_self _ ho (Obj.isFreed_of_fields (Obj.data_mapFields hd _)),(Obj.cls_mapFields ..).trans hc,by
  rw [Obj.data_mapFields hd]; simp [rawInt]⟩
theorem zfI {it t:Addr} {i:Nat} {items} {Q:Value->Shared->Prop} (hh:A.handled=none) (hit:s.heap.IsTupleIter it t i) (ht:s.heap.IsTuple t items) (hx:items[i]? = none)
  (hE:∀h' e,Heap.ExtBut it s.heap h'->(∃o,h'.get? e=some o/\o.cls=.type "StopIteration")->E (.ref e) { s with heap:=h' }):wpAny (model prog w) A (Builtin.SmallTypes.nextOf (.ref it)) Q E s:=by
 obtain ⟨o,ho,hc,hd⟩:=id hit
 obtain ⟨ol,hol,_,nl,hdl⟩:=ht
 unfold Builtin.SmallTypes.nextOf
 refine wpAny_bind (wpAny_callSpecial?_slot (name:=Str.ofString "__next__") hit.typeIs F.slot_tuple_iterator_next
  (wpAny_call_entry F.slot_tuple_iterator_next hit.typeIs F.entry_tuple_iterator_next ?_ (F.args_tuple_iterator_next_1 _)))
 show wpAny _ _ (field (.ref it) 0 >>= _) _ _ s
 refine wpAny_bind (wpAny_field ho hd (x:=.ref t) rfl ?_)
 show wpAny _ _ (if (Value.ref t == Value.none)=true then _ else _) _ _ s
 rw [if_neg (show ¬ ((Value.ref t == Value.none)=true) from Bool.false_ne_true)]
 show wpAny _ _ (field (.ref it) 1 >>= _) _ _ s
 refine wpAny_bind (wpAny_field ho hd (x:=.int i 0) rfl ?_)
 show wpAny _ _ (seqItems? (.ref t) >>= _) _ _ s
 refine wpAny_bind (wpAny_seqItems hol hdl ?_)
 simp only [Int.toNat_natCast,hx]
 refine wpAny_bind (wpAny_rule (wpAny_bind (wpAny_setField ho hd (by simp) ?_)))
 show wpAny _ _ (newExc (.type "StopIteration") [] >>= _) _ _ _
 refine wpAny_bind ?_
 simp only [newExc,newTuple]
 refine wpAny_bind (wpAny_newObj_type ?_ (by size_fits))
 refine wpAny_bind (m:=firstArgMember _ _) (wpAny_of_eq (a:=Value.none) (by first | rfl | (simp only [firstArgMember]; rfl)) ?_)
 refine wpAny_newObj_type ?_ (by size_fits)
 simp only [raiseNew]
 refine wpAny_bind (wpAny_handled ?_)
 first | rw [show A.in1.handled=none from hh] | rw [hh]
 refine wpAny_bind (wpAny_pure (wpAny_throw ?_))
 exact hE _ _ (((Heap.SameBut.update ..).extBut.push _).push _) ⟨_,Heap.get?_push_size _ rfl,rfl⟩
end
theorem zoW {prog:Program} {w:World} {A:Around} (hh:A.handled=none) (it l:Addr) (hne:l≠it) (items:Array Value) :
  Draws prog w A it [it,l] items.size (fun i v=>items[i]? = some v) (fun i h=>h.IsTupleIter it l i/\h.IsTuple l items) where
 live:=fun _ _ st=>let ⟨o,ho,_⟩:=st.1; ⟨o,ho⟩
 frame:=fun _ _ _ st hk=>⟨let ⟨o,ho,r⟩:=st.1; ⟨o,hk it (by simp) o ho,r⟩,let ⟨o,ho,r⟩:=st.2; ⟨o,hk l (by simp) o ho,r⟩⟩
 item:=fun i s Q E hi st hQ=>by
  refine zfe st.1 st.2 (x:=items[i]) (by simp [hi]) fun h' hit' hs'=>?_
  exact hQ _ h' s.toks (by simp [hi]) ⟨hit',st.2.extBut hs'.extBut hne⟩ hs'
 done:=fun s Q E st hE=>zfI hh st.1 st.2 (by simp) hE
theorem zgd (l:Addr) (items:Array Value) (n:Nat) (dct:Option Addr) (sl:Array (Option Value)) :
  Meets (Builtin.«enumerate.__new__» ⟨[.type "enumerate",.ref l],[]⟩) (fun _ R s=>s.heap.get? l=some { cls:=.type "tuple",dict:=dct,data:=.seq items n,slots:=sl } /\
   R (.ok (.ret (.ref (s.heap.push { cls:=.type "tuple_iterator",data:=.fields #[.ref l,.int 0 0] }).objs.size)))
    { s with heap:=(s.heap.push { cls:=.type "tuple_iterator",data:=.fields #[.ref l,.int 0 0] }).push { cls:=.type "enumerate",data:=.fields #[.none,.bool false,.ref s.heap.objs.size,rawInt 0,.none,.none] } }):=
 .of_wp fun prog w A R s h=>by
  obtain ⟨hp,g,d,tk,os⟩:=s; obtain ⟨hl,h⟩:=h
  have hsub:=sub_enumerate
  have hL:Heap.IsTuple (Shared.heap ⟨hp,g,d,tk,os⟩) l items:=⟨_,hl,rfl,n,rfl⟩
  wp_walk using wpAny_loadPart' hl
  refine wpAny_stack_any fun st=>wpAny_pure ?_
  split
  ·rename_i c _ _ _ _ _
   cases (c == Value.type "enumerate")
   ·wp_walk using wpAny_loadPart' hl,wpAny_pyIter_tuple hL
    exact ⟨_,rfl,h⟩
   ·wp_walk using wpAny_loadPart' hl,wpAny_pyIter_tuple hL
    exact ⟨_,rfl,h⟩
  ·wp_walk using wpAny_loadPart' hl,wpAny_pyIter_tuple hL
   exact ⟨_,rfl,h⟩
section
variable {prog:Program} {w:World} {A:Around} {E:Value->Shared->Prop} {s:Shared}
theorem zgq {l:Addr} {items:Array Value} {Q:Value->Shared->Prop} (hL:s.heap.IsTuple l items)
  (h:∀h',IsEnum h' (s.heap.objs.size + 1) s.heap.objs.size 0 .none->h'.IsTupleIter s.heap.objs.size l 0->h'.objs.size=s.heap.objs.size + 2 ->
   (∀b o,s.heap.get? b=some o->h'.get? b=some o)->Q (.ref (s.heap.objs.size + 1)) { s with heap:=h' }) :
  wpAny (model prog w) A (call (.type "enumerate") [.ref l]) Q E s:=by
 obtain ⟨⟨c,dct,dt,sl⟩,hl,hc,n,hd⟩:=hL
 replace hc:c=.type "tuple" := hc
 replace hd:dt=.seq items n:=hd
 subst hc hd
 refine callType_new F.called_enumerate (by decide) (F.typeCall_enumerate_1 _) (F.newCall_enumerate_1 _) (fun obj=>F.args_object_init_2 obj _) F.entry_enumerate_new
  (zgd l items n dct sl) ⟨hl,?_⟩
 have hz:(s.heap.push { cls:=.type "tuple_iterator",data:=.fields #[.ref l,.int 0 0] }).objs.size=s.heap.objs.size + 1:=Heap.size_push ..
 show _/\_
 rw [hz]
 have he:IsEnum ((s.heap.push { cls:=.type "tuple_iterator",data:=.fields #[.ref l,.int 0 0] }).push
   { cls:=.type "enumerate",data:=.fields #[.none,.bool false,.ref s.heap.objs.size,rawInt 0,.none,.none] }) (s.heap.objs.size + 1) s.heap.objs.size 0 .none:=by
  have:=Heap.get?_push_size (s.heap.push { cls:=.type "tuple_iterator",data:=.fields #[.ref l,.int 0 0] })
   (o:={ cls:=.type "enumerate",data:=.fields #[.none,.bool false,.ref s.heap.objs.size,rawInt 0,.none,.none] }) rfl
  rw [hz] at this; exact this
 refine ⟨⟨_,he,rfl⟩,h _ he ⟨_,Heap.get?_push_of_some _ (Heap.get?_push_size _ rfl),rfl,rfl⟩ (by rw [Heap.size_push,hz]) fun b o x=>Heap.get?_push_of_some _ (Heap.get?_push_of_some _ x)⟩
end
theorem zkc {X:Cx} {pins:List (Addr × Obj)} {σ:L2.St} {H:Hp} {s:Shared} {h':Heap} {ch:List Addr} {T:Addr} {o:HO} {t':Nat} (I:Inv X pins σ H s)
  (hch:∀b∈ch,FpOk X pins H b) (k:∀b ob,b∉ch->s.heap.get? b=some ob->h'.get? b=some ob) (hT:s.heap.objs.size<=T) (new:za9 X.prog X.w (upd H T o) h' T o):Inv X pins σ (upd H T o) { s with heap:=h',toks:=t' }:=by
 have hTn:H T=none:=I.hok.fresh hT
 have trk:∀b u,H b=some u->b∉ch:=fun b u e hb=>by rw [(hch b hb).1] at e; cases e
 have neT:∀b ob,s.heap.get? b=some ob->b≠T:=fun b ob e=>Nat.ne_of_lt (Nat.lt_of_lt_of_le (Heap.lt_size e) hT)
 have keepU:∀b u,H b=some u->upd H T o b=some u:=fun b u e=>by rw [zaA (zbL e hTn)]; exact e
 refine I.step (g':=s.gens) (d':=s.drawn) (ch:=ch) (fun b hb=>?_) (fun b ob _ _ hc e _=>k b ob hc e) (fun b ob _ _ hc e _=>⟨ob.slots,k b ob hc e⟩) (fun b ob hc e n=>by rw [zaA (neT b ob e)]; exact n)
  (fun b ob hc e=>⟨ob,k b ob hc e⟩) (fun b xs e=>keepU b _ e) (fun b ob u e=>keepU b _ e) (fun b ps e=>⟨#[],by rw [keepU b _ e]; simp⟩) (fun m hm=>?_) (fun b u e=>?_) I.bare
 ·obtain ⟨z0,z1,z2,z3,z4,z5⟩:=hch b hb
  exact ⟨z3,z1,z4,z5⟩
 ·obtain ⟨ob,es,ep,ho,r⟩:=hm
  exact ⟨ob,es,ep,k _ ob (fun hb=>(hch _ hb).2.1 rfl) ho,r⟩
 ·by_cases hb:b=T
  ·subst hb
   rw [zaq] at e
   cases e
   exact new
  ·rw [zaA hb] at e
   refine (I.hok b u e).stay (fun c v hc q=>k c v ?_ q) (fun c q=>keepU c _ q) fun c xs q=>keepU c _ q
   rcases hc with z | z
   ·rw [z]; exact trk b u e
   ·exact trk c _ z
noncomputable def Ien (sq:Hp->List V->Prop):It:=
 ⟨fun i H=>∃xs x,sq H xs/\xs[i]? = some x,fun i H x H'=>∃p v,H p=none/\x=.ref p/\H'=upd H p (.tup [.int i,v])/\∀xs,sq H xs->xs[i]? = some v,fun i H=>∃xs,sq H xs/\xs.length=i⟩
theorem zlW {P:Program} {w:World} {H:Hp} {h:Heap} {T:Addr} {i:Nat} {tk:Tok} {x:Value} {v:V} (hT:h.get? T=some { cls:=.type "tuple",data:=.seq #[.int i tk,x] }) (r:L2.RelV v x):za9 P w H h T (.tup [.int i,v]):=
 ⟨by show 2<=sizeLine; decide,[.int i tk,x],.cons ⟨tk,rfl⟩ (.cons r .nil),⟨_,hT,rfl,0,rfl⟩,_,hT,rfl⟩
theorem zks {P:Program} {w:World} {K:PySem.W.Frag} {elts:List Expr} {k:Nat} {pos:Pos} (a it e:Addr) (hei:e≠it):Turn P w K (.Tuple elts k pos) (Ien fun H xs=>SqL K H a xs) [e,it] e (fun i h=>(∃old,IsEnum h e it i old)/\h.IsListIter it a i) where
 mem:=by simp
 obj:=fun i h st b hb=>by
  obtain ⟨⟨old,he⟩,o,ho,hc,hd⟩:=st
  rcases List.mem_cons.mp hb with rfl | hb
  ·exact ⟨_,he,fun v z=>by have z':Data.fields _=Data.cell v:=z; cases z'⟩
  ·rw [List.mem_singleton.mp hb]
   exact ⟨o,ho,fun v z=>by rw [hd] at z; cases z⟩
 keep:=fun i h h' st kk=>by
  obtain ⟨⟨old,he⟩,hi⟩:=st
  exact ⟨⟨old,kk e (by simp) _ he⟩,hi.at fun o q=>kk it (by simp) o q⟩
 item:=by
  intro X hP hw hK hc i pins s σ H E I hf st hg
  subst hP hw hK
  obtain ⟨xs,x,hq,hx⟩:=hg
  obtain ⟨its,rv,p,hz⟩:=I.list hq
  obtain ⟨⟨old,he⟩,hi⟩:=st
  obtain ⟨o1,ho1,hc1,hd1⟩:=id hi
  obtain ⟨o2,ho2,hc2,_⟩:=id p.isList
  have hai:a≠it:=by rintro rfl; rw [ho1] at ho2; cases ho2; rw [hc1] at hc2; exact absurd hc2 (by decide)
  have hea:e≠a:=by rintro rfl; rw [he] at ho2; cases ho2; exact absurd (show Value.type "enumerate" = _ from hc2) (by decide)
  have hlt:i < its.toArray.size:=by
   have:=(List.getElem?_eq_some_iff.mp hx).1
   rw [List.size_toArray,<-rv.length]; exact this
  refine wpAny_pyNext_enum_itemD (Draws.list (A:=X.A.in1) (show X.A.in1.handled=none from I.ok.hd hc) it a hai its.toArray) he ⟨hi,p.isList⟩ hlt hei (by simp [hei,hea]) fun y h' tk hP ho hs' hT hsz hk=>?_
  refine ⟨_,rfl,wpAny_letOwnedTupleGo_enum ho fun h'' he'' hs''=>?_⟩
  obtain ⟨u,hu,ru⟩:=rv.get hx
  have hy:y=u:=by
   have:its[i]? = some y:=by simpa using hP
   rw [hu] at this; exact (Option.some.inj this).symm
  subst hy
  have hTe:s.heap.objs.size≠e:=Nat.ne_of_gt (Heap.lt_size he)
  have hT'':h''.get? s.heap.objs.size=some { cls:=.type "tuple",data:=.seq #[.int i tk,y] }:=(hs''.2 _ hTe).trans hT
  refine ⟨.ref s.heap.objs.size,upd H s.heap.objs.size (.tup [.int i,x]),zkc (s:=s) (h':=h'') (t':=tk + 1) (ch:=[e,it]) I hf (fun b ob hb q=>?_) (Nat.le_refl _) (zlW hT'' ru),rfl,⟨_,x,I.hok.fresh (Nat.le_refl _),rfl,rfl,fun ys hy=>by rw [I.list_inj hy hq]; exact hx⟩,⟨⟨_,by simpa using he''⟩,hs'.1.extBut hs''.extBut (Ne.symm hei)⟩,fun b hb=>?_⟩
  ·have hbe:b≠e:=fun z=>hb (by simp [z])
   exact (hs''.2 b hbe).trans (hk b ob hbe (fun z=>hb (by simp [z])) q)
  ·rw [zaA ?_]
   ·exact (hf b hb).1
   ·rcases List.mem_cons.mp hb with rfl | hb
    ·exact Nat.ne_of_lt (Heap.lt_size he)
    ·rw [List.mem_singleton.mp hb]; exact Nat.ne_of_lt (Heap.lt_size ho1)
 done:=by
  intro X hP hw hK hc i pins s σ H E I hf st hg
  subst hP hw hK
  obtain ⟨xs,hq,hx⟩:=hg
  obtain ⟨its,rv,p,hz⟩:=I.list hq
  obtain ⟨⟨old,he⟩,hi⟩:=st
  obtain ⟨o1,ho1,hc1,hd1⟩:=id hi
  obtain ⟨o2,ho2,hc2,_⟩:=id p.isList
  have hai:a≠it:=by rintro rfl; rw [ho1] at ho2; cases ho2; rw [hc1] at hc2; exact absurd hc2 (by decide)
  obtain ⟨f0,f1,f2,f3,f4,f5⟩:=hf it (by simp)
  have hn:its.toArray.size=i:=by rw [List.size_toArray,<-rv.length]; exact hx
  refine wpAny_pyNext_enum_endD (Draws.list (A:=X.A.in1) (show X.A.in1.handled=none from I.ok.hd hc) it a hai its.toArray) he ⟨by rw [hn]; exact hi,p.isList⟩ fun h' eb=>⟨rfl,I.turned (t':=s.toks) (fun b o hb q=>eb b o hb q) f0 f1 f3 f4 f5⟩
 self:=fun _ _ _ _ _ st h=>let ⟨⟨_,he⟩,_⟩:=st; wpAny_pyIter_enum he h
theorem IsTupleIter.at' {h h':Heap} {a t:Addr} {i:Nat} (x:h.IsTupleIter a t i) (hs:∀o,h.get? a=some o->h'.get? a=some o):h'.IsTupleIter a t i:=let ⟨o,ho,r⟩:=x; ⟨o,hs o ho,r⟩
theorem zkr {P:Program} {w:World} {K:PySem.W.Frag} {elts:List Expr} {k:Nat} {pos:Pos} (a it e:Addr) (hei:e≠it):Turn P w K (.Tuple elts k pos) (Ien fun H xs=>SqT K H a xs) [e,it] e (fun i h=>(∃old,IsEnum h e it i old)/\h.IsTupleIter it a i) where
 mem:=by simp
 obj:=fun i h st b hb=>by
  obtain ⟨⟨old,he⟩,o,ho,hc,hd⟩:=st
  rcases List.mem_cons.mp hb with rfl | hb
  ·exact ⟨_,he,fun v z=>by have z':Data.fields _=Data.cell v:=z; cases z'⟩
  ·rw [List.mem_singleton.mp hb]
   exact ⟨o,ho,fun v z=>by rw [hd] at z; cases z⟩
 keep:=fun i h h' st kk=>by
  obtain ⟨⟨old,he⟩,hi⟩:=st
  exact ⟨⟨old,kk e (by simp) _ he⟩,IsTupleIter.at' hi fun o q=>kk it (by simp) o q⟩
 item:=by
  intro X hP hw hK hc i pins s σ H E I hf st hg
  subst hP hw hK
  obtain ⟨xs,x,hq,hx⟩:=hg
  obtain ⟨its,rv,p,hz⟩:=I.tuple hq
  obtain ⟨⟨old,he⟩,hi⟩:=st
  obtain ⟨o1,ho1,hc1,hd1⟩:=id hi
  obtain ⟨o2,ho2,hc2,_⟩:=id p
  have hai:a≠it:=by rintro rfl; rw [ho1] at ho2; cases ho2; rw [hc1] at hc2; exact absurd hc2 (by decide)
  have hea:e≠a:=by rintro rfl; rw [he] at ho2; cases ho2; exact absurd (show Value.type "enumerate" = _ from hc2) (by decide)
  have hlt:i < its.toArray.size:=by
   have:=(List.getElem?_eq_some_iff.mp hx).1
   rw [List.size_toArray,<-rv.length]; exact this
  refine wpAny_pyNext_enum_itemD (zoW (A:=X.A.in1) (show X.A.in1.handled=none from I.ok.hd hc) it a hai its.toArray) he ⟨hi,p⟩ hlt hei (by simp [hei,hea]) fun y h' tk hP ho hs' hT hsz hk=>?_
  refine ⟨_,rfl,wpAny_letOwnedTupleGo_enum ho fun h'' he'' hs''=>?_⟩
  obtain ⟨u,hu,ru⟩:=rv.get hx
  have hy:y=u:=by
   have:its[i]? = some y:=by simpa using hP
   rw [hu] at this; exact (Option.some.inj this).symm
  subst hy
  have hTe:s.heap.objs.size≠e:=Nat.ne_of_gt (Heap.lt_size he)
  have hT'':h''.get? s.heap.objs.size=some { cls:=.type "tuple",data:=.seq #[.int i tk,y] }:=(hs''.2 _ hTe).trans hT
  refine ⟨.ref s.heap.objs.size,upd H s.heap.objs.size (.tup [.int i,x]),zkc (s:=s) (h':=h'') (t':=tk + 1) (ch:=[e,it]) I hf (fun b ob hb q=>?_) (Nat.le_refl _) (zlW hT'' ru),rfl,⟨_,x,I.hok.fresh (Nat.le_refl _),rfl,rfl,fun ys hy=>by rw [I.tuple_inj hy hq]; exact hx⟩,⟨⟨_,by simpa using he''⟩,hs'.1.extBut hs''.extBut (Ne.symm hei)⟩,fun b hb=>?_⟩
  ·have hbe:b≠e:=fun z=>hb (by simp [z])
   exact (hs''.2 b hbe).trans (hk b ob hbe (fun z=>hb (by simp [z])) q)
  ·rw [zaA ?_]
   ·exact (hf b hb).1
   ·rcases List.mem_cons.mp hb with rfl | hb
    ·exact Nat.ne_of_lt (Heap.lt_size he)
    ·rw [List.mem_singleton.mp hb]; exact Nat.ne_of_lt (Heap.lt_size ho1)
 done:=by
  intro X hP hw hK hc i pins s σ H E I hf st hg
  subst hP hw hK
  obtain ⟨xs,hq,hx⟩:=hg
  obtain ⟨its,rv,p,hz⟩:=I.tuple hq
  obtain ⟨⟨old,he⟩,hi⟩:=st
  obtain ⟨o1,ho1,hc1,hd1⟩:=id hi
  obtain ⟨o2,ho2,hc2,_⟩:=id p
  have hai:a≠it:=by rintro rfl; rw [ho1] at ho2; cases ho2; rw [hc1] at hc2; exact absurd hc2 (by decide)
  obtain ⟨f0,f1,f2,f3,f4,f5⟩:=hf it (by simp)
  have hn:its.toArray.size=i:=by rw [List.size_toArray,<-rv.length]; exact hx
  refine wpAny_pyNext_enum_endD (zoW (A:=X.A.in1) (show X.A.in1.handled=none from I.ok.hd hc) it a hai its.toArray) he ⟨by rw [hn]; exact hi,p⟩ fun h' eb=>⟨rfl,I.turned (t':=s.toks) (fun b o hb q=>eb b o hb q) f0 f1 f3 f4 f5⟩
 self:=fun _ _ _ _ _ st h=>let ⟨⟨_,he⟩,_⟩:=st; wpAny_pyIter_enum he h
end DL
end
section
namespace DL
open PySem PySem.Spec PyProof.Rows L2
noncomputable def tyN:D->Option String
 | .non=>some "NoneType"
 | .bl _=>some "bool"
 | .int _=>some "int"
 | .str _=>some "str"
 | .tup _=>some "tuple"
 | .lst _=>some "list"
 | .dic _=>some "dict"
 | .obj _ _=>none
noncomputable def subT (t T:String):Bool:=t == T || (t == "bool" && T == "int")
noncomputable def isiD (T:String) (d:D):Option D:=(tyN d).map fun t=>.bl (subT t T)
noncomputable def TyD (K:PySem.W.Frag) (x:V) (H:Hp) (t:String):Prop:=match x with
 | .non=>t = "NoneType"
 | .bl _=>t = "bool"
 | .int _=>t = "int"
 | .str _=>t = "str"
 | .ref p=>(t = "list"/\∃xs,SqL K H p xs)\/(t = "tuple"/\∃xs,SqT K H p xs)\/(t = "dict"/\∃kvs,Rd H p (.dK kvs))
 | _=>False
theorem zqC {K:PySem.W.Frag} {G:GH} {H:Hp} {v:V} {d:D} {t:String} (gk:GOk K G H) (h:RB K G H v d) (e:tyN d=some t):TyD K v H t:=by
 cases d with
 | non=>cases e; rw [h.non gk]; rfl
 | bl b=>cases e; rw [h.bl gk]; rfl
 | int i=>cases e; rw [h.int gk]; rfl
 | str x=>cases e; rw [h.str gk]; rfl
 | tup ds=>cases e; obtain ⟨a,xs,rfl,s,r⟩:=h.tup gk; exact .inr (.inl ⟨rfl,xs,s⟩)
 | lst ds=>cases e; obtain ⟨a,xs,rfl,s,r⟩:=h.lst gk; exact .inl ⟨rfl,xs,s⟩
 | dic ds=>cases e; obtain ⟨a,xs,rfl,s,r⟩:=h.dic gk; exact .inr (.inr ⟨rfl,xs,s⟩)
 | obj _ _=>cases e
section
variable {X:Cx} {g:GE} {m:List Md} {e a:Expr} {f:FE} {pos p p2:Pos}
theorem zoi:zcK X (.builtin "isinstance") (fun xs H Q=>∃x t T b,xs=[x,.ty T]/\TyD X.K x H t/\PySem.W.kitOne X.K (.type t) (.type T)=some b/\Q (.bl b) H):=by
 intro pins s σ H xs us Q I r h
 obtain ⟨x,t,T,b,rfl,ty,e,q⟩:=h
 obtain ⟨u,w',rfl,rx,ry⟩:=zqx r
 cases ry
 have fin:∀tk,EP X pins σ Q (.bool b) { s with toks:=tk }:=fun tk=>⟨.bl b,H,I.tok tk,rfl,q⟩
 cases x with
 | non=>cases rx; cases (show t = "NoneType" from ty); exact PySem.W.kia_one PySem.W.kitx_none I.kIn True.intro e (fun z=>nomatch z) fin
 | bl y=>cases rx; cases (show t = "bool" from ty); exact PySem.W.kia_one PySem.W.kitx_bool I.kIn True.intro e (fun z=>nomatch z) fin
 | int i=>obtain ⟨t,rfl⟩:=rx; cases ty; exact PySem.W.kia_one PySem.W.kitx_int I.kIn True.intro e (fun z=>nomatch z) fin
 | str i=>obtain ⟨t,rfl⟩:=rx; cases ty; exact PySem.W.kia_one PySem.W.kitx_str I.kIn True.intro e (fun z=>nomatch z) fin
 | ref p=>
  cases rx
  rcases ty with ⟨rfl,xs,hq⟩ | ⟨rfl,xs,hq⟩ | ⟨rfl,kvs,hq⟩
  ·obtain ⟨its,_,pl,_⟩:=I.list hq
   obtain ⟨o,ho,hc,_⟩:=pl.isList
   exact PySem.W.kia_one PySem.W.kitx_list I.kIn ⟨o,ho,hc⟩ e (fun z=>nomatch z) fin
  ·obtain ⟨its,_,pl,_⟩:=I.tuple hq
   obtain ⟨o,ho,hc,_⟩:=pl
   exact PySem.W.kia_one PySem.W.kitx_tuple I.kIn ⟨o,ho,hc⟩ e (fun z=>nomatch z) fin
  ·obtain ⟨_,_,vs,_,pp⟩:=(show za9 X.prog X.w H s.heap p (.dK kvs) from hq.ok I.hok)
   obtain ⟨o,es,ep,h1,h2,_⟩:=pp
   exact PySem.W.kia_one PySem.W.kitx_dict I.kIn ⟨o,h1,h2.1⟩ e (fun z=>nomatch z) fin
 | _=>exact (show False from ty).elim
theorem zkx (x:Str) (T:String) (hv:bootBuiltins x=some (.type T)) (hk:∀(d:D) (t:String),tyN d=some t->PySem.W.kitOne X.K (.type t) (.type T)=some (subT t T)) (hg:Gl X "isinstance") (hm:X.mg "isinstance" = none) (hgT:Gl X x) (hmT:X.mg x=none) (he:SB X g m e f)
  (hn:x≠"__name__" := by decide) (hd:(x == ("__debug__" : Str))=false:=by decide) (hs1:starEach [e,.Name x p2] X.env=(false,eval e X.env)::starEach [.Name x p2] X.env:=by rfl) (hs2:starEach [.Name x p2] X.env=(false,eval (.Name x p2) X.env)::starEach [] X.env:=by rfl)
  (hpl:(backTo pos (starEach [.Name x p2] X.env)).any (·.1)=false:=by rfl) :
  SE X g m (.Call (.Name "isinstance" p) [e,.Name x p2] [] pos) (f1 f (isiD T)):=by
 refine PE.imp (zcT zoi hg hm (by first | exact PyProof.Rows.boot_isinstance | rfl) (zcy he (zcy (zpI (v:=.ty T) hgT hmT hv rfl hn hd) zeQ hs2) hs1) (by decide) (by decide) hs1 hpl) fun σ H Q ⟨r,G,si,q⟩=>⟨r,G,si,zag (zai q) fun d q1 v G1 H1 w1 r1=>?_⟩
 obtain ⟨d',e',q2⟩:=zaJ q1
 unfold isiD at e'
 cases et:tyN d with
 | none=>rw [et] at e'; cases e'
 | some t=>
  rw [et] at e'
  cases e'
  exact ⟨v,t,T,_,rfl,zqC w1.ok r1 et,hk d t et,q2 _ G1 H1 w1 (.scl (.bl _))⟩
end
theorem zfT {d:D} {t:String} (h:tyN d=some t) {P:String->Prop} (h1:P "NoneType") (h2:P "bool") (h3:P "int") (h4:P "str") (h5:P "tuple") (h6:P "list") (h7:P "dict"):P t:=by
 cases d <;> cases h <;> assumption
theorem zmk (K:PySem.W.Frag) (d:D) (t:String) (h:tyN d=some t):PySem.W.kitOne K (.type t) (.type "int")=some (subT t "int"):=zfT (P:=fun t=>PySem.W.kitOne K (.type t) (.type "int")=some (subT t "int")) h (by kernel_rfl) (by kernel_rfl) (by kernel_rfl) (by kernel_rfl) (by kernel_rfl) (by kernel_rfl) (by kernel_rfl)
theorem zj8 (K:PySem.W.Frag) (d:D) (t:String) (h:tyN d=some t):PySem.W.kitOne K (.type t) (.type "bool")=some (subT t "bool"):=zfT (P:=fun t=>PySem.W.kitOne K (.type t) (.type "bool")=some (subT t "bool")) h (by kernel_rfl) (by kernel_rfl) (by kernel_rfl) (by kernel_rfl) (by kernel_rfl) (by kernel_rfl) (by kernel_rfl)
theorem zis (K:PySem.W.Frag) (d:D) (t:String) (h:tyN d=some t):PySem.W.kitOne K (.type t) (.type "tuple")=some (subT t "tuple"):=zfT (P:=fun t=>PySem.W.kitOne K (.type t) (.type "tuple")=some (subT t "tuple")) h (by kernel_rfl) (by kernel_rfl) (by kernel_rfl) (by kernel_rfl) (by kernel_rfl) (by kernel_rfl) (by kernel_rfl)
section
variable {X:Cx} {g:GE} {m:List Md} {e a b:Expr} {f fa:FE} {pos p pos2 p2:Pos} {es:List Expr} {fl:Rho->Res (List D)}
noncomputable def rngV (lo:Int) (n:Nat):List V:=(List.range n).map fun (i:Nat)=>V.int (lo + (i:Int))
theorem zqY {K:PySem.W.Frag} {G:GH} (lo:Int) (n:Nat):RGs K G (rngV lo n) (rngD lo n):=by
 unfold rngV rngD
 induction (List.range n) with
 | nil=>exact .nil
 | cons i l ih=>exact .cons (.scl (.int _)) ih
theorem zdd:∀{xs:List V} {us:List Value},xs.length=us.length->(∀(j:Nat) v u,xs[j]? = some v->us[j]? = some u->L2.RelV v u)->Vals xs us
 | [],[],_,_=>.nil
 | v::xs,u::us,hl,h=>.cons (h 0 v u rfl rfl) (zdd (by simpa using hl) fun j a b e1 e2=>h (j + 1) a b (by simpa using e1) (by simpa using e2))
 | [],_::_,hl,_=>by simp at hl
 | _::_,[],hl,_=>by simp at hl
theorem znt {lo:Int} {n:Nat} {acc:Array Value} (h:ItemsOf (fun i v=>∃t,v=.int (lo + i * 1) t) acc n):Vals (rngV lo n) acc.toList:=by
 refine zdd (by simp [rngV,h.1]) fun j v u e1 e2=>?_
 have hj:j < n:=by
  have:=(List.getElem?_eq_some_iff.mp e1).1
  simpa [rngV] using this
 unfold rngV at e1
 rw [List.getElem?_map,List.getElem?_range hj] at e1
 cases e1
 obtain ⟨t,rfl⟩:=h.2 j u (by rw [<-Array.getElem?_toList]; exact e2)
 exact ⟨t,by simp⟩
theorem zmT:zcK X (.type "range") (fun xs H Q=>∃j,xs=[.int j]/\∀p,H p=none->Q (.ref p) (upd H p (.rng 0 j))):=by
 intro pins s σ H xs us Q I r h
 obtain ⟨j,rfl,q⟩:=h
 obtain ⟨u,rfl,t,rfl⟩:=vals1 r
 refine call_range_1 ⟨.ref s.heap.objs.size,_,I.laid (o:=.rng 0 j) (fun b o e=>Heap.get?_push_of_some _ e) (Nat.le_refl _) ⟨_,_,_,Heap.get?_push_size _ rfl⟩,rfl,q _ (I.hok.fresh (Nat.le_refl _))⟩
theorem zhT (hc:X.calm=true):zcK X (.type "list") (fun xs H Q=>∃p lo hi,xs=[.ref p]/\H p=some (.rng lo hi)/\(-(2 ^ 62)<=lo/\lo < 2 ^ 62/\-(2 ^ 62)<=hi/\hi < 2 ^ 62)/\(hi - lo).toNat<=sizeLine/\∀l,H l=none->Q (.ref l) (upd H l (.lst (rngV lo (hi - lo).toNat)))):=by
 intro pins s σ H xs us Q I r h
 obtain ⟨p,lo,hi,rfl,hp,⟨h1,h2,h3,h4⟩,hz,q⟩:=h
 obtain ⟨u,rfl,rx⟩:=vals1 r
 cases rx
 obtain ⟨t,u,v,ho⟩:=(show za9 X.prog X.w H s.heap p (.rng lo hi) from I.hok p _ hp)
 have e2:Builtin.Range.rangeSize lo hi 1=(((hi - lo).toNat:Nat):Int):=by rw [rangeSize_one]; split <;> omega
 refine call_list_range (I.ok.hd hc) (r:=p) (a:=lo) (b:=hi) (c:=1) ho (small_one h1 h2 h3 h4) e2 (by rw [sizeLine_eq] at hz; omega) fun h' tk acc c' kp hS hacc=>?_
 refine ⟨.ref s.heap.objs.size,_,I.laid (t':=tk) kp (Nat.le_refl _) (show za9 X.prog X.w _ h' _ (.lst (rngV lo (hi - lo).toNat)) from ⟨by unfold rngV; rw [List.length_map,List.length_range]; exact hz,acc.toList,c',znt hacc,by rw [Array.toArray_toList]; exact hS⟩),rfl,q _ (I.hok.fresh (Nat.le_refl _))⟩
noncomputable def zjg:List D->Option D
 | [.int j]=>if -(2 ^ 62)<=j/\j < 2 ^ 62/\j.toNat<=sizeLine then some (.lst (rngD 0 j.toNat)) else none
 | _=>none
theorem zoS {H:Hp} {p l:Addr} {o:HO} (h:upd H p o l=none):H l=none/\l≠p:=by
 by_cases e:l=p
 ·subst e; rw [zaq] at h; cases h
 ·rw [zaA e] at h; exact ⟨h,e⟩
theorem zhD (hc:X.calm=true) (hgl:Gl X "list") (hml:X.mg "list" = none) (hg:Gl X "range") (hm:X.mg "range" = none) (ha:SAB X g m [a] fl)
  (hs:starEach [a] X.env=(false,eval a X.env)::starEach [] X.env:=by rfl)
  (hs2:starEach [.Call (.Name "range" p2) [a] [] pos2] X.env=(false,eval (.Call (.Name "range" p2) [a] [] pos2) X.env)::starEach [] X.env:=by rfl) :
  SO X g m (.Call (.Name "list" p) [.Call (.Name "range" p2) [a] [] pos2] [] pos) (fC fl zjg):=by
 refine PE.imp (zcx (zhT hc) hgl hml rfl (zcy (zcx zmT hg hm boot_range ha (by decide) (by decide) hs rfl) zeQ hs2) (by decide) (by decide) hs2 rfl) fun σ H Q ⟨r,G,si,q⟩=>⟨r,G,si,zag (zai q) fun ds q1 vs G1 H1 w1 rs=>?_⟩
 obtain ⟨d,e,q2⟩:=zaJ q1
 unfold zjg at e
 split at e
 ·split at e
  ·rename_i j hj
   cases e
   cases rs with
   | cons r1 t=>
    cases t
    refine ⟨j,by rw [r1.int w1.ok],fun p hp=>⟨p,0,j,rfl,zaq,⟨by decide,by decide,hj.1,hj.2.1⟩,by simpa using hj.2.2,fun l hl=>?_⟩⟩
    obtain ⟨hl1,hl2⟩:=zoS hl
    have w2:=Grow.new w1.ok hp (.rng 0 j)
    have w3:=Grow.new w2.ok hl (.lst (rngV 0 (j - 0).toNat))
    refine q2 l G1 _ (w1.trans (w2.trans w3)) (w1.back hl1) ⟨w1.ok.isN hl1,.lst zaq ?_⟩
    rw [show j - 0=j by omega]
    exact zqY 0 _
  ·cases e
 ·cases e
end
end DL
end
section
namespace DL
open PySem PySem.Spec PyProof.Rows L2
noncomputable def MtD (K:PySem.W.Frag) (r:V->List V->Hp->VK->Prop) (k:D->List D->Option D):Prop:=∀(G:GH) (H:Hp) (v:V) (d:D) (vs:List V) (ds:List D) (d':D) (Q:VK),GOk K G H->RB K G H v d->Paired (RB K G H) vs ds->k d ds=some d' ->
 (∀v' G' H',Grow K G H G' H'->RG K G' v' d'->Q v' H')->r v vs H Q
noncomputable def tyM (T:String):D->Bool
 | .lst _=>T == "list"
 | .tup _=>T == "tuple"
 | .dic _=>T == "dict"
 | .str _=>T == "str"
 | .int _=>T == "int"
 | _=>false
theorem zqB {K:PySem.W.Frag} {G:GH} {H:Hp} {v:V} {d:D} {T:String} (gk:GOk K G H) (h:RB K G H v d) (t:tyM T d=true):tyV K T v H:=by
 cases d with
 | lst ds=>obtain ⟨a,xs,rfl,s,r⟩:=h.lst gk; exact .inl ⟨eq_of_beq t,xs,s⟩
 | tup ds=>
  have e:T = "tuple" := eq_of_beq t
  rcases h with h | ⟨a,rfl,o⟩
  ·cases h with
   | scl s=>cases s
   | ref q=>
    cases gk _ _ q with
    | tup r s=>exact .inr (.inl ⟨e,.inr ⟨_,r⟩⟩)
   | kc k=>
    cases k with
    | tup r s z=>exact .inr (.inl ⟨e,.inl z⟩)
  ·cases o.ob
 | dic ds=>obtain ⟨a,xs,rfl,s,r⟩:=h.dic gk; exact .inr (.inr (.inl ⟨eq_of_beq t,.inl ⟨xs,s⟩⟩))
 | str x=>rw [h.str gk]; exact eq_of_beq t
 | int x=>rw [h.int gk]; exact eq_of_beq t
 | _=>cases t
noncomputable def fM (T:String) (fo:FE) (fl:Rho->Res (List D)) (k:D->List D->Option D):FE:=fun r=>(fo r).bind fun d=>if tyM T d=true then (fl r).bind fun ds=>opt (k d ds) else .stuck
section
variable {X:Cx} {g:GE} {m mb:List Md} {e a b o:Expr} {es:List Expr} {f fa fb fo:FE} {fl:Rho->Res (List D)} {pos pos' apos cpos:Pos} {ro:Bool} {x name:Str} {T id:String} {R:V->List V->Hp->VK->Prop} {k:D->List D->Option D}
theorem s_bm (pa:PlainAttrs T) (slot:Slot T name id) (hty:typeOf (.builtin id)=pure (.type "method_descriptor")) (hmt:MtR X id R) (hk:MtD X.K R k) (ho:SB X g m o fo) (ha:SAB X g m (e::es) fl)
  (hbase:attributeBase o name X.env (eval o X.env)=eval o X.env:=by rfl)
  (hfew:((backTo cpos (starEach (e::es) X.env)).all (fun x=>! x.1) && (backToKw cpos (keywordEach [] X.env)).all (fun x=>x.1.isSome) && decide ((e::es).length + ([]:List Keyword).length + (if ([]:List Keyword).isEmpty then 0 else 1) < 30))=true:=by rfl)
  (hline:(apos.endLine == cpos.line)=true:=by rfl) (hst:starEach (e::es) X.env=(false,eval e X.env)::starEach es X.env:=by rfl) (hplain:(backTo cpos (starEach es X.env)).any (·.1)=false:=by rfl) :
  SE X g m (.Call (.Attribute o name apos) (e::es) [] cpos) (fM T fo fl k):=by
 refine PE.imp (zrk pa slot hty hmt ho ha hbase hfew hline hst hplain) fun σ H Q ⟨r,G,si,q⟩=>⟨r,G,si,zag (zai q) fun d q1 v G1 H1 w1 r1=>?_⟩
 by_cases ht:tyM T d=true
 ·rw [if_pos ht] at q1
  refine ⟨zqB w1.ok r1 ht,r,G1,si.grow w1,zbd (zai q1) w1 fun ds q2 vs G2 H2 w2 rs=>?_⟩
  obtain ⟨d',e',q3⟩:=zaJ q2
  exact hk G2 H2 v d vs ds d' Q w2.ok (r1.mono w2) rs e' fun v' G' H' w' z=>q3 v' G' H' ((w1.trans w2).trans w') z
 ·rw [if_neg ht] at q1; exact q1.elim
noncomputable def zgO (x:V):List V->Option Nat
 | []=>none
 | y::xs=>if eqV y x=true then some 0 else (zgO x xs).map (· + 1)
noncomputable def zeW (x:D):List D->Option Nat
 | []=>none
 | y::xs=>if eqs y x=true then some 0 else (zeW x xs).map (· + 1)
theorem zhK (x:D):∀ds:List D,zgO (toV x) (ds.map toV)=zeW x ds
 | []=>rfl
 | y::ds=>by
  show (if eqV (toV y) (toV x)=true then some 0 else (zgO (toV x) (ds.map toV)).map (· + 1))=if eqs y x=true then some 0 else (zeW x ds).map (· + 1)
  rw [zhK x ds]; rfl
theorem zhL {x:V} {xs:List V} {us:List Value} {j:Nat} (h0:Vals xs us) (f:xs.all zdF=true) (h:zgO x xs=some j):∃hj:j < us.length,eqU x us[j]=true/\∀i (hi:i < us.length),i < j->eqU x us[i]=false:=by
 induction h0 generalizing j with
 | nil=>cases h
 | @cons y u xs us r t ih=>
  rw [List.all_cons,Bool.and_eq_true] at f
  unfold zgO at h
  by_cases hy:eqV y x=true
  ·rw [if_pos hy] at h
   cases h
   exact ⟨Nat.zero_lt_succ _,by show eqU x u=true; rw [zkh r f.1]; exact hy,fun i _ hlt=>absurd hlt (Nat.not_lt_zero _)⟩
  ·rw [if_neg hy] at h
   cases e:zgO x xs with
   | none=>rw [e] at h; cases h
   | some z=>
    rw [e] at h
    cases h
    obtain ⟨a,b,c⟩:=ih f.2 e
    refine ⟨Nat.succ_lt_succ a,b,fun i hi hlt=>?_⟩
    cases i with
    | zero=>show eqU x u=false; rw [zkh r f.1]; simpa using hy
    | succ i=>exact c i (Nat.lt_of_succ_lt_succ hi) (Nat.lt_of_succ_lt_succ hlt)
noncomputable def zlH (K:PySem.W.Frag):V->List V->Hp->VK->Prop:=fun x vs H Q=>∃p xs y j,x=.ref p/\vs=[y]/\SqL K H p xs/\zdF y=true/\xs.all zdF=true/\zgO y xs=some j/\Q (.int j) H
noncomputable def zlG (K:PySem.W.Frag):V->List V->Hp->VK->Prop:=fun x vs H Q=>∃p xs y j,x=.ref p/\vs=[y]/\SqT K H p xs/\zdF y=true/\xs.all zdF=true/\zgO y xs=some j/\Q (.int j) H
theorem zme:MtR X "list.index" (zlH X.K):=by
 intro pins s σ H x vs v us Q I rx rv h
 obtain ⟨p,xs,y,j,rfl,rfl,hq,fy,fx,e,q⟩:=h
 cases rx
 obtain ⟨u,rfl,ru⟩:=vals1 rv
 obtain ⟨its,r,pl,hz⟩:=I.list hq
 obtain ⟨o,n,ho,hc,hd,hs⟩:=pl
 obtain ⟨a,b,c⟩:=zhL r fx e
 have hl:=r.length
 obtain ⟨ocls,odict,odata,oslots⟩:=o
 simp only at hc hd hs
 subst hc hd hs
 refine call_meets PySem.F.slot_list_index ⟨_,ho,rfl⟩ PySem.F.entry_list_index (PySem.F.args_list_index_2 _ _)
  (SeqAt.list_indexAt p its.toArray n none oslots u (eqU y) j (by simpa using a) (by rw [sizeLine_eq] at hz; omega) (by simpa using b) (fun i hi hlt=>by simpa using c i (by simpa using hi) hlt)) ⟨ho,fun w hw=>zdg ru fy r fx w (by simpa using hw),⟨.int j,H,I.tok _,⟨_,rfl⟩,q⟩⟩
theorem zdJ:MtR X "tuple.index" (zlG X.K):=by
 intro pins s σ H x vs v us Q I rx rv h
 obtain ⟨p,xs,y,j,rfl,rfl,hq,fy,fx,e,q⟩:=h
 cases rx
 obtain ⟨u,rfl,ru⟩:=vals1 rv
 obtain ⟨its,r,pl,hz⟩:=I.tuple hq
 obtain ⟨o,ho,hc,n,hs⟩:=pl
 obtain ⟨a,b,c⟩:=zhL r fx e
 have hl:=r.length
 obtain ⟨ocls,odict,odata,oslots⟩:=o
 simp only at hc hs
 subst hc hs
 refine call_meets PySem.F.slot_tuple_index ⟨_,ho,rfl⟩ PySem.F.entry_tuple_index (PySem.F.args_tuple_index_2 _ _)
  (zhm p its.toArray n odict oslots u (eqU y) j (by simpa using a) (by simpa using b) (fun i hi hlt=>by simpa using c i (by simpa using hi) hlt)) ⟨ho,fun w hw=>zdg ru fy r fx w (by simpa using hw),⟨.int j,H,I.tok _,⟨_,rfl⟩,q⟩⟩
noncomputable def zoP:D->List D->Option D
 | .lst ds,[x]=>if zbB x=true/\ds.all zbB=true then (zeW x ds).map fun j=>.int j else none
 | .tup ds,[x]=>if zbB x=true/\ds.all zbB=true then (zeW x ds).map fun j=>.int j else none
 | _,_=>none
theorem zg2 {K:PySem.W.Frag} {G:GH} {H:Hp} {ds:List D} {xs:List V} {x d':D} {v:V} (gk:GOk K G H) (rs:RGs K G xs ds) (rx:RB K G H v x) (e:(if zbB x=true/\ds.all zbB=true then (zeW x ds).map fun j=>D.int j else none)=some d') :
  ∃j:Nat,d'=.int j/\zdF v=true/\xs.all zdF=true/\zgO v xs=some j:=by
 by_cases hc:zbB x=true/\ds.all zbB=true
 ·rw [if_pos hc] at e
  obtain ⟨e1,f1⟩:=RB.flat rx gk hc.1
  obtain ⟨e3,f3⟩:=zse rs gk hc.2
  cases ef:zeW x ds with
  | none=>rw [ef] at e; cases e
  | some j=>
   rw [ef] at e
   cases e
   exact ⟨j,rfl,f1,f3,by rw [e1,e3,zhK]; exact ef⟩
 ·rw [if_neg hc] at e; cases e
noncomputable def zjn (d:D) (ds:List D):Option D:=match d with
 | .lst _=>zoP d ds
 | _=>none
noncomputable def zdN (d:D) (ds:List D):Option D:=match d with
 | .tup _=>zoP d ds
 | _=>none
theorem zmv {K:PySem.W.Frag}:MtD K (zlH K) zjn:=by
 intro G H v d vs ds d' Q gk rv rs e q
 cases d with
 | lst zs=>
  cases ds with
  | nil=>cases e
  | cons x t=>
   cases t with
   | nil=>
    cases rs with
    | cons r1 rt=>
     cases rt
     obtain ⟨a,xs,rfl,s,r⟩:=rv.lst gk
     obtain ⟨j,rfl,h1,h2,h3⟩:=zg2 gk r r1 e
     exact ⟨a,xs,_,j,rfl,rfl,s,h1,h2,h3,q _ G H (Grow.refl gk) (.scl (.int _))⟩
   | cons _ _=>cases e
 | _=>cases e
theorem zdM {K:PySem.W.Frag}:MtD K (zlG K) zdN:=by
 intro G H v d vs ds d' Q gk rv rs e q
 cases d with
 | tup zs=>
  cases ds with
  | nil=>cases e
  | cons x t=>
   cases t with
   | nil=>
    cases rs with
    | cons r1 rt=>
     cases rt
     obtain ⟨a,xs,rfl,s,r⟩:=rv.tup gk
     obtain ⟨j,rfl,h1,h2,h3⟩:=zg2 gk r r1 e
     exact ⟨a,xs,_,j,rfl,rfl,s,h1,h2,h3,q _ G H (Grow.refl gk) (.scl (.int _))⟩
   | cons _ _=>cases e
 | _=>cases e
noncomputable def zfz (xs:List V):Bool:=xs.all fun x=>match x with | .int _=>true | _=>false
theorem zjz {xs:List V} (h:zfz xs=true):xs.all zdF=true:=by
 unfold zfz at h
 rw [List.all_eq_true] at h ⊢
 intro x hx
 have:=h x hx
 cases x <;> first | rfl | exact absurd this Bool.false_ne_true
theorem zin {k:Int} {t:Tok}:∀{xs:List V} {us:List Value},Vals xs us->zfz xs=true->∀u∈us,MeetsSeq.EqGives u (.int k t) (eqU (.int k) u)
 | _,_,.nil,_=>fun u hu=>by cases hu
 | y::xs,u::us,.cons r rt,f=>fun u' hu=>by
  unfold zfz at f
  rw [List.all_cons,Bool.and_eq_true] at f
  cases y with
  | int i=>
   obtain ⟨t',rfl⟩:=r
   rcases List.mem_cons.mp hu with rfl | hu
   ·exact MeetsSeq.EqGives.int i k t' t
   ·exact zin rt f.2 u' hu
  | _=>exact absurd f.1 Bool.false_ne_true
noncomputable def zq4:V->List V->Hp->VK->Prop:=fun x vs H Q=>∃l xs k j,x=.ref l/\vs=[.int k]/\H l=some (.lst xs)/\zfz xs=true/\zgO (.int k) xs=some j/\Q .non (upd H l (.lst (xs.eraseIdx j)))
theorem zmc:MtR X "list.remove" zq4:=by
 intro pins s σ H x vs v us Q I rx rv h
 obtain ⟨l,xs,k,j,rfl,rfl,hH,hi,e,q⟩:=h
 cases rx
 obtain ⟨u,rfl,t,rfl⟩:=vals1 rv
 obtain ⟨hz,its,n,r,hl,eo⟩:=I.lstM hH
 obtain ⟨a,b,c⟩:=zhL r (zjz hi) e
 have geq:∀y,y∈its.toArray->MeetsSeq.EqGives y (.int k t) (eqU (.int k) y):=fun y hy=>zin r hi y (by simpa using hy)
 have hsz:its.toArray.size<=sizeLine:=by rw [List.size_toArray]; omega
 refine call_meets PySem.F.slot_list_remove ⟨_,eo,rfl⟩ PySem.F.entry_list_remove (PySem.F.args_list_remove_2 _ _) (MeetsSeq.list_remove l its.toArray n (.int k t) (eqU (.int k)) geq j (by simpa using a) (by simpa using b) (fun i hi hlt=>by simpa using c i (by simpa using hi) hlt) hsz) ⟨eo,?_⟩
 refine ⟨.non,_,I.lset (its':=its.eraseIdx j) hH eo ?_ ?_ ?_,rfl,q⟩
 ·apply Array.toList_inj.mp
  simp [Array.toList_eraseIdxIfInBounds]
 ·exact Vals.eraseIdx j r
 ·have:=List.length_eraseIdx_le xs j
  omega
noncomputable def isInt:D->Bool
 | .int _=>true
 | _=>false
theorem zrX {K:PySem.W.Frag} {G:GH} {H:Hp} {xs:List V} {ds:List D} (h:RGs K G xs ds) (gk:GOk K G H) (hf:ds.all isInt=true):zfz xs=true/\xs=ds.map toV:=by
 induction h with
 | nil=>exact ⟨rfl,rfl⟩
 | @cons x d xs ds r t ih=>
  rw [List.all_cons,Bool.and_eq_true] at hf
  obtain ⟨h1,h2⟩:=ih hf.2
  cases d with
  | int i=>
   have e:=r.int gk
   subst e
   refine ⟨?_,by rw [List.map_cons,<-h2]; rfl⟩
   show zfz _=true
   unfold zfz at h1 ⊢
   rw [List.all_cons,h1]; rfl
  | _=>exact absurd hf.1 Bool.false_ne_true
noncomputable def remD:D->List D->Option D
 | .lst ds,[.int k]=>if ds.all isInt=true then (zeW (.int k) ds).map fun j=>.lst (ds.eraseIdx j) else none
 | _,_=>none
theorem zqZ {K:PySem.W.Frag}:MutD K zq4 remD:=by
 intro G H a d vs ds d' Q gk ow rs e q
 unfold remD at e
 split at e
 ·split at e
  ·rename_i zs k hall
   cases ef:zeW (.int k) zs with
   | none=>rw [ef] at e; cases e
   | some j=>
    rw [ef] at e
    cases e
    cases ow.ob with
    | lst r s=>
     cases rs with
     | cons r1 t=>
      cases t
      obtain ⟨h1,h2⟩:=zrX s gk hall
      refine ⟨a,_,k,j,rfl,by rw [r1.int gk],r,h1,?_,q _ (.lst zaq (Paired.er j s))⟩
      rw [h2]
      exact (zhK (.int k) zs).trans ef
  ·cases e
 ·cases e
noncomputable def zgZ (kvs more:List (Key × D)):List (Key × D):=more.foldl (fun acc kv=>putD acc kv.1 kv.2) kvs
theorem zp3 {K:PySem.W.Frag} {G:GH} {more:List (Key × V)} {moreD:List (Key × D)} {ps:List (Key × V)} {kvs:List (Key × D)} (hm:RKs K G more moreD) (h:RKs K G ps kvs):RKs K G (zdK ps more) (zgZ kvs moreD):=by
 induction hm generalizing ps kvs with
 | nil=>exact h
 | @cons p q m md r t ih=>
  have e:p.1=q.1:=r.1
  show RKs K G (zdK (putK ps p.1 p.2) _) (zgZ (putD kvs q.1 q.2) _)
  rw [e]
  exact ih (zpx h r.2)
noncomputable def zlE:V->List V->Hp->VK->Prop:=fun x vs H Q=>∃d o kvs more,x=.ref d/\vs=[.ref o]/\d≠o/\H d=some (.dK kvs)/\Rd H o (.dK more)/\kvs.length + more.length<=sizeLine/\Q .non (upd H d (.dK (zdK kvs more)))
theorem zmb:MtR X "dict.update" zlE:=by
 intro pins s σ H x vs v us Q I rx rv h
 obtain ⟨d,o,kvs,more,rfl,rfl,hne,hd,ho,hz,q⟩:=h
 cases rx
 obtain ⟨u,rfl,ru⟩:=vals1 rv
 cases ru
 obtain ⟨z1,ns1,vs1,r1,dd1⟩:=(show za9 X.prog X.w H s.heap d (.dK kvs) from I.hok d _ hd)
 obtain ⟨z2,ns2,vs2,r2,dd2⟩:=(show za9 X.prog X.w H s.heap o (.dK more) from ho.ok I.hok)
 have l1:=Paired.length r1
 have l2:=Paired.length r2
 refine call_meetsIn PySem.F.slot_dict_update dd1.typeIs PySem.F.entry_dict_update (PySem.F.args_dict_update_2 _ _) (meets_dict_update (zbg X.prog X.w) d o hne ns2) ⟨vs1,vs2,dd1,dd2,by omega,fun h' hm1 hm2 hs=>?_⟩
 have hlen:(zdK kvs more).length<=sizeLine:=Nat.le_trans (zdh more kvs) hz
 refine ⟨.non,_,I.write (t':=s.toks) (x:=d) (e:=d) (by rw [hd]; exact trivial) (.inl rfl) (fun b u hb hu=>(hs.2 b hb).trans hu) (let ⟨ob,_,_,e,_⟩:=hm1; ⟨ob,e⟩) (show za9 X.prog X.w _ h' d (.dK (zdK kvs more)) from ⟨hlen,ns1,_,KV.merge r2 r1,hm1⟩),rfl,q⟩
noncomputable def updD:D->List D->Option D
 | .dic kvs,[.dic more]=>if kvs.length + more.length<=sizeLine then some (.dic (zgZ kvs more)) else none
 | _,_=>none
theorem zqy {K:PySem.W.Frag}:MutD K zlE updD:=by
 intro G H a d vs ds d' Q gk ow rs e q
 unfold updD at e
 split at e
 ·split at e
  ·rename_i kvs more hl
   cases e
   cases ow.ob with
   | dic r s=>
    cases rs with
    | cons r1 t=>
     cases t
     have hb:∃b ps,_=V.ref b/\Rd H b (.dK ps)/\RKs K G ps more:=r1.dic gk
     obtain ⟨b,ps,rfl,hb,rb⟩:=hb
     have hab:a≠b:=by
      rintro rfl
      cases r1 with
      | scl s=>cases s
      | ref z=>rw [ow.un] at z; cases z
      | kc k=>cases k
     have l1:=Paired.length s
     have l2:=Paired.length rb
     exact ⟨a,b,_,ps,rfl,rfl,hab,r,hb,by omega,q _ (.dic zaq (zp3 rb s))⟩
  ·cases e
 ·cases e
noncomputable def zsU:V->List V->Hp->VK->Prop:=fun x vs H Q=>∃d kvs,x=.ref d/\vs=[]/\Rd H d (.dK kvs)/\∀p,H p=none->Q (.ref p) (upd H p (.ext fun h=>h.IsValuesView p d))
theorem zma:MtR X "dict.values" zsU:=by
 intro pins s σ H x vs v us Q I rx rv h
 obtain ⟨d,kvs,rfl,rfl,hd,q⟩:=h
 cases rx
 cases rv
 obtain ⟨z1,ns1,vs1,r1,dd1⟩:=(show za9 X.prog X.w H s.heap d (.dK kvs) from hd.ok I.hok)
 refine call_meetsIn PySem.F.slot_dict_values dd1.typeIs PySem.F.entry_dict_values (PySem.F.args_dict_values_1 _) (meets_dict_values (zbg X.prog X.w) d ns1) ⟨⟨vs1,dd1⟩,?_⟩
 refine ⟨.ref s.heap.objs.size,_,I.laid (t':=s.toks) (o:=.ext fun h=>h.IsValuesView s.heap.objs.size d) (fun b ob e=>Heap.get?_push_of_some _ e) (Nat.le_refl _) ?_,rfl,q _ (I.hok.fresh (Nat.le_refl _))⟩
 refine ⟨⟨_,Heap.get?_push_size _ rfl,rfl,rfl⟩,⟨_,Heap.get?_push_size _ rfl⟩,fun h1 h2 hv hk=>?_⟩
 obtain ⟨ob,e,c⟩:=hv
 exact ⟨ob,hk ob e,c⟩
theorem zgP (hc:X.calm=true):zcK X (.type "list") (fun xs H Q=>∃p d kvs,xs=[.ref p]/\H p=some (.ext fun h=>h.IsValuesView p d)/\Rd H d (.dK kvs)/\∀l,H l=none->Q (.ref l) (upd H l (.lst (kvs.map (·.2))))):=by
 intro pins s σ H xs us Q I r h
 obtain ⟨p,d,kvs,rfl,hp,hd,q⟩:=h
 obtain ⟨u,rfl,rx⟩:=vals1 r
 cases rx
 obtain ⟨hv,_,_⟩:=(show za9 X.prog X.w H s.heap p (.ext fun h=>h.IsValuesView p d) from I.hok p _ hp)
 obtain ⟨z1,ns1,vs1,r1,dd1⟩:=(show za9 X.prog X.w H s.heap d (.dK kvs) from hd.ok I.hok)
 obtain ⟨ep,hat⟩:=dd1.dictAt
 have l1:=Paired.length r1
 refine PySem.W.kdl_call (PySem.W.kdl_values (knd:=zbg X.prog X.w) (kvs:=vs1) (ep:=ep)) (I.ok.hd hc) ⟨hv,hat⟩ (by omega) fun h' tk acc c' kp hS hacc=>?_
 have hvals:Vals (kvs.map (·.2)) acc.toList:=by
  refine zdd (by have h1:=hacc.1; have h2:acc.toList.length=acc.size:=Array.length_toList; rw [List.length_map]; omega) fun j v u e1 e2=>?_
  obtain ⟨k,hk⟩:=hacc.2 j u (by rw [<-Array.getElem?_toList]; exact e2)
  rw [List.getElem?_map] at e1
  cases e3:kvs[j]? with
  | none=>rw [e3] at e1; cases e1
  | some kv=>
   rw [e3] at e1
   cases e1
   obtain ⟨kv',e4,e5⟩:=Paired.get r1 hk
   rw [e3] at e4
   cases e4
   exact e5.2
 refine ⟨.ref s.heap.objs.size,_,I.laid (t':=tk) kp (Nat.le_refl _) (show za9 X.prog X.w _ h' _ (.lst (kvs.map (·.2))) from ⟨by rw [List.length_map]; exact z1,acc.toList,c',hvals,by rw [Array.toArray_toList]; exact hS⟩),rfl,q _ (I.hok.fresh (Nat.le_refl _))⟩
noncomputable def zo2:D->Option D
 | .dic kvs=>some (.lst (kvs.map (·.2)))
 | _=>none
theorem zor {K:PySem.W.Frag} {G:GH}:∀{ps:List (Key × V)} {kvs:List (Key × D)},RKs K G ps kvs->RGs K G (ps.map (·.2)) (kvs.map (·.2))
 | _,_,.nil=>.nil
 | _,_,.cons r t=>.cons r.2 (zor t)
theorem zoN (hc:X.calm=true) (hg:Gl X "list") (hm:X.mg "list" = none) (ho:SB X g m o fo) (hbase:attributeBase o "values" X.env (eval o X.env)=eval o X.env:=by rfl) (hline:(apos.endLine == cpos.line)=true:=by rfl)
  (hs2:starEach [.Call (.Attribute o "values" apos) [] [] cpos] X.env=(false,eval (.Call (.Attribute o "values" apos) [] [] cpos) X.env)::starEach [] X.env:=by rfl) :
  SO X g m (.Call (.Name "list" pos') [.Call (.Attribute o "values" apos) [] [] cpos] [] pos) (f1 fo zo2):=by
 refine PE.imp (zcx (zgP hc) hg hm rfl (zcy (zrj PySem.F.plainAttrs_dict PySem.F.slot_dict_values PySem.F.type_dict_values zma ho hbase hline) zeQ hs2) (by decide) (by decide) hs2 rfl) fun σ H Q ⟨r,G,si,q⟩=>⟨r,G,si,zag (zai q) fun d q1 v G1 H1 w1 r1=>?_⟩
 obtain ⟨d',e,q2⟩:=zaJ q1
 cases d with
 | dic kvs=>
  cases e
  obtain ⟨a,ps,rfl,hs,rs⟩:=r1.dic w1.ok
  refine ⟨.inr (.inr (.inl ⟨rfl,.inl ⟨ps,hs⟩⟩)),a,ps,rfl,rfl,hs,fun p hp=>⟨p,a,ps,rfl,zaq,?_,fun l hl=>?_⟩⟩
  ·exact Rd.mono hs fun a o e=>zle hp _ _ e
  ·obtain ⟨hl1,hl2⟩:=zoS hl
   have w2:=Grow.new w1.ok hp (.ext fun h=>h.IsValuesView p a)
   have w3:=Grow.new w2.ok hl (.lst (ps.map (·.2)))
   exact q2 l G1 _ (w1.trans (w2.trans w3)) (w1.back hl1) ⟨w1.ok.isN hl1,.lst zaq (zor rs)⟩
 | _=>cases e
end
end DL
end
section
namespace DL
open PySem PySem.Spec PyProof.Rows L2
noncomputable def enuD:Nat->List D->List D
 | _,[]=>[]
 | i,d::ds=>.tup [.int i,d]::enuD (i + 1) ds
theorem zeZ:∀(i:Nat) (ds:List D),(enuD i ds).length=ds.length
 | _,[]=>rfl
 | i,d::ds=>congrArg (· + 1) (zeZ (i + 1) ds)
theorem zhR:∀(i j:Nat) (ds:List D),(enuD i ds)[j]? = (ds[j]?).map fun d=>D.tup [.int ((i + j:Nat):Int),d]
 | _,_,[]=>by simp [enuD]
 | i,0,d::ds=>by simp [enuD]
 | i,j + 1,d::ds=>by
  show (enuD (i + 1) ds)[j]? = _
  rw [zhR (i + 1) j ds]
  simp only [List.getElem?_cons_succ]
  rw [show i + 1 + j=i + (j + 1) by omega]
theorem zlc {K:PySem.W.Frag} {ds:List D} {G0:GH} {sq:Hp->List V->Prop} (h:∀G H,Gle G0 G->GOk K G H->∃xs,sq H xs/\RGs K G xs ds):Yields K (Ien sq) (enuD 0 ds) G0:=by
 refine ⟨fun G H i w gk hi=>?_,fun G H i x H' d w gk y e=>?_,fun G H w gk=>?_⟩
 ·obtain ⟨xs,s,r⟩:=h G H w gk
  rw [zeZ] at hi
  have hl:=Paired.length r
  exact ⟨xs,xs[i],s,List.getElem?_eq_getElem (by omega)⟩
 ·obtain ⟨xs,s,r⟩:=h G H w gk
  obtain ⟨p,v,hp,rfl,rfl,hv⟩:=y
  rw [zhR] at e
  cases ed:ds[i]? with
  | none=>rw [ed] at e; cases e
  | some d0=>
   rw [ed] at e
   simp only [Option.map_some,Option.some.injEq,Nat.zero_add] at e
   subst e
   obtain ⟨v',e1,rv⟩:=Paired.get r ed
   have:=hv xs s
   rw [e1] at this; cases this
   exact ⟨_,Grow.newF gk hp (.tup (.inl zaq) (.cons (.scl (.int _)) (.cons rv .nil))),.ref zaL⟩
 ·obtain ⟨xs,s,r⟩:=h G H w gk
  rw [zeZ]
  exact ⟨xs,s,Paired.length r⟩
noncomputable def fEnu (f:FE):FI:=fun r=>(f r).bind fun d=>(opt (zaU d)).bind fun ds=>.ok (enuD 0 ds)
section
variable {X:Cx} {g:GE} {m:List Md} {e a:Expr} {f:FE} {pos p pos2:Pos} {elts:List Expr} {kk:Nat}
theorem zlS {te:TE} (hg:Gl X "enumerate") (hm:X.mg "enumerate" = none) (he:PE X e te) (hs:starEach [e] X.env=(false,eval e X.env)::starEach [] X.env:=by rfl):PI X (.Tuple elts kk pos2) (.Call (.Name "enumerate" p) [e] [] pos) (fun σ H R=>te σ H fun x H1=>
   (∃a,x=.ref a/\(∃xs,SqL X.K H1 a xs)/\R (Ien fun H xs=>SqL X.K H a xs) H1)\/∃a,x=.ref a/\(∃xs,SqT X.K H1 a xs)/\R (Ien fun H xs=>SqT X.K H a xs) H1):=by
 intro pins s σ H R I h
 refine Call_ (zir I hg hm boot_enumerate (PyProof.Rows.callWith_type1 (thn (zcy he zeQ hs pos pins s σ H (fun vs H1=>match vs with
  | [x]=>(∃a,x=.ref a/\(∃xs,SqL X.K H1 a xs)/\R (Ien fun H xs=>SqL X.K H a xs) H1)\/∃a,x=.ref a/\(∃xs,SqT X.K H1 a xs)/\R (Ien fun H xs=>SqT X.K H a xs) H1
  | _=>False) I h) fun us s1 ⟨vs,H1,I1,r1,q1⟩=>?_) hs rfl))
 ·cases r1 with
  | nil=>exact q1.elim
  | @cons x u xs us rx rt=>
  cases rt with
  | cons _ _=>exact q1.elim
  | nil=>
  have fin:∀{h':Heap},h'.objs.size=s1.heap.objs.size + 2->(∀b o,s1.heap.get? b=some o->h'.get? b=some o)->∀b∈[s1.heap.objs.size + 1,s1.heap.objs.size],FpOk X pins H1 b:=fun hz kp b hb=>by
   have hge:s1.heap.objs.size<=b:=by
    rcases List.mem_cons.mp hb with rfl | hb
    ·exact Nat.le_succ _
    ·rw [List.mem_singleton.mp hb]; exact Nat.le_refl _
   exact I1.fpOk hge (I1.hok.fresh hge)
  rcases q1 with ⟨a,rfl,⟨xs,hq⟩,q⟩ | ⟨a,rfl,⟨xs,hq⟩,q⟩
  ·cases rx
   obtain ⟨its,rv,pl,hz⟩:=I1.list hq
   refine call_enumerate_list pl.isList fun h' he hi hsz kp=>wpAny_pyIter_enum he ?_
   exact ⟨_,[s1.heap.objs.size + 1,s1.heap.objs.size],_,_,H1,rfl,I1.kept (t':=s1.toks) kp,zks a _ _ (Nat.ne_of_gt (Nat.lt_succ_self _)),⟨⟨_,he⟩,hi⟩,fin hsz kp,q⟩
  ·cases rx
   obtain ⟨its,rv,pl,hz⟩:=I1.tuple hq
   refine zgq (show s1.heap.IsTuple a its.toArray from pl) fun h' he hi hsz kp=>wpAny_pyIter_enum he ?_
   exact ⟨_,[s1.heap.objs.size + 1,s1.heap.objs.size],_,_,H1,rfl,I1.kept (t':=s1.toks) kp,zkr a _ _ (Nat.ne_of_gt (Nat.lt_succ_self _)),⟨⟨_,he⟩,hi⟩,fin hsz kp,q⟩
theorem zr2 (hg:Gl X "enumerate") (hm:X.mg "enumerate" = none) (he:SE X g m e f) (hs:starEach [e] X.env=(false,eval e X.env)::starEach [] X.env:=by rfl):SIt X g m (.Tuple elts kk pos2) (.Call (.Name "enumerate" p) [e] [] pos) (fEnu f):=by
 refine PI.imp (zlS hg hm he hs) fun σ H R ⟨r,G,si,q⟩=>⟨r,G,si,zag (zai q) fun d q v G' H' w rv=>?_⟩
 obtain ⟨ds,e,q⟩:=zaJ (zai q)
 cases d with
 | lst ds'=>
  cases e
  obtain ⟨a,xs,rfl,s,rs⟩:=rv.lst w.ok
  refine .inl ⟨a,rfl,⟨xs,s⟩,q _ G' H' w (zlc fun G H le gk=>?_)⟩
  obtain ⟨b,ys,e,s',r'⟩:=(rv.mono le).lst gk
  cases e
  exact ⟨ys,s',r'⟩
 | tup ds'=>
  cases e
  obtain ⟨a,xs,rfl,s,rs⟩:=rv.tup w.ok
  refine .inr ⟨a,rfl,⟨xs,s⟩,q _ G' H' w (zlc fun G H le gk=>?_)⟩
  obtain ⟨b,ys,e,s',r'⟩:=(rv.mono le).tup gk
  cases e
  exact ⟨ys,s',r'⟩
 | _=>cases e
end
end DL
end
section
namespace DL
open PySem PySem.Spec PyProof.Rows L2
theorem zmi:∀a b:List Int,HT.lexLt a b=lexI a b
 | [],[]=>rfl
 | [],_::_=>rfl
 | _::_,[]=>rfl
 | x::xs,y::ys=>by rw [HT.lexLt_cons,lexI,zmi xs ys]
inductive TupI (h:Heap):Value->List Int->Prop where
 | mk {a:Addr} {items:Array Value} {ns:List Int}:IsTup h a items->IntsAre items.toList ns->TupI h (.ref a) ns
theorem zjy:∀(xs ys:List Int),((List.range (min xs.length ys.length)).all (fun j=>decide (xs.getD j 0=ys.getD j 0)) && xs.length == ys.length)=decide (xs=ys):=by
 intro xs ys
 rw [Bool.eq_iff_iff,Bool.and_eq_true,List.all_eq_true,beq_iff_eq,decide_eq_true_iff]
 constructor
 ·rintro ⟨h1,h2⟩
  refine List.ext_getElem h2 fun i a b=>?_
  have:=h1 i (List.mem_range.mpr (by omega))
  simp only [decide_eq_true_eq] at this
  simpa [List.getD_eq_getElem?_getD,a,b] using this
 ·rintro rfl
  exact ⟨fun i _=>by simp,rfl⟩
theorem zo5 {A:Around} {s:Shared} {p q:Value} {k l:List Int} (hp:TupI s.heap p k) (hq:TupI s.heap q l) (hu:A.units < cLine):SeqAt.EqAt A s p q (decide (k=l)):=by
 cases hp with
 | @mk a ia _ ha ia'=>
  cases hq with
  | @mk b ib _ hb ib'=>
   by_cases e:a=b
   ·subst e
    obtain ⟨o,h1,h2,n,h3⟩:=ha
    obtain ⟨o',h1',h2',n',h3'⟩:=hb
    rw [h1] at h1'; cases h1'
    rw [h3] at h3'; cases h3'
    have:k=l:=by
     have z1:=ia'
     have z2:=ib'
     exact (IntsAre.nums z1).symm.trans (IntsAre.nums z2)
    subst this
    rw [decide_eq_true rfl]
    exact SeqAt.EqAt.same _
   ·have l1:=ia'.length
    have l2:=ib'.length
    rw [Array.length_toList] at l1 l2
    have key:=SeqAt.RcAt.tuples (A:=A) (s:=s) (e:=fun j=>decide (k.getD j 0=l.getD j 0)) (show s.heap.IsTuple a ia from ha) (show s.heap.IsTuple b ib from hb) hu (fun j h1 h2=>by
     obtain ⟨t,e1⟩:=IntsAre.int_at ia' j ia[j] (by rw [Array.getElem?_toList]; simp [h1])
     obtain ⟨t',e2⟩:=IntsAre.int_at ib' j ib[j] (by rw [Array.getElem?_toList]; simp [h2])
     rw [e1,e2]
     have:=SeqAt.EqAt.int_int (A:=A.in1) (s:=s) (k.getD j 0) t (l.getD j 0) t'
     have e:(k.getD j 0 == l.getD j 0)=decide (k.getD j 0=l.getD j 0):=by rw [Bool.eq_iff_iff]; simp
     rw [e] at this
     exact this)
    rw [l1,l2,zjy] at key
    exact SeqAt.EqAt.of_refs e key
inductive TupsI (h:Heap):List Value->List (List Int)->Prop where
 | nil:TupsI h [] []
 | cons {p:Value} {k:List Int} {ps:List Value} {ks:List (List Int)}:TupI h p k->TupsI h ps ks->TupsI h (p::ps) (k::ks)
theorem TupsI.length {h:Heap}:∀{ps:List Value} {ks:List (List Int)},TupsI h ps ks->ps.length=ks.length
 | _,_,.nil=>rfl
 | _,_,.cons _ t=>congrArg (· + 1) t.length
section
variable {prog:Program} {w:World} {A:Around} {s:Shared}
theorem zrF {fin:Bool} {Q:Bool->Shared->Prop} (hu:A.units < cLine) {ps qs:List Value} {ks ls:List (List Int)} {i:Nat} (h1:TupsI s.heap ps ks) (h2:TupsI s.heap qs ls) (h:Q (lexZ fin ks ls) s):PySem.W.KatLex prog w A false fin Q (ps.zip qs) i s:=by
 induction h1 generalizing qs ls i with
 | nil=>cases h2 <;> exact PySem.W.kat_nil h
 | @cons p k ps ks hp tp ih=>
  cases h2 with
  | nil=>exact PySem.W.kat_nil h
  | @cons q l qs ls hq tq=>
   refine PySem.W.kat_cons (zo5 hp hq hu prog w _ _ ?_)
   by_cases e:k=l
   ·rw [decide_eq_true e]
    have h':Q (lexZ fin ks ls) s:=by unfold lexZ at h; rw [if_pos e] at h; exact h
    exact PySem.W.kat_yes (ih tq h')
   ·rw [decide_eq_false e]
    have h':Q (lexI k l) s:=by unfold lexZ at h; rw [if_neg e] at h; exact h
    refine PySem.W.kat_no ?_
    rw [Bool.false_and]
    refine PySem.W.kat_one _ _ ?_
    cases hp with
    | mk ha ia=>cases hq with
     | mk hb ib=>
      refine HT.lt_tupInts ha hb ia ib hu ?_
      rw [zmi]
      exact h'
inductive TupR (h:Heap):Value->List (List Int)->Prop where
 | mk {a:Addr} {items:List Value} {ks:List (List Int)}:IsTup h a items.toArray->TupsI h items ks->ks≠[]->TupR h (.ref a) ks
theorem zpq {p q:Value} {ks ls:List (List Int)} {Q:Bool->Shared->Prop} {E:Value->Shared->Prop} (hp:TupR s.heap p ks) (hq:TupR s.heap q ls) (hu:A.units < cLine) (h:Q (lexR ks ls) s):wpAny (model prog w) A (keyLt' (tuples' false) p q) Q E s:=by
 cases hp with
 | @mk _ items _ ha ta hna=>cases hq with
  | @mk _ items_1 _ hb tb hnb=>
   obtain ⟨o,h1,h2,n,h3⟩:=ha
   obtain ⟨o',h1',h2',n',h3'⟩:=hb
   refine PySem.W.kat_lt h1 h3 h1' h3' ?_
   have e:decide (items.toArray.size < items_1.toArray.size)=decide (ks.length < ls.length):=by rw [List.size_toArray,List.size_toArray,ta.length,tb.length]
   rw [e]
   exact zrF hu (by simpa using ta) (by simpa using tb) h
end
end DL
end
section
namespace DL
open PySem PySem.Spec PyProof.Rows L2
noncomputable def zcA (ns:List Int):List Int:=ns.foldl step_dedup []
theorem zjr (ns:List Int):firstMet (fun i=>ns.getD i 0) ns.length=zcA ns:=by
 unfold firstMet zcA
 congr 1
 refine List.ext_getElem (by simp) fun i h1 h2=>?_
 simp [List.getD_eq_getElem?_getD,h2]
noncomputable def zbX:List D->Option (List Int)
 | []=>some []
 | .int i::ds=>(zbX ds).map (i::·)
 | _=>none
theorem zfP {K:PySem.W.Frag} {G:GH} {H:Hp} (gk:GOk K G H) {ds:List D} {xs:List V} {ns:List Int} (h:RGs K G xs ds) (e:zbX ds=some ns):xs=ns.map V.int:=by
 induction h generalizing ns with
 | nil=>cases e; rfl
 | @cons x d xs ds r t ih=>
  cases d with
  | int i=>
   have e':(zbX ds).map (i::·)=some ns:=e
   cases q:zbX ds with
   | none=>rw [q] at e'; cases e'
   | some ms=>
    rw [q] at e'
    cases e'
    rw [r.int gk,ih q]; rfl
  | _=>cases e
section
variable {X:Cx} {g:GE} {m:List Md} {e a:Expr} {f:FE} {pos p pos2 p2:Pos}
theorem zmS (hc:X.calm=true):zcK X (.type "set") (fun xs H Q=>∃p ns,xs=[.ref p]/\(SqL X.K H p (ns.map V.int)\/SqT X.K H p (ns.map V.int))/\ns.length + 1 < scanBound/\∀l,H l=none->Q (.ref l) (upd H l (.set (fun k=>(zcA ns).any (· == k)) (zcA ns).length))):=by
 intro pins s σ H xs us Q I r h
 obtain ⟨p,ns,rfl,hq,hb,q⟩:=h
 obtain ⟨u,rfl,rx⟩:=vals1 r
 cases rx
 have fin:∀(its:List Value) (h':Heap) (tk:Nat),its.length=ns.length->h'.SetOf (intKind X.prog X.w) s.heap.objs.size (fun k=>(firstMet (fun i=>ns.getD i 0) its.toArray.size).any (· == k)) (firstMet (fun i=>ns.getD i 0) its.toArray.size).length ->
   (∀b o,b < s.heap.objs.size->s.heap.get? b=some o->h'.get? b=some o)->EP X pins σ Q (.ref s.heap.objs.size) { s with heap:=h',toks:=tk }:=fun its h' tk hl hS kp=>by
  rw [show its.toArray.size=ns.length by rw [List.size_toArray]; exact hl,zjr] at hS
  exact ⟨.ref s.heap.objs.size,_,I.laid (t':=tk) (fun b o e=>kp b o (Heap.lt_size e) e) (Nat.le_refl _) (show za9 X.prog X.w _ h' _ (.set _ _) from hS),rfl,q _ (I.hok.fresh (Nat.le_refl _))⟩
 rcases hq with hq | hq
 ·obtain ⟨its,r',pl,hz⟩:=I.list hq
  have hl:=r'.length
  rw [List.length_map] at hl
  exact call_set_list (I.ok.hd hc) pl.isList (by simpa using zfg r') (by rw [List.size_toArray]; omega) fun h' tk hS kp=>fin its h' tk hl.symm hS kp
 ·obtain ⟨its,r',pl,hz⟩:=I.tuple hq
  have hl:=r'.length
  rw [List.length_map] at hl
  exact ziF (I.ok.hd hc) (show s.heap.IsTuple p its.toArray from pl) (by simpa using zfg r') (by rw [List.size_toArray]; omega) fun h' tk he=>fin its h' tk hl.symm he.1 he.2
theorem zmW:zcK X (.builtin "len") (fun xs H Q=>∃p S n,xs=[.ref p]/\H p=some (.set S n)/\Q (.int n) H):=by
 intro pins s σ H xs us Q I r h
 obtain ⟨p,S,n,rfl,hp,q⟩:=h
 obtain ⟨u,rfl,rx⟩:=vals1 r
 cases rx
 obtain ⟨o,es,ep,t,ho,hex,hd,_,_,hb,hf,hn⟩:=(show za9 X.prog X.w H s.heap p (.set S n) from I.hok p _ hp)
 refine call_len_set ho hex hd hf ?_ ⟨.int n,H,I.tok _,⟨_,by rw [hn]⟩,q⟩
 have h4:(es.size:Int) < 4096:=by unfold scanBound at hb; omega
 exact Int.lt_of_lt_of_le h4 (by decide)
noncomputable def zpf:D->Option D
 | .lst ds=>(zbX ds).bind fun ns=>if ns.length + 1 < scanBound then some (.int (zcA ns).length) else none
 | .tup ds=>(zbX ds).bind fun ns=>if ns.length + 1 < scanBound then some (.int (zcA ns).length) else none
 | _=>none
theorem znm (hc:X.calm=true) (hg:Gl X "len") (hm:X.mg "len" = none) (hgs:Gl X "set") (hms:X.mg "set" = none) (ha:SB X g m a f)
  (hs:starEach [a] X.env=(false,eval a X.env)::starEach [] X.env:=by rfl)
  (hs2:starEach [.Call (.Name "set" p2) [a] [] pos2] X.env=(false,eval (.Call (.Name "set" p2) [a] [] pos2) X.env)::starEach [] X.env:=by rfl) :
  SE X g m (.Call (.Name "len" p) [.Call (.Name "set" p2) [a] [] pos2] [] pos) (f1 f zpf):=by
 refine PE.imp (zcT zmW hg hm PySem.boot_len (zcy (zcx (zmS hc) hgs hms (by first | exact PyProof.Rows.boot_set | rfl) (zcy ha zeQ hs) (by decide) (by decide) hs rfl) zeQ hs2) (by decide) (by decide) hs2 rfl) fun σ H Q ⟨r,G,si,q⟩=>⟨r,G,si,zag (zai q) fun d q1 v G1 H1 w1 r1=>?_⟩
 obtain ⟨d',e,q2⟩:=zaJ q1
 have core:∀{ds:List D} {xs:List V} {b:Addr},RGs X.K G1 xs ds->v=.ref b->(SqL X.K H1 b xs\/SqT X.K H1 b xs)->(zbX ds).bind (fun ns=>if ns.length + 1 < scanBound then some (D.int (zcA ns).length) else none)=some d' ->
   ∃p ns,[v]=[V.ref p]/\(SqL X.K H1 p (ns.map V.int)\/SqT X.K H1 p (ns.map V.int))/\ns.length + 1 < scanBound/\∀l,H1 l=none->∃p S n,[V.ref l]=[V.ref p]/\upd H1 l (.set (fun k=>(zcA ns).any (· == k)) (zcA ns).length) p=some (.set S n)/\Q (.int n) (upd H1 l (.set (fun k=>(zcA ns).any (· == k)) (zcA ns).length)):=fun {ds xs b} rs ev hs he=>by
  cases ea:zbX ds with
  | none=>rw [ea] at he; cases he
  | some ns=>
   rw [ea] at he
   have he':(if ns.length + 1 < scanBound then some (D.int (zcA ns).length) else none)=some d':=he
   by_cases hl:ns.length + 1 < scanBound
   ·rw [if_pos hl] at he'
    cases he'
    have ex:=zfP w1.ok rs ea
    subst ex
    exact ⟨b,ns,by rw [ev],hs,hl,fun l hl'=>⟨l,_,_,rfl,zaq,q2 _ G1 _ (w1.trans (Grow.new w1.ok hl' _)) (.scl (.int _))⟩⟩
   ·rw [if_neg hl] at he'; cases he'
 cases d with
 | lst ds=>obtain ⟨b,xs,ev,hs,rs⟩:=r1.lst w1.ok; exact core rs ev (.inl hs) e
 | tup ds=>obtain ⟨b,xs,ev,hs,rs⟩:=r1.tup w1.ok; exact core rs ev (.inr hs) e
 | _=>cases e
end
end DL
end
section
namespace DL
open PySem PySem.Spec PyProof.Rows L2
noncomputable def TI2 (K:PySem.W.Frag) (H:Hp) (x:V) (k:List Int):Prop:=∃b,x=.ref b/\SqT K H b (k.map V.int)
noncomputable def TR2 (K:PySem.W.Frag) (H:Hp) (x:V) (ks:List (List Int)):Prop:=∃b xs,x=.ref b/\SqT K H b xs/\Paired (TI2 K H) xs ks/\ks≠[]
noncomputable def zh3 {α:Type} (d:α) (ys:List α) (kss:List (List (List Int))):List α:=(zgF ys.length fun i j=>lexR (kss.getD i []) (kss.getD j [])).map fun i=>ys.getD i d
theorem za9.isS {P:Program} {w:World} {H:Hp} {h:Heap} {a:Addr} {o:HO} (x:za9 P w H h a o):h.get? a≠none:=by
 have s:∀{u:Obj},h.get? a=some u->h.get? a≠none:=fun e z=>by rw [z] at e; cases e
 cases o with
 | lst xs=>obtain ⟨_,_,_,_,e⟩:=x; exact s e
 | tup xs=>obtain ⟨_,_,_,⟨_,e,_⟩,_⟩:=x; exact s e
 | dK kvs=>obtain ⟨_,_,_,_,o,_,_,e,_⟩:=x; exact s e
 | dT kvs=>obtain ⟨_,_,_,_,o,_,_,e,_⟩:=x; exact s e
 | set S n=>obtain ⟨o,_,_,_,e,_⟩:=x; exact s e
 | ins C dx fs=>obtain ⟨_,_,_,e,_⟩:=x; exact s e
 | own y=>obtain ⟨_,e⟩:=x; exact s e
 | xd fs=>obtain ⟨_,⟨_,_,_,e,_⟩,_⟩:=x; exact s e
 | rng lo hi=>obtain ⟨_,_,_,e⟩:=x; exact s e
 | frz ob u=>obtain ⟨e,_⟩:=x; exact s e
 | tbl ps=>exact s (show h.get? a=some _ from x)
 | met f y=>exact s (show h.get? a=some _ from x)
 | ext φ=>obtain ⟨_,⟨_,e⟩,_⟩:=x; exact s e
section
variable {X:Cx} {pins:List (Addr × Obj)} {σ:L2.St} {H:Hp} {s:Shared}
theorem TupI.stay {h h':Heap} {L:Addr} {mm:Str->Option Value} (hL:h.Ns L mm) (k:∀b o,b≠L->h.get? b=some o->h'.get? b=some o) {p:Value} {ns:List Int} (x:TupI h p ns):TupI h' p ns:=by
 cases x with
 | mk ht hi=>
  obtain ⟨o,h1,h2,n,h3⟩:=ht
  refine .mk ⟨o,k _ _ ?_ h1,h2,n,h3⟩ hi
  rintro rfl
  obtain ⟨o',es,ep,e,d,_⟩:=hL
  rw [h1] at e; cases e
  rw [h3] at d; cases d
theorem TupsI.stay {h h':Heap} {L:Addr} {mm:Str->Option Value} (hL:h.Ns L mm) (k:∀b o,b≠L->h.get? b=some o->h'.get? b=some o):∀{ps:List Value} {ks:List (List Int)},TupsI h ps ks->TupsI h' ps ks
 | _,_,.nil=>.nil
 | _,_,.cons x t=>.cons (x.stay hL k) (t.stay hL k)
theorem TupR.stay {h h':Heap} {L:Addr} {mm:Str->Option Value} (hL:h.Ns L mm) (k:∀b o,b≠L->h.get? b=some o->h'.get? b=some o) {p:Value} {ks:List (List Int)} (x:TupR h p ks):TupR h' p ks:=by
 cases x with
 | mk ht hi hn=>
  obtain ⟨o,h1,h2,n,h3⟩:=ht
  refine .mk ⟨o,k _ _ ?_ h1,h2,n,h3⟩ (hi.stay hL k) hn
  rintro rfl
  obtain ⟨o',es,ep,e,d,_⟩:=hL
  rw [h1] at e; cases e
  rw [h3] at d; cases d
theorem zo4 (I:Inv X pins σ H s) {x:V} {k:List Int} {u:Value} (h:TI2 X.K H x k) (r:L2.RelV x u):TupI s.heap u k:=by
 obtain ⟨b,rfl,hq⟩:=h
 cases r
 obtain ⟨its,rv,pl,_⟩:=I.tuple hq
 exact .mk pl (by simpa using zfg rv)
theorem znh (I:Inv X pins σ H s) {xs:List V} {ks:List (List Int)} {us:List Value} (h:Paired (TI2 X.K H) xs ks) (v:Vals xs us):TupsI s.heap us ks:=by
 induction h generalizing us with
 | nil=>cases v; exact .nil
 | cons h _ ih=>
  cases v with
  | cons r q=>exact .cons (zo4 I h r) (ih q)
theorem zo3 (I:Inv X pins σ H s) {x:V} {ks:List (List Int)} {u:Value} (h:TR2 X.K H x ks) (r:L2.RelV x u):TupR s.heap u ks:=by
 obtain ⟨b,xs,rfl,hq,hp,hn⟩:=h
 cases r
 obtain ⟨its,rv,pl,_⟩:=I.tuple hq
 exact .mk pl (znh I hp rv) hn
theorem zhX {ys:List V} {us:List Value} (r:Vals ys us):∀(ix:List Nat),(∀i∈ix,i < ys.length)->Vals (ix.map fun i=>ys.getD i .non) (ix.map fun i=>us.getD i Value.none)
 | [],_=>.nil
 | i::ix,h=>by
  refine .cons ?_ (zhX r ix fun j hj=>h j (List.mem_cons_of_mem _ hj))
  have hi:=h i List.mem_cons_self
  obtain ⟨u,h1,h2⟩:=r.get (i:=i) (x:=ys[i]) (List.getElem?_eq_getElem hi)
  have e1:ys.getD i .non=ys[i]:=by simp [List.getD_eq_getElem?_getD,hi]
  have e2:us.getD i Value.none=u:=by rw [List.getD_eq_getElem?_getD,h1]; rfl
  show L2.RelV (ys.getD i .non) (us.getD i Value.none)
  rw [e1,e2]; exact h2
theorem Inv.laidN {D:Addr} {ys:List V} {its:List Value} {c:Nat} {h':Heap} (I:Inv X pins σ H s) (hD:s.heap.get? D=none) (hDL:D≠X.env.locals) (k:∀b o,b≠X.env.locals->s.heap.get? b=some o->h'.get? b=some o)
  (hns:∀m,s.heap.Ns X.env.locals m->h'.Ns X.env.locals m) (ho:h'.get? D=some { cls:=.type "list",data:=.seq its.toArray c }) (rv:Vals ys its) (hz:ys.length<=sizeLine) (t':Nat) :
  Inv X pins σ (upd H D (.lst ys)) { s with heap:=h',toks:=t' }:=by
 have hHD:H D=none:=by
  cases q:H D with
  | none=>rfl
  | some u=>
   exact absurd hD (za9.isS (I.hok D u q))
 have neD:∀b o,s.heap.get? b=some o->b≠D:=fun b o e z=>by rw [z,hD] at e; cases e
 have keepU:∀b u,H b=some u->upd H D (.lst ys) b=some u:=fun b u e=>by rw [zaA (zbL e hHD)]; exact e
 have trkL:∀b u,H b=some u->b≠X.env.locals:=fun b u e z=>by rw [z,I.free] at e; cases e
 refine I.step (g':=s.gens) (d':=s.drawn) (ch:=[]) (fun b hb=>absurd hb (by simp)) (fun b ob hL _ _ e _=>k b ob hL e) (fun b ob hL _ _ e _=>⟨ob.slots,k b ob hL e⟩) (fun b ob _ e n=>by rw [zaA (neD b ob e)]; exact n)
  (fun b ob _ e=>?_) (fun b xs e=>keepU b _ e) (fun b ob u e=>keepU b _ e) (fun b ps e=>⟨#[],by rw [keepU b _ e]; simp⟩) hns (fun b u e=>?_) I.bare
 ·by_cases hb:b=X.env.locals
  ·subst hb
   obtain ⟨m,hn,_⟩:=I.loc
   obtain ⟨o,_,_,ho',_⟩:=hns m hn
   exact ⟨o,ho'⟩
  ·exact ⟨ob,k b ob hb e⟩
 ·by_cases hb:b=D
  ·subst hb
   rw [zaq] at e
   cases e
   exact ⟨hz,its,c,rv,ho⟩
  ·rw [zaA hb] at e
   refine (I.hok b u e).stay (fun cc v hc q=>k cc v ?_ q) (fun cc q=>keepU cc _ q) fun cc xs q=>keepU cc _ q
   rcases hc with z | z
   ·rw [z]; exact trkL b u e
   ·exact trkL cc _ z
theorem zpX {h:Heap} {L:Addr} {m m':Str->Option Value} (a:h.Ns L m) (b:h.Ns L m'):m=m':=by
 obtain ⟨o,es,ep,e,d,_,f⟩:=a
 obtain ⟨o',es',ep',e',d',_,f'⟩:=b
 rw [e] at e'; cases e'
 rw [d] at d'; cases d'
 funext x
 rw [<-f,<-f']
theorem zj9 {h:Heap}:∀{us:List Value} {kss:List (List (List Int))},Paired (fun u ks=>TupR h u ks) us kss->∃fs,PySem.W.KatTups h us fs/\fs.length=us.length/\∀f∈fs,∃b o,f=Value.ref b/\h.get? b=some o/\o.cls=.type "tuple"
 | _,_,.nil=>⟨[],PySem.W.KatTups.nil,rfl,fun f hf=>nomatch hf⟩
 | _,_,.cons x t=>by
  obtain ⟨fs,h1,h2,h3⟩:=zj9 t
  cases x with
  | @mk a items ks ht hi hn=>
   cases hi with
   | nil=>exact absurd rfl hn
   | @cons p k ps ks hp _=>
    obtain ⟨o,e1,e2,n,e3⟩:=ht
    refine ⟨p::fs,PySem.W.KatTups.cons e1 e2 e3 (by simp) h1,by simp [h2],fun f hf=>?_⟩
    rcases List.mem_cons.mp hf with rfl | hf
    ·cases hp with
     | mk hb _=>obtain ⟨ob,q1,q2,_⟩:=hb; exact ⟨_,ob,rfl,q1,q2⟩
    ·exact h3 f hf
theorem zni (I:Inv X pins σ H s) {ys:List V} {kss:List (List (List Int))} {us:List Value} (h:Paired (TR2 X.K H) ys kss) (v:Vals ys us):Paired (fun u ks=>TupR s.heap u ks) us kss:=by
 induction h generalizing us with
 | nil=>cases v; exact .nil
 | cons h _ ih=>
  cases v with
  | cons r q=>exact .cons (zo3 I h r) (ih q)
theorem zfY {n:Nat} {c:Nat->Nat->Bool} {i:Nat} (h:i∈zgF n c):i < n:=List.mem_range.mp ((zfa n c).mem_iff.mp h)
theorem zjw {k:Nat} (hr:Room k X.A):zcK X (.builtin "sorted") (fun xs H Q=>∃p ys kss,xs=[.ref p]/\SqL X.K H p ys/\Paired (TR2 X.K H) ys kss/\ys.length < 64/\∀l,H l=none->Q (.ref l) (upd H l (.lst (zh3 .non ys kss)))):=by
 intro pins s σ H xs us Q I r h
 obtain ⟨p,ys,kss,rfl,hq,hk,h64,q⟩:=h
 obtain ⟨u,rfl,rx⟩:=vals1 r
 cases rx
 obtain ⟨its,rv,pl,hz⟩:=I.list hq
 have hl:=rv.length
 have hkl:=Paired.length hk
 by_cases h2:its.length < 2
 ·refine zh2 pl.isList h2 fun h' c D kp hD ho=>?_
  have hs:s.heap.get? D=none:=Heap.get?_none_of_le hD
  refine ⟨.ref D,_,Inv.laidN I hs (Nat.ne_of_gt (Nat.lt_of_lt_of_le I.lt hD)) (fun b o _ e=>kp b o e) (fun m ⟨o,es,ep,e,z⟩=>⟨o,es,ep,kp _ _ e,z⟩) ho rv (by omega) s.toks,rfl,?_⟩
  have e:zh3 V.non ys kss=ys:=by
   unfold zh3 zgF
   rw [if_pos (by omega)]
   refine List.ext_getElem (by simp) fun i a b=>?_
   simp [List.getD_eq_getElem?_getD,b]
  have:=q D (I.hok.fresh hD)
  rw [e] at this
  exact this
 ·obtain ⟨mF,F⟩:=I.fr
  have trs:=zni I hk rv
  refine PySem.W.kat_sorted F (znQ (g:=X.base) (h:=s.heap) (L:=X.env.locals)) pl.isList (by omega) (by omega) fun D e1 h' F' N' hlt=>?_
  have hDs:s.heap.get? D=none:=by
   cases z:s.heap.get? D with
   | none=>rfl
   | some o=>
    have zn:=(N' _ (List.mem_cons_self)).2
    exact absurd (hlt (D,o) (zgc zn.1 zn.2 z)) (Nat.lt_irrefl _)
  have keepN:∀{h2:Heap} {oD:Obj},Fr X.base X.env.locals h2 mF->News X.base X.env.locals h2 ((D,oD)::zgu X.base s.heap X.env.locals)->∀b o,b≠X.env.locals->s.heap.get? b=some o->h2.get? b=some o:=fun {h2 oD} F2 N2 b o hb e=>by
   cases z:X.base.get? b with
   | some o'=>
    have:=I.bk b o' z
    rw [e] at this; cases this
    exact F2.keep b o z
   | none=>exact (N2 (b,o) (List.mem_cons_of_mem _ (zgc hb z e))).1
  have k1:=keepN F' N'
  have trs':Paired (fun u ks=>TupR h' u ks) its kss:=Paired.mono (fun _ _ x=>x.stay F.ns k1) trs
  obtain ⟨fs,t1,t2,t3⟩:=zj9 trs'
  refine PySem.W.kat_kind (T:=.type "tuple") t1 (by omega) (fun v hv=>?_) (by decide) ?_
  ·obtain ⟨b,o,rfl,e1,e2⟩:=t3 v hv
   rw [<-e2]
   exact (PySem.W.Looks.ld e1).andThen .now
  have hn:0 < its.length:=by omega
  refine zmo (n:=its.length) (c:=fun i j=>lexR (kss.getD i []) (kss.getD j [])) (fun i j C hi hj hC=>?_) (ziM hn) ?_
  ·have gi:∀i,i < its.length->TupR h' (its.getD i Value.none) (kss.getD i []):=fun i hi=>by
    have hki:i < kss.length:=by omega
    obtain ⟨a,ha,hx⟩:=Paired.get trs' (List.getElem?_eq_getElem hki)
    rw [List.getD_eq_getElem?_getD,ha,List.getD_eq_getElem?_getD,List.getElem?_eq_getElem hki]
    exact hx
   exact zpq (gi i hi) (gi j hj) (by have:=hr.un; show X.A.units + 1 + 1 < cLine; omega) hC
  ·refine PySem.W.KasFin.intro F' N' (.head fun q hq z=>?_) fun h3 c F3 N3=>?_
   ·have:=hlt q hq
    rw [z] at this
    exact Nat.lt_irrefl _ this
   ·have oD:=(N3 _ List.mem_cons_self)
    have hix:∀i∈zgF ys.length (fun i j=>lexR (kss.getD i []) (kss.getD j [])),i < ys.length:=fun i hi=>zfY hi
    have e0:(ziu (fun i j=>lexR (kss.getD i []) (kss.getD j [])) (PySem.W.kas_sort its.length)).toList=zgF ys.length (fun i j=>lexR (kss.getD i []) (kss.getD j [])):=by
     unfold zgF
     rw [if_neg (by omega),hl]
    rw [e0] at oD
    refine ⟨.ref D,_,Inv.laidN (t':=_) (its:=(zgF ys.length fun i j=>lexR (kss.getD i []) (kss.getD j [])).map fun i=>its.getD i Value.none) I hDs oD.2.1 (keepN F3 N3) (fun m hm=>by rw [zpX hm F.ns]; exact F3.ns) oD.1 (zhX rv _ hix) ?_,rfl,q D ?_⟩
    ·have:=(zfa ys.length fun i j=>lexR (kss.getD i []) (kss.getD j [])).length_eq
     rw [List.length_map,this,List.length_range]; omega
    ·cases z:H D with
     | none=>rfl
     | some u=>exact absurd hDs (za9.isS (I.hok D u z))
end
end DL
end
section
namespace DL
open PySem PySem.Spec PyProof.Rows L2
noncomputable def zfy:D->Option (List Int)
 | .tup ds=>zbX ds
 | _=>none
noncomputable def zgE:List D->Option (List (List Int))
 | []=>some []
 | d::ds=>(zfy d).bind fun k=>(zgE ds).map (k::·)
noncomputable def znu:D->Option (List (List Int))
 | .tup (d::ds)=>zgE (d::ds)
 | _=>none
noncomputable def zfv:List D->Option (List (List (List Int)))
 | []=>some []
 | d::ds=>(znu d).bind fun k=>(zfv ds).map (k::·)
noncomputable def zh4:List D->Option D
 | [.lst ds]=>(zfv ds).bind fun kss=>if ds.length < 64 then some (.lst (zh3 .non ds kss)) else none
 | _=>none
section
variable {K:PySem.W.Frag} {G:GH} {H:Hp}
theorem zqH (gk:GOk K G H) {v:V} {d:D} {k:List Int} (r:RG K G v d) (e:zfy d=some k):TI2 K H v k:=by
 cases d with
 | tup ds=>
  obtain ⟨a,xs,rfl,s,rs⟩:=r.tup gk
  have:=zfP gk rs e
  subst this
  exact ⟨a,rfl,s⟩
 | _=>cases e
theorem zo9 (gk:GOk K G H) {ds:List D} {xs:List V} {ks:List (List Int)} (h:RGs K G xs ds) (e:zgE ds=some ks):Paired (TI2 K H) xs ks:=by
 induction h generalizing ks with
 | nil=>cases e; exact .nil
 | @cons x d xs ds r t ih=>
  have e':(zfy d).bind (fun k=>(zgE ds).map (k::·))=some ks:=e
  cases e1:zfy d with
  | none=>rw [e1] at e'; cases e'
  | some k=>
   rw [e1] at e'
   cases e2:zgE ds with
   | none=>rw [e2] at e'; cases e'
   | some ks'=>rw [e2] at e'; cases e'; exact .cons (zqH gk r e1) (ih e2)
theorem zng {d:D} {ds:List D} {ks:List (List Int)} (e:zgE (d::ds)=some ks):ks≠[]:=by
 have e':(zfy d).bind (fun k=>(zgE ds).map (k::·))=some ks:=e
 cases e1:zfy d with
 | none=>rw [e1] at e'; cases e'
 | some k=>
  rw [e1] at e'
  cases e2:zgE ds with
  | none=>rw [e2] at e'; cases e'
  | some ks'=>rw [e2] at e'; cases e'; simp
theorem zqG (gk:GOk K G H) {v:V} {d:D} {ks:List (List Int)} (r:RG K G v d) (e:znu d=some ks):TR2 K H v ks:=by
 cases d with
 | tup ds=>
  cases ds with
  | nil=>cases e
  | cons d ds=>
   obtain ⟨a,xs,rfl,s,rs⟩:=r.tup gk
   exact ⟨a,xs,rfl,s,zo9 gk rs e,zng e⟩
 | _=>cases e
theorem zo8 (gk:GOk K G H) {ds:List D} {xs:List V} {ks:List (List (List Int))} (h:RGs K G xs ds) (e:zfv ds=some ks):Paired (TR2 K H) xs ks:=by
 induction h generalizing ks with
 | nil=>cases e; exact .nil
 | @cons x d xs ds r t ih=>
  have e':(znu d).bind (fun k=>(zfv ds).map (k::·))=some ks:=e
  cases e1:znu d with
  | none=>rw [e1] at e'; cases e'
  | some k=>
   rw [e1] at e'
   cases e2:zfv ds with
   | none=>rw [e2] at e'; cases e'
   | some ks'=>rw [e2] at e'; cases e'; exact .cons (zqG gk r e1) (ih e2)
theorem zjT {xs:List V} {ds:List D} (r:RGs K G xs ds):∀(ix:List Nat),(∀i∈ix,i < ds.length)->RGs K G (ix.map fun i=>xs.getD i .non) (ix.map fun i=>ds.getD i .non)
 | [],_=>.nil
 | i::ix,h=>by
  refine .cons ?_ (zjT r ix fun j hj=>h j (List.mem_cons_of_mem _ hj))
  have hi:=h i List.mem_cons_self
  obtain ⟨u,h1,h2⟩:=Paired.get r (List.getElem?_eq_getElem hi)
  show RG K G (xs.getD i .non) (ds.getD i .non)
  rw [List.getD_eq_getElem?_getD,h1,List.getD_eq_getElem?_getD,List.getElem?_eq_getElem hi]
  exact h2
end
section
variable {X:Cx} {g:GE} {m:List Md} {a:Expr} {fl:Rho->Res (List D)} {pos p:Pos} {k:Nat}
theorem zj2 (hr:Room k X.A) (hg:Gl X "sorted") (hm:X.mg "sorted" = none) (ha:SAB X g m [a] fl) (hs:starEach [a] X.env=(false,eval a X.env)::starEach [] X.env:=by rfl) :
  SO X g m (.Call (.Name "sorted" p) [a] [] pos) (fC fl zh4):=by
 refine zpk (R:=fun xs H Q=>∃p ys kss,xs=[.ref p]/\SqL X.K H p ys/\Paired (TR2 X.K H) ys kss/\ys.length < 64/\∀l,H l=none->Q (.ref l) (upd H l (.lst (zh3 .non ys kss)))) ?_ (zcT (zjw hr) hg hm (by first | exact PyProof.Rows.boot_sorted | rfl) ha (by decide) (by decide) hs rfl)
 intro G H vs ds d Q gk rs e q
 unfold zh4 at e
 split at e
 ·rename_i zs
  cases ek:zfv zs with
  | none=>rw [ek] at e; cases e
  | some kss=>
   rw [ek] at e
   have e':(if zs.length < 64 then some (D.lst (zh3 .non zs kss)) else none)=some d:=e
   by_cases h64:zs.length < 64
   ·rw [if_pos h64] at e'
    cases e'
    cases rs with
    | cons r1 t=>
     cases t
     obtain ⟨b,xs,rfl,s,r⟩:=r1.lst gk
     have hl:=Paired.length r
     refine ⟨b,xs,kss,rfl,s,zo8 gk r ek,by omega,fun l hl'=>q l G _ (Grow.new gk hl' _) hl' ⟨gk.isN hl',.lst zaq ?_⟩⟩
     unfold zh3
     rw [hl]
     exact zjT r _ fun i hi=>zfY hi
   ·rw [if_neg h64] at e'; cases e'
 ·cases e
end
end DL
end
section
namespace DL
open PySem PyProof.Rows PySem.SeqAt PySem.MeetsSeq PySem.MeetsSeq2 PySem.MeetsSeq3 L2
open PySem.AutoSeq1 (wpAny_loadPart')
end DL
end
section
namespace DL
open PySem PyProof.Rows L2
section
variable {prog:Program} {w:World} {A:Around} {E:Value->Shared->Prop} {s:Shared}
noncomputable def LisI (h:Heap) (u:Value) (ns:List Int):Prop:=∃a its,u=.ref a/\h.IsList a its/\IntsAre its.toList ns
end
end DL
end
section
namespace DL
open PySem PySem.Spec PyProof.Rows L2
section
variable {X:Cx} {pins:List (Addr × Obj)} {σ:L2.St} {H:Hp} {s:Shared}
theorem LisI.stay {h h':Heap} {L:Addr} {mm:Str->Option Value} (hL:h.Ns L mm) (k:∀b o,b≠L->h.get? b=some o->h'.get? b=some o) {p:Value} {ns:List Int} (x:LisI h p ns):LisI h' p ns:=by
 obtain ⟨a,its,rfl,⟨o,h1,h2,n,h3⟩,hi⟩:=x
 refine ⟨a,its,rfl,⟨o,k _ _ ?_ h1,h2,n,h3⟩,hi⟩
 rintro rfl
 obtain ⟨o',es,ep,e,d,_⟩:=hL
 rw [h1] at e; cases e
 rw [h3] at d; cases d
end
section
variable {K:PySem.W.Frag} {G:GH} {H:Hp}
end
section
variable {X:Cx} {g:GE} {m:List Md} {a:Expr} {fl:Rho->Res (List D)} {pos p:Pos} {k:Nat}
end
end DL
end
section
namespace DL
open PySem PySem.Spec PyProof.Rows L2
section
variable {X:Cx} {pins:List (Addr × Obj)} {σ:L2.St} {H:Hp} {s:Shared}
theorem Inv.keptN {h':Heap} (I:Inv X pins σ H s) (k:∀b o,b≠X.env.locals->s.heap.get? b=some o->h'.get? b=some o)
  (hns:∀m,s.heap.Ns X.env.locals m->h'.Ns X.env.locals m) (t':Nat):Inv X pins σ H { s with heap:=h',toks:=t' }:=by
 have trkL:∀b u,H b=some u->b≠X.env.locals:=fun b u e z=>by rw [z,I.free] at e; cases e
 refine I.step (g':=s.gens) (d':=s.drawn) (ch:=[]) (fun b hb=>absurd hb (by simp)) (fun b ob hL _ _ e _=>k b ob hL e) (fun b ob hL _ _ e _=>⟨ob.slots,k b ob hL e⟩) (fun b ob _ e n=>n)
  (fun b ob _ e=>?_) (fun b xs e=>e) (fun b ob u e=>e) (fun b ps e=>⟨#[],by rw [e]; simp⟩) hns (fun b u e=>?_) I.bare
 ·by_cases hb:b=X.env.locals
  ·subst hb
   obtain ⟨m,hn,_⟩:=I.loc
   obtain ⟨o,_,_,ho',_⟩:=hns m hn
   exact ⟨o,ho'⟩
  ·exact ⟨ob,k b ob hb e⟩
 ·refine (I.hok b u e).stay (fun cc v hc q=>k cc v ?_ q) (fun cc q=>q) fun cc xs q=>q
  rcases hc with z | z
  ·rw [z]; exact trkL b u e
  ·exact trkL cc _ z
end
section
variable {X:Cx} {g:GE} {m:List Md} {e a b:Expr} {es:List Expr} {fl:Rho->Res (List D)} {fa fb:FE} {pos p:Pos}
noncomputable def zq5 (K:PySem.W.Frag):R2:=fun x y H Q=>∃a b ys,x=.ref a/\y=.ref b/\SqT K H a []/\SqT K H b ys/\Q (.ref b) H
theorem zpQ:OpR X (binaryOp .Add) (zq5 X.K):=by
 intro pins s σ H x y v u Q I rx ry h
 obtain ⟨a,b,ys,rfl,rfl,ha,hb,q⟩:=h
 cases rx
 cases ry
 obtain ⟨its,r1,p1,_⟩:=I.tuple ha
 obtain ⟨its2,r2,p2,_⟩:=I.tuple hb
 cases r1
 obtain ⟨⟨cls,dd,data,sl⟩,ho,hc,n,hd⟩:=id p1
 obtain ⟨⟨cls2,dd2,data2,sl2⟩,ho2,hc2,n2,hd2⟩:=id p2
 simp only at hc hd hc2 hd2
 subst hc hd hc2 hd2
 exact concat_meets ⟨_,ho,rfl⟩ ⟨_,ho2,rfl⟩ noFill_tuple_add seq_tuple_add PySem.F.slot_tuple_add PySem.F.entry_tuple_add (PySem.F.args_tuple_add_2 _ _)
  (tuple_addW0 a b _ _ n n2 dd dd2 sl sl2 rfl) ⟨ho,ho2,⟨.ref b,H,I,rfl,q⟩⟩
noncomputable def addE:D->D->Option D
 | .tup [],.tup b=>some (.tup b)
 | a,b=>addA a b
theorem zqq {K:PySem.W.Frag}:OpD K (fun x y H Q=>zq5 K x y H Q\/((∃i j,x=.int i/\y=.int j/\Q (.int (i + j)) H)\/(∃i j,x=.str i/\y=.str j/\i.length + j.length<=sizeLine/\Q (.str (i++j)) H)\/zpu K x y H Q\/zpt K x y H Q)) addE:=by
 intro G H v1 v2 d1 d2 d Q gk r1 r2 e q
 unfold addE at e
 split at e
 ·cases e
  rcases r1 with r1 | ⟨a',_,oo⟩
  ·rcases r2 with r2 | ⟨a',_,oo⟩
   ·obtain ⟨a,xs,rfl,s1,t1⟩:=r1.tup gk
    obtain ⟨b,ys,rfl,s2,t2⟩:=r2.tup gk
    cases t1
    exact .inl ⟨a,b,ys,rfl,rfl,s1,s2,q _ G H (Grow.refl gk) r2⟩
   ·cases oo.ob
  ·cases oo.ob
 ·exact .inr (zm5 G H v1 v2 d1 d2 d Q gk r1 r2 e q)
theorem zow (ha:SB X g m a fa) (hb:SB X g m b fb):SE X g m (.BinOp a .Add b pos) (f2 fa fb addE):=zky (OpR.or zpQ (OpR.or zoF (OpR.or zgX (OpR.or zl3 zl2)))) zqq ha hb
end
end DL
end
section
namespace DL
open PySem PyProof.Rows L2
open PySem.AutoSeq1 (wpAny_loadPart')
section
variable {X:Cx}
end
end DL
end
section
namespace DL
open PySem PyProof.Rows PySem.W
noncomputable abbrev at0 (p:Array Nat) (i:Nat):Nat:=p.getD i 0
section
variable {n:Nat} {c:Nat->Nat->Bool} (as:∀i j,c i j=true->c j i=false) (tr:∀i j k,c j i=false->c k j=false->c k i=false)
noncomputable def Le (c:Nat->Nat->Bool) (i j:Nat):Prop:=c j i=false
noncomputable def Dn (c:Nat->Nat->Bool) (p:Array Nat) (k:Nat):Prop:=∀i,i + 1 < k->Le c (at0 p (i + 1)) (at0 p i)
noncomputable def Eqv (c:Nat->Nat->Bool) (i j:Nat):Prop:=Le c i j/\Le c j i
include tr in
theorem Eqv.trans {i j k:Nat} (h1:Eqv c i j) (h2:Eqv c j k):Eqv c i k:=⟨tr _ _ _ h1.1 h2.1,tr _ _ _ h2.2 h1.2⟩
theorem Eqv.symm {i j:Nat} (h:Eqv c i j):Eqv c j i:=⟨h.2,h.1⟩
include as tr in
include tr in
theorem Dn.eqv {p p':Array Nat} {k:Nat} (h:Dn c p k) (e:∀i,Eqv c (at0 p' i) (at0 p i)):Dn c p' k:=fun i hi=>tr _ _ _ (e (i + 1)).1 (tr _ _ _ (h i hi) (e i).2)
include as tr in
include as tr in
include as tr in
include as tr in
include as tr in
include as tr in
include as tr in
include as tr in
include as tr in
end
end DL
end
section
namespace DL
section
variable {α:Type} {lt:α->α->Bool} {d:α}
end
end DL
end
section
namespace DL
open PySem PySem.Spec PyProof.Rows L2
section
variable {X:Cx} {pins:List (Addr × Obj)} {σ:L2.St} {H:Hp} {s:Shared}
end
section
variable {X:Cx} {g:GE} {m:List Md} {a:Expr} {fl:Rho->Res (List D)} {pos p:Pos} {k:Nat}
end
end DL
end
section
namespace DL
open PySem PySem.Spec PyProof.Rows L2
section
variable {X:Cx} {pins:List (Addr × Obj)} {σ:L2.St} {H:Hp} {s:Shared}
theorem zm4 (bs:List Bool):((List.range bs.length).all fun i=>bs.getD i true)=bs.all id:=by
 rw [Bool.eq_iff_iff,List.all_eq_true,List.all_eq_true]
 constructor
 ·intro h b hb
  obtain ⟨i,hi,rfl⟩:=List.getElem_of_mem hb
  have:=h i (List.mem_range.mpr hi)
  simpa [List.getD_eq_getElem?_getD,hi] using this
 ·intro h i hi
  have hi:=List.mem_range.mp hi
  have:=h bs[i] (List.getElem_mem _)
  simpa [List.getD_eq_getElem?_getD,hi] using this
theorem zm1 (bs:List Bool):((List.range bs.length).any fun i=>bs.getD i true)=bs.any id:=by
 rw [Bool.eq_iff_iff,List.any_eq_true,List.any_eq_true]
 constructor
 ·rintro ⟨i,hi,h⟩
  have hi:=List.mem_range.mp hi
  exact ⟨bs[i],List.getElem_mem _,by simpa [List.getD_eq_getElem?_getD,hi] using h⟩
 ·rintro ⟨b,hb,h⟩
  obtain ⟨i,hi,rfl⟩:=List.getElem_of_mem hb
  exact ⟨i,List.mem_range.mpr hi,by simpa [List.getD_eq_getElem?_getD,hi] using h⟩
theorem zgR (hc:X.calm=true) (I:Inv X pins σ H s) {p:Addr} {bs:List Bool} (hq:SqL X.K H p (bs.map V.bl)) {A:Around} (hA:A.handled=none) {E:Value->Shared->Prop} {Q:Value->Shared->Prop}
  (h:∀I fp wr n P St tr it s₂,it=Value.ref I->Walks X.prog X.w A I fp wr n P St->St 0 s₂.heap->TruthOf X.prog X.w A P tr->n=bs.length->(∀i,tr i=bs.getD i true) ->
   (∀(h':Heap) (tk:Nat),(∀(b:Addr) (o:Obj),¬b∈wr->s₂.heap.get? b=some o->h'.get? b=some o)->Inv X pins σ H { heap:=h',gens:=s₂.gens,drawn:=s₂.drawn,toks:=tk,os:=s₂.os })->Q it s₂) :
  wpAny (model X.prog X.w) A (pyIter (.ref p)) Q E s:=by
 obtain ⟨its,rv,pl,hz⟩:=I.list hq
 have hl:=rv.length
 rw [List.length_map] at hl
 refine PySem.Flt.iter_list_ pl.isList fun s₂ e2 hi hlt hne=>?_
 refine h s.heap.objs.size [s.heap.objs.size,p] [s.heap.objs.size] its.toArray.size _ _ (fun i=>bs.getD i true) _ s₂ rfl (Walks.list hA _ p hne its.toArray) hi ?_ (by rw [List.size_toArray,hl]) (fun i=>rfl) fun h' tk k=>?_
 ·intro i v s' Q' E' hv hq'
  have hv':its[i]? = some v:=by simpa using hv
  have hi:i < its.length:=(List.getElem?_eq_some_iff.mp hv').1
  have hki:i < (bs.map V.bl).length:=by rw [List.length_map]; omega
  obtain ⟨u,h1,h3⟩:=rv.get (i:=i) (x:=(bs.map V.bl)[i]) (List.getElem?_eq_getElem hki)
  rw [hv'] at h1
  cases h1
  rw [List.getElem_map] at h3
  have h3':v=Value.bool bs[i]:=h3
  subst h3'
  have e:bs.getD i true=bs[i]:=by
   have hb:i < bs.length:=by omega
   simp [List.getD_eq_getElem?_getD,hb]
  have hq2:Q' (bs.getD i true) s':=hq'
  rw [e] at hq2
  exact wpAny_pure hq2
 ·subst e2
  have ne:∀b o,s.heap.get? b=some o->¬ b∈[s.heap.objs.size]:=fun b o e z=>by
   have:=List.mem_singleton.mp z
   subst this
   exact absurd (Heap.lt_size e) (Nat.lt_irrefl _)
  exact Inv.keptN I (fun b o _ e=>k b o (ne b o e) (Heap.get?_push_of_some _ e)) (fun m ⟨o,es,ep,e,z⟩=>⟨o,es,ep,k _ _ (ne _ _ e) (Heap.get?_push_of_some _ e),z⟩) tk
theorem zok (hc:X.calm=true):zcK X (.builtin "all") (fun xs H Q=>∃(p:Addr) (bs:List Bool),xs=[.ref p]/\SqL X.K H p (bs.map V.bl)/\Q (.bl (bs.all id)) H):=by
 intro pins s σ H xs us Q I r h
 obtain ⟨p,bs,rfl,hq,q⟩:=h
 obtain ⟨u,rfl,rx⟩:=vals1 r
 cases rx
 refine call_all_walk (zgR hc I hq (show X.A.in1.handled=none from I.ok.hd hc) fun J fp wr n P St tr it s₂ e1 e2 e3 e4 e5 e6 e7=>⟨J,fp,wr,n,P,St,tr,e1,e2,e3,e4,fun h' tk k=>?_⟩)
 have et:tr=fun i=>bs.getD i true:=funext e6
 rw [e5,et,zm4]
 exact ⟨.bl (bs.all id),H,e7 h' tk k,rfl,q⟩
theorem zoj (hc:X.calm=true):zcK X (.builtin "any") (fun xs H Q=>∃(p:Addr) (bs:List Bool),xs=[.ref p]/\SqL X.K H p (bs.map V.bl)/\Q (.bl (bs.any id)) H):=by
 intro pins s σ H xs us Q I r h
 obtain ⟨p,bs,rfl,hq,q⟩:=h
 obtain ⟨u,rfl,rx⟩:=vals1 r
 cases rx
 refine call_any_walk (zgR hc I hq (show X.A.in1.handled=none from I.ok.hd hc) fun J fp wr n P St tr it s₂ e1 e2 e3 e4 e5 e6 e7=>⟨J,fp,wr,n,P,St,tr,e1,e2,e3,e4,fun h' tk k=>?_⟩)
 have et:tr=fun i=>bs.getD i true:=funext e6
 rw [e5,et,zm1]
 exact ⟨.bl (bs.any id),H,e7 h' tk k,rfl,q⟩
end
noncomputable def zgr:List D->Option (List Bool)
 | []=>some []
 | .bl b::ds=>(zgr ds).map (b::·)
 | _=>none
theorem zmZ {K:PySem.W.Frag} {G:GH} {H:Hp} (gk:GOk K G H) {ds:List D} {xs:List V} {bs:List Bool} (h:RGs K G xs ds) (e:zgr ds=some bs):xs=bs.map V.bl:=by
 induction h generalizing bs with
 | nil=>cases e; rfl
 | @cons x d xs ds r t ih=>
  cases d with
  | bl b=>
   have e':(zgr ds).map (b::·)=some bs:=e
   cases e1:zgr ds with
   | none=>rw [e1] at e'; cases e'
   | some bs'=>
    rw [e1] at e'; cases e'
    rw [ih e1,List.map_cons,(RG.rb (H:=H) r).bl gk]
  | _=>cases e
noncomputable def allD:List D->Option D
 | [.lst ds]=>(zgr ds).map fun bs=>.bl (bs.all id)
 | _=>none
noncomputable def anyD:List D->Option D
 | [.lst ds]=>(zgr ds).map fun bs=>.bl (bs.any id)
 | _=>none
theorem zsv {K:PySem.W.Frag}:zjE K (fun xs H Q=>∃(p:Addr) (bs:List Bool),xs=[.ref p]/\SqL K H p (bs.map V.bl)/\Q (.bl (bs.all id)) H) allD:=by
 intro G H vs ds d Q gk rs e q
 unfold allD at e
 split at e
 ·rename_i zs
  cases ek:zgr zs with
  | none=>rw [ek] at e; cases e
  | some bs=>
   rw [ek] at e; cases e
   cases rs with
   | cons r1 t=>
    cases t
    obtain ⟨b,xs,rfl,s,r⟩:=r1.lst gk
    have ex:=zmZ gk r ek
    subst ex
    exact ⟨b,bs,rfl,s,q _ G H (Grow.refl gk) (.scl (.bl _))⟩
 ·cases e
theorem zsu {K:PySem.W.Frag}:zjE K (fun xs H Q=>∃(p:Addr) (bs:List Bool),xs=[.ref p]/\SqL K H p (bs.map V.bl)/\Q (.bl (bs.any id)) H) anyD:=by
 intro G H vs ds d Q gk rs e q
 unfold anyD at e
 split at e
 ·rename_i zs
  cases ek:zgr zs with
  | none=>rw [ek] at e; cases e
  | some bs=>
   rw [ek] at e; cases e
   cases rs with
   | cons r1 t=>
    cases t
    obtain ⟨b,xs,rfl,s,r⟩:=r1.lst gk
    have ex:=zmZ gk r ek
    subst ex
    exact ⟨b,bs,rfl,s,q _ G H (Grow.refl gk) (.scl (.bl _))⟩
 ·cases e
section
variable {X:Cx} {g:GE} {m:List Md} {e:Expr} {es:List Expr} {fl:Rho->Res (List D)} {pos p:Pos}
theorem zsT (hc:X.calm=true) (hg:Gl X "all") (hm:X.mg "all" = none) (ha:SAB X g m (e::es) fl) (he:starEach (e::es) X.env=(false,eval e X.env)::starEach es X.env:=by rfl) (hpl:(backTo pos (starEach es X.env)).any (·.1)=false:=by rfl) :
  SE X g m (.Call (.Name "all" p) (e::es) [] pos) (fC fl allD):=s_cb zsv (zcT (zok hc) hg hm PyProof.Rows.boot_all ha (by decide) (by decide) he hpl)
theorem zlq (hc:X.calm=true) (hg:Gl X "any") (hm:X.mg "any" = none) (ha:SAB X g m (e::es) fl) (he:starEach (e::es) X.env=(false,eval e X.env)::starEach es X.env:=by rfl) (hpl:(backTo pos (starEach es X.env)).any (·.1)=false:=by rfl) :
  SE X g m (.Call (.Name "any" p) (e::es) [] pos) (fC fl anyD):=s_cb zsu (zcT (zoj hc) hg hm PyProof.Rows.boot_any ha (by decide) (by decide) he hpl)
end
end DL
end
section
namespace DL
open PySem PySem.Spec PyProof.Rows L2
noncomputable def minZ (ks:List Int):Int:=ks.getD (argBest (fun i j=>decide (ks.getD i 0 < ks.getD j 0)) (ks.length - 1)) 0
theorem zfi (f:Nat->Int):∀k,argBest (fun i j=>decide (f i < f j)) k<=k/\∀i,i<=k->f (argBest (fun i j=>decide (f i < f j)) k)<=f i
 | 0=>⟨Nat.le_refl _,fun i hi=>by
   have:i=0:=by omega
   subst this
   exact Int.le_refl _⟩
 | k + 1=>by
  obtain ⟨h1,h2⟩:=zfi f k
  rw [argBest.eq_2]
  by_cases h:f (k + 1) < f (argBest (fun i j=>decide (f i < f j)) k)
  ·rw [if_pos (by simpa using h)]
   refine ⟨Nat.le_refl _,fun i hi=>?_⟩
   by_cases z:i=k + 1
   ·subst z; exact Int.le_refl _
   ·have:=h2 i (by omega); omega
  ·rw [if_neg (by simpa using h)]
   refine ⟨by omega,fun i hi=>?_⟩
   by_cases z:i=k + 1
   ·subst z; omega
   ·exact h2 i (by omega)
theorem znS {ks:List Int} (h:ks≠[]):minZ ks∈ks:=by
 have hp:=List.length_pos_iff.mpr h
 have h1:=(zfi (fun i=>ks.getD i 0) (ks.length - 1)).1
 unfold minZ
 have hlt:argBest (fun i j=>decide (ks.getD i 0 < ks.getD j 0)) (ks.length - 1) < ks.length:=by omega
 rw [List.getD_eq_getElem?_getD,List.getElem?_eq_getElem hlt]
 exact List.getElem_mem _
theorem zp1 {ks:List Int} {x:Int} (h:x∈ks):minZ ks<=x:=by
 obtain ⟨i,hi,rfl⟩:=List.getElem_of_mem h
 have:=(zfi (fun i=>ks.getD i 0) (ks.length - 1)).2 i (by omega)
 have e:ks.getD i 0=ks[i]:=by simp [List.getD_eq_getElem?_getD,hi]
 simp only [e] at this
 exact this
section
variable {X:Cx} {pins:List (Addr × Obj)} {σ:L2.St} {H:Hp} {s:Shared}
theorem zmU (hc:X.calm=true):zcK X (.builtin "min") (fun xs H Q=>∃(p:Addr) (ks:List Int),xs=[.ref p]/\SqL X.K H p (ks.map V.int)/\ks≠[]/\Q (.int (minZ ks)) H):=by
 intro pins s σ H xs us Q I r h
 obtain ⟨p,ks,rfl,hq,hne,q⟩:=h
 obtain ⟨u,rfl,rx⟩:=vals1 r
 cases rx
 obtain ⟨its,rv,pl,hz⟩:=I.list hq
 have hl:=rv.length
 rw [List.length_map] at hl
 have hA:X.A.in1.handled=none:=I.ok.hd hc
 have hp:=List.length_pos_iff.mpr hne
 have gi:∀i v,its[i]? = some v->∃t,v=Value.int (ks.getD i 0) t:=fun i v hv=>by
  have hi:i < its.length:=(List.getElem?_eq_some_iff.mp hv).1
  have hki:i < (ks.map V.int).length:=by rw [List.length_map]; omega
  obtain ⟨u,h1,h3⟩:=rv.get (i:=i) (x:=(ks.map V.int)[i]) (List.getElem?_eq_getElem hki)
  rw [hv] at h1
  cases h1
  rw [List.getElem_map] at h3
  have hki':i < ks.length:=by omega
  rw [List.getD_eq_getElem?_getD,List.getElem?_eq_getElem hki']
  exact h3
 refine call_min_walkS (PySem.Flt.iter_list_ pl.isList fun s₂ e2 hi hlt hn2=>?_)
 refine ⟨s.heap.objs.size,[s.heap.objs.size,p],[s.heap.objs.size],_,its.toArray.size,_,_,fun i j=>decide (ks.getD i 0 < ks.getD j 0),rfl,(Walks.list hA _ p hn2 its.toArray).toS,hi,hlt,by rw [List.size_toArray]; omega,?_,fun v s' hv M=>?_⟩
 ·intro i j vi vj s' Q' E' h1 h2 hq'
  obtain ⟨t1,rfl⟩:=gi i vi (by simpa using h1)
  obtain ⟨t2,rfl⟩:=gi j vj (by simpa using h2)
  exact HT.rcLt_int _ s' _ t1 _ t2 X.prog X.w E' Q' hq'
 ·have hsz:its.toArray.size - 1=ks.length - 1:=by rw [List.size_toArray]; omega
  rw [hsz] at hv
  obtain ⟨t,rfl⟩:=gi _ v (by simpa using hv)
  subst e2
  have ne:∀b o,s.heap.get? b=some o->¬ b∈[s.heap.objs.size]:=fun b o e z=>by
   have:=List.mem_singleton.mp z
   subst this
   exact absurd (Heap.lt_size e) (Nat.lt_irrefl _)
  obtain ⟨h',g',d',tk,os'⟩:=s'
  have e1:g'=s.gens:=M.gens
  have e3:d'=s.drawn:=M.drawn
  have e4:os'=s.os:=M.os
  subst e1 e3 e4
  exact ⟨.int (minZ ks),H,Inv.keptN I (fun b o _ e=>M.heap b o (ne b o e) (Heap.get?_push_of_some _ e)) (fun m ⟨o,es,ep,e,z⟩=>⟨o,es,ep,M.heap _ _ (ne _ _ e) (Heap.get?_push_of_some _ e),z⟩) tk,⟨_,rfl⟩,q⟩
end
noncomputable def zfJ:List D->Option D
 | [.lst (d::ds)]=>(zbX (d::ds)).map fun ks=>.int (minZ ks)
 | _=>none
theorem zp2 {K:PySem.W.Frag}:zjE K (fun xs H Q=>∃(p:Addr) (ks:List Int),xs=[.ref p]/\SqL K H p (ks.map V.int)/\ks≠[]/\Q (.int (minZ ks)) H) zfJ:=by
 intro G H vs ds d Q gk rs e q
 unfold zfJ at e
 split at e
 ·rename_i z zs
  cases ek:zbX (z::zs) with
  | none=>rw [ek] at e; cases e
  | some ks=>
   rw [ek] at e; cases e
   cases rs with
   | cons r1 t=>
    cases t
    obtain ⟨b,xs,rfl,s,r⟩:=r1.lst gk
    have hl:=Paired.length r
    have ex:=zfP gk r ek
    subst ex
    refine ⟨b,ks,rfl,s,?_,q _ G H (Grow.refl gk) (.scl (.int _))⟩
    rintro rfl
    simp at hl
 ·cases e
section
variable {X:Cx} {g:GE} {m:List Md} {e:Expr} {es:List Expr} {fl:Rho->Res (List D)} {pos p:Pos}
theorem zjQ (hc:X.calm=true) (hg:Gl X "min") (hm:X.mg "min" = none) (ha:SAB X g m (e::es) fl) (he:starEach (e::es) X.env=(false,eval e X.env)::starEach es X.env:=by rfl) (hpl:(backTo pos (starEach es X.env)).any (·.1)=false:=by rfl) :
  SE X g m (.Call (.Name "min" p) (e::es) [] pos) (fC fl zfJ):=s_cb zp2 (zcT (zmU hc) hg hm PyProof.Rows.boot_min ha (by decide) (by decide) he hpl)
end
end DL
end
section
namespace DL
open PySem PySem.Spec PyProof.Rows L2
noncomputable def ziN (h0 H:Hp):Prop:=∀a o,h0 a=some o->H a=some o
structure YieldsB (K:PySem.W.Frag) (h0:Hp) (J:It) (ds:List D) (G0:GH):Prop where
 go:∀G H (i:Nat),Gle G0 G->GOk K G H->ziN h0 H->i < ds.length->J.go i H
 yld:∀G H (i:Nat) x H' d,Gle G0 G->GOk K G H->ziN h0 H->J.yld i H x H'->ds[i]? = some d->∃G',Grow K G H G' H'/\RG K G' x d
 stop:∀G H,Gle G0 G->GOk K G H->ziN h0 H->J.stop ds.length H
theorem Yields.toH {K:PySem.W.Frag} {h0:Hp} {J:It} {ds:List D} {G0:GH} (y:Yields K J ds G0):YieldsB K h0 J ds G0:=
 ⟨fun G H i w gk _ hi=>y.go G H i w gk hi,fun G H i x H' d w gk _ q e=>y.yld G H i x H' d w gk q e,fun G H w gk _=>y.stop G H w gk⟩
noncomputable def tIB (X:Cx) (g:GE) (m:List Md) (f:FI):TI:=fun σ H R=>∃r G,SI X g m r G σ H/\fin (f r) (fun ds=>∀J G' H',Grow X.K G H G' H'->YieldsB X.K g.h0 J ds G'->R J H') (XW X σ G H)
noncomputable def SItB (X:Cx) (g:GE) (m:List Md) (tg iter:Expr) (f:FI):Prop:=PI X tg iter (tIB X g m f)
noncomputable def tBw (X:Cx) (g:GE) (m:List Md) (f:FE):TE:=fun σ H Q=>∃r G,SI X g m r G σ H/\fin (f r) (fun d=>∀v G' H',Grow X.K G H G' H'->Bw X.K g.h0 G' H' v d->Q v H') (XW X σ G H)
noncomputable def SBw (X:Cx) (g:GE) (m:List Md) (e:Expr) (f:FE):Prop:=PE X e (tBw X g m f)
section
variable {X:Cx} {g:GE} {m m' mb:List Md} {tg e a iter:Expr} {f:FE} {pos p pos2:Pos} {ro:Bool} {sts:List Stmt} {s1:FS} {elts:List Expr} {kk:Nat}
theorem SIt.toH {fi:FI} (h:SIt X g m tg iter fi):SItB X g m tg iter fi:=PI.imp h fun σ H R ⟨r,G,si,q⟩=>⟨r,G,si,zag q fun ds k J G' H' w y=>k J G' H' w y.toH⟩
theorem vw_ (i:Nat) {x:Str} (hm:m[i]? = some .bw:=by rfl) (hN:X.N[i]? = some x:=by rfl) (hv:Vis X.env.scope x:=by first | exact Or.inl rfl | exact Or.inr (Or.inl rfl) | exact Or.inr (Or.inr rfl)) (hd:(x == ("__debug__" : Str))=false:=by decide) (hcd:(x == ("__classdict__" : Str))=false:=by decide) :
  SBw X g m (.Name x pos) fun r=>getV r i:=by
 refine PE.imp (zfx hN hv hd hcd) fun σ H Q ⟨r,G,si,q⟩=>?_
 obtain ⟨d,e,k⟩:=zhN q
 obtain ⟨v,e1,e2⟩:=si.bw i d e hm
 exact ⟨v,e1,k _ G H (Grow.refl si.gok) e2⟩
theorem zlX {K:PySem.W.Frag} {h0:Hp} {G0 G:GH} {H0 H:Hp} {a:Addr} {ds:List D} (o:Own K G0 H0 a (.lst ds)) (h:h0 a≠none) (o0:ziN h0 H0) (le:Gle G0 G) (o1:ziN h0 H):∃xs,SqL K H a xs/\RGs K G xs ds:=by
 cases e:h0 a with
 | none=>exact absurd e h
 | some u=>
  have h1:=o0 a u e
  have h2:=o1 a u e
  cases o.ob with
  | lst r s=>
   rw [h1] at r
   cases r
   exact ⟨_,SqL.of h2,RGs.mono s le⟩
theorem zqw {K:PySem.W.Frag} {h0:Hp} {ds:List D} {G0:GH} {a:Addr} (h:∀G H,Gle G0 G->GOk K G H->ziN h0 H->∃xs,SqL K H a xs/\RGs K G xs ds):YieldsB K h0 (Itl K a) ds G0:=by
 refine ⟨fun G H i w gk o hi=>?_,fun G H i x H' d w gk o y e=>?_,fun G H w gk o=>?_⟩
 ·obtain ⟨xs,s,r⟩:=h G H w gk o
  have hl:=Paired.length r
  exact ⟨xs,xs[i],s,List.getElem?_eq_getElem (by omega)⟩
 ·obtain ⟨xs,s,r⟩:=h G H w gk o
  obtain ⟨rfl,y⟩:=y
  obtain ⟨v,e1,rv⟩:=Paired.get r e
  have:=y xs s
  rw [e1] at this; cases this
  exact ⟨G,Grow.refl gk,rv⟩
 ·obtain ⟨xs,s,r⟩:=h G H w gk o
  exact ⟨xs,s,Nat.le_of_eq (Paired.length r)⟩
theorem SI.oldIn {r:Rho} {G:GH} {st:L2.St} {H:Hp} (s:SI X g m r G st H):ziN g.h0 H:=s.old
theorem zg3 (h:SBw X g m e f):SItB X g m tg e (fSeq zaU f):=by
 refine PI.imp (zlQ h) fun σ H R ⟨r,G,si,q⟩=>⟨r,G,si,zag (zai q) fun d q v G' H' w rv=>?_⟩
 obtain ⟨ds,e,q⟩:=zaJ q
 cases d with
 | lst ds'=>
  cases e
  rcases rv with rv | ⟨a,rfl,o,ho⟩
  ·obtain ⟨a,xs,rfl,s,rs⟩:=rv.lst w.ok
   exact .inl ⟨a,rfl,⟨xs,s⟩,q _ G' H' w (ziO rv).toH⟩
  ·cases o.ob with
   | lst r s=>exact .inl ⟨a,rfl,⟨_,SqL.of r⟩,q _ G' H' w (zqw fun G2 H2 le _ o2=>zlX o ho (si.grow w).oldIn le o2)⟩
 | tup ds'=>
  cases e
  rcases rv with rv | ⟨a,rfl,o,ho⟩
  ·obtain ⟨a,xs,rfl,s,rs⟩:=rv.tup w.ok
   exact .inr ⟨a,rfl,⟨xs,s⟩,q _ G' H' w (zlb rv).toH⟩
  ·cases o.ob
 | _=>cases e
theorem ziP {K:PySem.W.Frag} {h0:Hp} {ds:List D} {G0:GH} {sq:Hp->List V->Prop} (h:∀G H,Gle G0 G->GOk K G H->ziN h0 H->∃xs,sq H xs/\RGs K G xs ds):YieldsB K h0 (Ien sq) (enuD 0 ds) G0:=by
 refine ⟨fun G H i w gk o hi=>?_,fun G H i x H' d w gk o y e=>?_,fun G H w gk o=>?_⟩
 ·obtain ⟨xs,s,r⟩:=h G H w gk o
  rw [zeZ] at hi
  have hl:=Paired.length r
  exact ⟨xs,xs[i],s,List.getElem?_eq_getElem (by omega)⟩
 ·obtain ⟨xs,s,r⟩:=h G H w gk o
  obtain ⟨p,v,hp,rfl,rfl,hv⟩:=y
  rw [zhR] at e
  cases ed:ds[i]? with
  | none=>rw [ed] at e; cases e
  | some d0=>
   rw [ed] at e
   simp only [Option.map_some,Option.some.injEq,Nat.zero_add] at e
   subst e
   obtain ⟨v',e1,rv⟩:=Paired.get r ed
   have:=hv xs s
   rw [e1] at this; cases this
   exact ⟨_,Grow.newF gk hp (.tup (.inl zaq) (.cons (.scl (.int _)) (.cons rv .nil))),.ref zaL⟩
 ·obtain ⟨xs,s,r⟩:=h G H w gk o
  rw [zeZ]
  exact ⟨xs,s,Paired.length r⟩
theorem zqe (hg:Gl X "enumerate") (hm:X.mg "enumerate" = none) (he:SBw X g m e f) (hs:starEach [e] X.env=(false,eval e X.env)::starEach [] X.env:=by rfl):SItB X g m (.Tuple elts kk pos2) (.Call (.Name "enumerate" p) [e] [] pos) (fEnu f):=by
 refine PI.imp (zlS hg hm he hs) fun σ H R ⟨r,G,si,q⟩=>⟨r,G,si,zag (zai q) fun d q v G' H' w rv=>?_⟩
 obtain ⟨ds,e,q⟩:=zaJ (zai q)
 cases d with
 | lst ds'=>
  cases e
  rcases rv with rv | ⟨a,rfl,o,ho⟩
  ·obtain ⟨a,xs,rfl,s,rs⟩:=rv.lst w.ok
   refine .inl ⟨a,rfl,⟨xs,s⟩,q _ G' H' w (ziP fun G H le gk _=>?_)⟩
   obtain ⟨b,ys,e,s',r'⟩:=(rv.mono le).lst gk
   cases e
   exact ⟨ys,s',r'⟩
  ·cases o.ob with
   | lst r s=>exact .inl ⟨a,rfl,⟨_,SqL.of r⟩,q _ G' H' w (ziP fun G2 H2 le _ o2=>zlX o ho (si.grow w).oldIn le o2)⟩
 | tup ds'=>
  cases e
  rcases rv with rv | ⟨a,rfl,o,ho⟩
  ·obtain ⟨a,xs,rfl,s,rs⟩:=rv.tup w.ok
   refine .inr ⟨a,rfl,⟨xs,s⟩,q _ G' H' w (ziP fun G H le gk _=>?_)⟩
   obtain ⟨b,ys,e,s',r'⟩:=(rv.mono le).tup gk
   cases e
   exact ⟨ys,s',r'⟩
  ·cases o.ob
 | _=>cases e
theorem zf3 (hp:PassesOwn (model X.prog X.w) X.A X.env X.xe) (hc:X.calm=true) {ft:FT} {fi:FI} (hi:SItB X g m tg iter fi) (hg:SG X g m tg ft m) (hb:SSs X g ro m m sts s1 m)
  (hs:∀x,foldedSetIterable iter X.env x=pure x:=by intro _; rfl):SS X g ro mb m (.For tg iter sts [] pos) (zbK m fi ft s1) m:=by
 refine ⟨rfl,PS.imp (zlN hp hc hi hg.2 hb.2 hs) fun D σ H ⟨r,G,si,q⟩=>⟨r,G,si,zag (zbz si rfl q) fun ds q J G0 H0 w0 Y=>?_⟩⟩
 refine ⟨fun i n σ H=>∃r G,SI X g m r G σ H/\Gle G0 G/\i<=ds.length/\n=ds.length - i/\oTo X g ro m mb G D (forF ft s1 (ds.drop i) r),⟨ds.length,r,G0,si.grow w0,Gle.refl G0,Nat.zero_le _,rfl,oTo.gle q w0.ge⟩,?_⟩
 rintro i n σ1 H1 ⟨r1,G1,si1,le1,hi,rfl,q1⟩
 by_cases hlt:i < ds.length
 ·have hd:ds.drop i=ds[i]::ds.drop (i + 1):=List.drop_eq_getElem_cons hlt
  rw [hd] at q1
  unfold forF at q1
  refine .inr ⟨Y.go G1 H1 i le1 si1.gok si1.oldIn hlt,fun σ' H'=>∃r G,SI X g m r G σ' H'/\Gle G0 G/\oTo X g ro m mb G D (forF ft s1 (ds.drop (i + 1)) r),fun σ' H' ⟨r',G',si',le',q'⟩=>⟨ds.length - (i + 1),by omega,r',G',si',le',hlt,rfl,q'⟩,fun x H' y=>?_⟩
  obtain ⟨G',w',rv⟩:=Y.yld G1 H1 i x H' ds[i] le1 si1.gok si1.oldIn y (List.getElem?_eq_getElem hlt)
  have le':Gle G0 G':=le1.trans w'.ge
  cases eft:ft ds[i] r1 with
  | none=>simp only [eft] at q1; exact q1.elim
  | some r2=>
   simp only [eft] at q1
   refine ⟨r1,G',ds[i],si1.grow w',rv,r2,eft,fun σ2 si2=>⟨r2,G',si2,?_⟩⟩
   cases eb:s1 r2 with
   | nx r'=>simp only [eb] at q1; exact fun σ3 G3 H3 le3 si3=>⟨r',G3,si3,le'.trans le3,oTo.gle q1 (Gle.trans w'.ge le3)⟩
   | ct r'=>simp only [eb] at q1; exact fun σ3 G3 H3 le3 si3=>⟨r',G3,si3,le'.trans le3,oTo.gle q1 (Gle.trans w'.ge le3)⟩
   | bk r'=>simp only [eb] at q1; exact fun σ3 G3 H3 le3 si3=>q1 σ3 G3 H3 (Gle.trans w'.ge le3) si3
   | rt d=>simp only [eb] at q1; exact q1
   | exc x r'=>simp only [eb] at q1; exact fun pins e s' σ3 G3 H3 le3=>q1 pins e s' σ3 G3 H3 (Gle.trans w'.ge le3)
   | stuck=>simp only [eb] at q1; exact q1
 ·have e:i=ds.length:=by omega
  subst e
  rw [List.drop_length] at q1
  exact .inl ⟨Y.stop G1 H1 le1 si1.gok si1.oldIn,q1 σ1 G1 H1 (Gle.refl _) si1⟩
end
end DL
end
section
namespace DL
open PySem PySem.Spec PyProof.Rows L2
noncomputable def zff (r:Rho) (st:L2.St) (i:Nat) (b:Addr):Prop:=st[i]? = some (some (V.ref b))/\(r[i]?).join.isSome=true
instance {r:Rho} {st:L2.St} {i:Nat} {b:Addr}:Decidable (zff r st i b):=Classical.propDecidable _
noncomputable def zeS (g:GE) (m:List Md) (r:Rho) (st:L2.St) (G:GH) (H:Hp) (i:Nat):GE:=⟨G,fun b=>if zff r st i b then H b else g.h0 b,fun j=>if j=i\/m[j]? = some Md.bw then some ((st[j]?).join,(r[j]?).join) else g.hd j⟩
theorem Own.keep {K:PySem.W.Frag} {G G':GH} {H H':Hp} {a:Addr} {d:D} (o:Own K G H a d) (h:H' a=H a) (u:G' a=G a) (le:Gle G G'):Own K G' H' a d:=by
 refine ⟨by rw [u]; exact o.un,?_⟩
 cases o.ob with
 | lst q r=>exact .lst (by rw [h]; exact q) (RGs.mono r le)
 | dic q r=>exact .dic (by rw [h]; exact q) (Paired.mono (fun _ _ z=>⟨z.1,z.2.mono le⟩) r)
section
variable {X:Cx} {g:GE} {m:List Md} {r r':Rho} {G G':GH} {st st':L2.St} {H H':Hp} {i:Nat}
theorem ziv {α:Type} {l:List (Option α)} {i:Nat} {x:α} (h:(l[i]?).join=some x):l[i]? = some (some x):=by
 cases q:l[i]? with
 | none=>rw [q] at h; cases h
 | some o=>rw [q] at h; rw [show o=some x from h]
theorem SI.lent (s:SI X g m r G st H) (hm:m[i]? = some .ow) {b:Addr} (p:zff r st i b):∃d,r[i]? = some (some d)/\Own X.K G H b d/\g.h0 b=none:=by
 obtain ⟨h1,h2⟩:=p
 obtain ⟨d,hd⟩:=Option.isSome_iff_exists.mp h2
 have hd:=ziv hd
 obtain ⟨a,q1,q2,q3⟩:=s.ow i d hd hm
 rw [h1] at q1
 cases q1
 exact ⟨d,hd,q2,q3⟩
theorem SI.lendN (s:SI X g m r G st H) (hm:m[i]? = some .ow) {b:Addr} (h:g.h0 b≠none):¬ zff r st i b:=fun p=>h (s.lent hm p).choose_spec.2.2
theorem SI.lend (s:SI X g m r G st H) (hm:m[i]? = some .ow):SI X (zeS g m r st G H i) (m.set i .bw) r G st H:=by
 have hi:i < m.length:=(List.getElem?_eq_some_iff.mp hm).1
 have ne:∀{j:Nat} {x:Md},(m.set i .bw)[j]? = some x->x≠.bw->j≠i/\m[j]? = some x:=fun {j x} h hx=>by
  by_cases e:i=j
  ·subst e; rw [List.getElem?_set_self hi] at h; cases h; exact absurd rfl hx
  ·rw [List.getElem?_set_ne e] at h; exact ⟨fun z=>e z.symm,h⟩
 have un:∀{b:Addr},g.h0 b≠none->(zeS g m r st G H i).h0 b≠none:=fun {b} h=>by
  show (if zff r st i b then H b else g.h0 b)≠none
  rw [if_neg (s.lendN hm h)]; exact h
 have at_:∀{b:Addr},zff r st i b->(zeS g m r st G H i).h0 b≠none:=fun {b} p=>by
  show (if zff r st i b then H b else g.h0 b)≠none
  rw [if_pos p]
  obtain ⟨d,_,o,_⟩:=s.lent hm p
  exact o.ob.isS
 refine ⟨s.gok,fun b o e=>?_,fun _ _ e=>e,fun _ _=>rfl,by rw [List.length_set]; exact s.lm,s.lr,fun j d h hj=>s.sh j d h (ne hj (by simp)).2,fun j d h hj=>?_,fun j d h hj=>?_,fun j k a d e hjk h1 h2 m1 m2=>s.dis j k a d e hjk h1 h2 (ne m1 (by simp)).2 (ne m2 (by simp)).2,fun j o h hj=>?_⟩
 ·have e:(if zff r st i b then H b else g.h0 b)=some o:=e
  by_cases p:zff r st i b
  ·rw [if_pos p] at e; exact e
  ·rw [if_neg p] at e; exact s.old b o e
 ·obtain ⟨n1,n2⟩:=ne hj (by simp)
  obtain ⟨a,q1,q2,q3⟩:=s.ow j d h n2
  refine ⟨a,q1,q2,?_⟩
  show (if zff r st i a then H a else g.h0 a)=none
  rw [if_neg]
  ·exact q3
  ·intro p
   obtain ⟨d',hd',_,_⟩:=s.lent hm p
   exact s.dis j i a d d' n1 h hd' n2 hm q1 p.1
 ·by_cases e:j=i
  ·subst e
   obtain ⟨a,q1,q2,q3⟩:=s.ow j d h hm
   exact ⟨.ref a,q1,.inr ⟨a,rfl,q2,at_ ⟨q1,by rw [h]; rfl⟩⟩⟩
  ·rw [List.getElem?_set_ne fun z=>e z.symm] at hj
   obtain ⟨v,q1,q2⟩:=s.bw j d h hj
   refine ⟨v,q1,?_⟩
   rcases q2 with q2 | ⟨a,e1,e2,e3⟩
   ·exact .inl q2
   ·exact .inr ⟨a,e1,e2,un e3⟩
 ·have hj':j < st.length:=by have:=(List.getElem?_eq_some_iff.mp hj).1; rw [List.length_set,s.lm] at this; exact this
  have h:(if j=i\/m[j]? = some Md.bw then some ((st[j]?).join,(r[j]?).join) else g.hd j)=some o:=h
  have c:j=i\/m[j]? = some Md.bw:=by
   by_cases e:j=i
   ·exact .inl e
   ·rw [List.getElem?_set_ne fun z=>e z.symm] at hj; exact .inr hj
  rw [if_pos c] at h
  cases h
  refine ⟨?_,fun d hd=>by rw [hd]; rfl⟩
  rw [List.getElem?_eq_getElem hj']; rfl
theorem SI.lend_none (s:SI X g m r G st H) (hm:m[i]? = some .ow) {b:Addr} (h:(zeS g m r st G H i).h0 b=none):g.h0 b=none:=by
 have h:(if zff r st i b then H b else g.h0 b)=none:=h
 by_cases p:zff r st i b
 ·exact (s.lent hm p).choose_spec.2.2
 ·rw [if_neg p] at h; exact h
theorem SI.unlend (s:SI X g m r G st H) (hm:m[i]? = some .ow) (s':SI X (zeS g m r st G H i) (m.set i .bw) r' G' st' H'):SI X g m r' G' st' H':=by
 have hi:i < m.length:=(List.getElem?_eq_some_iff.mp hm).1
 have ne:∀{j:Nat} {x:Md},m[j]? = some x->x≠.ow->j≠i/\(m.set i .bw)[j]? = some x:=fun {j x} h hx=>by
  by_cases e:i=j
  ·subst e; rw [hm] at h; cases h; exact absurd rfl hx
  ·exact ⟨fun z=>e z.symm,by rw [List.getElem?_set_ne e]; exact h⟩
 have lk:∀j,j=i\/m[j]? = some Md.bw->st'[j]? = some (st[j]?).join/\∀d,r'[j]? = some (some d)->r[j]? = some (some d):=fun j c=>by
  have hj:(m.set i .bw)[j]? = some .bw:=by
   rcases c with rfl | c
   ·exact List.getElem?_set_self hi
   ·exact (ne c (by simp)).2
  obtain ⟨h1,h2⟩:=s'.lk j ((st[j]?).join,(r[j]?).join) (if_pos c) hj
  exact ⟨h1,fun d hd=>ziv (h2 d hd)⟩
 have h0n:∀{b:Addr},g.h0 b≠none->(zeS g m r st G H i).h0 b=g.h0 b:=fun {b} h=>if_neg (s.lendN hm h)
 have gf':∀{b:Addr},(zeS g m r st G H i).h0 b≠none->G' b=G b:=fun h=>s'.gf _ h
 have back:∀{b:Addr},(zeS g m r st G H i).h0 b=none->g.h0 b=none:=fun {b} h=>s.lend_none hm h
 have own:∀d,r'[i]? = some (some d)->∃a,st'[i]? = some (some (V.ref a))/\Own X.K G' H' a d/\g.h0 a=none/\(zeS g m r st G H i).h0 a≠none:=fun d hd=>by
  obtain ⟨l1,l2⟩:=lk i (.inl rfl)
  have hd0:=l2 d hd
  obtain ⟨a,q1,q2,q3⟩:=s.ow i d hd0 hm
  have p:zff r st i a:=⟨q1,by rw [hd0]; rfl⟩
  have e:(zeS g m r st G H i).h0 a=H a:=if_pos p
  have hs:H a≠none:=q2.ob.isS
  refine ⟨a,by rw [l1,q1]; rfl,q2.keep ?_ (gf' (by rw [e]; exact hs)) s'.ge,q3,by rw [e]; exact hs⟩
  cases z:H a with
  | none=>exact absurd z hs
  | some o=>exact s'.old a o (by rw [e]; exact z)
 refine ⟨s'.gok,fun b o e=>s'.old b o (by rw [h0n (by rw [e]; simp)]; exact e),fun b d e=>s'.ge b d (s.ge b d e),fun b h=>(gf' (by rw [h0n h]; exact h)).trans (s.gf b h),by have:=s'.lm; rw [List.length_set] at this; exact this,s'.lr,fun j d h hj=>s'.sh j d h (ne hj (by simp)).2,fun j d h hj=>?_,fun j d h hj=>?_,fun j k a d e hjk h1 h2 m1 m2 q1 q2=>?_,fun j o h hj=>?_⟩
 ·by_cases e:j=i
  ·subst e
   obtain ⟨a,q1,q2,q3,_⟩:=own d h
   exact ⟨a,q1,q2,q3⟩
  ·obtain ⟨a,q1,q2,q3⟩:=s'.ow j d h (by rw [List.getElem?_set_ne fun z=>e z.symm]; exact hj)
   exact ⟨a,q1,q2,back q3⟩
 ·obtain ⟨l1,l2⟩:=lk j (.inr hj)
  obtain ⟨v,q1,q2⟩:=s.bw j d (l2 d h) hj
  refine ⟨v,by rw [l1,q1]; rfl,?_⟩
  rcases q2 with q2 | ⟨a,e1,e2,e3⟩
  ·exact .inl (q2.mono s'.ge)
  ·refine .inr ⟨a,e1,e2.keep ?_ (gf' (by rw [h0n e3]; exact e3)) s'.ge,e3⟩
   cases z:g.h0 a with
   | none=>exact absurd z e3
   | some o=>rw [s.old a o z]; exact s'.old a o (by rw [h0n e3]; exact z)
 ·by_cases ej:j=i
  ·subst ej
   obtain ⟨b,b1,_,_,b4⟩:=own d h1
   rw [q1] at b1; cases b1
   obtain ⟨c,c1,_,c3⟩:=s'.ow k e h2 (by rw [List.getElem?_set_ne hjk]; exact m2)
   rw [q2] at c1; cases c1
   exact b4 c3
  ·by_cases ek:k=i
   ·subst ek
    obtain ⟨b,b1,_,_,b4⟩:=own e h2
    rw [q2] at b1; cases b1
    obtain ⟨c,c1,_,c3⟩:=s'.ow j d h1 (by rw [List.getElem?_set_ne fun z=>ej z.symm]; exact m1)
    rw [q1] at c1; cases c1
    exact b4 c3
   ·exact s'.dis j k a d e hjk h1 h2 (by rw [List.getElem?_set_ne fun z=>ej z.symm]; exact m1) (by rw [List.getElem?_set_ne fun z=>ek z.symm]; exact m2) q1 q2
 ·obtain ⟨l1,l2⟩:=lk j (.inr hj)
  obtain ⟨k1,k2⟩:=s.lk j o h hj
  exact ⟨by rw [l1,k1]; rfl,fun d hd=>k2 d (l2 d hd)⟩
theorem SI.lend_back (s:SI X g m r G st H) (hm:m[i]? = some .ow) (w:Grow X.K (zeS g m r st G H i).gh (zeS g m r st G H i).h0 G' H'):Grow X.K g.gh g.h0 G' H':=by
 have h0n:∀{b:Addr},g.h0 b≠none->(zeS g m r st G H i).h0 b=g.h0 b:=fun {b} h=>if_neg (s.lendN hm h)
 exact ⟨w.ok,fun b o e=>w.he b o (by rw [h0n (by rw [e]; simp)]; exact e),fun b d e=>w.ge b d (s.ge b d e),fun b h=>(w.gf b (by rw [h0n h]; exact h)).trans (s.gf b h)⟩
theorem ziR {ro:Bool} {mb:List Md} {sx:Stmt} {f:FS} (hm:m[i]? = some .ow) (hno:∀r r',f r≠.ct r'/\f r≠.bk r') (h:∀g',SS X g' ro (m.set i .bw) (m.set i .bw) sx f (m.set i .bw)):SS X g ro mb m sx f m:=by
 refine ⟨rfl,fun pins s σ H D I ⟨r,G,si,q⟩=>(h (zeS g m r σ G H i)).2 pins s σ H D I ⟨r,G,si.lend hm,?_⟩⟩
 have el:zda (m.set i .bw)=zda m:=zdP (by rw [List.length_set])
 cases e:f r with
 | nx r'=>rw [e] at q; exact fun σ' G' H' le s'=>q σ' G' H' le (si.unlend hm s')
 | ct r'=>exact absurd e (hno r r').1
 | bk r'=>exact absurd e (hno r r').2
 | rt d=>
  rw [e] at q
  intro v G2 H2 w rv
  refine q v G2 H2 (si.lend_back hm w) ?_
  cases ro with
  | false=>exact rv
  | true=>
   rcases rv with ⟨a,e1,e2,e3⟩ | z
   ·exact .inl ⟨a,e1,si.lend_none hm e2,e3⟩
   ·exact .inr z
 | exc x r'=>
  rw [e] at q
  intro pins e s' σ3 G3 H3 le s3
  refine q pins e s' σ3 G3 H3 le ?_
  rw [el] at s3
  have no:∀{i:Nat} {x:Md},(zda m)[i]? = some x->x=Md.sh:=fun {i x} h=>by
   unfold zda at h
   rw [List.getElem?_map] at h
   cases q:m[i]? with
   | none=>rw [q] at h; cases h
   | some y=>rw [q] at h; cases h; rfl
  have w:=si.lend_back hm s3.grown
  exact ⟨s3.gok,w.he,w.ge,w.gf,s3.lm,s3.lr,s3.sh,fun i d h hm=>(nomatch (no hm)),fun i d h hm=>(nomatch (no hm)),fun i j a d e hij h1 h2 m1 m2=>(nomatch (no m1)),fun i o hi hm=>(nomatch (no hm))⟩
 | stuck=>rw [e] at q; exact q
theorem zjp {ft:FT} {b:FS}:∀(ds:List D) (r r':Rho),forF ft b ds r≠.ct r'/\forF ft b ds r≠.bk r'
 | [],r,r'=>by unfold forF; exact ⟨nofun,nofun⟩
 | d::ds,r,r'=>by
  unfold forF
  cases ft d r with
  | none=>exact ⟨nofun,nofun⟩
  | some r1=>
   dsimp only
   cases b r1 with
   | nx r2=>exact zjp ds r2 r'
   | ct r2=>exact zjp ds r2 r'
   | bk r2=>exact ⟨nofun,nofun⟩
   | rt d=>exact ⟨nofun,nofun⟩
   | exc x r2=>exact ⟨nofun,nofun⟩
   | stuck=>exact ⟨nofun,nofun⟩
theorem zjh {m:List Md} {fi:FI} {ft:FT} {b:FS}:∀r r',zbK m fi ft b r≠.ct r'/\zbK m fi ft b r≠.bk r':=fun r r'=>by
 unfold zbK
 cases fi r with
 | ok ds=>exact zjp ds r r'
 | exc x=>exact ⟨nofun,nofun⟩
 | stuck=>exact ⟨nofun,nofun⟩
end
end DL
end
section
namespace DL
open PySem PySem.Spec PyProof.Rows L2 PySem.W PySem.Calls
theorem zp6:typeLookup (.type "list") "keys" = pure none:=by rw [typeLookup_type,builtinLookup_eq_fast]; kernel_rfl
theorem ztc:typeLookup (.type "list") "__getattr__" = pure none:=by rw [typeLookup_type,builtinLookup_eq_fast]; kernel_rfl
theorem fam (args:List Value):firstArgMember (.type "AttributeError") args=pure .none:=by kernel_rfl
theorem zp0:(Str.ofString (toString "'"++toString ((Manifest.find? "list").elim "list" fun x=>x.tpName)++toString "' object has no attribute '")++Str.ofString "keys"++Str.ofString "'").length<=sizeLine:=Nat.le_of_ble_eq_true (by kernel_rfl)
theorem znI (args:List Value):ownMembersOf (.type "AttributeError") args = #[unsetMember,unsetMember]:=by kernel_rfl
theorem zlk:isSubtype (.type "AttributeError") (.type "AttributeError")=pure true:=by rw [isSubtype_type]; kernel_rfl
theorem znP {prog:Program} {w:World} {A:Around} {E:Value->Shared->Prop} {s:Shared} {e:Addr} {x0 x1 x2 x3 x4 x5 o nm:Value} {Q:Unit->Shared->Prop} (he:s.heap.get? e=some { cls:=.type "AttributeError",data:=.fields #[x0,x1,x2,x3,x4,x5,unsetMember,unsetMember] })
  (h:∀h',Heap.SameBut e s.heap h'->(∃ob,h'.get? e=some ob/\ob.cls=.type "AttributeError")->Q () { s with heap:=h' }):wpAny (model prog w) A (noteAttr (.ref e) o nm) Q E s:=by
 have hT:s.TypeIs (.ref e) "AttributeError" := ⟨_,he,rfl⟩
 unfold noteAttr
 show wpAny _ _ (lacksNameAndObj (.ref e) >>= _) _ _ _
 refine wpAny_bind ?_
 unfold lacksNameAndObj
 show wpAny _ _ (isInstance (.ref e) (.type "AttributeError") >>= _) _ _ _
 refine wpAny_bind (wpAny_isInstance (T := "AttributeError") (b:=true) hT zlk ?_)
 simp only [Bool.not_true,Bool.false_eq_true,if_false]
 refine wpAny_bind (wpAny_load he ?_)
 refine wpAny_pure ?_
 simp only [if_true]
 refine wpAny_bind (wpAny_rule ?_)
 refine wpAny_bind (wpAny_typeOf (T := "AttributeError") hT ?_)
 show wpAny _ _ (layMembers e 6 #[nm,o]) _ _ _
 unfold layMembers
 refine wpAny_bind (wpAny_load he ?_)
 show wpAny _ _ (update e (Obj.mapFields fun vs=>vs.extract 0 6++#[nm,o])) _ _ _
 exact wpAny_update he (h _ (Heap.SameBut.update ..) ⟨_,Heap.get?_update_self _ he rfl,rfl⟩)
section
variable {prog:Program} {w:World} {A:Around} {E:Value->Shared->Prop} {h:Heap} {g:Array GenState} {d:Drawn} {t:Nat} {os:OsState} {a:Addr} {its:Array Value} {n:Nat} {sl:Array (Option Value)}
theorem zkT {tk:Tok} {Q:Fin->Shared->Prop} (hx:h.get? a=some { cls:=.type "list",dict:=none,data:=.seq its n,slots:=sl }) (hh:A.handled=none)
  (hq:∀h' e tk,(∀b o,h.get? b=some o->h'.get? b=some o)->(∃o,h'.get? e=some o/\o.cls=.type "AttributeError")->E (.ref e) ⟨h',g,d,tk,os⟩) :
  wpAny (model prog w) A (Builtin.«object.__getattribute__» ⟨[.ref a,.str "keys" tk],[]⟩) Q E ⟨h,g,d,t,os⟩:=by
 have hT:(⟨h,g,d,t,os⟩:Shared).TypeIs (.ref a) "list" := ⟨_,hx,rfl⟩
 have f4:=zp6
 repeat (any_goals (first | assumption | wp_step))
 have hm:(Str.ofString (toString "'"++toString ((Manifest.find? "list").elim "list" fun x=>x.tpName)++toString "' object has no attribute '")++Str.ofString "keys"++Str.ofString "'").length<=sizeLine:=zp0
 generalize (Str.ofString (toString "'"++toString ((Manifest.find? "list").elim "list" fun x=>x.tpName)++toString "' object has no attribute '")++Str.ofString "keys"++Str.ofString "'")=msg at hm
 unfold raiseAttrError
 refine wpAny_bind (wpAny_mkStr (hx:=hm) ?_)
 refine wpAny_bind ?_
 simp only [newExc,newTuple]
 refine wpAny_bind (wpAny_newObj_type ?_ (by size_fits))
 refine wpAny_bind (m:=firstArgMember _ _) (wpAny_of_eq (a:=Value.none) (fam _) ?_)
 rw [znI]
 refine wpAny_newObj_type ?_ (by size_fits)
 refine wpAny_bind (wpAny_mkText ?_)
 refine wpAny_bind ?_
 have he:(({ heap:=h,gens:=g,drawn:=d,toks:=t + 1,os:=os:Shared }.heap.push { cls:=Value.type "tuple",data:=Data.seq #[Value.str msg t] }).push { cls:=.type "AttributeError",data:=.fields (#[Value.ref h.objs.size,.none,.none,.none,.bool false,.none]++#[unsetMember,unsetMember]) }).get? (h.push { cls:=Value.type "tuple",data:=Data.seq #[Value.str msg t] }).objs.size=some _:=Heap.get?_push_size _ rfl
 refine znP he fun h' k ⟨ob,h1,h2⟩=>?_
 unfold raiseNew
 refine wpAny_bind (wpAny_handled ?_)
 rw [hh]
 refine wpAny_bind (wpAny_pure (wpAny_throw ?_))
 refine hq h' _ _ (fun b o e=>k.extBut b o ?_ (Heap.get?_push_of_some _ (Heap.get?_push_of_some _ e))) ⟨ob,h1,h2⟩
 exact Nat.ne_of_lt (Heap.lt_size (Heap.get?_push_of_some _ e))
theorem zml {tk:Tok} {R:Result->Shared->Prop} (hx:h.get? a=some { cls:=.type "list",dict:=none,data:=.seq its n,slots:=sl }) (hh:A.handled=none)
  (hq:∀h' e tk,(∀b o,h.get? b=some o->h'.get? b=some o)->(∃o,h'.get? e=some o/\o.cls=.type "AttributeError")->R (.error (.ref e)) ⟨h',g,d,tk,os⟩) :
  codeAny (model prog w) A (.call (.builtin "list.__getattribute__") ⟨[.ref a,.str "keys" tk],[]⟩) R ⟨h,g,d,t,os⟩:=
 codeAny_call_builtin F.slot_list_getattribute.plain F.entry_list_ga (F.slot_list_getattribute.check _ _ _ _ _ _ _ _ (show (⟨h,g,d,t,os⟩:Shared).TypeIs (.ref a) "list" from ⟨_,hx,rfl⟩) (F.args_list_getattribute_2 _ _) (zkT hx hh hq))
theorem zp9 {tk:Tok} {Q:Value->Shared->Prop} (hx:h.get? a=some { cls:=.type "list",dict:=none,data:=.seq its n,slots:=sl }) (hh:A.handled=none)
  (hq:∀h' e tk,(∀b o,h.get? b=some o->h'.get? b=some o)->(∃o,h'.get? e=some o/\o.cls=.type "AttributeError")->E (.ref e) ⟨h',g,d,tk,os⟩) :
  wpAny (model prog w) A (getAttrBy (.ref a) (.str "keys" tk) false) Q E ⟨h,g,d,t,os⟩:=by
 have hT:(⟨h,g,d,t,os⟩:Shared).TypeIs (.ref a) "list" := ⟨_,hx,rfl⟩
 have f2:=F.slot_list_getattribute.lookup
 have f3:=F.slot_list_getattribute.bind (.ref a)
 repeat (any_goals (first | assumption | wp_step))
 refine zml hx hh fun h' e tk hk he=>?_
 obtain ⟨o,ho,hc⟩:=id he
 show wpAny _ _ (getattributeRaised _ _ _ (.ref e) none false false) _ _ _
 unfold getattributeRaised
 refine wpAny_bind (wpAny_isInstance (T := "AttributeError") (b:=true) ⟨o,ho,hc⟩ zlk ?_)
 simp only [if_true]
 refine wpAny_bind ?_
 show wpAny _ _ (typeLookup (.type "list") "__getattr__") _ _ _
 rw [ztc]
 refine wpAny_pure ?_
 show wpAny _ _ (attributeErrorLeaves _ _ (.ref e) false false) _ _ _
 unfold attributeErrorLeaves
 simp only [Bool.not_false,if_true]
 exact wpAny_bind (wpAny_throw (hq h' e tk hk he))
theorem ziq {s:Shared} {Q:Option Value->Shared->Prop} (hx:s.heap.get? a=some { cls:=.type "list",dict:=none,data:=.seq its n,slots:=sl }) (hh:A.handled=none) (h:∀h' tk,(∀b o,s.heap.get? b=some o->h'.get? b=some o)->Q none { s with heap:=h',toks:=tk }) :
  wpAny (model prog w) A (getAttr? (.ref a) "keys") Q E s:=by
 obtain ⟨hp,gg,dd,tt,oo⟩:=s
 unfold getAttr? getAttrBy?
 refine wpAny_bind (wpAny_mkText ?_)
 refine wpAny_bind (wpAny_attempt (zp9 hx hh fun h' e tk hk he=>?_))
 obtain ⟨o,ho,hc⟩:=he
 show wpAny _ _ (isInstance (.ref e) (.type "AttributeError") >>= _) _ _ _
 refine wpAny_bind (wpAny_isInstance (T := "AttributeError") (b:=true) ⟨o,ho,hc⟩ zlk ?_)
 simp only [if_true]
 exact wpAny_pure (h h' tk hk)
end
theorem ziD:entryFor table "dict.update.loop" = some Builtin.«dict.update.loop»:=entryFor_of_tree (by kernel_rfl)
theorem zeO:plainId "dict.update.loop" = true:=by decide +kernel
section
variable {prog:Program} {w:World} {A:Around} {E:Value->Shared->Prop} {s:Shared} {K:Type} [DecidableEq K] {knd:KeyKind prog w K}
theorem zkK {T:Addr} {key v:Value} {Q:List Value->Shared->Prop} (hT:IsTup s.heap T #[key,v]) (h:Q [key,v] s):wpAny (model prog w) A (Builtin.Dict.pairItems (.ref T)) Q E s:=by
 obtain ⟨o,h1,h2,n,h3⟩:=hT
 unfold Builtin.Dict.pairItems
 refine wpAny_bind (wpAny_typeOf (T := "tuple") ⟨o,h1,h2⟩ ?_)
 rw [if_pos (by decide)]
 refine wpAny_bind (wpAny_seqItems h1 h3 ?_)
 exact wpAny_pure h
noncomputable def zgN (ps:List (K × Value)):List (K × Value):=ps.foldl (fun acc p=>stored acc p.1 p.2) []
theorem zqi {D I ax:Addr} {items:Array Value} {ps:List (K × Value)} {R:Result->Shared->Prop} (hh:A.handled=none) (hne:ax≠I) (hDI:D≠I) (hDx:D≠ax) (hn:items.size=ps.length) (hz:ps.length<=sizeLine) (res:Value) {h₁:Heap}
  (hp:∀(i:Nat) (v:Value),items[i]? = some v->∃T k key x,v=.ref T/\T≠D/\T≠I/\ps[i]? = some (k,x)/\knd.is k key=true/\IsTup h₁ T #[key,x])
  (hR:∀h' tk,(∀b o,b≠D->b≠I->h₁.get? b=some o->h'.get? b=some o)->h'.DictOf knd D (zgN ps)->R (.ok (.ret res)) { s with heap:=h',toks:=tk }) :
  ∀(k i:Nat) (h:Heap) (tk:Nat) (t:Tok),items.size - i=k->i<=items.size->h.IsListIter I ax i/\h.IsList ax items->h.DictOf knd D (zgN (ps.take i))->(zgN (ps.take i)).length<=i->(∀b o,b≠D->b≠I->h₁.get? b=some o->h.get? b=some o) ->
   codeAny (model prog w) A (.builtin "dict.update.loop" ⟨[.ref D,.ref I,.int i t,res],[]⟩) R { s with heap:=h,toks:=tk }:=by
 have W:=Walks.list (prog:=prog) (w:=w) (A:=A.in1) hh I ax hne items
 intro k
 induction k with
 | zero=>
  intro i h tk t hk hi st hd hl hkeep
  have hin:i=items.size:=by omega
  subst hin
  refine codeAny_builtin ziD ?_
  rw [Around.under_plainId zeO _]
  show wpAny _ A.in1 (pyNext (.ref I) >>= _) _ _ _
  refine wpAny_bind (W.done { s with heap:=h,toks:=tk } _ _ st fun h' tk' he=>?_)
  show wpAny _ _ (Builtin.Dict.addKeywords D [] >>= _) _ _ _
  refine wpAny_bind (wpAny_pure (wpAny_pure ?_))
  refine hR h' tk' (fun b o h1 h2 e=>he b o (by simpa using h2) (hkeep b o h1 h2 e)) ?_
  rw [hn,List.take_length] at hd
  exact hd.at fun o e=>he D o (by simpa using hDI) e
 | succ k ih=>
  intro i h tk t hk hi st hd hl hkeep
  have hlt:i < items.size:=by omega
  refine codeAny_builtin ziD ?_
  rw [Around.under_plainId zeO _]
  show wpAny _ A.in1 (pyNext (.ref I) >>= _) _ _ _
  refine wpAny_bind (W.item i { s with heap:=h,toks:=tk } _ _ hlt st fun v h' tk' pv st' he=>?_)
  obtain ⟨T,kk,key,x,rfl,hTD,hTI,hps,hkey,hT⟩:=hp i v pv
  have hT':IsTup h' T #[key,x]:=by
   obtain ⟨o,h1,h2,n,h3⟩:=hT
   exact ⟨o,he T o (by simpa using hTI) (hkeep T o hTD hTI h1),h2,n,h3⟩
  have hd':h'.DictOf knd D (zgN (ps.take i)):=hd.at fun o e=>he D o (by simpa using hDI) e
  dsimp only
  refine wpAny_bind (wpAny_holding ?_)
  refine wpAny_bind (wpAny_tryCatch (zkK hT' ?_))
  show wpAny _ _ (holding [key,x] (dictSet D key x)) _ _ _
  refine wpAny_holding (wpAny_dictSet_pairs hkey hd' (fun h2 hd2 sb=>?_) (by omega))
  have et:zgN (ps.take (i + 1))=stored (zgN (ps.take i)) kk x:=by
   unfold zgN
   rw [List.take_succ,hps,Option.toList_some,List.foldl_append]; rfl
  have up:∀b o,b≠D->h'.get? b=some o->h2.get? b=some o:=fun b o hb e=>sb.extBut b o hb e
  refine wpAny_pure ⟨plainId_quiet zeO _,?_⟩
  rw [<-et] at hd2
  refine ih (i + 1) h2 _ _ (by omega) hlt (W.frame _ _ _ st' fun b hb o e=>up b o ?_ e) hd2 ?_ fun b o h1 h2' e=>up b o h1 (he b o (by simpa using h2') (hkeep b o h1 h2' e))
  ·simp at hb
   rcases hb with rfl | rfl
   ·exact hDI.symm
   ·exact hDx.symm
  ·rw [et]
   exact Nat.le_trans (stored_length_le _ _ _) (by omega)
theorem zqj {l:Addr} {its:Array Value} {n:Nat} {sl:Array (Option Value)} {ps:List (K × Value)} {Q:Value->Shared->Prop} (hh:A.handled=none) (hl:s.heap.get? l=some { cls:=.type "list",dict:=none,data:=.seq its n,slots:=sl }) (hn:its.size=ps.length) (hz:ps.length<=sizeLine)
  (hp:∀(i:Nat) (v:Value),its[i]? = some v->∃T k key x,v=.ref T/\ps[i]? = some (k,x)/\knd.is k key=true/\IsTup s.heap T #[key,x])
  (hQ:∀h' tk,(∀b o,s.heap.get? b=some o->h'.get? b=some o)->h'.DictOf knd s.heap.objs.size (zgN ps)->Q (.ref s.heap.objs.size) { s with heap:=h',toks:=tk }) :
  wpAny (model prog w) A (call (.type "dict") [.ref l]) Q E s:=by
 refine callType_codes (Q₁:=fun obj s₁=>obj=.ref s.heap.objs.size/\s₁ = { s with heap:=s.heap.push { cls:=.type "dict",data:=.dict #[] } }) F.kt_called_dict (F.kt_typeCall_dict_1 _) F.entry_dict_init (kt_code_dict_new _ ⟨rfl,rfl⟩) ?_
 rintro obj s₁ ⟨rfl,rfl⟩
 have hnew:(s.heap.push { cls:=.type "dict",data:=.dict #[] }).DictOf knd s.heap.objs.size []:=Heap.DictOf.new s.heap
 have hl':(s.heap.push { cls:=.type "dict",data:=.dict #[] }).get? l=some { cls:=.type "list",dict:=none,data:=.seq its n,slots:=sl }:=Heap.get?_push_of_some _ hl
 have hne:s.heap.objs.size≠l:=Nat.ne_of_gt (Heap.lt_size hl)
 refine ⟨hnew.typeIs,F.args_dict_init_2 _ _,?_⟩
 unfold Builtin.«dict.__init__»
 refine wpAny_bind ?_
 unfold Builtin.Dict.selfAndRest
 refine wpAny_bind (wpAny_notOrdered_dict hnew.typeIs ?_)
 show wpAny _ _ (pure (s.heap.objs.size,[Value.ref l])) _ _ _
 refine wpAny_pure ?_
 show wpAny _ _ (Builtin.Dict.updateFrom "dict.__init__" s.heap.objs.size (.ref l) [] .none) _ _ _
 unfold Builtin.Dict.updateFrom
 refine wpAny_bind (wpAny_typeOf (T := "list") ⟨_,hl',rfl⟩ ?_)
 rw [if_pos (by decide)]
 refine wpAny_bind (ziq hl' hh fun h2 tk2 k2=>?_)
 simp only [Option.isNone_none,if_true]
 refine wpAny_bind (wpAny_rule ?_)
 have hl2:h2.get? l=some { cls:=.type "list",dict:=none,data:=.seq its n,slots:=sl }:=k2 _ _ hl'
 have il:h2.IsList l its:=⟨_,hl2,rfl,n,rfl⟩
 have hd2:h2.DictOf knd s.heap.objs.size []:=hnew.keep k2
 refine wpAny_bind (wpAny_pyIter_list il ?_)
 refine wpAny_pure ⟨plainId_quiet zeO _,?_⟩
 have lt0:s.heap.objs.size < h2.objs.size:=by obtain ⟨o,es,ep,ho,_⟩:=hd2; exact Heap.lt_size ho
 have big:∀{b:Addr} {o:Obj},s.heap.get? b=some o->b≠s.heap.objs.size/\b≠h2.objs.size:=fun e=>⟨Nat.ne_of_lt (Heap.lt_size e),Nat.ne_of_lt (Nat.lt_trans (Heap.lt_size e) lt0)⟩
 have itr:(h2.push { cls:=.type "list_iterator",data:=.fields #[.ref l,.int 0 0] }).IsListIter h2.objs.size l 0:=⟨_,Heap.get?_push_size _ rfl,rfl,rfl⟩
 refine zqi (A:=A.in1) (knd:=knd) (ps:=ps) (s:={ s with heap:=h2,toks:=tk2 }) (items:=its) (D:=s.heap.objs.size) (I:=h2.objs.size) (ax:=l) (h₁:=s.heap) hh (big hl).2 (Nat.ne_of_lt lt0) hne hn hz .none (fun i v e=>?_) (fun h' tk hk hd=>?_) its.size 0 _ _ _ (by omega) (Nat.zero_le _) ⟨itr,il.push _⟩ ?_ (by simp [zgN]) (fun b o _ _ e=>Heap.get?_push_of_some _ (k2 b o (Heap.get?_push_of_some _ e)))
 ·obtain ⟨T,k,key,x,rfl,p1,p2,p3⟩:=hp i v e
  obtain ⟨o,ho,_⟩:=id p3
  exact ⟨T,k,key,x,rfl,(big ho).1,(big ho).2,p1,p2,p3⟩
 ·exact ⟨rfl,hQ h' tk (fun b o e=>hk b o (big e).1 (big e).2 e) hd⟩
 ·exact hd2.push _
end
end DL
end
section
namespace DL
open PySem PySem.Spec PyProof.Rows L2 PySem.W PySem.Calls
noncomputable def PrE (K:PySem.W.Frag) (H:Hp) (y:V) (kv:Key × V):Prop:=∃b,y=.ref b/\SqT K H b [kV kv.1,kv.2]
section
variable {X:Cx} {g:GE} {m:List Md} {a:Expr} {fl:Rho->Res (List D)} {pos p:Pos} {pins:List (Addr × Obj)} {σ:L2.St} {H:Hp} {s:Shared}
theorem zrb (I:L2.Inv X pins σ H s) {ys:List V} {kvs:List (Key × V)} (h:Paired (PrE X.K H) ys kvs):∀{its:List Value},Vals ys its->∃ps:List (Key × Value),KV kvs ps/\∀(i:Nat) (v:Value),its[i]? = some v->∃T k key x,v=.ref T/\ps[i]? = some (k,x)/\(zbg X.prog X.w).is k key=true/\IsTup s.heap T #[key,x]:=by
 induction h with
 | nil=>
  intro its r
  cases r
  exact ⟨[],.nil,fun i v e=>by simp at e⟩
 | @cons y kv ys kvs r t ih=>
  intro its rv
  cases rv with
  | @cons _ u _ us r1 t1=>
  obtain ⟨ps,h1,h2⟩:=ih t1
  obtain ⟨b,rfl,hb⟩:=r
  cases r1
  obtain ⟨jts,rj,pl,_⟩:=I.tuple hb
  cases rj with
  | @cons _ key _ js k1 k2=>
  cases k2 with
  | @cons _ x _ js2 k3 k4=>
  cases k4
  refine ⟨(kv.1,x)::ps,.cons ⟨rfl,k3⟩ h1,fun i v e=>?_⟩
  cases i with
  | zero=>
   rw [List.getElem?_cons_zero] at e
   cases e
   exact ⟨b,kv.1,key,x,rfl,rfl,zkV k1,pl⟩
  | succ i=>exact h2 i v (by simpa using e)
theorem zk5 (hc:X.calm=true):zcK X (.type "dict") (fun xs H Q=>∃p ys kvs,xs=[.ref p]/\SqL X.K H p ys/\Paired (PrE X.K H) ys kvs/\∀l,H l=none->Q (.ref l) (upd H l (.dK (zdK [] kvs)))):=by
 intro pins s σ H xs us Q I r h
 obtain ⟨p,ys,kvs,rfl,hq,hp,q⟩:=h
 obtain ⟨u,rfl,rx⟩:=L2.vals1 r
 cases rx
 obtain ⟨its,rv,⟨⟨c,d,dt,sl⟩,n,h1,h2,h3,h4⟩,hz⟩:=I.list hq
 cases h2; cases h3; cases h4
 obtain ⟨ps,k1,k2⟩:=zrb I hp rv
 have l1:=rv.length
 have l2:=Paired.length hp
 have l3:=KV.length k1
 refine zqj (knd:=zbg X.prog X.w) (ps:=ps) (I.ok.hd hc) h1 (by rw [List.size_toArray]; omega) (by omega) (fun i v e=>k2 i v (by simpa using e)) fun h' tk kp dd=>?_
 refine ⟨.ref s.heap.objs.size,_,I.laid (t':=tk) kp (Nat.le_refl _) (zoX (vs:=zgN ps) ?_ (beq_eq_false_iff_ne.mpr (Ne.symm (Nat.ne_of_lt I.big))) (KV.merge k1 .nil) dd),rfl,q _ (I.hok.fresh (Nat.le_refl _))⟩
 have:=zdh kvs []
 simp at this
 omega
noncomputable def zeP:List D->Option (List (Key × D))
 | []=>some []
 | .tup [k,v]::ds=>(keyD k).bind fun k'=>(zeP ds).map ((k',v)::·)
 | _=>none
noncomputable def zof:List D->Option D
 | [.lst ds]=>(zeP ds).map fun kvs=>.dic (kvs.foldl (fun acc kv=>putD acc kv.1 kv.2) [])
 | _=>none
theorem zjW {K:PySem.W.Frag} {G:GH} {H:Hp} (gk:GOk K G H):∀{ds:List D} {xs:List V} {kvs:List (Key × D)},RGs K G xs ds->zeP ds=some kvs->∃vs,Paired (PrE K H) xs vs/\RKs K G vs kvs
 | [],_,_,r,e=>by
  cases r; cases e
  exact ⟨[],.nil,.nil⟩
 | d::ds,_,kvs,r,e=>by
  cases r with
  | @cons x _ xs _ r1 t=>
  unfold zeP at e
  split at e
  ·rename_i q; cases q
  ·rename_i k v ds' q
   cases q
   cases ek:keyD k with
   | none=>rw [ek] at e; cases e
   | some k'=>
    cases ep:zeP ds with
    | none=>rw [ek,ep] at e; cases e
    | some kvs'=>
     rw [ek,ep] at e
     cases e
     obtain ⟨vs,h1,h2⟩:=zjW gk t ep
     obtain ⟨b,ys,rfl,hs,rs⟩:=r1.tup gk
     cases rs with
     | @cons y1 _ _ _ a1 t1=>
     cases t1 with
     | @cons y2 _ _ _ a2 t2=>
     cases t2
     have:=zka gk (.inl a1) ek
     subst this
     exact ⟨(k',y2)::vs,.cons ⟨b,rfl,hs⟩ h1,.cons ⟨rfl,a2⟩ h2⟩
  ·cases e
theorem zsb {K:PySem.W.Frag} {G:GH} {vs:List (Key × V)} {kvs:List (Key × D)} (h:RKs K G vs kvs):∀{as:List (Key × V)} {bs:List (Key × D)},RKs K G as bs->RKs K G (zdK as vs) (kvs.foldl (fun acc kv=>putD acc kv.1 kv.2) bs):=by
 induction h with
 | nil=>intro as bs r; exact r
 | @cons p q vs kvs r t ih=>
  intro as bs r'
  obtain ⟨p1,p2⟩:=p
  obtain ⟨q1,q2⟩:=q
  have e:p1=q1:=r.1
  subst e
  exact ih (zpx r' r.2)
theorem zpW (hc:X.calm=true) (hg:Gl X "dict") (hm:X.mg "dict" = none) (ha:SAB X g m [a] fl) (hs:starEach [a] X.env=(false,eval a X.env)::starEach [] X.env:=by rfl) :
  SO X g m (.Call (.Name "dict" p) [a] [] pos) (fC fl zof):=by
 refine zpk (R:=fun xs H Q=>∃p ys kvs,xs=[.ref p]/\SqL X.K H p ys/\Paired (PrE X.K H) ys kvs/\∀l,H l=none->Q (.ref l) (upd H l (.dK (zdK [] kvs)))) ?_ (zcx (zk5 hc) hg hm (by first | exact boot_dict | rfl) ha (by decide) (by decide) hs rfl)
 intro G H vs ds d Q gk rs e q
 unfold zof at e
 split at e
 ·rename_i zs
  cases ek:zeP zs with
  | none=>rw [ek] at e; cases e
  | some kvs=>
   rw [ek] at e
   cases e
   cases rs with
   | cons r1 t=>
   cases t
   obtain ⟨b,xs,rfl,hs,r2⟩:=r1.lst gk
   obtain ⟨ws,h1,h2⟩:=zjW gk r2 ek
   exact ⟨b,xs,ws,rfl,hs,h1,fun l hl=>q l G _ (Grow.new gk hl _) hl ⟨gk.isN hl,.dic zaq (zsb h2 .nil)⟩⟩
 ·cases e
end
end DL
end
section
namespace DL
open PySem PySem.Spec PyProof.Rows L2
open HT (sIx)
section
variable {prog:Program} {w:World} {A:Around} {E:Value->Shared->Prop} {s:Shared}
end
section
variable {X:Cx} {g:GE} {m:List Md} {e:Expr} {f fa:FE} {pos p2:Pos}
end
end DL
end
section
namespace DL
open PySem PySem.Spec PyProof.Rows L2
noncomputable def maxZ (ks:List Int):Int:=ks.getD (argBest (fun i j=>decide (ks.getD i 0 > ks.getD j 0)) (ks.length - 1)) 0
theorem zg8 (f:Nat->Int):∀k,argBest (fun i j=>decide (f i > f j)) k<=k/\∀i,i<=k->f i<=f (argBest (fun i j=>decide (f i > f j)) k)
 | 0=>⟨Nat.le_refl _,fun i hi=>by
   have:i=0:=by omega
   subst this
   exact Int.le_refl _⟩
 | k + 1=>by
  obtain ⟨h1,h2⟩:=zg8 f k
  rw [argBest.eq_2]
  by_cases h:f (k + 1) > f (argBest (fun i j=>decide (f i > f j)) k)
  ·rw [if_pos (by simpa using h)]
   refine ⟨Nat.le_refl _,fun i hi=>?_⟩
   by_cases z:i=k + 1
   ·subst z; exact Int.le_refl _
   ·have:=h2 i (by omega); omega
  ·rw [if_neg (by simpa using h)]
   refine ⟨by omega,fun i hi=>?_⟩
   by_cases z:i=k + 1
   ·subst z; omega
   ·exact h2 i (by omega)
theorem znT {ks:List Int} (h:ks≠[]):maxZ ks∈ks:=by
 have hp:=List.length_pos_iff.mpr h
 have h1:=(zg8 (fun i=>ks.getD i 0) (ks.length - 1)).1
 unfold maxZ
 have hlt:argBest (fun i j=>decide (ks.getD i 0 > ks.getD j 0)) (ks.length - 1) < ks.length:=by omega
 rw [List.getD_eq_getElem?_getD,List.getElem?_eq_getElem hlt]
 exact List.getElem_mem _
theorem znv (A:Around) (s:Shared) (a:Int) (t:Tok) (c:Int) (u:Tok) (prog:Program) (w:World) (E:Value->Shared->Prop) (Q:Value->Shared->Prop) (h:Q (.bool (decide (a > c))) s) :
  wpAny (model prog w) A (richCompare .Gt (.int a t) (.int c u)) Q E s:=
 (PyProof.Rows.gt_int h:wpAny (model prog w) A (compareOp .Gt (.int a t) (.int c u)) Q E s)
section
variable {X:Cx} {pins:List (Addr × Obj)} {σ:L2.St} {H:Hp} {s:Shared}
theorem zmV (hc:X.calm=true):zcK X (.builtin "max") (fun xs H Q=>∃(p:Addr) (ks:List Int),xs=[.ref p]/\SqL X.K H p (ks.map V.int)/\ks≠[]/\Q (.int (maxZ ks)) H):=by
 intro pins s σ H xs us Q I r h
 obtain ⟨p,ks,rfl,hq,hne,q⟩:=h
 obtain ⟨u,rfl,rx⟩:=vals1 r
 cases rx
 obtain ⟨its,rv,pl,hz⟩:=I.list hq
 have hl:=rv.length
 rw [List.length_map] at hl
 have hA:X.A.in1.handled=none:=I.ok.hd hc
 have hp:=List.length_pos_iff.mpr hne
 have gi:∀i v,its[i]? = some v->∃t,v=Value.int (ks.getD i 0) t:=fun i v hv=>by
  have hi:i < its.length:=(List.getElem?_eq_some_iff.mp hv).1
  have hki:i < (ks.map V.int).length:=by rw [List.length_map]; omega
  obtain ⟨u,h1,h3⟩:=rv.get (i:=i) (x:=(ks.map V.int)[i]) (List.getElem?_eq_getElem hki)
  rw [hv] at h1
  cases h1
  rw [List.getElem_map] at h3
  have hki':i < ks.length:=by omega
  rw [List.getD_eq_getElem?_getD,List.getElem?_eq_getElem hki']
  exact h3
 refine call_max_walkS (PySem.Flt.iter_list_ pl.isList fun s₂ e2 hi hlt hn2=>?_)
 refine ⟨s.heap.objs.size,[s.heap.objs.size,p],[s.heap.objs.size],_,its.toArray.size,_,_,fun i j=>decide (ks.getD i 0 > ks.getD j 0),rfl,(Walks.list hA _ p hn2 its.toArray).toS,hi,hlt,by rw [List.size_toArray]; omega,?_,fun v s' hv M=>?_⟩
 ·intro i j vi vj s' Q' E' h1 h2 hq'
  obtain ⟨t1,rfl⟩:=gi i vi (by simpa using h1)
  obtain ⟨t2,rfl⟩:=gi j vj (by simpa using h2)
  exact znv _ s' _ t1 _ t2 X.prog X.w E' Q' hq'
 ·have hsz:its.toArray.size - 1=ks.length - 1:=by rw [List.size_toArray]; omega
  rw [hsz] at hv
  obtain ⟨t,rfl⟩:=gi _ v (by simpa using hv)
  subst e2
  have ne:∀b o,s.heap.get? b=some o->¬ b∈[s.heap.objs.size]:=fun b o e z=>by
   have:=List.mem_singleton.mp z
   subst this
   exact absurd (Heap.lt_size e) (Nat.lt_irrefl _)
  obtain ⟨h',g',d',tk,os'⟩:=s'
  have e1:g'=s.gens:=M.gens
  have e3:d'=s.drawn:=M.drawn
  have e4:os'=s.os:=M.os
  subst e1 e3 e4
  exact ⟨.int (maxZ ks),H,Inv.keptN I (fun b o _ e=>M.heap b o (ne b o e) (Heap.get?_push_of_some _ e)) (fun m ⟨o,es,ep,e,z⟩=>⟨o,es,ep,M.heap _ _ (ne _ _ e) (Heap.get?_push_of_some _ e),z⟩) tk,⟨_,rfl⟩,q⟩
end
noncomputable def zkO:List D->Option D
 | [.lst (d::ds)]=>(zbX (d::ds)).map fun ks=>.int (maxZ ks)
 | _=>none
theorem zp4 {K:PySem.W.Frag}:zjE K (fun xs H Q=>∃(p:Addr) (ks:List Int),xs=[.ref p]/\SqL K H p (ks.map V.int)/\ks≠[]/\Q (.int (maxZ ks)) H) zkO:=by
 intro G H vs ds d Q gk rs e q
 unfold zkO at e
 split at e
 ·rename_i z zs
  cases ek:zbX (z::zs) with
  | none=>rw [ek] at e; cases e
  | some ks=>
   rw [ek] at e; cases e
   cases rs with
   | cons r1 t=>
    cases t
    obtain ⟨b,xs,rfl,s,r⟩:=r1.lst gk
    have hl:=Paired.length r
    have ex:=zfP gk r ek
    subst ex
    refine ⟨b,ks,rfl,s,?_,q _ G H (Grow.refl gk) (.scl (.int _))⟩
    rintro rfl
    simp at hl
 ·cases e
section
variable {X:Cx} {g:GE} {m:List Md} {e:Expr} {es:List Expr} {fl:Rho->Res (List D)} {pos p:Pos}
theorem zqS (hc:X.calm=true) (hg:Gl X "max") (hm:X.mg "max" = none) (ha:SAB X g m (e::es) fl) (he:starEach (e::es) X.env=(false,eval e X.env)::starEach es X.env:=by rfl) (hpl:(backTo pos (starEach es X.env)).any (·.1)=false:=by rfl) :
  SE X g m (.Call (.Name "max" p) (e::es) [] pos) (fC fl zkO):=s_cb zp4 (zcT (zmV hc) hg hm PyProof.Rows.boot_max ha (by decide) (by decide) he hpl)
end
end DL
end
section
namespace DL
open PySem PySem.Spec PyProof.Rows L2
noncomputable def swpF (m:List Md) (i:Nat) (f fb fc:FE):FS:=fun r=>onE m r (f r) fun v=>match v with
 | .tup [v1,v2]=>(match r[i]? with
  | some (some d)=>onE m r (fb r) fun k1=>(match stoD d k1 v1 with
   | some d1=>onE m (r.set i (some d1)) (fc (r.set i (some d1))) fun k2=>(match stoD d1 k2 v2 with
    | some d2=>.nx ((r.set i (some d1)).set i (some d2))
    | none=>.stuck)
   | none=>.stuck)
  | _=>.stuck)
 | _=>.stuck
section
variable {X:Cx} {g:GE} {m mb:List Md} {e b c:Expr} {f fb fc:FE} {pos p1 p2 p3 p4 p5:Pos} {ro:Bool} {x:Str}
theorem zsQ (i:Nat) {kt:Nat} (hc:X.calm=true) (hu:X.A.units + 1 < cLine) (hm:m[i]? = some .ow) (hN:X.N[i]? = some x) (hv:Vis X.env.scope x) (hb:SB X g m b fb) (hcc:SB X g m c fc) (he:SE X g m e f)
  (hd:(x == ("__debug__" : Str))=false:=by decide) (hcd:(x == ("__classdict__" : Str))=false:=by decide)
  (ha:∀v,assign (.Subscript (.Name x p1) b p2) X.env v=(do
   let ov <-holding [v] (eval (.Name x p1) X.env)
   let iv <-holding [v,ov] (eval b X.env)
   standAt p2
   holding [v,ov,iv] (setItem ov iv v)
   release [v,ov,iv] []):=by intro _; rfl)
  (ha2:∀v,assign (.Subscript (.Name x p3) c p4) X.env v=(do
   let ov <-holding [v] (eval (.Name x p3) X.env)
   let iv <-holding [v,ov] (eval c X.env)
   standAt p4
   holding [v,ov,iv] (setItem ov iv v)
   release [v,ov,iv] []):=by intro _; rfl)
  (hs:swapsWithSole [.Tuple [.Subscript (.Name x p1) b p2,.Subscript (.Name x p3) c p4] kt p5] e pos.line X.env=pure false:=by rfl) (hw:swappedStores [.Tuple [.Subscript (.Name x p1) b p2,.Subscript (.Name x p3) c p4] kt p5] e X.env=pure none:=by rfl)
  (h1:(assignEach [.Tuple [.Subscript (.Name x p1) b p2,.Subscript (.Name x p3) c p4] kt p5] X.env).map (·.2)=[assign (.Tuple [.Subscript (.Name x p1) b p2,.Subscript (.Name x p3) c p4] kt p5) X.env]:=by rfl)
  (hn:(assignEach [.Subscript (.Name x p1) b p2,.Subscript (.Name x p3) c p4] X.env).length=2:=by rfl) (hst:(assignEach [.Subscript (.Name x p1) b p2,.Subscript (.Name x p3) c p4] X.env).findIdx? (·.1)=none:=by rfl)
  (hs1:(assignEach [.Subscript (.Name x p1) b p2,.Subscript (.Name x p3) c p4] X.env).map (·.2)=assign (.Subscript (.Name x p1) b p2) X.env::(assignEach [.Subscript (.Name x p3) c p4] X.env).map (·.2):=by rfl)
  (hs2:(assignEach [.Subscript (.Name x p3) c p4] X.env).map (·.2)=assign (.Subscript (.Name x p3) c p4) X.env::(assignEach [] X.env).map (·.2):=by rfl) :
  SS X g ro mb m (.Assign [.Tuple [.Subscript (.Name x p1) b p2,.Subscript (.Name x p3) c p4] kt p5] e pos) (swpF m i f fb fc) m:=by
 refine ⟨rfl,PS.imp (zoC he (zoE hc (zhy (zlU (zfx hN hv hd hcd) hb (PSet.or zhq (ziT hu)) ha) (zhy (zlU (zfx hN hv hd hcd) hcc (PSet.or zhq (ziT hu)) ha2) zlT hs2) hs1) hn hst) hs hw h1) fun D0 σ H ⟨r,G,si,k⟩=>⟨r,G,si,?_⟩⟩
 refine zag (zbz si rfl k) fun v k1 vv G1 H1 w1 rv=>?_
 split at k1
 ·rename_i v1 v2
  obtain ⟨a0,xs,rfl,s0,rs⟩:=rv.tup (si.grow w1).gok
  cases rs with
  | @cons y1 _ ys _ rv1 rs=>
   cases rs with
   | @cons y2 _ ys _ rv2 rs=>
    cases rs
    refine ⟨a0,_,rfl,s0,rfl,_,_,rfl,?_⟩
    cases er:r[i]? with
    | none=>simp only [er] at k1; exact (show False from k1).elim
    | some oo=>
     cases oo with
     | none=>simp only [er] at k1; exact (show False from k1).elim
     | some d=>
      simp only [er] at k1
      obtain ⟨a,h1,h2,h3⟩:=(si.grow w1).mut hm er
      refine ⟨_,h1,r,G1,si.grow w1,?_⟩
      refine zag (zbz (m:=m) (si.grow w1) rfl (oTo.gle k1 w1.ge)) fun kk k2 kv G2 H2 w2 rk=>?_
      cases es:stoD d kk v1 with
      | none=>simp only [es] at k2; exact (show False from k2).elim
      | some d1=>
       simp only [es] at k2
       obtain ⟨a',h1',h2',h3'⟩:=((si.grow w1).grow w2).mut hm er
       rw [h1] at h1'; cases h1'
       refine zll w2.ok h2' rk (rv1.mono w2.ge) es fun o' ob=>?_
       have si2:=h3' o' d1 ob
       have er2:(r.set i (some d1))[i]? = some (some d1):=by
        rw [List.getElem?_set_self]
        exact (List.getElem?_eq_some_iff.mp er).1
       obtain ⟨b',g1,g2,g3⟩:=si2.mut hm er2
       refine ⟨_,_,rfl,_,g1,_,G2,si2,?_⟩
       refine zag (zbz (m:=m) si2 rfl (oTo.gle k2 w2.ge)) fun kk2 k3 kv2 G3 H3 w3 rk2=>?_
       cases es2:stoD d1 kk2 v2 with
       | none=>simp only [es2] at k3; exact (show False from k3).elim
       | some d2=>
        simp only [es2] at k3
        obtain ⟨b'',g1',g2',g3'⟩:=(si2.grow w3).mut hm er2
        rw [g1] at g1'; cases g1'
        exact zll w3.ok g2' rk2 ((rv2.mono w2.ge).mono w3.ge) es2 fun o'' ob2=>⟨rfl,k3 σ G3 _ w3.ge (g3' o'' d2 ob2)⟩
 ·exact (show False from k1).elim
end
end DL
end
section
namespace DL
open PySem PySem.Spec PyProof.Rows L2
noncomputable def zdE (g:GE) (H:Hp) (fp:List Addr) (i:Nat) (p:Addr):GE:=
 ⟨g.gh,fun b=>if b∈fp then H b else g.h0 b,fun j=>if j=i then some (some (V.ref p),none) else g.hd j⟩
theorem zke {g:GE} {H H':Hp} {fp:List Addr} {i:Nat} {p:Addr} (h:∀b∈fp,H' b=H b):zdE g H' fp i p=zdE g H fp i p:=by
 unfold zdE
 congr 1
 funext b
 by_cases hb:b∈fp
 ·rw [if_pos hb,if_pos hb,h b hb]
 ·rw [if_neg hb,if_neg hb]
noncomputable def RowR (K:PySem.W.Frag) (G:GH) (H:Hp) (b:Addr) (ds:List D):Prop:=∃xs,H b=some (.lst xs)/\RGs K G xs ds
structure LRw (K:PySem.W.Frag) (G:GH) (H:Hp) (p:Addr) (as:List Addr) (w:List (List D)):Prop where
 out:H p=some (.lst (as.map V.ref))
 nd:(p::as).Nodup
 un:∀b∈p::as,G b=none
 rw:Paired (RowR K G H) as w
theorem RowR.mono {K:PySem.W.Frag} {G G':GH} {H H':Hp} {b:Addr} {ds:List D} (h:RowR K G H b ds) (ge:Gle G G') (he:H' b=H b):RowR K G' H' b ds:=by
 obtain ⟨xs,h1,h2⟩:=h
 exact ⟨xs,by rw [he]; exact h1,h2.mono ge⟩
theorem zjX {α β:Type} {F F':α->β->Prop} {l:List α} {r:List β} (h:Paired F l r) (f:∀a∈l,∀b,F a b->F' a b):Paired F' l r:=by
 induction h with
 | nil=>exact .nil
 | cons h _ ih=>exact .cons (f _ List.mem_cons_self _ h) (ih fun a ha=>f a (List.mem_cons_of_mem _ ha))
theorem LRw.isS {K:PySem.W.Frag} {G:GH} {H:Hp} {p:Addr} {as:List Addr} {w:List (List D)} (h:LRw K G H p as w) {b:Addr} (hb:b∈p::as):H b≠none:=by
 rcases List.mem_cons.mp hb with rfl | hb
 ·rw [h.out]; simp
 ·have:∀{as:List Addr} {w:List (List D)},Paired (RowR K G H) as w->b∈as->H b≠none:=fun {as w} q hb=>by
   induction q with
   | nil=>cases hb
   | cons r _ ih=>
    rcases List.mem_cons.mp hb with rfl | hb
    ·obtain ⟨xs,e,_⟩:=r; rw [e]; simp
    ·exact ih hb
  exact this h.rw hb
theorem LRw.mono {K:PySem.W.Frag} {G G':GH} {H H':Hp} {p:Addr} {as:List Addr} {w:List (List D)} (h:LRw K G H p as w) (ge:Gle G G') (he:∀b∈p::as,H' b=H b) (un:∀b∈p::as,G' b=none):LRw K G' H' p as w:=
 ⟨by rw [he p List.mem_cons_self]; exact h.out,h.nd,un,zjX h.rw fun b hb ds r=>r.mono ge (he b (List.mem_cons_of_mem _ hb))⟩
noncomputable def SI2 (X:Cx) (g:GE) (i:Nat) (m:List Md) (r:Rho) (w:List (List D)) (G:GH) (st:L2.St) (H:Hp):Prop:=
 ∃p as,LRw X.K G H p as w/\(∀b∈p::as,g.h0 b=none)/\SI X (zdE g H (p::as) i p) m r G st H/\m[i]? = some .bw
section
variable {X:Cx} {g:GE} {i:Nat} {m m' m1:List Md} {r r':Rho} {w:List (List D)} {G G':GH} {σ σ':L2.St} {H H':Hp}
theorem zkZ {p:Addr} {as:List Addr} (R:LRw X.K G H p as w) (h0:∀b∈p::as,g.h0 b=none) (si:SI X (zdE g H (p::as) i p) m r G σ H) (le:Gle G G') (si':SI X (zdE g H (p::as) i p) m' r' G' σ' H') (hm:m'[i]? = some .bw):SI2 X g i m' r' w G' σ' H':=by
 have he:∀b∈p::as,H' b=H b:=fun b hb=>by
  have hs:=R.isS hb
  cases e:H b with
  | none=>exact absurd e hs
  | some o=>
   have:(zdE g H (p::as) i p).h0 b=some o:=by show (if b∈p::as then H b else g.h0 b)=_; rw [if_pos hb]; exact e
   rw [si'.old b o this]
 have un:∀b∈p::as,G' b=none:=fun b hb=>by
  have h:(zdE g H (p::as) i p).h0 b≠none:=by show (if b∈p::as then H b else g.h0 b)≠_; rw [if_pos hb]; exact R.isS hb
  have e1:=si'.gf b h
  have e2:=si.gf b h
  rw [e1,<-e2]; exact R.un b hb
 exact ⟨p,as,R.mono le he un,h0,by rw [zke he]; exact si',hm⟩
noncomputable abbrev FS2:=Rho->List (List D)->Option (Rho × List (List D))
variable {st:Stmt} {sts:List Stmt} {ro:Bool} {mb:List Md} {s1:FS} {f1 f2:FS2} {tg iter:Expr} {pos:Pos}
theorem zqh {K:PySem.W.Frag} {H:Hp}:∀{as:List Addr} {w:List (List D)} {G:GH},GOk K G H->Paired (RowR K G H) as w->as.Nodup->(∀b∈as,G b=none)->∃G',Gle G G'/\(∀b,b∉as->G' b=G b)/\GOk K G' H/\Paired (fun b ds=>G' b=some (.lst ds)) as w:=by
 intro as
 induction as with
 | nil=>
  intro w G gk h _ _
  cases h
  exact ⟨G,Gle.refl G,fun _ _=>rfl,gk,.nil⟩
 | cons b as ih=>
  intro w G gk h nd un
  cases h with
  | @cons _ ds _ w r t=>
   rw [List.nodup_cons] at nd
   have hb:=un b List.mem_cons_self
   obtain ⟨xs,e,rs⟩:=r
   have g1:GOk K (gset G b (.lst ds)) H:=gk.gset hb (.lst (.inl e) rs)
   obtain ⟨G',l,o,g,q⟩:=ih g1 (zjX t fun c hc ds r=>r.mono (zbk hb) rfl) nd.2 fun c hc=>by
    rw [zbA (by rintro rfl; exact nd.1 hc)]; exact un c (List.mem_cons_of_mem _ hc)
   refine ⟨G',Gle.trans (zbk hb) l,fun c hc=>?_,g,.cons (l _ _ zaL) q⟩
   rw [o c fun z=>hc (List.mem_cons_of_mem _ z),zbA (by rintro rfl; exact hc List.mem_cons_self)]
theorem zlV {G:GH} {as:List Addr} {w:List (List D)} {b:Addr} (hb:b∈as) (q:Paired (fun b ds=>G b=some (.lst ds)) as w):∃ds,G b=some (.lst ds):=by
 induction q with
 | nil=>cases hb
 | cons h _ ih=>
  rcases List.mem_cons.mp hb with rfl | hb
  ·exact ⟨_,h⟩
  ·exact ih hb
theorem zkd {fp:List Addr} {p:Addr} {d0:D} (si:SI X (zdE g H fp i p) m r G σ H) (hm:m[i]? = some .bw) (h0:∀b∈fp,g.h0 b=none) (hS:∀b∈fp,H b≠none) (hb:∀j,j≠i->m[j]?≠some .bw) (le:Gle G G') (g2:GOk X.K G' H) (out:∀b,b∉fp->G' b=G b) (hd:G' p=some d0) :
  SI X g (m.set i .sh) (r.set i (some d0)) G' σ H:=by
 have hlt:i < m.length:=(List.getElem?_eq_some_iff.mp hm).1
 have hst:σ[i]? = some (some (V.ref p)):=(si.lk i (some (V.ref p),none) (by show (if i=i then _ else _)=_; rw [if_pos rfl]) hm).1
 have h0':∀b,b∉fp->(zdE g H (fp) i p).h0 b=g.h0 b:=fun b hb=>by show (if b∈fp then H b else g.h0 b)=_; rw [if_neg hb]
 have h0i:∀b,b∈fp->(zdE g H (fp) i p).h0 b≠none:=fun b hb=>by show (if b∈fp then H b else g.h0 b)≠_; rw [if_pos hb]; exact hS b hb
 have nin:∀b,g.h0 b≠none->b∉fp:=fun b h z=>h (h0 b z)
 have mne:∀{j x},i≠j->(m.set i .sh)[j]? = some x->m[j]? = some x:=fun hij h=>by rw [List.getElem?_set_ne hij] at h; exact h
 refine ⟨g2,fun a o e=>?_,fun a d e=>le a d (si.ge a d e),fun a h=>?_,by simpa using si.lm,by simpa using si.lr,fun j d h1 h2=>?_,fun j d h1 h2=>?_,fun j d h1 h2=>?_,fun j k a d e hjk h1 h2 m1 m2 z1 z2=>?_,fun j o hj hm'=>?_⟩
 ·exact si.old a o (by rw [h0' a (nin a (by rw [e]; simp))]; exact e)
 ·have hn:=nin a h
  rw [out a hn]
  exact si.gf a (by rw [h0' a hn]; exact h)
 ·by_cases hij:i=j
  ·subst hij
   rw [List.getElem?_set_self (by rw [si.lr,<-si.lm]; exact hlt)] at h1
   cases h1
   exact ⟨_,hst,.ref hd⟩
  ·rw [List.getElem?_set_ne hij] at h1
   obtain ⟨v,y1,y2⟩:=si.sh j d h1 (mne hij h2)
   exact ⟨v,y1,y2.mono le⟩
 ·by_cases hij:i=j
  ·subst hij; rw [List.getElem?_set_self hlt] at h2; cases h2
  ·rw [List.getElem?_set_ne hij] at h1
   obtain ⟨a,y1,y2,y3⟩:=si.ow j d h1 (mne hij h2)
   have hn:a∉fp:=fun z=>h0i a z y3
   exact ⟨a,y1,⟨by rw [out a hn]; exact y2.un,y2.ob.mono le fun _ z=>z⟩,by rw [<-h0' a hn]; exact y3⟩
 ·by_cases hij:i=j
  ·subst hij; rw [List.getElem?_set_self hlt] at h2; cases h2
  ·exact absurd (mne hij h2) (hb j (Ne.symm hij))
 ·have hij:i≠j:=by rintro rfl; rw [List.getElem?_set_self hlt] at m1; cases m1
  have hik:i≠k:=by rintro rfl; rw [List.getElem?_set_self hlt] at m2; cases m2
  rw [List.getElem?_set_ne hij] at h1
  rw [List.getElem?_set_ne hik] at h2
  exact si.dis j k a d e hjk h1 h2 (mne hij m1) (mne hik m2) z1 z2
 ·by_cases hij:i=j
  ·subst hij; rw [List.getElem?_set_self hlt] at hm'; cases hm'
  ·exact absurd (mne hij hm') (hb j (Ne.symm hij))
theorem SI2.frz (s:SI2 X g i m r w G σ H) (hb:∀j,j≠i->m[j]?≠some .bw):∃G',Gle G G'/\(∀b d,G b=none->G' b=some d->∃ds,d=.lst ds)/\SI X g (m.set i .sh) (r.set i (some (.lst (w.map D.lst)))) G' σ H:=by
 obtain ⟨p,as,R,h0,si,hm⟩:=s
 have nd:=List.nodup_cons.mp R.nd
 obtain ⟨G1,l1,o1,g1,q1⟩:=zqh si.gok R.rw nd.2 fun b hb=>R.un b (List.mem_cons_of_mem _ hb)
 have hp1:G1 p=none:=by rw [o1 p nd.1]; exact R.un p List.mem_cons_self
 have rs:RGs X.K G1 (as.map V.ref) (w.map D.lst):=by
  have:∀{as:List Addr} {w:List (List D)},Paired (fun b ds=>G1 b=some (.lst ds)) as w->RGs X.K G1 (as.map V.ref) (w.map D.lst):=fun {as w} q=>by
   induction q with
   | nil=>exact .nil
   | cons h _ ih=>exact .cons (.ref h) ih
  exact this q1
 have g2:GOk X.K (gset G1 p (.lst (w.map D.lst))) H:=g1.gset hp1 (.lst (.inl R.out) rs)
 have le:Gle G (gset G1 p (.lst (w.map D.lst))):=Gle.trans l1 (zbk hp1)
 have out:∀b,b∉p::as->gset G1 p (.lst (w.map D.lst)) b=G b:=fun b hb=>by
  rw [zbA (by rintro rfl; exact hb List.mem_cons_self),o1 b fun z=>hb (List.mem_cons_of_mem _ z)]
 refine ⟨_,le,fun b d hn e=>?_,zkd si hm h0 (fun b hb=>R.isS hb) hb le g2 out zaL⟩
 by_cases hbp:b=p
 ·subst hbp; rw [zaL] at e; cases e; exact ⟨_,rfl⟩
 ·rw [zbA hbp] at e
  by_cases hba:b∈as
  ·obtain ⟨ds,e1⟩:=zlV hba q1
   rw [e1] at e; cases e; exact ⟨_,rfl⟩
  ·rw [o1 b hba,hn] at e; cases e
end
end DL
end
section
namespace DL
open PySem PySem.Spec PyProof.Rows L2
noncomputable def RO (K:PySem.W.Frag) (H2:Hp) (p:Addr) (G:GH) (H:Hp) (ws:List V) (ds:List D):Prop:=Paired (fun v d=>∃b,v=V.ref b/\H2 b=none/\b≠p/\Own K G H b d) ws ds/\ws.Nodup
section
variable {K:PySem.W.Frag} {H2:Hp} {p:Addr} {G G':GH} {H H':Hp} {ws:List V} {ds:List D}
theorem RO.grow (h:RO K H2 p G H ws ds) (w:Grow K G H G' H'):RO K H2 p G' H' ws ds:=
 ⟨Paired.mono (fun v d ⟨b,e,h1,h2,h3⟩=>⟨b,e,h1,h2,h3.mono w⟩) h.1,h.2⟩
theorem RO.upd {o:HO} (h:RO K H2 p G H ws ds):RO K H2 p G (L2.upd H p o) ws ds:=
 ⟨Paired.mono (fun v d ⟨b,e,h1,h2,h3⟩=>⟨b,e,h1,h2,h3.un,h3.ob.mono (fun _ _ z=>z) fun _ z=>by rw [zaA h2]; exact z⟩) h.1,h.2⟩
end
end DL
end
section
namespace DL
open PySem PySem.Spec PyProof.Rows L2
section
variable {X:Cx} {g:GE} {m mb:List Md} {scope:Scope} {N':List Str} {nl:Nat} {cap:List Nat} {elt tg iter:Expr} {ifs:List Expr} {pos pos' spos:Pos} {fi:FI} {ft:FT} {q:FQ} {fe:FE} {ro:Bool}
end
end DL
end
section
namespace DL
open PySem PySem.Spec PyProof.Rows L2
section
variable {X:Cx} {g:GE} {i:Nat} {m m' m1:List Md} {r r':Rho} {w:List (List D)} {G G':GH} {σ σ':L2.St} {H H':Hp}
theorem SI.row {p:Addr} {as:List Addr} (R:LRw X.K G H p as w) (si:SI X (zdE g H (p::as) i p) m r G σ H) (hm:m[i]? = some .bw) (hb:∀j,j≠i->m[j]?≠some .bw) {b:Addr} (hbm:b∈p::as) (o:HO):SI X (zdE g (upd H b o) (p::as) i p) m r G σ (upd H b o):=by
 have un:=R.un b hbm
 have h0':∀c,c∉p::as->(zdE g H (p::as) i p).h0 c=g.h0 c:=fun c hc=>by show (if c∈p::as then H c else g.h0 c)=_; rw [if_neg hc]
 have h0i:∀c,c∈p::as->(zdE g H (p::as) i p).h0 c=H c:=fun c hc=>by show (if c∈p::as then H c else g.h0 c)=_; rw [if_pos hc]
 have k0':∀c,c∉p::as->(zdE g (upd H b o) (p::as) i p).h0 c=g.h0 c:=fun c hc=>by show (if c∈p::as then _ else g.h0 c)=_; rw [if_neg hc]
 have k0i:∀c,c∈p::as->(zdE g (upd H b o) (p::as) i p).h0 c=upd H b o c:=fun c hc=>by show (if c∈p::as then upd H b o c else g.h0 c)=_; rw [if_pos hc]
 refine ⟨fun c d e=>?_,fun c u e=>?_,si.ge,fun c h=>?_,si.lm,si.lr,si.sh,fun j d h1 h2=>?_,fun j d h1 h2=>?_,si.dis,si.lk⟩
 ·have hc:c≠b:=by rintro rfl; rw [un] at e; cases e
  exact (si.gok c d e).mono (fun _ _ z=>z) fun u z=>by rw [zaA hc]; exact z
 ·by_cases hc:c∈p::as
  ·rw [k0i c hc] at e; exact e
  ·rw [k0' c hc] at e
   have hcb:c≠b:=by rintro rfl; exact hc hbm
   rw [zaA hcb]
   exact si.old c u (by rw [h0' c hc]; exact e)
 ·by_cases hc:c∈p::as
  ·exact si.gf c (by rw [h0i c hc]; exact R.isS hc)
  ·rw [k0' c hc] at h
   exact si.gf c (by rw [h0' c hc]; exact h)
 ·obtain ⟨a,q1,q2,q3⟩:=si.ow j d h1 h2
  have ha:a∉p::as:=fun z=>by rw [h0i a z] at q3; exact R.isS z q3
  have hab:a≠b:=by rintro rfl; exact ha hbm
  rw [h0' a ha] at q3
  exact ⟨a,q1,⟨q2.un,q2.ob.mono (fun _ _ z=>z) fun u z=>by rw [zaA hab]; exact z⟩,by rw [k0' a ha]; exact q3⟩
 ·by_cases hj:j=i
  ·subst hj
   have:=(si.lk j (some (V.ref p),none) (by show (if j=j then _ else _)=_; rw [if_pos rfl]) hm).2 d h1
   cases this
  ·exact absurd h2 (hb j hj)
variable {ro:Bool} {mb:List Md} {pos p1 p2 p3 p4 p5 p6 p7 p8 p9 p10 p11:Pos} {x xa xb:Str} {jc:Nat}
end
end DL
end
section
namespace DL
open PySem PySem.Spec PyProof.Rows L2
noncomputable def lessA (H:Hp) (a:Addr):Hp:=fun b=>if b=a then none else H b
theorem znY {H:Hp} {a b:Addr} (h:b≠a):lessA H a b=H b:=if_neg h
theorem Grow.lessA {K:PySem.W.Frag} {G G' G2:GH} {H H' H2:Hp} {a:Addr} (w:Grow K G H G' H') (ha:H a=none) (w2:Grow K G' (lessA H' a) G2 H2):Grow K G H G2 H2:=by
 have ne:∀b,H b≠none->b≠a:=fun b h=>by rintro rfl; exact h ha
 have he:∀b o,H b=some o->DL.lessA H' a b=some o:=fun b o e=>by rw [znY (ne b (by rw [e]; simp))]; exact w.he b o e
 refine ⟨w2.ok,fun b o e=>w2.he b o (he b o e),fun b d e=>w2.ge b d (w.ge b d e),fun b h=>?_⟩
 rw [w2.gf b ?_,w.gf b h]
 cases e:H b with
 | none=>exact absurd e h
 | some o=>rw [he b o e]; simp
noncomputable def spV (K:PySem.W.Frag) (ro:Bool) (ms:List Md) (F:List D->Res D):Sp:=fun vs H Q _=>∃G us a ds d,GOk K G H/\vs=us++[V.ref a]/\ArgsOk K G H ms us ds/\Own K G H a d /\
 fin (F (ds++[d])) (fun d'=>∀v G' H',Grow K G (lessA H a) G' H'->RV ro K (lessA H a) G' H' v d'->Q v H') fun _=>False
section
variable {K:PySem.W.Frag} {G:GH} {H:Hp}
theorem ArgsOk.snoc {ms:List Md} {us:List V} {ds:List D} {v:V} {d:D} (h:ArgsOk K G H ms us ds) (r:RB K G H v d):ArgsOk K G H (ms++[.bw]) (us++[v]) (ds++[d]):=by
 induction h with
 | nil=>exact .bw r .nil
 | sh h _ ih=>exact .sh h ih
 | bw h _ ih=>exact .bw h ih
end
section
variable {P:Program} {w:World} {K:PySem.W.Frag} {mg:Str->Option Value} {base:Heap}
structure CalleeV (P:Program) (w:World) (K:PySem.W.Frag) (mg:Str->Option Value) (base:Heap) (x:Str) (ps:List Str) (k:Nat) (ro:Bool) (ms:List Md) (F:List D->Res D):Prop where
 ex:∃f fd,mg x=some (.ref f)/\PySem.W.keepIn K (.ref f)=true/\zgQ K fd ps []/\FnOk P w K mg base CX0 k f fd ps (spV K ro ms F)
end
section
variable {X:Cx} {g:GE} {m ms:List Md} {e:Expr} {es:List Expr} {f:FE} {fl:Rho->Res (List D × D)} {x:Str} {ps:List Str} {k:Nat} {F:List D->Res D} {p pos:Pos}
end
end DL
end
section
namespace DL
open PySem PySem.Spec PyProof.Rows L2
theorem LRw.grow {K:PySem.W.Frag} {G G':GH} {H H':Hp} {p:Addr} {as:List Addr} {w:List (List D)} (R:LRw K G H p as w) (wg:Grow K G H G' H'):LRw K G' H' p as w:=by
 refine R.mono wg.ge (fun b hb=>?_) fun b hb=>by rw [wg.gf b (R.isS hb)]; exact R.un b hb
 cases e:H b with
 | none=>exact absurd e (R.isS hb)
 | some o=>rw [wg.he b o e]
section
variable {X:Cx} {g:GE} {i:Nat} {m m' m1:List Md} {r r':Rho} {w:List (List D)} {G G':GH} {σ σ':L2.St} {H H':Hp} {st:Stmt} {sts sts':List Stmt} {f1 f2:FS2} {c e ie:Expr} {es:List Expr} {q:FQ} {f fi:FE} {fl:Rho->Res (List D)} {pos p1 p2 p3 apos cpos spos:Pos} {x y:Str}
end
end DL
end
section
namespace DL
open PySem PySem.Spec PyProof.Rows L2
end DL
end
section
namespace DL
open PySem PySem.Spec PyProof.Rows L2
section
variable {X:Cx} {pins:List (Addr × Obj)} {σ:L2.St} {H:Hp} {s:Shared}
end
section
variable {X:Cx} {g:GE} {m:List Md} {a b:Expr} {fl:Rho->Res (List D)} {fa fb:FE} {pos p:Pos}
end
end DL
end
section
namespace DL
open PySem PySem.Spec PyProof.Rows L2
inductive Cln:D->Prop where
 | non:Cln .non
 | bl (b:Bool):Cln (.bl b)
 | int (i:Int):Cln (.int i)
 | str (x:Str):Cln (.str x)
 | tup {ds:List D}:(∀d∈ds,Cln d)->Cln (.tup ds)
theorem Cln.lst {ds:List D} (h:Cln (.lst ds)):False:=nomatch h
theorem Cln.dic {ds:List (Key × D)} (h:Cln (.dic ds)):False:=nomatch h
theorem Cln.get {ds:List D} (h:Cln (.tup ds)):∀d∈ds,Cln d:=by
 cases h with
 | tup h=>exact h
section
variable {X:Cx} {g:GE} {i:Nat} {m m' m1:List Md} {r r':Rho} {w:List (List D)} {G G':GH} {σ σ':L2.St} {H H':Hp} {e:Expr} {f:FE} {st:Stmt} {pos p1 p2 p3 p4 p5 p6 p7 p8 p9 p10:Pos} {x xa xb y:Str}
theorem SI2.after (s:SI2 X g i m r w G σ H) (wg:Grow X.K G H G' H'):SI2 X g i m r w G' σ H':=by
 obtain ⟨p,as,R,h0,si,hm⟩:=s
 exact zkZ R h0 si wg.ge (si.grow wg) hm
noncomputable abbrev lent (i:Nat) (r:Rho) (w:List (List D)):Rho:=r.set i (some (.lst (w.map D.lst)))
end
end DL
end
section
namespace DL
open PySem PySem.Spec PyProof.Rows L2
structure TL (K:PySem.W.Frag) (G:GH) (H:Hp) (p a:Addr) (d1:D) (ds:List D):Prop where
 tp:∃x xs,H p=some (.tup [x,.ref a])/\RG K G x d1/\H a=some (.lst xs)/\RGs K G xs ds
 un:∀b∈[p,a],G b=none
 ne:p≠a
theorem TL.isS {K:PySem.W.Frag} {G:GH} {H:Hp} {p a:Addr} {d1:D} {ds:List D} (t:TL K G H p a d1 ds):∀b∈[p,a],H b≠none:=fun b hb=>by
 obtain ⟨x,xs,h1,_,h2,_⟩:=t.tp
 rcases List.mem_cons.mp hb with rfl | hb
 ·rw [h1]; simp
 ·rw [List.mem_singleton.mp hb,h2]; simp
theorem TL.grow {K:PySem.W.Frag} {G G':GH} {H H':Hp} {p a:Addr} {d1:D} {ds:List D} (t:TL K G H p a d1 ds) (w:Grow K G H G' H'):TL K G' H' p a d1 ds:=by
 obtain ⟨x,xs,h1,h2,h3,h4⟩:=t.tp
 exact ⟨⟨x,xs,w.he _ _ h1,h2.mono w.ge,w.he _ _ h3,h4.mono w.ge⟩,fun b hb=>by rw [w.gf b (t.isS b hb)]; exact t.un b hb,t.ne⟩
noncomputable def RW (K:PySem.W.Frag) (H0:Hp) (G:GH) (H:Hp) (v:V) (d:D):Prop:=∃p a d1 ds,v=.ref p/\d=.tup [d1,.lst ds]/\(∀b∈[p,a],H0 b=none)/\TL K G H p a d1 ds
noncomputable def spW (K:PySem.W.Frag) (ms:List Md) (F:List D->Res D):Sp:=fun vs H Q _=>∃G ds,GOk K G H/\ArgsOk K G H ms vs ds/\fin (F ds) (fun d=>∀v G' H',Grow K G H G' H'->RW K H G' H' v d->Q v H') fun _=>False
noncomputable abbrev FW:=Rho->Res D
section
variable {X:Cx} {g:GE} {ro:Bool} {i:Nat} {m m' m1 mb:List Md} {r r':Rho} {G G':GH} {σ σ':L2.St} {H H':Hp} {e e1 e2 c:Expr} {f f1 f2:FE} {q:FQ} {st:Stmt} {sts sts1:List Stmt} {s1:FS} {fs:FW} {pos p1 p2 p3 p4 apos cpos:Pos} {x y:Str}
end
section
variable {P:Program} {w:World} {K:PySem.W.Frag} {mg:Str->Option Value} {base:Heap}
structure CalleeW (P:Program) (w:World) (K:PySem.W.Frag) (mg:Str->Option Value) (base:Heap) (x:Str) (ps:List Str) (k:Nat) (ms:List Md) (F:List D->Res D):Prop where
 ex:∃f fd,mg x=some (.ref f)/\PySem.W.keepIn K (.ref f)=true/\zgQ K fd ps []/\FnOk P w K mg base CX0 k f fd ps (spW K ms F)
end
section
variable {X:Cx} {g:GE} {ro:Bool} {i:Nat} {m m' m1 mb ms:List Md} {r r':Rho} {G G':GH} {σ σ':L2.St} {H H':Hp} {e c:Expr} {es:List Expr} {q:FQ} {st:Stmt} {sts sts1:List Stmt} {fl:Rho->Res (List D)} {F:List D->Res D} {k:Nat} {ps:List Str} {pos p1 p2 p3 p4 apos cpos:Pos} {x y:Str} {d1:D} {ds:List D}
noncomputable def SI3 (X:Cx) (g:GE) (i:Nat) (m:List Md) (r:Rho) (d1:D) (ds:List D) (G:GH) (st:L2.St) (H:Hp):Prop:=
 ∃p a,TL X.K G H p a d1 ds/\(∀b∈[p,a],g.h0 b=none)/\SI X (zdE g H [p,a] i p) m r G st H/\m[i]? = some .bw
theorem SI3.after (s:SI3 X g i m r d1 ds G σ H) (wg:Grow X.K G H G' H'):SI3 X g i m r d1 ds G' σ H':=by
 obtain ⟨p,a,t,h0,si,hm⟩:=s
 refine ⟨p,a,t.grow wg,h0,?_,hm⟩
 rw [zke (H:=H) fun b hb=>?_]
 ·exact si.grow wg
 ·cases e:H b with
  | none=>exact absurd e (t.isS b hb)
  | some o=>rw [wg.he b o e]
theorem SI3.frz (s:SI3 X g i m r d1 ds G σ H) (hb:∀j,j≠i->m[j]?≠some .bw):∃G',Gle G G'/\(∀b d,G b=none->G' b=some d->¬ Cln d)/\SI X g (m.set i .sh) (r.set i (some (.tup [d1,.lst ds]))) G' σ H:=by
 obtain ⟨p,a,t,h0,si,hm⟩:=s
 obtain ⟨x,xs,h1,h2,h3,h4⟩:=t.tp
 have ua:=t.un a (List.mem_cons_of_mem _ List.mem_cons_self)
 have up:=t.un p List.mem_cons_self
 have g1:GOk X.K (gset G a (.lst ds)) H:=si.gok.gset ua (.lst (.inl h3) h4)
 have up1:gset G a (.lst ds) p=none:=by rw [zbA t.ne]; exact up
 have g2:GOk X.K (gset (gset G a (.lst ds)) p (.tup [d1,.lst ds])) H:=g1.gset up1 (.tup (.inl h1) (.cons (h2.mono (zbk ua)) (.cons (.ref zaL) .nil)))
 refine ⟨_,Gle.trans (zbk ua) (zbk up1),fun b d hn e hc=>?_,zkd si hm h0 t.isS hb (Gle.trans (zbk ua) (zbk up1)) g2 (fun b hb=>?_) zaL⟩
 ·by_cases hbp:b=p
  ·subst hbp; rw [zaL] at e; cases e
   exact (hc.get _ (List.mem_cons_of_mem _ List.mem_cons_self)).lst
  ·rw [zbA hbp] at e
   by_cases hba:b=a
   ·subst hba; rw [zaL] at e; cases e; exact hc.lst
   ·rw [zbA hba,hn] at e; cases e
 ·rw [zbA (by rintro rfl; exact hb List.mem_cons_self),zbA (by rintro rfl; exact hb (List.mem_cons_of_mem _ List.mem_cons_self))]
noncomputable abbrev F3:=Rho->D->List D->Option Rho
end
end DL
end
section
namespace DL
section
open PySem PyProof.Rows PySem.W PySem.Calls
variable {prog:Program} {w:World} {A:Around} {E:Value->Shared->Prop} {s:Shared} {l:Addr} {vs:List Value} {ns:List Int}
end
open PySem PySem.Spec PyProof.Rows L2
section
variable {X:Cx} {pins:List (Addr × Obj)} {σ:L2.St} {H:Hp} {s:Shared}
end
section
variable {X:Cx} {g:GE} {m:List Md} {a b:Expr} {fl:Rho->Res (List D)} {fa fb:FE} {pos p:Pos}
end
end DL
end
section
namespace DL
section
open PySem PyProof.Rows
variable {prog:Program} {w:World} {A:Around} {R:Result->Shared->Prop} {I S:Addr} {fp wr:List Addr} {n:Nat} {P:Nat->Value->Prop} {St:Nat->Heap->Prop} {TP:Heap->Prop} {bt:Nat->Nat->Bool}
noncomputable def zkn (wr:List Addr) (S:Addr) (h h':Heap):Prop:=∀b o,b∉wr->b≠S->h.get? b=some o->h'.get? b=some o
theorem zkn.trans {h h1 h2:Heap} (a:zkn wr S h h1) (b:zkn wr S h1 h2):zkn wr S h h2:=fun c o hc hs e=>b c o hc hs (a c o hc hs e)
end
end DL
end
section
namespace DL
open PySem PySem.Spec PyProof.Rows L2
section
variable {X:Cx} {pins:List (Addr × Obj)} {σ:L2.St} {H:Hp} {s:Shared}
end
section
variable {X:Cx} {g:GE} {m:List Md} {e:Expr} {es:List Expr} {fl:Rho->Res (List D)} {pos p:Pos}
end
section
variable {X:Cx}
end
end DL
end
section
namespace DL
open PySem PySem.Spec PyProof.Rows L2 PySem.W PySem.Calls
noncomputable def spX (K:PySem.W.Frag) (ro:Bool) (ms:List Md) (F:List D->Res D):Sp:=fun vs H Q E=>∃G ds,GOk K G H/\ArgsOk K G H ms vs ds /\
 fin (F ds) (fun d=>∀v G' H',Grow K G H G' H'->RV ro K H G' H' v d->Q v H') fun x=>∀C od nm fs G' H',x=xD nm fs->XN K nm C->XF G' od fs->Grow K G H G' H'->E (.ref C) od H'
section
variable {X:Cx} {k:Nat} {f:Addr} {fd:FuncData} {ps:List Str} {sp:Sp} {dvs:List V} {ds:List Value} {x:Str} {p pos:Pos} {e:Expr} {es:List Expr} {t:TA}
end
section
variable {P:Program} {w:World} {K:PySem.W.Frag} {mg:Str->Option Value} {base:Heap}
structure CalleeX (P:Program) (w:World) (K:PySem.W.Frag) (mg:Str->Option Value) (base:Heap) (x:Str) (ps:List Str) (ds:List Value) (k:Nat) (ro:Bool) (ms:List Md) (F:List D->Res D):Prop where
 ex:∃f fd,mg x=some (.ref f)/\PySem.W.keepIn K (.ref f)=true/\zgQ K fd ps ds/\FnOk P w K mg base (CXR P w) k f fd ps (spX K ro ms F)
end
section
variable {X:Cx} {g:GE} {ro:Bool} {m mb:List Md} {e:Expr} {es:List Expr} {fl:Rho->Res (List D)} {k:Nat} {ps:List Str} {F:List D->Res D} {dvs:List V} {ds:List Value} {dds:List D} {x:Str} {p np pos:Pos} {ms:List Md} {C:Addr}
end
end DL
end
section
namespace DL
open PySem PySem.Spec PyProof.Rows L2 PySem.W PySem.Calls
section
variable {M:Model} {A:Around} {E:Value->Shared->Prop} {s:Shared} {nm q nmT qT:Str} {C N T NT:Addr} {bs bm bsT bmT:List Value} {hdct hdctT:Bool} {sn snT:List Str} {sub subT':List Value} {ab abT:Bool} {col colT:Option Bool} {dd ddT:Option Addr} {k0 k1 k2 k3 k5 t0 t1 t2 t3 t5:Option Value} {newId newIdT:String}
end
end DL
end
section
namespace DL
open PySem PySem.Spec PyProof.Rows L2 PySem.W PySem.Calls
section
variable {X:Cx} {pins:List (Addr × Obj)} {σ:L2.St} {H H':Hp} {s s':Shared} {M:Model} {A:Around} {E:Value->Shared->Prop}
end
end DL
end
section
namespace DL
open PySem PySem.Spec PyProof.Rows L2 PySem.W PySem.Calls
noncomputable def XO (K:PySem.W.Frag) (C:Addr) (bm:List Value):Prop:=∃N nm q bs hdct sn sub ab col dd k0 k1 k2 k3 k5 newId,K.lookup C=some (excClassObj nm q C N bs bm hdct sn sub ab col dd k0 k1 k2 k3 k5 newId)
noncomputable abbrev _root_.L2.Cx.held (X:Cx) (v:Value):Cx:={ X with A:=X.A.mark (some v),calm:=false,xe:=fun _ _=>False }
section
variable {X:Cx} {pins:List (Addr × Obj)} {σ:L2.St} {H H':Hp} {s s':Shared} {a C:Addr} {od:Option Addr}
theorem Inv.held (I:Inv X pins σ H s) (v:Value):Inv (X.held v) pins σ H s:=
 ⟨⟨I.ok.mod,I.ok.kind,I.ok.glob,I.ok.blt,I.ok.above,I.ok.inj,I.ok.has,I.ok.cab,(fun h=>nomatch h),I.ok.frames,I.ok.stk,I.ok.exf,I.ok.bs,I.ok.bsz,I.ok.noex,I.ok.exfs,I.ok.funs,I.ok.frf⟩,I.os,I.bare,I.base,I.loc,I.cell,I.free,I.freeC,I.pin,I.hok,I.len⟩
end
end DL
end
section
namespace DL
open PySem PySem.Spec PyProof.Rows L2 PySem.W PySem.Calls
section
variable {X:Cx} {pins:List (Addr × Obj)} {σ:L2.St} {H H':Hp} {s s':Shared} {a C T:Addr} {od:Option Addr}
end
end DL
end
section
namespace DL
open PySem PySem.Spec PyProof.Rows L2 PySem.W PySem.Calls
noncomputable abbrev _root_.L2.Cx.tr (X:Cx) (ps:List (Addr × Obj)) (E:Value->Shared->Prop):Cx:={ X with pn:=ps,xe:=E }
section
variable {X:Cx} {pins pins':List (Addr × Obj)} {σ:L2.St} {H:Hp} {s:Shared} {E:Value->Shared->Prop}
theorem Inv.tr (I:Inv X pins σ H s) (E:Value->Shared->Prop):Inv (X.tr (X.pn++pins) E) [] σ H s:=
 ⟨⟨I.ok.mod,I.ok.kind,I.ok.glob,I.ok.blt,I.ok.above,I.ok.inj,I.ok.has,I.ok.cab,I.ok.hd,I.ok.frames,I.ok.stk,I.ok.exf,I.ok.bs,I.ok.bsz,I.ok.noex,I.ok.exfs,I.ok.funs,I.ok.frf⟩,I.os,I.bare,I.base,I.loc,I.cell,I.free,I.freeC,fun p hp=>I.pin p (by rw [List.append_nil] at hp; exact hp),I.hok,I.len⟩
theorem Inv.untr (I:Inv (X.tr (X.pn++pins) E) pins' σ H s):Inv X pins σ H s:=
 ⟨⟨I.ok.mod,I.ok.kind,I.ok.glob,I.ok.blt,I.ok.above,I.ok.inj,I.ok.has,I.ok.cab,I.ok.hd,I.ok.frames,I.ok.stk,I.ok.exf,I.ok.bs,I.ok.bsz,I.ok.noex,I.ok.exfs,I.ok.funs,I.ok.frf⟩,I.os,I.bare,I.base,I.loc,I.cell,I.free,I.freeC,fun p hp=>I.pin p (List.mem_append_left _ hp),I.hok,I.len⟩
theorem SP.untr {D:Ends} {f:Flow} (h:SP (X.tr (X.pn++pins) E) [] D f s):SP X pins D f s:=by
 cases f with
 | next=>obtain ⟨σ',H',I,q⟩:=h; exact ⟨σ',H',Inv.untr I,q⟩
 | brk=>obtain ⟨σ',H',I,q⟩:=h; exact ⟨σ',H',Inv.untr I,q⟩
 | cont=>obtain ⟨σ',H',I,q⟩:=h; exact ⟨σ',H',Inv.untr I,q⟩
 | ret u=>obtain ⟨v,σ',H',I,r,q⟩:=h; exact ⟨v,σ',H',Inv.untr I,r,q⟩
end
section
variable {X:Cx} {g:GE} {ro:Bool} {m m1 mb:List Md} {T:Addr} {fb fh:FS}
end
end DL
end
section
namespace DL
open PySem PySem.Spec PyProof.Rows L2 PySem.W PySem.Calls
section
variable {prog:Program} {w:World} {A:Around} {E:Value->Shared->Prop} {s:Shared} {nm q:Str} {C N a:Addr} {bs bm:List Value} {hdct:Bool} {sn:List Str} {sub:List Value} {ab:Bool} {col:Option Bool} {dd:Option Addr} {k0 k1 k2 k3 k5:Option Value} {newId:String} {oe:Obj}
end
end DL
end
section
namespace DL
open PySem PySem.Spec PyProof.Rows L2 PySem.W PySem.Calls
end DL
end
section
namespace DL
open PySem PySem.Spec PyProof.Rows L2 PySem.W PySem.Calls
section
variable {prog:Program} {w:World} {A:Around} {E:Value->Shared->Prop} {s:Shared} {nm q:Str} {C N a:Addr} {bs bm:List Value} {hdct:Bool} {sn:List Str} {sub:List Value} {ab:Bool} {col:Option Bool} {dd:Option Addr} {k0 k1 k2 k3 k5:Option Value} {newId:String} {oe:Obj}
end
end DL
end
section
namespace DL
open PySem PySem.Spec PyProof.Rows L2 PySem.W PySem.Calls
structure XA (K:PySem.W.Frag) (C:Addr) (bm:List Value):Prop where
 ob:XO K C bm
 be:bm.contains (Value.type "BaseException")=true
 bo:bm.contains (Value.type "object")=true
 ga:findIn K (.ref C) "__getattribute__" = some (some (.builtin "BaseException.__getattribute__"))
 gn:findIn K (.ref C) "__getattr__" = some none
 gc:findIn K (.ref C) "__class__" = some (some (.builtin "object.__class__"))
 gg:specialIn K (.builtin "object.__class__") "__get__" = some (some (.builtin "getset_descriptor.__get__"))
 gt:takesIn K (.builtin "object.__class__")=some true
end DL
end
section
namespace DL
open PySem PySem.Spec PyProof.Rows L2 PySem.W PySem.Calls
structure IsxOk (K:PySem.W.Frag) (c:Value) (tab:Str->Option Bool):Prop where
 no:kitOne K (.type "NoneType") c=some false
 ex:∀nm b C,tab nm=some b->XN K nm C->∃bm,XA K C bm/\kitOne K (.ref C) c=some b
section
variable {X:Cx} {g:GE} {m:List Md} {e:Expr} {f:FE} {pos p p2:Pos}
theorem RB.exc {K:PySem.W.Frag} {G:GH} {H:Hp} {v:V} {k:Str} {nm:Str} {ds:List (Str × D)} (gk:GOk K G H) (h:RB K G H v (.obj 0 ((k,.str nm)::ds))):∃a C od,v=.ref a/\H a=some (.ext (XcO a C od))/\XN K nm C:=by
 rcases h with h | ⟨a,rfl,h⟩
 ·cases h with
  | scl s=>cases s
  | ref e=>
   cases gk _ _ e with
   | exc r n f=>exact ⟨_,_,_,rfl,r,n⟩
  | kc k=>cases k
 ·cases h.ob
end
end DL
end
section
namespace DL
open PySem PySem.Spec PyProof.Rows L2 PySem.W PySem.Calls
section
variable {X:Cx} {g:GE} {m:List Md} {e:Expr} {es:List Expr} {fl:Rho->Res (List D)} {k:Nat} {ps:List Str} {F:List D->Res D} {x:Str} {p pos:Pos} {ms:List Md}
end
theorem XN.uniq {K:PySem.W.Frag} {nm:Str} {C c:Addr} (h:XN K nm C) (k:(K.all fun e=>match e.2.data with | .cls cd=>cd.name != nm || e.1 == c | _=>true)=true):C=c:=by
 obtain ⟨o,cd,h1,h2,h3⟩:=h
 have hm:(C,o)∈(K:List (Addr × Obj)):=by
  have key:∀l:List (Addr × Obj),l.lookup C=some o->(C,o)∈l:=by
   intro l
   induction l with
   | nil=>intro h; cases h
   | cons q l ih=>
    intro h
    rw [List.lookup] at h
    split at h
    ·rename_i hb
     have:=eq_of_beq hb
     cases h
     rw [this]; exact List.mem_cons_self
    ·exact List.mem_cons_of_mem _ (ih h)
  exact key K h1
 have:=List.all_eq_true.mp k _ hm
 simp only [h2] at this
 rw [h3] at this
 simpa using this
end DL
end
section
namespace DL
open PySem PySem.Spec PyProof.Rows L2 PySem.W PySem.Calls
noncomputable def unIn (K:PySem.W.Frag) (nm:Str) (c:Addr):Bool:=K.all fun e=>match e.2.data with
 | .cls cd=>cd.name != nm || e.1 == c
 | _=>true
structure CF (K:PySem.W.Frag) (nm:Str) (c:Addr) (bm:List Value):Prop where
 xa:XA K c bm
 xn:XN K nm c
 un:unIn K nm c=true
theorem CF.eq {K:PySem.W.Frag} {nm:Str} {c C:Addr} {bm:List Value} (f:CF K nm c bm) (h:XN K nm C):C=c:=XN.uniq h f.un
end DL
end
section
namespace DL
open PySem PySem.Spec PyProof.Rows L2 PySem.W PySem.Calls PySem.Builtin PySem.Builtin.Str
section
variable {prog:Program} {w:World} {A:Around} {E:Value->Shared->Prop} {s:Shared} {x y:Str} {t u:Tok} {Q:Value->Shared->Prop}
end
section
variable {X:Cx}
end
section
variable {X:Cx} {g:GE} {m:List Md} {a b:Expr} {fa fb:FE} {pos:Pos}
end
section
variable {X:Cx} {g:GE} {m:List Md} {e:Expr} {f fa:FE} {pos p2:Pos}
end
end DL
end
section
namespace L2
open PySem PySem.Spec PyProof.Rows
theorem lc_ {sc:Scope} {x:Str} (h:(match sc.names.lookup x with | some .local=>true | some .cell=>true | _=>false)=true):Loc sc x:=by
 revert h; unfold Loc; split <;> intro h
 ·exact .inl (by assumption)
 ·exact .inr (by assumption)
 ·cases h
theorem fs_ {N P:List Str} {sc:Scope} (h:(decide (sc.kind=.function) && ! sc.isCoroutine && ! sc.isGenerator && decide N.Nodup && decide (N.take P.length=P) && (P.all fun x=>match sc.names.lookup x with | some .local=>true | some .cell=>true | _=>false) && sc.names.all fun y=>decide (y.2≠.free))=true:=by decide +kernel):FnScope N P sc:=by
 simp only [Bool.and_eq_true,decide_eq_true_eq,Bool.not_eq_true',List.all_eq_true] at h
 obtain ⟨⟨⟨⟨⟨⟨a,b⟩,c⟩,d⟩,e⟩,f⟩,k⟩:=h
 exact ⟨a,b,c,d,e,fun x hx=>lc_ (f x hx),k⟩
end L2
namespace DL
open PySem PySem.Spec PyProof.Rows L2
section
variable {X:Cx} {g:GE} {m mb ms:List Md} {e a b:Expr} {es:List Expr} {f fa fb:FE} {x:Str} {p pos pos':Pos} {ro:Bool} {fl:Rho->Res (List D)} {k:Nat} {ps:List Str} {F:List D->Res D}
theorem bE (h:SE X g m e f):SB X g m e f:=SE.toB h
theorem iB {i:Int} {j:Nat}:SB X g m (.Constant (.int i) j pos) fun _=>.ok (.int i):=bE zqT
theorem xB (hu:X.A.units + 1 < cLine) (ha:SB X g m a fa) (hb:SB X g m b fb) (hs:zjA b:=by intro _ _; rfl):SB X g m (.Subscript a b pos) (f2 fa fb ixA):=bE (zdD hu ha hb hs)
theorem zbu (i:Nat) (hN:X.N.Nodup) (he:SE X g m e f) (hi:X.N[i]? = some x:=by rfl) (hx:Loc X.env.scope x:=by exact lc_ rfl) (hs:swapsWith e (some (.Name x pos')) pos.line X.env=pure false:=by rfl)
  (hf:X.fn x=true\/X.env.scope.names.lookup x=some .local:=by first | exact .inl rfl | exact .inr rfl | assumption):SS X g ro mb m (.Assign [.Name x pos'] e pos) (setF m i f) (m.set i .sh):=zsR i hN hi hx he hs hf
theorem zao (i:Nat) (hN:X.N.Nodup) (hi:X.N[i]? = some x:=by rfl) (hx:Loc X.env.scope x:=by exact lc_ rfl) (hf:X.fn x=true\/X.env.scope.names.lookup x=some .local:=by first | exact .inl rfl | exact .inr rfl | assumption) :
  SG X g m (.Name x pos) (ftN i) (m.set i .sh):=zr6 i hN hi hx hf
theorem zaw (c:Callee X.prog X.w X.K X.mg X.base x ps [] k false ms F) (ha:SAM X g m (e::es) ms fl) (hr:Room k X.A:=by exact Room.mono ‹_› (by decide)) (hg:Gl X x:=by rfl)
  (hdb:(x == ("__debug__" : Str))=false:=by decide) (he:starEach (e::es) X.env=(false,eval e X.env)::starEach es X.env:=by rfl) (hpl:(backTo pos (starEach es X.env)).any (·.1)=false:=by rfl) :
  SE X g m (.Call (.Name x p) (e::es) [] pos) (zaH fl [] F):=zoY (dds:=[]) c hr ha (by simp) hg .nil .nil hdb he hpl
end
theorem zbJ {P:Program} {w:World} {K:PySem.W.Frag} {mg:Str->Option Value} {base:Heap} {x:Str} {st:Stmt} {N ps:List Str} {k:Nat} {ro:Bool} {ms:List Md} {fs:FS} {m':List Md} (A:DefAt K mg x st) (S:FnScope N ps (zab st))
  (hbody:∀(f:Addr) (cdv:Value) (A:Around) (outer:List Env) (s:Shared) (H:Hp) (g:GE) (E:XK),Room k (A.deeper (envOfC x (zab st) s.heap.objs.size f cdv))->(A.deeper (envOfC x (zab st) s.heap.objs.size f cdv)).units + 1 < cLine ->
   SSs (cxOf CX0 P w K mg base N x (zab st) f cdv A outer s H E).nox g ro [] (zeE N.length ms) (zbp st) fs m')
  (hms:ms.length=ps.length:=by rfl)
  (hb:∀(kV doc pm:Value) (an:Option Addr) (cdv ct:Value) (us:List Value),us.length=ps.length->bindArgs (PySem.W.fnOf x x (zch st) (zbp st) (zab st) .none kV doc pm an cdv ct) ⟨us,[]⟩=pure (ps.zip us):=by
   intro _ _ _ _ _ _ us hl
   rcases us with _ | ⟨_,_ | ⟨_,_ | ⟨_,_ | ⟨_,_ | ⟨_,_ | ⟨_,_⟩⟩⟩⟩⟩⟩ <;> first | (exfalso; revert hl; simp; done) | kernel_rfl) :
  Callee P w K mg base x ps [] (k + 1) ro ms fun ds=>outR ro (fs (zas N.length ds)):=zrC A S hms hb fun f cdv A outer s H g E hr=>hbody f cdv A outer s H g E hr (zmx hr)
end DL
end
section
namespace Rg
theorem zdi {α:Type} [DecidableEq α]:∀{l m:List α},l.Nodup->(∀x∈l,x∈m)->l.length<=m.length
 | [],_,_,_=>Nat.zero_le _
 | a::l,m,hn,hs=>by
  have hn':=List.nodup_cons.mp hn
  have h1:=zdi (l:=l) (m:=m.erase a) hn'.2 fun x hx=>by
   have hxa:x≠a:=by rintro rfl; exact hn'.1 hx
   exact (List.mem_erase_of_ne hxa).mpr (hs x (List.mem_cons_of_mem _ hx))
  have ha:a∈m:=hs a List.mem_cons_self
  rw [List.length_erase_of_mem ha] at h1
  have:=List.length_pos_of_mem ha
  simp only [List.length_cons]; omega
theorem zdO {α:Type} (p:α->Bool) (l:List α):(l.filter p).length + (l.filter fun x=>! p x).length=l.length:=by
 induction l with
 | nil=>rfl
 | cons a l ih=>
  simp only [List.filter_cons]
  cases p a <;> simp <;> omega
theorem zdI {α:Type} {p:α->Bool} {l:List α} (h:l.Nodup):(l.filter p).Nodup:=List.Pairwise.filter p h
structure S where
 line:List Nat
 things:List Nat
section
variable (W:Nat->List Nat) (O:Nat->Option Nat)
noncomputable def best (row things:List Nat):Nat:=(row.find? fun x=>decide (x∈things)).getD 0
noncomputable def tgt (s:S) (h:Nat):Nat:=best (W h) s.things
noncomputable def pt (s:S) (x:Nat):Nat:=(s.line.find? fun h=>decide (O h=some x)).getD (s.line.headD 0)
noncomputable def nxt (s:S) (h:Nat):Nat:=pt O s (tgt W s h)
noncomputable def minus (s:S) (C:List Nat):S:=⟨s.line.filter fun h=>decide (h∉C),s.things.filter fun x=>decide (x∉C.map (tgt W s))⟩
noncomputable def it {α:Type} (f:α->α):Nat->α->α
 | 0,x=>x
 | n + 1,x=>it f n (f x)
theorem zbW {α:Type} (f:α->α):∀(a b:Nat) (x:α),it f (a + b) x=it f b (it f a x)
 | 0,b,x=>by rw [Nat.zero_add]; rfl
 | a + 1,b,x=>by rw [Nat.add_right_comm]; exact zbW f a b (f x)
theorem zcz {α:Type} (f:α->α) (n:Nat) (x:α):it f (n + 1) x=f (it f n x):=zbW f n 1 x
theorem zkb {α:Type} (f:α->α) {p:Nat} {x:α} (h:it f p x=x):∀k,it f (p * k) x=x
 | 0=>rfl
 | k + 1=>by rw [Nat.mul_succ,zbW,zkb f h k,h]
structure Ok (s:S):Prop where
 nl:s.line.Nodup
 nt:s.things.Nodup
 le:s.line.length<=s.things.length
 row:∀h∈s.line,∀x∈s.things,x∈W h
 inj:∀h k x,O h=some x->O k=some x->h=k
 own:∀h∈s.line,∀x,O h=some x->x∈s.things
structure Cyc (s:S) (C:List Nat):Prop where
 sub:∀h∈C,h∈s.line
 cl:∀h∈C,nxt W O s h∈C
 per:∀h∈C,∃k,it (nxt W O s) (k + 1) h=h
variable {W O}
theorem zon {row things:List Nat} (h:∃x∈row,x∈things):best row things∈things:=by
 unfold best
 cases e:row.find? fun x=>decide (x∈things) with
 | none=>
  obtain ⟨x,h1,h2⟩:=h
  have:=List.find?_eq_none.mp e x h1
  simp [h2] at this
 | some x=>have:=List.find?_some e; simpa using this
theorem zol {row things t':List Nat} (hs:∀x∈t',x∈things) (hb:best row things∈t') (hr:best row things∈row):best row t'=best row things:=by
 unfold best at *
 cases e:row.find? fun x=>decide (x∈things) with
 | none=>
  rw [e] at hb hr
  have:=List.find?_eq_none.mp e _ hr
  simp only [decide_eq_true_eq] at this
  exact absurd (hs _ hb) this
 | some x=>
  rw [e] at hb
  simp only [Option.getD_some] at hb ⊢
  obtain ⟨hx,as,bs,rfl,h2⟩:=List.find?_eq_some_iff_append.mp e
  rw [List.find?_append]
  have:as.find? (fun y=>decide (y∈t'))=none:=List.find?_eq_none.mpr fun y hy=>by
   have:=h2 y hy
   simp only [Bool.not_eq_true',decide_eq_false_iff_not] at this
   simp only [decide_eq_true_eq]
   exact fun z=>this (hs y z)
  rw [this]
  simp [List.find?_cons,hb]
theorem zom {row things:List Nat} (h:∃x∈row,x∈things):best row things∈row:=by
 unfold best
 cases e:row.find? fun x=>decide (x∈things) with
 | none=>
  obtain ⟨x,h1,h2⟩:=h
  have:=List.find?_eq_none.mp e x h1
  simp [h2] at this
 | some x=>exact List.mem_of_find?_eq_some e
variable {s:S}
theorem Ok.some_thing (k:Ok W O s) {h:Nat} (hh:h∈s.line):∃x∈W h,x∈s.things:=by
 have h1:=List.length_pos_of_mem hh
 have h2:0 < s.things.length:=Nat.lt_of_lt_of_le h1 k.le
 obtain ⟨x,hx⟩:=List.exists_mem_of_length_pos h2
 exact ⟨x,k.row h hh x hx,hx⟩
theorem Ok.tgt_mem (k:Ok W O s) {h:Nat} (hh:h∈s.line):tgt W s h∈s.things:=zon (k.some_thing hh)
theorem Ok.tgt_row (k:Ok W O s) {h:Nat} (hh:h∈s.line):tgt W s h∈W h:=zom (k.some_thing hh)
theorem zoA {x:Nat} (h:s.line≠[]):pt O s x∈s.line:=by
 unfold pt
 cases e:s.line.find? fun h=>decide (O h=some x) with
 | none=>
  cases q:s.line with
  | nil=>exact absurd q h
  | cons a l=>simp [List.headD]
 | some y=>exact List.mem_of_find?_eq_some e
theorem zlM (k:Ok W O s) {h x:Nat} (hh:h∈s.line) (ho:O h=some x):pt O s x=h:=by
 unfold pt
 cases e:s.line.find? fun h=>decide (O h=some x) with
 | none=>
  have:=List.find?_eq_none.mp e h hh
  simp [ho] at this
 | some y=>
  have:=List.find?_some e
  simp only [decide_eq_true_eq] at this
  exact k.inj y h x this ho
theorem zhE {h:Nat} (hl:s.line≠[]):nxt W O s h∈s.line:=zoA hl
theorem Cyc.it_mem {C:List Nat} (c:Cyc W O s C) {h:Nat} (hh:h∈C):∀n,it (nxt W O s) n h∈C:=by
 intro n
 induction n generalizing h with
 | zero=>exact hh
 | succ n ih=>exact ih (c.cl h hh)
theorem zpF {α:Type} {f:α->α} {x y:α} {a b:Nat} (hx:it f (a + 1) x=x) (hy:it f (b + 1) y=y) (e:f x=f y):x=y:=by
 have h1:=zkb f hx (b + 1)
 have h2:=zkb f hy (a + 1)
 rw [Nat.mul_comm] at h2
 have h3:(a + 1) * (b + 1)=1 + (a * b + a + b):=by
  rw [Nat.add_mul,Nat.mul_add]; omega
 rw [h3,zbW] at h1 h2
 have e1:it f 1 x=it f 1 y:=e
 rw [e1] at h1
 rw [<-h1,h2]
theorem Cyc.out {C E:List Nat} (c:Cyc W O s C) (e:Cyc W O s E) {h:Nat} (hc:h∈C) (he:h∉E):nxt W O s h∉E:=by
 intro z
 obtain ⟨k,hk⟩:=c.per h hc
 exact he (by rw [<-hk]; exact e.it_mem z k)
theorem zlh {C E:List Nat} (c:Cyc W O s C) (e:Cyc W O s E) {h k:Nat} (hc:h∈C) (he:k∈E) (q:tgt W s h=tgt W s k):h=k:=by
 obtain ⟨a,ha⟩:=c.per h hc
 obtain ⟨b,hb⟩:=e.per k he
 exact zpF ha hb (by unfold nxt; rw [q])
theorem zeD (k:Ok W O s) {C E:List Nat} (c:Cyc W O s C) (e:Cyc W O s E) {h:Nat} (he:h∈E) (hc:h∉C):tgt W (minus W s C) h=tgt W s h:=by
 have hl:=e.sub h he
 refine zol (fun x hx=>(List.mem_filter.mp hx).1) ?_ (k.tgt_row hl)
 refine List.mem_filter.mpr ⟨k.tgt_mem hl,?_⟩
 simp only [decide_eq_true_eq]
 intro z
 obtain ⟨h',h1,h2⟩:=List.mem_map.mp z
 have:=zlh c e h1 he h2
 rw [this] at h1
 exact hc h1
theorem zjo {p:Nat->Bool}:∀{l:List Nat} {a:Nat},l.headD 0=a->l≠[]->p a=true->(l.filter p).headD 0=a
 | [],_,_,h,_=>absurd rfl h
 | b::l,a,e,_,hp=>by
  have:b=a:=e
  subst this
  rw [List.filter_cons,if_pos hp]; rfl
theorem zjK (k:Ok W O s) {C E:List Nat} (c:Cyc W O s C) (e:Cyc W O s E) {h:Nat} (he:h∈E) (hc:h∉C):nxt W O (minus W s C) h=nxt W O s h:=by
 unfold nxt
 rw [zeD k c e he hc]
 have hl:=e.sub h he
 have hne:s.line≠[]:=List.ne_nil_of_mem hl
 have ho:pt O s (tgt W s h)∉C:=e.out c he hc
 have hm:pt O s (tgt W s h)∈s.line:=zoA hne
 unfold pt at *
 show ((s.line.filter fun h=>decide (h∉C)).find? _).getD ((s.line.filter fun h=>decide (h∉C)).headD 0)=_
 cases q:s.line.find? fun k=>decide (O k=some (tgt W s h)) with
 | none=>
  rw [q] at ho
  simp only [Option.getD_none] at ho ⊢
  have:(s.line.filter fun h=>decide (h∉C)).find? (fun k=>decide (O k=some (tgt W s h)))=none:=List.find?_eq_none.mpr fun y hy=>List.find?_eq_none.mp q y (List.mem_filter.mp hy).1
  rw [this]
  exact zjo rfl hne (by simpa using ho)
 | some y=>
  rw [q] at ho
  simp only [Option.getD_some] at ho ⊢
  have hy:=List.find?_some q
  simp only [decide_eq_true_eq] at hy
  have hyl:=List.mem_of_find?_eq_some q
  cases q2:(s.line.filter fun h=>decide (h∉C)).find? (fun k=>decide (O k=some (tgt W s h))) with
  | none=>
   have:=List.find?_eq_none.mp q2 y (List.mem_filter.mpr ⟨hyl,by simpa using ho⟩)
   simp [hy] at this
  | some z=>
   have hz:=List.find?_some q2
   simp only [decide_eq_true_eq] at hz
   exact k.inj z y _ hz hy
theorem zhF (k:Ok W O s) {C:List Nat} (c:Cyc W O s C):Ok W O (minus W s C) where
 nl:=zdI k.nl
 nt:=zdI k.nt
 le:=by
  have h1:=zdO (fun h=>decide (h∉C)) s.line
  have h2:=zdO (fun x=>decide (x∉C.map (tgt W s))) s.things
  have h3:(s.things.filter fun x=>! decide (x∉C.map (tgt W s))).length<=((s.line.filter fun h=>! decide (h∉C)).map (tgt W s)).length:=by
   refine zdi (zdI k.nt) fun x hx=>?_
   obtain ⟨_,hx⟩:=List.mem_filter.mp hx
   simp only [decide_not,Bool.not_not,decide_eq_true_eq] at hx
   obtain ⟨h,h1,h2⟩:=List.mem_map.mp hx
   exact List.mem_map.mpr ⟨h,List.mem_filter.mpr ⟨c.sub h h1,by simpa using h1⟩,h2⟩
  rw [List.length_map] at h3
  have:=k.le
  show (s.line.filter _).length<=(s.things.filter _).length
  omega
 row:=fun h hh x hx=>k.row h (List.mem_filter.mp hh).1 x (List.mem_filter.mp hx).1
 inj:=k.inj
 own:=fun h hh x hx=>by
  obtain ⟨h1,h2⟩:=List.mem_filter.mp hh
  simp only [decide_eq_true_eq] at h2
  refine List.mem_filter.mpr ⟨k.own h h1 x hx,?_⟩
  simp only [decide_eq_true_eq]
  intro z
  obtain ⟨b,b1,b2⟩:=List.mem_map.mp z
  have:=c.cl b b1
  unfold nxt at this
  rw [b2,zlM k h1 hx] at this
  exact h2 this
noncomputable def less (E C:List Nat):List Nat:=E.filter fun h=>decide (h∉C)
theorem zbQ {E C:List Nat} {h:Nat}:h∈less E C↔h∈E/\h∉C:=by simp [less,List.mem_filter]
theorem zj7 (k:Ok W O s) {C E:List Nat} (c:Cyc W O s C) (e:Cyc W O s E):Cyc W O (minus W s C) (less E C):=by
 have stay:∀n h,h∈less E C->it (nxt W O (minus W s C)) n h=it (nxt W O s) n h:=by
  intro n
  induction n with
  | zero=>intro h _; rfl
  | succ n ih=>
   intro h hh
   obtain ⟨h1,h2⟩:=zbQ.mp hh
   show it _ n (nxt W O (minus W s C) h)=it _ n (nxt W O s h)
   rw [zjK k c e h1 h2]
   exact ih _ (zbQ.mpr ⟨e.cl h h1,e.out c h1 h2⟩)
 refine ⟨fun h hh=>?_,fun h hh=>?_,fun h hh=>?_⟩
 ·obtain ⟨h1,h2⟩:=zbQ.mp hh
  exact List.mem_filter.mpr ⟨e.sub h h1,by simpa using h2⟩
 ·obtain ⟨h1,h2⟩:=zbQ.mp hh
  rw [zjK k c e h1 h2]
  exact zbQ.mpr ⟨e.cl h h1,e.out c h1 h2⟩
 ·obtain ⟨h1,h2⟩:=zbQ.mp hh
  obtain ⟨n,hn⟩:=e.per h h1
  exact ⟨n,by rw [stay _ _ hh]; exact hn⟩
theorem zeX {p q:Nat->Bool} {l:List Nat} (h:∀x∈l,p x=q x):l.filter p=l.filter q:=by
 induction l with
 | nil=>rfl
 | cons a l ih=>
  rw [List.filter_cons,List.filter_cons,h a List.mem_cons_self,ih fun x hx=>h x (List.mem_cons_of_mem _ hx)]
theorem zgb (k:Ok W O s) {C E:List Nat} (c:Cyc W O s C) (e:Cyc W O s E):minus W (minus W s C) (less E C)=minus W s (C++E):=by
 have h1:(minus W (minus W s C) (less E C)).line=(minus W s (C++E)).line:=by
  show ((s.line.filter _).filter _)=s.line.filter _
  rw [List.filter_filter]
  refine zeX fun x _=>?_
  by_cases hc:x∈C <;> by_cases he:x∈E <;> simp [zbQ,hc,he]
 have h2:(minus W (minus W s C) (less E C)).things=(minus W s (C++E)).things:=by
  show ((s.things.filter _).filter _)=s.things.filter _
  rw [List.filter_filter]
  refine zeX fun x _=>?_
  have key:x∈(less E C).map (tgt W (minus W s C))↔∃h,h∈E/\h∉C/\tgt W s h=x:=by
   rw [List.mem_map]
   constructor
   ·rintro ⟨h,hh,q⟩
    obtain ⟨a,b⟩:=zbQ.mp hh
    exact ⟨h,a,b,by rw [<-q,zeD k c e a b]⟩
   ·rintro ⟨h,a,b,q⟩
    exact ⟨h,zbQ.mpr ⟨a,b⟩,by rw [zeD k c e a b]; exact q⟩
  have key2:x∈(C++E).map (tgt W s)↔x∈C.map (tgt W s)\/x∈(less E C).map (tgt W (minus W s C)):=by
   rw [key,List.map_append,List.mem_append]
   constructor
   ·rintro (z | z)
    ·exact .inl z
    ·obtain ⟨h,a,b⟩:=List.mem_map.mp z
     by_cases hc:h∈C
     ·exact .inl (List.mem_map.mpr ⟨h,hc,b⟩)
     ·exact .inr ⟨h,a,hc,b⟩
   ·rintro (z | ⟨h,a,_,b⟩)
    ·exact .inl z
    ·exact .inr (List.mem_map.mpr ⟨h,a,b⟩)
  rw [Bool.eq_iff_iff]
  simp only [Bool.and_eq_true,decide_eq_true_eq]
  rw [key2]
  constructor
  ·rintro ⟨a,b⟩ (z | z)
   ·exact b z
   ·exact a z
  ·intro z
   exact ⟨fun q=>z (.inr q),fun q=>z (.inl q)⟩
 cases e1:minus W (minus W s C) (less E C)
 cases e2:minus W s (C++E)
 rw [e1,e2] at h1 h2
 simp only at h1 h2
 rw [h1,h2]
theorem zkN (k:Ok W O s) {C E:List Nat} (c:Cyc W O s C) (e:Cyc W O s E):minus W (minus W s C) (less E C)=minus W (minus W s E) (less C E):=by
 rw [zgb k c e,zgb k e c]
 unfold minus
 congr 1
 ·exact zeX fun x _=>by rw [Bool.eq_iff_iff]; simp [and_comm]
 ·refine zeX fun x _=>?_
  rw [Bool.eq_iff_iff]
  simp only [decide_eq_true_eq,List.map_append,List.mem_append]
  constructor <;> intro z q <;> exact z q.symm
inductive TTC (W:Nat->List Nat) (O:Nat->Option Nat) (a:Nat->Nat):S->Prop where
 | nil {s:S}:s.line=[]->TTC W O a s
 | step {s:S} (C:List Nat):Cyc W O s C->(∀h∈C,a h=tgt W s h)->TTC W O a (minus W s C)->TTC W O a s
theorem zsz {a:Nat->Nat} (t:TTC W O a s):∀(k:Ok W O s) {E:List Nat},Cyc W O s E->TTC W O a (minus W s E)/\∀h∈E,a h=tgt W s h:=by
 induction t with
 | nil h0=>
  intro k E e
  refine ⟨.nil (by unfold minus; rw [h0]; rfl),fun h hh=>?_⟩
  have:=e.sub h hh
  rw [h0] at this; cases this
 | step C c ha t ih=>
  intro k E e
  obtain ⟨h1,h2⟩:=ih (zhF k c) (zj7 k c e)
  refine ⟨.step (less C E) (zj7 k e c) (fun h hh=>?_) (by rw [<-zkN k c e]; exact h1),fun h hh=>?_⟩
  ·obtain ⟨z1,z2⟩:=zbQ.mp hh
   rw [zeD k e c z1 z2]
   exact ha h z1
  ·by_cases hc:h∈C
   ·exact ha h hc
   ·rw [h2 h (zbQ.mpr ⟨hh,hc⟩),zeD k c e hh hc]
end
end Rg
end
section
namespace Rg
section
variable {W:Nat->List Nat} {O:Nat->Option Nat} {s:S} {a:Nat->Nat}
theorem zo6 (t:TTC W O a s) (k:Ok W O s):∀h∈s.line,a h∈s.things:=by
 induction t with
 | nil h0=>intro h hh; rw [h0] at hh; cases hh
 | step C c ha t ih=>
  intro h hh
  by_cases hc:h∈C
  ·rw [ha h hc]; exact k.tgt_mem hh
  ·exact (List.mem_filter.mp (ih (zhF k c) h (List.mem_filter.mpr ⟨hh,by simpa using hc⟩))).1
theorem zsE (t:TTC W O a s) (k:Ok W O s):∀h∈s.line,∀l∈s.line,a h=a l->h=l:=by
 induction t with
 | nil h0=>intro h hh; rw [h0] at hh; cases hh
 | @step s C c ha t ih=>
  intro h hh l hl e
  have k':=zhF k c
  have rest:∀h∈s.line,h∉C->h∈(minus W s C).line:=fun h hh hc=>List.mem_filter.mpr ⟨hh,by simpa using hc⟩
  have outs:∀h∈s.line,h∉C->a h∉C.map (tgt W s):=fun h hh hc=>by
   have:=(List.mem_filter.mp (zo6 t k' h (rest h hh hc))).2
   simpa using this
  by_cases hc:h∈C
  ·by_cases lc:l∈C
   ·rw [ha h hc,ha l lc] at e; exact zlh c c hc lc e
   ·exact absurd (List.mem_map.mpr ⟨h,hc,by rw [<-ha h hc,e]⟩) (outs l hl lc)
  ·by_cases lc:l∈C
   ·exact absurd (List.mem_map.mpr ⟨l,lc,by rw [<-ha l lc,e]⟩) (outs h hh hc)
   ·exact ih k' h (rest h hh hc) l (rest l hl lc) e
theorem zoD {f:Nat->Nat} {l:List Nat} (hcl:∀h∈l,f h∈l) {x:Nat} (hx:x∈l):∃i j,i < j/\j<=l.length/\it f i x=it f j x:=by
 have mem:∀i,it f i x∈l:=by
  intro i
  induction i with
  | zero=>exact hx
  | succ i ih=>rw [zcz]; exact hcl _ ih
 by_cases hn:((List.range (l.length + 1)).map fun i=>it f i x).Nodup
 ·have:=zdi hn (m:=l) fun y hy=>by
   obtain ⟨i,_,rfl⟩:=List.mem_map.mp hy
   exact mem i
  simp at this
  omega
 ·apply Classical.byContradiction
  intro h
  apply hn
  rw [List.nodup_iff_pairwise_ne] at *
  rw [List.pairwise_map]
  refine List.Pairwise.imp_of_mem (R:=fun i j=>i < j) (fun hi hj hij e=>?_) List.pairwise_lt_range
  exact h ⟨_,_,hij,by have:=List.mem_range.mp hj; omega,e⟩
theorem zrI {P:Nat->Prop}:(∃n,P n)->∃n,P n/\∀k,k < n->¬ P k:=by
 rintro ⟨n,hn⟩
 induction n using Nat.strongRecOn with
 | _ n ih=>
  by_cases h:∃k,k < n/\P k
  ·obtain ⟨k,h1,h2⟩:=h; exact ih k h1 h2
  ·exact ⟨n,hn,fun k hk hp=>h ⟨k,hk,hp⟩⟩
theorem zjk {α:Type} (f:α->α) (a b:Nat) (x:α):it f a (it f b x)=it f b (it f a x):=by
 rw [<-zbW,<-zbW,Nat.add_comm]
theorem zkS {f:Nat->Nat} {l:List Nat} (hcl:∀h∈l,f h∈l) (hne:l≠[]):∃z p,z∈l/\0 < p/\p<=l.length/\it f p z=z/\∀i,0 < i->i < p->z < it f i z:=by
 have mem:∀x∈l,∀i,it f i x∈l:=by
  intro x hx i
  induction i with
  | zero=>exact hx
  | succ i ih=>rw [zcz]; exact hcl _ ih
 obtain ⟨x,hx⟩:=List.exists_mem_of_ne_nil l hne
 obtain ⟨i,j,hij,_,e⟩:=zoD hcl hx
 obtain ⟨z,⟨hz,k,hk⟩,hmin⟩:=zrI (P:=fun z=>z∈l/\∃k,it f (k + 1) z=z) ⟨it f i x,mem x hx i,j - i - 1,by
  rw [<-zbW,show i + (j - i - 1 + 1)=j by omega]; exact e.symm⟩
 obtain ⟨p,hp,hpm⟩:=zrI (P:=fun p=>it f (p + 1) z=z) ⟨k,hk⟩
 have ge:∀i,z<=it f i z:=fun i=>by
  have:=hmin (it f i z)
  apply Classical.byContradiction
  intro h
  exact this (by omega) ⟨mem z hz i,p,by rw [zjk,hp]⟩
 have ne:∀i,0 < i->i < p + 1->it f i z≠z:=fun i h1 h2 q=>hpm (i - 1) (by omega) (by rw [show i - 1 + 1=i by omega]; exact q)
 refine ⟨z,p + 1,hz,Nat.succ_pos _,?_,hp,fun i h1 h2=>by have:=ge i; have:=ne i h1 h2; omega⟩
 obtain ⟨i,j,hij,hj,e⟩:=zoD hcl hz
 apply Classical.byContradiction
 intro h
 have:it f (p + 1 - j + i) z=z:=by
  have h1:it f (p + 1 - j) (it f j z)=z:=by rw [<-zbW,show j + (p + 1 - j)=p + 1 by omega]; exact hp
  rw [<-e,<-zbW] at h1
  rw [Nat.add_comm]; exact h1
 exact ne _ (by omega) (by omega) this
noncomputable def zf5 (f:Nat->Nat) (n first:Nat):Nat->List Nat->Nat->Option (List Nat)
 | 0,_,_=>none
 | k + 1,ring,hand=>if first < hand/\ring.length < n then zf5 f n first k (ring++[hand]) (f hand) else if hand=first then some ring else none
noncomputable def zeN (f:Nat->Nat) (n first:Nat):Option (List Nat):=zf5 f n first (n + 1) [first] (f first)
noncomputable def orb (f:Nat->Nat) (x n:Nat):List Nat:=(List.range n).map fun i=>it f i x
theorem zhB (f:Nat->Nat) (x n:Nat):orb f x (n + 1)=orb f x n++[it f n x]:=by
 unfold orb; rw [List.range_succ,List.map_append]; rfl
theorem zhC (f:Nat->Nat) (x n:Nat):(orb f x n).length=n:=by simp [orb]
theorem zkA {f:Nat->Nat} {n first:Nat}:∀{k i:Nat} {r:List Nat},zf5 f n first k (orb f first i) (it f i first)=some r->∃j,i<=j/\r=orb f first j/\it f j first=first:=by
 intro k
 induction k with
 | zero=>intro i r h; cases h
 | succ k ih=>
  intro i r h
  unfold zf5 at h
  split at h
  ·rw [<-zhB,<-zcz f] at h
   obtain ⟨j,h1,h2⟩:=ih h
   exact ⟨j,by omega,h2⟩
  ·split at h
   ·rename_i e
    cases h
    exact ⟨i,Nat.le_refl _,rfl,e⟩
   ·cases h
theorem zf8 {f:Nat->Nat} {n first:Nat} {r:List Nat} (h:zeN f n first=some r):∃j,0 < j/\r=orb f first j/\it f j first=first:=by
 have h':zf5 f n first (n + 1) (orb f first 1) (it f 1 first)=some r:=h
 obtain ⟨j,h1,h2⟩:=zkA h'
 exact ⟨j,by omega,h2⟩
theorem zi0 {f:Nat->Nat} {n z p:Nat} (hp:p<=n) (he:it f p z=z) (hg:∀i,0 < i->i < p->z < it f i z):∀{k i:Nat},0 < i->i<=p->p < k + i->zf5 f n z k (orb f z i) (it f i z)=some (orb f z p):=by
 intro k
 induction k with
 | zero=>intro i h1 h2 h3; omega
 | succ k ih=>
  intro i h1 h2 h3
  unfold zf5
  by_cases hi:i=p
  ·subst hi
   rw [if_neg (by rw [he]; omega),if_pos he]
  ·rw [if_pos ⟨hg i h1 (by omega),by rw [zhC]; omega⟩,<-zhB,<-zcz f]
   exact ih (by omega) (by omega) (by omega)
theorem zie {f:Nat->Nat} {n z p:Nat} (h0:0 < p) (hp:p<=n) (he:it f p z=z) (hg:∀i,0 < i->i < p->z < it f i z):zeN f n z=some (orb f z p):=by
 show zf5 f n z (n + 1) (orb f z 1) (it f 1 z)=_
 exact zi0 hp he hg (by omega) h0 (by omega)
noncomputable def zf7 (W:Nat->List Nat) (O:Nat->Option Nat) (s:S):List (List Nat):=s.line.filterMap fun h=>zeN (nxt W O s) s.line.length h
theorem zlB {C:List Nat} (hC:∀h,h∈C->∃r∈zf7 W O s,h∈r) (hC':∀r∈zf7 W O s,∀h∈r,h∈C):Cyc W O s C:=by
 have one:∀r∈zf7 W O s,∃x j,x∈s.line/\0 < j/\r=orb (nxt W O s) x j/\it (nxt W O s) j x=x:=fun r hr=>by
  obtain ⟨x,h1,h2⟩:=List.mem_filterMap.mp hr
  obtain ⟨j,h3,h4,h5⟩:=zf8 h2
  exact ⟨x,j,h1,h3,h4,h5⟩
 have hm:∀x∈s.line,∀i,it (nxt W O s) i x∈s.line:=by
  intro x hx i
  induction i with
  | zero=>exact hx
  | succ i ih=>rw [zcz]; exact zhE (List.ne_nil_of_mem hx)
 refine ⟨fun h hh=>?_,fun h hh=>?_,fun h hh=>?_⟩
 ·obtain ⟨r,hr,h1⟩:=hC h hh
  obtain ⟨x,j,hx,hj,rfl,he⟩:=one r hr
  obtain ⟨i,_,rfl⟩:=List.mem_map.mp h1
  exact hm x hx i
 ·obtain ⟨r,hr,h1⟩:=hC h hh
  obtain ⟨x,j,hx,hj,rfl,he⟩:=one r hr
  obtain ⟨i,hi,rfl⟩:=List.mem_map.mp h1
  have hi:=List.mem_range.mp hi
  refine hC' _ hr _ ?_
  rw [<-zcz (nxt W O s)]
  by_cases q:i + 1=j
  ·rw [q,he]; exact List.mem_map.mpr ⟨0,List.mem_range.mpr hj,rfl⟩
  ·exact List.mem_map.mpr ⟨i + 1,List.mem_range.mpr (by omega),rfl⟩
 ·obtain ⟨r,hr,h1⟩:=hC h hh
  obtain ⟨x,j,hx,hj,rfl,he⟩:=one r hr
  obtain ⟨i,hi,rfl⟩:=List.mem_map.mp h1
  exact ⟨j - 1,by rw [show j - 1 + 1=j by omega,zjk,he]⟩
theorem zkH (hne:s.line≠[]):zf7 W O s≠[]:=by
 obtain ⟨z,p,h1,h2,h3,h4,h5⟩:=zkS (f:=nxt W O s) (l:=s.line) (fun h hh=>zhE hne) hne
 exact List.ne_nil_of_mem (List.mem_filterMap.mpr ⟨z,h1,zie h2 h3 h4 h5⟩)
noncomputable def gone (W:Nat->List Nat) (O:Nat->Option Nat) (s:S):List Nat:=(zf7 W O s).flatten
theorem zkf:Cyc W O s (gone W O s):=zlB (fun h hh=>List.mem_flatten.mp hh) (fun r hr h hh=>List.mem_flatten.mpr ⟨r,hr,hh⟩)
theorem zlD {f:Nat->Nat} {n x:Nat} {r:List Nat} (h:zeN f n x=some r):r≠[]:=by
 obtain ⟨j,h1,rfl,_⟩:=zf8 h
 intro z
 have:=zhC f x j
 rw [z] at this
 simp at this; omega
theorem zmA (hne:s.line≠[]):gone W O s≠[]:=by
 have h:=zkH (W:=W) (O:=O) hne
 cases q:zf7 W O s with
 | nil=>exact absurd q h
 | cons r t=>
  have hr:r∈zf7 W O s:=by rw [q]; exact List.mem_cons_self
  obtain ⟨x,_,h2⟩:=List.mem_filterMap.mp hr
  unfold gone
  rw [q,List.flatten_cons]
  intro z
  exact zlD h2 (List.append_eq_nil_iff.mp z).1
theorem zmB (hne:s.line≠[]):(minus W s (gone W O s)).line.length < s.line.length:=by
 have h:=zmA (W:=W) (O:=O) hne
 obtain ⟨x,hx⟩:=List.exists_mem_of_ne_nil _ h
 have hx2:=(zkf (W:=W) (O:=O) (s:=s)).sub x hx
 have:=zdO (fun h=>decide (h∉gone W O s)) s.line
 have h3:0 < (s.line.filter fun h=>! decide (h∉gone W O s)).length:=List.length_pos_of_mem (List.mem_filter.mpr ⟨hx2,by simpa using hx⟩)
 show (s.line.filter _).length < _
 omega
noncomputable def deal (W:Nat->List Nat) (O:Nat->Option Nat):Nat->S->Nat->Nat
 | 0,_,_=>0
 | n + 1,s,h=>if h∈gone W O s then tgt W s h else deal W O n (minus W s (gone W O s)) h
theorem zlg {b:Nat->Nat} (t:TTC W O a s):(∀h∈s.line,b h=a h)->TTC W O b s:=by
 induction t with
 | nil h0=>exact fun _=>.nil h0
 | @step s C c ha t ih=>exact fun e=>.step C c (fun h hh=>by rw [e h (c.sub h hh)]; exact ha h hh) (ih fun h hh=>e h (List.mem_filter.mp hh).1)
theorem zsC:∀(n:Nat) (s:S),s.line.length < n->TTC W O (deal W O n s) s:=by
 intro n
 induction n with
 | zero=>intro s h; omega
 | succ n ih=>
  intro s h
  by_cases hl:s.line=[]
  ·exact .nil hl
  ·have hlt:=zmB (W:=W) (O:=O) hl
   refine .step (gone W O s) zkf (fun h hh=>?_) (zlg (ih _ (by omega)) fun h hh=>?_)
   ·show (if h∈gone W O s then _ else _)=_
    rw [if_pos hh]
   ·have:=(List.mem_filter.mp hh).2
    simp only [decide_eq_true_eq] at this
    show (if h∈gone W O s then _ else _)=_
    rw [if_neg this]
end
end Rg
end
section
namespace Rg
section
variable {W W':Nat->List Nat} {O:Nat->Option Nat} {s:S} {a b:Nat->Nat}
theorem zpK {x j:Nat} (hx:x∈s.line) (hj:0 < j) (he:it (nxt W O s) j x=x):Cyc W O s (orb (nxt W O s) x j):=by
 have hm:∀i,it (nxt W O s) i x∈s.line:=by
  intro i
  induction i with
  | zero=>exact hx
  | succ i ih=>rw [zcz]; exact zhE (List.ne_nil_of_mem hx)
 refine ⟨fun h hh=>?_,fun h hh=>?_,fun h hh=>?_⟩ <;> obtain ⟨i,hi,rfl⟩:=List.mem_map.mp hh
 ·exact hm i
 ·have hi:=List.mem_range.mp hi
  show nxt W O s (it (nxt W O s) i x)∈_
  rw [<-zcz (nxt W O s)]
  by_cases q:i + 1=j
  ·rw [q,he]; exact List.mem_map.mpr ⟨0,List.mem_range.mpr hj,rfl⟩
  ·exact List.mem_map.mpr ⟨i + 1,List.mem_range.mpr (by omega),rfl⟩
 ·exact ⟨j - 1,by rw [show j - 1 + 1=j by omega,zjk,he]⟩
theorem zsD {row T:List Nat} {x:Nat} (hx:x∈T) (hr:x∈row):row.idxOf (best row T)<=row.idxOf x:=by
 unfold best
 cases e:row.find? fun y=>decide (y∈T) with
 | none=>have:=List.find?_eq_none.mp e x hr; simp [hx] at this
 | some y=>
  obtain ⟨hy,as,bs,rfl,h2⟩:=List.find?_eq_some_iff_append.mp e
  have n1:∀z∈as,z∉T:=fun z hz=>by have:=h2 z hz; simpa using this
  simp only [decide_eq_true_eq] at hy
  have hya:y∉as:=fun q=>n1 y q hy
  have hxa:x∉as:=fun q=>n1 x q hx
  simp only [Option.getD_some]
  rw [List.idxOf_append,List.idxOf_append,if_neg hya,if_neg hxa]
  simp
theorem znK (f:Nat->Nat) (x:Nat):∀(k i:Nat),i<=k->(orb f x k).drop i=orb f (it f i x) (k - i):=by
 intro k i h
 refine List.ext_getElem? fun j=>?_
 unfold orb
 rw [List.getElem?_drop,List.getElem?_map,List.getElem?_map]
 by_cases hj:i + j < k
 ·rw [List.getElem?_range hj,List.getElem?_range (by omega)]
  simp only [Option.map_some]
  rw [zbW]
 ·rw [List.getElem?_eq_none (by simp; omega),List.getElem?_eq_none (by simp; omega)]
  rfl
theorem path_ring {x:Nat} {k:Nat} (hx:x∈s.line) (hn:(orb (nxt W O s) x k).Nodup) (hm:it (nxt W O s) k x∈orb (nxt W O s) x k) :
  Cyc W O s ((orb (nxt W O s) x k).drop ((orb (nxt W O s) x k).idxOf (it (nxt W O s) k x)))/\(orb (nxt W O s) x k).drop ((orb (nxt W O s) x k).idxOf (it (nxt W O s) k x))≠[]:=by
 have hi:=List.idxOf_lt_length_of_mem hm
 generalize hq:(orb (nxt W O s) x k).idxOf (it (nxt W O s) k x)=i at *
 rw [zhC] at hi
 have e:it (nxt W O s) i x=it (nxt W O s) k x:=by
  have h1:=List.getElem_idxOf (List.idxOf_lt_length_of_mem hm)
  simp only [hq] at h1
  simpa [orb] using h1
 rw [znK _ _ _ _ (by omega)]
 have hm':∀i,it (nxt W O s) i x∈s.line:=by
  intro i
  induction i with
  | zero=>exact hx
  | succ i ih=>rw [zcz]; exact zhE (List.ne_nil_of_mem hx)
 refine ⟨zpK (hm' i) (by omega) (by rw [<-zbW,show i + (k - i)=k by omega,e]),fun z=>?_⟩
 have:=zhC (nxt W O s) (it (nxt W O s) i x) (k - i)
 rw [z] at this; simp at this; omega
end
end Rg
end
section
namespace Rg
section
variable (W:Nat->List Nat) (d:Nat->Nat)
variable {W d}
end
end Rg
end
section
namespace Rg
section
variable {W:Nat->List Nat} {O:Nat->Option Nat} {s:S} {a b:Nat->Nat}
theorem zti {row:List Nat} {x y:Nat} (hx:x∈row) (hy:y∈row) (h:row.idxOf x=row.idxOf y):x=y:=by
 have h1:=List.getElem_idxOf (List.idxOf_lt_length_iff.mpr hx)
 have h2:=List.getElem_idxOf (List.idxOf_lt_length_iff.mpr hy)
 rw [<-h1,<-h2]
 congr 1
noncomputable def znb (O:Nat->Option Nat) (s:S):Prop:=∀x∈s.things,∃h∈s.line,O h=some x
theorem Cyc.pre {C:List Nat} (c:Cyc W O s C) {h:Nat} (hh:h∈C):∃l∈C,nxt W O s l=h:=by
 obtain ⟨k,e⟩:=c.per h hh
 rw [zcz] at e
 exact ⟨_,c.it_mem hh k,e⟩
theorem zk7 (k:Ok W O s) (ao:znb O s) {h:Nat} (hh:h∈s.line):O (nxt W O s h)=some (tgt W s h):=by
 obtain ⟨l,h1,h2⟩:=ao _ (k.tgt_mem hh)
 have:nxt W O s h=l:=zlM k h1 h2
 rw [this]; exact h2
theorem zo0 (k:Ok W O s) (ao:znb O s) {C:List Nat} (c:Cyc W O s C):znb O (minus W s C):=by
 intro x hx
 obtain ⟨h1,h2⟩:=List.mem_filter.mp hx
 obtain ⟨l,h3,h4⟩:=ao x h1
 refine ⟨l,List.mem_filter.mpr ⟨h3,?_⟩,h4⟩
 simp only [decide_eq_true_eq] at h2 ⊢
 intro hc
 obtain ⟨j,j1,j2⟩:=c.pre hc
 have:=zk7 k ao (c.sub j j1)
 rw [j2,h4] at this
 exact h2 (List.mem_map.mpr ⟨j,j1,(Option.some.inj this).symm⟩)
theorem zsO (hb:∀h∈s.line,b h∈s.things) (hi:∀h∈s.line,∀l∈s.line,b h=b l->h=l) {C:List Nat} (c:Cyc W O s C) (e:∀h∈C,b h=tgt W s h):∀h∈(minus W s C).line,b h∈(minus W s C).things:=by
 intro h hh
 obtain ⟨h1,h2⟩:=List.mem_filter.mp hh
 refine List.mem_filter.mpr ⟨hb h h1,?_⟩
 simp only [decide_eq_true_eq] at h2 ⊢
 intro z
 obtain ⟨l,l1,l2⟩:=List.mem_map.mp z
 rw [<-e l l1] at l2
 have:=hi l (c.sub l l1) h h1 l2
 subst this
 exact h2 l1
end
end Rg
end
section
namespace Rg
section
variable {W:Nat->List Nat} {O:Nat->Option Nat} {s:S} {a:Nat->Nat}
structure Chain (W:Nat->List Nat) (O:Nat->Option Nat) (s:S) (A:List Nat):Prop where
 nd:A.Nodup
 sub:∀h∈A,h∈s.line
 hd:∀h l,A=h::l->s.line.headD 0=h
 nx:∀(i:Nat) h l,A[i]? = some h->A[i + 1]? = some l->O l=some (tgt W s h)
variable {A:List Nat}
theorem Chain.at (c:Chain W O s A) {i h:Nat} (e:A[i]? = some h):h∈A:=List.mem_of_getElem? e
theorem Chain.nxt (c:Chain W O s A) (k:Ok W O s) {i h l:Nat} (e1:A[i]? = some h) (e2:A[i + 1]? = some l):Rg.nxt W O s h=l:=
 zlM k (c.sub l (c.at e2)) (c.nx i h l e1 e2)
theorem Chain.apart (c:Chain W O s A) {i j h l:Nat} (e1:A[i]? = some h) (e2:A[j]? = some l) (e:h=l):i=j:=by
 subst e
 have h1:=(List.getElem?_eq_some_iff.mp e1)
 have h2:=(List.getElem?_eq_some_iff.mp e2)
 obtain ⟨b1,q1⟩:=h1
 obtain ⟨b2,q2⟩:=h2
 have:=List.pairwise_iff_getElem.mp c.nd
 rcases Nat.lt_trichotomy i j with z | z | z
 ·exact absurd (q1.trans q2.symm) (this i j b1 b2 z)
 ·exact z
 ·exact absurd (q2.trans q1.symm) (this j i b2 b1 z)
theorem Chain.take (c:Chain W O s A) {s':S} (i:Nat) (hl:∀(j:Nat) h,j < i->A[j]? = some h->h∈s'.line) (hh:∀h l,A=h::l->0 < i->s'.line.headD 0=h) (ht:∀(j:Nat) h l,j + 1 < i->A[j]? = some h->A[j + 1]? = some l->tgt W s' h=tgt W s h):Chain W O s' (A.take i):=by
 refine ⟨c.nd.sublist (List.take_sublist _ _),fun h hm=>?_,fun h l e=>?_,fun j h l e1 e2=>?_⟩
 ·obtain ⟨j,hj⟩:=List.getElem?_of_mem hm
  rw [List.getElem?_take] at hj
  split at hj
  ·rename_i q; exact hl j h q hj
  ·cases hj
 ·cases i with
  | zero=>cases e
  | succ i=>
   cases A with
   | nil=>cases e
   | cons b t=>cases e; exact hh _ _ rfl (by omega)
 ·rw [List.getElem?_take] at e1 e2
  split at e1
  ·split at e2
   ·rename_i q1 q2
    rw [ht j h l q2 e1 e2]; exact c.nx j h l e1 e2
   ·cases e2
  ·cases e1
end
end Rg
end
section
namespace Rg
theorem znp {f:Nat->Nat} {n first:Nat}:∀{k i:Nat} {r:List Nat},(∀t,0 < t->t < i->first < it f t first)->zf5 f n first k (orb f first i) (it f i first)=some r->∃j,i<=j/\r=orb f first j/\it f j first=first/\∀t,0 < t->t < j->first < it f t first:=by
 intro k
 induction k with
 | zero=>intro i r _ h; cases h
 | succ k ih=>
  intro i r hg h
  unfold zf5 at h
  by_cases c:first < it f i first/\(orb f first i).length < n
  ·rw [if_pos c] at h
   have e1:orb f first i++[it f i first]=orb f first (i + 1):=(zhB f first i).symm
   have e2:f (it f i first)=it f (i + 1) first:=(zcz f i first).symm
   rw [e1,e2] at h
   obtain ⟨j,h1,h2⟩:=ih (i:=i + 1) (fun t t0 ti=>by
    by_cases q:t=i
    ·subst q; exact c.1
    ·exact hg t t0 (by omega)) h
   exact ⟨j,by omega,h2⟩
  ·rw [if_neg c] at h
   by_cases e:it f i first=first
   ·rw [if_pos e] at h
    cases h
    exact ⟨i,Nat.le_refl _,rfl,e,hg⟩
   ·rw [if_neg e] at h; cases h
theorem zf9 {f:Nat->Nat} {n x:Nat} {r:List Nat} (h:zeN f n x=some r):∃j,0 < j/\r=orb f x j/\it f j x=x/\∀t,0 < t->t < j->x < it f t x:=by
 have h':zf5 f n x (n + 1) (orb f x 1) (it f 1 x)=some r:=h
 obtain ⟨j,h1,h2⟩:=znp (fun t h1 h2=>by omega) h'
 exact ⟨j,by omega,h2⟩
theorem zlZ {f:Nat->Nat} {x j:Nat} (e:it f j x=x) (hg:∀t,0 < t->t < j->x < it f t x):(orb f x j).Nodup:=by
 unfold orb
 rw [List.nodup_iff_pairwise_ne,List.pairwise_map]
 have hp:∀p q:Nat,p < q->q < j->it f p x≠it f q x:=by
  intro p q hpq hq z
  have h1:it f (p + (j - q)) x=x:=by
   rw [zbW,z,<-zbW,show q + (j - q)=j by omega]; exact e
  have:=hg (p + (j - q)) (by omega) (by omega)
  omega
 refine List.pairwise_iff_getElem.mpr fun i l hi hl hil=>?_
 simp only [List.getElem_range]
 simp at hl
 exact hp i l hil hl
theorem zrU {f:Nat->Nat} {x j:Nat} (hj:0 < j) (e:it f j x=x) (t:Nat):it f t x=it f (t % j) x:=by
 conv=>lhs; rw [<-Nat.div_add_mod t j,zbW,zkb f e]
theorem zgV {f:Nat->Nat} {x j y t:Nat} (hj:0 < j) (e:it f j x=x) (hg:∀t,0 < t->t < j->x < it f t x) (h:it f t x=y):x<=y:=by
 rw [zrU hj e] at h
 by_cases q:t % j=0
 ·rw [q] at h; have:x=y:=h
  omega
 ·have:=hg (t % j) (by omega) (Nat.mod_lt _ hj)
  omega
theorem zi6 {f:Nat->Nat} {n x y w:Nat} {r u:List Nat} (hr:zeN f n x=some r) (hu:zeN f n y=some u) (h1:w∈r) (h2:w∈u):x=y:=by
 obtain ⟨j,j0,rfl,je,jg⟩:=zf9 hr
 obtain ⟨l,l0,rfl,le,lg⟩:=zf9 hu
 obtain ⟨p,hp,e1⟩:=List.mem_map.mp h1
 obtain ⟨q,hq,e2⟩:=List.mem_map.mp h2
 have hp:=List.mem_range.mp hp
 have hq:=List.mem_range.mp hq
 have a1:it f (p + (l - q)) x=y:=by
  rw [zbW,e1,<-e2,<-zbW,show q + (l - q)=l by omega]; exact le
 have a2:it f (q + (j - p)) y=x:=by
  rw [zbW,e2,<-e1,<-zbW,show p + (j - p)=j by omega]; exact je
 have:=zgV j0 je jg a1
 have:=zgV l0 le lg a2
 omega
theorem zi5 {f:Nat->Nat} {n:Nat}:∀{l:List Nat},l.Nodup->(l.filterMap fun h=>zeN f n h).flatten.Nodup
 | [],_=>List.nodup_nil
 | x::l,h=>by
  have hn:=List.nodup_cons.mp h
  have ih:=zi5 (f:=f) (n:=n) hn.2
  rw [List.filterMap_cons]
  cases e:zeN f n x with
  | none=>exact ih
  | some r=>
   rw [List.flatten_cons]
   obtain ⟨j,j0,hr,je,jg⟩:=zf9 e
   refine List.nodup_append.mpr ⟨by rw [hr]; exact zlZ je jg,ih,fun a ha b hb=>?_⟩
   rintro rfl
   obtain ⟨u,u1,u2⟩:=List.mem_flatten.mp hb
   obtain ⟨y,y1,y2⟩:=List.mem_filterMap.mp u1
   have:=zi6 e y2 ha u2
   subst this
   exact hn.1 y1
end Rg
end
section
namespace Rg
theorem zi9 {α:Type} [DecidableEq α]:∀{l m:List α},l.Nodup->m.Nodup->(∀x,x∈l↔x∈m)->l.Perm m
 | [],m,_,_,h=>by
  cases m with
  | nil=>exact .nil
  | cons a m=>exact absurd ((h a).mpr List.mem_cons_self) (fun z=>nomatch z)
 | a::l,m,hl,hm,h=>by
  have ha:a∈m:=(h a).mp List.mem_cons_self
  have hl':=List.nodup_cons.mp hl
  refine (List.Perm.cons a (zi9 hl'.2 (hm.erase a) fun x=>?_)).trans (List.perm_cons_erase ha).symm
  constructor
  ·intro hx
   have hne:x≠a:=by rintro rfl; exact hl'.1 hx
   exact (List.mem_erase_of_ne hne).mpr ((h x).mp (List.mem_cons_of_mem _ hx))
  ·intro hx
   obtain ⟨h1,h2⟩:=(List.Nodup.mem_erase_iff hm).mp hx
   exact (List.mem_cons.mp ((h x).mpr h2)).resolve_left h1
section
variable {W:Nat->List Nat} {O:Nat->Option Nat} {a:Nat->Nat} {f:Nat->Nat}
end
end Rg
end
section
namespace Rg
section
variable {W:Nat->List Nat} {d:Nat->Nat}
noncomputable def lk (W:Nat->List Nat) (h x y:Nat):Prop:=(W h).idxOf x < (W h).idxOf y
instance (W:Nat->List Nat) (h x y:Nat):Decidable (lk W h x y):=by unfold lk; infer_instance
noncomputable def env (W:Nat->List Nat) (d:Nat->Nat) (h:Nat) (others:List Nat):List Nat:=others.filter fun o=>decide (lk W h (d o) (d h))
noncomputable def stay (W:Nat->List Nat) (d:Nat->Nat) (hands:List Nat):List Nat:=hands.filter fun h=>!(env W d h hands).isEmpty
end
end Rg
end
section
namespace Law
open PySem PySem.Spec PyProof.Rows L2 DL
noncomputable abbrev gv (i:Nat):DL.FE:=fun r=>DL.getV r i
noncomputable abbrev ci (i:Int):DL.FE:=fun _=>.ok (.int i)
noncomputable abbrev q0:List DL.Md:=[.bw,.bw]
noncomputable abbrev q101:List DL.Md:=[.sh,.sh,.sh,.sh,.sh,.sh,.sh,.sh,.sh,.sh,.sh,.sh,.sh,.sh]
noncomputable abbrev q102:List DL.Md:=[.bw,.bw,.bw,.bw]
noncomputable abbrev q103:List DL.Md:=[.bw,.bw,.sh,.sh]
noncomputable abbrev q104:List DL.Md:=[.bw,.sh]
noncomputable abbrev q105:List DL.Md:=[.bw,.bw,.ow,.sh,.sh]
noncomputable abbrev q106:List DL.Md:=[.bw,.bw,.bw,.bw,.ow,.sh]
noncomputable abbrev q107:List DL.Md:=[.bw,.bw,.bw]
noncomputable abbrev q108:List DL.Md:=[.sh,.sh,.sh,.sh,.sh,.sh,.sh,.sh,.ow,.sh,.sh,.sh,.sh,.sh]
noncomputable abbrev q109:List DL.Md:=[.bw,.bw,.sh]
noncomputable abbrev q110:List DL.Md:=[.bw,.bw,.bw,.sh]
noncomputable abbrev q111:List DL.Md:=[.bw,.bw,.sh,.sh,.sh,.ow,.sh,.sh,.sh]
noncomputable abbrev q112:List DL.Md:=[.bw,.sh,.bw,.sh,.sh]
noncomputable abbrev q113:List DL.Md:=[.sh,.bw,.bw,.ow,.sh]
noncomputable abbrev q114:List DL.Md:=[.bw,.sh,.bw,.bw,.sh,.sh]
noncomputable abbrev q115:List DL.Md:=[.bw,.bw,.bw,.sh,.sh]
noncomputable abbrev q116:List DL.Md:=[.bw,.bw,.sh,.sh,.sh,.sh,.sh,.sh,.sh]
noncomputable abbrev q117:List DL.Md:=[.bw,.bw,.ow,.ow]
noncomputable abbrev q118:List DL.Md:=[.sh,.bw,.ow,.sh]
noncomputable abbrev q119:List DL.Md:=[.bw,.bw,.bw,.ow,.ow,.ow,.sh,.ow,.ow,.sh,.sh]
noncomputable abbrev q120:List DL.Md:=[.bw,.bw,.bw,.bw,.ow,.ow,.sh,.sh]
noncomputable abbrev q121:List DL.Md:=[.bw,.bw,.sh,.sh,.ow,.sh]
noncomputable abbrev q122:List DL.Md:=[.bw,.bw,.ow,.ow,.sh,.sh,.sh,.sh,.sh,.sh,.sh]
noncomputable abbrev q123:List DL.Md:=[.bw,.sh,.sh,.sh]
noncomputable abbrev q124:List DL.Md:=[.bw,.bw,.sh,.sh,.sh,.sh]
noncomputable abbrev q125:List DL.Md:=[.bw,.bw,.ow,.ow,.ow,.ow,.sh,.bw,.sh,.sh,.sh]
noncomputable abbrev q126:List DL.Md:=[.bw,.bw,.ow,.sh,.sh,.sh,.sh,.sh,.sh,.sh,.sh]
noncomputable abbrev q127:List DL.Md:=[.bw,.ow,.sh,.sh,.sh]
noncomputable abbrev q128:List DL.Md:=[.bw,.sh,.sh,.sh,.sh]
noncomputable abbrev q129:List DL.Md:=[.bw,.bw,.sh,.ow,.sh,.ow,.sh,.sh,.sh]
noncomputable abbrev q130:List DL.Md:=[.bw,.bw,.sh,.ow,.ow,.ow,.sh,.sh,.sh]
noncomputable abbrev q131:List DL.Md:=[.bw,.bw,.bw,.bw,.sh]
noncomputable abbrev q132:List DL.Md:=[.bw,.bw,.bw,.ow,.ow,.ow,.sh,.sh,.sh,.sh,.sh]
noncomputable abbrev q133:List DL.Md:=[.bw,.bw,.bw,.ow,.ow,.ow,.sh,.ow,.sh,.sh,.sh]
noncomputable abbrev q134:List DL.Md:=[.bw,.bw,.ow,.ow,.ow,.ow,.sh,.ow,.sh,.sh,.sh]
noncomputable abbrev q135:List DL.Md:=[.bw,.bw,.bw,.bw,.ow,.ow,.sh,.ow]
noncomputable abbrev q136:List DL.Md:=[.bw,.bw,.sh,.sh,.ow,.ow,.sh,.sh,.sh]
theorem zrH {α:Type} (us:List α) (h:us.length=2):∃a0 a1,us=[a0,a1]:=by
 match us,h with
 | [_,_],_=>exact ⟨_,_,rfl⟩
theorem ztd {α:Type} (us:List α) (h:us.length=3):∃a0 a1 a2,us=[a0,a1,a2]:=by
 match us,h with
 | [_,_,_],_=>exact ⟨_,_,_,rfl⟩
noncomputable def top (i:Nat):Stmt:=PySem.Challenge.pw_ringtrade_k15_first_ring_that_goes.main.body.getD i (.Pass ⟨0,0,0,0⟩)
structure Txt (K:PySem.W.Frag) (mg:Str->Option Value):Prop where
 b_range:mg "range" = none
 b_tuple:mg "tuple" = none
 b_len:mg "len" = none
 b_min:mg "min" = none
 b_list:mg "list" = none
 b_sorted:mg "sorted" = none
 b_dict:mg "dict" = none
 b_isinstance:mg "isinstance" = none
 b_bool:mg "bool" = none
 b_int:mg "int" = none
 b_enumerate:mg "enumerate" = none
 b_any:mg "any" = none
 b_max:mg "max" = none
 b_set:mg "set" = none
 b_all:mg "all" = none
noncomputable abbrev zfX:Stmt:=top 31
noncomputable abbrev zhf:List Str:=["_law_cell_here","_law_m","_law_row_here","_law_thing"]
noncomputable abbrev zdb:List Str:=["_law_cell_here","_law_m"]
theorem zde:FnScope zhf zdb (zab zfX):=fs_
noncomputable abbrev zfE:FS:=
 (seqF (mutF "list" q118 2 (zac (f2 (gv 0) (f2 (gv 3) (ci 1) addA) modI) (zac (gv 3) lNil)) insD) (seqF (setF q118 0 (f2 (gv 0) (f2 (gv 3) (ci 1) addA) zhO)) zaj))
noncomputable def zfm:FS:=
 (seqF (setF [.sh,.bw,.sh,.sh] 2 (mkL lNil)) (seqF (zbK q118 (fRng rng1 (zac (gv 1) lNil)) (ftN 3) zfE) (seqF (retF q118 (fC (zac (gv 2) lNil) tupD)) zaj)))
noncomputable def zbx:List D->Res D:=fun ds=>outR false (zfm (zas zhf.length ds))
theorem zpU {P:Program} {w:World} {K:PySem.W.Frag} {mg:Str->Option Value} {base:Heap} (T:Txt K mg) (A:DefAt K mg "_law_row" zfX):Callee P w K mg base "_law_row" zdb [] 1 false [.sh,.bw] zbx:=
 zbJ (m':=q118) A zde fun f cdv A outer s H g E hr hu1=>(zaa (zcl 2 zde.nd (by rfl) (by first | exact Or.inl rfl | exact Or.inr rfl) (zim zcM))
   (zaa (zf4 PassesOwn.never rfl (zd7 (by rfl) T.b_range (zan (vb_ 1) zaE)) (zao 3 zde.nd) (zaa (zgI 2 rfl PySem.F.plainAttrs_list PySem.F.slot_list_insert PySem.F.type_list_insert zmd zrY (by rfl) (by first | exact Or.inl rfl | exact Or.inr (Or.inl rfl) | exact Or.inr (Or.inr rfl)) (zbD (zeL (vb_ 0) (bE (zef (vb_ 3) iB))) (zbD (v_ 3) zcM)))
   (zaa (zbu 0 zde.nd (zlp (vb_ 0) (bE (zef (vb_ 3) iB))))
   zaf)))
   (zaa (zaN (zf1 (by rfl) T.b_tuple (zan (vb_ 2) zaE)))
   zaf)))
noncomputable abbrev zfq:Stmt:=top 30
noncomputable abbrev zgy:List Str:=["_law_script","_law_k","_law_cell_here","_law_stirred"]
noncomputable abbrev zcE:List Str:=["_law_script","_law_k"]
theorem zcS:FnScope zgy zcE (zab zfq):=fs_
noncomputable def zdx:FS:=
 (seqF (setF q103 2 (ci 0)) (seqF (ifF q103 (zaB (f2 (gv 1) (fC (zac (gv 0) lNil) lenD) ltI)) (seqF (setF q103 2 (f2 (f2 (gv 0) (gv 1) ixA) (f2 (ci 10) (ci 60) powI) modI)) zaj) zaj) (seqF (ifF q103 (fAnd (zaB (f2 (fC (zac (gv 0) lNil) lenD) (ci 0) gtI)) (zaB (f2 (f2 (f2 (gv 0) (ci 0) ixA) (ci 2) modI) (ci 0) eqD))) (seqF (retF q103 (gv 2)) zaj) zaj) (seqF (setF q103 3 (f2 (f2 (f2 (f2 (f2 (f2 (f2 (gv 2) (f2 (f2 (ci 7) (gv 1) mulI) (gv 1) mulI) addA) (f2 (ci 13) (gv 1) mulI) addA) (ci 5) addA) (ci 48271) mulI) (ci 2147483647) modI) (ci 69621) mulI) (ci 1000000007) modI)) (seqF (retF q103 (f2 (f2 (f2 (f2 (f2 (gv 3) (ci 1) addA) (ci 40692) mulI) (ci 2147483629) modI) (ci 39373) mulI) (ci 999999937) modI)) zaj)))))
noncomputable def za4:List D->Res D:=fun ds=>outR false (zdx (zas zgy.length ds))
theorem zoL {P:Program} {w:World} {K:PySem.W.Frag} {mg:Str->Option Value} {base:Heap} (T:Txt K mg) (A:DefAt K mg "_law_cell" zfq):Callee P w K mg base "_law_cell" zcE [] 1 false q0 za4:=
 zbJ (m':=q103) A zcS fun f cdv A outer s H g E hr hu1=>have hu64:=hr.units; (zaa (zbu 2 zcS.nd zqT)
   (zaa (s_if (q_lt (vb_ 1) (bE (zcn (by rfl) T.b_len (zan (vb_ 0) zaE)))) (zaa (zbu 2 zcS.nd (zeL (xB hu1 (vb_ 0) (vb_ 1)) (bE (zsS iB iB))))
   zaf)
   zaf)
   (zaa (s_if (SW.toQ (zpv (q_gt (bE (zcn (by rfl) T.b_len (zan (vb_ 0) zaE))) iB) (zlK (q_eq hu64 (bE (zeL (xB hu1 (vb_ 0) iB) iB)) iB)))) (zaa (zaN (v_ 2))
   zaf)
   zaf)
   (zaa (zbu 3 zcS.nd (zeL (bE (ziY (bE (zeL (bE (ziY (bE (zef (bE (zef (bE (zef (vb_ 2) (bE (ziY (bE (ziY iB (vb_ 1))) (vb_ 1))))) (bE (ziY iB (vb_ 1))))) iB)) iB)) iB)) iB)) iB))
   (zaa (zaN (zeL (bE (ziY (bE (zeL (bE (ziY (bE (zef (vb_ 3) iB)) iB)) iB)) iB)) iB))
   zaf)))))
noncomputable abbrev zb4:Stmt:=top 32
noncomputable abbrev zco:List Str:=["_law_script","_law_at","_law_n","_law_m"]
noncomputable abbrev zdn:List Str:=["_law_script","_law_at","_law_n","_law_m"]
theorem zee:FnScope zco zdn (zab zb4):=fs_
noncomputable def zdv:FS:=
 (seqF (retF q102 (fC (zac (zbC 1 [3,0,1] (fRng rng1 (zac (gv 2) lNil)) (ftN 0) (fun _=>Res.ok true) (zaH (zac (zaH (zac (gv 2) (zac (f2 (gv 3) (gv 0) addA) lNil)) [] za4) (zac (gv 1) lNil)) [] zbx)) lNil) tupD)) zaj)
noncomputable def zcs:List D->Res D:=fun ds=>outR false (zdv (zas zco.length ds))
theorem zne {P:Program} {w:World} {K:PySem.W.Frag} {mg:Str->Option Value} {base:Heap} (T:Txt K mg) (A:DefAt K mg "_law_wishes" zb4) (c__law_cell:Callee P w K mg base "_law_cell" zcE [] 1 false q0 za4) (c__law_row:Callee P w K mg base "_law_row" zdb [] 1 false [.sh,.bw] zbx):Callee P w K mg base "_law_wishes" zdn [] 2 false q102 zcs:=
 zbJ (m':=q102) A zee fun f cdv A outer s H g E hr hu1=>(zaa (zaN (zf1 (by rfl) T.b_tuple (zan (SO.toB (zc8 (X:=(cxOf CX0 P w K mg base zco "_law_wishes" (zab zb4) f cdv A outer s H E).nox) (N':=["_law_hand","_law_m","_law_script","_law_at"]) (nl:=1) (cap:=[3,0,1]) zee.nd rfl (zay (osc:=(zab zb4)) (ON:=zco) rfl rfl (by decide +kernel)) (SIt.toC (zd7 (by rfl) T.b_range (zan (vb_ 2) zaE))) (fun _ _ _ _ _ _=>(zao 0 (show List.Nodup (["_law_hand","_law_m","_law_script","_law_at"]:List Str) by decide +kernel))) (zaY (by decide)) (fun _ _ _ _ _ _=>zcm) (fun _ _ _ _ _ _=>(zaw c__law_row (m_sh (zaw c__law_cell (m_bw (vb_ 2) (m_bw (bE (zef (vb_ 3) (vb_ 0))) zaX))) (m_bw (vb_ 1) zaX)))))) zaE)))
   zaf)
noncomputable abbrev zeH:Stmt:=top 34
noncomputable abbrev zfC:List Str:=["_law_script","_law_at","_law_n"]
noncomputable abbrev zdS:List Str:=["_law_script","_law_at","_law_n"]
theorem zhs:FnScope zfC zdS (zab zeH):=fs_
noncomputable def zd3:FS:=
 (seqF (retF q107 (zaH (zac (zaH (zac (gv 0) (zac (gv 1) lNil)) [] za4) (zac (gv 2) lNil)) [] zbx)) zaj)
noncomputable def zc0:List D->Res D:=fun ds=>outR false (zd3 (zas zfC.length ds))
theorem znN {P:Program} {w:World} {K:PySem.W.Frag} {mg:Str->Option Value} {base:Heap} (T:Txt K mg) (A:DefAt K mg "_law_owned" zeH) (c__law_cell:Callee P w K mg base "_law_cell" zcE [] 1 false q0 za4) (c__law_row:Callee P w K mg base "_law_row" zdb [] 1 false [.sh,.bw] zbx):Callee P w K mg base "_law_owned" zdS [] 2 false q107 zc0:=
 zbJ (m':=q107) A zhs fun f cdv A outer s H g E hr hu1=>(zaa (zaN (zaw c__law_row (m_sh (zaw c__law_cell (m_bw (vb_ 0) (m_bw (vb_ 1) zaX))) (m_bw (vb_ 2) zaX))))
   zaf)
noncomputable abbrev zfr:Stmt:=top 33
noncomputable abbrev zgz:List Str:=["_law_row_here","_law_left","_law_thing"]
noncomputable abbrev zeu:List Str:=["_law_row_here","_law_left"]
theorem zft:FnScope zgz zeu (zab zfr):=fs_
noncomputable abbrev zbU:FS:=
 (seqF (ifF q109 (zaB (f2 (gv 2) (gv 1) inD)) (seqF (retF q109 (gv 2)) zaj) zaj) zaj)
noncomputable def zeA:FS:=
 (seqF (zbK q109 (fSeq zaU (gv 0)) (ftN 2) zbU) (seqF (retF q109 (fun _=>Res.ok D.non)) zaj))
noncomputable def zcJ:List D->Res D:=fun ds=>outR false (zeA (zas zgz.length ds))
theorem zoM {P:Program} {w:World} {K:PySem.W.Frag} {mg:Str->Option Value} {base:Heap} (T:Txt K mg) (A:DefAt K mg "_law_best" zfr):Callee P w K mg base "_law_best" zeu [] 1 false q0 zcJ:=
 zbJ (m':=q109) A zft fun f cdv A outer s H g E hr hu1=>(zaa (zjR PassesOwn.never rfl (zbm (vb_ 0)) (fun _=>(zao 2 zft.nd)) (fun _=>(zaa (s_if (q_in hu1 (vb_ 2) (vb_ 1)) (zaa (zaN (v_ 2))
   zaf)
   zaf)
   zaf)))
   (zaa (zaN zf2)
   zaf))
noncomputable abbrev zdG:Stmt:=top 37
noncomputable abbrev zel:List Str:=["_law_owns","_law_hands","_law_at","_law_turned","_law_found","_law_k"]
noncomputable abbrev zc2:List Str:=["_law_owns","_law_hands"]
theorem zbo:FnScope zel zc2 (zab zdG):=fs_
noncomputable abbrev zdB:FS:=
 (seqF (mutF "list" q121 4 (zac (mkT (zac (f2 (gv 3) (gv 5) ixA) (zac (f2 (gv 0) (f2 (gv 3) (f2 (f2 (gv 5) (ci 1) addA) (fC (zac (gv 3) lNil) lenD) modI) ixA) ixA) lNil))) lNil) appD) zaj)
noncomputable def zc4:FS:=
 (seqF (setF q124 2 (fM "list" (gv 1) (zac (fC (zac (gv 1) lNil) zfJ) lNil) zjn)) (seqF (setF q124 3 (f2 (fSl (gv 1) (zjs (gv 2)) (fun _=>Res.ok none)) (fSl (gv 1) (fun _=>Res.ok none) (zjs (gv 2))) addE)) (seqF (setF q124 4 (mkL lNil)) (seqF (zbK q121 (fRng rng1 (zac (fC (zac (gv 3) lNil) lenD) lNil)) (ftN 5) zdB) (seqF (retF q121 (fC (zac (gv 4) lNil) tupD)) zaj)))))
noncomputable def zcb:List D->Res D:=fun ds=>outR false (zc4 (zas zel.length ds))
theorem zl4 {P:Program} {w:World} {K:PySem.W.Frag} {mg:Str->Option Value} {base:Heap} (T:Txt K mg) (A:DefAt K mg "_law_ring_of" zdG):Callee P w K mg base "_law_ring_of" zc2 [] 1 false q0 zcb:=
 zbJ (m':=q121) A zbo fun f cdv A outer s H g E hr hu1=>(zaa (zbu 2 zbo.nd (s_bm PySem.F.plainAttrs_list PySem.F.slot_list_index PySem.F.type_list_index zme zmv (vb_ 1) (zan (bE (zjQ rfl (by rfl) T.b_min (zan (vb_ 1) zaE))) zaE)))
   (zaa (zbu 3 zbo.nd (zow (bE (znl (vb_ 1) (zjY (vb_ 2)) zjZ)) (bE (znl (vb_ 1) zjZ (zjY (vb_ 2))))))
   (zaa (zcl 4 zbo.nd (by rfl) (by first | exact Or.inl rfl | exact Or.inr rfl) (zim zcM))
   (zaa (zf4 PassesOwn.never rfl (zd7 (by rfl) T.b_range (zan (bE (zcn (by rfl) T.b_len (zan (vb_ 3) zaE))) zaE)) (zao 5 zbo.nd) (zaa (zgI 4 rfl PySem.F.plainAttrs_list PySem.F.slot_list_append PySem.F.type_list_append zce zgs (by rfl) (by first | exact Or.inl rfl | exact Or.inr (Or.inl rfl) | exact Or.inr (Or.inr rfl)) (zbD (znk (zbD (zdD hu1 (vb_ 3) (vb_ 5)) (zbD (zdD hu1 (vb_ 0) (xB hu1 (vb_ 3) (bE (zeL (bE (zef (vb_ 5) iB)) (bE (zcn (by rfl) T.b_len (zan (vb_ 3) zaE))))))) zcM))) zcM))
   zaf))
   (zaa (zaN (zf1 (by rfl) T.b_tuple (zan (vb_ 4) zaE)))
   zaf)))))
noncomputable abbrev zb5:Stmt:=top 38
noncomputable abbrev zcp:List Str:=["_law_wishes_here","_law_owns","_law_left","_law_found","_law_things","_law_points","_law_hand","_law_rings","_law_hands","_law_ring","_law_thing"]
noncomputable abbrev zdo:List Str:=["_law_wishes_here","_law_owns"]
theorem zax:FnScope zcp zdo (zab zb5):=fs_
noncomputable abbrev zdQ:FQ:=
 (zaB (f2 (f2 (gv 5) (f2 (gv 8) (f1 (ci 1) negI) ixA) ixA) (gv 8) ninD))
noncomputable abbrev zcB:FQ:=
 (zaB (f2 (fC (zac (gv 2) lNil) lenD) (ci 0) gtI))
noncomputable abbrev zd0:FS:=
 (seqF (putF q132 5 (gv 6) (fM "tuple" (gv 1) (zac (zaH (zac (f2 (gv 0) (gv 6) ixA) (zac (gv 4) lNil)) [] zcJ) lNil) zdN)) zaj)
noncomputable abbrev zdZ:FS:=
 (seqF (mutF "list" q119 8 (zac (f2 (gv 5) (f2 (gv 8) (f1 (ci 1) negI) ixA) ixA) lNil) appD) zaj)
noncomputable abbrev zcH:FS:=
 (seqF (setF q133 8 (mkL (zac (gv 6) lNil))) (seqF (zbM q119 zdQ zdZ 64) (seqF (ifF q119 (fAnd (zaB (f2 (f2 (gv 5) (f2 (gv 8) (f1 (ci 1) negI) ixA) ixA) (gv 6) eqD)) (zaB (f2 (fC (zac (gv 8) lNil) zfJ) (gv 6) eqD))) (seqF (mutF "list" q119 7 (zac (zaH (zac (gv 1) (zac (gv 8) lNil)) [] zcb) lNil) appD) zaj) zaj) zaj)))
noncomputable abbrev zdY:FS:=
 (seqF (mutF "list" q125 2 (zac (gv 6) lNil) remD) zaj)
noncomputable abbrev zdX:FS:=
 (seqF (zbK q125 (fSeq zaU (gv 9)) (ftT (zau (ftN 6) (zau (ftN 10) zcf))) zdY) zaj)
noncomputable abbrev zcG:FS:=
 (seqF (setF q122 4 (zbC 1 [1] (fSeq zaU (gv 2)) (ftN 0) (fun _=>Res.ok true) (f2 (gv 1) (gv 0) ixA))) (seqF (setF [.bw,.bw,.ow,.ow,.ow,.sh,.sh,.sh,.sh,.sh,.sh] 5 (fun _=>Res.ok (D.dic []))) (seqF (zbK q132 (fSeq zaU (gv 2)) (ftN 6) zd0) (seqF (setF [.bw,.bw,.ow,.ow,.ow,.ow,.sh,.sh,.sh,.sh,.sh] 7 (mkL lNil)) (seqF (zbK q133 (fSeq zaU (gv 2)) (ftN 6) zcH) (seqF (mutF "list" q134 3 (zac (fC (zac (gv 7) lNil) zh4) lNil) appD) (seqF (zbK q125 (fSeq zaU (gv 7)) (ftN 9) zdX) zaj)))))))
noncomputable def zdw:FS:=
 (seqF (setF [.bw,.bw,.sh,.sh,.sh,.sh,.sh,.sh,.sh,.sh,.sh] 2 (fC (zac (fC (zac (gv 0) lNil) lenD) lNil) zjg)) (seqF (setF q126 3 (mkL lNil)) (seqF (zbM q122 zcB zcG 64) (seqF (retF q126 (gv 3)) zaj))))
noncomputable def zct:List D->Res D:=fun ds=>outR false (zdw (zas zcp.length ds))
theorem znf {P:Program} {w:World} {K:PySem.W.Frag} {mg:Str->Option Value} {base:Heap} (T:Txt K mg) (A:DefAt K mg "_law_rounds" zb5) (c__law_best:Callee P w K mg base "_law_best" zeu [] 1 false q0 zcJ) (c__law_ring_of:Callee P w K mg base "_law_ring_of" zc2 [] 1 false q0 zcb):Callee P w K mg base "_law_rounds" zdo [] 2 false q0 zct:=
 zbJ (m':=q126) A zax fun f cdv A outer s H g E hr hu1=>have hu64:=hr.units; (zaa (zcl 2 zax.nd (by rfl) (by first | exact Or.inl rfl | exact Or.inr rfl) (zhD rfl (by rfl) T.b_list (by rfl) T.b_range (zan (bE (zcn (by rfl) T.b_len (zan (vb_ 0) zaE))) zaE)))
   (zaa (zcl 3 zax.nd (by rfl) (by first | exact Or.inl rfl | exact Or.inr rfl) (zim zcM))
   (zaa (zf0 64 PassesOwn.never (q_gt (bE (zcn (by rfl) T.b_len (zan (vb_ 2) zaE))) iB) (zbO (m':=[.bw,.bw,.ow,.ow,.sh,.sh,.sh,.ow,.sh,.sh,.sh]) 7 (zbO (m':=[.bw,.bw,.ow,.ow,.sh,.ow,.sh,.ow,.sh,.sh,.sh]) 5 (zbO (m':=q134) 4 (zaa (zbP 4 (X:=(cxOf CX0 P w K mg base zcp "_law_rounds" (zab zb5) f cdv A outer s H E).nox) (m:=q122) (N':=["_law_hand","_law_owns"]) (nl:=1) (cap:=[1]) zax.nd rfl (by rfl) (by rfl) (zay (osc:=(zab zb5)) (ON:=zcp) rfl rfl (by decide +kernel)) (zbm (vb_ 2)) (fun _ _ _ _ _ _=>(zao 0 (show List.Nodup (["_law_hand","_law_owns"]:List Str) by decide +kernel))) (zaY (by decide)) (fun _ _ _ _ _ _=>zcm) (fun _ _ _ _ _ _=>(zdD hu1 (vb_ 1) (vb_ 0))))
   (zaa (zcl 5 zax.nd (by rfl) (by first | exact Or.inl rfl | exact Or.inr rfl) zgY)
   (zaa (ziR (i:=2) rfl zjh (fun _=>zf3 PassesOwn.never rfl (zg3 (vw_ 2)) (zao 6 zax.nd) (zaa (zlo 5 hu1 rfl (by rfl) (by first | exact Or.inl rfl | exact Or.inr (Or.inl rfl) | exact Or.inr (Or.inr rfl)) (vb_ 6) (s_bm PySem.F.plainAttrs_tuple PySem.F.slot_tuple_index PySem.F.type_tuple_index zdJ zdM (vb_ 1) (zan (bE (zaw c__law_best (m_bw (xB hu1 (vb_ 0) (vb_ 6)) (m_bw (vb_ 4) zaX)))) zaE)))
   zaf)))
   (zaa (zcl 7 zax.nd (by rfl) (by first | exact Or.inl rfl | exact Or.inr rfl) (zim zcM))
   (zaa (ziR (i:=2) rfl zjh (fun _=>zf3 PassesOwn.never rfl (zg3 (vw_ 2)) (zao 6 zax.nd) (zbO (m':=q119) 8 (zaa (zcl 8 zax.nd (by rfl) (by first | exact Or.inl rfl | exact Or.inr rfl) (zim (zbD (v_ 6) zcM)))
   (zaa (zf0 64 PassesOwn.never (zlJ hu1 (xB hu1 (vb_ 5) (xB hu1 (vb_ 8) (bE (zpi iB)))) (vb_ 8)) (zaa (zgI 8 rfl PySem.F.plainAttrs_list PySem.F.slot_list_append PySem.F.type_list_append zce zgs (by rfl) (by first | exact Or.inl rfl | exact Or.inr (Or.inl rfl) | exact Or.inr (Or.inr rfl)) (zbD (zdD hu1 (vb_ 5) (xB hu1 (vb_ 8) (bE (zpi iB)))) zcM))
   zaf))
   (zaa (s_if (SW.toQ (zpv (q_eq hu64 (xB hu1 (vb_ 5) (xB hu1 (vb_ 8) (bE (zpi iB)))) (vb_ 6)) (zlK (q_eq hu64 (bE (zjQ rfl (by rfl) T.b_min (zan (vb_ 8) zaE))) (vb_ 6))))) (zaa (zgI 7 rfl PySem.F.plainAttrs_list PySem.F.slot_list_append PySem.F.type_list_append zce zgs (by rfl) (by first | exact Or.inl rfl | exact Or.inr (Or.inl rfl) | exact Or.inr (Or.inr rfl)) (zbD (zaw c__law_ring_of (m_bw (vb_ 1) (m_bw (vb_ 8) zaX))) zcM))
   zaf)
   zaf)
   zaf))) rfl)))
   (zaa (zgI 3 rfl PySem.F.plainAttrs_list PySem.F.slot_list_append PySem.F.type_list_append zce zgs (by rfl) (by first | exact Or.inl rfl | exact Or.inr (Or.inl rfl) | exact Or.inr (Or.inr rfl)) (zbD (SO.toE (zj2 hr (by rfl) T.b_sorted (zan (vb_ 7) zaE))) zcM))
   (zaa (ziR (i:=7) rfl zjh (fun _=>zf3 PassesOwn.never rfl (zg3 (vw_ 7)) (zao 9 zax.nd) (zaa (zf4 PassesOwn.never rfl (zkY (v_ 9)) (zeU rfl (zba (zao 6 zax.nd) (zba (zao 10 zax.nd) zeV))) (zaa (zgI 2 rfl PySem.F.plainAttrs_list PySem.F.slot_list_remove PySem.F.type_list_remove zmc zqZ (by rfl) (by first | exact Or.inl rfl | exact Or.inr (Or.inl rfl) | exact Or.inr (Or.inr rfl)) (zbD (v_ 6) zcM))
   zaf))
   zaf)))
   zaf))))))) rfl) rfl) rfl))
   (zaa (znn 3 rfl (zaN (v_ 3)))
   zaf))))
noncomputable abbrev zbv:Stmt:=top 39
noncomputable abbrev zbH:List Str:=["_law_due","_law_n","_law_got","_law_rings","_law_ring"]
noncomputable abbrev zci:List Str:=["_law_due","_law_n"]
theorem zbc:FnScope zbH zci (zab zbv):=fs_
noncomputable abbrev zcX:FS:=
 (seqF (mutF "dict" q105 2 (zac (fC (zac (fC (zac (gv 4) lNil) zhI) lNil) zof) lNil) updD) zaj)
noncomputable abbrev zcW:FS:=
 (seqF (zbK q105 (fSeq zaU (gv 3)) (ftN 4) zcX) zaj)
noncomputable def zck:FS:=
 (seqF (setF [.bw,.bw,.sh,.sh,.sh] 2 (fun _=>Res.ok (D.dic []))) (seqF (zbK q105 (fSeq zaU (gv 0)) (ftN 3) zcW) (seqF (retF q105 (zbC 1 [2] (fRng rng1 (zac (gv 1) lNil)) (ftN 0) (fun _=>Res.ok true) (f2 (gv 1) (gv 0) ixA))) zaj)))
noncomputable def zbI:List D->Res D:=fun ds=>outR false (zck (zas zbH.length ds))
theorem zkM {P:Program} {w:World} {K:PySem.W.Frag} {mg:Str->Option Value} {base:Heap} (T:Txt K mg) (A:DefAt K mg "_law_by_rounds" zbv):Callee P w K mg base "_law_by_rounds" zci [] 1 false q0 zbI:=
 zbJ (m':=q105) A zbc fun f cdv A outer s H g E hr hu1=>(zaa (zcl 2 zbc.nd (by rfl) (by first | exact Or.inl rfl | exact Or.inr rfl) zgY)
   (zaa (zf3 PassesOwn.never rfl (zg3 (vw_ 0)) (zao 3 zbc.nd) (zaa (zf4 PassesOwn.never rfl (zkY (v_ 3)) (zao 4 zbc.nd) (zaa (zgI 2 rfl PySem.F.plainAttrs_dict PySem.F.slot_dict_update PySem.F.type_dict_update zmb zqy (by rfl) (by first | exact Or.inl rfl | exact Or.inr (Or.inl rfl) | exact Or.inr (Or.inr rfl)) (zbD (SO.toE (zpW rfl (by rfl) T.b_dict (zan (SO.toB (zl7 (by rfl) T.b_list (zan (vb_ 4) zaE))) zaE))) zcM))
   zaf))
   zaf))
   (zaa (zaN (SO.toE (zc8 (X:=(cxOf CX0 P w K mg base zbH "_law_by_rounds" (zab zbv) f cdv A outer s H E).nox) (N':=["_law_hand","_law_got"]) (nl:=1) (cap:=[2]) zbc.nd rfl (zay (osc:=(zab zbv)) (ON:=zbH) rfl rfl (by decide +kernel)) (SIt.toC (zd7 (by rfl) T.b_range (zan (vb_ 1) zaE))) (fun _ _ _ _ _ _=>(zao 0 (show List.Nodup (["_law_hand","_law_got"]:List Str) by decide +kernel))) (zaY (by decide)) (fun _ _ _ _ _ _=>zcm) (fun _ _ _ _ _ _=>(zdD hu1 (vb_ 1) (vb_ 0))))))
   zaf)))
noncomputable abbrev zaM:Stmt:=top 40
noncomputable abbrev zaR:List Str:=["_law_due","_law_dealing","_law_got","_law_rings","_law_ring"]
noncomputable abbrev zbT:List Str:=["_law_due","_law_dealing","_law_got"]
theorem za2:FnScope zaR zbT (zab zaM):=fs_
noncomputable abbrev zaW:FS:=
 (seqF (ifF q115 (zaB (f2 (zbC 2 [1] (fSeq zaU (gv 4)) (ftT (zau (ftN 0) (zau (ftN 1) zcf))) (fun _=>Res.ok true) (f2 (gv 2) (gv 0) ixA)) (zbC 2 [2] (fSeq zaU (gv 4)) (ftT (zau (ftN 0) (zau (ftN 1) zcf))) (fun _=>Res.ok true) (f2 (gv 2) (gv 0) ixA)) neD)) (seqF (retF q115 (gv 4)) zaj) zaj) zaj)
noncomputable abbrev zaV:FS:=
 (seqF (zbK q115 (fSeq zaU (gv 3)) (ftN 4) zaW) zaj)
noncomputable def za8:FS:=
 (seqF (zbK q115 (fSeq zaU (gv 0)) (ftN 3) zaV) (seqF (retF q115 (fun _=>Res.ok D.non)) zaj))
noncomputable def za7:List D->Res D:=fun ds=>outR false (za8 (zas zaR.length ds))
theorem zi8 {P:Program} {w:World} {K:PySem.W.Frag} {mg:Str->Option Value} {base:Heap} (T:Txt K mg) (A:DefAt K mg "_law_first_other" zaM):Callee P w K mg base "_law_first_other" zbT [] 1 false q107 za7:=
 zbJ (m':=q115) A za2 fun f cdv A outer s H g E hr hu1=>have hu64:=hr.units; (zaa (zjR PassesOwn.never rfl (zbm (vb_ 0)) (fun _=>(zao 3 za2.nd)) (fun _=>(zaa (zf4 PassesOwn.never rfl (zkY (v_ 3)) (zao 4 za2.nd) (zaa (s_if (q_ne hu64 (SO.toB (zc8 (X:=(cxOf CX0 P w K mg base zaR "_law_first_other" (zab zaM) f cdv A outer s H E).nox) (N':=["_law_hand","_law_thing","_law_dealing"]) (nl:=2) (cap:=[1]) za2.nd rfl (zay (osc:=(zab zaM)) (ON:=zaR) rfl rfl (by decide +kernel)) (zbm (vb_ 4)) (fun _ _ _ _ _ _=>(zeU rfl (zba (zao 0 (show List.Nodup (["_law_hand","_law_thing","_law_dealing"]:List Str) by decide +kernel)) (zba (zao 1 (show List.Nodup (["_law_hand","_law_thing","_law_dealing"]:List Str) by decide +kernel)) zeV)))) (zek (zaD (zaY (by decide)) (zaD (zaY (by decide)) zb7))) (fun _ _ _ _ _ _=>zcm) (fun _ _ _ _ _ _=>(zdD hu1 (vb_ 2) (vb_ 0))))) (SO.toB (zc8 (X:=(cxOf CX0 P w K mg base zaR "_law_first_other" (zab zaM) f cdv A outer s H E).nox) (N':=["_law_hand","_law_thing","_law_got"]) (nl:=2) (cap:=[2]) za2.nd rfl (zay (osc:=(zab zaM)) (ON:=zaR) rfl rfl (by decide +kernel)) (zbm (vb_ 4)) (fun _ _ _ _ _ _=>(zeU rfl (zba (zao 0 (show List.Nodup (["_law_hand","_law_thing","_law_got"]:List Str) by decide +kernel)) (zba (zao 1 (show List.Nodup (["_law_hand","_law_thing","_law_got"]:List Str) by decide +kernel)) zeV)))) (zek (zaD (zaY (by decide)) (zaD (zaY (by decide)) zb7))) (fun _ _ _ _ _ _=>zcm) (fun _ _ _ _ _ _=>(zdD hu1 (vb_ 2) (vb_ 0)))))) (zaa (zaN (v_ 4))
   zaf)
   zaf)
   zaf))
   zaf)))
   (zaa (zaN zf2)
   zaf))
noncomputable abbrev zfn:Stmt:=top 10
noncomputable abbrev zgv:List Str:=["wishes"]
noncomputable abbrev zcC:List Str:=["wishes"]
theorem zh6:FnScope zgv zcC (zab zfn):=fs_
noncomputable def zev:FS:=
 (seqF (retF [Md.bw] (fC (zac (f2 (gv 0) (ci 0) ixA) lNil) lenD)) zaj)
noncomputable def zbs:List D->Res D:=fun ds=>outR false (zev (zas zgv.length ds))
theorem zoG {P:Program} {w:World} {K:PySem.W.Frag} {mg:Str->Option Value} {base:Heap} (T:Txt K mg) (A:DefAt K mg "things_in" zfn):Callee P w K mg base "things_in" zcC [] 1 false [Md.bw] zbs:=
 zbJ (m':=[Md.bw]) A zh6 fun f cdv A outer s H g E hr hu1=>(zaa (zaN (zcn (by rfl) T.b_len (zan (xB hu1 (vb_ 0) iB) zaE)))
   zaf)
noncomputable abbrev zfp:Stmt:=top 11
noncomputable abbrev zgx:List Str:=["wishes"]
noncomputable abbrev zer:List Str:=["wishes"]
theorem zh7:FnScope zgx zer (zab zfp):=fs_
noncomputable def zex:FS:=
 (seqF (retF [Md.bw] (f2 (zaH (zac (gv 0) lNil) [] zbs) (fC (zac (gv 0) lNil) lenD) eqD)) zaj)
noncomputable def zdr:List D->Res D:=fun ds=>outR false (zex (zas zgx.length ds))
theorem zoI {P:Program} {w:World} {K:PySem.W.Frag} {mg:Str->Option Value} {base:Heap} (T:Txt K mg) (A:DefAt K mg "is_square" zfp) (c_things_in:Callee P w K mg base "things_in" zcC [] 1 false [Md.bw] zbs):Callee P w K mg base "is_square" zer [] 2 false [Md.bw] zdr:=
 zbJ (m':=[Md.bw]) A zh7 fun f cdv A outer s H g E hr hu1=>have hu64:=hr.units; (zaa (zaN (s_eq hu64 (bE (zaw c_things_in (m_bw (vb_ 0) zaX))) (bE (zcn (by rfl) T.b_len (zan (vb_ 0) zaE)))))
   zaf)
noncomputable abbrev zfV:Stmt:=top 5
noncomputable abbrev zhc:List Str:=["value"]
noncomputable abbrev zfk:List Str:=["value"]
theorem ziV:FnScope zhc zfk (zab zfV):=fs_
noncomputable def zk9:FS:=
 (seqF (retF [Md.bw] (vAnd (f1 (gv 0) (isiD "int")) (vNot (f1 (gv 0) (isiD "bool"))))) zaj)
noncomputable def zea:List D->Res D:=fun ds=>outR false (zk9 (zas zhc.length ds))
theorem zpS {P:Program} {w:World} {K:PySem.W.Frag} {mg:Str->Option Value} {base:Heap} (T:Txt K mg) (A:DefAt K mg "is_whole" zfV):Callee P w K mg base "is_whole" zfk [] 1 false [Md.bw] zea:=
 zbJ (m':=[Md.bw]) A ziV fun f cdv A outer s H g E hr hu1=>(zaa (zaN (zkz (zkx "int" "int" rfl (zmk _) (by rfl) T.b_isinstance (by rfl) T.b_int (vb_ 0)) (zkw (zph (zkx "bool" "bool" rfl (zj8 _) (by rfl) T.b_isinstance (by rfl) T.b_bool (vb_ 0))))))
   zaf)
noncomputable abbrev zfW:Stmt:=top 6
noncomputable abbrev zhd:List Str:=["value","bound"]
noncomputable abbrev zd9:List Str:=["value","bound"]
theorem ziW:FnScope zhd zd9 (zab zfW):=fs_
noncomputable def zfl:FS:=
 (seqF (retF q0 (vAnd (zaH (zac (gv 0) lNil) [] zea) (ziA (ci 0) (gv 0) (gv 1) leI ltI))) zaj)
noncomputable def zb1:List D->Res D:=fun ds=>outR false (zfl (zas zhd.length ds))
theorem zpT {P:Program} {w:World} {K:PySem.W.Frag} {mg:Str->Option Value} {base:Heap} (T:Txt K mg) (A:DefAt K mg "is_below" zfW) (c_is_whole:Callee P w K mg base "is_whole" zfk [] 1 false [Md.bw] zea):Callee P w K mg base "is_below" zd9 [] 2 false q0 zb1:=
 zbJ (m':=q0) A ziW fun f cdv A outer s H g E hr hu1=>(zaa (zaN (zkz (zaw c_is_whole (m_bw (vb_ 0) zaX)) (zkw (zno zs2 zpO zs7 zs6 iB (vb_ 0) (vb_ 1)))))
   zaf)
noncomputable abbrev zby:Stmt:=top 25
noncomputable abbrev zbE:List Str:=["wishes","owns","hand","own"]
noncomputable abbrev zaO:List Str:=["wishes","owns"]
theorem za5:FnScope zbE zaO (zab zby):=fs_
noncomputable abbrev zbr:FS:=
 (seqF (ifF q123 (fNot (fTru (zaH (zac (gv 3) (zac (fC (zac (gv 0) lNil) lenD) lNil)) [] zb1))) (seqF (fun _=>Out.stuck) zaj) zaj) zaj)
noncomputable def zaP:FS:=
 (seqF (ifF q123 (fNot (fTru (zaH (zac (gv 0) lNil) [] zdr))) (seqF (fun _=>Out.stuck) zaj) zaj) (seqF (zbK q123 (fEnu (gv 1)) (ftT (zau (ftN 2) (zau (ftN 3) zcf))) zbr) zaj))
noncomputable def zap:List D->Res D:=fun ds=>outR false (zaP (zas zbE.length ds))
theorem zgD {P:Program} {w:World} {K:PySem.W.Frag} {mg:Str->Option Value} {base:Heap} (T:Txt K mg) (A:DefAt K mg "refuse_unless_all_owned" zby) (c_is_square:Callee P w K mg base "is_square" zer [] 2 false [Md.bw] zdr) (c_is_below:Callee P w K mg base "is_below" zd9 [] 2 false q0 zb1):Callee P w K mg base "refuse_unless_all_owned" zaO [] 3 false q104 zap:=
 zbJ (m':=q123) A za5 fun f cdv A outer s H g E hr hu1=>(zaa (s_if (zfH (zeb (bE (zaw c_is_square (m_bw (vb_ 0) zaX))))) (zaa ziX
   zaf)
   zaf)
   (zaa (zf4 PassesOwn.never rfl (zr2 (by rfl) T.b_enumerate (v_ 1)) (zeU rfl (zba (zao 2 za5.nd) (zba (zao 3 za5.nd) zeV))) (zaa (s_if (zfH (zeb (bE (zaw c_is_below (m_bw (vb_ 3) (m_bw (bE (zcn (by rfl) T.b_len (zan (vb_ 0) zaE))) zaX)))))) (zaa ziX
   zaf)
   zaf)
   zaf))
   zaf))
noncomputable abbrev zed:Stmt:=top 7
noncomputable abbrev ze4:List Str:=["numbers","bound","ahead","place","number"]
noncomputable abbrev zdm:List Str:=["numbers","bound"]
theorem zb6:FnScope ze4 zdm (zab zed):=fs_
noncomputable abbrev zcF:FS:=
 (seqF (ifF q105 (fOr (fNot (fTru (zaH (zac (gv 4) (zac (gv 1) lNil)) [] zb1))) (zaB (f2 (gv 4) (gv 2) inD))) (seqF (retF q105 (gv 3)) zaj) zaj) (seqF (putF q105 2 (gv 4) (fun _=>Res.ok (D.bl true))) zaj))
noncomputable def zdu:FS:=
 (seqF (setF [.bw,.bw,.sh,.sh,.sh] 2 (fun _=>Res.ok (D.dic []))) (seqF (zbK q105 (fEnu (gv 0)) (ftT (zau (ftN 3) (zau (ftN 4) zcf))) zcF) (seqF (retF q105 (fC (zac (gv 0) lNil) lenD)) zaj)))
noncomputable def zcr:List D->Res D:=fun ds=>outR false (zdu (zas ze4.length ds))
theorem znd {P:Program} {w:World} {K:PySem.W.Frag} {mg:Str->Option Value} {base:Heap} (T:Txt K mg) (A:DefAt K mg "first_wrong" zed) (c_is_below:Callee P w K mg base "is_below" zd9 [] 2 false q0 zb1):Callee P w K mg base "first_wrong" zdm [] 3 false q0 zcr:=
 zbJ (m':=q105) A zb6 fun f cdv A outer s H g E hr hu1=>(zaa (zcl 2 zb6.nd (by rfl) (by first | exact Or.inl rfl | exact Or.inr rfl) zgY)
   (zaa (zf3 PassesOwn.never rfl (zqe (by rfl) T.b_enumerate (vw_ 0)) (zeU rfl (zba (zao 3 zb6.nd) (zba (zao 4 zb6.nd) zeV))) (zaa (s_if (SW.toQ (q_or (zfH (zeb (bE (zaw c_is_below (m_bw (vb_ 4) (m_bw (vb_ 1) zaX)))))) (zkI (q_in hu1 (vb_ 4) (vb_ 2))))) (zaa (zaN (v_ 3))
   zaf)
   zaf)
   (zaa (zlo 2 hu1 rfl (by rfl) (by first | exact Or.inl rfl | exact Or.inr (Or.inl rfl) | exact Or.inr (Or.inr rfl)) (vb_ 4) s_bl)
   zaf)))
   (zaa (zaN (zcn (by rfl) T.b_len (zan (vb_ 0) zaE)))
   zaf)))
noncomputable abbrev zeG:Stmt:=top 8
noncomputable abbrev zfB:List Str:=["numbers","bound"]
noncomputable abbrev zcU:List Str:=["numbers","bound"]
theorem zhr:FnScope zfB zcU (zab zeG):=fs_
noncomputable def zd2:FS:=
 (seqF (retF q0 (f2 (zaH (zac (gv 0) (zac (gv 1) lNil)) [] zcr) (fC (zac (gv 0) lNil) lenD) eqD)) zaj)
noncomputable def zbt:List D->Res D:=fun ds=>outR false (zd2 (zas zfB.length ds))
theorem znM {P:Program} {w:World} {K:PySem.W.Frag} {mg:Str->Option Value} {base:Heap} (T:Txt K mg) (A:DefAt K mg "are_unlike" zeG) (c_first_wrong:Callee P w K mg base "first_wrong" zdm [] 3 false q0 zcr):Callee P w K mg base "are_unlike" zcU [] 4 false q0 zbt:=
 zbJ (m':=q0) A zhr fun f cdv A outer s H g E hr hu1=>have hu64:=hr.units; (zaa (zaN (s_eq hu64 (bE (zaw c_first_wrong (m_bw (vb_ 0) (m_bw (vb_ 1) zaX)))) (bE (zcn (by rfl) T.b_len (zan (vb_ 0) zaE)))))
   zaf)
noncomputable abbrev zdy:Stmt:=top 9
noncomputable abbrev zdU:List Str:=["numbers","bound"]
noncomputable abbrev zcD:List Str:=["numbers","bound"]
theorem zfG:FnScope zdU zcD (zab zdy):=fs_
noncomputable def zcL:FS:=
 (seqF (retF q0 (vAnd (f2 (fC (zac (gv 0) lNil) lenD) (gv 1) eqD) (zaH (zac (gv 0) (zac (gv 1) lNil)) [] zbt))) zaj)
noncomputable def zbV:List D->Res D:=fun ds=>outR false (zcL (zas zdU.length ds))
theorem zla {P:Program} {w:World} {K:PySem.W.Frag} {mg:Str->Option Value} {base:Heap} (T:Txt K mg) (A:DefAt K mg "has_each_once" zdy) (c_are_unlike:Callee P w K mg base "are_unlike" zcU [] 4 false q0 zbt):Callee P w K mg base "has_each_once" zcD [] 5 false q0 zbV:=
 zbJ (m':=q0) A zfG fun f cdv A outer s H g E hr hu1=>have hu64:=hr.units; (zaa (zaN (zkz (s_eq hu64 (bE (zcn (by rfl) T.b_len (zan (vb_ 0) zaE))) (vb_ 1)) (zkw (zaw c_are_unlike (m_bw (vb_ 0) (m_bw (vb_ 1) zaX))))))
   zaf)
noncomputable abbrev zfU:Stmt:=top 12
noncomputable abbrev zhb:List Str:=["wishes","order"]
noncomputable abbrev zd8:List Str:=["wishes","order"]
theorem ziU:FnScope zhb zd8 (zab zfU):=fs_
noncomputable def zcu:FS:=
 (seqF (ifF q0 (zaB (f2 (gv 1) (fun _=>Res.ok D.non) isD)) (seqF (retF q0 (fC (zac (fC (zac (gv 0) lNil) lenD) lNil) zjg)) zaj) zaj) (seqF (ifF q0 (fNot (fTru (zaH (zac (gv 1) (zac (fC (zac (gv 0) lNil) lenD) lNil)) [] zbV))) (seqF (fun _=>Out.stuck) zaj) zaj) (seqF (retF q0 (fC (zac (gv 1) lNil) zhI)) zaj)))
noncomputable def zb0:List D->Res D:=fun ds=>outR false (zcu (zas zhb.length ds))
theorem zpR {P:Program} {w:World} {K:PySem.W.Frag} {mg:Str->Option Value} {base:Heap} (T:Txt K mg) (A:DefAtD K mg "order_of" zfU [Value.none]) (c_has_each_once:Callee P w K mg base "has_each_once" zcD [] 5 false q0 zbV):Callee P w K mg base "order_of" zd8 [] 6 false q0 zb0:=by
 refine zja (ds:=[]) (k:=5) (fs:=zcu) (m':=q0) A ziU rfl 2 rfl (fun _ _ _ _ _ _ _ us hl=>by obtain ⟨u0,u1,rfl⟩:=zrH us hl; exact ⟨_,rfl,rfl⟩) fun f cdv A outer s H g E hr=>?_
 have hu1:=zmx hr
 have hu64:=hr.units
 exact (zaa (s_if (q_is (vb_ 1) (bE zf2)) (zaa (zaN (SO.toE (zhD rfl (by rfl) T.b_list (by rfl) T.b_range (zan (bE (zcn (by rfl) T.b_len (zan (vb_ 0) zaE))) zaE))))
   zaf)
   zaf)
   (zaa (s_if (zfH (zeb (bE (zaw c_has_each_once (m_bw (vb_ 1) (m_bw (bE (zcn (by rfl) T.b_len (zan (vb_ 0) zaE))) zaX)))))) (zaa ziX
   zaf)
   zaf)
   (zaa (zaN (SO.toE (zl7 (by rfl) T.b_list (zan (vb_ 1) zaE))))
   zaf)))
noncomputable abbrev zcP:Stmt:=top 15
noncomputable abbrev zdp:List Str:=["row","things"]
noncomputable abbrev zes:List Str:=["row","things"]
theorem zfs:FnScope zdp zes (zab zcP):=fs_
noncomputable def zey:FS:=
 (seqF (retF q0 (f2 (zbC 1 [1] (fSeq zaU (gv 0)) (ftN 0) (zaB (f2 (gv 0) (gv 1) inD)) (gv 0)) (ci 0) ixA)) zaj)
noncomputable def zcI:List D->Res D:=fun ds=>outR false (zey (zas zdp.length ds))
theorem zoJ {P:Program} {w:World} {K:PySem.W.Frag} {mg:Str->Option Value} {base:Heap} (T:Txt K mg) (A:DefAt K mg "best_left" zcP):Callee P w K mg base "best_left" zes [] 1 false q0 zcI:=
 zbJ (m':=q0) A zfs fun f cdv A outer s H g E hr hu1=>(zaa (zaN (zdD hu1 (SO.toB (zc8 (X:=(cxOf CX0 P w K mg base zdp "best_left" (zab zcP) f cdv A outer s H E).nox) (N':=["thing","things"]) (nl:=1) (cap:=[1]) zfs.nd rfl (zay (osc:=(zab zcP)) (ON:=zdp) rfl rfl (by decide +kernel)) (zbm (vb_ 0)) (fun _ _ _ _ _ _=>(zao 0 (show List.Nodup (["thing","things"]:List Str) by decide +kernel))) (zaY (by decide)) (fun _ _ _ _ _ _=>(zgW (q_in hu1 (vb_ 0) (vb_ 1)))) (fun _ _ _ _ _ _=>(v_ 0)))) iB))
   zaf)
noncomputable abbrev zeF:Stmt:=top 16
noncomputable abbrev zfA:List Str:=["owns","line","thing","hand"]
noncomputable abbrev zdR:List Str:=["owns","line","thing"]
theorem zeK:FnScope zfA zdR (zab zeF):=fs_
noncomputable abbrev zbF:FS:=
 (seqF (ifF q110 (zaB (f2 (f2 (gv 0) (gv 3) ixA) (gv 2) eqD)) (seqF (retF q110 (gv 3)) zaj) zaj) zaj)
noncomputable def zd1:FS:=
 (seqF (zbK q110 (fSeq zaU (gv 1)) (ftN 3) zbF) (seqF (retF q110 (fun _=>Res.ok D.non)) zaj))
noncomputable def zcZ:List D->Res D:=fun ds=>outR false (zd1 (zas zfA.length ds))
theorem znL {P:Program} {w:World} {K:PySem.W.Frag} {mg:Str->Option Value} {base:Heap} (T:Txt K mg) (A:DefAt K mg "owner_left" zeF):Callee P w K mg base "owner_left" zdR [] 1 false q107 zcZ:=
 zbJ (m':=q110) A zeK fun f cdv A outer s H g E hr hu1=>have hu64:=hr.units; (zaa (zjR PassesOwn.never rfl (zbm (vb_ 1)) (fun _=>(zao 3 zeK.nd)) (fun _=>(zaa (s_if (q_eq hu64 (xB hu1 (vb_ 0) (vb_ 3)) (vb_ 2)) (zaa (zaN (v_ 3))
   zaf)
   zaf)
   zaf)))
   (zaa (zaN zf2)
   zaf))
noncomputable abbrev zcO:Stmt:=top 20
noncomputable abbrev zdc:List Str:=["owns","line","thing","owner"]
noncomputable abbrev zbZ:List Str:=["owns","line","thing"]
theorem zcR:FnScope zdc zbZ (zab zcO):=fs_
noncomputable def zb3:FS:=
 (seqF (setF q110 3 (zaH (zac (gv 0) (zac (gv 1) (zac (gv 2) lNil))) [] zcZ)) (seqF (retF q110 (fIf (zaB (f2 (gv 3) (fun _=>Res.ok D.non) isD)) (f2 (gv 1) (ci 0) ixA) (gv 3))) zaj))
noncomputable def zbe:List D->Res D:=fun ds=>outR false (zb3 (zas zdc.length ds))
theorem zj1 {P:Program} {w:World} {K:PySem.W.Frag} {mg:Str->Option Value} {base:Heap} (T:Txt K mg) (A:DefAt K mg "hand_pointed_at" zcO) (c_owner_left:Callee P w K mg base "owner_left" zdR [] 1 false q107 zcZ):Callee P w K mg base "hand_pointed_at" zbZ [] 2 false q107 zbe:=
 zbJ (m':=q110) A zcR fun f cdv A outer s H g E hr hu1=>(zaa (zbu 3 zcR.nd (zaw c_owner_left (m_bw (vb_ 0) (m_bw (vb_ 1) (m_bw (vb_ 2) zaX)))))
   (zaa (zaN (zqU (q_is (vb_ 3) (bE zf2)) (zdD hu1 (vb_ 1) iB) (v_ 3)))
   zaf))
noncomputable abbrev zfo:Stmt:=top 21
noncomputable abbrev zgw:List Str:=["first","targets","behind","ring","hand"]
noncomputable abbrev zeq:List Str:=["first","targets","behind"]
theorem zcQ:FnScope zgw zeq (zab zfo):=fs_
noncomputable abbrev zdk:FQ:=
 (fAnd (zaB (f2 (gv 4) (gv 0) gtI)) (zaB (f2 (fC (zac (gv 3) lNil) lenD) (fC (zac (gv 1) lNil) lenD) ltI)))
noncomputable abbrev ze5:FS:=
 (seqF (mutF "list" q113 3 (zac (mkT (zac (gv 4) (zac (f2 (gv 1) (gv 4) ixA) lNil))) lNil) appD) (seqF (setF q113 4 (f2 (gv 2) (gv 4) ixA)) zaj))
noncomputable def zew:FS:=
 (seqF (setF [.sh,.bw,.bw,.sh,.sh] 3 (mkL (zac (mkT (zac (gv 0) (zac (f2 (gv 1) (gv 0) ixA) lNil))) lNil))) (seqF (setF q113 4 (f2 (gv 2) (gv 0) ixA)) (seqF (zbM q113 zdk ze5 64) (seqF (retF q113 (fIf (zaB (f2 (gv 4) (gv 0) eqD)) (fC (zac (gv 3) lNil) tupD) (fun _=>Res.ok D.non))) zaj))))
noncomputable def zdq:List D->Res D:=fun ds=>outR false (zew (zas zgw.length ds))
theorem zoH {P:Program} {w:World} {K:PySem.W.Frag} {mg:Str->Option Value} {base:Heap} (T:Txt K mg) (A:DefAt K mg "ring_from" zfo):Callee P w K mg base "ring_from" zeq [] 1 false [.sh,.bw,.bw] zdq:=
 zbJ (m':=q113) A zcQ fun f cdv A outer s H g E hr hu1=>have hu64:=hr.units; (zaa (zcl 3 zcQ.nd (by rfl) (by first | exact Or.inl rfl | exact Or.inr rfl) (zim (zbD (znk (zbD (v_ 0) (zbD (zdD hu1 (vb_ 1) (vb_ 0)) zcM))) zcM)))
   (zaa (zbu 4 zcQ.nd (zdD hu1 (vb_ 2) (vb_ 0)))
   (zaa (zf0 64 PassesOwn.never (SW.toQ (zpv (q_gt (vb_ 4) (vb_ 0)) (zlK (q_lt (bE (zcn (by rfl) T.b_len (zan (vb_ 3) zaE))) (bE (zcn (by rfl) T.b_len (zan (vb_ 1) zaE))))))) (zaa (zgI 3 rfl PySem.F.plainAttrs_list PySem.F.slot_list_append PySem.F.type_list_append zce zgs (by rfl) (by first | exact Or.inl rfl | exact Or.inr (Or.inl rfl) | exact Or.inr (Or.inr rfl)) (zbD (znk (zbD (v_ 4) (zbD (zdD hu1 (vb_ 1) (vb_ 4)) zcM))) zcM))
   (zaa (zbu 4 zcQ.nd (zdD hu1 (vb_ 2) (vb_ 4)))
   zaf)))
   (zaa (zaN (zqU (q_eq hu64 (vb_ 4) (vb_ 0)) (zf1 (by rfl) T.b_tuple (zan (vb_ 3) zaE)) zf2))
   zaf))))
noncomputable abbrev zaZ:Stmt:=top 22
noncomputable abbrev za6:List Str:=["wishes","owns","line","things","targets","behind","hand","walks"]
noncomputable abbrev zbG:List Str:=["wishes","owns","line","things"]
theorem za0:FnScope za6 zbG (zab zaZ):=fs_
noncomputable abbrev zcV:FS:=
 (seqF (putF q120 4 (gv 6) (zaH (zac (f2 (gv 0) (gv 6) ixA) (zac (gv 3) lNil)) [] zcI)) (seqF (putF q120 5 (gv 6) (zaH (zac (gv 1) (zac (gv 2) (zac (f2 (gv 4) (gv 6) ixA) lNil))) [] zbe)) zaj))
noncomputable def zcj:FS:=
 (seqF (setF [.bw,.bw,.bw,.bw,.sh,.sh,.sh,.sh] 4 (fun _=>Res.ok (D.dic []))) (seqF (setF [.bw,.bw,.bw,.bw,.ow,.sh,.sh,.sh] 5 (fun _=>Res.ok (D.dic []))) (seqF (zbK q120 (fSeq zaU (gv 2)) (ftN 6) zcV) (seqF (setF q120 7 (zbC 1 [4,5] (fSeq zaU (gv 2)) (ftN 0) (fun _=>Res.ok true) (zaH (zac (gv 0) (zac (gv 1) (zac (gv 2) lNil))) [] zdq))) (seqF (retF q135 (fC (zac (zbC 1 [] (fSeq zaU (gv 7)) (ftN 0) (zaB (f2 (gv 0) (fun _=>Res.ok D.non) isnD)) (gv 0)) lNil) zh4)) zaj)))))
noncomputable def zbi:List D->Res D:=fun ds=>outR false (zcj (zas za6.length ds))
theorem zkL {P:Program} {w:World} {K:PySem.W.Frag} {mg:Str->Option Value} {base:Heap} (T:Txt K mg) (A:DefAt K mg "rings_of_round" zaZ) (c_best_left:Callee P w K mg base "best_left" zes [] 1 false q0 zcI) (c_hand_pointed_at:Callee P w K mg base "hand_pointed_at" zbZ [] 2 false q107 zbe) (c_ring_from:Callee P w K mg base "ring_from" zeq [] 1 false [.sh,.bw,.bw] zdq):Callee P w K mg base "rings_of_round" zbG [] 3 false q102 zbi:=
 zbJ (m':=q135) A za0 fun f cdv A outer s H g E hr hu1=>(zaa (zcl 4 za0.nd (by rfl) (by first | exact Or.inl rfl | exact Or.inr rfl) zgY)
   (zaa (zcl 5 za0.nd (by rfl) (by first | exact Or.inl rfl | exact Or.inr rfl) zgY)
   (zaa (zf3 PassesOwn.never rfl (zg3 (vw_ 2)) (zao 6 za0.nd) (zaa (zlo 4 hu1 rfl (by rfl) (by first | exact Or.inl rfl | exact Or.inr (Or.inl rfl) | exact Or.inr (Or.inr rfl)) (vb_ 6) (zaw c_best_left (m_bw (xB hu1 (vb_ 0) (vb_ 6)) (m_bw (vb_ 3) zaX))))
   (zaa (zlo 5 hu1 rfl (by rfl) (by first | exact Or.inl rfl | exact Or.inr (Or.inl rfl) | exact Or.inr (Or.inr rfl)) (vb_ 6) (zaw c_hand_pointed_at (m_bw (vb_ 1) (m_bw (vb_ 2) (m_bw (xB hu1 (vb_ 4) (vb_ 6)) zaX)))))
   zaf)))
   (zaa (zbP 7 (X:=(cxOf CX0 P w K mg base za6 "rings_of_round" (zab zaZ) f cdv A outer s H E).nox) (m:=q120) (N':=["hand","targets","behind"]) (nl:=1) (cap:=[4,5]) za0.nd rfl (by rfl) (by rfl) (zay (osc:=(zab zaZ)) (ON:=za6) rfl rfl (by decide +kernel)) (zbm (vb_ 2)) (fun _ _ _ _ _ _=>(zao 0 (show List.Nodup (["hand","targets","behind"]:List Str) by decide +kernel))) (zaY (by decide)) (fun _ _ _ _ _ _=>zcm) (fun _ _ _ _ _ _=>(zaw c_ring_from (m_sh (v_ 0) (m_bw (vb_ 1) (m_bw (vb_ 2) zaX))))))
   (zaa (zaN (SO.toE (zj2 hr (by rfl) T.b_sorted (zan (SO.toB (zc8 (X:=(cxOf CX0 P w K mg base za6 "rings_of_round" (zab zaZ) f cdv A outer s H E).nox) (N':=["ring"]) (nl:=1) (cap:=[]) za0.nd rfl (zay (osc:=(zab zaZ)) (ON:=za6) rfl rfl (by decide +kernel)) (zbm (vb_ 7)) (fun _ _ _ _ _ _=>(zao 0 (show List.Nodup (["ring"]:List Str) by decide +kernel))) (zaY (by decide)) (fun _ _ _ _ _ _=>(zgW (zq6 (vb_ 0) (bE zf2)))) (fun _ _ _ _ _ _=>(v_ 0)))) zaE))))
   zaf)))))
noncomputable abbrev zh1:Stmt:=top 18
noncomputable abbrev zkm:List Str:=["rings","got","ring","hand","thing"]
noncomputable abbrev zfS:List Str:=["rings"]
theorem zdH:FnScope zkm zfS (zab zh1):=fs_
noncomputable abbrev zhi:FS:=
 (seqF (putF q127 1 (gv 3) (gv 4)) zaj)
noncomputable abbrev zhh:FS:=
 (seqF (zbK q127 (fSeq zaU (gv 2)) (ftT (zau (ftN 3) (zau (ftN 4) zcf))) zhi) zaj)
noncomputable def zhW:FS:=
 (seqF (setF q128 1 (fun _=>Res.ok (D.dic []))) (seqF (zbK q127 (fSeq zaU (gv 0)) (ftN 2) zhh) (seqF (retF q128 (gv 1)) zaj)))
noncomputable def ze7:List D->Res D:=fun ds=>outR false (zhW (zas zkm.length ds))
theorem zrw {P:Program} {w:World} {K:PySem.W.Frag} {mg:Str->Option Value} {base:Heap} (T:Txt K mg) (A:DefAt K mg "got_in" zh1):Callee P w K mg base "got_in" zfS [] 1 false [Md.bw] ze7:=
 zbJ (m':=q128) A zdH fun f cdv A outer s H g E hr hu1=>(zaa (zcl 1 zdH.nd (by rfl) (by first | exact Or.inl rfl | exact Or.inr rfl) zgY)
   (zaa (zf3 PassesOwn.never rfl (zg3 (vw_ 0)) (zao 2 zdH.nd) (zaa (zf4 PassesOwn.never rfl (zkY (v_ 2)) (zeU rfl (zba (zao 3 zdH.nd) (zba (zao 4 zdH.nd) zeV))) (zaa (zlo 1 hu1 rfl (by rfl) (by first | exact Or.inl rfl | exact Or.inr (Or.inl rfl) | exact Or.inr (Or.inr rfl)) (vb_ 3) (v_ 4))
   zaf))
   zaf))
   (zaa (znn 1 rfl (zaN (v_ 1)))
   zaf)))
noncomputable abbrev zbn:Stmt:=top 23
noncomputable abbrev zb9:List Str:=["wishes","owns","order","line","things","told","rings","got","taken"]
noncomputable abbrev zfR:List Str:=["wishes","owns","order"]
theorem zaK:FnScope zb9 zfR (zab zbn):=fs_
noncomputable abbrev zha:FQ:=
 (fTru (gv 3))
noncomputable abbrev zhg:FS:=
 (seqF (setF q111 6 (zaH (zac (gv 0) (zac (gv 1) (zac (gv 3) (zac (gv 4) lNil)))) [] zbi)) (seqF (setF q111 7 (zaH (zac (gv 6) lNil) [] ze7)) (seqF (setF q111 8 (f1 (gv 7) zo2)) (seqF (setF q111 3 (zbC 1 [7] (fSeq zaU (gv 3)) (ftN 0) (zaB (f2 (gv 0) (gv 1) ninD)) (gv 0))) (seqF (setF q129 4 (zbC 1 [8] (fSeq zaU (gv 4)) (ftN 0) (zaB (f2 (gv 0) (gv 1) ninD)) (gv 0))) (seqF (mutF "list" q130 5 (zac (gv 6) lNil) appD) zaj))))))
noncomputable def ze8:FS:=
 (seqF (setF q116 3 (zaH (zac (gv 0) (zac (gv 2) lNil)) [] zb0)) (seqF (setF q116 4 (fC (zac (zaH (zac (gv 0) lNil) [] zbs) lNil) zjg)) (seqF (setF q116 5 (mkL lNil)) (seqF (zbM q111 zha zhg 64) (seqF (retF q116 (gv 5)) zaj)))))
noncomputable def zcY:List D->Res D:=fun ds=>outR false (ze8 (zas zb9.length ds))
theorem zrv {P:Program} {w:World} {K:PySem.W.Frag} {mg:Str->Option Value} {base:Heap} (T:Txt K mg) (A:DefAtD K mg "rounds" zbn [Value.none]) (c_order_of:Callee P w K mg base "order_of" zd8 [] 6 false q0 zb0) (c_things_in:Callee P w K mg base "things_in" zcC [] 1 false [Md.bw] zbs) (c_rings_of_round:Callee P w K mg base "rings_of_round" zbG [] 3 false q102 zbi) (c_got_in:Callee P w K mg base "got_in" zfS [] 1 false [Md.bw] ze7):Callee P w K mg base "rounds" zfR [] 7 false q109 zcY:=by
 refine zja (ds:=[]) (k:=6) (fs:=ze8) (m':=q116) A zaK rfl 3 rfl (fun _ _ _ _ _ _ _ us hl=>by obtain ⟨u0,u1,u2,rfl⟩:=ztd us hl; exact ⟨_,rfl,rfl⟩) fun f cdv A outer s H g E hr=>?_
 have hu1:=zmx hr
 have hu64:=hr.units
 exact (zaa (zbu 3 zaK.nd (zaw c_order_of (m_bw (vb_ 0) (m_bw (vb_ 2) zaX))))
   (zaa (zbu 4 zaK.nd (SO.toE (zhD rfl (by rfl) T.b_list (by rfl) T.b_range (zan (bE (zaw c_things_in (m_bw (vb_ 0) zaX))) zaE))))
   (zaa (zcl 5 zaK.nd (by rfl) (by first | exact Or.inl rfl | exact Or.inr rfl) (zim zcM))
   (zaa (zf0 64 PassesOwn.never (zeb (vb_ 3)) (zbO (m':=q136) 4 (zbO (m':=q130) 3 (zaa (zbu 6 zaK.nd (zaw c_rings_of_round (m_bw (vb_ 0) (m_bw (vb_ 1) (m_bw (vb_ 3) (m_bw (vb_ 4) zaX))))))
   (zaa (zbu 7 zaK.nd (zaw c_got_in (m_bw (vb_ 6) zaX)))
   (zaa (zbu 8 zaK.nd (SO.toE (zoN rfl (by rfl) T.b_list (vb_ 7))))
   (zaa (zbP 3 (X:=(cxOf CX0 P w K mg base zb9 "rounds" (zab zbn) f cdv A outer s H E).nox) (m:=q111) (N':=["hand","got"]) (nl:=1) (cap:=[7]) zaK.nd rfl (by rfl) (by rfl) (zay (osc:=(zab zbn)) (ON:=zb9) rfl rfl (by decide +kernel)) (zbm (vb_ 3)) (fun _ _ _ _ _ _=>(zao 0 (show List.Nodup (["hand","got"]:List Str) by decide +kernel))) (zaY (by decide)) (fun _ _ _ _ _ _=>(zgW (zlJ hu1 (vb_ 0) (vb_ 1)))) (fun _ _ _ _ _ _=>(v_ 0)))
   (zaa (zbP 4 (X:=(cxOf CX0 P w K mg base zb9 "rounds" (zab zbn) f cdv A outer s H E).nox) (m:=q129) (N':=["thing","taken"]) (nl:=1) (cap:=[8]) zaK.nd rfl (by rfl) (by rfl) (zay (osc:=(zab zbn)) (ON:=zb9) rfl rfl (by decide +kernel)) (zbm (vb_ 4)) (fun _ _ _ _ _ _=>(zao 0 (show List.Nodup (["thing","taken"]:List Str) by decide +kernel))) (zaY (by decide)) (fun _ _ _ _ _ _=>(zgW (zlJ hu1 (vb_ 0) (vb_ 1)))) (fun _ _ _ _ _ _=>(v_ 0)))
   (zaa (zgI 5 rfl PySem.F.plainAttrs_list PySem.F.slot_list_append PySem.F.type_list_append zce zgs (by rfl) (by first | exact Or.inl rfl | exact Or.inr (Or.inl rfl) | exact Or.inr (Or.inr rfl)) (zbD (v_ 6) zcM))
   zaf)))))) rfl) rfl))
   (zaa (znn 5 rfl (zaN (v_ 5)))
   zaf)))))
theorem zqt {P:Program} {w:World} {K:PySem.W.Frag} {mg:Str->Option Value} {base:Heap} (T:Txt K mg) (A:DefAtD K mg "rounds" zbn [Value.none]) (c_order_of:Callee P w K mg base "order_of" zd8 [] 6 false q0 zb0) (c_things_in:Callee P w K mg base "things_in" zcC [] 1 false [Md.bw] zbs) (c_rings_of_round:Callee P w K mg base "rings_of_round" zbG [] 3 false q102 zbi) (c_got_in:Callee P w K mg base "got_in" zfS [] 1 false [Md.bw] ze7):Callee P w K mg base "rounds" zfR [Value.none] 7 false q109 zcY:=by
 refine zja (ds:=[Value.none]) (k:=6) (fs:=ze8) (m':=q116) A zaK rfl 2 rfl (fun _ _ _ _ _ _ _ us hl=>by obtain ⟨u0,u1,rfl⟩:=zrH us hl; exact ⟨_,rfl,rfl⟩) fun f cdv A outer s H g E hr=>?_
 have hu1:=zmx hr
 have hu64:=hr.units
 exact (zaa (zbu 3 zaK.nd (zaw c_order_of (m_bw (vb_ 0) (m_bw (vb_ 2) zaX))))
   (zaa (zbu 4 zaK.nd (SO.toE (zhD rfl (by rfl) T.b_list (by rfl) T.b_range (zan (bE (zaw c_things_in (m_bw (vb_ 0) zaX))) zaE))))
   (zaa (zcl 5 zaK.nd (by rfl) (by first | exact Or.inl rfl | exact Or.inr rfl) (zim zcM))
   (zaa (zf0 64 PassesOwn.never (zeb (vb_ 3)) (zbO (m':=q136) 4 (zbO (m':=q130) 3 (zaa (zbu 6 zaK.nd (zaw c_rings_of_round (m_bw (vb_ 0) (m_bw (vb_ 1) (m_bw (vb_ 3) (m_bw (vb_ 4) zaX))))))
   (zaa (zbu 7 zaK.nd (zaw c_got_in (m_bw (vb_ 6) zaX)))
   (zaa (zbu 8 zaK.nd (SO.toE (zoN rfl (by rfl) T.b_list (vb_ 7))))
   (zaa (zbP 3 (X:=(cxOf CX0 P w K mg base zb9 "rounds" (zab zbn) f cdv A outer s H E).nox) (m:=q111) (N':=["hand","got"]) (nl:=1) (cap:=[7]) zaK.nd rfl (by rfl) (by rfl) (zay (osc:=(zab zbn)) (ON:=zb9) rfl rfl (by decide +kernel)) (zbm (vb_ 3)) (fun _ _ _ _ _ _=>(zao 0 (show List.Nodup (["hand","got"]:List Str) by decide +kernel))) (zaY (by decide)) (fun _ _ _ _ _ _=>(zgW (zlJ hu1 (vb_ 0) (vb_ 1)))) (fun _ _ _ _ _ _=>(v_ 0)))
   (zaa (zbP 4 (X:=(cxOf CX0 P w K mg base zb9 "rounds" (zab zbn) f cdv A outer s H E).nox) (m:=q129) (N':=["thing","taken"]) (nl:=1) (cap:=[8]) zaK.nd rfl (by rfl) (by rfl) (zay (osc:=(zab zbn)) (ON:=zb9) rfl rfl (by decide +kernel)) (zbm (vb_ 4)) (fun _ _ _ _ _ _=>(zao 0 (show List.Nodup (["thing","taken"]:List Str) by decide +kernel))) (zaY (by decide)) (fun _ _ _ _ _ _=>(zgW (zlJ hu1 (vb_ 0) (vb_ 1)))) (fun _ _ _ _ _ _=>(v_ 0)))
   (zaa (zgI 5 rfl PySem.F.plainAttrs_list PySem.F.slot_list_append PySem.F.type_list_append zce zgs (by rfl) (by first | exact Or.inl rfl | exact Or.inr (Or.inl rfl) | exact Or.inr (Or.inr rfl)) (zbD (v_ 6) zcM))
   zaf)))))) rfl) rfl))
   (zaa (znn 5 rfl (zaN (v_ 5)))
   zaf)))))
noncomputable abbrev zfL:Stmt:=top 28
noncomputable abbrev zhV:List Str:=["wishes","owns","dealing","rings","ring"]
noncomputable abbrev zjC:List Str:=["wishes","owns","dealing"]
theorem zfM:FnScope zhV zjC (zab zfL):=fs_
noncomputable abbrev zdW:FS:=
 (seqF (ifF q112 (fTru (fC (zac (zbC 2 [2] (fSeq zaU (gv 4)) (ftT (zau (ftN 0) (zau (ftN 1) zcf))) (fun _=>Res.ok true) (f2 (f2 (gv 2) (gv 0) ixA) (gv 1) neD)) lNil) anyD)) (seqF (retF q112 (gv 4)) zaj) zaj) zaj)
noncomputable abbrev zdV:FS:=
 (seqF (zbK q112 (fSeq zaU (gv 3)) (ftN 4) zdW) zaj)
noncomputable def zgC:FS:=
 (seqF (zod q112 (zaH (zac (gv 0) (zac (gv 1) lNil)) [] zap)) (seqF (zbK q112 (fSeq zaU (zaH (zac (gv 0) (zac (gv 1) lNil)) [D.non] zcY)) (ftN 3) zdV) (seqF (retF q112 (fun _=>Res.ok D.non)) zaj)))
noncomputable def zgB:List D->Res D:=fun ds=>outR false (zgC (zas zhV.length ds))
theorem zsB {P:Program} {w:World} {K:PySem.W.Frag} {mg:Str->Option Value} {base:Heap} (T:Txt K mg) (A:DefAt K mg "goers" zfL) (c_refuse_unless_all_owned:Callee P w K mg base "refuse_unless_all_owned" zaO [] 3 false q104 zap) (c_rounds':Callee P w K mg base "rounds" zfR [Value.none] 7 false q109 zcY):Callee P w K mg base "goers" zjC [] 8 false [.bw,.sh,.bw] zgB:=
 zbJ (m':=q112) A zfM fun f cdv A outer s H g E hr hu1=>have hu64:=hr.units; (zaa (zov (zaw c_refuse_unless_all_owned (m_bw (vb_ 0) (m_sh (v_ 1) zaX))))
   (zaa (zf4 PassesOwn.never rfl (zkY (zoY (dvs:=[.non]) (dds:=[D.non]) c_rounds' (hr.mono (by decide)) (m_bw (vb_ 0) (m_bw (vb_ 1) zaX)) (hd:=.cons rfl .nil) (hsc:=.cons .non .nil))) (zao 3 zfM.nd) (zaa (zf4 PassesOwn.never rfl (zkY (v_ 3)) (zao 4 zfM.nd) (zaa (s_if (zeb (bE (zlq rfl (by rfl) T.b_any (zan (SO.toB (zc8 (X:=(cxOf CX0 P w K mg base zhV "goers" (zab zfL) f cdv A outer s H E).nox) (N':=["hand","thing","dealing"]) (nl:=2) (cap:=[2]) zfM.nd rfl (zay (osc:=(zab zfL)) (ON:=zhV) rfl rfl (by decide +kernel)) (zbm (vb_ 4)) (fun _ _ _ _ _ _=>(zeU rfl (zba (zao 0 (show List.Nodup (["hand","thing","dealing"]:List Str) by decide +kernel)) (zba (zao 1 (show List.Nodup (["hand","thing","dealing"]:List Str) by decide +kernel)) zeV)))) (zek (zaD (zaY (by decide)) (zaD (zaY (by decide)) zb7))) (fun _ _ _ _ _ _=>zcm) (fun _ _ _ _ _ _=>(s_ne hu64 (xB hu1 (vb_ 2) (vb_ 0)) (vb_ 1))))) zaE)))) (zaa (zaN (v_ 4))
   zaf)
   zaf)
   zaf))
   zaf))
   (zaa (zaN zf2)
   zaf)))
noncomputable abbrev zeI:Stmt:=top 35
noncomputable abbrev zfD:List Str:=["_law_wishes_here","_law_hand","_law_one","_law_other"]
noncomputable abbrev zdT:List Str:=["_law_wishes_here","_law_hand","_law_one","_law_other"]
theorem zht:FnScope zfD zdT (zab zeI):=fs_
noncomputable def zd4:FS:=
 (seqF (retF q102 (f2 (fM "tuple" (f2 (gv 0) (gv 1) ixA) (zac (gv 2) lNil) zdN) (fM "tuple" (f2 (gv 0) (gv 1) ixA) (zac (gv 3) lNil) zdN) ltI)) zaj)
noncomputable def zcg:List D->Res D:=fun ds=>outR false (zd4 (zas zfD.length ds))
theorem znO {P:Program} {w:World} {K:PySem.W.Frag} {mg:Str->Option Value} {base:Heap} (T:Txt K mg) (A:DefAt K mg "_law_likes" zeI):Callee P w K mg base "_law_likes" zdT [] 1 false q102 zcg:=
 zbJ (m':=q102) A zht fun f cdv A outer s H g E hr hu1=>(zaa (zaN (s_lt (bE (s_bm PySem.F.plainAttrs_tuple PySem.F.slot_tuple_index PySem.F.type_tuple_index zdJ zdM (xB hu1 (vb_ 0) (vb_ 1)) (zan (vb_ 2) zaE))) (bE (s_bm PySem.F.plainAttrs_tuple PySem.F.slot_tuple_index PySem.F.type_tuple_index zdJ zdM (xB hu1 (vb_ 0) (vb_ 1)) (zan (vb_ 3) zaE)))))
   zaf)
noncomputable abbrev zbf:Stmt:=top 36
noncomputable abbrev zbq:List Str:=["_law_wishes_here","_law_owns","_law_dealing","_law_ring","_law_hands","_law_k"]
noncomputable abbrev zet:List Str:=["_law_wishes_here","_law_owns","_law_dealing","_law_ring"]
theorem zcd:FnScope zbq zet (zab zbf):=fs_
noncomputable abbrev ze6:FS:=
 (seqF (ifF q106 (zaB (f2 (f2 (f2 (gv 3) (gv 5) ixA) (ci 1) ixA) (f2 (gv 1) (f2 (gv 4) (f2 (f2 (gv 5) (ci 1) addA) (fC (zac (gv 4) lNil) lenD) modI) ixA) ixA) neD)) (seqF (retF q106 (fun _=>Res.ok (D.bl false))) zaj) zaj) zaj)
noncomputable def zez:FS:=
 (seqF (setF [.bw,.bw,.bw,.bw,.sh,.sh] 4 (zbC 2 [] (fSeq zaU (gv 3)) (ftT (zau (ftN 0) (zau (ftN 1) zcf))) (fun _=>Res.ok true) (gv 0))) (seqF (ifF q106 (fOr (zaB (f2 (fC (zac (gv 3) lNil) lenD) (ci 0) eqD)) (fOr (zaB (f2 (fC (zac (gv 4) lNil) zfJ) (f2 (gv 4) (ci 0) ixA) neD)) (fOr (zaB (f2 (f2 (gv 4) (ci 0) ixA) (ci 0) ltI)) (zaB (f2 (fC (zac (gv 4) lNil) zkO) (fC (zac (gv 1) lNil) lenD) geI))))) (seqF (retF q106 (fun _=>Res.ok (D.bl false))) zaj) zaj) (seqF (ifF q106 (zaB (f2 (f1 (gv 4) zpf) (fC (zac (gv 4) lNil) lenD) ltI)) (seqF (retF q106 (fun _=>Res.ok (D.bl false))) zaj) zaj) (seqF (zbK q106 (fRng rng1 (zac (fC (zac (gv 3) lNil) lenD) lNil)) (ftN 5) ze6) (seqF (ifF q106 (fTru (fC (zac (zbC 2 [0,2] (fSeq zaU (gv 3)) (ftT (zau (ftN 0) (zau (ftN 1) zcf))) (fun _=>Res.ok true) (zaH (zac (gv 2) (zac (gv 0) (zac (f2 (gv 3) (gv 0) ixA) (zac (gv 1) lNil)))) [] zcg)) lNil) anyD)) (seqF (retF q106 (fun _=>Res.ok (D.bl false))) zaj) zaj) (seqF (retF q106 (fC (zac (zbC 2 [2] (fSeq zaU (gv 3)) (ftT (zau (ftN 0) (zau (ftN 1) zcf))) (fun _=>Res.ok true) (f2 (f2 (gv 2) (gv 0) ixA) (gv 1) neD)) lNil) anyD)) zaj))))))
noncomputable def zds:List D->Res D:=fun ds=>outR false (zez (zas zbq.length ds))
theorem zoK {P:Program} {w:World} {K:PySem.W.Frag} {mg:Str->Option Value} {base:Heap} (T:Txt K mg) (A:DefAt K mg "_law_goes" zbf) (c__law_likes:Callee P w K mg base "_law_likes" zdT [] 1 false q102 zcg):Callee P w K mg base "_law_goes" zet [] 2 false q102 zds:=
 zbJ (m':=q106) A zcd fun f cdv A outer s H g E hr hu1=>have hu64:=hr.units; (zaa (zbP 4 (X:=(cxOf CX0 P w K mg base zbq "_law_goes" (zab zbf) f cdv A outer s H E).nox) (m:=[.bw,.bw,.bw,.bw,.sh,.sh]) (N':=["_law_hand","_law_thing"]) (nl:=2) (cap:=[]) zcd.nd rfl (by rfl) (by rfl) (zay (osc:=(zab zbf)) (ON:=zbq) rfl rfl (by decide +kernel)) (zbm (vb_ 3)) (fun _ _ _ _ _ _=>(zeU rfl (zba (zao 0 (show List.Nodup (["_law_hand","_law_thing"]:List Str) by decide +kernel)) (zba (zao 1 (show List.Nodup (["_law_hand","_law_thing"]:List Str) by decide +kernel)) zeV)))) (zek (zaD (zaY (by decide)) (zaD (zaY (by decide)) zb7))) (fun _ _ _ _ _ _=>zcm) (fun _ _ _ _ _ _=>(v_ 0)))
   (zaa (s_if (SW.toQ (q_or (q_eq hu64 (bE (zcn (by rfl) T.b_len (zan (vb_ 3) zaE))) iB) (q_or (q_ne hu64 (bE (zjQ rfl (by rfl) T.b_min (zan (vb_ 4) zaE))) (xB hu1 (vb_ 4) iB)) (q_or (q_lt (xB hu1 (vb_ 4) iB) iB) (zkI (q_ge (bE (zqS rfl (by rfl) T.b_max (zan (vb_ 4) zaE))) (bE (zcn (by rfl) T.b_len (zan (vb_ 1) zaE))))))))) (zaa (zaN s_bl)
   zaf)
   zaf)
   (zaa (s_if (q_lt (bE (znm rfl (by rfl) T.b_len (by rfl) T.b_set (vb_ 4))) (bE (zcn (by rfl) T.b_len (zan (vb_ 4) zaE)))) (zaa (zaN s_bl)
   zaf)
   zaf)
   (zaa (zf4 PassesOwn.never rfl (zd7 (by rfl) T.b_range (zan (bE (zcn (by rfl) T.b_len (zan (vb_ 3) zaE))) zaE)) (zao 5 zcd.nd) (zaa (s_if (q_ne hu64 (xB hu1 (xB hu1 (vb_ 3) (vb_ 5)) iB) (xB hu1 (vb_ 1) (xB hu1 (vb_ 4) (bE (zeL (bE (zef (vb_ 5) iB)) (bE (zcn (by rfl) T.b_len (zan (vb_ 4) zaE)))))))) (zaa (zaN s_bl)
   zaf)
   zaf)
   zaf))
   (zaa (s_if (zeb (bE (zlq rfl (by rfl) T.b_any (zan (SO.toB (zc8 (X:=(cxOf CX0 P w K mg base zbq "_law_goes" (zab zbf) f cdv A outer s H E).nox) (N':=["_law_hand","_law_thing","_law_wishes_here","_law_dealing"]) (nl:=2) (cap:=[0,2]) zcd.nd rfl (zay (osc:=(zab zbf)) (ON:=zbq) rfl rfl (by decide +kernel)) (zbm (vb_ 3)) (fun _ _ _ _ _ _=>(zeU rfl (zba (zao 0 (show List.Nodup (["_law_hand","_law_thing","_law_wishes_here","_law_dealing"]:List Str) by decide +kernel)) (zba (zao 1 (show List.Nodup (["_law_hand","_law_thing","_law_wishes_here","_law_dealing"]:List Str) by decide +kernel)) zeV)))) (zek (zaD (zaY (by decide)) (zaD (zaY (by decide)) zb7))) (fun _ _ _ _ _ _=>zcm) (fun _ _ _ _ _ _=>(zaw c__law_likes (m_bw (vb_ 2) (m_bw (vb_ 0) (m_bw (xB hu1 (vb_ 3) (vb_ 0)) (m_bw (vb_ 1) zaX)))))))) zaE)))) (zaa (zaN s_bl)
   zaf)
   zaf)
   (zaa (zaN (zlq rfl (by rfl) T.b_any (zan (SO.toB (zc8 (X:=(cxOf CX0 P w K mg base zbq "_law_goes" (zab zbf) f cdv A outer s H E).nox) (N':=["_law_hand","_law_thing","_law_dealing"]) (nl:=2) (cap:=[2]) zcd.nd rfl (zay (osc:=(zab zbf)) (ON:=zbq) rfl rfl (by decide +kernel)) (zbm (vb_ 3)) (fun _ _ _ _ _ _=>(zeU rfl (zba (zao 0 (show List.Nodup (["_law_hand","_law_thing","_law_dealing"]:List Str) by decide +kernel)) (zba (zao 1 (show List.Nodup (["_law_hand","_law_thing","_law_dealing"]:List Str) by decide +kernel)) zeV)))) (zek (zaD (zaY (by decide)) (zaD (zaY (by decide)) zb7))) (fun _ _ _ _ _ _=>zcm) (fun _ _ _ _ _ _=>(s_ne hu64 (xB hu1 (vb_ 2) (vb_ 0)) (vb_ 1))))) zaE)))
   zaf))))))
noncomputable abbrev zec:Stmt:=top 17
noncomputable abbrev ze3:List Str:=["hands"]
noncomputable abbrev zdl:List Str:=["hands"]
theorem zgH:FnScope ze3 zdl (zab zec):=fs_
noncomputable def zdt:FS:=
 (seqF (retF [Md.bw] (f2 (fSl (gv 0) (zjs (ci 1)) (fun _=>Res.ok none)) (fSl (gv 0) (fun _=>Res.ok none) (zjs (ci 1))) addE)) zaj)
noncomputable def zcq:List D->Res D:=fun ds=>outR false (zdt (zas ze3.length ds))
theorem znc {P:Program} {w:World} {K:PySem.W.Frag} {mg:Str->Option Value} {base:Heap} (T:Txt K mg) (A:DefAt K mg "ones_behind" zec):Callee P w K mg base "ones_behind" zdl [] 1 false [Md.bw] zcq:=
 zbJ (m':=[Md.bw]) A zgH fun f cdv A outer s H g E hr hu1=>(zaa (zaN (zow (bE (znl (vb_ 0) (zjY iB) zjZ)) (bE (znl (vb_ 0) zjZ (zjY iB)))))
   zaf)
noncomputable abbrev zaz:Stmt:=top 26
noncomputable abbrev zaF:List Str:=["owns","ring","hands","things"]
noncomputable abbrev zbY:List Str:=["owns","ring"]
theorem zbl:FnScope zaF zbY (zab zaz):=fs_
noncomputable def zb2:FS:=
 (seqF (setF q103 2 (zbC 2 [] (fSeq zaU (gv 1)) (ftT (zau (ftN 0) (zau (ftN 1) zcf))) (fun _=>Res.ok true) (gv 0))) (seqF (setF [.bw,.bw,.ow,.sh] 3 (zbC 2 [] (fSeq zaU (gv 1)) (ftT (zau (ftN 0) (zau (ftN 1) zcf))) (fun _=>Res.ok true) (gv 1))) (seqF (ifF q117 (fOr (fNot (fTru (zaH (zac (gv 2) (zac (fC (zac (gv 0) lNil) lenD) lNil)) [] zbt))) (fNot (fTru (zaH (zac (gv 3) (zac (fC (zac (gv 0) lNil) lenD) lNil)) [] zbt)))) (seqF (retF q117 (fun _=>Res.ok (D.bl false))) zaj) zaj) (seqF (ifF q117 (fOr (fNot (fTru (gv 2))) (zaB (f2 (f2 (gv 2) (ci 0) ixA) (fC (zac (gv 2) lNil) zfJ) neD))) (seqF (retF q117 (fun _=>Res.ok (D.bl false))) zaj) zaj) (seqF (retF q117 (f2 (gv 3) (zbC 1 [0] (fSeq zaU (zaH (zac (gv 2) lNil) [] zcq)) (ftN 0) (fun _=>Res.ok true) (f2 (gv 1) (gv 0) ixA)) eqD)) zaj)))))
noncomputable def zbw:List D->Res D:=fun ds=>outR false (zb2 (zas zaF.length ds))
theorem zj0 {P:Program} {w:World} {K:PySem.W.Frag} {mg:Str->Option Value} {base:Heap} (T:Txt K mg) (A:DefAt K mg "is_ring_of_owns" zaz) (c_are_unlike:Callee P w K mg base "are_unlike" zcU [] 4 false q0 zbt) (c_ones_behind:Callee P w K mg base "ones_behind" zdl [] 1 false [Md.bw] zcq):Callee P w K mg base "is_ring_of_owns" zbY [] 5 false q0 zbw:=
 zbJ (m':=q117) A zbl fun f cdv A outer s H g E hr hu1=>have hu64:=hr.units; (zaa (zbP 2 (X:=(cxOf CX0 P w K mg base zaF "is_ring_of_owns" (zab zaz) f cdv A outer s H E).nox) (m:=q103) (N':=["hand","thing"]) (nl:=2) (cap:=[]) zbl.nd rfl (by rfl) (by rfl) (zay (osc:=(zab zaz)) (ON:=zaF) rfl rfl (by decide +kernel)) (zbm (vb_ 1)) (fun _ _ _ _ _ _=>(zeU rfl (zba (zao 0 (show List.Nodup (["hand","thing"]:List Str) by decide +kernel)) (zba (zao 1 (show List.Nodup (["hand","thing"]:List Str) by decide +kernel)) zeV)))) (zek (zaD (zaY (by decide)) (zaD (zaY (by decide)) zb7))) (fun _ _ _ _ _ _=>zcm) (fun _ _ _ _ _ _=>(v_ 0)))
   (zaa (zbP 3 (X:=(cxOf CX0 P w K mg base zaF "is_ring_of_owns" (zab zaz) f cdv A outer s H E).nox) (m:=[.bw,.bw,.ow,.sh]) (N':=["hand","thing"]) (nl:=2) (cap:=[]) zbl.nd rfl (by rfl) (by rfl) (zay (osc:=(zab zaz)) (ON:=zaF) rfl rfl (by decide +kernel)) (zbm (vb_ 1)) (fun _ _ _ _ _ _=>(zeU rfl (zba (zao 0 (show List.Nodup (["hand","thing"]:List Str) by decide +kernel)) (zba (zao 1 (show List.Nodup (["hand","thing"]:List Str) by decide +kernel)) zeV)))) (zek (zaD (zaY (by decide)) (zaD (zaY (by decide)) zb7))) (fun _ _ _ _ _ _=>zcm) (fun _ _ _ _ _ _=>(v_ 1)))
   (zaa (s_if (SW.toQ (q_or (zfH (zeb (bE (zaw c_are_unlike (m_bw (vb_ 2) (m_bw (bE (zcn (by rfl) T.b_len (zan (vb_ 0) zaE))) zaX)))))) (zkI (zfH (zeb (bE (zaw c_are_unlike (m_bw (vb_ 3) (m_bw (bE (zcn (by rfl) T.b_len (zan (vb_ 0) zaE))) zaX))))))))) (zaa (zaN s_bl)
   zaf)
   zaf)
   (zaa (s_if (SW.toQ (q_or (zfH (zeb (vb_ 2))) (zkI (q_ne hu64 (xB hu1 (vb_ 2) iB) (bE (zjQ rfl (by rfl) T.b_min (zan (vb_ 2) zaE))))))) (zaa (zaN s_bl)
   zaf)
   zaf)
   (zaa (zaN (s_eq hu64 (vb_ 3) (SO.toB (zc8 (X:=(cxOf CX0 P w K mg base zaF "is_ring_of_owns" (zab zaz) f cdv A outer s H E).nox) (N':=["hand","owns"]) (nl:=1) (cap:=[0]) zbl.nd rfl (zay (osc:=(zab zaz)) (ON:=zaF) rfl rfl (by decide +kernel)) (zbm (bE (zaw c_ones_behind (m_bw (vb_ 2) zaX)))) (fun _ _ _ _ _ _=>(zao 0 (show List.Nodup (["hand","owns"]:List Str) by decide +kernel))) (zaY (by decide)) (fun _ _ _ _ _ _=>zcm) (fun _ _ _ _ _ _=>(zdD hu1 (vb_ 1) (vb_ 0)))))))
   zaf)))))
noncomputable abbrev zjM:Stmt:=top 13
noncomputable abbrev zm9:List Str:=["wishes","hand","one","other","row"]
noncomputable abbrev zjB:List Str:=["wishes","hand","one","other"]
theorem zjP:FnScope zm9 zjB (zab zjM):=fs_
noncomputable def zjF:FS:=
 (seqF (setF q131 4 (f2 (gv 0) (gv 1) ixA)) (seqF (retF q131 (f2 (fM "tuple" (gv 4) (zac (gv 2) lNil) zdN) (fM "tuple" (gv 4) (zac (gv 3) lNil) zdN) ltI)) zaj))
noncomputable def zgA:List D->Res D:=fun ds=>outR false (zjF (zas zm9.length ds))
theorem zsA {P:Program} {w:World} {K:PySem.W.Frag} {mg:Str->Option Value} {base:Heap} (T:Txt K mg) (A:DefAt K mg "likes" zjM):Callee P w K mg base "likes" zjB [] 1 false q102 zgA:=
 zbJ (m':=q131) A zjP fun f cdv A outer s H g E hr hu1=>(zaa (zbu 4 zjP.nd (zdD hu1 (vb_ 0) (vb_ 1)))
   (zaa (zaN (s_lt (bE (s_bm PySem.F.plainAttrs_tuple PySem.F.slot_tuple_index PySem.F.type_tuple_index zdJ zdM (vb_ 4) (zan (vb_ 2) zaE))) (bE (s_bm PySem.F.plainAttrs_tuple PySem.F.slot_tuple_index PySem.F.type_tuple_index zdJ zdM (vb_ 4) (zan (vb_ 3) zaE)))))
   zaf))
noncomputable abbrev ze9:Stmt:=top 27
noncomputable abbrev zhe:List Str:=["wishes","owns","dealing","ring","better","worse"]
noncomputable abbrev zm8:List Str:=["wishes","owns","dealing","ring"]
theorem zfZ:FnScope zhe zm8 (zab ze9):=fs_
noncomputable def zna:FS:=
 (seqF (zod q114 (zaH (zac (gv 0) (zac (gv 1) lNil)) [] zap)) (seqF (ifF q114 (fNot (fTru (zaH (zac (gv 1) (zac (gv 3) lNil)) [] zbw))) (seqF (retF q114 (fun _=>Res.ok (D.bl false))) zaj) zaj) (seqF (setF q114 4 (fC (zac (zbC 2 [0,2] (fSeq zaU (gv 3)) (ftT (zau (ftN 0) (zau (ftN 1) zcf))) (fun _=>Res.ok true) (zaH (zac (gv 2) (zac (gv 0) (zac (gv 1) (zac (f2 (gv 3) (gv 0) ixA) lNil)))) [] zgA)) lNil) anyD)) (seqF (setF q114 5 (fC (zac (zbC 2 [0,2] (fSeq zaU (gv 3)) (ftT (zau (ftN 0) (zau (ftN 1) zcf))) (fun _=>Res.ok true) (zaH (zac (gv 2) (zac (gv 0) (zac (f2 (gv 3) (gv 0) ixA) (zac (gv 1) lNil)))) [] zgA)) lNil) anyD)) (seqF (retF q114 (vAnd (gv 4) (vNot (gv 5)))) zaj)))))
noncomputable def zko:List D->Res D:=fun ds=>outR false (zna (zas zhe.length ds))
theorem zs5 {P:Program} {w:World} {K:PySem.W.Frag} {mg:Str->Option Value} {base:Heap} (T:Txt K mg) (A:DefAt K mg "goes" ze9) (c_refuse_unless_all_owned:Callee P w K mg base "refuse_unless_all_owned" zaO [] 3 false q104 zap) (c_is_ring_of_owns:Callee P w K mg base "is_ring_of_owns" zbY [] 5 false q0 zbw) (c_likes:Callee P w K mg base "likes" zjB [] 1 false q102 zgA):Callee P w K mg base "goes" zm8 [] 6 false [.bw,.sh,.bw,.bw] zko:=
 zbJ (m':=q114) A zfZ fun f cdv A outer s H g E hr hu1=>(zaa (zov (zaw c_refuse_unless_all_owned (m_bw (vb_ 0) (m_sh (v_ 1) zaX))))
   (zaa (s_if (zfH (zeb (bE (zaw c_is_ring_of_owns (m_bw (vb_ 1) (m_bw (vb_ 3) zaX)))))) (zaa (zaN s_bl)
   zaf)
   zaf)
   (zaa (zbu 4 zfZ.nd (zlq rfl (by rfl) T.b_any (zan (SO.toB (zc8 (X:=(cxOf CX0 P w K mg base zhe "goes" (zab ze9) f cdv A outer s H E).nox) (N':=["hand","thing","wishes","dealing"]) (nl:=2) (cap:=[0,2]) zfZ.nd rfl (zay (osc:=(zab ze9)) (ON:=zhe) rfl rfl (by decide +kernel)) (zbm (vb_ 3)) (fun _ _ _ _ _ _=>(zeU rfl (zba (zao 0 (show List.Nodup (["hand","thing","wishes","dealing"]:List Str) by decide +kernel)) (zba (zao 1 (show List.Nodup (["hand","thing","wishes","dealing"]:List Str) by decide +kernel)) zeV)))) (zek (zaD (zaY (by decide)) (zaD (zaY (by decide)) zb7))) (fun _ _ _ _ _ _=>zcm) (fun _ _ _ _ _ _=>(zaw c_likes (m_bw (vb_ 2) (m_bw (vb_ 0) (m_bw (vb_ 1) (m_bw (xB hu1 (vb_ 3) (vb_ 0)) zaX)))))))) zaE)))
   (zaa (zbu 5 zfZ.nd (zlq rfl (by rfl) T.b_any (zan (SO.toB (zc8 (X:=(cxOf CX0 P w K mg base zhe "goes" (zab ze9) f cdv A outer s H E).nox) (N':=["hand","thing","wishes","dealing"]) (nl:=2) (cap:=[0,2]) zfZ.nd rfl (zay (osc:=(zab ze9)) (ON:=zhe) rfl rfl (by decide +kernel)) (zbm (vb_ 3)) (fun _ _ _ _ _ _=>(zeU rfl (zba (zao 0 (show List.Nodup (["hand","thing","wishes","dealing"]:List Str) by decide +kernel)) (zba (zao 1 (show List.Nodup (["hand","thing","wishes","dealing"]:List Str) by decide +kernel)) zeV)))) (zek (zaD (zaY (by decide)) (zaD (zaY (by decide)) zb7))) (fun _ _ _ _ _ _=>zcm) (fun _ _ _ _ _ _=>(zaw c_likes (m_bw (vb_ 2) (m_bw (vb_ 0) (m_bw (xB hu1 (vb_ 3) (vb_ 0)) (m_bw (vb_ 1) zaX)))))))) zaE)))
   (zaa (zaN (zkz (v_ 4) (zkw (zph (v_ 5)))))
   zaf)))))
noncomputable abbrev zbN:Stmt:=top 41
noncomputable abbrev zca:List Str:=["_law_found","_law_pair"]
noncomputable abbrev zc3:List Str:=["_law_found"]
theorem zcw:FnScope zca zc3 (zab zbN):=fs_
noncomputable abbrev zdC:FS:=
 (seqF (ifF q104 (fOr (fNot (fTru (f1 (gv 1) (isiD "tuple")))) (zaB (f2 (fC (zac (gv 1) lNil) lenD) (ci 2) neD))) (seqF (retF q104 (fun _=>Res.ok (D.bl false))) zaj) zaj) (seqF (ifF q104 (fNot (fTru (fC (zac (zbC 1 [] (fSeq zaU (gv 1)) (ftN 0) (fun _=>Res.ok true) (vAnd (f1 (gv 0) (isiD "int")) (vNot (f1 (gv 0) (isiD "bool"))))) lNil) allD))) (seqF (retF q104 (fun _=>Res.ok (D.bl false))) zaj) zaj) zaj))
noncomputable def zc5:FS:=
 (seqF (ifF q104 (fNot (fTru (f1 (gv 0) (isiD "tuple")))) (seqF (retF q104 (fun _=>Res.ok (D.bl false))) zaj) zaj) (seqF (zbK q104 (fSeq zaU (gv 0)) (ftN 1) zdC) (seqF (retF q104 (fun _=>Res.ok (D.bl true))) zaj)))
noncomputable def zcc:List D->Res D:=fun ds=>outR false (zc5 (zas zca.length ds))
theorem zl5 {P:Program} {w:World} {K:PySem.W.Frag} {mg:Str->Option Value} {base:Heap} (T:Txt K mg) (A:DefAt K mg "_law_is_ring" zbN):Callee P w K mg base "_law_is_ring" zc3 [] 1 false [Md.bw] zcc:=
 zbJ (m':=q104) A zcw fun f cdv A outer s H g E hr hu1=>have hu64:=hr.units; (zaa (s_if (zfH (zeb (bE (zkx "tuple" "tuple" rfl (zis _) (by rfl) T.b_isinstance (by rfl) T.b_tuple (vb_ 0))))) (zaa (zaN s_bl)
   zaf)
   zaf)
   (zaa (zjR PassesOwn.never rfl (zbm (vb_ 0)) (fun _=>(zao 1 zcw.nd)) (fun _=>(zaa (s_if (SW.toQ (q_or (zfH (zeb (bE (zkx "tuple" "tuple" rfl (zis _) (by rfl) T.b_isinstance (by rfl) T.b_tuple (vb_ 1))))) (zkI (q_ne hu64 (bE (zcn (by rfl) T.b_len (zan (vb_ 1) zaE))) iB)))) (zaa (zaN s_bl)
   zaf)
   zaf)
   (zaa (s_if (zfH (zeb (bE (zsT rfl (by rfl) T.b_all (zan (SO.toB (zc8 (X:=(cxOf CX0 P w K mg base zca "_law_is_ring" (zab zbN) f cdv A outer s H E).nox) (N':=["_law_one"]) (nl:=1) (cap:=[]) zcw.nd rfl (zay (osc:=(zab zbN)) (ON:=zca) rfl rfl (by decide +kernel)) (zbm (vb_ 1)) (fun _ _ _ _ _ _=>(zao 0 (show List.Nodup (["_law_one"]:List Str) by decide +kernel))) (zaY (by decide)) (fun _ _ _ _ _ _=>zcm) (fun _ _ _ _ _ _=>(zkz (zkx "int" "int" rfl (zmk _) (by rfl) T.b_isinstance (by rfl) T.b_int (vb_ 0)) (zkw (zph (zkx "bool" "bool" rfl (zj8 _) (by rfl) T.b_isinstance (by rfl) T.b_bool (vb_ 0)))))))) zaE))))) (zaa (zaN s_bl)
   zaf)
   zaf)
   zaf))))
   (zaa (zaN s_bl)
   zaf)))
noncomputable abbrev zou:Stmt:=top 42
noncomputable abbrev zsx:List Str:=["_law_script","_law_n","_law_wishes_here","_law_owns","_law_due","_law_got","_law_dealing","_law_way","_law_some","_law_one","_law_other","_law_first","_law_turn","_law_found"]
noncomputable abbrev zsw:List Str:=["_law_script"]
theorem zcv:FnScope zsx zsw (zab zou):=fs_
noncomputable abbrev zjD:FS:=
 (seqF (setF q101 13 (zaH (zac (gv 2) (zac (gv 3) (zac (gv 6) lNil))) [] zgB)) (seqF (ifF q101 (zaB (f2 (gv 11) (fun _=>Res.ok D.non) isD)) (seqF (ifF q101 (zaB (f2 (gv 13) (fun _=>Res.ok D.non) isnD)) (seqF (retF q101 (fun _=>Res.ok (D.bl false))) zaj) zaj) zaj) (seqF (ifF q101 (fOr (fNot (fTru (zaH (zac (gv 13) lNil) [] zcc))) (zaB (f2 (gv 13) (gv 11) neD))) (seqF (retF q101 (fun _=>Res.ok (D.bl false))) zaj) zaj) zaj)) zaj))
noncomputable def zoq:FS:=
 (seqF (setF q101 1 (f2 (ci 1) (f2 (zaH (zac (gv 0) (zac (ci 1) lNil)) [] za4) (ci 7) modI) addA)) (seqF (setF q101 2 (zaH (zac (gv 0) (zac (ci 4) (zac (gv 1) (zac (gv 1) lNil)))) [] zcs)) (seqF (setF q101 3 (zaH (zac (gv 0) (zac (ci 11) (zac (gv 1) lNil))) [] zc0)) (seqF (setF q101 4 (zaH (zac (gv 2) (zac (gv 3) lNil)) [] zct)) (seqF (setF q101 5 (zaH (zac (gv 4) (zac (gv 1) lNil)) [] zbI)) (seqF (setF q101 6 (zaH (zac (zaH (zac (gv 0) (zac (ci 12) lNil)) [] za4) (zac (gv 1) lNil)) [] zbx)) (seqF (setF q101 7 (zaH (zac (gv 0) (zac (ci 2) lNil)) [] za4)) (seqF (ifF q101 (zaB (f2 (f2 (gv 7) (ci 3) modI) (ci 0) gtI)) (seqF (setF q101 8 (fC (zac (gv 5) lNil) zhI)) (seqF (setF q108 9 (f2 (f2 (gv 7) (ci 3) zhO) (gv 1) modI)) (seqF (setF q108 10 (f2 (f2 (gv 7) (ci 21) zhO) (gv 1) modI)) (seqF (ifF q108 (zaB (f2 (f2 (gv 7) (ci 3) modI) (ci 1) eqD)) (seqF (swpF q108 8 (mkT (zac (f2 (gv 8) (gv 10) ixA) (zac (f2 (gv 8) (gv 9) ixA) lNil))) (gv 9) (gv 10)) zaj) zaj) (seqF (setF q108 6 (fC (zac (gv 8) lNil) tupD)) zaj))))) zaj) (seqF (setF q101 11 (zaH (zac (gv 4) (zac (gv 6) (zac (gv 5) lNil))) [] za7)) (seqF (zbK q101 (fRng rng1 (zac (ci 2) lNil)) (ftN 12) zjD) (seqF (ifF q101 (zaB (f2 (gv 11) (fun _=>Res.ok D.non) isD)) (seqF (retF q101 (fun _=>Res.ok (D.bl true))) zaj) zaj) (seqF (retF q101 (vAnd (zaH (zac (gv 2) (zac (gv 3) (zac (gv 6) (zac (gv 11) lNil)))) [] zds) (zaH (zac (gv 2) (zac (gv 3) (zac (gv 6) (zac (gv 11) lNil)))) [] zko))) zaj))))))))))))
noncomputable def zqs:List D->Res D:=fun ds=>outR false (zoq (zas zsx.length ds))
theorem ztv {P:Program} {w:World} {K:PySem.W.Frag} {mg:Str->Option Value} {base:Heap} (T:Txt K mg) {fa:Addr} {fd:FuncData} (A:Fun K "law" "law" zou fa fd) (c__law_cell:Callee P w K mg base "_law_cell" zcE [] 1 false q0 za4) (c__law_wishes:Callee P w K mg base "_law_wishes" zdn [] 2 false q102 zcs) (c__law_owned:Callee P w K mg base "_law_owned" zdS [] 2 false q107 zc0) (c__law_rounds:Callee P w K mg base "_law_rounds" zdo [] 2 false q0 zct) (c__law_by_rounds:Callee P w K mg base "_law_by_rounds" zci [] 1 false q0 zbI) (c__law_row:Callee P w K mg base "_law_row" zdb [] 1 false [.sh,.bw] zbx) (c__law_first_other:Callee P w K mg base "_law_first_other" zbT [] 1 false q107 za7) (c_goers:Callee P w K mg base "goers" zjC [] 8 false [.bw,.sh,.bw] zgB) (c__law_is_ring:Callee P w K mg base "_law_is_ring" zc3 [] 1 false [Md.bw] zcc) (c_goes:Callee P w K mg base "goes" zm8 [] 6 false [.bw,.sh,.bw,.bw] zko) (c__law_goes:Callee P w K mg base "_law_goes" zet [] 2 false q102 zds):FnOk P w K mg base CX0 9 fa fd zsw (spM K false [Md.sh] zqs):=by
 refine zoT (k:=8) (fs:=zoq) (m':=q101) A zcv rfl fun cdv A outer s H g E hr=>?_
 have hu1:=zmx hr
 have hu64:=hr.units
 exact (zaa (zbu 1 zcv.nd (zef iB (bE (zeL (bE (zaw c__law_cell (m_bw (vb_ 0) (m_bw iB zaX)))) iB))))
   (zaa (zbu 2 zcv.nd (zaw c__law_wishes (m_bw (vb_ 0) (m_bw iB (m_bw (vb_ 1) (m_bw (vb_ 1) zaX))))))
   (zaa (zbu 3 zcv.nd (zaw c__law_owned (m_bw (vb_ 0) (m_bw iB (m_bw (vb_ 1) zaX)))))
   (zaa (zbu 4 zcv.nd (zaw c__law_rounds (m_bw (vb_ 2) (m_bw (vb_ 3) zaX))))
   (zaa (zbu 5 zcv.nd (zaw c__law_by_rounds (m_bw (vb_ 4) (m_bw (vb_ 1) zaX))))
   (zaa (zbu 6 zcv.nd (zaw c__law_row (m_sh (zaw c__law_cell (m_bw (vb_ 0) (m_bw iB zaX))) (m_bw (vb_ 1) zaX))))
   (zaa (zbu 7 zcv.nd (zaw c__law_cell (m_bw (vb_ 0) (m_bw iB zaX))))
   (zaa (s_if (q_gt (bE (zeL (vb_ 7) iB)) iB) (zbO 8 (zaa (zcl 8 zcv.nd (by rfl) (by first | exact Or.inl rfl | exact Or.inr rfl) (zl7 (by rfl) T.b_list (zan (vb_ 5) zaE)))
   (zaa (zbu 9 zcv.nd (zeL (bE (zlp (vb_ 7) iB)) (vb_ 1)))
   (zaa (zbu 10 zcv.nd (zeL (bE (zlp (vb_ 7) iB)) (vb_ 1)))
   (zaa (s_if (q_eq hu64 (bE (zeL (vb_ 7) iB)) iB) (zaa (zsQ 8 rfl hu1 rfl (by rfl) (by first | exact Or.inl rfl | exact Or.inr (Or.inl rfl) | exact Or.inr (Or.inr rfl)) (vb_ 9) (vb_ 10) (znk (zbD (zdD hu1 (vb_ 8) (vb_ 10)) (zbD (zdD hu1 (vb_ 8) (vb_ 9)) zcM))))
   zaf)
   zaf)
   (zaa (zbu 6 zcv.nd (zf1 (by rfl) T.b_tuple (zan (vb_ 8) zaE)))
   zaf))))) rfl)
   zaf)
   (zaa (zbu 11 zcv.nd (zaw c__law_first_other (m_bw (vb_ 4) (m_bw (vb_ 6) (m_bw (vb_ 5) zaX)))))
   (zaa (zf4 PassesOwn.never rfl (zd7 (by rfl) T.b_range (zan iB zaE)) (zao 12 zcv.nd) (zaa (zbu 13 zcv.nd (zaw c_goers (m_bw (vb_ 2) (m_sh (v_ 3) (m_bw (vb_ 6) zaX)))))
   (zaa (s_if (q_is (vb_ 11) (bE zf2)) (zaa (s_if (zq6 (vb_ 13) (bE zf2)) (zaa (zaN s_bl)
   zaf)
   zaf)
   zaf)
   (zaa (s_if (SW.toQ (q_or (zfH (zeb (bE (zaw c__law_is_ring (m_bw (vb_ 13) zaX))))) (zkI (q_ne hu64 (vb_ 13) (vb_ 11))))) (zaa (zaN s_bl)
   zaf)
   zaf)
   zaf))
   zaf)))
   (zaa (s_if (q_is (vb_ 11) (bE zf2)) (zaa (zaN s_bl)
   zaf)
   zaf)
   (zaa (zaN (zkz (zaw c__law_goes (m_bw (vb_ 2) (m_bw (vb_ 3) (m_bw (vb_ 6) (m_bw (vb_ 11) zaX))))) (zkw (zaw c_goes (m_bw (vb_ 2) (m_sh (v_ 3) (m_bw (vb_ 6) (m_bw (vb_ 11) zaX))))))))
   zaf))))))))))))
end Law
end
section
namespace Law
open PySem L2 DL
noncomputable abbrev nD (k:Nat):D:=.int (k:Int)
noncomputable abbrev LN (l:List Nat):D:=.lst (l.map nD)
noncomputable abbrev TN (l:List Nat):D:=.tup (l.map nD)
noncomputable def oD:Option Nat->D
 | none=>.non
 | some k=>nD k
noncomputable abbrev WD (rows:List (List Nat)):D:=.tup (rows.map TN)
noncomputable abbrev OD (owns:List (Option Nat)):D:=.tup (owns.map oD)
theorem szOk {ds:List D} (h:ds.length<=1000):sz ds=some ds:=zsN (Nat.le_trans h (by rw [sizeLine_eq]; decide))
@[simp] theorem addA_int (a b:Int):addA (.int a) (.int b)=some (.int (a + b)):=rfl
theorem zpZ {a b:Int} (h:CMul a b):mulI (.int a) (.int b)=some (.int (a * b)):=by rw [mulI,intsC_int,if_pos h]
theorem zmf {a b:Int} (h:0 < b):modI (.int a) (.int b)=some (.int (a % b)):=by rw [modI,intsC_int,if_pos h]
theorem zn9 {a b:Int} (h:CDiv a b):zhO (.int a) (.int b)=some (.int (a / b)):=by rw [zhO,intsC_int,if_pos h]
theorem zad {s1 s2:FS} {r r':Rho} (h:s1 r=.nx r'):seqF s1 s2 r=s2 r':=by unfold seqF; rw [h]
theorem zar {s1 s2:FS} {r:Rho} {d:D} (h:s1 r=.rt d):seqF s1 s2 r=.rt d:=by unfold seqF; rw [h]
theorem zat {m:List Md} {i:Nat} {f:FE} {r:Rho} {d:D} (h:f r=.ok d):setF m i f r=.nx (r.set i (some d)):=by unfold setF; rw [h]; rfl
theorem zaG {m:List Md} {f:FE} {r:Rho} {d:D} (h:f r=.ok d):retF m f r=.rt d:=by unfold retF; rw [h]; rfl
theorem zkX {m:List Md} {p:FQ} {s1 s2:FS} {r:Rho} {b:Bool} (h:p r=.ok b):ifF m p s1 s2 r=if b=true then s1 r else s2 r:=by unfold ifF; rw [h]; rfl
theorem if_t {m:List Md} {p:FQ} {s1 s2:FS} {r:Rho} (h:p r=.ok true):ifF m p s1 s2 r=s1 r:=by rw [zkX h,if_pos rfl]
theorem if_f {m:List Md} {p:FQ} {s1 s2:FS} {r:Rho} (h:p r=.ok false):ifF m p s1 s2 r=s2 r:=by rw [zkX h,if_neg Bool.false_ne_true]
theorem zsf {p:FQ} {f f':FE} {r:Rho} (h:p r=.ok true):fIf p f f' r=f r:=by unfold fIf; rw [h]; rfl
theorem zsg {p:FQ} {f f':FE} {r:Rho} (h:p r=.ok false):fIf p f f' r=f' r:=by unfold fIf; rw [h]; rfl
theorem zj4 {fl:Rho->Res (List D)} {r:Rho} {ds:List D} (h:fl r=.ok ds) (hl:ds.length<=1000):mkT fl r=.ok (.tup ds):=by unfold mkT; rw [h,bind_ok,szOk hl]; rfl
theorem zga {fl:Rho->Res (List D)} {r:Rho} {ds:List D} (h:fl r=.ok ds) (hl:ds.length<=1000):mkL fl r=.ok (.lst ds):=by unfold mkL; rw [h,bind_ok,szOk hl]; rfl
theorem zfj {ds:List D} {d:D} (h:ds.length<=1000):appD (.lst ds) [d]=some (.lst (ds++[d])):=by
 show (if ds.length < sizeLine then some (D.lst (ds++[d])) else none)=_
 rw [if_pos (by rw [sizeLine_eq]; omega)]
theorem zam {fl:Rho->Res (List D)} {dds zs:List D} {F:List D->Res D} {r:Rho} {d:D} (h1:fl r=.ok zs) (h2:F (zs++dds)=.ok d):zaH fl dds F r=.ok d:=by unfold zaH; rw [h1,bind_ok,h2]; rfl
theorem zoa {f:FE} {k:D->Option D} {r:Rho} {a d:D} (h1:f r=.ok a) (h2:k a=some d):f1 f k r=.ok d:=by unfold f1; rw [h1,bind_ok,h2]; rfl
theorem zak {f f':FE} {k:D->D->Option D} {r:Rho} {a b d:D} (h1:f r=.ok a) (h2:f' r=.ok b) (h3:k a b=some d):f2 f f' k r=.ok d:=by unfold f2; rw [h1,bind_ok,h2,bind_ok,h3]; rfl
theorem zaS {fl:Rho->Res (List D)} {k:List D->Option D} {r:Rho} {ds:List D} {d:D} (h1:fl r=.ok ds) (h2:k ds=some d):fC fl k r=.ok d:=by unfold fC; rw [h1,bind_ok,h2]; rfl
theorem zae {f:FE} {fl:Rho->Res (List D)} {r:Rho} {d:D} {ds:List D} (h1:f r=.ok d) (h2:fl r=.ok ds):zac f fl r=.ok (d::ds):=by unfold zac; rw [h1,bind_ok,h2]; rfl
theorem zah {r:Rho}:lNil r=.ok []:=rfl
theorem zav {f:FE} {r:Rho} {b:Bool} (h:f r=.ok (.bl b)):zaB f r=.ok b:=by unfold zaB; rw [h]; rfl
theorem zbj {f:FE} {r:Rho} {d:D} {b:Bool} (h:f r=.ok d) (h2:truD d=some b):fTru f r=.ok b:=by unfold fTru; rw [h,bind_ok,h2]; rfl
theorem zdz {p:FQ} {r:Rho} {b:Bool} (h:p r=.ok b):fNot p r=.ok (! b):=by unfold fNot; rw [h]; rfl
theorem zm3 {p q:FQ} {r:Rho} (h:p r=.ok true):fAnd p q r=q r:=by unfold fAnd; rw [h]; rfl
theorem zqp {p q:FQ} {r:Rho} (h:p r=.ok false):fAnd p q r=.ok false:=by unfold fAnd; rw [h]; rfl
theorem or_f {p q:FQ} {r:Rho} (h:p r=.ok false):fOr p q r=q r:=by unfold fOr; rw [h]; rfl
theorem zld {f f':FE} {r:Rho} (h:f r=.ok (.bl true)):vAnd f f' r=f' r:=by unfold vAnd; rw [h]; rfl
theorem zaI {m:List Md} {fi:FI} {ft:FT} {b:FS} {r:Rho} {ds:List D} (h:fi r=.ok ds):zbK m fi ft b r=forF ft b ds r:=by unfold zbK; rw [h]; rfl
theorem zjN {f:FE} {r:Rho} {d:D} {ds:List D} (h:f r=.ok d) (h2:zaU d=some ds):fSeq zaU f r=.ok ds:=by unfold fSeq; rw [h,bind_ok,h2]; rfl
theorem za3 {ft:FT} {b:FS} {r:Rho}:forF ft b [] r=.nx r:=by unfold forF; rfl
theorem zbh {ft:FT} {b:FS} {r r1 r':Rho} {d:D} {ds:List D} (h1:ft d r=some r1) (h2:b r1=.nx r'):forF ft b (d::ds) r=forF ft b ds r':=by
 conv=>lhs; unfold forF
 simp only [h1,h2]
theorem zg4 {ft:FT} {b:FS} {r r1:Rho} {d v:D} {ds:List D} (h1:ft d r=some r1) (h2:b r1=.rt v):forF ft b (d::ds) r=.rt v:=by
 conv=>lhs; unfold forF
 simp only [h1,h2]
theorem zhk {m:List Md} {p:FQ} {b:FS} {n:Nat} {r:Rho} (h:p r=.ok false):zbM m p b (n + 1) r=.nx r:=by unfold zbM; rw [h]; rfl
theorem zhj {m:List Md} {p:FQ} {b:FS} {n:Nat} {r r':Rho} (h:p r=.ok true) (h2:b r=.nx r'):zbM m p b (n + 1) r=zbM m p b n r':=by
 conv=>lhs; unfold zbM
 rw [h,onE_ok,if_pos rfl,h2]
theorem zeR {T:String} {m:List Md} {i:Nat} {fl:Rho->Res (List D)} {mk:D->List D->Option D} {r:Rho} {d d':D} {ds:List D} (h1:r[i]? = some (some d)) (h2:tyB T d=true) (h3:fl r=.ok ds) (h4:mk d ds=some d'):mutF T m i fl mk r=.nx (r.set i (some d')):=by
 unfold mutF; rw [h1]; simp only [h2,if_true,h3,onE_ok,h4]
theorem zig {m:List Md} {i:Nat} {fk fv:FE} {r:Rho} {d k v d':D} (h1:r[i]? = some (some d)) (h2:fv r=.ok v) (h3:fk r=.ok k) (h4:stoD d k v=some d'):DL.putF m i fk fv r=.nx (r.set i (some d')):=by
 unfold DL.putF; rw [h2,onE_ok]; simp only [h1,h3,onE_ok,h4]
theorem zqm {fa fb fc:FE} {k k':D->D->Option D} {r:Rho} {x y w d:D} (h1:fa r=.ok x) (h2:fb r=.ok y) (h3:k x y=some (.bl true)) (h4:fc r=.ok w) (h5:k' y w=some d):ziA fa fb fc k k' r=.ok d:=by
 unfold ziA; rw [h1,bind_ok,h2,bind_ok,h3,opt_some,bind_ok]
 show (fc r).bind _=_
 rw [h4,bind_ok,h5]; rfl
theorem zmP {ft:FT} {q:FQ} {fe:FE} {r0:Rho}:zep ft q fe r0 []=.ok []:=by unfold zep; rfl
theorem ziE {ft:FT} {q:FQ} {fe:FE} {r0:Rho} {α:Type} (e:α->D) (keep:α->Bool) (g:α->D):∀(l:List α),(∀a∈l,∃r1,ft (e a) r0=some r1/\q r1=.ok (keep a)/\(keep a=true->fe r1=.ok (g a)))->zep ft q fe r0 (l.map e)=.ok ((l.filter keep).map g)
 | [],_=>zmP
 | a::l,h=>by
  obtain ⟨r1,h1,h2,h3⟩:=h a List.mem_cons_self
  have ih:=ziE (ft:=ft) (q:=q) (fe:=fe) (r0:=r0) e keep g l fun b hb=>h b (List.mem_cons_of_mem _ hb)
  rw [List.map_cons]
  conv=>lhs; unfold zep
  rw [h1,opt_some,bind_ok,h2,bind_ok]
  cases k:keep a with
  | true=>rw [if_pos rfl,h3 k,bind_ok,ih,bind_ok,List.filter_cons,if_pos k]; rfl
  | false=>rw [if_neg Bool.false_ne_true,ih,List.filter_cons,if_neg (by rw [k]; exact Bool.false_ne_true)]
theorem zeo {nl:Nat} {cap:List Nat} {fi:FI} {ft:FT} {q:FQ} {fe:FE} {r:Rho} {α:Type} {l:List α} (e:α->D) (keep:α->Bool) (g:α->D) (h1:fi r=.ok (l.map e)) (hl:l.length<=1000)
  (h:∀a∈l,∃r1,ft (e a) (capR nl cap r)=some r1/\q r1=.ok (keep a)/\(keep a=true->fe r1=.ok (g a))):zbC nl cap fi ft q fe r=.ok (.lst ((l.filter keep).map g)):=by
 unfold zbC
 rw [h1,bind_ok,szOk (by simpa using hl),opt_some,bind_ok,ziE e keep g l h,noXL_ok,bind_ok]
theorem zte (k:Nat):leI (.int 0) (nD k)=some (.bl true):=by
 show some (D.bl (decide ((0:Int)<=(k:Int))))=_
 rw [decide_eq_true (Int.natCast_nonneg k)]
theorem zje (a b:Nat):ltI (nD a) (nD b)=some (.bl (decide (a < b))):=by
 show some (D.bl (decide ((a:Int) < (b:Int))))=_
 simp only [Int.ofNat_lt]
theorem zn7 (a b:Nat):gtI (nD a) (nD b)=some (.bl (decide (b < a))):=by
 show some (D.bl (decide ((b:Int) < (a:Int))))=_
 simp only [Int.ofNat_lt]
theorem ziC (a b:Nat):eqD (nD a) (nD b)=some (.bl (decide (a=b))):=by
 unfold eqD
 rw [eqB_int]
 show some (D.bl ((a:Int) == (b:Int)))=_
 have:((a:Int) == (b:Int))=decide (a=b):=by rw [Bool.eq_iff_iff,beq_iff_eq,decide_eq_true_iff]; exact Int.ofNat_inj
 rw [this]
theorem zl9 (a b:Nat):neD (nD a) (nD b)=some (.bl (! decide (a=b))):=by
 unfold neD
 rw [eqB_int]
 show some (D.bl (!((a:Int) == (b:Int))))=_
 have:((a:Int) == (b:Int))=decide (a=b):=by rw [Bool.eq_iff_iff,beq_iff_eq,decide_eq_true_iff]; exact Int.ofNat_inj
 rw [this]
theorem zaQ {B:FS} {n:Nat} {ds:List D} {d:D} (h:B (zas n ds)=.rt d):outR false (B (zas n ds))=.ok d:=by rw [h]; rfl
noncomputable abbrev kI (k:Nat):Key:=Sum.inl (k:Int)
theorem zoQ (kvs:List (Nat × D)) (k:Nat):hasK (kvs.map fun p=>(kI p.1,p.2)) (kI k)=decide (k∈kvs.map (·.1)):=by
 unfold hasK
 rw [List.any_map,Bool.eq_iff_iff,List.any_eq_true,decide_eq_true_iff,List.mem_map]
 constructor
 ·rintro ⟨p,h1,h2⟩
  refine ⟨p,h1,?_⟩
  simp only [Function.comp_apply,decide_eq_true_eq] at h2
  have:((p.1:Nat):Int)=(k:Int):=Sum.inl.inj h2
  exact Int.ofNat.inj this
 ·rintro ⟨p,h1,rfl⟩
  exact ⟨p,h1,by simp⟩
theorem zny (kvs:List (Nat × D)) (k:Nat) (d:D) (h:k∉kvs.map (·.1)):putD (kvs.map fun p=>(kI p.1,p.2)) (kI k) d=(kvs++[(k,d)]).map fun p=>(kI p.1,p.2):=by
 unfold putD
 have e:((kvs.map fun p=>(kI p.1,p.2)).any fun kv=>decide (kv.1=kI k))=decide (k∈kvs.map (·.1)):=zoQ kvs k
 rw [e,decide_eq_false h,if_neg Bool.false_ne_true,List.map_append]
 rfl
@[simp] theorem e_seq (s1 s2:FS) (r:Rho):seqF s1 s2 r=(match s1 r with | .nx r'=>s2 r' | o=>o):=rfl
@[simp] theorem e_skip (r:Rho):zaj r=.nx r:=rfl
@[simp] theorem e_set (m:List Md) (i:Nat) (f:FE) (r:Rho):setF m i f r=onE m r (f r) fun d=>.nx (r.set i (some d)):=rfl
@[simp] theorem e_ret (m:List Md) (f:FE) (r:Rho):retF m f r=onE m r (f r) fun d=>.rt d:=rfl
@[simp] theorem e_if (m:List Md) (p:FQ) (s1 s2:FS) (r:Rho):ifF m p s1 s2 r=onE m r (p r) fun c=>if c=true then s1 r else s2 r:=rfl
@[simp] theorem e_getV (r:Rho) (i:Nat):getV r i=(match r[i]? with | some (some d)=>.ok d | _=>.stuck):=rfl
@[simp] theorem e_f1 (f:FE) (k:D->Option D) (r:Rho):f1 f k r=(f r).bind fun d=>opt (k d):=rfl
@[simp] theorem e_f2 (f f':FE) (k:D->D->Option D) (r:Rho):f2 f f' k r=(f r).bind fun a=>(f' r).bind fun b=>opt (k a b):=rfl
@[simp] theorem e_fC (fl:Rho->Res (List D)) (k:List D->Option D) (r:Rho):fC fl k r=(fl r).bind fun ds=>opt (k ds):=rfl
@[simp] theorem e_lN (r:Rho):lNil r=.ok []:=rfl
@[simp] theorem e_lC (f:FE) (fl:Rho->Res (List D)) (r:Rho):zac f fl r=(f r).bind fun d=>(fl r).bind fun ds=>.ok (d::ds):=rfl
@[simp] theorem e_test (f:FE) (r:Rho):zaB f r=(f r).bind fun d=>opt (asB d):=rfl
@[simp] theorem e_tru (f:FE) (r:Rho):fTru f r=(f r).bind fun d=>opt (truD d):=rfl
@[simp] theorem e_not (p:FQ) (r:Rho):fNot p r=(p r).bind fun c=>.ok (! c):=rfl
@[simp] theorem e_and (p q:FQ) (r:Rho):fAnd p q r=(p r).bind fun c=>if c=true then q r else .ok false:=rfl
@[simp] theorem e_or (p q:FQ) (r:Rho):fOr p q r=(p r).bind fun c=>if c=true then .ok true else q r:=rfl
@[simp] theorem e_vand (f f':FE) (r:Rho):vAnd f f' r=(f r).bind fun d=>(opt (asB d)).bind fun c=>if c=true then f' r else .ok (.bl false):=rfl
@[simp] theorem e_vor (f f':FE) (r:Rho):vOr f f' r=(f r).bind fun d=>(opt (asB d)).bind fun c=>if c=true then .ok (.bl true) else f' r:=rfl
@[simp] theorem e_vnot (f:FE) (r:Rho):vNot f r=(f r).bind fun d=>(opt (asB d)).bind fun c=>.ok (.bl (! c)):=rfl
@[simp] theorem e_fIf (p:FQ) (f f':FE) (r:Rho):fIf p f f' r=(p r).bind fun c=>if c=true then f r else f' r:=rfl
@[simp] theorem e_call (fl:Rho->Res (List D)) (dds:List D) (F:List D->Res D) (r:Rho):zaH fl dds F r=(fl r).bind fun ds=>noX (F (ds++dds)):=rfl
@[simp] theorem e_asB (b:Bool):asB (.bl b)=some b:=rfl
@[simp] theorem e_truB (b:Bool):truD (.bl b)=some b:=rfl
@[simp] theorem e_truL (ds:List D):truD (.lst ds)=some (! ds.isEmpty):=rfl
@[simp] theorem e_loop (m:List Md) (fi:FI) (ft:FT) (b:FS) (r:Rho):zbK m fi ft b r=onE m r (fi r) fun ds=>forF ft b ds r:=rfl
@[simp] theorem e_fSeq (k:D->Option (List D)) (f:FE) (r:Rho):fSeq k f r=(f r).bind fun d=>opt (k d):=rfl
@[simp] theorem e_asL (ds:List D):zaU (.lst ds)=some ds:=rfl
@[simp] theorem e_asT (ds:List D):zaU (.tup ds)=some ds:=rfl
@[simp] theorem e_mkT (fl:Rho->Res (List D)) (r:Rho):mkT fl r=(fl r).bind fun ds=>(opt (sz ds)).bind fun ds=>.ok (.tup ds):=rfl
@[simp] theorem e_mkL (fl:Rho->Res (List D)) (r:Rho):mkL fl r=(fl r).bind fun ds=>(opt (sz ds)).bind fun ds=>.ok (.lst ds):=rfl
@[simp] theorem e_sz0:sz []=some []:=szOk (by simp)
@[simp] theorem e_sz1 (a:D):sz [a]=some [a]:=szOk (by simp)
@[simp] theorem e_sz2 (a b:D):sz [a,b]=some [a,b]:=szOk (by simp)
@[simp] theorem e_sz3 (a b c:D):sz [a,b,c]=some [a,b,c]:=szOk (by simp)
@[simp] theorem e_lenL (ds:List D):lenD [.lst ds]=some (.int ds.length):=rfl
@[simp] theorem e_lenT (ds:List D):lenD [.tup ds]=some (.int ds.length):=rfl
@[simp] theorem e_lenK (ds:List (Key × D)):lenD [.dic ds]=some (.int ds.length):=rfl
@[simp] theorem e_tupL (ds:List D):tupD [.lst ds]=some (.tup ds):=rfl
@[simp] theorem e_listL (ds:List D):zhI [.lst ds]=some (.lst ds):=rfl
@[simp] theorem e_listT (ds:List D):zhI [.tup ds]=some (.lst ds):=rfl
@[simp] theorem e_isNN:isD .non .non=some (.bl true):=rfl
@[simp] theorem e_isLN (ds:List D):isD (.lst ds) .non=some (.bl false):=rfl
@[simp] theorem e_isn1:isnD .non .non=some (.bl false):=rfl
@[simp] theorem e_isn2 (i:Int):isnD (.int i) .non=some (.bl true):=rfl
@[simp] theorem e_isn3 (ds:List D):isnD (.tup ds) .non=some (.bl true):=rfl
@[simp] theorem e_valsD (kvs:List (Key × D)):zo2 (.dic kvs)=some (.lst (kvs.map (·.2))):=rfl
theorem zjj {ds:List D} {i:Nat} {d:D} (h:ds[i]? = some d):ixA (.tup ds) (nD i)=some d:=by
 have hl:i < ds.length:=(List.getElem?_eq_some_iff.mp h).1
 show atI ds (i:Int)=some d
 unfold atI ixN
 rw [if_pos (Int.natCast_nonneg i),if_pos (by omega)]
 simpa using h
theorem zn2 {ds:List D} {i:Nat} {d:D} (h:ds[i]? = some d):ixA (.lst ds) (nD i)=some d:=by
 have hl:i < ds.length:=(List.getElem?_eq_some_iff.mp h).1
 show atI ds (i:Int)=some d
 unfold atI ixN
 rw [if_pos (Int.natCast_nonneg i),if_pos (by omega)]
 simpa using h
@[simp] theorem ixA_L0 (d:D) (ds:List D):ixA (.lst (d::ds)) (.int 0)=some d:=zn2 (i:=0) rfl
@[simp] theorem ixA_T0 (d:D) (ds:List D):ixA (.tup (d::ds)) (.int 0)=some d:=zjj (i:=0) rfl
theorem zrT {kvs:List (Key × D)} {k:Nat} {d:D} (h:getK kvs (kI k)=some d):ixA (.dic kvs) (nD k)=some d:=h
theorem anyE (l:List Nat) (k:Nat):(l.map nD).any (fun y=>eqs y (nD k))=decide (k∈l):=by
 rw [List.any_map,Bool.eq_iff_iff,List.any_eq_true,decide_eq_true_iff]
 constructor
 ·rintro ⟨x,h1,h2⟩
  have:(((x:Nat):Int) == (k:Int))=true:=h2
  have:=Int.ofNat_inj.mp (eq_of_beq this)
  subst this; exact h1
 ·intro h
  exact ⟨k,h,by show (((k:Nat):Int) == (k:Int))=true; simp⟩
theorem zn8 (l:List Nat):(l.map nD).all zbB=true:=by
 rw [List.all_eq_true]
 intro x hx
 obtain ⟨k,_,rfl⟩:=List.mem_map.mp hx
 rfl
theorem zr0 (l:List Nat) (k:Nat):inD (nD k) (LN l)=some (.bl (decide (k∈l))):=by
 show (if zbB (nD k)=true/\(l.map nD).all zbB=true then some ((l.map nD).any fun y=>eqs y (nD k)) else none).map D.bl=_
 rw [if_pos ⟨rfl,zn8 l⟩,anyE]; rfl
theorem zl8 (l:List Nat) (k:Nat):ninD (nD k) (LN l)=some (.bl (! decide (k∈l))):=by
 show (if zbB (nD k)=true/\(l.map nD).all zbB=true then some ((l.map nD).any fun y=>eqs y (nD k)) else none).map (fun b=>D.bl (! b))=_
 rw [if_pos ⟨rfl,zn8 l⟩,anyE]; rfl
end Law
end
section
namespace Law
open PySem L2 DL
theorem zh9 (k:Nat):zea [nD k]=.ok (.bl true):=rfl
theorem zfu (k b:Nat):zb1 [nD k,nD b]=.ok (.bl (decide (k < b))):=by
 refine zaQ (B:=zfl) (n:=2) ?_
 unfold zfl
 refine zar (zaG ?_)
 rw [zld (zam (zae (d:=nD k) rfl zah) (zh9 k))]
 exact zqm rfl rfl (zte k) rfl (zje k b)
end Law
end
section
namespace Law
open PySem L2 DL
theorem zdj {α:Type} (f:α->D) (l:List α):lenD [.tup (l.map f)]=some (nD l.length):=by
 show some (D.int ((l.map f).length:Int))=_
 rw [List.length_map]
theorem zbS {α:Type} (f:α->D) (l:List α):lenD [.lst (l.map f)]=some (nD l.length):=by
 show some (D.int ((l.map f).length:Int))=_
 rw [List.length_map]
theorem znZ {α:Type} (f:α->Key × D) (l:List α):lenD [.dic (l.map f)]=some (nD l.length):=by
 show some (D.int ((l.map f).length:Int))=_
 rw [List.length_map]
theorem zhQ (n:Nat):eqD (nD n) (nD n)=some (.bl true):=by
 have e:=ziC n n
 rw [decide_eq_true rfl] at e; exact e
theorem zoy (n:Nat):rngD 0 n=(List.range n).map nD:=by
 unfold rngD
 refine List.map_congr_left fun i _=>?_
 show D.int (0 + (i:Int))=D.int (i:Int)
 rw [Int.zero_add]
theorem znU (j:Int):zjg [.int j]=if -(2 ^ 62)<=j/\j < 2 ^ 62/\j.toNat<=sizeLine then some (.lst (rngD 0 j.toNat)) else none:=rfl
theorem zjf {n:Nat} (h:n<=1000):zjg [nD n]=some (LN (List.range n)):=by
 have hs:(n:Int).toNat<=sizeLine:=by rw [Int.toNat_natCast,sizeLine_eq]; omega
 rw [znU,if_pos ⟨by omega,by omega,hs⟩,Int.toNat_natCast,zoy]
theorem zpp (j:Int):rng1 [.int j]=if -(2 ^ 62)<=j/\j < 2 ^ 62 then some (rngD 0 j.toNat) else none:=rfl
theorem zib {n:Nat} (h:n<=1000):rng1 [nD n]=some ((List.range n).map nD):=by
 rw [zpp,if_pos ⟨by omega,by omega⟩,Int.toNat_natCast,zoy]
theorem zgk {fl:Rho->Res (List D)} {k:List D->Option (List D)} {r:Rho} {ds es:List D} (h1:fl r=.ok ds) (h2:k ds=some es):fRng k fl r=.ok es:=by unfold fRng; rw [h1,bind_ok,h2]; rfl
theorem zgh {p:Nat->Bool}:∀(l:List Nat),l.find? p=(l.filter p).head?
 | []=>rfl
 | a::l=>by
  rw [List.find?_cons,List.filter_cons]
  cases h:p a with
  | true=>simp
  | false=>simpa using zgh l
theorem zto (o:Option Nat) (x:Nat):eqD (oD o) (nD x)=some (.bl (decide (o=some x))):=by
 cases o with
 | none=>
  unfold eqD oD
  rw [eqB_non_int]
  simp
 | some k=>
  show eqD (nD k) (nD x)=_
  rw [ziC]
  simp
noncomputable def own (owns:List (Option Nat)) (h:Nat):Option Nat:=(owns[h]?).join
theorem zrm {owns:List (Option Nat)} {h:Nat} (hh:h < owns.length):(owns.map oD)[h]? = some (oD (own owns h)):=by
 rw [List.getElem?_map,List.getElem?_eq_getElem hh]
 unfold own
 rw [List.getElem?_eq_getElem hh]
 rfl
end Law
end
section
namespace Law
open PySem L2 DL
theorem zgT {row:List Nat} {rest:List (List Nat)}:zbs [WD (row::rest)]=.ok (nD row.length):=by
 refine zaQ (B:=zev) (n:=1) ?_
 unfold zev
 exact zar (zaG (zaS (zae (zak (a:=WD (row::rest)) (b:=.int 0) rfl rfl (ixA_T0 _ _)) zah) (zdj _ _)))
end Law
end
section
namespace Law
open PySem L2 DL
theorem zns {row things:List Nat} (h:∃x∈row,x∈things) (hl:row.length<=1000):zcI [TN row,LN things]=.ok (nD (Rg.best row things)):=by
 refine zaQ (B:=zey) (n:=2) ?_
 unfold zey
 have hc:(zbC 1 [1] (fSeq zaU (gv 0)) (ftN 0) (zaB (f2 (gv 0) (gv 1) inD)) (gv 0)) [some (TN row),some (LN things)]=.ok (LN (row.filter fun x=>decide (x∈things))):=by
  refine zeo nD (fun x=>decide (x∈things)) nD (l:=row) rfl hl fun a _=>⟨[some (nD a),some (LN things)],rfl,?_,fun _=>rfl⟩
  exact zav (zak (a:=nD a) (b:=LN things) rfl rfl (zr0 _ _))
 have hb:∃t,(row.filter fun x=>decide (x∈things))=Rg.best row things::t:=by
  unfold Rg.best
  rw [zgh]
  cases e:row.filter fun x=>decide (x∈things) with
  | nil=>
   obtain ⟨x,h1,h2⟩:=h
   have:x∈row.filter fun x=>decide (x∈things):=List.mem_filter.mpr ⟨h1,by simpa using h2⟩
   rw [e] at this; cases this
  | cons a t=>exact ⟨t,rfl⟩
 obtain ⟨t,ht⟩:=hb
 rw [ht] at hc
 exact zar (zaG (zak hc (b:=.int 0) rfl (ixA_L0 _ _)))
end Law
end
section
namespace Law
open PySem L2 DL
noncomputable abbrev zgG (pre:List Nat):D:=.dic ((pre.map fun k=>(k,D.bl true)).map fun p=>(kI p.1,p.2))
theorem zmD (b:Nat) (num:D):∀(suf pre:List Nat) (x y:Option D),(pre++suf).Nodup->(∀k∈suf,k < b)->(pre++suf).length<=1000 ->
  ∃x' y',forF (ftT (zau (ftN 3) (zau (ftN 4) zcf))) zcF (enuD pre.length (suf.map nD)) [some num,some (nD b),some (zgG pre),x,y]=.nx [some num,some (nD b),some (zgG (pre++suf)),x',y']
 | [],pre,x,y,_,_,_=>⟨x,y,by rw [List.append_nil]; exact za3⟩
 | k::suf,pre,x,y,hn,hb,hl=>by
  have hk:k∉pre:=fun z=>(List.nodup_append.mp hn).2.2 k z k List.mem_cons_self rfl
  obtain ⟨x',y',ih⟩:=zmD b num suf (pre++[k]) (some (nD pre.length)) (some (nD k)) (by simpa using hn) (fun j hj=>hb j (List.mem_cons_of_mem _ hj)) (by simpa using hl)
  refine ⟨x',y',?_⟩
  rw [show (pre++[k]).length=pre.length + 1 by simp] at ih
  rw [show pre++k::suf=(pre++[k])++suf by simp,<-ih]
  show forF _ _ (.tup [.int ((pre.length:Nat):Int),nD k]::enuD (pre.length + 1) (suf.map nD)) _=_
  refine zbh (r1:=[some num,some (nD b),some (zgG pre),some (nD pre.length),some (nD k)]) rfl ?_
  have c2:inD (nD k) (zgG pre)=some (.bl false):=by
   show (some (hasK _ (kI k))).map D.bl=_
   rw [zoQ,List.map_map]
   have:decide (k∈pre.map ((fun p:Nat × D=>p.1) ∘ fun k=>(k,D.bl true)))=false:=by
    rw [decide_eq_false_iff_not]
    simpa [Function.comp_def] using hk
   rw [this]; rfl
  have c3:stoD (zgG pre) (nD k) (.bl true)=some (zgG (pre++[k])):=by
   show (if _ then some (D.dic (putD _ (kI k) (.bl true))) else none)=_
   rw [if_pos (by rw [List.length_map,List.length_map,sizeLine_eq]; simp at hl; omega),zny _ _ _ (by rw [List.map_map]; simpa [Function.comp_def] using hk)]
   simp
  have c1:decide (k < b)=true:=decide_eq_true (hb k List.mem_cons_self)
  unfold zcF
  have hif:(fOr (fNot (fTru (zaH (zac (gv 4) (zac (gv 1) lNil)) [] zb1))) (zaB (f2 (gv 4) (gv 2) inD))) [some num,some (nD b),some (zgG pre),some (nD pre.length),some (nD k)]=.ok false:=by
   have h0:=zfu k b
   rw [c1] at h0
   rw [or_f (zdz (zbj (b:=true) (zam (zae (d:=nD k) rfl (zae (d:=nD b) rfl zah)) h0) rfl))]
   exact zav (zak (a:=nD k) (b:=zgG pre) rfl rfl c2)
  refine (zad (zkX hif)).trans ?_
  exact zad (zig (d:=zgG pre) (k:=nD k) rfl rfl rfl c3)
theorem zf6 {l:List Nat} {b:Nat} (hn:l.Nodup) (hb:∀k∈l,k < b) (hl:l.length<=1000):zcr [LN l,nD b]=.ok (nD l.length):=by
 obtain ⟨x',y',h⟩:=zmD b (LN l) l [] none none hn hb hl
 refine zaQ (B:=zdu) (n:=5) ?_
 unfold zdu
 refine (zad (r':=[some (LN l),some (nD b),some (zgG []),none,none]) rfl).trans ?_
 refine (zad ((zaI (ds:=enuD 0 (l.map nD)) rfl).trans h)).trans ?_
 exact zar (zaG (zaS (zae (d:=LN l) rfl zah) (zbS _ _)))
theorem zfb {l:List Nat} {n:Nat} (hn:l.Nodup) (hb:∀k∈l,k < n) (h8:l.length<=1000):zbt [LN l,nD n]=.ok (.bl true):=by
 refine zaQ (B:=zd2) (n:=2) ?_
 unfold zd2
 exact zar (zaG (zak (a:=nD l.length) (b:=nD l.length) (zam (zae (d:=LN l) rfl (zae (d:=nD n) rfl zah)) (zf6 hn hb h8)) (zaS (zae (d:=LN l) rfl zah) (zbS _ _)) (zhQ _)))
theorem zpm {l:List Nat} {n:Nat} (hn:l.Nodup) (hb:∀k∈l,k < n) (hl:l.length=n) (h8:n<=1000):zbV [LN l,nD n]=.ok (.bl true):=by
 refine zaQ (B:=zcL) (n:=2) ?_
 unfold zcL
 subst hl
 refine zar (zaG ?_)
 rw [zld (zak (a:=nD l.length) (b:=nD l.length) (zaS (zae (d:=LN l) rfl zah) (zbS _ _)) rfl (zhQ _))]
 exact zam (zae (d:=LN l) rfl (zae (d:=nD l.length) rfl zah)) (zfb hn hb h8)
theorem zgJ {rows:List (List Nat)} (h:rows.length<=1000):zb0 [WD rows,.non]=.ok (LN (List.range rows.length)):=by
 refine zaQ (B:=zcu) (n:=2) ?_
 unfold zcu
 refine zar ((zkX (b:=true) rfl).trans ?_)
 rw [if_pos rfl]
 exact zar (zaG (zaS (ds:=[nD rows.length]) (zae (zaS (zae (d:=WD rows) rfl zah) (zdj _ _)) zah) (zjf h)))
theorem zlu {rows:List (List Nat)} {l:List Nat} (hn:l.Nodup) (hb:∀k∈l,k < rows.length) (hl:l.length=rows.length) (h8:rows.length<=1000):zb0 [WD rows,LN l]=.ok (LN l):=by
 refine zaQ (B:=zcu) (n:=2) ?_
 unfold zcu
 refine (zad (r':=[some (WD rows),some (LN l)]) ((zkX (b:=false) rfl).trans rfl)).trans ?_
 refine (zad (r':=[some (WD rows),some (LN l)]) ((zkX (b:=false) (zdz (b:=true) (zbj (zam (zae (d:=LN l) rfl (zae (zaS (zae (d:=WD rows) rfl zah) (zdj _ _)) zah)) (zpm hn hb hl h8)) rfl))).trans rfl)).trans ?_
 exact zar (zaG (zaS (zae (d:=LN l) rfl zah) rfl))
end Law
end
section
namespace Law
open PySem L2 DL
theorem zmy (owns:List (Option Nat)) (line:List Nat) (x:Nat):∀(l:List Nat) (y:Option D),(∀h∈l,h < owns.length) ->
  (match l.find? (fun h=>decide (own owns h=some x)) with
   | some h=>forF (ftN 3) zbF (l.map nD) [some (OD owns),some (LN line),some (nD x),y]=.rt (nD h)
   | none=>∃y',forF (ftN 3) zbF (l.map nD) [some (OD owns),some (LN line),some (nD x),y]=.nx [some (OD owns),some (LN line),some (nD x),y'])
 | [],y,_=>⟨y,za3⟩
 | h::l,y,hl=>by
  have c:(zaB (f2 (f2 (gv 0) (gv 3) ixA) (gv 2) eqD)) [some (OD owns),some (LN line),some (nD x),some (nD h)]=.ok (decide (own owns h=some x)):=
   zav (zak (zak (a:=OD owns) (b:=nD h) rfl rfl (zjj (zrm (hl h List.mem_cons_self)))) (b:=nD x) rfl (zto _ _))
  rw [List.find?_cons]
  cases e:decide (own owns h=some x) with
  | true=>
   rw [e] at c
   refine zg4 (r1:=[some (OD owns),some (LN line),some (nD x),some (nD h)]) rfl ?_
   exact zar ((if_t c).trans (zar (zaG (d:=nD h) rfl)))
  | false=>
   rw [e] at c
   have ih:=zmy owns line x l (some (nD h)) fun k hk=>hl k (List.mem_cons_of_mem _ hk)
   have st:forF (ftN 3) zbF ((h::l).map nD) [some (OD owns),some (LN line),some (nD x),y]=forF (ftN 3) zbF (l.map nD) [some (OD owns),some (LN line),some (nD x),some (nD h)]:=
    zbh (r1:=[some (OD owns),some (LN line),some (nD x),some (nD h)]) rfl ((zad (if_f c)).trans rfl)
   rw [st]
   exact ih
theorem zls {owns:List (Option Nat)} {line:List Nat} {x:Nat} (hl:∀h∈line,h < owns.length):zcZ [OD owns,LN line,nD x]=.ok (oD (line.find? fun h=>decide (own owns h=some x))):=by
 refine zaQ (B:=zd1) (n:=4) ?_
 unfold zd1
 have h:=zmy owns line x line none hl
 cases e:line.find? fun h=>decide (own owns h=some x) with
 | some k=>
  rw [e] at h
  exact zar ((zaI (ds:=line.map nD) rfl).trans h)
 | none=>
  rw [e] at h
  obtain ⟨y',h⟩:=h
  exact (zad ((zaI (ds:=line.map nD) rfl).trans h)).trans (zar (zaG (d:=.non) rfl))
theorem ztg (o:Option Nat):isD (oD o) .non=some (.bl (decide (o=none))):=by cases o <;> rfl
theorem zkD {owns:List (Option Nat)} {line:List Nat} {x:Nat} (hl:∀h∈line,h < owns.length) (hne:line≠[]):zbe [OD owns,LN line,nD x]=.ok (nD ((line.find? fun h=>decide (own owns h=some x)).getD (line.headD 0))):=by
 refine zaQ (B:=zb3) (n:=4) ?_
 unfold zb3
 refine (zad (zat (zam (zae (d:=OD owns) rfl (zae (d:=LN line) rfl (zae (d:=nD x) rfl zah))) (zls hl)))).trans ?_
 refine zar (zaG ?_)
 have c:=zav (zak (f:=gv 3) (f':=fun _=>Res.ok D.non) (r:=[some (OD owns),some (LN line),some (nD x),some (oD (line.find? fun h=>decide (own owns h=some x)))]) rfl rfl (ztg (line.find? fun h=>decide (own owns h=some x))))
 cases e:line.find? fun h=>decide (own owns h=some x) with
 | some k=>
  rw [e,decide_eq_false (by simp)] at c
  exact (zsg c).trans rfl
 | none=>
  rw [e,decide_eq_true rfl] at c
  refine (zsf c).trans ?_
  cases line with
  | nil=>exact absurd rfl hne
  | cons a l=>exact zak (a:=LN (a::l)) (b:=.int 0) rfl rfl (ixA_L0 _ _)
end Law
end
section
namespace Law
open PySem L2 DL
noncomputable abbrev KD (kvs:List (Nat × Nat)):D:=.dic (kvs.map fun p=>(kI p.1,nD p.2))
noncomputable abbrev FD (l:List Nat) (f:Nat->Nat):List (Nat × Nat):=l.map fun h=>(h,f h)
theorem zmp {a b:Nat} (h:kI a=kI b):a=b:=Int.ofNat_inj.mp (Sum.inl.inj h)
theorem zgg:∀{kvs:List (Nat × Nat)} {h:Nat} {f:Nat->Nat},(∀p∈kvs,p.2=f p.1)->h∈kvs.map (·.1)->getK (kvs.map fun p=>(kI p.1,nD p.2)) (kI h)=some (nD (f h))
 | [],_,_,_,hh=>by cases hh
 | p::kvs,h,f,hf,hh=>by
  by_cases e:p.1=h
  ·have:=hf p List.mem_cons_self
   subst e
   simp [getK,List.find?_cons,this]
  ·have hne:¬ kI p.1=kI h:=fun z=>e (zmp z)
   have hh':h∈kvs.map (·.1):=by
    rcases List.mem_cons.mp hh with z | z
    ·exact absurd z.symm e
    ·exact z
   have ih:=zgg (f:=f) (fun q hq=>hf q (List.mem_cons_of_mem _ hq)) hh'
   have e1:getK ((p::kvs).map fun p=>(kI p.1,nD p.2)) (kI h)=getK (kvs.map fun p=>(kI p.1,nD p.2)) (kI h):=by
    simp only [getK,List.map_cons,List.find?_cons]
    rw [decide_eq_false hne]
   rw [e1]; exact ih
theorem zhP (l:List Nat) (f:Nat->Nat):(FD l f).map (·.1)=l:=by simp [FD,Function.comp_def]
theorem zg5 {l:List Nat} {f:Nat->Nat} {h:Nat} (hh:h∈l):ixA (KD (FD l f)) (nD h)=some (nD (f h)):=
 zrT (zgg (f:=f) (fun p hp=>by obtain ⟨x,_,rfl⟩:=List.mem_map.mp hp; rfl) (by rw [zhP]; exact hh))
noncomputable def putN (kvs:List (Nat × Nat)) (k v:Nat):List (Nat × Nat):=if k∈kvs.map (·.1) then kvs.map fun p=>if p.1=k then (p.1,v) else p else kvs++[(k,v)]
theorem hasN (kvs:List (Nat × Nat)) (k:Nat):((kvs.map fun p=>(kI p.1,nD p.2)).any fun kv=>decide (kv.1=kI k))=decide (k∈kvs.map (·.1)):=by
 rw [List.any_map,Bool.eq_iff_iff,List.any_eq_true,decide_eq_true_iff,List.mem_map]
 constructor
 ·rintro ⟨p,h1,h2⟩
  simp only [Function.comp_apply,decide_eq_true_eq] at h2
  exact ⟨p,h1,zmp h2⟩
 ·rintro ⟨p,h1,rfl⟩
  exact ⟨p,h1,by simp⟩
theorem zoz (kvs:List (Nat × Nat)) (k v:Nat):putD (kvs.map fun p=>(kI p.1,nD p.2)) (kI k) (nD v)=(putN kvs k v).map fun p=>(kI p.1,nD p.2):=by
 unfold putD putN
 rw [hasN]
 by_cases h:k∈kvs.map (·.1)
 ·rw [decide_eq_true h,if_pos rfl,if_pos h,List.map_map,List.map_map]
  refine List.map_congr_left fun p _=>?_
  simp only [Function.comp_apply]
  by_cases e:p.1=k
  ·rw [if_pos (by rw [e]),if_pos e]
  ·rw [if_neg (fun z=>e (zmp z)),if_neg e]
 ·rw [decide_eq_false h,if_neg Bool.false_ne_true,if_neg h,List.map_append]
  rfl
theorem zlL (kvs:List (Nat × Nat)) (k v j:Nat):j∈(putN kvs k v).map (·.1)↔j∈kvs.map (·.1)\/j=k:=by
 unfold putN
 by_cases h:k∈kvs.map (·.1)
 ·rw [if_pos h,List.map_map]
  have:((fun p:Nat × Nat=>p.1) ∘ fun p=>if p.1=k then (p.1,v) else p)=fun p=>p.1:=by
   funext p
   simp only [Function.comp_apply]
   split <;> rfl
  rw [this]
  constructor
  ·exact .inl
  ·rintro (z | rfl)
   ·exact z
   ·exact h
 ·rw [if_neg h]; simp
theorem znx {kvs:List (Nat × Nat)} {k v:Nat} {f:Nat->Nat} (h:∀p∈kvs,p.2=f p.1) (hv:v=f k):∀p∈putN kvs k v,p.2=f p.1:=by
 intro p hp
 unfold putN at hp
 split at hp
 ·obtain ⟨q,h1,rfl⟩:=List.mem_map.mp hp
  split
  ·rename_i e; simp only; rw [e]; exact hv
  ·exact h q h1
 ·rcases List.mem_append.mp hp with z | z
  ·exact h p z
  ·rw [List.mem_singleton.mp z]; exact hv
theorem zjJ {kvs:List (Nat × Nat)} {k v:Nat} (hl:kvs.length<=1000):stoD (KD kvs) (nD k) (nD v)=some (KD (putN kvs k v)):=by
 show (if (kvs.map fun p=>(kI p.1,nD p.2)).length < sizeLine then some (D.dic (putD _ (kI k) (nD v))) else none)=_
 rw [if_pos (by rw [List.length_map,sizeLine_eq]; omega),zoz]
structure GI (t:Nat->Nat) (kvs:List (Nat × Nat)) (L:List Nat):Prop where
 nd:(kvs.map (·.1)).Nodup
 val:∀p∈kvs,p.2=t p.1
 key:∀h,h∈kvs.map (·.1)↔h∈L
theorem zpy {kvs:List (Nat × Nat)} {k v:Nat} (h:(kvs.map (·.1)).Nodup):((putN kvs k v).map (·.1)).Nodup:=by
 unfold putN
 split
 ·rw [List.map_map]
  have:((fun p:Nat × Nat=>p.1) ∘ fun p=>if p.1=k then (p.1,v) else p)=fun p=>p.1:=by
   funext p
   simp only [Function.comp_apply]
   split <;> rfl
  rw [this]; exact h
 ·rename_i hk
  rw [List.map_append]
  refine List.nodup_append.mpr ⟨h,by simp,fun a ha b hb=>?_⟩
  simp at hb
  rintro rfl
  exact hk (hb ▸ ha)
theorem GI.put {t:Nat->Nat} {kvs:List (Nat × Nat)} {L:List Nat} (g:GI t kvs L) (k:Nat):GI t (putN kvs k (t k)) (L++[k]):=
 ⟨zpy g.nd,znx g.val rfl,fun h=>by rw [zlL,g.key]; simp⟩
theorem GI.len {t:Nat->Nat} {kvs:List (Nat × Nat)} {L line:List Nat} (g:GI t kvs L) (hs:∀h∈L,h∈line):kvs.length<=line.length:=by
 have:=Rg.zdi (m:=line) g.nd fun h hh=>hs h ((g.key h).mp hh)
 simpa using this
theorem GI.congr {t t':Nat->Nat} {kvs:List (Nat × Nat)} {L:List Nat} (g:GI t kvs L) (h:∀x∈L,t' x=t x):GI t' kvs L:=
 ⟨g.nd,fun p hp=>by rw [g.val p hp,h p.1 ((g.key _).mp (List.mem_map.mpr ⟨p,hp,rfl⟩))],g.key⟩
theorem GI.mem {t:Nat->Nat} {kvs:List (Nat × Nat)} {L M:List Nat} (g:GI t kvs L) (h:∀x,x∈L↔x∈M):GI t kvs M:=⟨g.nd,g.val,fun x=>(g.key x).trans (h x)⟩
theorem GI.nil (t:Nat->Nat):GI t [] []:=⟨by simp,fun _ hp=>(nomatch hp),fun h=>by simp⟩
theorem zgi {α:Type} (l:List α):l.filter (fun _=>true)=l:=List.filter_eq_self.mpr fun _ _=>rfl
noncomputable def Wr (rows:List (List Nat)) (h:Nat):List Nat:=(rows[h]?).getD []
theorem zox {rows:List (List Nat)} {h:Nat} (hh:h < rows.length):(rows.map TN)[h]? = some (TN (Wr rows h)):=by
 rw [List.getElem?_map]
 unfold Wr
 rw [List.getElem?_eq_getElem hh]; rfl
theorem zhx {kvs:List (Nat × Nat)} {k v:Nat} (h:k∉kvs.map (·.1)):putN kvs k v=kvs++[(k,v)]:=by
 unfold putN; rw [if_neg h]
end Law
end
section
namespace Law
open PySem L2 DL
end Law
end
section
namespace Law
open PySem L2 DL
noncomputable abbrev za1 (t:Nat->Nat) (h:Nat):D:=.tup [nD h,nD (t h)]
noncomputable abbrev zal (t:Nat->Nat) (ring:List Nat):D:=.tup (ring.map (za1 t))
noncomputable def zeB (t:Nat->Nat):Option (List Nat)->D
 | some ring=>zal t ring
 | none=>.non
section
variable {t f:Nat->Nat} {line:List Nat} {first:Nat} (hcl:∀h∈line,f h∈line) (hn:line.length<=60)
include hcl hn
theorem zpr:∀(j:Nat) (ring:List Nat) (hand:Nat),hand∈line->ring.length<=line.length->line.length < j + ring.length ->
  ∃ring' hand',zbM q113 zdk ze5 j [some (nD first),some (KD (FD line t)),some (KD (FD line f)),some (.lst (ring.map (za1 t))),some (nD hand)]=.nx [some (nD first),some (KD (FD line t)),some (KD (FD line f)),some (.lst (ring'.map (za1 t))),some (nD hand')] /\
   ∀k,line.length < k + ring.length->Rg.zf5 f line.length first k ring hand=if hand'=first then some ring' else none:=by
 intro j
 induction j with
 | zero=>intro ring hand _ h1 h2; omega
 | succ j ih=>
  intro ring hand hh h1 h2
  have c1:(zaB (f2 (gv 4) (gv 0) gtI)) [some (nD first),some (KD (FD line t)),some (KD (FD line f)),some (.lst (ring.map (za1 t))),some (nD hand)]=.ok (decide (first < hand)):=
   zav (zak (a:=nD hand) (b:=nD first) rfl rfl (zn7 _ _))
  have c2:(zaB (f2 (fC (zac (gv 3) lNil) lenD) (fC (zac (gv 1) lNil) lenD) ltI)) [some (nD first),some (KD (FD line t)),some (KD (FD line f)),some (.lst (ring.map (za1 t))),some (nD hand)]=.ok (decide (ring.length < line.length)):=by
   refine zav (zak (a:=nD ring.length) (b:=nD line.length) (zaS (zae rfl zah) (zbS _ _)) (zaS (zae (d:=KD (FD line t)) rfl zah) ?_) (zje _ _))
   rw [znZ,List.length_map]
  by_cases hc:first < hand/\ring.length < line.length
  ·have cq:zdk [some (nD first),some (KD (FD line t)),some (KD (FD line f)),some (.lst (ring.map (za1 t))),some (nD hand)]=.ok true:=by
    rw [decide_eq_true hc.1] at c1
    rw [decide_eq_true hc.2] at c2
    exact (zm3 c1).trans c2
   obtain ⟨ring',hand',i1,i2⟩:=ih (ring++[hand]) (f hand) (hcl hand hh) (by simp; omega) (by simp; omega)
   refine ⟨ring',hand',?_,fun k hk=>?_⟩
   ·rw [zhj cq (r':=[some (nD first),some (KD (FD line t)),some (KD (FD line f)),some (.lst ((ring++[hand]).map (za1 t))),some (nD (f hand))]) ?_]
    ·exact i1
    ·refine (zad (zeR (d:=.lst (ring.map (za1 t))) (ds:=[za1 t hand]) rfl rfl (zae (zj4 (zae (d:=nD hand) rfl (zae (zak (a:=KD (FD line t)) (b:=nD hand) rfl rfl (zg5 hh)) zah)) (by simp)) zah) (zfj (by simp; omega)))).trans ?_
     refine (zad (zat (d:=nD (f hand)) (zak (a:=KD (FD line f)) (b:=nD hand) rfl rfl (zg5 hh)))).trans ?_
     show Out.nx [_,_,_,some (D.lst (ring.map (za1 t)++[za1 t hand])),_]=_
     rw [List.map_append]; rfl
   ·cases k with
    | zero=>omega
    | succ k=>
     unfold Rg.zf5
     rw [if_pos hc]
     exact i2 k (by simp; omega)
  ·refine ⟨ring,hand,zhk ?_,fun k hk=>?_⟩
   ·by_cases hc1:first < hand
    ·rw [decide_eq_true hc1] at c1
     rw [decide_eq_false (fun z=>hc ⟨hc1,z⟩)] at c2
     exact (zm3 c1).trans c2
    ·rw [decide_eq_false hc1] at c1
     exact zqp c1
   ·cases k with
    | zero=>omega
    | succ k=>
     unfold Rg.zf5
     rw [if_neg hc]
theorem znq (hf:first∈line):zdq [nD first,KD (FD line t),KD (FD line f)]=.ok (zeB t (Rg.zeN f line.length first)):=by
 refine zaQ (B:=zew) (n:=5) ?_
 unfold zew
 have hpos:=List.length_pos_of_mem hf
 obtain ⟨ring',hand',h1,h2⟩:=zpr (t:=t) (first:=first) hcl hn 64 [first] (f first) (hcl first hf) (by show 1<=_; omega) (by simp; omega)
 refine (zad (zat (d:=.lst ([first].map (za1 t))) (zga (zae (zj4 (zae (d:=nD first) rfl (zae (zak (a:=KD (FD line t)) (b:=nD first) rfl rfl (zg5 hf)) zah)) (by simp)) zah) (by simp)))).trans ?_
 refine (zad (zat (d:=nD (f first)) (zak (a:=KD (FD line f)) (b:=nD first) rfl rfl (zg5 hf)))).trans ?_
 refine (zad h1).trans ?_
 have hr:Rg.zeN f line.length first=if hand'=first then some ring' else none:=h2 _ (by simp; omega)
 rw [hr]
 have c:=zav (zak (f:=gv 4) (f':=gv 0) (r:=[some (nD first),some (KD (FD line t)),some (KD (FD line f)),some (.lst (ring'.map (za1 t))),some (nD hand')]) (a:=nD hand') (b:=nD first) rfl rfl (ziC hand' first))
 by_cases e:hand'=first
 ·rw [decide_eq_true e] at c
  rw [if_pos e]
  exact zar (zaG ((zsf c).trans (zaS (zae (d:=.lst (ring'.map (za1 t))) rfl zah) rfl)))
 ·rw [decide_eq_false e] at c
  rw [if_neg e]
  exact zar (zaG ((zsg c).trans rfl))
end
end Law
end
section
namespace Law
open PySem L2 DL
structure Snd (rows:List (List Nat)) (owns:List (Option Nat)) (s:Rg.S):Prop where
 ok:Rg.Ok (Wr rows) (own owns) s
 inr:∀h∈s.line,h < rows.length
 ino:∀h∈s.line,h < owns.length
 wid:∀h∈s.line,(Wr rows h).length<=1000
 nl:s.line.length<=60
 nt:s.things.length<=60
section
variable {rows:List (List Nat)} {owns:List (Option Nat)} {s:Rg.S}
theorem Snd.tg (S:Snd rows owns s) {h:Nat} (hh:h∈s.line):zcI [TN (Wr rows h),LN s.things]=.ok (nD (Rg.tgt (Wr rows) s h)):=
 zns (S.ok.some_thing hh) (S.wid h hh)
theorem Snd.pts (S:Snd rows owns s) {x h:Nat} (hh:h∈s.line):zbe [OD owns,LN s.line,nD x]=.ok (nD (Rg.pt (own owns) s x)):=
 zkD S.ino (List.ne_nil_of_mem hh)
noncomputable abbrev tS (rows:List (List Nat)) (s:Rg.S):Nat->Nat:=Rg.tgt (Wr rows) s
noncomputable abbrev fS (rows:List (List Nat)) (owns:List (Option Nat)) (s:Rg.S):Nat->Nat:=Rg.nxt (Wr rows) (own owns) s
theorem zlz (S:Snd rows owns s):∀(suf pre:List Nat) (y:Option D),pre++suf=s.line ->
  ∃y',forF (ftN 6) zcV (suf.map nD) [some (WD rows),some (OD owns),some (LN s.line),some (LN s.things),some (KD (FD pre (tS rows s))),some (KD (FD pre (fS rows owns s))),y,none]
   = .nx [some (WD rows),some (OD owns),some (LN s.line),some (LN s.things),some (KD (FD s.line (tS rows s))),some (KD (FD s.line (fS rows owns s))),y',none]
 | [],pre,y,e=>⟨y,by rw [List.append_nil] at e; rw [e]; exact za3⟩
 | h::suf,pre,y,e=>by
  obtain ⟨y',ih⟩:=zlz S suf (pre++[h]) (some (nD h)) (by simpa using e)
  have hh:h∈s.line:=by rw [<-e]; simp
  have hn:=S.ok.nl
  rw [<-e] at hn
  have hk:h∉pre:=fun z=>(List.nodup_append.mp hn).2.2 h z h List.mem_cons_self rfl
  have hpl:pre.length<=1000:=by
   have:=S.nl
   rw [<-e] at this; simp at this; omega
  refine ⟨y',?_⟩
  rw [<-ih]
  refine zbh (r1:=[some (WD rows),some (OD owns),some (LN s.line),some (LN s.things),some (KD (FD pre (tS rows s))),some (KD (FD pre (fS rows owns s))),some (nD h),none]) rfl ?_
  have c1:stoD (KD (FD pre (tS rows s))) (nD h) (nD (tS rows s h))=some (KD (FD (pre++[h]) (tS rows s))):=by
   rw [zjJ (by simpa using hpl),zhx (by rw [zhP]; exact hk)]
   unfold FD; rw [List.map_append]; rfl
  have c2:stoD (KD (FD pre (fS rows owns s))) (nD h) (nD (fS rows owns s h))=some (KD (FD (pre++[h]) (fS rows owns s))):=by
   rw [zjJ (by simpa using hpl),zhx (by rw [zhP]; exact hk)]
   unfold FD; rw [List.map_append]; rfl
  refine (zad (zig (d:=KD (FD pre (tS rows s))) (k:=nD h) (v:=nD (tS rows s h)) rfl (zam (zae (zak (a:=WD rows) (b:=nD h) rfl rfl (zjj (zox (S.inr h hh)))) (zae (d:=LN s.things) rfl zah)) (S.tg hh)) rfl c1)).trans ?_
  refine (zad (zig (d:=KD (FD pre (fS rows owns s))) (k:=nD h) (v:=nD (fS rows owns s h)) rfl (zam (zae (d:=OD owns) rfl (zae (d:=LN s.line) rfl (zae (zak (a:=KD (FD (pre++[h]) (tS rows s))) (b:=nD h) rfl rfl (zg5 (by simp))) zah))) (S.pts hh)) rfl c2)).trans ?_
  rfl
theorem zjq {α:Type} (t:Nat->Nat) (f:α->Option (List Nat)):∀(l:List α),(((l.map f).filter Option.isSome).map (zeB t))=(l.filterMap f).map (zal t)
 | []=>rfl
 | a::l=>by
  rw [List.map_cons,List.filter_cons,List.filterMap_cons]
  cases e:f a with
  | none=>simpa using zjq t f l
  | some r=>simpa [zeB] using zjq t f l
theorem zjm (t:Nat->Nat) (h:Nat):zfy (za1 t h)=some [(h:Int),(t h:Int)]:=rfl
theorem zjH (t:Nat->Nat):∀(ring:List Nat),zgE (ring.map (za1 t))=some (ring.map fun h:Nat=>[(h:Int),(t h:Int)])
 | []=>rfl
 | h::ring=>by
  show (zfy (za1 t h)).bind _=_
  rw [zjm,zjH t ring]; rfl
theorem zid (t:Nat->Nat):∀(rs:List (List Nat)),(∀r∈rs,r≠[])->∃kss,zfv (rs.map (zal t))=some kss
 | [],_=>⟨[],rfl⟩
 | r::rs,h=>by
  obtain ⟨kss,e⟩:=zid t rs fun x hx=>h x (List.mem_cons_of_mem _ hx)
  have hr:=h r List.mem_cons_self
  cases r with
  | nil=>exact absurd rfl hr
  | cons a r=>
   refine ⟨((a::r).map fun h:Nat=>[(h:Int),(t h:Int)])::kss,?_⟩
   show (zgE ((a::r).map (za1 t))).bind _=_
   rw [zjH,e]; rfl
theorem zku (t:Nat->Nat) (rs:List (List Nat)) (h:∀r∈rs,r≠[]) (hl:rs.length < 64):∃rs':List (List Nat),rs'.Perm rs/\zh4 [.lst (rs.map (zal t))]=some (.lst (rs'.map (zal t))):=by
 obtain ⟨kss,e⟩:=zid t rs h
 refine ⟨(zgF (rs.map (zal t)).length fun i j=>lexR (kss.getD i []) (kss.getD j [])).map fun i=>rs.getD i [],?_,?_⟩
 ·have:=(zfa (rs.map (zal t)).length fun i j=>lexR (kss.getD i []) (kss.getD j [])).map fun i=>rs.getD i []
  refine this.trans ?_
  rw [List.length_map]
  have e2:(List.range rs.length).map (fun i=>rs.getD i [])=rs:=by
   refine List.ext_getElem? fun i=>?_
   rw [List.getElem?_map]
   by_cases hi:i < rs.length
   ·rw [List.getElem?_range hi]; simp [List.getElem?_eq_getElem hi]
   ·rw [List.getElem?_eq_none (by simp; omega),List.getElem?_eq_none (by omega)]; rfl
  rw [e2]
 ·show (zfv (rs.map (zal t))).bind _=_
  rw [e]
  show (if _ then _ else _)=_
  rw [if_pos (by rw [List.length_map]; exact hl)]
  unfold zh3
  rw [List.map_map]
  congr 2
  refine List.map_congr_left fun i hi=>?_
  have hi:=zfY hi
  rw [List.length_map] at hi
  simp [List.getD,List.getElem?_eq_getElem hi]
theorem zic {W:Nat->List Nat} {O:Nat->Option Nat}:∀r∈Rg.zf7 W O s,r≠[]:=by
 intro r hr
 obtain ⟨x,_,h2⟩:=List.mem_filterMap.mp hr
 exact Rg.zlD h2
theorem zn3 (t:Nat->Nat) (o:Option (List Nat)):isnD (zeB t o) .non=some (.bl o.isSome):=by cases o <;> rfl
theorem zlr (S:Snd rows owns s):∃rs:List (List Nat),rs.Perm (Rg.zf7 (Wr rows) (own owns) s)/\zh4 [.lst ((Rg.zf7 (Wr rows) (own owns) s).map (zal (tS rows s)))]=some (.lst (rs.map (zal (tS rows s))))/\zbi [WD rows,OD owns,LN s.line,LN s.things]=.ok (.lst (rs.map (zal (tS rows s)))):=by
 obtain ⟨y',hloop⟩:=zlz S s.line [] none rfl
 have hcl:∀h∈s.line,fS rows owns s h∈s.line:=fun h hh=>Rg.zhE (List.ne_nil_of_mem hh)
 have hlen:(Rg.zf7 (Wr rows) (own owns) s).length<=s.line.length:=List.length_filterMap_le _ _
 obtain ⟨rs',hp,hs⟩:=zku (tS rows s) (Rg.zf7 (Wr rows) (own owns) s) zic (by have:=S.nl; omega)
 refine ⟨rs',hp,hs,zaQ (B:=zcj) (n:=8) ?_⟩
 unfold zcj
 refine (zad (r':=[some (WD rows),some (OD owns),some (LN s.line),some (LN s.things),some (KD (FD [] (tS rows s))),none,none,none]) rfl).trans ?_
 refine (zad (r':=[some (WD rows),some (OD owns),some (LN s.line),some (LN s.things),some (KD (FD [] (tS rows s))),some (KD (FD [] (fS rows owns s))),none,none]) rfl).trans ?_
 refine (zad ((zaI (ds:=s.line.map nD) rfl).trans hloop)).trans ?_
 refine (zad (zat (zeo (l:=s.line) nD (fun _=>true) (fun h=>zeB (tS rows s) (Rg.zeN (fS rows owns s) s.line.length h)) rfl (by have:=S.nl; omega) fun h hh=>⟨[some (nD h),some (KD (FD s.line (tS rows s))),some (KD (FD s.line (fS rows owns s)))],rfl,rfl,fun _=>zam (zae (d:=nD h) rfl (zae (d:=KD (FD s.line (tS rows s))) rfl (zae (d:=KD (FD s.line (fS rows owns s))) rfl zah))) (znq hcl S.nl hh)⟩))).trans ?_
 rw [zgi]
 refine zar (zaG (zaS (zae (zeo (l:=s.line.map (Rg.zeN (fS rows owns s) s.line.length)) (zeB (tS rows s)) Option.isSome (zeB (tS rows s)) ?_ (by have:=S.nl; simp; omega) fun o _=>⟨[some (zeB (tS rows s) o)],rfl,zav (zak (a:=zeB (tS rows s) o) (b:=.non) rfl rfl (zn3 _ _)),fun _=>rfl⟩) zah) ?_))
 ·rw [List.map_map]; rfl
 ·rw [zjq]; exact hs
theorem zr5 {t:Nat->Nat} {line:List Nat} (hl:line.length<=60) (rg d:D):∀(ring L:List Nat) (kvs:List (Nat × Nat)) (x y:Option D),GI t kvs L->(∀h∈L++ring,h∈line) ->
  ∃kvs' x' y',GI t kvs' (L++ring)/\forF (ftT (zau (ftN 3) (zau (ftN 4) zcf))) zhi (ring.map (za1 t)) [some rg,some (KD kvs),some d,x,y]=.nx [some rg,some (KD kvs'),some d,x',y']
 | [],L,kvs,x,y,g,hs=>⟨kvs,x,y,by rw [List.append_nil]; exact g,za3⟩
 | h::ring,L,kvs,x,y,g,hs=>by
  obtain ⟨kvs',x',y',g',ih⟩:=zr5 hl rg d ring (L++[h]) (putN kvs h (t h)) (some (nD h)) (some (nD (t h))) (g.put h) (by simpa using hs)
  refine ⟨kvs',x',y',by simpa using g',?_⟩
  rw [<-ih]
  have hk:=g.len (line:=line) fun x hx=>hs x (List.mem_append_left _ hx)
  exact zbh (r1:=[some rg,some (KD kvs),some d,some (nD h),some (nD (t h))]) rfl (zad (zig (d:=KD kvs) (k:=nD h) (v:=nD (t h)) rfl rfl rfl (zjJ (by omega))))
theorem zoR {t:Nat->Nat} {line:List Nat} (hl:line.length<=60) (rg:D):∀(rs:List (List Nat)) (L:List Nat) (kvs:List (Nat × Nat)) (z x y:Option D),GI t kvs L->(∀h∈L++rs.flatten,h∈line) ->
  ∃kvs' z' x' y',GI t kvs' (L++rs.flatten)/\forF (ftN 2) zhh (rs.map (zal t)) [some rg,some (KD kvs),z,x,y]=.nx [some rg,some (KD kvs'),z',x',y']
 | [],L,kvs,z,x,y,g,hs=>⟨kvs,z,x,y,by simpa using g,za3⟩
 | r::rs,L,kvs,z,x,y,g,hs=>by
  obtain ⟨kvs1,x1,y1,g1,h1⟩:=zr5 hl rg (zal t r) r L kvs x y g fun h hh=>hs h (by
   rw [List.flatten_cons]
   rcases List.mem_append.mp hh with q | q
   ·exact List.mem_append_left _ q
   ·exact List.mem_append_right _ (List.mem_append_left _ q))
  obtain ⟨kvs',z',x',y',g',ih⟩:=zoR hl rg rs (L++r) kvs1 (some (zal t r)) x1 y1 g1 (by rw [List.append_assoc]; simpa using hs)
  refine ⟨kvs',z',x',y',by rw [List.append_assoc] at g'; simpa using g',?_⟩
  rw [<-ih]
  exact zbh (r1:=[some rg,some (KD kvs),some (zal t r),x,y]) rfl (zad ((zaI (ds:=r.map (za1 t)) rfl).trans h1))
theorem zpn {t:Nat->Nat} {line:List Nat} {rs:List (List Nat)} (hl:line.length<=60) (hs:∀h∈rs.flatten,h∈line):∃kvs,GI t kvs rs.flatten/\ze7 [.lst (rs.map (zal t))]=.ok (KD kvs):=by
 obtain ⟨kvs',z',x',y',g',h⟩:=zoR hl (.lst (rs.map (zal t))) rs [] [] none none none ⟨by simp,fun _ hp=>(nomatch hp),fun h=>by simp⟩ (by simpa using hs)
 refine ⟨kvs',by simpa using g',zaQ (B:=zhW) (n:=5) ?_⟩
 unfold zhW
 refine (zad (r':=[some (.lst (rs.map (zal t))),some (KD []),none,none,none]) rfl).trans ?_
 refine (zad ((zaI (ds:=rs.map (zal t)) rfl).trans h)).trans ?_
 exact zar (zaG (d:=KD kvs') rfl)
end
end Law
end
section
namespace Law
open PySem L2 DL
section
variable {rows:List (List Nat)} {owns:List (Option Nat)}
inductive Ch (rows:List (List Nat)) (owns:List (Option Nat)):Rg.S->List (List (List Nat) × Rg.S)->Prop where
 | nil {s:Rg.S}:s.line=[]->Ch rows owns s []
 | cons {s:Rg.S} {rs:List (List Nat)} {l:List (List (List Nat) × Rg.S)}:s.line≠[]->zh4 [.lst ((Rg.zf7 (Wr rows) (own owns) s).map (zal (tS rows s)))]=some (.lst (rs.map (zal (tS rows s))))->rs.Perm (Rg.zf7 (Wr rows) (own owns) s)->Ch rows owns (Rg.minus (Wr rows) s rs.flatten) l->Ch rows owns s ((rs,s)::l)
noncomputable abbrev zaC (rows:List (List Nat)) (p:List (List Nat) × Rg.S):D:=.lst (p.1.map (zal (tS rows p.2)))
theorem zd5 {s:Rg.S} {rs:List (List Nat)} (hp:rs.Perm (Rg.zf7 (Wr rows) (own owns) s)):Rg.Cyc (Wr rows) (own owns) s rs.flatten:=
 Rg.zlB (fun h hh=>by obtain ⟨r,h1,h2⟩:=List.mem_flatten.mp hh; exact ⟨r,hp.mem_iff.mp h1,h2⟩) (fun r hr h hh=>List.mem_flatten.mpr ⟨r,hp.mem_iff.mpr hr,hh⟩)
theorem Snd.minus {s:Rg.S} (S:Snd rows owns s) {C:List Nat} (c:Rg.Cyc (Wr rows) (own owns) s C):Snd rows owns (Rg.minus (Wr rows) s C) where
 ok:=Rg.zhF S.ok c
 inr:=fun h hh=>S.inr h (List.mem_filter.mp hh).1
 ino:=fun h hh=>S.ino h (List.mem_filter.mp hh).1
 wid:=fun h hh=>S.wid h (List.mem_filter.mp hh).1
 nl:=Nat.le_trans (List.length_filter_le _ _) S.nl
 nt:=Nat.le_trans (List.length_filter_le _ _) S.nt
theorem zj5 {s:Rg.S} {C:List Nat} (c:Rg.Cyc (Wr rows) (own owns) s C) (hne:C≠[]):(Rg.minus (Wr rows) s C).line.length < s.line.length:=by
 obtain ⟨x,hx⟩:=List.exists_mem_of_ne_nil _ hne
 have:=Rg.zdO (fun h=>decide (h∉C)) s.line
 have h3:0 < (s.line.filter fun h=>! decide (h∉C)).length:=List.length_pos_of_mem (List.mem_filter.mpr ⟨c.sub x hx,by simpa using hx⟩)
 show (s.line.filter _).length < _
 omega
theorem zfw {s:Rg.S} {rs:List (List Nat)} (hp:rs.Perm (Rg.zf7 (Wr rows) (own owns) s)) (hne:s.line≠[]):rs.flatten≠[]:=by
 obtain ⟨x,hx⟩:=List.exists_mem_of_ne_nil _ (Rg.zmA (W:=Wr rows) (O:=own owns) hne)
 obtain ⟨r,h1,h2⟩:=List.mem_flatten.mp hx
 exact List.ne_nil_of_mem (List.mem_flatten.mpr ⟨r,hp.mem_iff.mpr h1,h2⟩)
theorem zs9 {kvs:List (Nat × Nat)} {L:List Nat} {t:Nat->Nat} (g:GI t kvs L) (h:Nat):ninD (nD h) (KD kvs)=some (.bl (decide (h∉L))):=by
 show (some (hasK _ (kI h))).map (fun b=>D.bl (! b))=_
 have e:hasK (kvs.map fun p=>(kI p.1,nD p.2)) (kI h)=decide (h∈kvs.map (·.1)):=hasN kvs h
 rw [e]
 have:decide (h∈kvs.map (·.1))=decide (h∈L):=by rw [decide_eq_decide]; exact g.key h
 rw [this]
 show some (D.bl (! decide (h∈L)))=_
 rw [decide_not]
theorem GI.vals {kvs:List (Nat × Nat)} {L:List Nat} {t:Nat->Nat} (g:GI t kvs L) (x:Nat):x∈kvs.map (·.2)↔x∈L.map t:=by
 constructor
 ·intro hx
  obtain ⟨p,h1,rfl⟩:=List.mem_map.mp hx
  exact List.mem_map.mpr ⟨p.1,(g.key _).mp (List.mem_map.mpr ⟨p,h1,rfl⟩),(g.val p h1).symm⟩
 ·intro hx
  obtain ⟨h,h1,rfl⟩:=List.mem_map.mp hx
  obtain ⟨p,h2,rfl⟩:=List.mem_map.mp ((g.key h).mpr h1)
  exact List.mem_map.mpr ⟨p,h2,g.val p h2⟩
theorem zs8 {kvs:List (Nat × Nat)} {L:List Nat} {t:Nat->Nat} (g:GI t kvs L) (x:Nat):ninD (nD x) (LN (kvs.map (·.2)))=some (.bl (decide (x∉L.map t))):=by
 rw [zl8,decide_not]
 congr 3
 rw [decide_eq_decide]; exact g.vals x
theorem zps (od:D):∀(j:Nat) (s:Rg.S) (told:List D) (x y z:Option D),Snd rows owns s->s.line.length < j->told.length + s.line.length<=60 ->
  ∃(s':Rg.S) (l:List (List (List Nat) × Rg.S)) (x' y' z':Option D),Ch rows owns s l/\l.length<=s.line.length /\
   zbM q111 zha zhg j [some (WD rows),some (OD owns),some od,some (LN s.line),some (LN s.things),some (.lst told),x,y,z]
    = .nx [some (WD rows),some (OD owns),some od,some (LN s'.line),some (LN s'.things),some (.lst (told++l.map (zaC rows))),x',y',z']:=by
 intro j
 induction j with
 | zero=>intro s told x y z _ h; omega
 | succ j ih=>
  intro s told x y z S hj ht
  by_cases hne:s.line=[]
  ·refine ⟨s,[],x,y,z,.nil hne,Nat.zero_le _,?_⟩
   rw [List.map_nil,List.append_nil]
   refine zhk (zbj (d:=LN s.line) rfl ?_)
   rw [hne]; rfl
  ·obtain ⟨rs,hp,hs,hr⟩:=zlr S
   have c:=zd5 hp
   obtain ⟨kvs,g,hg⟩:=zpn (t:=tS rows s) S.nl c.sub
   have hlt:=zj5 c (zfw hp hne)
   obtain ⟨s',l,x',y',z',h1,h2,h3⟩:=ih (Rg.minus (Wr rows) s rs.flatten) (told++[zaC rows (rs,s)]) (some (zaC rows (rs,s))) (some (KD kvs)) (some (LN (kvs.map (·.2)))) (S.minus c) (by omega) (by simp; omega)
   refine ⟨s',(rs,s)::l,x',y',z',.cons hne hs hp h1,by simp; omega,?_⟩
   rw [List.append_assoc] at h3
   rw [List.map_cons]
   refine Eq.trans (zhj (zbj (b:=true) (d:=LN s.line) rfl ?_) ?_) h3
   ·cases q:s.line with
    | nil=>exact absurd q hne
    | cons a t=>rfl
   ·refine (zad (zat (zam (zae (d:=WD rows) rfl (zae (d:=OD owns) rfl (zae (d:=LN s.line) rfl (zae (d:=LN s.things) rfl zah)))) hr))).trans ?_
    refine (zad (zat (zam (zae (d:=.lst (rs.map (zal (tS rows s)))) rfl zah) hg))).trans ?_
    refine (zad (zat (d:=LN (kvs.map (·.2))) (zoa (a:=KD kvs) rfl ?_))).trans ?_
    ·rw [e_valsD,List.map_map]; show some (D.lst _)=some (D.lst ((kvs.map (·.2)).map nD)); rw [List.map_map]; rfl
    refine (zad (zat (zeo (l:=s.line) nD (fun h=>decide (h∉rs.flatten)) nD rfl (by have:=S.nl; omega) fun h hh=>⟨[some (nD h),some (KD kvs)],rfl,zav (zak (a:=nD h) (b:=KD kvs) rfl rfl (zs9 g h)),fun _=>rfl⟩))).trans ?_
    refine (zad (zat (zeo (l:=s.things) nD (fun x=>decide (x∉rs.flatten.map (tS rows s))) nD rfl (by have:=S.nt; omega) fun h hh=>⟨[some (nD h),some (LN (kvs.map (·.2)))],rfl,zav (zak (a:=nD h) (b:=LN (kvs.map (·.2))) rfl rfl (zs8 g h)),fun _=>rfl⟩))).trans ?_
    refine (zad (zeR (d:=.lst told) (ds:=[zaC rows (rs,s)]) rfl rfl (zae (d:=zaC rows (rs,s)) rfl zah) (zfj (by omega)))).trans ?_
    rfl
noncomputable def ordD:Option (List Nat)->D
 | none=>.non
 | some l=>LN l
noncomputable def s0 (rows:List (List Nat)) (o:Option (List Nat)):Rg.S:=⟨o.getD (List.range rows.length),List.range (rows.headD []).length⟩
theorem zkE {o:Option (List Nat)} (ho:∀l,o=some l->l.Nodup/\(∀k∈l,k < rows.length)/\l.length=rows.length) (h8:rows.length<=60):zb0 [WD rows,ordD o]=.ok (LN (s0 rows o).line):=by
 cases o with
 | none=>exact zgJ (by omega)
 | some l=>
  obtain ⟨h1,h2,h3⟩:=ho l rfl
  exact zlu h1 h2 h3 (by omega)
theorem zkC {o:Option (List Nat)} (ho:∀l,o=some l->l.Nodup/\(∀k∈l,k < rows.length)/\l.length=rows.length) (hr:rows≠[]) (h8:rows.length<=60) (S:Snd rows owns (s0 rows o)) :
  ∃l,Ch rows owns (s0 rows o) l/\l.length<=60/\zcY [WD rows,OD owns,ordD o]=.ok (.lst (l.map (zaC rows))):=by
 obtain ⟨s',l,x',y',z',h1,h2,h3⟩:=zps (rows:=rows) (owns:=owns) (ordD o) 64 (s0 rows o) [] none none none S (by have:=S.nl; omega) (by have:=S.nl; simp; omega)
 refine ⟨l,h1,by have:=S.nl; omega,zaQ (B:=ze8) (n:=9) ?_⟩
 unfold ze8
 cases rows with
 | nil=>exact absurd rfl hr
 | cons row rest=>
  refine (zad (zat (zam (zae (d:=WD (row::rest)) rfl (zae (d:=ordD o) rfl zah)) (zkE ho h8)))).trans ?_
  refine (zad (zat (d:=LN (s0 (row::rest) o).things) (zaS (zae (zam (zae (d:=WD (row::rest)) rfl zah) zgT) zah) (zjf (by have:=S.nt; unfold s0 at this; simp at this; omega))))).trans ?_
  refine (zad (zat (d:=.lst []) (zga zah (by simp)))).trans ?_
  refine (zad h3).trans ?_
  exact zar (zaG (d:=.lst (l.map (zaC (row::rest)))) rfl)
theorem zjd:∀(more kvs:List (Nat × Nat)),zgZ (kvs.map fun p=>(kI p.1,nD p.2)) (more.map fun p=>(kI p.1,nD p.2))=(more.foldl (fun acc p=>putN acc p.1 p.2) kvs).map fun p=>(kI p.1,nD p.2)
 | [],kvs=>rfl
 | p::more,kvs=>by
  have ih:=zjd more (putN kvs p.1 p.2)
  rw [List.foldl_cons,<-ih,<-zoz]; rfl
theorem zhG {t:Nat->Nat}:∀(more kvs:List (Nat × Nat)) (L:List Nat),GI t kvs L->(∀p∈more,p.2=t p.1)->GI t (more.foldl (fun acc p=>putN acc p.1 p.2) kvs) (L++more.map (·.1))
 | [],kvs,L,g,_=>by simpa using g
 | p::more,kvs,L,g,h=>by
  have:=zhG more (putN kvs p.1 p.2) (L++[p.1]) (by rw [h p List.mem_cons_self]; exact g.put p.1) fun q hq=>h q (List.mem_cons_of_mem _ hq)
  rw [List.append_assoc] at this
  exact this
theorem zqn {a:Nat->Nat} {s:Rg.S} {l:List (List (List Nat) × Rg.S)} (c:Ch rows owns s l):Rg.Ok (Wr rows) (own owns) s->Rg.TTC (Wr rows) (own owns) a s->(∀p∈l,∀h∈p.1.flatten,a h=tS rows p.2 h/\h∈s.line)/\∀h∈s.line,∃p∈l,h∈p.1.flatten:=by
 induction c with
 | nil h0=>exact fun _ _=>⟨fun _ hp=>(nomatch hp),fun h hh=>by rw [h0] at hh; cases hh⟩
 | @cons s rs l hne hs hp c ih=>
  intro k t
  have cy:=zd5 hp
  obtain ⟨t1,t2⟩:=Rg.zsz t k cy
  obtain ⟨i1,i2⟩:=ih (Rg.zhF k cy) t1
  refine ⟨fun p hp' h hh=>?_,fun h hh=>?_⟩
  ·rcases List.mem_cons.mp hp' with rfl | q
   ·exact ⟨t2 h hh,cy.sub h hh⟩
   ·exact ⟨(i1 p q h hh).1,(List.mem_filter.mp (i1 p q h hh).2).1⟩
  ·by_cases hc:h∈rs.flatten
   ·exact ⟨(rs,s),List.mem_cons_self,hc⟩
   ·obtain ⟨p,h1,h2⟩:=i2 h (List.mem_filter.mpr ⟨hh,by simpa using hc⟩)
    exact ⟨p,List.mem_cons_of_mem _ h1,h2⟩
end
end Law
end
section
namespace Law
open PySem L2 DL
theorem zei {a b:Nat} (h:0 < b):modI (nD a) (nD b)=some (nD (a % b)):=by
 rw [zmf (by omega:(0:Int) < (b:Int))]
 show some (D.int _)=some (D.int _)
 rw [Int.natCast_emod]
theorem zgj {a b:Nat} (h:0 < b) (h2:b < 1000):zhO (nD a) (nD b)=some (nD (a / b)):=by
 rw [zn9 (⟨by omega,by omega⟩:CDiv (a:Int) (b:Int))]
 show some (D.int _)=some (D.int _)
 rw [Int.natCast_ediv]
theorem zg9 (a b:Nat):addA (nD a) (nD b)=some (nD (a + b)):=by
 rw [addA_int]
 show some (D.int _)=some (D.int _)
 rw [Int.natCast_add]
section
variable {f f':FE} {r:Rho}
theorem zk1 {b:Int} (h:∃i:Int,f r=.ok (.int i)) (h':f' r=.ok (.int b)) (hb:0 < b):∃c:Nat,f2 f f' modI r=.ok (nD c):=by
 obtain ⟨i,hi⟩:=h
 refine ⟨(i % b).toNat,zak hi h' ?_⟩
 rw [zmf hb]
 show some (D.int _)=some (D.int _)
 rw [Int.toNat_of_nonneg (Int.emod_nonneg _ (by omega))]
theorem exN (h:∃c:Nat,f r=.ok (nD c)):∃i:Int,f r=.ok (.int i):=let ⟨c,e⟩:=h; ⟨c,e⟩
theorem zgl {b:Int} (h:∃i:Int,f r=.ok (.int i)) (h':f' r=.ok (.int b)) (hb : -(2 ^ 64) < b/\b < 2 ^ 64):∃i:Int,f2 f f' mulI r=.ok (.int i):=by
 obtain ⟨i,hi⟩:=h
 exact ⟨i * b,zak hi h' (zpZ (.inr hb))⟩
theorem zob (h:∃i:Int,f r=.ok (.int i)) (h':∃i:Int,f' r=.ok (.int i)):∃i:Int,f2 f f' addA r=.ok (.int i):=by
 obtain ⟨i,hi⟩:=h
 obtain ⟨j,hj⟩:=h'
 exact ⟨i + j,zak hi hj rfl⟩
end
theorem zsh {m:List Md} {i:Nat} {f:FE} {s2:FS} {r:Rho} (h:∃c:Nat,f r=.ok (nD c)) (k:∀c:Nat,∃d:Nat,s2 (r.set i (some (nD c)))=.rt (nD d)):∃d:Nat,seqF (setF m i f) s2 r=.rt (nD d):=by
 obtain ⟨c,hc⟩:=h
 obtain ⟨d,hd⟩:=k c
 exact ⟨d,(zad (zat hc)).trans hd⟩
noncomputable abbrev IN (ns:List Int):D:=.lst (ns.map .int)
theorem zeM (ns:List Int) (k:Nat) (hk:k<=1000):∃c:Nat,za4 [IN ns,nD k]=.ok (nD c):=by
 suffices h:∃c:Nat,zdx (zas 4 [IN ns,nD k])=.rt (nD c) by
  obtain ⟨c,hc⟩:=h
  exact ⟨c,zaQ (B:=zdx) (n:=4) hc⟩
 unfold zdx
 have st:seqF (setF q103 2 (ci 0))=seqF (setF q103 2 (fun _=>Res.ok (nD 0))):=rfl
 rw [st]
 refine zsh ⟨0,rfl⟩ fun c1=>?_
 show ∃d:Nat,seqF _ _ [some (IN ns),some (nD k),some (nD c1),none]=_
 have key:∃c2:Nat,(ifF q103 (zaB (f2 (gv 1) (fC (zac (gv 0) lNil) lenD) ltI)) (seqF (setF q103 2 (f2 (f2 (gv 0) (gv 1) ixA) (f2 (ci 10) (ci 60) powI) modI)) zaj) zaj) [some (IN ns),some (nD k),some (nD c1),none]=.nx [some (IN ns),some (nD k),some (nD c2),none]:=by
  have t:=zav (zak (f:=gv 1) (r:=[some (IN ns),some (nD k),some (nD c1),none]) (a:=nD k) rfl (zaS (zae (f:=gv 0) (d:=IN ns) rfl zah) (zbS _ _)) (zje k ns.length))
  by_cases hlt:k < ns.length
  ·rw [decide_eq_true hlt] at t
   have hx:(ns.map D.int)[k]? = some (.int ns[k]):=by rw [List.getElem?_map,List.getElem?_eq_getElem hlt]; rfl
   have hp:powI (.int 10) (.int 60)=some (.int (10 ^ 60)):=by
    show zix CPow _ _ _=_
    rw [intsC_int,if_pos (by unfold CPow; decide)]
    rfl
   obtain ⟨c2,h2⟩:=zk1 (f:=f2 (gv 0) (gv 1) ixA) (f':=f2 (ci 10) (ci 60) powI) (r:=[some (IN ns),some (nD k),some (nD c1),none]) ⟨ns[k],zak (a:=IN ns) (b:=nD k) rfl rfl (zn2 hx)⟩ (zak rfl rfl hp) (by decide)
   exact ⟨c2,(if_t t).trans ((zad (zat h2)).trans rfl)⟩
  ·rw [decide_eq_false hlt] at t
   exact ⟨c1,(if_f t).trans rfl⟩
 obtain ⟨c2,h2⟩:=key
 rw [zad h2]
 have kq:∃b,(fAnd (zaB (f2 (fC (zac (gv 0) lNil) lenD) (ci 0) gtI)) (zaB (f2 (f2 (f2 (gv 0) (ci 0) ixA) (ci 2) modI) (ci 0) eqD))) [some (IN ns),some (nD k),some (nD c2),none]=.ok b:=by
  have t:=zav (zak (f:=fC (zac (gv 0) lNil) lenD) (f':=fun _=>Res.ok (D.int 0)) (r:=[some (IN ns),some (nD k),some (nD c2),none]) (b:=nD 0) (zaS (zae (d:=IN ns) rfl zah) (zbS _ _)) rfl (zn7 ns.length 0))
  cases ns with
  | nil=>exact ⟨false,zqp t⟩
  | cons a ns=>
   rw [decide_eq_true (by simp)] at t
   obtain ⟨c3,h3⟩:=zk1 (f:=f2 (gv 0) (ci 0) ixA) (f':=fun _=>Res.ok (D.int 2)) (r:=[some (IN (a::ns)),some (nD k),some (nD c2),none]) ⟨a,zak (a:=IN (a::ns)) (b:=.int 0) rfl rfl (ixA_L0 _ _)⟩ rfl (by decide)
   exact ⟨_,(zm3 t).trans (zav (zak h3 (b:=nD 0) rfl (ziC c3 0)))⟩
 obtain ⟨b,hb⟩:=kq
 cases b with
 | true=>exact ⟨c2,zar ((if_t hb).trans (zar (zaG (d:=nD c2) rfl)))⟩
 | false=>
  rw [zad ((if_f (s2:=zaj) hb).trans (e_skip _))]
  refine zsh (zk1 (zgl (exN (zk1 (zgl (zob (zob (zob ⟨(c2:Int),rfl⟩ (zgl (b:=(k:Int)) (zgl (b:=(k:Int)) ⟨7,rfl⟩ rfl (by omega)) rfl (by omega))) (zgl (b:=(k:Int)) ⟨13,rfl⟩ rfl (by omega))) ⟨5,rfl⟩) rfl (by decide)) rfl (by decide))) rfl (by decide)) rfl (by decide)) fun c3=>?_
  obtain ⟨c4,h4⟩:=zk1 (f:=(f2 (f2 (f2 (f2 (gv 3) (ci 1) addA) (ci 40692) mulI) (ci 2147483629) modI) (ci 39373) mulI)) (f':=fun _=>Res.ok (D.int 999999937)) (r:=[some (IN ns),some (nD k),some (nD c2),some (nD c3)]) (zgl (exN (zk1 (zgl (zob ⟨(c3:Int),rfl⟩ ⟨1,rfl⟩) rfl (by decide)) rfl (by decide))) rfl (by decide)) rfl (by decide)
  exact ⟨c4,zar (zaG h4)⟩
theorem zn4 {row:List Nat} {i:Int} {x:Nat}:insL (row.map nD) i (nD x)=(insL row i x).map nD:=by
 unfold insL
 rw [List.length_map,List.map_append,List.map_cons,List.map_take,List.map_drop]
theorem zmu {row:List Nat} {i:Int} {x:Nat}:(insL row i x).Perm (x::row):=by
 unfold insL
 refine List.perm_middle.trans ?_
 rw [List.take_append_drop]
theorem zjS (m:Nat):∀(j i c:Nat) (row:List Nat) (x:Option D),row.Perm (List.range i)->i + j<=60 ->
  ∃(c':Nat) (row':List Nat) (x':Option D),row'.Perm (List.range (i + j))/\forF (ftN 3) zfE ((List.range' i j).map nD) [some (nD c),some (nD m),some (LN row),x]=.nx [some (nD c'),some (nD m),some (LN row'),x']
 | 0,i,c,row,x,hp,_=>⟨c,row,x,hp,za3⟩
 | j + 1,i,c,row,x,hp,hl=>by
  have hlen:row.length=i:=by rw [hp.length_eq]; simp
  obtain ⟨c',row',x',h1,h2⟩:=zjS m j (i + 1) (c / (i + 1)) (insL row ((c % (i + 1):Nat):Int) i) (some (nD i)) (by
   refine zmu.trans ?_
   rw [List.range_succ]
   exact (List.Perm.cons i hp).trans (List.perm_append_singleton i _).symm) (by omega)
  refine ⟨c',row',x',by rw [show i + (j + 1)=i + 1 + j by omega]; exact h1,?_⟩
  rw [<-h2]
  have hmod:c % (i + 1) < i + 1:=Nat.mod_lt _ (by omega)
  refine zbh (r1:=[some (nD c),some (nD m),some (LN row),some (nD i)]) rfl ?_
  refine (zad (zeR (d:=LN row) (ds:=[nD (c % (i + 1)),nD i]) (d':=LN (insL row ((c % (i + 1):Nat):Int) i)) rfl rfl (zae (zak (a:=nD c) (b:=nD (i + 1)) rfl (zak (a:=nD i) (b:=nD 1) rfl rfl (zg9 i 1)) (zei (by omega))) (zae (d:=nD i) rfl zah)) ?_)).trans ?_
  ·show (if _ then some (D.lst (insL _ _ _)) else none)=_
   rw [if_pos ⟨by rw [List.length_map,sizeLine_eq]; omega,by omega,by omega⟩,zn4]
  ·exact zad (zat (d:=nD (c / (i + 1))) (zak (a:=nD c) (b:=nD (i + 1)) rfl (zak (a:=nD i) (b:=nD 1) rfl rfl (zg9 i 1)) (zgj (by omega) (by omega))))
theorem zi1 (c m:Nat) (hm:m<=60):∃row:List Nat,row.Perm (List.range m)/\zbx [nD c,nD m]=.ok (TN row):=by
 obtain ⟨c',row',x',h1,h2⟩:=zjS m m 0 c [] none (by simp) (by omega)
 rw [Nat.zero_add] at h1
 rw [<-List.range_eq_range'] at h2
 refine ⟨row',h1,zaQ (B:=zfm) (n:=4) ?_⟩
 unfold zfm
 refine (zad (zat (d:=LN []) (zga zah (by simp)))).trans ?_
 refine (zad ((zaI (ds:=(List.range m).map nD) (zgk (zae (d:=nD m) rfl zah) (zib (by omega)))).trans h2)).trans ?_
 exact zar (zaG (zaS (zae (d:=LN row') rfl zah) rfl))
end Law
end
section
namespace Law
open PySem L2 DL
theorem zkB (ns:List Int) (at' n m:Nat) (ha:at'<=60) (hn:n<=60) (hm:m<=60):∃rows:List (List Nat),rows.length=n/\(∀row∈rows,row.Perm (List.range m))/\zcs [IN ns,nD at',nD n,nD m]=.ok (WD rows):=by
 have h:∀h:Nat,∃row:List Nat,h<=60->row.Perm (List.range m)/\∃c:Nat,za4 [IN ns,nD (at' + h)]=.ok (nD c)/\zbx [nD c,nD m]=.ok (TN row):=by
  intro h
  by_cases hh:h<=60
  ·obtain ⟨c,hc⟩:=zeM ns (at' + h) (by omega)
   obtain ⟨row,h1,h2⟩:=zi1 c m hm
   exact ⟨row,fun _=>⟨h1,c,hc,h2⟩⟩
  ·exact ⟨[],fun z=>absurd z hh⟩
 obtain ⟨g,hg⟩:=Classical.axiomOfChoice h
 refine ⟨(List.range n).map g,by simp,fun row hr=>?_,zaQ (B:=zdv) (n:=4) ?_⟩
 ·obtain ⟨i,hi,rfl⟩:=List.mem_map.mp hr
  exact (hg i (by have:=List.mem_range.mp hi; omega)).1
 ·unfold zdv
  refine zar (zaG (zaS (zae (zeo (l:=List.range n) nD (fun _=>true) (fun h=>TN (g h)) (zgk (zae (d:=nD n) rfl zah) (zib (by omega))) (by simp; omega) fun h hh=>⟨[some (nD h),some (nD m),some (IN ns),some (nD at')],rfl,rfl,fun _=>?_⟩) zah) ?_))
  ·obtain ⟨_,c,h1,h2⟩:=hg h (by have:=List.mem_range.mp hh; omega)
   exact zam (zae (zam (zae (d:=IN ns) rfl (zae (zak (a:=nD at') (b:=nD h) rfl rfl (zg9 at' h)) zah)) h1) (zae (d:=nD m) rfl zah)) h2
  ·rw [zgi,e_tupL]
   show some (D.tup _)=some (D.tup _)
   rw [List.map_map]; rfl
end Law
end
section
namespace Law
open PySem L2 DL
structure Own (owns:List (Option Nat)) (m:Nat):Prop where
 lt:∀x,some x∈owns->x < m
 inj:∀h k x,own owns h=some x->own owns k=some x->h=k
theorem zi7 {owns:List (Option Nat)} {h x:Nat} (e:own owns h=some x):some x∈owns/\h < owns.length:=by
 unfold own at e
 cases q:owns[h]? with
 | none=>rw [q] at e; cases e
 | some o=>
  rw [q] at e
  have:o=some x:=e
  subst this
  exact ⟨List.mem_of_getElem? q,(List.getElem?_eq_some_iff.mp q).1⟩
structure Scene (rows:List (List Nat)) (owns:List (Option Nat)) (o:Option (List Nat)) (n m:Nat):Prop where
 n1:1<=n
 n7:n<=7
 nm:n<=m
 m8:m<=8
 rl:rows.length=n
 rp:∀row∈rows,row.Perm (List.range m)
 ow:Own owns m
 ol:owns.length=n
 op:∀l,o=some l->l.Perm (List.range n)
end Law
end
section
namespace Law
open PySem PyProof.Rows L2 DL
theorem ztn (a b:Nat):eqs (nD a) (nD b)=decide (a=b):=by
 show (((a:Nat):Int) == (b:Int))=_
 rw [Bool.eq_iff_iff,beq_iff_eq,decide_eq_true_iff]; exact Int.ofNat_inj
theorem zhM (k:Nat):∀l:List Nat,k∈l->zeW (nD k) (l.map nD)=some (l.idxOf k)
 | [],h=>by cases h
 | a::l,h=>by
  show (if eqs (nD a) (nD k)=true then some 0 else (zeW (nD k) (l.map nD)).map (· + 1))=_
  rw [ztn]
  by_cases e:a=k
  ·rw [if_pos (by simpa using e)]; subst e; simp
  ·rw [if_neg (by simpa using e),zhM k l ((List.mem_cons.mp h).resolve_left fun z=>e z.symm)]
   have hf:(a == k)=false:=by simpa using e
   rw [List.idxOf_cons,hf]; rfl
theorem zmG (k:Nat):∀l:List Nat,(l.map nD).eraseIdx (l.idxOf k)=(l.erase k).map nD
 | []=>rfl
 | a::l=>by
  by_cases e:a=k
  ·subst e; simp
  ·rw [List.idxOf_cons,List.erase_cons_tail (by simpa using e)]
   have:(a == k)=false:=by simpa using e
   rw [this]
   show nD a::(l.map nD).eraseIdx (l.idxOf k)=_
   rw [zmG k l]; rfl
theorem zq0 {k:Nat} {l:List Nat} (h:k∈l):remD (LN l) [nD k]=some (LN (l.erase k)):=by
 show (if (l.map nD).all isInt=true then (zeW (nD k) (l.map nD)).map fun j=>D.lst ((l.map nD).eraseIdx j) else none)=_
 rw [if_pos (by rw [List.all_eq_true]; intro x hx; obtain ⟨y,_,rfl⟩:=List.mem_map.mp hx; rfl),zhM k l h]
 show some (D.lst _)=some (D.lst _)
 rw [zmG]
theorem zeT {k:Nat} {l:List Nat} (h:k∈l):zdN (TN l) [nD k]=some (nD (l.idxOf k)):=by
 show (if zbB (nD k)=true/\(l.map nD).all zbB=true then (zeW (nD k) (l.map nD)).map fun j=>D.int j else none)=_
 rw [if_pos ⟨rfl,zn8 l⟩,zhM k l h]; rfl
theorem zk0 {T:String} {fo:FE} {fl:Rho->Res (List D)} {k:D->List D->Option D} {r:Rho} {d d':D} {ds:List D} (h1:fo r=.ok d) (ht:tyM T d=true) (h2:fl r=.ok ds) (h3:k d ds=some d'):fM T fo fl k r=.ok d':=by
 unfold fM; rw [h1,bind_ok,if_pos ht,h2,bind_ok,h3]; rfl
section
variable {a:Nat->Nat} {n:Nat}
end
end Law
end
section
namespace Law
open PySem PyProof.Rows L2 DL
section
variable {rows:List (List Nat)} {owns:List (Option Nat)} {o:Option (List Nat)} {n m:Nat}
theorem Scene.ne (S:Scene rows owns o n m):rows≠[]:=by
 rintro rfl
 have:=S.rl; have:=S.n1
 simp at *; omega
theorem Scene.row (S:Scene rows owns o n m) {h:Nat} (hh:h < n):(Wr rows h).Perm (List.range m):=by
 unfold Wr
 rw [List.getElem?_eq_getElem (by rw [S.rl]; exact hh)]
 exact S.rp _ (List.getElem_mem _)
theorem Scene.row0 (S:Scene rows owns o n m):(rows.headD []).length=m:=by
 cases rows with
 | nil=>exact absurd rfl S.ne
 | cons r t=>rw [List.headD_cons,(S.rp r List.mem_cons_self).length_eq]; simp
theorem Scene.line_perm (S:Scene rows owns o n m):(s0 rows o).line.Perm (List.range n):=by
 unfold s0
 cases o with
 | none=>rw [S.rl]; exact List.Perm.refl _
 | some l=>exact S.op l rfl
theorem Scene.mem (S:Scene rows owns o n m) {h:Nat}:h∈(s0 rows o).line↔h < n:=by
 rw [S.line_perm.mem_iff]; exact List.mem_range
theorem Scene.things (S:Scene rows owns o n m):(s0 rows o).things=List.range m:=by
 unfold s0; rw [S.row0]
theorem Scene.ok (S:Scene rows owns o n m):Rg.Ok (Wr rows) (own owns) (s0 rows o) where
 nl:=S.line_perm.nodup_iff.mpr List.nodup_range
 nt:=by rw [S.things]; exact List.nodup_range
 le:=by
  rw [S.things,S.line_perm.length_eq]
  simp; exact S.nm
 row:=fun h hh x hx=>by
  rw [S.things] at hx
  exact (S.row (S.mem.mp hh)).mem_iff.mpr hx
 inj:=S.ow.inj
 own:=fun h hh x hx=>by rw [S.things]; exact List.mem_range.mpr (S.ow.lt x (zi7 hx).1)
theorem Scene.snd (S:Scene rows owns o n m):Snd rows owns (s0 rows o) where
 ok:=S.ok
 inr:=fun h hh=>by rw [S.rl]; exact S.mem.mp hh
 ino:=fun h hh=>by rw [S.ol]; exact S.mem.mp hh
 wid:=fun h hh=>by
  have:=(S.row (S.mem.mp hh)).length_eq
  have:=S.m8
  simp at *; omega
 nl:=by
  have:=S.line_perm.length_eq
  have:=S.n7
  simp at *; omega
 nt:=by
  rw [S.things]
  have:=S.m8
  simp; omega
theorem Scene.ord (S:Scene rows owns o n m):∀l,o=some l->l.Nodup/\(∀k∈l,k < rows.length)/\l.length=rows.length:=by
 intro l hl
 have p:=S.op l hl
 refine ⟨p.nodup_iff.mpr List.nodup_range,fun k hk=>?_,?_⟩
 ·rw [S.rl]; exact List.mem_range.mp (p.mem_iff.mp hk)
 ·rw [p.length_eq,S.rl]; simp
end
end Law
end
section
namespace Law
open PySem PyProof.Rows L2 DL
theorem zgm:∀l l':List Nat,PyData.eqvAll (zc6 (l.map nD)) (zc6 (l'.map nD))=decide (l=l')
 | [],[]=>by simp [zc6,PyData.eqvAll]
 | [],k::l=>by simp [zc6,PyData.eqvAll]
 | k::l,[]=>by simp [zc6,PyData.eqvAll]
 | k::l,k'::l'=>by
  have ih:=zgm l l'
  simp only [List.map_cons,zc6,toPy,PyData.eqvAll,PyData.eqv,ih]
  rw [Bool.eq_iff_iff]
  simp
  omega
theorem zpd {l:List Nat} {k:Nat}:∀d∈l.map nD,Shp k d:=by
 intro d hd
 obtain ⟨x,_,rfl⟩:=List.mem_map.mp hd
 cases k <;> trivial
theorem zoV (l l':List Nat):eqB (LN l) (LN l')=some (decide (l=l')):=by
 rw [zki rfl (zhp.mpr zpd) (zhp.mpr zpd)]
 unfold eqb
 simp only [toPy,PyData.eqv,zgm]
theorem zsj (l l':List Nat):eqD (LN l) (LN l')=some (.bl (decide (l=l'))):=by unfold eqD; rw [zoV]; rfl
theorem zrB (l l':List Nat):neD (LN l) (LN l')=some (.bl (! decide (l=l'))):=by unfold neD; rw [zoV]; rfl
theorem zn5 {k:Nat} {l:List Nat} (h:k∈l):zjn (LN l) [nD k]=some (nD (l.idxOf k)):=by
 show (if zbB (nD k)=true/\(l.map nD).all zbB=true then (zeW (nD k) (l.map nD)).map fun j=>D.int j else none)=_
 rw [if_pos ⟨rfl,zn8 l⟩,zhM k l h]; rfl
theorem zlm {l:List Nat} {i:Nat} (h:i<=l.length):slD (LN l) (some (i:Int)) none=some (LN (l.drop i)):=by
 show some (D.lst (cutL (l.map nD) (some (i:Int)) none))=_
 unfold cutL
 rw [HT.sIx_nat,HT.sIx_none,List.length_map,Nat.min_eq_left h]
 rw [List.take_of_length_le (by simp)]
 show some (D.lst _)=some (D.lst ((l.drop i).map nD))
 rw [List.map_drop]
theorem zhA {f:FE} {r:Rho} {i:Int} (h:f r=.ok (.int i)):zjs f r=.ok (some i):=by unfold zjs; rw [h]; rfl
theorem znj {fa:FE} {fl fh:FP} {r:Rho} {d d':D} {lo hi:Option Int} (h1:fa r=.ok d) (h2:fl r=.ok lo) (h3:fh r=.ok hi) (h4:slD d lo hi=some d'):fSl fa fl fh r=.ok d':=by
 unfold fSl; rw [h1,bind_ok,h2,bind_ok,h3,bind_ok,h4]; rfl
theorem zqQ {ds:List D} {i:Nat} {v:D} (h:i < ds.length):stoD (.lst ds) (nD i) v=some (.lst (ds.set i v)):=by
 show (ixN ds.length (i:Int)).map _=_
 unfold ixN
 rw [if_pos (Int.natCast_nonneg i),if_pos (by omega)]
 simp
theorem ze1 {nl:Nat} {cap:List Nat} {fi:FI} {ft:FT} {fe:FE} {r:Rho} {α:Type} {l:List α} (e:α->D) (g:α->D) (h1:fi r=.ok (l.map e)) (hl:l.length<=1000)
  (h:∀a∈l,∃r1,ft (e a) (capR nl cap r)=some r1/\fe r1=.ok (g a)):zbC nl cap fi ft (fun _=>Res.ok true) fe r=.ok (.lst (l.map g)):=by
 have:=zeo (q:=fun _=>Res.ok true) e (fun _=>true) g h1 hl fun a ha=>by
  obtain ⟨r1,q1,q2⟩:=h a ha
  exact ⟨r1,q1,rfl,fun _=>q2⟩
 rw [this,zgi]
end Law
end
section
namespace Law
open PySem PyProof.Rows L2 DL
theorem zmj (row things:List Nat) (fst:D):∀(l:List Nat) (y:Option D),
  (match l.find? (fun h=>decide (h∈things)) with
   | some h=>forF (ftN 2) zbU (l.map nD) [some fst,some (LN things),y]=.rt (nD h)
   | none=>∃y',forF (ftN 2) zbU (l.map nD) [some fst,some (LN things),y]=.nx [some fst,some (LN things),y'])
 | [],y=>⟨y,za3⟩
 | h::l,y=>by
  have c:(zaB (f2 (gv 2) (gv 1) inD)) [some fst,some (LN things),some (nD h)]=.ok (decide (h∈things)):=zav (zak (a:=nD h) (b:=LN things) rfl rfl (zr0 _ _))
  rw [List.find?_cons]
  cases e:decide (h∈things) with
  | true=>
   rw [e] at c
   refine zg4 (r1:=[some fst,some (LN things),some (nD h)]) rfl ?_
   exact zar ((if_t c).trans (zar (zaG (d:=nD h) rfl)))
  | false=>
   rw [e] at c
   have ih:=zmj row things fst l (some (nD h))
   have st:forF (ftN 2) zbU ((h::l).map nD) [some fst,some (LN things),y]=forF (ftN 2) zbU (l.map nD) [some fst,some (LN things),some (nD h)]:=
    zbh (r1:=[some fst,some (LN things),some (nD h)]) rfl ((zad (if_f c)).trans rfl)
   rw [st]
   exact ih
theorem zlx {row things:List Nat} (h:∃x∈row,x∈things):zcJ [TN row,LN things]=.ok (nD (Rg.best row things)):=by
 refine zaQ (B:=zeA) (n:=3) ?_
 unfold zeA
 have hl:=zmj row things (TN row) row none
 unfold Rg.best
 cases e:row.find? fun x=>decide (x∈things) with
 | none=>
  obtain ⟨x,h1,h2⟩:=h
  have:=List.find?_eq_none.mp e x h1
  simp [h2] at this
 | some k=>
  rw [e] at hl
  exact zar ((zaI (ds:=row.map nD) rfl).trans hl)
end Law
end
section
namespace Law
open PySem L2 DL
theorem zqN (l:List Nat) (i:Nat):slD (LN l) none (some (i:Int))=some (LN (l.take i)):=by
 show some (D.lst (cutL (l.map nD) none (some (i:Int))))=_
 unfold cutL
 rw [HT.sIx_nat,HT.sIx_none,List.length_map,List.drop_zero,Nat.sub_zero,<-List.map_take]
 show some (D.lst _)=some (D.lst ((l.take i).map nD))
 rw [List.take_eq_take_iff.mpr (by omega:min (min i l.length) l.length=min i l.length)]
theorem zo1 {a b:List Nat} (h:a.length + b.length<=1000):addE (LN a) (LN b)=some (LN (a++b)):=by
 show addA (LN a) (LN b)=_
 show (if (a.map nD).length + (b.map nD).length<=sizeLine then some (D.lst (a.map nD++b.map nD)) else none)=_
 rw [if_pos (by rw [List.length_map,List.length_map,sizeLine_eq]; omega),<-List.map_append]
noncomputable abbrev rot1 (l:List Nat):List Nat:=l.drop 1++l.take 1
theorem zkG {l:List Nat} (h1:1<=l.length) (hl:l.length<=900):zcq [LN l]=.ok (LN (rot1 l)):=by
 refine zaQ (B:=zdt) (n:=1) ?_
 unfold zdt
 exact zar (zaG (zak (znj (d:=LN l) rfl (zhA (i:=((1:Nat):Int)) rfl) rfl (zlm h1)) (znj (d:=LN l) rfl rfl (zhA (i:=((1:Nat):Int)) rfl) (zqN l 1)) (zo1 (by simp; omega))))
theorem zfQ:∀l:List Nat,zbX (l.map nD)=some (l.map fun k:Nat=>(k:Int))
 | []=>rfl
 | k::l=>by
  show (zbX (l.map nD)).map _=_
  rw [zfQ l]; rfl
theorem zlv {l:List Nat} (h:l≠[]):∃k∈l,(∀x∈l,k<=x)/\zfJ [LN l]=some (nD k):=by
 cases l with
 | nil=>exact absurd rfl h
 | cons a l=>
  have e:zfJ [LN (a::l)]=some (.int (minZ ((a::l).map fun k:Nat=>(k:Int)))):=by
   show (zbX ((a::l).map nD)).map _=_
   rw [zfQ]; rfl
  have hm:=znS (ks:=(a::l).map fun k:Nat=>(k:Int)) (by simp)
  obtain ⟨k,k1,k2⟩:=List.mem_map.mp hm
  refine ⟨k,k1,fun x hx=>?_,by rw [e,<-k2]⟩
  have:=zp1 (ks:=(a::l).map fun k:Nat=>(k:Int)) (List.mem_map.mpr ⟨x,hx,rfl⟩)
  rw [<-k2] at this
  exact Int.ofNat_le.mp this
theorem zpo {A:List Nat} {i j:Nat} (hi:i<=A.length) (hj:j < A.length):(A.drop i++A.take i)[j]? = A[(i + j) % A.length]?:=by
 by_cases h:j < A.length - i
 ·rw [List.getElem?_append_left (by rw [List.length_drop]; exact h),List.getElem?_drop,Nat.mod_eq_of_lt (by omega)]
 ·rw [List.getElem?_append_right (by rw [List.length_drop]; omega),List.length_drop,List.getElem?_take,if_pos (by omega)]
  congr 1
  have:i + j=(i + j - A.length) + A.length:=by omega
  rw [this,Nat.add_mod_right,Nat.mod_eq_of_lt (by omega)]
  omega
end Law
end
section
namespace Law
open PySem PyProof.Rows L2 DL
noncomputable def dOf (dl:List Nat) (h:Nat):Nat:=dl.getD h 0
theorem zsm {dl:List Nat} {h:Nat} (hh:h < dl.length):(dl.map nD)[h]? = some (nD (dOf dl h)):=by
 rw [List.getElem?_map,List.getElem?_eq_getElem hh]
 unfold dOf
 rw [List.getD_eq_getElem?_getD,List.getElem?_eq_getElem hh]; rfl
theorem ze0 {dl:List Nat} {i h:Nat} (e:dl[i]? = some h):dOf dl i=h:=by
 unfold dOf; rw [List.getD_eq_getElem?_getD,e]; rfl
theorem zgn {dl:List Nat} {h:Nat} (hh:h < dl.length):dOf dl h∈dl:=by
 unfold dOf
 rw [List.getD_eq_getElem?_getD,List.getElem?_eq_getElem hh]
 exact List.getElem_mem _
theorem zmN {dl:List Nat} (hn:dl.Nodup) {h l:Nat} (hh:h < dl.length) (hl:l < dl.length) (e:dOf dl h=dOf dl l):h=l:=by
 unfold dOf at e
 rw [List.getD_eq_getElem?_getD,List.getElem?_eq_getElem hh,List.getD_eq_getElem?_getD,List.getElem?_eq_getElem hl] at e
 exact (List.getElem_inj hn).mp e
structure Tw (rows:List (List Nat)) (w:List Nat) (n:Nat):Prop where
 n1:1<=n
 n7:n<=7
 rl:rows.length=n
 rp:∀row∈rows,row.Perm (List.range n)
 wp:w.Perm (List.range n)
theorem zbb {l:List Nat} {n:Nat} (h:l.Perm (List.range n)):l.length=n:=by rw [h.length_eq]; simp
theorem zfc {l:List Nat} {n x:Nat} (h:l.Perm (List.range n)) (hx:x < n):dOf l x < n:=List.mem_range.mp (h.mem_iff.mp (zgn (by rw [zbb h]; exact hx)))
theorem zhz {l:List Nat} {n x y:Nat} (h:l.Perm (List.range n)) (hx:x < n) (hy:y < n) (e:dOf l x=dOf l y):x=y:=zmN (h.nodup_iff.mpr List.nodup_range) (by rw [zbb h]; exact hx) (by rw [zbb h]; exact hy) e
theorem zc1 {l:List Nat} {n x:Nat} (h:l.Perm (List.range n)) (hx:x < n):ixA (TN l) (nD x)=some (nD (dOf l x)):=zjj (zsm (by rw [zbb h]; exact hx))
section
variable {rows:List (List Nat)} {w dl:List Nat} {n:Nat}
theorem Tw.row (T:Tw rows w n) {h:Nat} (hh:h < n):(Wr rows h).Perm (List.range n):=by
 refine T.rp _ ?_
 unfold Wr
 rw [List.getElem?_eq_getElem (by rw [T.rl]; exact hh)]
 exact List.getElem_mem _
theorem Tw.has (T:Tw rows w n) {h x:Nat} (hh:h < n) (hx:x < n):x∈Wr rows h:=(T.row hh).mem_iff.mpr (List.mem_range.mpr hx)
theorem Tw.rw' (T:Tw rows w n) {h:Nat} (hh:h < n):ixA (WD rows) (nD h)=some (TN (Wr rows h)):=zjj (zox (by rw [T.rl]; exact hh))
theorem Tw.len (T:Tw rows w n):lenD [WD rows]=some (nD n):=by rw [zdj,T.rl]
theorem Tw.wlen (T:Tw rows w n):lenD [TN w]=some (nD n):=by rw [zdj,zbb T.wp]
theorem Tw.things (T:Tw rows w n):zbs [WD rows]=.ok (nD n):=by
 cases rows with
 | nil=>have:=T.rl; have:=T.n1; simp at *; omega
 | cons r rest=>
  rw [zgT]
  rw [zbb (T.rp r List.mem_cons_self)]
theorem zh8 (T:Tw rows w n) {h x y:Nat} (hh:h < n) (hx:x < n) (hy:y < n):zgA [WD rows,nD h,nD x,nD y]=.ok (.bl (decide (Rg.lk (Wr rows) h x y))):=by
 refine zaQ (B:=zjF) (n:=5) ?_
 unfold zjF
 refine (zad (zat (zak (a:=WD rows) (b:=nD h) rfl rfl (T.rw' hh)))).trans ?_
 exact zar (zaG (zak (zk0 (d:=TN (Wr rows h)) rfl rfl (zae (d:=nD x) rfl zah) (zeT (T.has hh hx))) (zk0 (d:=TN (Wr rows h)) rfl rfl (zae (d:=nD y) rfl zah) (zeT (T.has hh hy))) (zje _ _)))
theorem zkF (T:Tw rows w n) {h x y:Nat} (hh:h < n) (hx:x < n) (hy:y < n):zcg [WD rows,nD h,nD x,nD y]=.ok (.bl (decide (Rg.lk (Wr rows) h x y))):=by
 refine zaQ (B:=zd4) (n:=4) ?_
 unfold zd4
 exact zar (zaG (zak (zk0 (zak (a:=WD rows) (b:=nD h) rfl rfl (T.rw' hh)) rfl (zae (d:=nD x) rfl zah) (zeT (T.has hh hx))) (zk0 (zak (a:=WD rows) (b:=nD h) rfl rfl (T.rw' hh)) rfl (zae (d:=nD y) rfl zah) (zeT (T.has hh hy))) (zje _ _)))
theorem zjU (T:Tw rows w n):∀(l:List Nat) (i:Nat) (y2 y3:Option DL.D),(∀x∈l,x < n) ->
  ∃y2' y3',forF (ftT (zau (ftN 2) (zau (ftN 3) zcf))) zbr (enuD i (l.map nD)) [some (WD rows),some (TN w),y2,y3]=.nx [some (WD rows),some (TN w),y2',y3']
 | [],i,y2,y3,_=>⟨y2,y3,za3⟩
 | x::l,i,y2,y3,hl=>by
  obtain ⟨a,b,ih⟩:=zjU T l (i + 1) (some (nD i)) (some (nD x)) fun z hz=>hl z (List.mem_cons_of_mem _ hz)
  refine ⟨a,b,?_⟩
  rw [<-ih]
  show forF _ _ (.tup [.int ((i:Nat):Int),nD x]::enuD (i + 1) (l.map nD)) _=_
  refine zbh (r1:=[some (WD rows),some (TN w),some (nD i),some (nD x)]) rfl ?_
  have h0:=zfu x n
  rw [decide_eq_true (hl x List.mem_cons_self)] at h0
  exact zad ((if_f (zdz (b:=true) (zbj (zam (zae (d:=nD x) rfl (zae (d:=nD n) (zaS (zae (d:=WD rows) rfl zah) T.len) zah)) h0) rfl))).trans (e_skip _))
theorem zgU (T:Tw rows w n):zap [WD rows,TN w]=.ok .non:=by
 obtain ⟨a,b,h⟩:=zjU T w 0 none none fun x hx=>List.mem_range.mp (T.wp.mem_iff.mp hx)
 have:zaP (zas 4 [WD rows,TN w])=.nx [some (WD rows),some (TN w),a,b]:=by
  unfold zaP
  have hq:zdr [WD rows]=.ok (.bl true):=by
   refine zaQ (B:=zex) (n:=1) ?_
   unfold zex
   exact zar (zaG (zak (a:=nD n) (b:=nD n) (zam (zae (d:=WD rows) rfl zah) T.things) (zaS (zae (d:=WD rows) rfl zah) T.len) (zhQ n)))
  refine (zad ((if_f (zdz (b:=true) (zbj (zam (zae (d:=WD rows) rfl zah) hq) rfl))).trans (e_skip _))).trans ?_
  exact (zad ((zaI (ds:=enuD 0 (w.map nD)) rfl).trans h)).trans rfl
 show outR false (zaP (zas 4 [WD rows,TN w]))=_
 rw [this]; rfl
structure Rk (w:List Nat) (n:Nat) (g:Nat->Nat) (r:List Nat):Prop where
 ne:r≠[]
 nd:r.Nodup
 lt:∀h∈r,h < n
 mn:∀h∈r,r.headD 0<=h
 gt:∀i,i < r.length->g (dOf r i)=dOf w (dOf r ((i + 1) % r.length))
variable {g:Nat->Nat} {r:List Nat}
theorem Rk.len (R:Rk w n g r):r.length<=n:=by
 have:=Rg.zdi (l:=r) (m:=List.range n) R.nd fun x hx=>List.mem_range.mpr (R.lt x hx)
 simpa using this
theorem Rk.pos (R:Rk w n g r):0 < r.length:=List.length_pos_iff.mpr R.ne
theorem Rk.nx (R:Rk w n g r) {i:Nat} (hi:i < r.length):dOf r ((i + 1) % r.length) < n:=R.lt _ (zgn (Nat.mod_lt _ R.pos))
theorem Rk.glt (T:Tw rows w n) (R:Rk w n g r) {h:Nat} (hh:h∈r):g h < n:=by
 obtain ⟨i,hi⟩:=List.getElem?_of_mem hh
 have hil:=(List.getElem?_eq_some_iff.mp hi).1
 have:=R.gt i hil
 rw [ze0 hi] at this
 rw [this]; exact zfc T.wp (R.nx hil)
theorem zqf {r:List Nat} (h:r≠[]):ixA (LN r) (.int 0)=some (nD (r.headD 0)):=by
 cases r with
 | nil=>exact absurd rfl h
 | cons a t=>exact ixA_L0 _ _
theorem Rk.min (R:Rk w n g r):zfJ [LN r]=some (nD (r.headD 0)):=by
 obtain ⟨k,k1,k2,k3⟩:=zlv R.ne
 rw [k3]
 have h1:=R.mn k k1
 have h2:=k2 (r.headD 0) (by
  have:=R.ne
  cases r with
  | nil=>exact absurd rfl this
  | cons a t=>exact List.mem_cons_self)
 rw [Nat.le_antisymm h2 h1]
theorem zpl {l:List Nat} (h:l≠[]):∃k∈l,zkO [LN l]=some (nD k):=by
 cases l with
 | nil=>exact absurd rfl h
 | cons a l=>
  have e:zkO [LN (a::l)]=some (.int (maxZ ((a::l).map fun k:Nat=>(k:Int)))):=by
   show (zbX ((a::l).map nD)).map _=_
   rw [zfQ]; rfl
  have hm:=znT (ks:=(a::l).map fun k:Nat=>(k:Int)) (by simp)
  obtain ⟨k,k1,k2⟩:=List.mem_map.mp hm
  exact ⟨k,k1,by rw [e,<-k2]⟩
theorem ztk (a b:Nat):geI (nD a) (nD b)=some (.bl (decide (b<=a))):=by
 show some (DL.D.bl (decide ((a:Int) >= (b:Int))))=_
 congr 2
 rw [decide_eq_decide]; omega
theorem zdA:∀(ns acc:List Int),(acc++ns).Nodup->(ns.foldl step_dedup acc).length=acc.length + ns.length
 | [],acc,_=>rfl
 | k::ns,acc,h=>by
  have hk:k∉acc:=fun z=>(List.nodup_append.mp h).2.2 k z k List.mem_cons_self rfl
  have e:step_dedup acc k=acc++[k]:=by
   unfold step_dedup
   rw [if_neg (by simpa using hk)]
  rw [List.foldl_cons,e,zdA ns (acc++[k]) (by simpa using h)]
  simp; omega
theorem zpe {l:List Nat} (hn:l.Nodup) (h8:l.length<=60):zpf (LN l)=some (nD l.length):=by
 show (zbX (l.map nD)).bind _=_
 rw [zfQ]
 show (if _ then some (DL.D.int ((zcA (l.map fun k:Nat=>(k:Int))).length:Int)) else none)=_
 have hnd:(l.map fun k:Nat=>(k:Int)).Nodup:=by
  rw [List.nodup_iff_pairwise_ne,List.pairwise_map]
  exact List.Pairwise.imp (fun h z=>h (Int.ofNat_inj.mp z)) hn
 have e:(zcA (l.map fun k:Nat=>(k:Int))).length=l.length:=by
  have:=zdA (l.map fun k:Nat=>(k:Int)) [] (by simpa using hnd)
  unfold zcA
  rw [this]; simp
 rw [if_pos (by rw [List.length_map]; unfold scanBound; omega),e]
theorem zm0 {α:Type} (p:α->Bool):∀l:List α,zgr (l.map fun x=>DL.D.bl (p x))=some (l.map p)
 | []=>rfl
 | x::l=>by
  show (zgr (l.map fun x=>DL.D.bl (p x))).map _=_
  rw [zm0 p l]; rfl
theorem zm2 {α:Type} (p:α->Bool) (l:List α):anyD [.lst (l.map fun x=>DL.D.bl (p x))]=some (.bl (l.any p)):=by
 show (zgr _).map _=_
 rw [zm0,Option.map_some,List.any_map]; rfl
theorem zb8 {g:Nat->Nat} {nl:Nat} {cap:List Nat} {fi:FI} {ft:FT} {fe:FE} {r:Rho} {l:List Nat} (e:Nat->DL.D) (h1:fi r=.ok (l.map (za1 g))) (hl:l.length<=1000)
  (h:∀a∈l,∃r1,ft (za1 g a) (capR nl cap r)=some r1/\fe r1=.ok (e a)):zbC nl cap fi ft (fun _=>Res.ok true) fe r=.ok (.lst (l.map e)):=ze1 (za1 g) e h1 hl h
theorem lenR {g:Nat->Nat} {r:List Nat}:lenD [zal g r]=some (nD r.length):=zdj _ _
theorem g_at {g:Nat->Nat} {r:List Nat} {i:Nat} (hi:i < r.length):ixA (zal g r) (nD i)=some (za1 g (dOf r i)):=by
 refine zjj ?_
 rw [List.getElem?_map,List.getElem?_eq_getElem hi]
 unfold dOf
 rw [List.getD_eq_getElem?_getD,List.getElem?_eq_getElem hi]; rfl
theorem l_at {r:List Nat} {i:Nat} (hi:i < r.length):ixA (LN r) (nD i)=some (nD (dOf r i)):=zn2 (zsm hi)
theorem zmh (T:Tw rows w n) (R:Rk w n g r) (dd:Option DL.D):∀(j i:Nat) (y:Option DL.D),i + j<=r.length ->
  ∃y',forF (ftN 5) ze6 ((List.range' i j).map nD) [some (WD rows),some (TN w),dd,some (zal g r),some (LN r),y]=.nx [some (WD rows),some (TN w),dd,some (zal g r),some (LN r),y']
 | 0,i,y,_=>⟨y,za3⟩
 | j + 1,i,y,hij=>by
  obtain ⟨y',ih⟩:=zmh T R dd j (i + 1) (some (nD i)) (by omega)
  refine ⟨y',?_⟩
  rw [<-ih]
  have hi:i < r.length:=by omega
  refine zbh (r1:=[some (WD rows),some (TN w),dd,some (zal g r),some (LN r),some (nD i)]) rfl ?_
  refine zad ((if_f (zav (zak (a:=nD (g (dOf r i))) (b:=nD (dOf w (dOf r ((i + 1) % r.length)))) (zak (a:=za1 g (dOf r i)) (b:=nD 1) (zak (a:=zal g r) (b:=nD i) rfl rfl (g_at hi)) rfl (zjj rfl)) (zak (a:=TN w) (b:=nD (dOf r ((i + 1) % r.length))) rfl (zak (a:=LN r) (b:=nD ((i + 1) % r.length)) rfl (zak (a:=nD (i + 1)) (b:=nD r.length) (zak (a:=nD i) (b:=nD 1) rfl rfl (zg9 i 1)) (zaS (zae (d:=LN r) rfl zah) (zbS _ _)) (zei R.pos)) (l_at (Nat.mod_lt _ R.pos))) (zc1 T.wp (R.nx hi))) ?_))).trans (e_skip _))
  rw [R.gt i hi]
  rw [zl9,decide_eq_true rfl]; rfl
noncomputable def wrs (rows:List (List Nat)) (dl:List Nat) (g:Nat->Nat) (h:Nat):Bool:=decide (Rg.lk (Wr rows) h (dOf dl h) (g h))
noncomputable def btr (rows:List (List Nat)) (dl:List Nat) (g:Nat->Nat) (h:Nat):Bool:=decide (Rg.lk (Wr rows) h (g h) (dOf dl h))
noncomputable def oth (dl:List Nat) (g:Nat->Nat) (h:Nat):Bool:=! decide (dOf dl h=g h)
theorem zlw (T:Tw rows w n) (hd:dl.Perm (List.range n)) (R:Rk w n g r):zds [WD rows,TN w,TN dl,zal g r]=.ok (.bl (! r.any (wrs rows dl g) && r.any (oth dl g))):=by
 have hl:=R.len
 have h7:=T.n7
 obtain ⟨y,hloop⟩:=zmh T R (some (TN dl)) r.length 0 none (by omega)
 rw [<-List.range_eq_range'] at hloop
 obtain ⟨mx,mx1,mx2⟩:=zpl R.ne
 refine zaQ (B:=zez) (n:=6) ?_
 unfold zez
 refine (zad (zat (d:=LN r) (zb8 (g:=g) (l:=r) nD rfl (by omega) fun h hh=>⟨[some (nD h),some (nD (g h))],rfl,rfl⟩))).trans ?_
 have e0:=ziC r.length 0
 rw [decide_eq_false (by have:=R.pos; omega)] at e0
 have e1:=zje (r.headD 0) 0
 rw [decide_eq_false (by omega)] at e1
 have e2:=ztk mx n
 rw [decide_eq_false (by have:=R.lt mx mx1; omega)] at e2
 have e3:=zje r.length r.length
 rw [decide_eq_false (by omega)] at e3
 refine (zad ((if_f ?_).trans (e_skip _))).trans ?_
 ·refine (or_f (zav (zak (a:=nD r.length) (b:=nD 0) (zaS (zae (d:=zal g r) rfl zah) lenR) rfl e0))).trans ?_
  refine (or_f (zav (zak (a:=nD (r.headD 0)) (b:=nD (r.headD 0)) (zaS (zae (d:=LN r) rfl zah) R.min) (zak (a:=LN r) (b:=.int 0) rfl rfl (zqf R.ne)) (by rw [zl9,decide_eq_true rfl]; rfl)))).trans ?_
  refine (or_f (zav (zak (a:=nD (r.headD 0)) (b:=nD 0) (zak (a:=LN r) (b:=.int 0) rfl rfl (zqf R.ne)) rfl e1))).trans ?_
  exact zav (zak (a:=nD mx) (b:=nD n) (zaS (zae (d:=LN r) rfl zah) mx2) (zaS (zae (d:=TN w) rfl zah) T.wlen) e2)
 refine (zad ((if_f (zav (zak (a:=nD r.length) (b:=nD r.length) (zoa (a:=LN r) rfl (zpe R.nd (by omega))) (zaS (zae (d:=LN r) rfl zah) (zbS _ _)) e3))).trans (e_skip _))).trans ?_
 refine (zad ((zaI (ds:=(List.range r.length).map nD) (zgk (zae (d:=nD r.length) (zaS (zae (d:=zal g r) rfl zah) lenR) zah) (zib (by omega)))).trans hloop)).trans ?_
 have hw:=zaS (fl:=zac (zbC 2 [0,2] (fSeq zaU (gv 3)) (ftT (zau (ftN 0) (zau (ftN 1) zcf))) (fun _=>Res.ok true) (zaH (zac (gv 2) (zac (gv 0) (zac (f2 (gv 3) (gv 0) ixA) (zac (gv 1) lNil)))) [] zcg)) lNil) (r:=[some (WD rows),some (TN w),some (TN dl),some (zal g r),some (LN r),y]) (zae (zb8 (g:=g) (l:=r) (fun h=>DL.D.bl (wrs rows dl g h)) rfl (by omega) fun h hh=>⟨[some (nD h),some (nD (g h)),some (WD rows),some (TN dl)],rfl,zam (zae (d:=WD rows) rfl (zae (d:=nD h) rfl (zae (zak (a:=TN dl) (b:=nD h) rfl rfl (zc1 hd (R.lt h hh))) (zae (d:=nD (g h)) rfl zah)))) (zkF T (R.lt h hh) (zfc hd (R.lt h hh)) (R.glt T hh))⟩) zah) (zm2 (wrs rows dl g) r)
 by_cases q:r.any (wrs rows dl g)=true
 ·rw [q] at hw ⊢
  exact zar ((if_t (zbj hw rfl)).trans (zar (zaG (d:=.bl false) rfl)))
 ·rw [Bool.eq_false_iff.mpr q] at hw ⊢
  refine (zad ((if_f (zbj hw rfl)).trans (e_skip _))).trans ?_
  refine zar (zaG ((zaS (zae (zb8 (g:=g) (l:=r) (fun h=>DL.D.bl (oth dl g h)) rfl (by omega) fun h hh=>⟨[some (nD h),some (nD (g h)),some (TN dl)],rfl,zak (b:=nD (g h)) (zak (a:=TN dl) (b:=nD h) rfl rfl (zc1 hd (R.lt h hh))) rfl (zl9 _ _)⟩) zah) (zm2 (oth dl g) r)).trans ?_))
  rfl
end
end Law
end
section
namespace Law
open PySem PyProof.Rows L2 DL
section
variable {rows:List (List Nat)} {w dl:List Nat} {n:Nat} {g:Nat->Nat} {r:List Nat}
theorem zc7 (r:List Nat):(rot1 r).Perm r:=by
 have:=(List.perm_append_comm (l₁:=r.drop 1) (l₂:=r.take 1))
 rw [List.take_append_drop] at this
 exact this
theorem Rk.rot (R:Rk w n g r):(rot1 r).map (dOf w)=r.map g:=by
 refine List.ext_getElem? fun j=>?_
 rw [List.getElem?_map,List.getElem?_map]
 by_cases hj:j < r.length
 ·have h1:(j + 1) % r.length < r.length:=Nat.mod_lt _ R.pos
  have e:=R.gt j hj
  rw [ze0 (List.getElem?_eq_getElem hj),ze0 (List.getElem?_eq_getElem h1)] at e
  rw [zpo (A:=r) (i:=1) R.pos hj,Nat.add_comm 1 j,List.getElem?_eq_getElem hj,List.getElem?_eq_getElem h1,Option.map_some,Option.map_some,e]
 ·rw [List.getElem?_eq_none (by rw [(zc7 r).length_eq]; omega),List.getElem?_eq_none (by omega)]; rfl
theorem Rk.gnd (T:Tw rows w n) (R:Rk w n g r):(r.map g).Nodup:=by
 rw [<-R.rot,List.nodup_iff_pairwise_ne,List.pairwise_map]
 refine List.Pairwise.imp_of_mem (fun ha hb h z=>h ?_) ((zc7 r).nodup_iff.mpr R.nd)
 exact zhz T.wp (R.lt _ ((zc7 r).mem_iff.mp ha)) (R.lt _ ((zc7 r).mem_iff.mp hb)) z
theorem zi4 (T:Tw rows w n) (R:Rk w n g r):zbw [TN w,zal g r]=.ok (.bl true):=by
 have hl:=R.len
 have h7:=T.n7
 refine zaQ (B:=zb2) (n:=4) ?_
 unfold zb2
 refine (zad (zat (d:=LN r) (zb8 (g:=g) (l:=r) nD rfl (by omega) fun h hh=>⟨[some (nD h),some (nD (g h))],rfl,rfl⟩))).trans ?_
 refine (zad (zat (d:=LN (r.map g)) ((zb8 (g:=g) (l:=r) (fun h=>nD (g h)) rfl (by omega) fun h hh=>⟨[some (nD h),some (nD (g h))],rfl,rfl⟩).trans ?_))).trans ?_
 ·show Res.ok (DL.D.lst _)=Res.ok (DL.D.lst ((r.map g).map nD))
  rw [List.map_map]; rfl
 refine (zad ((if_f ?_).trans (e_skip _))).trans ?_
 ·refine (or_f (zdz (b:=true) (zbj (zam (zae (d:=LN r) rfl (zae (d:=nD n) (zaS (zae (d:=TN w) rfl zah) T.wlen) zah)) (zfb R.nd R.lt (by omega))) rfl))).trans ?_
  exact zdz (b:=true) (zbj (zam (zae (d:=LN (r.map g)) rfl (zae (d:=nD n) (zaS (zae (d:=TN w) rfl zah) T.wlen) zah)) (zfb (R.gnd T) (fun x hx=>by obtain ⟨h,h1,rfl⟩:=List.mem_map.mp hx; exact R.glt T h1) (by simp; omega))) rfl)
 refine (zad ((if_f ?_).trans (e_skip _))).trans ?_
 ·refine (or_f (zdz (b:=true) (zbj (d:=LN r) rfl ?_))).trans ?_
  ·have:=R.ne
   cases r with
   | nil=>exact absurd rfl this
   | cons a t=>rfl
  ·exact zav (zak (a:=nD (r.headD 0)) (b:=nD (r.headD 0)) (zak (a:=LN r) (b:=.int 0) rfl rfl (zqf R.ne)) (zaS (zae (d:=LN r) rfl zah) R.min) (by rw [zl9,decide_eq_true rfl]; rfl))
 refine zar (zaG (zak (a:=LN (r.map g)) (b:=LN (r.map g)) rfl ((ze1 (l:=rot1 r) nD (fun h=>nD (dOf w h)) (zjN (d:=LN (rot1 r)) (zam (zae (d:=LN r) rfl zah) (zkG R.pos (by omega))) rfl) (by rw [(zc7 r).length_eq]; omega) fun h hh=>⟨[some (nD h),some (TN w)],rfl,zak (a:=TN w) (b:=nD h) rfl rfl (zc1 T.wp (R.lt h ((zc7 r).mem_iff.mp hh)))⟩).trans ?_) (by rw [zsj,decide_eq_true rfl])))
 show Res.ok (DL.D.lst _)=Res.ok (DL.D.lst ((r.map g).map nD))
 rw [<-R.rot,List.map_map]; rfl
theorem znr (T:Tw rows w n) (hd:dl.Perm (List.range n)) (R:Rk w n g r):zko [WD rows,TN w,TN dl,zal g r]=.ok (.bl (r.any (btr rows dl g) && ! r.any (wrs rows dl g))):=by
 have hl:=R.len
 have h7:=T.n7
 refine zaQ (B:=zna) (n:=6) ?_
 unfold zna
 refine (zad (r':=[some (WD rows),some (TN w),some (TN dl),some (zal g r),none,none]) ?_).trans ?_
 ·show onE _ _ _ _=_
  rw [zam (fl:=zac (gv 0) (zac (gv 1) lNil)) (dds:=[]) (r:=zas 6 [WD rows,TN w,TN dl,zal g r]) (zae (d:=WD rows) rfl (zae (d:=TN w) rfl zah)) (zgU T)]; rfl
 refine (zad ((if_f (zdz (b:=true) (zbj (zam (zae (d:=TN w) rfl (zae (d:=zal g r) rfl zah)) (zi4 T R)) rfl))).trans (e_skip _))).trans ?_
 refine (zad (zat (zaS (zae (zb8 (g:=g) (l:=r) (fun h=>DL.D.bl (btr rows dl g h)) rfl (by omega) fun h hh=>⟨[some (nD h),some (nD (g h)),some (WD rows),some (TN dl)],rfl,zam (zae (d:=WD rows) rfl (zae (d:=nD h) rfl (zae (d:=nD (g h)) rfl (zae (zak (a:=TN dl) (b:=nD h) rfl rfl (zc1 hd (R.lt h hh))) zah)))) (zh8 T (R.lt h hh) (R.glt T hh) (zfc hd (R.lt h hh)))⟩) zah) (zm2 (btr rows dl g) r)))).trans ?_
 refine (zad (zat (zaS (zae (zb8 (g:=g) (l:=r) (fun h=>DL.D.bl (wrs rows dl g h)) rfl (by omega) fun h hh=>⟨[some (nD h),some (nD (g h)),some (WD rows),some (TN dl)],rfl,zam (zae (d:=WD rows) rfl (zae (d:=nD h) rfl (zae (zak (a:=TN dl) (b:=nD h) rfl rfl (zc1 hd (R.lt h hh))) (zae (d:=nD (g h)) rfl zah)))) (zh8 T (R.lt h hh) (zfc hd (R.lt h hh)) (R.glt T hh))⟩) zah) (zm2 (wrs rows dl g) r)))).trans ?_
 refine zar (zaG ?_)
 cases r.any (btr rows dl g) <;> cases r.any (wrs rows dl g) <;> rfl
theorem zlY {t:Nat->Nat}:∀r:List Nat,(! decide (r.map (dOf dl)=r.map t))=r.any (oth dl t)
 | []=>rfl
 | h::r=>by
  rw [List.any_cons,<-zlY r,List.map_cons,List.map_cons]
  unfold oth
  by_cases e:dOf dl h=t h
  ·by_cases e':r.map (dOf dl)=r.map t
   ·simp [e,e']
   ·simp [e,e']
  ·simp [e]
theorem zr4 {a:Nat->Nat} {h:Nat} (hh:h < n):ixA (LN ((List.range n).map a)) (nD h)=some (nD (a h)):=zn2 (by rw [List.getElem?_map,List.getElem?_map,List.getElem?_range hh]; rfl)
theorem zsc (hd:dl.Perm (List.range n)) {t a:Nat->Nat} (z0 z3:Option DL.D) (r:List Nat) (hr:r.length<=60/\∀h∈r,h < n/\a h=t h) :
  zaB (f2 (zbC 2 [1] (fSeq zaU (gv 4)) (ftT (zau (ftN 0) (zau (ftN 1) zcf))) (fun _=>Res.ok true) (f2 (gv 2) (gv 0) ixA)) (zbC 2 [2] (fSeq zaU (gv 4)) (ftT (zau (ftN 0) (zau (ftN 1) zcf))) (fun _=>Res.ok true) (f2 (gv 2) (gv 0) ixA)) neD) [z0,some (TN dl),some (LN ((List.range n).map a)),z3,some (zal t r)]=.ok (r.any (oth dl t)):=by
 rw [<-zlY]
 have e:r.map a=r.map t:=List.map_congr_left fun h hh=>(hr.2 h hh).2
 have c1:=zb8 (g:=t) (nl:=2) (cap:=[1]) (fi:=fSeq zaU (gv 4)) (ft:=ftT (zau (ftN 0) (zau (ftN 1) zcf))) (fe:=f2 (gv 2) (gv 0) ixA) (r:=[z0,some (TN dl),some (LN ((List.range n).map a)),z3,some (zal t r)]) (l:=r) (fun h=>nD (dOf dl h)) rfl (by omega) fun h hh=>⟨[some (nD h),some (nD (t h)),some (TN dl)],rfl,zak (a:=TN dl) (b:=nD h) rfl rfl (zc1 hd (hr.2 h hh).1)⟩
 have c2:=zb8 (g:=t) (nl:=2) (cap:=[2]) (fi:=fSeq zaU (gv 4)) (ft:=ftT (zau (ftN 0) (zau (ftN 1) zcf))) (fe:=f2 (gv 2) (gv 0) ixA) (r:=[z0,some (TN dl),some (LN ((List.range n).map a)),z3,some (zal t r)]) (l:=r) (fun h=>nD (a h)) rfl (by omega) fun h hh=>⟨[some (nD h),some (nD (t h)),some (LN ((List.range n).map a))],rfl,zak (a:=LN ((List.range n).map a)) (b:=nD h) rfl rfl (zr4 (hr.2 h hh).1)⟩
 have e1:r.map (fun h=>nD (dOf dl h))=(r.map (dOf dl)).map nD:=by rw [List.map_map]; rfl
 have e2:r.map (fun h=>nD (a h))=(r.map t).map nD:=by rw [<-e,List.map_map]; rfl
 rw [e1] at c1
 rw [e2] at c2
 exact zav (zak c1 c2 (zrB _ _))
theorem go_in (hd:dl.Perm (List.range n)) (h7:n<=7) {t a:Nat->Nat} (x0 x1 x3 z0 z3:Option DL.D):∀(rs:List (List Nat)) (y z:Option DL.D),(∀r∈rs,r.length<=60/\∀h∈r,h < n/\a h=t h) ->
  (∃r∈rs,r.any (oth dl t)=true/\forF (ftN 4) zdW (rs.map (zal t)) [x0,x1,some (TN dl),x3,y]=.rt (zal t r)/\forF (ftN 4) zaW (rs.map (zal t)) [z0,some (TN dl),some (LN ((List.range n).map a)),z3,z]=.rt (zal t r)) \/
  ((∀r∈rs,r.any (oth dl t)=false)/\∃y' z',forF (ftN 4) zdW (rs.map (zal t)) [x0,x1,some (TN dl),x3,y]=.nx [x0,x1,some (TN dl),x3,y']/\forF (ftN 4) zaW (rs.map (zal t)) [z0,some (TN dl),some (LN ((List.range n).map a)),z3,z]=.nx [z0,some (TN dl),some (LN ((List.range n).map a)),z3,z'])
 | [],y,z,_=>.inr ⟨fun _ h=>(nomatch h),y,z,za3,za3⟩
 | r::rs,y,z,hr=>by
  obtain ⟨r1,r2⟩:=hr r List.mem_cons_self
  have c:=zaS (fl:=zac (zbC 2 [2] (fSeq zaU (gv 4)) (ftT (zau (ftN 0) (zau (ftN 1) zcf))) (fun _=>Res.ok true) (f2 (f2 (gv 2) (gv 0) ixA) (gv 1) neD)) lNil) (r:=[x0,x1,some (TN dl),x3,some (zal t r)]) (zae (zb8 (g:=t) (l:=r) (fun h=>DL.D.bl (oth dl t h)) rfl (by omega) fun h hh=>⟨[some (nD h),some (nD (t h)),some (TN dl)],rfl,zak (b:=nD (t h)) (zak (a:=TN dl) (b:=nD h) rfl rfl (zc1 hd (r2 h hh).1)) rfl (zl9 _ _)⟩) zah) (zm2 (oth dl t) r)
  have c':=zsc (a:=a) hd z0 z3 r ⟨r1,r2⟩
  by_cases q:r.any (oth dl t)=true
  ·rw [q] at c c'
   refine .inl ⟨r,List.mem_cons_self,q,?_,?_⟩
   ·refine zg4 (r1:=[x0,x1,some (TN dl),x3,some (zal t r)]) rfl ?_
    exact zar ((if_t (zbj c rfl)).trans (zar (zaG (d:=zal t r) rfl)))
   ·refine zg4 (r1:=[z0,some (TN dl),some (LN ((List.range n).map a)),z3,some (zal t r)]) rfl ?_
    exact zar ((if_t c').trans (zar (zaG (d:=zal t r) rfl)))
  ·rw [Bool.eq_false_iff.mpr q] at c c'
   have st:forF (ftN 4) zdW ((r::rs).map (zal t)) [x0,x1,some (TN dl),x3,y]=forF (ftN 4) zdW (rs.map (zal t)) [x0,x1,some (TN dl),x3,some (zal t r)]:=
    zbh (r1:=[x0,x1,some (TN dl),x3,some (zal t r)]) rfl (zad ((if_f (zbj c rfl)).trans (e_skip _)))
   have st':forF (ftN 4) zaW ((r::rs).map (zal t)) [z0,some (TN dl),some (LN ((List.range n).map a)),z3,z]=forF (ftN 4) zaW (rs.map (zal t)) [z0,some (TN dl),some (LN ((List.range n).map a)),z3,some (zal t r)]:=
    zbh (r1:=[z0,some (TN dl),some (LN ((List.range n).map a)),z3,some (zal t r)]) rfl (zad ((if_f c').trans (e_skip _)))
   rw [st,st']
   rcases go_in hd h7 x0 x1 x3 z0 z3 rs (some (zal t r)) (some (zal t r)) (fun u hu=>hr u (List.mem_cons_of_mem _ hu)) with ⟨u,u1,u2,u3⟩ | ⟨u1,u2⟩
   ·exact .inl ⟨u,List.mem_cons_of_mem _ u1,u2,u3⟩
   ·exact .inr ⟨fun u hu=>(List.mem_cons.mp hu).elim (fun e=>by rw [e]; exact Bool.eq_false_iff.mpr q) (u1 u),u2⟩
theorem zdf (T:Tw rows w n) {h:Nat} (hh:h < n):own (w.map some) h=some (dOf w h):=by
 have hl:=zbb T.wp
 unfold own
 rw [List.getElem?_map,List.getElem?_eq_getElem (by omega)]
 unfold dOf
 rw [List.getD_eq_getElem?_getD,List.getElem?_eq_getElem (by omega)]; rfl
theorem zqr (w:List Nat):OD (w.map some)=TN w:=by
 show DL.D.tup _=DL.D.tup _
 rw [List.map_map]; rfl
theorem Tw.own (T:Tw rows w n):Own (w.map some) n where
 lt:=fun x hx=>by
  obtain ⟨y,h1,h2⟩:=List.mem_map.mp hx
  cases h2
  exact List.mem_range.mp (T.wp.mem_iff.mp h1)
 inj:=fun h k x h1 h2=>by
  have hh:=(zi7 h1).2
  have hk:=(zi7 h2).2
  rw [List.length_map,zbb T.wp] at hh hk
  rw [zdf T hh] at h1
  rw [zdf T hk] at h2
  exact zhz T.wp hh hk (Option.some.inj (h1.trans h2.symm))
theorem Tw.scene (T:Tw rows w n):Scene rows (w.map some) none n n where
 n1:=T.n1
 n7:=T.n7
 nm:=Nat.le_refl _
 m8:=by have:=T.n7; omega
 rl:=T.rl
 rp:=T.rp
 ow:=T.own
 ol:=by rw [List.length_map,zbb T.wp]
 op:=fun l e=>(nomatch e)
theorem zlC (T:Tw rows w n) {s:Rg.S} (k:Rg.Ok (Wr rows) (own (w.map some)) s) (ao:Rg.znb (own (w.map some)) s) (hl:∀h∈s.line,h < n) {rs:List (List Nat)} (hp:rs.Perm (Rg.zf7 (Wr rows) (own (w.map some)) s)) (hr:r∈rs):Rk w n (tS rows s) r:=by
 have cy:=zd5 hp
 have hsub:∀h∈r,h∈s.line:=fun h hh=>cy.sub h (List.mem_flatten.mpr ⟨r,hr,hh⟩)
 have hm:r∈Rg.zf7 (Wr rows) (own (w.map some)) s:=hp.mem_iff.mp hr
 have hne:=zic r hm
 obtain ⟨x,x1,x2⟩:=List.mem_filterMap.mp hm
 obtain ⟨j,j1,j2,j3,j4⟩:=Rg.zf9 x2
 have hlen:r.length=j:=by rw [j2,Rg.zhC]
 have hat:∀i,i < j->dOf r i=Rg.it (fS rows (w.map some) s) i x:=fun i hi=>by
  refine ze0 ?_
  rw [j2]
  unfold Rg.orb
  rw [List.getElem?_map,List.getElem?_range hi]; rfl
 have hd0:r.headD 0=x:=by
  have:=hat 0 j1
  cases r with
  | nil=>exact absurd rfl hne
  | cons a t=>exact this
 refine ⟨hne,by rw [j2]; exact Rg.zlZ j3 j4,fun h hh=>hl h (hsub h hh),fun h hh=>?_,fun i hi=>?_⟩
 ·rw [hd0]
  obtain ⟨i,hi⟩:=List.getElem?_of_mem hh
  have hil:=(List.getElem?_eq_some_iff.mp hi).1
  have e:=hat i (by omega)
  rw [ze0 hi] at e
  exact Rg.zgV j1 j3 j4 e.symm
 ·rw [hlen] at hi ⊢
  have h1:=hat i hi
  have hin:dOf r i∈s.line:=hsub _ (zgn (by omega))
  have h2:=hat ((i + 1) % j) (Nat.mod_lt _ j1)
  rw [h2,<-Rg.zrU j1 j3,Rg.zcz,<-h1]
  have h3:=Rg.zk7 k ao hin
  have h4:fS rows (w.map some) s (dOf r i) < n:=hl _ (Rg.zhE (List.ne_nil_of_mem hin))
  have h5:=zdf T h4
  exact Option.some.inj (h3.symm.trans h5)
theorem go_out (T:Tw rows w n) (hd:dl.Perm (List.range n)) {a:Nat->Nat} (z0:Option DL.D) {s:Rg.S} {l:List (List (List Nat) × Rg.S)} (c:Ch rows (w.map some) s l):Rg.Ok (Wr rows) (own (w.map some)) s->Rg.znb (own (w.map some)) s->(∀h∈s.line,h < n)->(∀h∈s.line,dOf dl h∈s.things)->(∀p∈l,∀h∈p.1.flatten,a h=tS rows p.2 h)->∀y3 y4 z3 z4:Option DL.D,
  (∃r g,Rk w n g r/\r.any (wrs rows dl g)=false/\r.any (oth dl g)=true/\forF (ftN 3) zdV (l.map (zaC rows)) [some (WD rows),some (TN w),some (TN dl),y3,y4]=.rt (zal g r)/\forF (ftN 3) zaV (l.map (zaC rows)) [z0,some (TN dl),some (LN ((List.range n).map a)),z3,z4]=.rt (zal g r)) \/
  (∃y3' y4' z3' z4',forF (ftN 3) zdV (l.map (zaC rows)) [some (WD rows),some (TN w),some (TN dl),y3,y4]=.nx [some (WD rows),some (TN w),some (TN dl),y3',y4']/\forF (ftN 3) zaV (l.map (zaC rows)) [z0,some (TN dl),some (LN ((List.range n).map a)),z3,z4]=.nx [z0,some (TN dl),some (LN ((List.range n).map a)),z3',z4']):=by
 induction c with
 | nil h0=>exact fun _ _ _ _ _ y3 y4 z3 z4=>.inr ⟨y3,y4,z3,z4,za3,za3⟩
 | @cons s rs l hne hs hp c ih=>
  intro k ao hl hb ha y3 y4 z3 z4
  have cy:=zd5 hp
  have h7:=T.n7
  have rk:∀r∈rs,Rk w n (tS rows s) r:=fun r hr=>zlC T k ao hl hp hr
  rcases go_in (t:=tS rows s) (a:=a) hd T.n7 (some (WD rows)) (some (TN w)) (some (zaC rows (rs,s))) z0 (some (zaC rows (rs,s))) rs y4 z4 (fun r hr=>⟨by have:=(rk r hr).len; omega,fun h hh=>⟨(rk r hr).lt h hh,ha (rs,s) List.mem_cons_self h (List.mem_flatten.mpr ⟨r,hr,hh⟩)⟩⟩) with ⟨r,r1,r2,r3,r4⟩ | ⟨r1,y',z',r2,r3⟩
  ·refine .inl ⟨r,tS rows s,rk r r1,?_,r2,?_,?_⟩
   ·rw [Bool.eq_false_iff]
    intro z
    obtain ⟨h,h1,h2⟩:=List.any_eq_true.mp z
    have h2:Rg.lk (Wr rows) h (dOf dl h) (tS rows s h):=of_decide_eq_true h2
    have hs:h∈s.line:=cy.sub h (List.mem_flatten.mpr ⟨r,r1,h1⟩)
    have:=Rg.zsD (row:=Wr rows h) (hb h hs) (k.row h hs _ (hb h hs))
    unfold Rg.lk at h2
    have h3:(Wr rows h).idxOf (tS rows s h)<=(Wr rows h).idxOf (dOf dl h):=this
    omega
   ·refine zg4 (r1:=[some (WD rows),some (TN w),some (TN dl),some (zaC rows (rs,s)),y4]) rfl ?_
    exact zar ((zaI (ds:=rs.map (zal (tS rows s))) rfl).trans r3)
   ·refine zg4 (r1:=[z0,some (TN dl),some (LN ((List.range n).map a)),some (zaC rows (rs,s)),z4]) rfl ?_
    exact zar ((zaI (ds:=rs.map (zal (tS rows s))) rfl).trans r4)
  ·have ag:∀h∈rs.flatten,dOf dl h=tS rows s h:=fun h hh=>by
    obtain ⟨r,q1,q2⟩:=List.mem_flatten.mp hh
    have:=r1 r q1
    rw [List.any_eq_false] at this
    have:=this h q2
    unfold oth at this
    simpa using this
   have st:forF (ftN 3) zdV (((rs,s)::l).map (zaC rows)) [some (WD rows),some (TN w),some (TN dl),y3,y4]=forF (ftN 3) zdV (l.map (zaC rows)) [some (WD rows),some (TN w),some (TN dl),some (zaC rows (rs,s)),y']:=
    zbh (r1:=[some (WD rows),some (TN w),some (TN dl),some (zaC rows (rs,s)),y4]) rfl (zad ((zaI (ds:=rs.map (zal (tS rows s))) rfl).trans r2))
   have st':forF (ftN 3) zaV (((rs,s)::l).map (zaC rows)) [z0,some (TN dl),some (LN ((List.range n).map a)),z3,z4]=forF (ftN 3) zaV (l.map (zaC rows)) [z0,some (TN dl),some (LN ((List.range n).map a)),some (zaC rows (rs,s)),z']:=
    zbh (r1:=[z0,some (TN dl),some (LN ((List.range n).map a)),some (zaC rows (rs,s)),z4]) rfl (zad ((zaI (ds:=rs.map (zal (tS rows s))) rfl).trans r3))
   rw [st,st']
   have hst:=Rg.zsO (b:=dOf dl) hb (fun h hh l hl' e=>zhz hd (hl h hh) (hl l hl') e) cy ag
   exact ih (Rg.zhF k cy) (Rg.zo0 k ao cy) (fun h hh=>hl h (List.mem_filter.mp hh).1) hst (fun p hp' h hh=>ha p (List.mem_cons_of_mem _ hp') h hh) (some (zaC rows (rs,s))) y' (some (zaC rows (rs,s))) z'
theorem zqD (T:Tw rows w n):Rg.znb (own (w.map some)) (s0 rows none):=fun x hx=>by
 have S:=T.scene
 rw [S.things] at hx
 have hx:=List.mem_range.mp hx
 have hw:x∈w:=T.wp.mem_iff.mpr (List.mem_range.mpr hx)
 obtain ⟨i,hi⟩:=List.getElem?_of_mem hw
 have hil:=(List.getElem?_eq_some_iff.mp hi).1
 rw [zbb T.wp] at hil
 exact ⟨i,S.mem.mpr hil,by rw [zdf T hil,ze0 hi]⟩
theorem zly (T:Tw rows w n) (hd:dl.Perm (List.range n)) {a:Nat->Nat} {l:List (List (List Nat) × Rg.S)} (hc:Ch rows (w.map some) (s0 rows none) l) (ha:∀p∈l,∀h∈p.1.flatten,a h=tS rows p.2 h) (hrun:zcY [WD rows,TN w,.non]=.ok (.lst (l.map (zaC rows)))) :
  (∃r g,Rk w n g r/\r.any (wrs rows dl g)=false/\r.any (oth dl g)=true/\zgB [WD rows,TN w,TN dl]=.ok (zal g r)/\za7 [.lst (l.map (zaC rows)),TN dl,LN ((List.range n).map a)]=.ok (zal g r)) \/
  (zgB [WD rows,TN w,TN dl]=.ok .non/\za7 [.lst (l.map (zaC rows)),TN dl,LN ((List.range n).map a)]=.ok .non):=by
 have S:=T.scene
 have pre:∀s2:FS,seqF (zod q112 (zaH (zac (gv 0) (zac (gv 1) lNil)) [] zap)) s2 (zas 5 [WD rows,TN w,TN dl])=s2 [some (WD rows),some (TN w),some (TN dl),none,none]:=fun s2=>by
  refine zad (r':=[some (WD rows),some (TN w),some (TN dl),none,none]) ?_
  show onE _ _ _ _=_
  rw [zam (fl:=zac (gv 0) (zac (gv 1) lNil)) (dds:=[]) (r:=zas 5 [WD rows,TN w,TN dl]) (zae (d:=WD rows) rfl (zae (d:=TN w) rfl zah)) (zgU T)]; rfl
 have hcall:fSeq zaU (zaH (zac (gv 0) (zac (gv 1) lNil)) [DL.D.non] zcY) [some (WD rows),some (TN w),some (TN dl),none,none]=.ok (l.map (zaC rows)):=zjN (d:=.lst (l.map (zaC rows))) (zam (zae (d:=WD rows) rfl (zae (d:=TN w) rfl zah)) hrun) rfl
 rcases go_out T hd (some (.lst (l.map (zaC rows)))) hc S.ok (zqD T) (fun h hh=>S.mem.mp hh) (fun h hh=>by rw [S.things]; exact List.mem_range.mpr (zfc hd (S.mem.mp hh))) ha none none none none with ⟨r,g,R,r1,r2,r3,r4⟩ | ⟨y3,y4,z3,z4,r1,r2⟩
 ·refine .inl ⟨r,g,R,r1,r2,zaQ (B:=zgC) (n:=5) ?_,zaQ (B:=za8) (n:=5) ?_⟩
  ·unfold zgC
   refine (pre _).trans ?_
   exact zar ((zaI hcall).trans r3)
  ·unfold za8
   exact zar ((zaI (ds:=l.map (zaC rows)) rfl).trans r4)
 ·refine .inr ⟨zaQ (B:=zgC) (n:=5) ?_,zaQ (B:=za8) (n:=5) ?_⟩
  ·unfold zgC
   refine (pre _).trans ?_
   refine (zad ((zaI hcall).trans r1)).trans ?_
   exact zar (zaG (d:=.non) rfl)
  ·unfold za8
   refine (zad ((zaI (ds:=l.map (zaC rows)) rfl).trans r2)).trans ?_
   exact zar (zaG (d:=.non) rfl)
end
end Law
end
section
namespace Law
open PySem PyProof.Rows L2 DL
section
variable {rows:List (List Nat)} {w dl:List Nat} {n:Nat} {g:Nat->Nat} {r:List Nat}
theorem zli {α:Type} {l:List Nat} {f:Nat->α} {i:Nat} (hi:i < l.length):(l.take (i + 1)).map f=(l.take i).map f++[f (dOf l i)]:=by
 rw [List.take_add_one,List.map_append,List.getElem?_eq_getElem hi]
 unfold dOf
 rw [List.getD_eq_getElem?_getD,List.getElem?_eq_getElem hi]; rfl
theorem zlA (T:Tw rows w n) (R:Rk w n g r) (x2:Option DL.D):∀(j i:Nat) (y:Option DL.D),i + j=r.length ->
  ∃y',forF (ftN 5) zdB ((List.range' i j).map nD) [some (TN w),some (LN r),x2,some (LN r),some (.lst ((r.take i).map (za1 g))),y]=.nx [some (TN w),some (LN r),x2,some (LN r),some (.lst (r.map (za1 g))),y']
 | 0,i,y,h=>⟨y,by rw [List.take_of_length_le (by omega)]; exact za3⟩
 | j + 1,i,y,h=>by
  obtain ⟨y',ih⟩:=zlA T R x2 j (i + 1) (some (nD i)) (by omega)
  refine ⟨y',?_⟩
  rw [<-ih]
  have hi:i < r.length:=by omega
  have hl:=R.len
  have h7:=T.n7
  refine zbh (r1:=[some (TN w),some (LN r),x2,some (LN r),some (.lst ((r.take i).map (za1 g))),some (nD i)]) rfl ?_
  refine zad (zeR (d:=.lst ((r.take i).map (za1 g))) (ds:=[za1 g (dOf r i)]) (d':=.lst ((r.take (i + 1)).map (za1 g))) rfl rfl (zae ((zj4 (ds:=[nD (dOf r i),nD (dOf w (dOf r ((i + 1) % r.length)))]) (zae (zak (a:=LN r) (b:=nD i) rfl rfl (l_at hi)) (zae (zak (a:=TN w) (b:=nD (dOf r ((i + 1) % r.length))) rfl (zak (a:=LN r) (b:=nD ((i + 1) % r.length)) rfl (zak (a:=nD (i + 1)) (b:=nD r.length) (zak (a:=nD i) (b:=nD 1) rfl rfl (zg9 i 1)) (zaS (zae (d:=LN r) rfl zah) (zbS _ _)) (zei R.pos)) (l_at (Nat.mod_lt _ R.pos))) (zc1 T.wp (R.nx hi))) zah)) (by simp)).trans ?_) zah) ?_)
  ·rw [<-R.gt i hi]
  ·rw [zfj (by rw [List.length_map,List.length_take]; omega),zli hi]
theorem zi2 (T:Tw rows w n) (R:Rk w n g r):zcb [TN w,LN r]=.ok (zal g r):=by
 have hl:=R.len
 have h7:=T.n7
 obtain ⟨y,h⟩:=zlA T R (some (nD 0)) r.length 0 none (by omega)
 rw [<-List.range_eq_range'] at h
 have h0:r.headD 0∈r/\r.idxOf (r.headD 0)=0:=by
  have:=R.ne
  cases r with
  | nil=>exact absurd rfl this
  | cons a t=>exact ⟨List.mem_cons_self,by simp⟩
 refine zaQ (B:=zc4) (n:=6) ?_
 unfold zc4
 refine (zad (zat (d:=nD 0) (zk0 (d:=LN r) rfl rfl (zae (zaS (zae (d:=LN r) rfl zah) R.min) zah) (by rw [zn5 h0.1,h0.2])))).trans ?_
 refine (zad (zat (d:=LN r) (zak (a:=LN (r.drop 0)) (b:=LN (r.take 0)) (znj (d:=LN r) rfl (zhA (i:=((0:Nat):Int)) rfl) rfl (zlm (by omega))) (znj (d:=LN r) rfl rfl (zhA (i:=((0:Nat):Int)) rfl) (zqN r 0)) (by rw [zo1 (by simp; omega)]; simp)))).trans ?_
 refine (zad (zat (d:=.lst []) (zga zah (by simp)))).trans ?_
 refine (zad ((zaI (ds:=(List.range r.length).map nD) (zgk (zae (d:=nD r.length) (zaS (zae (d:=LN r) rfl zah) (zbS _ _)) zah) (zib (by omega)))).trans h)).trans ?_
 exact zar (zaG (zaS (zae (d:=.lst (r.map (za1 g))) rfl zah) (e_tupL _)))
end
structure Ld (rows:List (List Nat)) (w:List Nat) (n:Nat) (s:Rg.S):Prop where
 T:Tw rows w n
 k:Rg.Ok (Wr rows) (own (w.map some)) s
 ao:Rg.znb (own (w.map some)) s
 lt:∀h∈s.line,h < n
section
variable {rows:List (List Nat)} {w:List Nat} {n:Nat} {s:Rg.S}
noncomputable abbrev pS (rows:List (List Nat)) (w:List Nat) (s:Rg.S):Nat->Nat:=fS rows (w.map some) s
theorem Ld.len (L:Ld rows w n s):s.line.length<=7:=by
 have h1:=L.T.n7
 have h2:=Rg.zdi L.k.nl (m:=List.range n) fun h hh=>List.mem_range.mpr (L.lt h hh)
 rw [List.length_range] at h2
 omega
theorem Ld.cl (L:Ld rows w n s) {h:Nat} (hh:h∈s.line):pS rows w s h∈s.line:=Rg.zhE (List.ne_nil_of_mem hh)
theorem Ld.pt (L:Ld rows w n s) {h:Nat} (hh:h∈s.line):dOf w (pS rows w s h)=tS rows s h:=
 Option.some.inj ((zdf L.T (L.lt _ (L.cl hh))).symm.trans (Rg.zk7 L.k L.ao hh))
theorem zr1 {r:List Nat} (hn:r.Nodup) {i:Nat} (hi:i < r.length):r.idxOf (dOf r i)=i:=by
 have hm:=zgn hi
 have h1:=List.getElem_idxOf (List.idxOf_lt_length_iff.mpr hm)
 refine zmN hn (List.idxOf_lt_length_iff.mpr hm) hi ?_
 rw [ze0 (List.getElem?_eq_getElem (List.idxOf_lt_length_iff.mpr hm))]
 exact h1
theorem Ld.idx (L:Ld rows w n s) {h:Nat} (hh:h∈s.line):zdN (TN w) [nD (tS rows s h)]=some (nD (pS rows w s h)):=by
 have hw:pS rows w s h < w.length:=by rw [zbb L.T.wp]; exact L.lt _ (L.cl hh)
 rw [<-L.pt hh,zeT (zgn hw),zr1 (L.T.wp.nodup_iff.mpr List.nodup_range) hw]
theorem Ld.things (L:Ld rows w n s) (x:Nat):x∈s.line.map (dOf w)↔x∈s.things:=by
 constructor
 ·intro hx
  obtain ⟨h,hh,rfl⟩:=List.mem_map.mp hx
  exact L.k.own h hh _ (zdf L.T (L.lt h hh))
 ·intro hx
  obtain ⟨h,hh,e⟩:=L.ao x hx
  rw [zdf L.T (L.lt h hh)] at e
  exact List.mem_map.mpr ⟨h,hh,Option.some.inj e⟩
theorem Ld.best (L:Ld rows w n s) {h:Nat} (hh:h∈s.line):zcJ [TN (Wr rows h),LN (s.line.map (dOf w))]=.ok (nD (tS rows s h)):=by
 obtain ⟨x,h1,h2⟩:=L.k.some_thing hh
 rw [zlx ⟨x,h1,(L.things x).mpr h2⟩]
 have e:(fun x=>decide (x∈s.line.map (dOf w)))=fun x=>decide (x∈s.things):=funext fun x=>decide_eq_decide.mpr (L.things x)
 show Res.ok (nD (((Wr rows h).find? fun x=>decide (x∈s.line.map (dOf w))).getD 0))=_
 rw [e]; rfl
noncomputable abbrev rdS (rows:List (List Nat)) (w:List Nat) (l:List Nat) (fd t p hd rs hs rg th:Option D):Rho:=[some (WD rows),some (TN w),some (LN l),fd,t,p,hd,rs,hs,rg,th]
theorem zio (L:Ld rows w n s) (fd rs hs rg th:Option D):∀(suf pre:List Nat) (y:Option D),pre++suf=s.line ->
  ∃y',forF (ftN 6) zd0 (suf.map nD) (rdS rows w s.line fd (some (LN (s.line.map (dOf w)))) (some (KD (FD pre (pS rows w s)))) y rs hs rg th)=.nx (rdS rows w s.line fd (some (LN (s.line.map (dOf w)))) (some (KD (FD s.line (pS rows w s)))) y' rs hs rg th)
 | [],pre,y,e=>⟨y,by rw [List.append_nil] at e; rw [e]; exact za3⟩
 | h::suf,pre,y,e=>by
  obtain ⟨y',ih⟩:=zio L fd rs hs rg th suf (pre++[h]) (some (nD h)) (by simpa using e)
  have hh:h∈s.line:=by rw [<-e]; simp
  have hn:=L.k.nl
  rw [<-e] at hn
  have hk:h∉pre:=fun z=>(List.nodup_append.mp hn).2.2 h z h List.mem_cons_self rfl
  have hpl:pre.length<=1000:=by
   have:=L.len
   rw [<-e] at this; simp at this; omega
  refine ⟨y',?_⟩
  rw [<-ih]
  refine zbh (r1:=rdS rows w s.line fd (some (LN (s.line.map (dOf w)))) (some (KD (FD pre (pS rows w s)))) (some (nD h)) rs hs rg th) rfl ?_
  have c2:stoD (KD (FD pre (pS rows w s))) (nD h) (nD (pS rows w s h))=some (KD (FD (pre++[h]) (pS rows w s))):=by
   rw [zjJ (by simpa using hpl),zhx (by rw [zhP]; exact hk)]
   unfold FD; rw [List.map_append]; rfl
  exact zad (zig (d:=KD (FD pre (pS rows w s))) (k:=nD h) (v:=nD (pS rows w s h)) rfl (zk0 (d:=TN w) rfl rfl (zae (zam (zae (zak (a:=WD rows) (b:=nD h) rfl rfl (L.T.rw' (L.lt h hh))) (zae (d:=LN (s.line.map (dOf w))) rfl zah)) (L.best hh)) zah) (L.idx hh)) rfl c2)
theorem zrV {f:Nat->Nat} {l:List Nat} (cl:∀h∈l,f h∈l) {h:Nat} (hh:h∈l):∀i,Rg.it f i h∈l
 | 0=>hh
 | i + 1=>by rw [Rg.zcz]; exact cl _ (zrV cl hh i)
theorem zem {f:Nat->Nat} {x k i:Nat} (h:i < k):Rg.it f i x∈Rg.orb f x k:=List.mem_map.mpr ⟨i,List.mem_range.mpr h,rfl⟩
theorem zpJ {f:Nat->Nat} {l:List Nat} (cl:∀h∈l,f h∈l) {h:Nat} (hh:h∈l):∃k,0 < k/\k<=l.length/\Rg.it f k h∈Rg.orb f h k/\∀i,0 < i->i < k->Rg.it f i h∉Rg.orb f h i:=by
 obtain ⟨i,j,hij,hj,e⟩:=Rg.zoD cl hh
 obtain ⟨k,⟨k0,k1⟩,k2⟩:=Rg.zrI (P:=fun k=>0 < k/\Rg.it f k h∈Rg.orb f h k) ⟨j,by omega,by rw [<-e]; exact zem hij⟩
 refine ⟨k,k0,?_,k1,fun i i0 hi z=>k2 i hi ⟨i0,z⟩⟩
 have:¬ j < k:=fun z=>k2 j z ⟨by omega,by rw [<-e]; exact zem hij⟩
 omega
theorem path_ring {f:Nat->Nat} {h k n:Nat} {r:List Nat} (k0:0 < k) (k1:Rg.it f k h∈Rg.orb f h k) (k2:∀i,0 < i->i < k->Rg.it f i h∉Rg.orb f h i) (e:Rg.zeN f n h=some r):Rg.it f k h=h/\r=Rg.orb f h k:=by
 obtain ⟨j,j0,e1,e2,e3⟩:=Rg.zf9 e
 have nd:=Rg.zlZ e2 e3
 have hkj:¬ j < k:=fun z=>k2 j j0 z (by rw [e2]; exact zem (i:=0) j0)
 have hjk:¬ k < j:=fun z=>by
  obtain ⟨i,i1,i2⟩:=List.mem_map.mp k1
  have i1:=List.mem_range.mp i1
  unfold Rg.orb at nd
  rw [List.nodup_iff_pairwise_ne,List.pairwise_map] at nd
  have:=List.pairwise_iff_getElem.mp nd i k (by simp; omega) (by simp; omega) i1
  simp only [List.getElem_range] at this
  exact this i2
 have:j=k:=by omega
 subst this
 exact ⟨e2,e1⟩
theorem znJ {f:Nat->Nat} {x i:Nat} (h:0 < i):(Rg.orb f x i)[(Rg.orb f x i).length - 1]? = some (Rg.it f (i - 1) x):=by
 rw [Rg.zhC]
 unfold Rg.orb
 rw [List.getElem?_map,List.getElem?_range (by omega)]; rfl
theorem zn1 {A:List Nat} {z:Nat} (h:A[A.length - 1]? = some z):ixA (LN A) (.int (-1))=some (nD z):=by
 have hl:A.length - 1 < A.length:=(List.getElem?_eq_some_iff.mp h).1
 show atI (A.map nD) (-1)=some (nD z)
 unfold atI ixN
 rw [if_neg (by omega),if_pos (by rw [List.length_map]; omega),List.length_map]
 show (A.map nD)[(-1 + (A.length:Int)).toNat]? = _
 rw [show (-1 + (A.length:Int)).toNat=A.length - 1 by omega,List.getElem?_map,h]; rfl
theorem zhH (L:Ld rows w n s) {h:Nat} (hh:h∈s.line) (fd t hd rs rg th:Option D) (i:Nat) (i0:0 < i) :
  f2 (gv 5) (f2 (gv 8) (f1 (ci 1) negI) ixA) ixA (rdS rows w s.line fd t (some (KD (FD s.line (pS rows w s)))) hd rs (some (LN (Rg.orb (pS rows w s) h i))) rg th)=.ok (nD (Rg.it (pS rows w s) i h)):=by
 have e:Rg.it (pS rows w s) i h=pS rows w s (Rg.it (pS rows w s) (i - 1) h):=by rw [<-Rg.zcz (pS rows w s),show i - 1 + 1=i by omega]
 rw [e]
 exact zak (a:=KD (FD s.line (pS rows w s))) rfl (zak (a:=LN (Rg.orb (pS rows w s) h i)) (b:=.int (-1)) rfl rfl (zn1 (znJ i0))) (zg5 (zrV (fun x hx=>L.cl hx) hh _))
theorem zp5 (L:Ld rows w n s) {h k:Nat} (hh:h∈s.line) (kl:k<=s.line.length) (k1:Rg.it (pS rows w s) k h∈Rg.orb (pS rows w s) h k) (k2:∀i,0 < i->i < k->Rg.it (pS rows w s) i h∉Rg.orb (pS rows w s) h i) (fd t hd rs rg th:Option D) {m:List Md}:∀(j i fuel:Nat),0 < i->i + j=k->j < fuel ->
  zbM m zdQ zdZ fuel (rdS rows w s.line fd t (some (KD (FD s.line (pS rows w s)))) hd rs (some (LN (Rg.orb (pS rows w s) h i))) rg th)=.nx (rdS rows w s.line fd t (some (KD (FD s.line (pS rows w s)))) hd rs (some (LN (Rg.orb (pS rows w s) h k))) rg th):=by
 intro j
 induction j with
 | zero=>
  intro i fuel i0 hi hf
  have:i=k:=by omega
  subst this
  obtain ⟨fuel,rfl⟩:∃g,fuel=g + 1:=⟨fuel - 1,by omega⟩
  refine zhk (zav (zak (b:=LN (Rg.orb (pS rows w s) h i)) (zhH L hh fd t hd rs rg th i i0) rfl ?_))
  rw [zl8,decide_eq_true k1]; rfl
 | succ j ih=>
  intro i fuel i0 hi hf
  obtain ⟨fuel,rfl⟩:∃g,fuel=g + 1:=⟨fuel - 1,by omega⟩
  refine Eq.trans (zhj (zav (zak (b:=LN (Rg.orb (pS rows w s) h i)) (zhH L hh fd t hd rs rg th i i0) rfl ?_)) ?_) (ih (i + 1) fuel (by omega) (by omega) (by omega))
  ·rw [zl8,decide_eq_false (k2 i i0 (by omega))]; rfl
  ·have h7:=L.len
   refine zad (zeR (d:=LN (Rg.orb (pS rows w s) h i)) (ds:=[nD (Rg.it (pS rows w s) i h)]) rfl rfl (zae (zhH L hh fd t hd rs rg th i i0) zah) ?_)
   rw [Rg.zhB]
   show _=some (D.lst ((Rg.orb (pS rows w s) h i++[Rg.it (pS rows w s) i h]).map nD))
   rw [List.map_append]
   exact zfj (by rw [List.length_map,Rg.zhC]; omega)
theorem zrE (L:Ld rows w n s) {h:Nat} (hh:h∈s.line) {R:List D} (hR:R.length<=60) (fd t hs rg th:Option D) :
  ∃hs',zcH (rdS rows w s.line fd t (some (KD (FD s.line (pS rows w s)))) (some (nD h)) (some (.lst R)) hs rg th)=.nx (rdS rows w s.line fd t (some (KD (FD s.line (pS rows w s)))) (some (nD h)) (some (.lst (R++(Rg.zeN (pS rows w s) s.line.length h).toList.map (zal (tS rows s))))) hs' rg th):=by
 have cl:∀h∈s.line,pS rows w s h∈s.line:=fun h hh=>L.cl hh
 obtain ⟨k,k0,kl,k1,k2⟩:=zpJ cl hh
 have h7:=L.len
 have hne:Rg.orb (pS rows w s) h k≠[]:=List.ne_nil_of_mem (zem (i:=0) k0)
 obtain ⟨z,z1,z2,z3⟩:=zlv hne
 refine ⟨some (LN (Rg.orb (pS rows w s) h k)),?_⟩
 refine (zad (zat (d:=LN [h]) (zga (zae (d:=nD h) rfl zah) (by simp)))).trans ?_
 refine (zad (zp5 L hh kl k1 k2 fd t (some (nD h)) (some (.lst R)) rg th (k - 1) 1 64 (by omega) (by omega) (by omega))).trans ?_
 have t1:zaB (f2 (f2 (gv 5) (f2 (gv 8) (f1 (ci 1) negI) ixA) ixA) (gv 6) eqD) (rdS rows w s.line fd t (some (KD (FD s.line (pS rows w s)))) (some (nD h)) (some (.lst R)) (some (LN (Rg.orb (pS rows w s) h k))) rg th)=.ok (decide (Rg.it (pS rows w s) k h=h)):=zav (zak (b:=nD h) (zhH L hh fd t (some (nD h)) (some (.lst R)) rg th k k0) rfl (ziC (Rg.it (pS rows w s) k h) h))
 have t2:zaB (f2 (fC (zac (gv 8) lNil) zfJ) (gv 6) eqD) (rdS rows w s.line fd t (some (KD (FD s.line (pS rows w s)))) (some (nD h)) (some (.lst R)) (some (LN (Rg.orb (pS rows w s) h k))) rg th)=.ok (decide (z=h)):=zav (zak (a:=nD z) (b:=nD h) (zaS (zae (d:=LN (Rg.orb (pS rows w s) h k)) rfl zah) z3) rfl (ziC z h))
 by_cases e:Rg.it (pS rows w s) k h=h/\z=h
 ·obtain ⟨e1,e2⟩:=e
  subst e2
  have gt:∀i,0 < i->i < k->z < Rg.it (pS rows w s) i z:=fun i i0 hi=>by
   have h1:z<=Rg.it (pS rows w s) i z:=z2 _ (zem hi)
   have h2:Rg.it (pS rows w s) i z≠z:=fun q=>k2 i i0 hi (by rw [q]; exact zem (i:=0) i0)
   omega
  have er:=Rg.zie k0 kl e1 gt
  have rk:=zlC (r:=Rg.orb (pS rows w s) z k) L.T L.k L.ao L.lt (List.Perm.refl _) (List.mem_filterMap.mpr ⟨z,hh,er⟩)
  rw [er]
  rw [decide_eq_true e1] at t1
  rw [decide_eq_true rfl] at t2
  exact zad ((if_t ((zm3 t1).trans t2)).trans (zad (zeR (d:=.lst R) (ds:=[zal (tS rows s) (Rg.orb (pS rows w s) z k)]) rfl rfl (zae (zam (zae (d:=TN w) rfl (zae (d:=LN (Rg.orb (pS rows w s) z k)) rfl zah)) (zi2 L.T rk)) zah) (zfj (by omega)))))
 ·have none':Rg.zeN (pS rows w s) s.line.length h=none:=by
   cases q:Rg.zeN (pS rows w s) s.line.length h with
   | none=>rfl
   | some r=>
    exfalso
    obtain ⟨q1,q2⟩:=path_ring k0 k1 k2 q
    obtain ⟨j,j0,e1,e2,e3⟩:=Rg.zf9 q
    refine e ⟨q1,?_⟩
    have hz:=z2 h (zem (i:=0) k0)
    rw [<-q2,e1] at z1
    obtain ⟨i,hi,rfl⟩:=List.mem_map.mp z1
    have:=Rg.zgV j0 e2 e3 (t:=i) rfl
    omega
  rw [none']
  have tf:fAnd (zaB (f2 (f2 (gv 5) (f2 (gv 8) (f1 (ci 1) negI) ixA) ixA) (gv 6) eqD)) (zaB (f2 (fC (zac (gv 8) lNil) zfJ) (gv 6) eqD)) (rdS rows w s.line fd t (some (KD (FD s.line (pS rows w s)))) (some (nD h)) (some (.lst R)) (some (LN (Rg.orb (pS rows w s) h k))) rg th)=.ok false:=by
   by_cases e1:Rg.it (pS rows w s) k h=h
   ·rw [decide_eq_true e1] at t1
    rw [decide_eq_false fun e2=>e ⟨e1,e2⟩] at t2
    exact (zm3 t1).trans t2
   ·rw [decide_eq_false e1] at t1
    exact zqp t1
  refine (zad ((if_f tf).trans (e_skip _))).trans ?_
  simp [e_skip]
theorem zmg (L:Ld rows w n s) (fd t rg th:Option D):∀(suf:List Nat) (R:List D) (hd hs:Option D),(∀h∈suf,h∈s.line)->R.length + suf.length<=60 ->
  ∃hd' hs',forF (ftN 6) zcH (suf.map nD) (rdS rows w s.line fd t (some (KD (FD s.line (pS rows w s)))) hd (some (.lst R)) hs rg th)=.nx (rdS rows w s.line fd t (some (KD (FD s.line (pS rows w s)))) hd' (some (.lst (R++(suf.filterMap fun h=>Rg.zeN (pS rows w s) s.line.length h).map (zal (tS rows s))))) hs' rg th)
 | [],R,hd,hs,_,_=>⟨hd,hs,by simp only [List.filterMap_nil,List.map_nil,List.append_nil]; exact za3⟩
 | h::suf,R,hd,hs,hm,hR=>by
  rw [List.length_cons] at hR
  obtain ⟨hs1,e1⟩:=zrE L (hm h List.mem_cons_self) (R:=R) (by omega) fd t hs rg th
  have hl:((Rg.zeN (pS rows w s) s.line.length h).toList.map (zal (tS rows s))).length<=1:=by
   rw [List.length_map]; cases Rg.zeN (pS rows w s) s.line.length h <;> simp
  obtain ⟨hd',hs',ih⟩:=zmg L fd t rg th suf (R++(Rg.zeN (pS rows w s) s.line.length h).toList.map (zal (tS rows s))) (some (nD h)) hs1 (fun x hx=>hm x (List.mem_cons_of_mem _ hx)) (by rw [List.length_append]; omega)
  refine ⟨hd',hs',?_⟩
  have e2:((h::suf).filterMap fun h=>Rg.zeN (pS rows w s) s.line.length h)=(Rg.zeN (pS rows w s) s.line.length h).toList++suf.filterMap fun h=>Rg.zeN (pS rows w s) s.line.length h:=by
   rw [List.filterMap_cons]
   cases Rg.zeN (pS rows w s) s.line.length h <;> rfl
  rw [e2,List.map_append,<-List.append_assoc,<-ih]
  exact zbh (r1:=rdS rows w s.line fd t (some (KD (FD s.line (pS rows w s)))) (some (nD h)) (some (.lst R)) hs rg th) rfl e1
end
end Law
end
section
namespace Law
open PySem PyProof.Rows L2 DL
section
variable {rows:List (List Nat)} {w:List Nat} {n:Nat} {s:Rg.S}
theorem ziB:∀{C l:List Nat},l.Nodup->C.foldl List.erase l=l.filter fun h=>decide (h∉C)
 | [],l,_=>(List.filter_eq_self.mpr (by simp)).symm
 | c::C,l,hn=>by
  rw [List.foldl_cons,ziB (hn.erase c),hn.erase_eq_filter,List.filter_filter]
  refine List.filter_congr fun x _=>?_
  by_cases e:x=c <;> simp [e]
theorem zrD (t:Nat->Nat) (fd ts ps rs hs rg:Option D):∀(r l:List Nat) (hd th:Option D),r.Nodup->(∀h∈r,h∈l) ->
  ∃hd' th',forF (ftT (zau (ftN 6) (zau (ftN 10) zcf))) zdY (r.map (za1 t)) (rdS rows w l fd ts ps hd rs hs rg th)=.nx (rdS rows w (r.foldl List.erase l) fd ts ps hd' rs hs rg th')
 | [],l,hd,th,_,_=>⟨hd,th,za3⟩
 | h::r,l,hd,th,hn,hm=>by
  have hn':=List.nodup_cons.mp hn
  obtain ⟨hd',th',ih⟩:=zrD t fd ts ps rs hs rg r (l.erase h) (some (nD h)) (some (nD (t h))) hn'.2 fun x hx=>(List.mem_erase_of_ne (by rintro rfl; exact hn'.1 hx)).mpr (hm x (List.mem_cons_of_mem _ hx))
  refine ⟨hd',th',?_⟩
  rw [List.foldl_cons,<-ih]
  exact zbh (r1:=rdS rows w l fd ts ps (some (nD h)) rs hs rg (some (nD (t h)))) rfl (zad (zeR (d:=LN l) (ds:=[nD h]) rfl rfl (zae (d:=nD h) rfl zah) (zq0 (hm h List.mem_cons_self))))
theorem zoO (t:Nat->Nat) (fd ts ps rs hs:Option D):∀(R:List (List Nat)) (l:List Nat) (hd rg th:Option D),R.flatten.Nodup->(∀h∈R.flatten,h∈l) ->
  ∃hd' rg' th',forF (ftN 9) zdX (R.map (zal t)) (rdS rows w l fd ts ps hd rs hs rg th)=.nx (rdS rows w (R.flatten.foldl List.erase l) fd ts ps hd' rs hs rg' th')
 | [],l,hd,rg,th,_,_=>⟨hd,rg,th,za3⟩
 | r::R,l,hd,rg,th,hn,hm=>by
  rw [List.flatten_cons] at hn hm
  have hn':=List.nodup_append.mp hn
  obtain ⟨hd1,th1,e1⟩:=zrD (rows:=rows) (w:=w) t fd ts ps rs hs (some (zal t r)) r l hd th hn'.1 fun h hh=>hm h (List.mem_append_left _ hh)
  obtain ⟨hd',rg',th',ih⟩:=zoO t fd ts ps rs hs R (r.foldl List.erase l) hd1 (some (zal t r)) th1 hn'.2.1 fun h hh=>by
   have h1:=hm h (List.mem_append_right _ hh)
   have h2:h∉r:=fun z=>hn'.2.2 h z h hh rfl
   have:∀(r l:List Nat),h∈l->h∉r->h∈r.foldl List.erase l:=fun r=>by
    induction r with
    | nil=>exact fun l h1 _=>h1
    | cons c r ih=>exact fun l h1 h2=>ih _ ((List.mem_erase_of_ne (by rintro rfl; exact h2 List.mem_cons_self)).mpr h1) fun z=>h2 (List.mem_cons_of_mem _ z)
   exact this r l h1 h2
  refine ⟨hd',rg',th',?_⟩
  rw [List.flatten_cons,List.foldl_append,<-ih]
  exact zbh (r1:=rdS rows w l fd ts ps hd rs hs (some (zal t r)) th) rfl (zad ((zaI (ds:=r.map (za1 t)) rfl).trans e1))
theorem Ld.minus (L:Ld rows w n s) {C:List Nat} (c:Rg.Cyc (Wr rows) (own (w.map some)) s C):Ld rows w n (Rg.minus (Wr rows) s C):=
 ⟨L.T,Rg.zhF L.k c,Rg.zo0 L.k L.ao c,fun h hh=>L.lt h (List.mem_filter.mp hh).1⟩
theorem znW (L:Ld rows w n s) {rs:List (List Nat)} (hs:zh4 [.lst ((Rg.zf7 (Wr rows) (own (w.map some)) s).map (zal (tS rows s)))]=some (.lst (rs.map (zal (tS rows s))))) (hp:rs.Perm (Rg.zf7 (Wr rows) (own (w.map some)) s)) {told:List D} (ht:told.length<=60) (y4 y5 y6 y7 y8 y9 y10:Option D) :
  ∃y4' y5' y6' y7' y8' y9' y10',zcG (rdS rows w s.line (some (.lst told)) y4 y5 y6 y7 y8 y9 y10)=.nx (rdS rows w (Rg.minus (Wr rows) s rs.flatten).line (some (.lst (told++[zaC rows (rs,s)]))) y4' y5' y6' y7' y8' y9' y10'):=by
 have h7:=L.len
 obtain ⟨a6,e1⟩:=zio L (some (.lst told)) y7 y8 y9 y10 s.line [] y6 rfl
 obtain ⟨b6,b8,e2⟩:=zmg L (some (.lst told)) (some (LN (s.line.map (dOf w)))) y9 y10 s.line [] a6 y8 (fun _ h=>h) (by simp; omega)
 rw [List.nil_append] at e2
 have nd:(Rg.zf7 (Wr rows) (own (w.map some)) s).flatten.Nodup:=Rg.zi5 L.k.nl
 have cy:=zd5 (List.Perm.refl (Rg.zf7 (Wr rows) (own (w.map some)) s))
 obtain ⟨c6,c9,c10,e3⟩:=zoO (rows:=rows) (w:=w) (tS rows s) (some (.lst (told++[zaC rows (rs,s)]))) (some (LN (s.line.map (dOf w)))) (some (KD (FD s.line (pS rows w s)))) (some (.lst ((Rg.zf7 (Wr rows) (own (w.map some)) s).map (zal (tS rows s))))) b8 (Rg.zf7 (Wr rows) (own (w.map some)) s) s.line b6 y9 y10 nd cy.sub
 have el:(Rg.zf7 (Wr rows) (own (w.map some)) s).flatten.foldl List.erase s.line=(Rg.minus (Wr rows) s rs.flatten).line:=by
  rw [ziB L.k.nl]
  refine List.filter_congr fun x _=>?_
  rw [decide_eq_decide]
  exact not_congr (hp.flatten.mem_iff).symm
 rw [el] at e3
 refine ⟨some (LN (s.line.map (dOf w))),some (KD (FD s.line (pS rows w s))),c6,some (.lst ((Rg.zf7 (Wr rows) (own (w.map some)) s).map (zal (tS rows s)))),b8,c9,c10,?_⟩
 refine (zad (zat (d:=LN (s.line.map (dOf w))) ((ze1 (l:=s.line) nD (fun h=>nD (dOf w h)) (zjN (d:=LN s.line) rfl rfl) (by omega) fun h hh=>⟨[some (nD h),some (TN w)],rfl,zak (a:=TN w) (b:=nD h) rfl rfl (zc1 L.T.wp (L.lt h hh))⟩).trans (by show Res.ok (D.lst _)=Res.ok (D.lst ((s.line.map (dOf w)).map nD)); rw [List.map_map]; rfl)))).trans ?_
 refine (zad (r':=rdS rows w s.line (some (.lst told)) (some (LN (s.line.map (dOf w)))) (some (KD (FD [] (pS rows w s)))) y6 y7 y8 y9 y10) rfl).trans ?_
 refine (zad ((zaI (ds:=s.line.map nD) rfl).trans e1)).trans ?_
 refine (zad (zat (d:=.lst []) (zga zah (by simp)))).trans ?_
 refine (zad ((zaI (ds:=s.line.map nD) rfl).trans e2)).trans ?_
 refine (zad (zeR (d:=.lst told) (ds:=[zaC rows (rs,s)]) rfl rfl (zae (zaS (zae (d:=.lst ((Rg.zf7 (Wr rows) (own (w.map some)) s).map (zal (tS rows s)))) rfl zah) hs) zah) (zfj (by omega)))).trans ?_
 exact zad ((zaI (ds:=(Rg.zf7 (Wr rows) (own (w.map some)) s).map (zal (tS rows s))) rfl).trans e3)
theorem znV {l:List (List (List Nat) × Rg.S)} (c:Ch rows (w.map some) s l):Ld rows w n s->∀(j:Nat) (told:List D) (y4 y5 y6 y7 y8 y9 y10:Option D),s.line.length < j->told.length + s.line.length<=60 ->
  ∃l' y4' y5' y6' y7' y8' y9' y10',zbM q122 zcB zcG j (rdS rows w s.line (some (.lst told)) y4 y5 y6 y7 y8 y9 y10)=.nx (rdS rows w l' (some (.lst (told++l.map (zaC rows)))) y4' y5' y6' y7' y8' y9' y10'):=by
 have tst:∀(s:Rg.S) (told:List D) (y4 y5 y6 y7 y8 y9 y10:Option D),zcB (rdS rows w s.line (some (.lst told)) y4 y5 y6 y7 y8 y9 y10)=.ok (decide (0 < s.line.length)):=fun s told y4 y5 y6 y7 y8 y9 y10=>zav (zak (a:=nD s.line.length) (b:=nD 0) (zaS (zae (d:=LN s.line) rfl zah) (zbS _ _)) rfl (zn7 _ _))
 induction c with
 | @nil s h0=>
  intro L j told y4 y5 y6 y7 y8 y9 y10 hj ht
  obtain ⟨j,rfl⟩:∃g,j=g + 1:=⟨j - 1,by omega⟩
  have t:=tst s told y4 y5 y6 y7 y8 y9 y10
  rw [decide_eq_false (by rw [h0]; simp)] at t
  exact ⟨s.line,y4,y5,y6,y7,y8,y9,y10,by rw [List.map_nil,List.append_nil]; exact zhk t⟩
 | @cons s rs l hne hs hp c ih=>
  intro L j told y4 y5 y6 y7 y8 y9 y10 hj ht
  obtain ⟨j,rfl⟩:∃g,j=g + 1:=⟨j - 1,by omega⟩
  have cy:=zd5 hp
  have t:=tst s told y4 y5 y6 y7 y8 y9 y10
  have hlt:=zj5 cy (zfw hp hne)
  rw [decide_eq_true (List.length_pos_iff.mpr hne)] at t
  obtain ⟨z4,z5,z6,z7,z8,z9,z10,e1⟩:=znW L hs hp (told:=told) (by omega) y4 y5 y6 y7 y8 y9 y10
  obtain ⟨l',u4,u5,u6,u7,u8,u9,u10,e2⟩:=ih (L.minus cy) j (told++[zaC rows (rs,s)]) z4 z5 z6 z7 z8 z9 z10 (by omega) (by rw [List.length_append]; simp; omega)
  refine ⟨l',u4,u5,u6,u7,u8,u9,u10,?_⟩
  rw [List.append_assoc] at e2
  exact (zhj t e1).trans e2
theorem zi3 (T:Tw rows w n) {l:List (List (List Nat) × Rg.S)} (c:Ch rows (w.map some) (s0 rows none) l):zct [WD rows,TN w]=.ok (.lst (l.map (zaC rows))):=by
 have S:=T.scene
 have L:Ld rows w n (s0 rows none):=⟨T,S.ok,zqD T,fun h hh=>S.mem.mp hh⟩
 have h7:=L.len
 obtain ⟨l',y4,y5,y6,y7,y8,y9,y10,e⟩:=znV c L 64 [] none none none none none none none (by omega) (by simp; omega)
 refine zaQ (B:=zdw) (n:=11) ?_
 unfold zdw
 refine (zad (zat (d:=LN (s0 rows none).line) (zaS (zae (d:=nD rows.length) (zaS (zae (d:=WD rows) rfl zah) (zdj _ _)) zah) (zjf (by rw [T.rl]; have:=T.n7; omega))))).trans ?_
 refine (zad (zat (d:=.lst []) (zga zah (by simp)))).trans ?_
 refine (zad e).trans ?_
 exact zar (zaG (d:=.lst (l.map (zaC rows))) rfl)
end
end Law
end
section
namespace Law
open PySem PyProof.Rows L2 DL
section
variable {rows:List (List Nat)} {w dl:List Nat} {n:Nat} {r:List Nat} {g:Nat->Nat}
theorem zjV (t:Nat->Nat):∀r:List Nat,zeP (r.map (za1 t))=some ((r.map fun h=>(h,t h)).map fun p=>(kI p.1,nD p.2))
 | []=>rfl
 | h::r=>by
  rw [List.map_cons]
  show (some (kI h)).bind (fun k'=>(zeP (r.map (za1 t))).map ((k',nD (t h))::·))=_
  rw [zjV t r]; rfl
theorem zsn (t:Nat->Nat) (r:List Nat):zof [.lst (r.map (za1 t))]=some (KD ((r.map fun h=>(h,t h)).foldl (fun acc p=>putN acc p.1 p.2) [])):=by
 show (zeP (r.map (za1 t))).map _=_
 rw [zjV t r]
 show some (D.dic (zgZ (([]:List (Nat × Nat)).map fun p=>(kI p.1,nD p.2)) ((r.map fun h=>(h,t h)).map fun p=>(kI p.1,nD p.2))))=_
 rw [zjd]
theorem zsr {a t:Nat->Nat} {line:List Nat} (hl:line.length<=60) (x0 x1 x3:Option D):∀(rs:List (List Nat)) (L:List Nat) (kvs:List (Nat × Nat)) (y:Option D),GI a kvs L->(∀h∈L,h∈line)->(∀h∈rs.flatten,a h=t h/\h∈line) ->
  ∃kvs' y',GI a kvs' (L++rs.flatten)/\forF (ftN 4) zcX (rs.map (zal t)) [x0,x1,some (KD kvs),x3,y]=.nx [x0,x1,some (KD kvs'),x3,y']
 | [],L,kvs,y,g,_,_=>⟨kvs,y,by simpa using g,za3⟩
 | r::rs,L,kvs,y,g,hL,hr=>by
  rw [List.flatten_cons] at hr
  have h0:∀h∈r,a h=t h/\h∈line:=fun h hh=>hr h (List.mem_append_left _ hh)
  have g1:GI a ((r.map fun h=>(h,t h)).foldl (fun acc p=>putN acc p.1 p.2) []) r:=(zhG (r.map fun h=>(h,t h)) [] [] (GI.nil a) fun p hp=>by
   obtain ⟨h,hh,rfl⟩:=List.mem_map.mp hp
   exact (h0 h hh).1.symm).mem fun x=>by simp
  have g3:=(zhG _ kvs L g g1.val).mem (M:=L++r) fun x=>by rw [List.mem_append,List.mem_append,g1.key]
  obtain ⟨kvs',y',g',ih⟩:=zsr hl x0 x1 x3 rs (L++r) _ (some (zal t r)) g3 (fun h hh=>by
   rcases List.mem_append.mp hh with q | q
   ·exact hL h q
   ·exact (h0 h q).2) fun h hh=>hr h (List.mem_append_right _ hh)
  refine ⟨kvs',y',by rw [List.append_assoc] at g'; simpa using g',?_⟩
  rw [<-ih]
  refine zbh (r1:=[x0,x1,some (KD kvs),x3,some (zal t r)]) rfl (zad (zeR (d:=KD kvs) rfl rfl (zae (zaS (zae (zaS (zae (d:=zal t r) rfl zah) (e_listT _)) zah) (zsn t r)) zah) ?_))
  have l1:=g.len hL
  have l2:=g1.len (line:=line) fun h hh=>(h0 h hh).2
  show (if _ then some (D.dic (zgZ _ _)) else none)=_
  rw [if_pos (by rw [List.length_map,List.length_map,sizeLine_eq]; omega),zjd]
theorem zoZ {a:Nat->Nat} {line:List Nat} (hl:line.length<=60) (x0 x1:Option D):∀(l:List (List (List Nat) × Rg.S)) (L:List Nat) (kvs:List (Nat × Nat)) (z y:Option D),GI a kvs L->(∀h∈L,h∈line)->(∀p∈l,∀h∈p.1.flatten,a h=tS rows p.2 h/\h∈line) ->
  ∃kvs' z' y',GI a kvs' (L++l.flatMap fun p=>p.1.flatten)/\forF (ftN 3) zcW (l.map (zaC rows)) [x0,x1,some (KD kvs),z,y]=.nx [x0,x1,some (KD kvs'),z',y']
 | [],L,kvs,z,y,g,_,_=>⟨kvs,z,y,by simpa using g,za3⟩
 | p::l,L,kvs,z,y,g,hL,hp=>by
  have h0:=hp p List.mem_cons_self
  obtain ⟨kv1,y1,g1,e1⟩:=zsr hl x0 x1 (some (zaC rows p)) p.1 L kvs y g hL h0
  obtain ⟨kvs',z',y',g',ih⟩:=zoZ hl x0 x1 l (L++p.1.flatten) kv1 (some (zaC rows p)) y1 g1 (fun h hh=>by
   rcases List.mem_append.mp hh with q | q
   ·exact hL h q
   ·exact (h0 h q).2) fun q hq=>hp q (List.mem_cons_of_mem _ hq)
  refine ⟨kvs',z',y',by rw [List.append_assoc] at g'; simpa using g',?_⟩
  rw [<-ih]
  exact zbh (r1:=[x0,x1,some (KD kvs),some (zaC rows p),y]) rfl (zad ((zaI (ds:=p.1.map (zal (tS rows p.2))) rfl).trans e1))
theorem zhu (T:Tw rows w n) {a:Nat->Nat} {l:List (List (List Nat) × Rg.S)} (c1:∀p∈l,∀h∈p.1.flatten,a h=tS rows p.2 h/\h∈(s0 rows none).line) (c2:∀h∈(s0 rows none).line,∃p∈l,h∈p.1.flatten) :
  zbI [.lst (l.map (zaC rows)),nD n]=.ok (LN ((List.range n).map a)):=by
 have S:=T.scene
 have h7:=T.n7
 have hl:(s0 rows none).line.length<=60:=by rw [S.line_perm.length_eq,List.length_range]; omega
 obtain ⟨kvs,z,y,gi,e⟩:=zoZ (rows:=rows) (a:=a) hl (some (.lst (l.map (zaC rows)))) (some (nD n)) l [] [] none none (GI.nil a) (fun _ h=>nomatch h) c1
 rw [List.nil_append] at gi
 refine zaQ (B:=zck) (n:=5) ?_
 unfold zck
 refine (zad (r':=[some (.lst (l.map (zaC rows))),some (nD n),some (KD []),none,none]) rfl).trans ?_
 refine (zad ((zaI (ds:=l.map (zaC rows)) rfl).trans e)).trans ?_
 refine zar (zaG ((ze1 (l:=List.range n) nD (fun h=>nD (a h)) (zgk (ds:=[nD n]) (zae (d:=nD n) rfl zah) (zib (by omega))) (by simp; omega) fun x hx=>⟨[some (nD x),some (KD kvs)],rfl,zak (a:=KD kvs) (b:=nD x) rfl rfl (zrT (zgg gi.val ((gi.key x).mpr ?_)))⟩).trans ?_))
 ·obtain ⟨p,h1,h2⟩:=c2 x (S.mem.mpr (List.mem_range.mp hx))
  exact List.mem_flatMap.mpr ⟨p,h1,h2⟩
 ·show Res.ok (D.lst _)=Res.ok (D.lst (((List.range n).map a).map nD))
  rw [List.map_map]; rfl
theorem zms (g:Nat->Nat) (x0:Option D):∀(r:List Nat) (y:Option D),∃y',forF (ftN 1) zdC (r.map (za1 g)) [x0,y]=.nx [x0,y']
 | [],y=>⟨y,za3⟩
 | h::r,y=>by
  obtain ⟨y',ih⟩:=zms g x0 r (some (za1 g h))
  refine ⟨y',?_⟩
  rw [<-ih]
  refine zbh (r1:=[x0,some (za1 g h)]) rfl ?_
  refine (zad ((if_f ((or_f (zdz (b:=true) (zbj (d:=.bl true) (zoa (a:=za1 g h) rfl rfl) rfl))).trans (zav (zak (a:=nD 2) (b:=nD 2) (zaS (zae (d:=za1 g h) rfl zah) rfl) rfl rfl)))).trans (e_skip _))).trans ?_
  exact zad ((if_f (zdz (b:=true) (zbj (d:=.bl true) (zaS (zae (ze1 (l:=[h,g h]) nD (fun _=>D.bl true) (zjN (d:=za1 g h) rfl rfl) (by simp) fun x _=>⟨[some (nD x)],rfl,rfl⟩) zah) rfl) rfl))).trans (e_skip _))
theorem zia (g:Nat->Nat) (r:List Nat):zcc [zal g r]=.ok (.bl true):=by
 obtain ⟨y,e⟩:=zms g (some (zal g r)) r none
 refine zaQ (B:=zc5) (n:=2) ?_
 unfold zc5
 refine (zad ((if_f (zdz (b:=true) (zbj (d:=.bl true) (zoa (a:=zal g r) rfl rfl) rfl))).trans (e_skip _))).trans ?_
 refine (zad ((zaI (ds:=r.map (za1 g)) rfl).trans e)).trans ?_
 exact zar (zaG (d:=.bl true) rfl)
theorem zkg (g:Nat->Nat):∀r:List Nat,PyData.eqvAll (zc6 (r.map (za1 g))) (zc6 (r.map (za1 g)))=true
 | []=>by simp [zc6,PyData.eqvAll]
 | h::r=>by
  have e:=zgm [h,g h] [h,g h]
  simp only [List.map_cons,List.map_nil,decide_true] at e
  simp only [List.map_cons,zc6,PyData.eqvAll,zkg g r,Bool.and_true]
  simp only [zc6] at e
  simp only [za1,toPy,zc6,PyData.eqv]
  exact e
theorem zpY (g:Nat->Nat) (r:List Nat):neD (zal g r) (zal g r)=some (.bl false):=by
 have sh:Shp 60 (zal g r):=zho.mpr fun d hd=>by
  obtain ⟨h,_,rfl⟩:=List.mem_map.mp hd
  exact zho.mpr (zpd (l:=[h,g h]))
 unfold neD
 rw [zki rfl sh sh]
 unfold eqb
 simp only [toPy,PyData.eqv,zkg g r]
 rfl
theorem zss (T:Tw rows w n) (hd:dl.Perm (List.range n)) (R:Rk w n g r) (h1:r.any (wrs rows dl g)=false) (h2:r.any (oth dl g)=true):r.any (btr rows dl g)=true:=by
 obtain ⟨h,hh,e⟩:=List.any_eq_true.mp h2
 refine List.any_eq_true.mpr ⟨h,hh,?_⟩
 have hw:=List.any_eq_false.mp h1 h hh
 have hn:=R.lt h hh
 have m1:=T.has hn (R.glt T hh)
 have m2:=T.has hn (zfc hd hn)
 unfold wrs at hw
 unfold btr
 rw [decide_eq_true_iff] at hw ⊢
 unfold Rg.lk at hw ⊢
 have e:dOf dl h≠g h:=by unfold oth at e; simpa using e
 have ne:(Wr rows h).idxOf (g h)≠(Wr rows h).idxOf (dOf dl h):=fun z=>e ((Rg.zti m1 m2 z).symm)
 omega
end
end Law
end
section
namespace Law
open PySem PyProof.Rows L2 DL
section
variable {rows:List (List Nat)} {w dl:List Nat} {n:Nat} {r:List Nat} {g:Nat->Nat}
theorem zqL {m:List Md} {i:Nat} {f fb fc:FE} {r:Rho} {v1 v2 d k1 d1 k2 d2:DL.D} (h0:f r=.ok (.tup [v1,v2])) (h1:r[i]? = some (some d)) (h2:fb r=.ok k1) (h3:stoD d k1 v1=some d1) (h4:fc (r.set i (some d1))=.ok k2) (h5:stoD d1 k2 v2=some d2):swpF m i f fb fc r=.nx ((r.set i (some d1)).set i (some d2)):=by
 unfold swpF
 rw [h0,onE_ok]
 simp only [h1]
 rw [h2,onE_ok]
 simp only [h3]
 rw [h4,onE_ok]
 simp only [h5]
theorem stoL {l:List Nat} {i x:Nat} (h:i < l.length):stoD (LN l) (nD i) (nD x)=some (LN (l.set i x)):=by
 rw [zqQ (by rw [List.length_map]; exact h)]
 show some (DL.D.lst _)=some (DL.D.lst ((l.set i x).map nD))
 rw [List.map_set]
theorem zlj {l:List Nat} {i j n:Nat} (h:l.Perm (List.range n)) (hi:i < n) (hj:j < n):((l.set i (dOf l j)).set j (dOf l i)).Perm (List.range n):=by
 have hil:i < l.length:=by rw [zbb h]; exact hi
 have hjl:j < l.length:=by rw [zbb h]; exact hj
 rw [ze0 (List.getElem?_eq_getElem hil),ze0 (List.getElem?_eq_getElem hjl)]
 exact (List.set_set_perm hil hjl).trans h
theorem zlt (ns:List Int) {n:Nat} (h7:n<=7):∃w:List Nat,w.Perm (List.range n)/\zc0 [IN ns,nD 11,nD n]=.ok (TN w):=by
 obtain ⟨c,h⟩:=zeM ns 11 (by decide)
 obtain ⟨row,p1,p2⟩:=zi1 c n (by omega)
 refine ⟨row,p1,zaQ (B:=zd3) (n:=3) ?_⟩
 unfold zd3
 exact zar (zaG (zam (zae (zam (zae (d:=IN ns) rfl (zae (d:=nD 11) rfl zah)) h) (zae (d:=nD n) rfl zah)) p2))
theorem zpE {l:List Nat} {n:Nat} (hn:l.Nodup) (hl:l.length=n) (hlt:∀x∈l,x < n):l.Perm (List.range n):=by
 refine Rg.zi9 hn List.nodup_range fun x=>⟨fun h=>List.mem_range.mpr (hlt x h),fun h=>?_⟩
 refine Classical.byContradiction fun z=>?_
 have:=Rg.zdi (l:=x::l) (m:=List.range n) (List.nodup_cons.mpr ⟨z,hn⟩) fun y hy=>(List.mem_cons.mp hy).elim (fun e=>by rw [e]; exact h) fun k=>List.mem_range.mpr (hlt y k)
 simp at this; omega
theorem zrJ {l:List Nat} {n i:Nat} (h:l.Perm (List.range n)) (hi:i < n):ixA (LN l) (nD i)=some (nD (dOf l i)):=l_at (by rw [zbb h]; exact hi)
theorem ztb (ns:List Int):zqs [IN ns]=.ok (.bl true):=by
 obtain ⟨c1,h1⟩:=zeM ns 1 (by decide)
 have hn:c1 % 7 < 7:=Nat.mod_lt _ (by decide)
 obtain ⟨rows,r1,r2,r3⟩:=zkB ns 4 (1 + c1 % 7) (1 + c1 % 7) (by omega) (by omega) (by omega)
 obtain ⟨w,w1,w2⟩:=zlt ns (n:=1 + c1 % 7) (by omega)
 obtain ⟨c12,h12⟩:=zeM ns 12 (by decide)
 obtain ⟨dr,d1,d2⟩:=zi1 c12 (1 + c1 % 7) (by omega)
 obtain ⟨c2,h2⟩:=zeM ns 2 (by decide)
 have hn7:1 + c1 % 7<=7:=by omega
 have hn1:1<=1 + c1 % 7:=by omega
 generalize en:1 + c1 % 7=n at r1 r2 r3 w1 w2 hn7 hn1 d1 d2
 have T:Tw rows w n:=⟨hn1,hn7,r1,r2,w1⟩
 have S:=T.scene
 have t:=Rg.zsC (W:=Wr rows) (O:=own (w.map some)) ((s0 rows none).line.length + 1) (s0 rows none) (by omega)
 generalize Rg.deal (Wr rows) (own (w.map some)) ((s0 rows none).line.length + 1) (s0 rows none)=a at t
 have hda:((List.range n).map a).Perm (List.range n):=by
  refine zpE ?_ (by simp) fun x hx=>?_
  ·rw [List.nodup_iff_pairwise_ne,List.pairwise_map]
   refine List.Pairwise.imp_of_mem (fun ha hb h z=>h ?_) List.nodup_range
   exact Rg.zsE t S.ok _ (S.mem.mpr (List.mem_range.mp ha)) _ (S.mem.mpr (List.mem_range.mp hb)) z
  ·obtain ⟨h,h1,rfl⟩:=List.mem_map.mp hx
   have:=Rg.zo6 t S.ok h (S.mem.mpr (List.mem_range.mp h1))
   rw [S.things] at this
   exact List.mem_range.mp this
 obtain ⟨l,hc,hl,hrun⟩:=zkC S.ord S.ne (by rw [T.rl]; omega) S.snd
 have hrun:zcY [WD rows,TN w,.non]=.ok (.lst (l.map (zaC rows))):=by
  have:=hrun
  rw [zqr] at this
  exact this
 obtain ⟨p1,p2⟩:=zqn hc S.ok t
 have e4:=zi3 T hc
 have e5:=zhu T p1 p2
 generalize eal:(List.range n).map a=al at hda e5
 have ho:c2 / 3 % n < n:=Nat.mod_lt _ (by omega)
 have hp:c2 / 21 % n < n:=Nat.mod_lt _ (by omega)
 let sw:List Nat:=(al.set (c2 / 3 % n) (dOf al (c2 / 21 % n))).set (c2 / 21 % n) (dOf al (c2 / 3 % n))
 obtain ⟨dl,z8,z9,z10,hd,hif⟩:∃dl z8 z9 z10,dl.Perm (List.range n)/\∀s2:FS,seqF (ifF q101 (zaB (f2 (f2 (gv 7) (ci 3) modI) (ci 0) gtI)) (seqF (setF q101 8 (fC (zac (gv 5) lNil) zhI)) (seqF (setF q108 9 (f2 (f2 (gv 7) (ci 3) zhO) (gv 1) modI)) (seqF (setF q108 10 (f2 (f2 (gv 7) (ci 21) zhO) (gv 1) modI)) (seqF (ifF q108 (zaB (f2 (f2 (gv 7) (ci 3) modI) (ci 1) eqD)) (seqF (swpF q108 8 (mkT (zac (f2 (gv 8) (gv 10) ixA) (zac (f2 (gv 8) (gv 9) ixA) lNil))) (gv 9) (gv 10)) zaj) zaj) (seqF (setF q108 6 (fC (zac (gv 8) lNil) tupD)) zaj))))) zaj) s2
   [some (IN ns),some (nD n),some (WD rows),some (TN w),some (.lst (l.map (zaC rows))),some (LN al),some (TN dr),some (nD c2),none,none,none,none,none,none]
   = s2 [some (IN ns),some (nD n),some (WD rows),some (TN w),some (.lst (l.map (zaC rows))),some (LN al),some (TN dl),some (nD c2),z8,z9,z10,none,none,none]:=by
  have tst:=zav (r:=[some (IN ns),some (nD n),some (WD rows),some (TN w),some (.lst (l.map (zaC rows))),some (LN al),some (TN dr),some (nD c2),none,none,none,none,none,none]) (zak (k:=gtI) (f:=f2 (gv 7) (ci 3) modI) (f':=fun _=>Res.ok (D.int 0)) (a:=nD (c2 % 3)) (b:=nD 0) (zak (a:=nD c2) (b:=nD 3) rfl rfl (zei (by decide))) rfl (zn7 _ _))
  by_cases q:0 < c2 % 3
  ·rw [decide_eq_true q] at tst
   have tst2:=zav (r:=[some (IN ns),some (nD n),some (WD rows),some (TN w),some (.lst (l.map (zaC rows))),some (LN al),some (TN dr),some (nD c2),some (LN al),some (nD (c2 / 3 % n)),some (nD (c2 / 21 % n)),none,none,none]) (zak (k:=eqD) (f:=f2 (gv 7) (ci 3) modI) (f':=fun _=>Res.ok (D.int 1)) (a:=nD (c2 % 3)) (b:=nD 1) (zak (a:=nD c2) (b:=nD 3) rfl rfl (zei (by decide))) rfl (ziC _ _))
   by_cases q1:c2 % 3=1
   ·rw [decide_eq_true q1] at tst2
    refine ⟨sw,some (LN sw),some (nD (c2 / 3 % n)),some (nD (c2 / 21 % n)),zlj hda ho hp,fun s2=>zad ((if_t tst).trans ?_)⟩
    refine (zad (zat (d:=LN al) (zaS (zae (d:=LN al) rfl zah) (e_listL _)))).trans ?_
    refine (zad (zat (d:=nD (c2 / 3 % n)) (zak (a:=nD (c2 / 3)) (b:=nD n) (zak (a:=nD c2) (b:=nD 3) rfl rfl (zgj (by decide) (by decide))) rfl (zei (by omega))))).trans ?_
    refine (zad (zat (d:=nD (c2 / 21 % n)) (zak (a:=nD (c2 / 21)) (b:=nD n) (zak (a:=nD c2) (b:=nD 21) rfl rfl (zgj (by decide) (by decide))) rfl (zei (by omega))))).trans ?_
    refine (zad ((if_t tst2).trans (zad (zqL (v1:=nD (dOf al (c2 / 21 % n))) (v2:=nD (dOf al (c2 / 3 % n))) (d:=LN al) (k1:=nD (c2 / 3 % n)) (d1:=LN (al.set (c2 / 3 % n) (dOf al (c2 / 21 % n)))) (k2:=nD (c2 / 21 % n)) (d2:=LN sw) (zj4 (ds:=[nD (dOf al (c2 / 21 % n)),nD (dOf al (c2 / 3 % n))]) (zae (zak (a:=LN al) (b:=nD (c2 / 21 % n)) rfl rfl (zrJ hda hp)) (zae (zak (a:=LN al) (b:=nD (c2 / 3 % n)) rfl rfl (zrJ hda ho)) zah)) (by simp)) rfl rfl (stoL (by rw [zbb hda]; exact ho)) rfl (stoL (by rw [List.length_set,zbb hda]; exact hp)))))).trans ?_
    exact zad (zat (d:=TN sw) (zaS (zae (d:=LN sw) rfl zah) (e_tupL _)))
   ·rw [decide_eq_false q1] at tst2
    refine ⟨al,some (LN al),some (nD (c2 / 3 % n)),some (nD (c2 / 21 % n)),hda,fun s2=>zad ((if_t tst).trans ?_)⟩
    refine (zad (zat (d:=LN al) (zaS (zae (d:=LN al) rfl zah) (e_listL _)))).trans ?_
    refine (zad (zat (d:=nD (c2 / 3 % n)) (zak (a:=nD (c2 / 3)) (b:=nD n) (zak (a:=nD c2) (b:=nD 3) rfl rfl (zgj (by decide) (by decide))) rfl (zei (by omega))))).trans ?_
    refine (zad (zat (d:=nD (c2 / 21 % n)) (zak (a:=nD (c2 / 21)) (b:=nD n) (zak (a:=nD c2) (b:=nD 21) rfl rfl (zgj (by decide) (by decide))) rfl (zei (by omega))))).trans ?_
    refine (zad ((if_f tst2).trans (e_skip _))).trans ?_
    exact zad (zat (d:=TN al) (zaS (zae (d:=LN al) rfl zah) (e_tupL _)))
  ·rw [decide_eq_false q] at tst
   exact ⟨dr,none,none,none,d1,fun s2=>zad ((if_f tst).trans (e_skip _))⟩
 have fst:=zly T hd hc (fun p hp h hh=>(p1 p hp h hh).1) hrun
 rw [eal] at fst
 refine zaQ (B:=zoq) (n:=14) ?_
 unfold zoq
 refine (zad (zat (d:=nD n) (zak (a:=nD 1) (b:=nD (c1 % 7)) rfl (zak (a:=nD c1) (b:=nD 7) (zam (zae (d:=IN ns) rfl (zae (d:=nD 1) rfl zah)) h1) rfl (zei (by decide))) (by rw [zg9,en])))).trans ?_
 refine (zad (zat (zam (zae (d:=IN ns) rfl (zae (d:=nD 4) rfl (zae (d:=nD n) rfl (zae (d:=nD n) rfl zah)))) r3))).trans ?_
 refine (zad (zat (zam (zae (d:=IN ns) rfl (zae (d:=nD 11) rfl (zae (d:=nD n) rfl zah))) w2))).trans ?_
 refine (zad (zat (zam (zae (d:=WD rows) rfl (zae (d:=TN w) rfl zah)) e4))).trans ?_
 refine (zad (zat (zam (zae (d:=.lst (l.map (zaC rows))) rfl (zae (d:=nD n) rfl zah)) e5))).trans ?_
 refine (zad (zat (zam (zae (zam (zae (d:=IN ns) rfl (zae (d:=nD 12) rfl zah)) h12) (zae (d:=nD n) rfl zah)) d2))).trans ?_
 refine (zad (zat (zam (zae (d:=IN ns) rfl (zae (d:=nD 2) rfl zah)) h2))).trans ?_
 refine (hif _).trans ?_
 have rg:fRng rng1 (zac (ci 2) lNil)=fun _=>Res.ok [nD 0,nD 1]:=rfl
 rcases fst with ⟨r,g,R,q1,q2,q3,q4⟩ | ⟨q3,q4⟩
 ·refine (zad (zat (zam (zae (d:=.lst (l.map (zaC rows))) rfl (zae (d:=TN dl) rfl (zae (d:=LN al) rfl zah))) q4))).trans ?_
  have st:∀(k:Nat) (y12 y13:Option D),zjD [some (IN ns),some (nD n),some (WD rows),some (TN w),some (.lst (l.map (zaC rows))),some (LN al),some (TN dl),some (nD c2),z8,z9,z10,some (zal g r),y12,y13]=.nx [some (IN ns),some (nD n),some (WD rows),some (TN w),some (.lst (l.map (zaC rows))),some (LN al),some (TN dl),some (nD c2),z8,z9,z10,some (zal g r),y12,some (zal g r)]:=fun k y12 y13=>by
   refine (zad (zat (zam (zae (d:=WD rows) rfl (zae (d:=TN w) rfl (zae (d:=TN dl) rfl zah))) q3))).trans ?_
   refine zad ((if_f (zav (zak (a:=zal g r) (b:=.non) rfl rfl rfl))).trans (zad ((if_f ?_).trans (e_skip _))))
   exact (or_f (zdz (b:=true) (zbj (zam (zae (d:=zal g r) rfl zah) (zia g r)) rfl))).trans (zav (zak (a:=zal g r) (b:=zal g r) rfl rfl (zpY g r)))
  refine (zad ((zaI (ds:=[nD 0,nD 1]) rfl).trans ((zbh (r1:=[some (IN ns),some (nD n),some (WD rows),some (TN w),some (.lst (l.map (zaC rows))),some (LN al),some (TN dl),some (nD c2),z8,z9,z10,some (zal g r),some (nD 0),none]) rfl (st 0 _ _)).trans ((zbh (r1:=[some (IN ns),some (nD n),some (WD rows),some (TN w),some (.lst (l.map (zaC rows))),some (LN al),some (TN dl),some (nD c2),z8,z9,z10,some (zal g r),some (nD 1),some (zal g r)]) rfl (st 1 _ _)).trans za3)))).trans ?_
  refine (zad ((if_f (zav (zak (a:=zal g r) (b:=.non) rfl rfl rfl))).trans (e_skip _))).trans ?_
  have lg:=zlw T hd R
  have gg:=znr T hd R
  rw [q1,q2] at lg
  rw [q1,zss T hd R q1 q2] at gg
  exact zar (zaG ((zld (zam (zae (d:=WD rows) rfl (zae (d:=TN w) rfl (zae (d:=TN dl) rfl (zae (d:=zal g r) rfl zah)))) lg)).trans (zam (zae (d:=WD rows) rfl (zae (d:=TN w) rfl (zae (d:=TN dl) rfl (zae (d:=zal g r) rfl zah)))) gg)))
 ·refine (zad (zat (zam (zae (d:=.lst (l.map (zaC rows))) rfl (zae (d:=TN dl) rfl (zae (d:=LN al) rfl zah))) q4))).trans ?_
  have st:∀(y12 y13:Option D),zjD [some (IN ns),some (nD n),some (WD rows),some (TN w),some (.lst (l.map (zaC rows))),some (LN al),some (TN dl),some (nD c2),z8,z9,z10,some .non,y12,y13]=.nx [some (IN ns),some (nD n),some (WD rows),some (TN w),some (.lst (l.map (zaC rows))),some (LN al),some (TN dl),some (nD c2),z8,z9,z10,some .non,y12,some .non]:=fun y12 y13=>by
   refine (zad (zat (zam (zae (d:=WD rows) rfl (zae (d:=TN w) rfl (zae (d:=TN dl) rfl zah))) q3))).trans ?_
   exact zad ((if_t (zav (zak (a:=.non) (b:=.non) rfl rfl rfl))).trans (zad ((if_f (zav (zak (a:=.non) (b:=.non) rfl rfl rfl))).trans (e_skip _))))
  refine (zad ((zaI (ds:=[nD 0,nD 1]) rfl).trans ((zbh (r1:=[some (IN ns),some (nD n),some (WD rows),some (TN w),some (.lst (l.map (zaC rows))),some (LN al),some (TN dl),some (nD c2),z8,z9,z10,some .non,some (nD 0),none]) rfl (st _ _)).trans ((zbh (r1:=[some (IN ns),some (nD n),some (WD rows),some (TN w),some (.lst (l.map (zaC rows))),some (LN al),some (TN dl),some (nD c2),z8,z9,z10,some .non,some (nD 1),some .non]) rfl (st _ _)).trans za3)))).trans ?_
  exact zar ((if_t (zav (zak (a:=.non) (b:=.non) rfl rfl rfl))).trans (zar (zaG (d:=.bl true) rfl)))
end
theorem main (ns:List Int) (_:ns.length<=63):zqs [.lst (ns.map .int)]=.ok (.bl true):=ztb ns
end Law
end
open PySem PySem.W PyProof.Rows
namespace PySem.W.Fast
def tw3300786808349521586:=0
def tw4991662897520012232:=0
def tw4934067794416696311:=0
def tw6310433628485377283:=0
def tw6009911289446156654:=0
end PySem.W.Fast
set_option maxRecDepth 100000 in
set_option maxHeartbeats 0 in
theorem PySem.Challenge.cw_ringtrade_k15_first_ring_that_goes_holds : PySem.Challenge.rw_ringtrade_k15_first_ring_that_goes.Holds := by
 w_on; o_law; k_head; (case hw=>w_witness2)
 k_fill
 refine DL.zty (l:=PySem.Challenge.rw_ringtrade_k15_first_ring_that_goes) (k:=9) (x := "_law_script") (F:=Law.zqs) rfl rfl ⟨rfl,by decide,by decide,rfl⟩ (fun w h Y=>PySem.W.kIn_of Y) Law.main ?C
 intro w mg fa h KX G hmg
 have T:Law.Txt (L2.KOf KX) mg:=by
  dsimp only [L2.KOf]
  refine ⟨?b_range,?b_tuple,?b_len,?b_min,?b_list,?b_sorted,?b_dict,?b_isinstance,?b_bool,?b_int,?b_enumerate,?b_any,?b_max,?b_set,?b_all⟩
  case b_range=>(refine' PySem.W.mg_none_of KX G ?z_b_range; k_is)
  case b_tuple=>(refine' PySem.W.mg_none_of KX G ?z_b_tuple; k_is)
  case b_len=>(refine' PySem.W.mg_none_of KX G ?z_b_len; k_is)
  case b_min=>(refine' PySem.W.mg_none_of KX G ?z_b_min; k_is)
  case b_list=>(refine' PySem.W.mg_none_of KX G ?z_b_list; k_is)
  case b_sorted=>(refine' PySem.W.mg_none_of KX G ?z_b_sorted; k_is)
  case b_dict=>(refine' PySem.W.mg_none_of KX G ?z_b_dict; k_is)
  case b_isinstance=>(refine' PySem.W.mg_none_of KX G ?z_b_isinstance; k_is)
  case b_bool=>(refine' PySem.W.mg_none_of KX G ?z_b_bool; k_is)
  case b_int=>(refine' PySem.W.mg_none_of KX G ?z_b_int; k_is)
  case b_enumerate=>(refine' PySem.W.mg_none_of KX G ?z_b_enumerate; k_is)
  case b_any=>(refine' PySem.W.mg_none_of KX G ?z_b_any; k_is)
  case b_max=>(refine' PySem.W.mg_none_of KX G ?z_b_max; k_is)
  case b_set=>(refine' PySem.W.mg_none_of KX G ?z_b_set; k_is)
  case b_all=>(refine' PySem.W.mg_none_of KX G ?z_b_all; k_is)
 have A__law_row:DL.DefAt (L2.KOf KX) mg "_law_row" Law.zfX:=by
  dsimp only [L2.KOf]
  refine' DL.ztx KX G ?a ?l ?c ?k
  (case a=>k_is)
  (case l=>k_is)
  (case c=>k_is)
  (case k=>k_is)
 have A__law_cell:DL.DefAt (L2.KOf KX) mg "_law_cell" Law.zfq:=by
  dsimp only [L2.KOf]
  refine' DL.ztx KX G ?a ?l ?c ?k
  (case a=>k_is)
  (case l=>k_is)
  (case c=>k_is)
  (case k=>k_is)
 have A__law_wishes:DL.DefAt (L2.KOf KX) mg "_law_wishes" Law.zb4:=by
  dsimp only [L2.KOf]
  refine' DL.ztx KX G ?a ?l ?c ?k
  (case a=>k_is)
  (case l=>k_is)
  (case c=>k_is)
  (case k=>k_is)
 have A__law_owned:DL.DefAt (L2.KOf KX) mg "_law_owned" Law.zeH:=by
  dsimp only [L2.KOf]
  refine' DL.ztx KX G ?a ?l ?c ?k
  (case a=>k_is)
  (case l=>k_is)
  (case c=>k_is)
  (case k=>k_is)
 have A__law_best:DL.DefAt (L2.KOf KX) mg "_law_best" Law.zfr:=by
  dsimp only [L2.KOf]
  refine' DL.ztx KX G ?a ?l ?c ?k
  (case a=>k_is)
  (case l=>k_is)
  (case c=>k_is)
  (case k=>k_is)
 have A__law_ring_of:DL.DefAt (L2.KOf KX) mg "_law_ring_of" Law.zdG:=by
  dsimp only [L2.KOf]
  refine' DL.ztx KX G ?a ?l ?c ?k
  (case a=>k_is)
  (case l=>k_is)
  (case c=>k_is)
  (case k=>k_is)
 have A__law_rounds:DL.DefAt (L2.KOf KX) mg "_law_rounds" Law.zb5:=by
  dsimp only [L2.KOf]
  refine' DL.ztx KX G ?a ?l ?c ?k
  (case a=>k_is)
  (case l=>k_is)
  (case c=>k_is)
  (case k=>k_is)
 have A__law_by_rounds:DL.DefAt (L2.KOf KX) mg "_law_by_rounds" Law.zbv:=by
  dsimp only [L2.KOf]
  refine' DL.ztx KX G ?a ?l ?c ?k
  (case a=>k_is)
  (case l=>k_is)
  (case c=>k_is)
  (case k=>k_is)
 have A__law_first_other:DL.DefAt (L2.KOf KX) mg "_law_first_other" Law.zaM:=by
  dsimp only [L2.KOf]
  refine' DL.ztx KX G ?a ?l ?c ?k
  (case a=>k_is)
  (case l=>k_is)
  (case c=>k_is)
  (case k=>k_is)
 have A_things_in:DL.DefAt (L2.KOf KX) mg "things_in" Law.zfn:=by
  dsimp only [L2.KOf]
  refine' DL.ztx KX G ?a ?l ?c ?k
  (case a=>k_is)
  (case l=>k_is)
  (case c=>k_is)
  (case k=>k_is)
 have A_is_square:DL.DefAt (L2.KOf KX) mg "is_square" Law.zfp:=by
  dsimp only [L2.KOf]
  refine' DL.ztx KX G ?a ?l ?c ?k
  (case a=>k_is)
  (case l=>k_is)
  (case c=>k_is)
  (case k=>k_is)
 have A_is_whole:DL.DefAt (L2.KOf KX) mg "is_whole" Law.zfV:=by
  dsimp only [L2.KOf]
  refine' DL.ztx KX G ?a ?l ?c ?k
  (case a=>k_is)
  (case l=>k_is)
  (case c=>k_is)
  (case k=>k_is)
 have A_is_below:DL.DefAt (L2.KOf KX) mg "is_below" Law.zfW:=by
  dsimp only [L2.KOf]
  refine' DL.ztx KX G ?a ?l ?c ?k
  (case a=>k_is)
  (case l=>k_is)
  (case c=>k_is)
  (case k=>k_is)
 have A_refuse_unless_all_owned:DL.DefAt (L2.KOf KX) mg "refuse_unless_all_owned" Law.zby:=by
  dsimp only [L2.KOf]
  refine' DL.ztx KX G ?a ?l ?c ?k
  (case a=>k_is)
  (case l=>k_is)
  (case c=>k_is)
  (case k=>k_is)
 have A_first_wrong:DL.DefAt (L2.KOf KX) mg "first_wrong" Law.zed:=by
  dsimp only [L2.KOf]
  refine' DL.ztx KX G ?a ?l ?c ?k
  (case a=>k_is)
  (case l=>k_is)
  (case c=>k_is)
  (case k=>k_is)
 have A_are_unlike:DL.DefAt (L2.KOf KX) mg "are_unlike" Law.zeG:=by
  dsimp only [L2.KOf]
  refine' DL.ztx KX G ?a ?l ?c ?k
  (case a=>k_is)
  (case l=>k_is)
  (case c=>k_is)
  (case k=>k_is)
 have A_has_each_once:DL.DefAt (L2.KOf KX) mg "has_each_once" Law.zdy:=by
  dsimp only [L2.KOf]
  refine' DL.ztx KX G ?a ?l ?c ?k
  (case a=>k_is)
  (case l=>k_is)
  (case c=>k_is)
  (case k=>k_is)
 have A_order_of:DL.DefAtD (L2.KOf KX) mg "order_of" Law.zfU [Value.none]:=by
  dsimp only [L2.KOf]
  refine' DL.ztr KX G ?a ?l ?t ?c ?k
  (case a=>k_is)
  (case l=>k_is)
  (case t=>k_is)
  (case c=>k_is)
  (case k=>k_is)
 have A_best_left:DL.DefAt (L2.KOf KX) mg "best_left" Law.zcP:=by
  dsimp only [L2.KOf]
  refine' DL.ztx KX G ?a ?l ?c ?k
  (case a=>k_is)
  (case l=>k_is)
  (case c=>k_is)
  (case k=>k_is)
 have A_owner_left:DL.DefAt (L2.KOf KX) mg "owner_left" Law.zeF:=by
  dsimp only [L2.KOf]
  refine' DL.ztx KX G ?a ?l ?c ?k
  (case a=>k_is)
  (case l=>k_is)
  (case c=>k_is)
  (case k=>k_is)
 have A_hand_pointed_at:DL.DefAt (L2.KOf KX) mg "hand_pointed_at" Law.zcO:=by
  dsimp only [L2.KOf]
  refine' DL.ztx KX G ?a ?l ?c ?k
  (case a=>k_is)
  (case l=>k_is)
  (case c=>k_is)
  (case k=>k_is)
 have A_ring_from:DL.DefAt (L2.KOf KX) mg "ring_from" Law.zfo:=by
  dsimp only [L2.KOf]
  refine' DL.ztx KX G ?a ?l ?c ?k
  (case a=>k_is)
  (case l=>k_is)
  (case c=>k_is)
  (case k=>k_is)
 have A_rings_of_round:DL.DefAt (L2.KOf KX) mg "rings_of_round" Law.zaZ:=by
  dsimp only [L2.KOf]
  refine' DL.ztx KX G ?a ?l ?c ?k
  (case a=>k_is)
  (case l=>k_is)
  (case c=>k_is)
  (case k=>k_is)
 have A_got_in:DL.DefAt (L2.KOf KX) mg "got_in" Law.zh1:=by
  dsimp only [L2.KOf]
  refine' DL.ztx KX G ?a ?l ?c ?k
  (case a=>k_is)
  (case l=>k_is)
  (case c=>k_is)
  (case k=>k_is)
 have A_rounds:DL.DefAtD (L2.KOf KX) mg "rounds" Law.zbn [Value.none]:=by
  dsimp only [L2.KOf]
  refine' DL.ztr KX G ?a ?l ?t ?c ?k
  (case a=>k_is)
  (case l=>k_is)
  (case t=>k_is)
  (case c=>k_is)
  (case k=>k_is)
 have A_goers:DL.DefAt (L2.KOf KX) mg "goers" Law.zfL:=by
  dsimp only [L2.KOf]
  refine' DL.ztx KX G ?a ?l ?c ?k
  (case a=>k_is)
  (case l=>k_is)
  (case c=>k_is)
  (case k=>k_is)
 have A__law_likes:DL.DefAt (L2.KOf KX) mg "_law_likes" Law.zeI:=by
  dsimp only [L2.KOf]
  refine' DL.ztx KX G ?a ?l ?c ?k
  (case a=>k_is)
  (case l=>k_is)
  (case c=>k_is)
  (case k=>k_is)
 have A__law_goes:DL.DefAt (L2.KOf KX) mg "_law_goes" Law.zbf:=by
  dsimp only [L2.KOf]
  refine' DL.ztx KX G ?a ?l ?c ?k
  (case a=>k_is)
  (case l=>k_is)
  (case c=>k_is)
  (case k=>k_is)
 have A_ones_behind:DL.DefAt (L2.KOf KX) mg "ones_behind" Law.zec:=by
  dsimp only [L2.KOf]
  refine' DL.ztx KX G ?a ?l ?c ?k
  (case a=>k_is)
  (case l=>k_is)
  (case c=>k_is)
  (case k=>k_is)
 have A_is_ring_of_owns:DL.DefAt (L2.KOf KX) mg "is_ring_of_owns" Law.zaz:=by
  dsimp only [L2.KOf]
  refine' DL.ztx KX G ?a ?l ?c ?k
  (case a=>k_is)
  (case l=>k_is)
  (case c=>k_is)
  (case k=>k_is)
 have A_likes:DL.DefAt (L2.KOf KX) mg "likes" Law.zjM:=by
  dsimp only [L2.KOf]
  refine' DL.ztx KX G ?a ?l ?c ?k
  (case a=>k_is)
  (case l=>k_is)
  (case c=>k_is)
  (case k=>k_is)
 have A_goes:DL.DefAt (L2.KOf KX) mg "goes" Law.ze9:=by
  dsimp only [L2.KOf]
  refine' DL.ztx KX G ?a ?l ?c ?k
  (case a=>k_is)
  (case l=>k_is)
  (case c=>k_is)
  (case k=>k_is)
 have A__law_is_ring:DL.DefAt (L2.KOf KX) mg "_law_is_ring" Law.zbN:=by
  dsimp only [L2.KOf]
  refine' DL.ztx KX G ?a ?l ?c ?k
  (case a=>k_is)
  (case l=>k_is)
  (case c=>k_is)
  (case k=>k_is)
 have A_law:DL.DefAt (L2.KOf KX) mg "law" Law.zou:=by
  dsimp only [L2.KOf]
  refine' DL.ztx KX G ?a ?l ?c ?k
  (case a=>k_is)
  (case l=>k_is)
  (case c=>k_is)
  (case k=>k_is)
 refine DL.ztw hmg A_law (fun _ _ _ _ _ _ us hl=>match us,hl with | [_],_=>rfl) fun f fd Fn base=>?_
 have C__law_row:=Law.zpU (P:=PySem.Challenge.rw_ringtrade_k15_first_ring_that_goes.prog) (w:=w) (base:=base) T A__law_row
 have C__law_cell:=Law.zoL (P:=PySem.Challenge.rw_ringtrade_k15_first_ring_that_goes.prog) (w:=w) (base:=base) T A__law_cell
 have C__law_wishes:=Law.zne (P:=PySem.Challenge.rw_ringtrade_k15_first_ring_that_goes.prog) (w:=w) (base:=base) T A__law_wishes C__law_cell C__law_row
 have C__law_owned:=Law.znN (P:=PySem.Challenge.rw_ringtrade_k15_first_ring_that_goes.prog) (w:=w) (base:=base) T A__law_owned C__law_cell C__law_row
 have C__law_best:=Law.zoM (P:=PySem.Challenge.rw_ringtrade_k15_first_ring_that_goes.prog) (w:=w) (base:=base) T A__law_best
 have C__law_ring_of:=Law.zl4 (P:=PySem.Challenge.rw_ringtrade_k15_first_ring_that_goes.prog) (w:=w) (base:=base) T A__law_ring_of
 have C__law_rounds:=Law.znf (P:=PySem.Challenge.rw_ringtrade_k15_first_ring_that_goes.prog) (w:=w) (base:=base) T A__law_rounds C__law_best C__law_ring_of
 have C__law_by_rounds:=Law.zkM (P:=PySem.Challenge.rw_ringtrade_k15_first_ring_that_goes.prog) (w:=w) (base:=base) T A__law_by_rounds
 have C__law_first_other:=Law.zi8 (P:=PySem.Challenge.rw_ringtrade_k15_first_ring_that_goes.prog) (w:=w) (base:=base) T A__law_first_other
 have C_things_in:=Law.zoG (P:=PySem.Challenge.rw_ringtrade_k15_first_ring_that_goes.prog) (w:=w) (base:=base) T A_things_in
 have C_is_square:=Law.zoI (P:=PySem.Challenge.rw_ringtrade_k15_first_ring_that_goes.prog) (w:=w) (base:=base) T A_is_square C_things_in
 have C_is_whole:=Law.zpS (P:=PySem.Challenge.rw_ringtrade_k15_first_ring_that_goes.prog) (w:=w) (base:=base) T A_is_whole
 have C_is_below:=Law.zpT (P:=PySem.Challenge.rw_ringtrade_k15_first_ring_that_goes.prog) (w:=w) (base:=base) T A_is_below C_is_whole
 have C_refuse_unless_all_owned:=Law.zgD (P:=PySem.Challenge.rw_ringtrade_k15_first_ring_that_goes.prog) (w:=w) (base:=base) T A_refuse_unless_all_owned C_is_square C_is_below
 have C_first_wrong:=Law.znd (P:=PySem.Challenge.rw_ringtrade_k15_first_ring_that_goes.prog) (w:=w) (base:=base) T A_first_wrong C_is_below
 have C_are_unlike:=Law.znM (P:=PySem.Challenge.rw_ringtrade_k15_first_ring_that_goes.prog) (w:=w) (base:=base) T A_are_unlike C_first_wrong
 have C_has_each_once:=Law.zla (P:=PySem.Challenge.rw_ringtrade_k15_first_ring_that_goes.prog) (w:=w) (base:=base) T A_has_each_once C_are_unlike
 have C_order_of:=Law.zpR (P:=PySem.Challenge.rw_ringtrade_k15_first_ring_that_goes.prog) (w:=w) (base:=base) T A_order_of C_has_each_once
 have C_best_left:=Law.zoJ (P:=PySem.Challenge.rw_ringtrade_k15_first_ring_that_goes.prog) (w:=w) (base:=base) T A_best_left
 have C_owner_left:=Law.znL (P:=PySem.Challenge.rw_ringtrade_k15_first_ring_that_goes.prog) (w:=w) (base:=base) T A_owner_left
 have C_hand_pointed_at:=Law.zj1 (P:=PySem.Challenge.rw_ringtrade_k15_first_ring_that_goes.prog) (w:=w) (base:=base) T A_hand_pointed_at C_owner_left
 have C_ring_from:=Law.zoH (P:=PySem.Challenge.rw_ringtrade_k15_first_ring_that_goes.prog) (w:=w) (base:=base) T A_ring_from
 have C_rings_of_round:=Law.zkL (P:=PySem.Challenge.rw_ringtrade_k15_first_ring_that_goes.prog) (w:=w) (base:=base) T A_rings_of_round C_best_left C_hand_pointed_at C_ring_from
 have C_got_in:=Law.zrw (P:=PySem.Challenge.rw_ringtrade_k15_first_ring_that_goes.prog) (w:=w) (base:=base) T A_got_in
 have C_rounds:=Law.zrv (P:=PySem.Challenge.rw_ringtrade_k15_first_ring_that_goes.prog) (w:=w) (base:=base) T A_rounds C_order_of C_things_in C_rings_of_round C_got_in
 have C_rounds':=Law.zqt (P:=PySem.Challenge.rw_ringtrade_k15_first_ring_that_goes.prog) (w:=w) (base:=base) T A_rounds C_order_of C_things_in C_rings_of_round C_got_in
 have C_goers:=Law.zsB (P:=PySem.Challenge.rw_ringtrade_k15_first_ring_that_goes.prog) (w:=w) (base:=base) T A_goers C_refuse_unless_all_owned C_rounds'
 have C__law_likes:=Law.znO (P:=PySem.Challenge.rw_ringtrade_k15_first_ring_that_goes.prog) (w:=w) (base:=base) T A__law_likes
 have C__law_goes:=Law.zoK (P:=PySem.Challenge.rw_ringtrade_k15_first_ring_that_goes.prog) (w:=w) (base:=base) T A__law_goes C__law_likes
 have C_ones_behind:=Law.znc (P:=PySem.Challenge.rw_ringtrade_k15_first_ring_that_goes.prog) (w:=w) (base:=base) T A_ones_behind
 have C_is_ring_of_owns:=Law.zj0 (P:=PySem.Challenge.rw_ringtrade_k15_first_ring_that_goes.prog) (w:=w) (base:=base) T A_is_ring_of_owns C_are_unlike C_ones_behind
 have C_likes:=Law.zsA (P:=PySem.Challenge.rw_ringtrade_k15_first_ring_that_goes.prog) (w:=w) (base:=base) T A_likes
 have C_goes:=Law.zs5 (P:=PySem.Challenge.rw_ringtrade_k15_first_ring_that_goes.prog) (w:=w) (base:=base) T A_goes C_refuse_unless_all_owned C_is_ring_of_owns C_likes
 have C__law_is_ring:=Law.zl5 (P:=PySem.Challenge.rw_ringtrade_k15_first_ring_that_goes.prog) (w:=w) (base:=base) T A__law_is_ring
 exact Law.ztv T Fn C__law_cell C__law_wishes C__law_owned C__law_rounds C__law_by_rounds C__law_row C__law_first_other C_goers C__law_is_ring C_goes C__law_goes
end
