import PyProof.Rows.All
import Wide.All
import OpenK.AllK
import Wide.FinOn
import Lean
import PyProof.EqAt
import PyProof.EqKinds
import PyProof.TupleCall
import PyProof.Rows.SetFrom
import KE.KSortTup
import PyProof.Draws
import PyProof.EnumMake
import PyProof.ListRange
import PyProof.Rows.EnumRows
import PyProof.SetRoads
import PyProof.Rows.MinMaxN
import PyProof.Rows.MaxTwoN
import PyProof.ZipIter
import KE.LcSums
import PySem.Challenge.RW_ringtrade_k35_whole_heights_or_ring
noncomputable section
set_option Elab.async false
set_option linter.all false
set_option maxRecDepth 100000
set_option maxHeartbeats 4000000
section
namespace L2
open PySem PySem.Spec PyProof.Rows
noncomputable abbrev Key:=Sum Int Str
noncomputable def zjI:Key->Value->Bool
 | .inl k,v=>Value.isInt k v
 | .inr x,v=>Value.isStrOf x v
noncomputable def keyH (w:World):Key->Int
 | .inl k=>hashInt k
 | .inr x=>hashStr w x
theorem keyIs_shape:∀{k:Key} {v:Value},zjI k v=true->(∃i t,k=Sum.inl i/\v=Value.int i t)\/(∃x t,k=Sum.inr x/\v=Value.str x t)
 | .inl i,v,h=>by
  obtain ⟨t,e⟩:=Value.isInt_shape (k:=i) (v:=v) h
  exact .inl ⟨i,t,rfl,e⟩
 | .inr x,v,h=>by
  obtain ⟨t,e⟩:=Value.isStrOf_shape (x:=x) (v:=v) h
  exact .inr ⟨x,t,rfl,e⟩
theorem zlg (i:Int) (t:Tok):zjI (.inl i) (.int i t)=true:=by simp [zjI,Value.isInt]
theorem zlf (x:Str) (t:Tok):zjI (.inr x) (.str x t)=true:=by simp [zjI,Value.isStrOf]
theorem zry (a b:Int):decide ((Sum.inl a:Key)=Sum.inl b)=(a == b):=by
 by_cases e:a=b
 ·subst e; simp
 ·have h:¬ (Sum.inl a:Key)=Sum.inl b:=fun q=>e (Sum.inl.inj q)
  rw [decide_eq_false h]
  exact (beq_eq_false_iff_ne.mpr e).symm
theorem zrv (a b:Str):decide ((Sum.inr a:Key)=Sum.inr b)=decide (a=b):=by
 by_cases e:a=b
 ·subst e; simp
 ·have h:¬ (Sum.inr a:Key)=Sum.inr b:=fun q=>e (Sum.inr.inj q)
  rw [decide_eq_false h,decide_eq_false e]
theorem zrx (a:Int) (b:Str):decide ((Sum.inl a:Key)=Sum.inr b)=false:=decide_eq_false (fun q=>nomatch q)
theorem zrw (a:Str) (b:Int):decide ((Sum.inr a:Key)=Sum.inl b)=false:=decide_eq_false (fun q=>nomatch q)
noncomputable def zbc (prog:Program) (w:World):PySem.KeyKind prog w Key where
 is:=zjI
 hash:=keyH w
 inj:=fun v a b ha hb=>by
  rcases keyIs_shape ha with ⟨i,t,rfl,rfl⟩ | ⟨x,t,rfl,rfl⟩
  ·rcases keyIs_shape hb with ⟨j,u,rfl,e⟩ | ⟨y,u,rfl,e⟩
   ·injection e with e1 _; rw [e1]
   ·exact nomatch e
  ·rcases keyIs_shape hb with ⟨j,u,rfl,e⟩ | ⟨y,u,rfl,e⟩
   ·exact nomatch e
   ·injection e with e1 _; rw [e1]
 byValue:=fun k v h=>by
  rcases keyIs_shape h with ⟨i,t,rfl,rfl⟩ | ⟨x,t,rfl,rfl⟩ <;> rfl
 pyHash:=fun hv h=>by
  rcases keyIs_shape hv with ⟨i,t,rfl,rfl⟩ | ⟨x,t,rfl,rfl⟩
  ·exact wpAny_pyHash_int h
  ·exact wpAny_pyHash_str h
 eqBool:=fun hu hv h=>by
  rcases keyIs_shape hu with ⟨i,t,rfl,rfl⟩ | ⟨x,t,rfl,rfl⟩
  ·rcases keyIs_shape hv with ⟨j,u,rfl,rfl⟩ | ⟨y,u,rfl,rfl⟩
   ·rw [zry] at h; exact wpAny_eqBool_int h
   ·rw [zrx] at h; exact SeqAt.EqAt.int_str i t y u _ _ _ _ h
  ·rcases keyIs_shape hv with ⟨j,u,rfl,rfl⟩ | ⟨y,u,rfl,rfl⟩
   ·rw [zrw] at h; exact SeqAt.EqAt.str_int x t j u _ _ _ _ h
   ·rw [zrv] at h; exact wpAny_eqBool_str h
 «strs»:=fun k x t v h=>by
  rcases keyIs_shape h with ⟨i,u,rfl,e⟩ | ⟨y,u,rfl,e⟩
  ·exact nomatch e
  ·injection e with e1 _
   subst e1
   cases v <;> rfl
theorem zig (prog:Program) (w:World) (i:Int) (t:Tok):(zbc prog w).is (.inl i) (.int i t)=true:=zlg i t
theorem zif (prog:Program) (w:World) (x:Str) (t:Tok):(zbc prog w).is (.inr x) (.str x t)=true:=zlf x t
inductive V where
 | non | bl (b:Bool) | int (i:Int) | str (x:Str) | byt (b:Array UInt8) | flt (b:UInt64) | ref (a:Addr) | ty (n:String)
 deriving DecidableEq
noncomputable def RelV:V->Value->Prop
 | .non,u=>u=Value.none
 | .bl b,u=>u=Value.bool b
 | .int i,u=>∃t,u=Value.int i t
 | .str x,u=>∃t,u=Value.str x t
 | .byt b,u=>∃t,u=Value.bytes b t
 | .flt b,u=>∃t,u=Value.float b t
 | .ref a,u=>u=Value.ref a
 | .ty n,u=>u=Value.type n
noncomputable abbrev Vals:List V->List Value->Prop:=Paired RelV
theorem Vals.length {xs:List V} {us:List Value} (r:Vals xs us):xs.length=us.length:=Paired.length r
theorem Vals.get:∀{xs:List V} {us:List Value} {i:Nat} {x:V},Vals xs us->xs[i]? = some x->∃u,us[i]? = some u/\RelV x u
 | _,_,_,_,.nil,e=>by simp at e
 | _,_,0,_,.cons r _,e=>by simp at e; subst e; exact ⟨_,rfl,r⟩
 | _,_,i + 1,x,.cons _ t,e=>by
  obtain ⟨u,h1,h2⟩:=Vals.get (i:=i) (x:=x) t (by simpa using e)
  exact ⟨u,by simpa using h1,h2⟩
theorem Vals.set {x:V} {u:Value} (r:RelV x u):∀{xs:List V} {us:List Value} (i:Nat),Vals xs us->Vals (xs.set i x) (us.set i u)
 | _,_,_,.nil=>.nil
 | _,_,0,.cons _ t=>.cons r t
 | _,_,i + 1,.cons q t=>.cons q (Vals.set r i t)
theorem Vals.append {xs ys:List V} {us ws:List Value} (h:Vals xs us) (h':Vals ys ws):Vals (xs++ys) (us++ws):=by
 induction h with
 | nil=>exact h'
 | cons r _ ih=>exact .cons r ih
theorem Vals.take:∀{xs:List V} {us:List Value} (n:Nat),Vals xs us->Vals (xs.take n) (us.take n)
 | _,_,0,_=>.nil
 | _,_,_ + 1,.nil=>.nil
 | _,_,n + 1,.cons r t=>.cons r (Vals.take n t)
theorem Vals.drop:∀{xs:List V} {us:List Value} (n:Nat),Vals xs us->Vals (xs.drop n) (us.drop n)
 | _,_,0,r=>r
 | _,_,_ + 1,.nil=>.nil
 | _,_,n + 1,.cons _ t=>Vals.drop n t
theorem Vals.none_of:∀{xs:List V} {us:List Value} {i:Nat},Vals xs us->xs[i]? = none->us[i]? = none:=fun {xs us i} r e=>by
 have h1:=r.length
 have h2:xs.length<=i:=List.getElem?_eq_none_iff.mp e
 exact List.getElem?_eq_none_iff.mpr (by omega)
noncomputable def RelO:Option V->Option Value->Prop
 | some v,some u=>RelV v u
 | none,none=>True
 | _,_=>False
noncomputable def KV {κ:Type}:List (κ × V)->List (κ × Value)->Prop:=Paired fun (p:κ × V) (q:κ × Value)=>p.1=q.1/\RelV p.2 q.2
noncomputable def kV:Key->V
 | .inl i=>.int i
 | .inr x=>.str x
inductive HO where
 | lst (xs:List V)
 | tup (xs:List V)
 | dK (kvs:List (Key × V)) | dT (kvs:List (List Key × V))
 | set (S:Int->Bool) (n:Nat)
 | ins (C dx:Addr) (fs:List (Str × V))
 | own (x:Addr)
 | xd (fs:List (Str × V))
 | met (f x:Addr)
 | rng (lo hi:Int)
 | frz (o:Obj) (u:HO)
 | tbl (ps:Array Value)
 | ext (φ:Heap->Prop)
noncomputable abbrev Hp:=Addr->Option HO
noncomputable def upd (H:Hp) (a:Addr) (o:HO):Hp:=fun b=>if b=a then some o else H b
theorem zan {H:Hp} {a:Addr} {o:HO}:upd H a o a=some o:=by unfold upd; rw [if_pos rfl]
theorem zao {H:Hp} {a b:Addr} {o:HO} (h:b≠a):upd H a o b=H b:=by unfold upd; rw [if_neg h]
theorem zs1 {H:Hp} {a b:Addr} {o u:HO} (h:H a=some o) (h':H b=some u) (d:o≠u):a≠b:=by
 intro e; subst e; rw [h] at h'; exact d (Option.some.inj h')
theorem zbV {H:Hp} {a b:Addr} {o:HO} (h:H a=some o) (h':H b=none):a≠b:=by
 intro e; subst e; rw [h] at h'; cases h'
section
variable (P:Program) (w:World)
noncomputable def za8 (H:Hp) (h:Heap) (a:Addr):HO->Prop
 | .lst xs=>xs.length<=sizeLine/\∃(its:List Value) (n:Nat),Vals xs its/\h.get? a=some { cls:=.type "list",data:=.seq its.toArray n }
 | .tup xs=>xs.length<=sizeLine/\∃its:List Value,Vals xs its/\IsTup h a its.toArray/\∃o,h.get? a=some o/\o.dict=none
 | .dK kvs=>kvs.length<=sizeLine/\(a == sysModules)=false/\∃vs,KV kvs vs/\h.DictOf (zbc P w) a vs
 | .dT kvs=>kvs.length<=sizeLine/\(a == sysModules)=false/\∃xs:List (List Key × Addr × Value),
   Paired (fun (p:List Key × V) (q:List Key × Addr × Value)=>p.1=q.1/\H q.2.1=some (.tup (p.1.map kV))/\RelV p.2 q.2.2) kvs xs /\
   ∃o es ep,h.get? a=some o/\o.ExactDict/\o.data=.dict es ep/\es.toList=xs.map (entryOfKey (tupleKind (zbc P w)))/\(xs.map (·.1)).Nodup
 | .set S n=>h.SetOf (intKind P w) a S n
 | .ins C dx fs=>H dx=some (.own a)/\fs.length<=1000/\dx≠a/\h.get? a=some (W.instObj C dx) /\
   ∃mA,h.Ns1 dx mA/\(∀f,RelO (fs.lookup f) (mA f))/\PySem.Within mA (fs.map (·.1))
 | .own _=>∃o,h.get? a=some o
 | .xd fs=>∃mA,h.Ns1 a mA/\∀f,RelO (fs.lookup f) (mA f)
 | .rng lo hi=>∃t u v,h.get? a=some { cls:=.type "range",data:=.fields #[.int lo t,.int hi u,.int 1 v] }
 | .frz o u=>h.get? a=some o/\za8 H h a u
 | .tbl ps=>h.get? a=some { cls:=.none,data:=.fields ps }
 | .met f x=>h.get? a=some (W.methodObj (.ref f) (.ref x))
 | .ext φ=>φ h/\(∃o,h.get? a=some o)/\∀h1 h2:Heap,φ h1->(∀o,h1.get? a=some o->h2.get? a=some o)->φ h2
noncomputable def HOk (H:Hp) (h:Heap):Prop:=∀a o,H a=some o->za8 P w H h a o
end
section
variable {P:Program} {w:World} {H H':Hp} {h h':Heap} {a:Addr} {o:HO}
theorem za8.lt (x:za8 P w H h a o):a < h.objs.size:=by
 cases o with
 | lst xs=>obtain ⟨_,_,_,_,e⟩:=x; exact Heap.lt_size e
 | tup xs=>obtain ⟨_,_,_,p,_⟩:=x; exact p.lt
 | dK kvs=>obtain ⟨_,_,_,_,o,_,_,e,_⟩:=x; exact Heap.lt_size e
 | dT kvs=>obtain ⟨_,_,_,_,o,_,_,e,_⟩:=x; exact Heap.lt_size e
 | set S n=>obtain ⟨o,_,_,_,e,_⟩:=x; exact Heap.lt_size e
 | ins C dx fs=>obtain ⟨_,_,_,e,_⟩:=x; exact Heap.lt_size e
 | own y=>obtain ⟨_,e⟩:=x; exact Heap.lt_size e
 | xd fs=>obtain ⟨_,⟨_,_,_,e,_⟩,_⟩:=x; exact Heap.lt_size e
 | rng lo hi=>obtain ⟨_,_,_,e⟩:=x; exact Heap.lt_size e
 | frz ob u=>obtain ⟨e,_⟩:=x; exact Heap.lt_size e
 | tbl ps=>exact Heap.lt_size (show h.get? a=some _ from x)
 | met f y=>exact Heap.lt_size (show h.get? a=some _ from x)
 | ext φ=>obtain ⟨_,⟨_,e⟩,_⟩:=x; exact Heap.lt_size e
theorem Paired.mapP {α β:Type} {F G:α->β->Prop} {l₁:List α} {l₂:List β} (h:Paired F l₁ l₂) (f:∀a b,F a b->G a b):Paired G l₁ l₂:=by
 induction h with
 | nil=>exact .nil
 | cons r _ ih=>exact .cons (f _ _ r) ih
theorem za8.stay (x:za8 P w H h a o) (k:∀b u,(b=a\/H b=some (.own a))->h.get? b=some u->h'.get? b=some u)
  (ho:∀b,H b=some (.own a)->H' b=some (.own a)) (ht:∀b xs,H b=some (.tup xs)->H' b=some (.tup xs)):za8 P w H' h' a o:=by
 induction o with
 | lst xs=>obtain ⟨z,its,n,r,e⟩:=x; exact ⟨z,its,n,r,k _ _ (.inl rfl) e⟩
 | tup xs=>obtain ⟨z,its,r,⟨ob,e,c⟩,ob2,e2,c2⟩:=x; exact ⟨z,its,r,⟨ob,k _ _ (.inl rfl) e,c⟩,ob2,k _ _ (.inl rfl) e2,c2⟩
 | dK kvs=>obtain ⟨z,y,vs,r,ob,es,ep,e,c⟩:=x; exact ⟨z,y,vs,r,ob,es,ep,k _ _ (.inl rfl) e,c⟩
 | dT kvs=>
  obtain ⟨z,y,xs,r,ob,es,ep,e,c⟩:=x
  exact ⟨z,y,xs,Paired.mapP r fun p q z=>⟨z.1,ht _ _ z.2.1,z.2.2⟩,ob,es,ep,k _ _ (.inl rfl) e,c⟩
 | set S n=>obtain ⟨ob,es,ep,t,e,c⟩:=x; exact ⟨ob,es,ep,t,k _ _ (.inl rfl) e,c⟩
 | ins C dx fs=>
  obtain ⟨d,z,ne,e,mA,⟨od,es,ep,e2,c⟩,r⟩:=x
  exact ⟨ho _ d,z,ne,k _ _ (.inl rfl) e,mA,⟨od,es,ep,k _ _ (.inr d) e2,c⟩,r⟩
 | own y=>obtain ⟨ob,e⟩:=x; exact ⟨ob,k _ _ (.inl rfl) e⟩
 | xd fs=>obtain ⟨mA,⟨od,es,ep,e,c⟩,r⟩:=x; exact ⟨mA,⟨od,es,ep,k _ _ (.inl rfl) e,c⟩,r⟩
 | rng lo hi=>obtain ⟨t,u,v,e⟩:=x; exact ⟨t,u,v,k _ _ (.inl rfl) e⟩
 | frz ob u ih=>obtain ⟨e,q⟩:=x; exact ⟨k _ _ (.inl rfl) e,ih q⟩
 | tbl ps=>
  have e:h.get? a=some { cls:=.none,data:=.fields ps }:=x
  show h'.get? a=some { cls:=.none,data:=.fields ps }
  exact k a _ (.inl rfl) e
 | met f y=>
  have e:h.get? a=some (W.methodObj (.ref f) (.ref y)):=x
  show h'.get? a=some (W.methodObj (.ref f) (.ref y))
  exact k a _ (.inl rfl) e
 | ext φ=>obtain ⟨p,⟨o,e⟩,st⟩:=x; exact ⟨st _ _ p fun o q=>k _ _ (.inl rfl) q,⟨o,k _ _ (.inl rfl) e⟩,st⟩
theorem HOk.lt (x:HOk P w H h) (e:H a=some o):a < h.objs.size:=(x a o e).lt
theorem HOk.fresh (x:HOk P w H h) (e:h.objs.size<=a):H a=none:=by
 cases q:H a with
 | none=>rfl
 | some u=>exact absurd (Nat.lt_of_lt_of_le (x.lt q) e) (Nat.lt_irrefl _)
theorem HOk.kept (x:HOk P w H h) (k:∀b u,h.get? b=some u->h'.get? b=some u):HOk P w H h':=fun a o e=>
 (x a o e).stay (fun b u _ q=>k b u q) (fun _ q=>q) fun _ _ q=>q
theorem HOk.laid (x:HOk P w H h) (k:∀b u,h.get? b=some u->h'.get? b=some u) (hp:h.objs.size<=a) (new:za8 P w (upd H a o) h' a o):HOk P w (upd H a o) h':=fun b u e=>by
 have hn:=x.fresh hp
 by_cases hb:b=a
 ·subst hb; rw [zan] at e; cases e; exact new
 ·rw [zao hb] at e
  exact (x b u e).stay (fun c v _ q=>k c v q) (fun c q=>by rw [zao (zbV q hn)]; exact q) fun c xs q=>by rw [zao (zbV q hn)]; exact q
end
noncomputable def Rd (H:Hp) (a:Addr) (u:HO):Prop:=H a=some u\/∃o,H a=some (.frz o u)
theorem Rd.of {H:Hp} {a:Addr} {u:HO} (h:H a=some u):Rd H a u:=.inl h
theorem Rd.ok {P:Program} {w:World} {H:Hp} {h:Heap} {a:Addr} {u:HO} (r:Rd H a u) (x:HOk P w H h):za8 P w H h a u:=by
 rcases r with r | ⟨o,r⟩
 ·exact x a u r
 ·obtain ⟨_,q⟩:=x a _ r
  exact q
noncomputable def Mut:Option HO->Prop
 | some (.lst _)=>True
 | some (.dK _)=>True
 | some (.dT _)=>True
 | some (.set _ _)=>True
 | some (.ins _ _ _)=>True
 | some (.ext _)=>True
 | _=>False
section
variable {P:Program} {w:World} {H:Hp} {h h':Heap} {x e:Addr} {o':HO}
theorem HOk.write (ok:HOk P w H h) (mu:Mut (H x)) (he:e=x\/H e=some (.own x)) (k:∀b u,b≠e->h.get? b=some u->h'.get? b=some u) (heo:∃u,h'.get? e=some u)
  (new:za8 P w (upd H x o') h' x o'):HOk P w (upd H x o') h':=fun b u q=>by
 have nown:∀c y,H c=some (.own y)->c≠x:=fun c y r z=>by subst z; rw [r] at mu; exact mu
 have ntup:∀c xs,H c=some (.tup xs)->c≠x:=fun c xs r z=>by subst z; rw [r] at mu; exact mu
 by_cases hb:b=x
 ·subst hb; rw [zan] at q; cases q; exact new
 ·rw [zao hb] at q
  by_cases hbe:b=e
  ·have q':H b=some (.own x):=by
    rcases he with z | z
    ·exact absurd (hbe.trans z) hb
    ·rw [hbe]; exact z
   rw [q] at q'; cases q'
   obtain ⟨v,hv⟩:=heo
   exact ⟨v,by rw [hbe]; exact hv⟩
  ·refine (ok b u q).stay (fun c v hc r=>k c v ?_ r) (fun c r=>by rw [zao (nown c b r)]; exact r) fun c xs r=>by rw [zao (ntup c xs r)]; exact r
   rcases hc with rfl | hc
   ·exact hbe
   ·rintro rfl
    rcases he with z | z
    ·exact nown c b hc z
    ·rw [hc] at z; cases z; exact hb rfl
end
structure Un (fs ex:List Addr) (H H':Hp) (h h':Heap):Prop where
 keep:∀b o,h.get? b=some o->H b=none->b∉fs->b∉ex->h'.get? b=some o
 slot:∀b o,h.get? b=some o->H b=none->b∈fs->b∉ex->∃sl,h'.get? b=some { o with slots:=sl }
 free:∀b o,h.get? b=some o->H b=none->b∉ex->H' b=none
 there:∀b o,h.get? b=some o->b∉ex->∃o',h'.get? b=some o'
 tups:∀b xs,H b=some (.tup xs)->H' b=some (.tup xs)
 frzs:∀b o u,H b=some (.frz o u)->H' b=some (.frz o u)
 tbls:∀b ps,H b=some (.tbl ps)->∃more,H' b=some (.tbl (ps++more))
section
variable {fs fs' ex ex':List Addr} {H H1 H2:Hp} {h h1 h2 h':Heap} {a x e:Addr} {o:HO}
theorem Un.any (u:Un fs ex H H1 h h1) {b:Addr} {ob:Obj} (q:h.get? b=some ob) (n:H b=none) (hx:b∉ex):∃sl,h1.get? b=some { ob with slots:=sl }:=by
 by_cases hb:b∈fs
 ·exact u.slot b ob q n hb hx
 ·exact ⟨ob.slots,u.keep b ob q n hb hx⟩
theorem Un.trans (a:Un fs ex H H1 h h1) (b:Un fs ex H1 H2 h1 h2):Un fs ex H H2 h h2 where
 keep:=fun c ob q n hc hx=>b.keep c ob (a.keep c ob q n hc hx) (a.free c ob q n hx) hc hx
 slot:=fun c ob q n hc hx=>by
  obtain ⟨sl,e1⟩:=a.slot c ob q n hc hx
  obtain ⟨sl',e2⟩:=b.slot c _ e1 (a.free c ob q n hx) hc hx
  exact ⟨sl',e2⟩
 free:=fun c ob q n hx=>by
  obtain ⟨o',e1⟩:=a.there c ob q hx
  exact b.free c o' e1 (a.free c ob q n hx) hx
 there:=fun c ob q hx=>by
  obtain ⟨o',e1⟩:=a.there c ob q hx
  exact b.there c o' e1 hx
 tups:=fun c xs q=>b.tups c xs (a.tups c xs q)
 frzs:=fun c ob xs q=>b.frzs c ob xs (a.frzs c ob xs q)
 tbls:=fun c ps q=>by
  obtain ⟨m1,e1⟩:=a.tbls c ps q
  obtain ⟨m2,e2⟩:=b.tbls c _ e1
  exact ⟨m1++m2,by rw [e2,Array.append_assoc]⟩
theorem Un.kept (k:∀b u,h.get? b=some u->h'.get? b=some u):Un fs ex H H h h':=
 ⟨fun b ob q _ _ _=>k b ob q,fun b ob q _ _ _=>⟨ob.slots,k b ob q⟩,fun _ _ _ n _=>n,fun b ob q _=>⟨ob,k b ob q⟩,fun _ _ q=>q,fun _ _ _ q=>q,fun _ ps q=>⟨#[],by rw [q]; simp⟩⟩
theorem Un.refl:Un fs ex H H h h:=Un.kept fun _ _ q=>q
theorem Un.laid (k:∀b u,h.get? b=some u->h'.get? b=some u) (hp:h.objs.size<=a) (hn:H a=none):Un fs ex H (upd H a o) h h' where
 keep:=fun b u q _ _ _=>k b u q
 slot:=fun b u q _ _ _=>⟨u.slots,k b u q⟩
 free:=fun b u q n _=>by rw [zao (Nat.ne_of_lt (Nat.lt_of_lt_of_le (Heap.lt_size q) hp))]; exact n
 there:=fun b u q _=>⟨u,k b u q⟩
 tups:=fun b xs q=>by rw [zao (zbV q hn)]; exact q
 frzs:=fun b u xs q=>by rw [zao (zbV q hn)]; exact q
 tbls:=fun b ps q=>⟨#[],by rw [zao (zbV q hn),q]; simp⟩
theorem Un.write (mu:Mut (H x)) (he:e=x\/H e=some (.own x)) (k:∀b u,b≠e->h.get? b=some u->h'.get? b=some u) (heo:∃u,h'.get? e=some u):Un fs ex H (upd H x o) h h':=by
 have hx:∀b,H b=none->b≠x:=fun b n z=>by subst z; rw [n] at mu; exact mu
 have hb:∀b,H b=none->b≠e:=fun b n z=>by
  subst z
  rcases he with r | r
  ·exact hx b n r
  ·rw [n] at r; cases r
 have hm:∀b u,H b=some u->¬ Mut (some u)->b≠x:=fun b u q nm z=>by subst z; rw [q] at mu; exact nm mu
 refine ⟨fun b u q n _ _=>k b u (hb b n) q,fun b u q n _ _=>⟨u.slots,k b u (hb b n) q⟩,fun b u q n _=>by rw [zao (hx b n)]; exact n,fun b u q _=>?_,
  fun b xs q=>by rw [zao (hm b _ q fun z=>z)]; exact q,fun b u xs q=>by rw [zao (hm b _ q fun z=>z)]; exact q,fun b ps q=>⟨#[],by rw [zao (hm b _ q fun z=>z),q]; simp⟩⟩
 by_cases hbe:b=e
 ·subst hbe; exact heo
 ·exact ⟨u,k b u hbe q⟩
theorem Un.mono (u:Un fs ex H H1 h h1) (hs:∀b∈fs,b∈fs') (hx:∀b∈ex,b∈ex'):Un fs' ex' H H1 h h1:=
 ⟨fun b ob q n hb he=>u.keep b ob q n (fun z=>hb (hs b z)) fun z=>he (hx b z),fun _ _ q n _ he=>u.any q n fun z=>he (hx _ z),fun b ob q n he=>u.free b ob q n fun z=>he (hx b z),fun b ob q he=>u.there b ob q fun z=>he (hx b z),u.tups,u.frzs,u.tbls⟩
end
noncomputable def trk (h:Heap) (H:Hp):List Addr:=(List.range h.objs.size).filter fun a=>(H a).isSome
noncomputable def hidT (h:Heap) (H:Hp):Heap:=W.hideAll h (trk h H)
theorem zlr (h:Heap) (H:Hp):(hidT h H).objs.size=h.objs.size:=W.hideAll_size _ _
theorem zm9 {h:Heap} {H:Hp} {b:Addr} {o:Obj} (e:h.get? b=some o) (n:H b=none):(hidT h H).get? b=some o:=
 W.hideAll_get _ e fun hm=>by
  have q:(H b).isSome=true:=(List.mem_filter.mp hm).2
  rw [n] at q; simp at q
theorem zpi {h:Heap} {H:Hp} {b:Addr} {o:Obj} (e:(hidT h H).get? b=some o):h.get? b=some o/\H b=none:=by
 have e':h.get? b=some o:=W.of_hideAll (trk h H) e
 refine ⟨e',?_⟩
 cases q:H b with
 | none=>rfl
 | some x=>
  have hm:b∈trk h H:=List.mem_filter.mpr ⟨List.mem_range.mpr (Heap.lt_size e'),by simp [q]⟩
  have z:(hidT h H).get? b=none:=W.hideAll_none (trk h H) hm
  rw [z] at e; cases e
noncomputable def zfW (g h:Heap) (L:Addr):List (Addr × Obj):=(List.range h.objs.size).filterMap fun a=>if a=L\/(g.get? a).isSome=true then none else (h.get? a).map fun o=>(a,o)
theorem zih {g h:Heap} {L a:Addr} {o:Obj} (h1:a≠L) (h2:g.get? a=none) (h3:h.get? a=some o):(a,o)∈zfW g h L:=
 List.mem_filterMap.mpr ⟨a,List.mem_range.mpr (Heap.lt_size h3),by simp [h1,h2,h3]⟩
theorem zf7 {g h:Heap} {L:Addr} {p:Addr × Obj} (hp:p∈zfW g h L):p.1≠L/\g.get? p.1=none/\h.get? p.1=some p.2:=by
 obtain ⟨b,_,e⟩:=List.mem_filterMap.mp hp
 split at e
 ·cases e
 ·rename_i hn
  cases q:h.get? b with
  | none=>rw [q] at e; simp at e
  | some u=>
   rw [q] at e
   simp only [Option.map_some,Option.some.injEq] at e
   subst e
   refine ⟨fun z=>hn (.inl z),?_,q⟩
   show g.get? b=none
   cases r:g.get? b with
   | none=>rfl
   | some v=>exact (hn (.inr (by simp [r]))).elim
noncomputable def rest (g h:Heap) (L d:Addr):List (Addr × Obj):=(zfW g h L).filter fun p=>decide (p.1≠d)
theorem ziX {g h:Heap} {L:Addr}:News g L h (zfW g h L):=fun p hp=>let ⟨a,b,c⟩:=zf7 hp; ⟨c,a,b⟩
structure Mod (K:W.Frag) (mg:Str->Option Value) (base:Heap):Prop where
 kin:K.In base
 glob:base.Ns mainGlobals mg
 blt:∃mb,base.Ns builtinsNs mb/\∀x:Str,x≠"__name__"->mb x=bootBuiltins x
 nolimit:base.NoLimit
structure Cx where
 prog:Program
 w:World
 K:W.Frag
 mg:Str->Option Value
 base:Heap
 A:Around
 N:List Str
 s₀:Shared
 H₀:Hp
 env:Env
 outer:List Env
 stack:List Env
 ex:List Addr
 fn:Str->Bool
 calm:Bool
 pn:List (Addr × Obj)
 xe:Value->Shared->Prop
noncomputable def frs (l:List Env):List Addr:=l.filterMap (·.frame)
noncomputable abbrev Cx.fs (X:Cx):List Addr:=frs X.outer
noncomputable def Vis (sc:Scope) (x:Str):Prop:=sc.names.lookup x=some .local\/sc.names.lookup x=some .cell\/sc.names.lookup x=some .free
noncomputable def Loc (sc:Scope) (x:Str):Prop:=sc.names.lookup x=some .local\/sc.names.lookup x=some .cell
noncomputable def Look (env:Env) (h:Heap) (m:Str->Option Value) (x:Str) (u:Value):Prop:=
 (env.kindOf x=some .local/\m x=some u)\/((env.kindOf x=some .cell\/env.kindOf x=some .free)/\∃c,env.cells.lookup x=some c/\h.IsCell c (some u))
structure Cx.Ok (X:Cx):Prop where
 mod:Mod X.K X.mg X.base
 kind:X.env.scope.kind=.function
 glob:X.env.globals=mainGlobals
 blt:X.env.builtins=builtinsNs
 above:X.s₀.heap.objs.size<=X.env.locals
 inj:∀x y c,X.env.cells.lookup x=some c->X.env.cells.lookup y=some c->x=y
 has:∀x,(X.env.kindOf x=some .cell\/X.env.kindOf x=some .free)->∃c,X.env.cells.lookup x=some c
 cab:∀x c,X.fn x=true->X.env.cells.lookup x=some c->X.s₀.heap.objs.size<=c
 hd:X.calm=true->X.A.handled=none
 frames:X.A.frames=some X.stack
 stk:X.stack=X.outer\/(X.stack=X.env::X.outer/\X.env.frame=some X.env.locals)
 exf:∀b∈X.ex,b≠X.env.locals/\∀x c,X.env.cells.lookup x=some c->c≠b
 bs:∀b o,X.base.get? b=some o->X.s₀.heap.get? b=some o/\X.H₀ b=none
 bsz:X.base.objs.size<=X.s₀.heap.objs.size
 noex:∀b o,X.base.get? b=some o->b∉X.ex
 exfs:∀b∈X.ex,b∉X.fs
 funs:X.s₀.heap.FunFrames X.base X.outer
 frf:∀b∈X.fs,X.H₀ b=none
structure Inv (X:Cx) (pins:List (Addr × Obj)) (σ:List (Option V)) (H:Hp) (s:Shared):Prop where
 ok:X.Ok
 os:s.os=X.s₀.os
 bare:AllBare s.gens
 base:Un X.fs X.ex X.H₀ H X.s₀.heap s.heap
 loc:∃m,s.heap.Ns X.env.locals m/\∀(i:Nat) (x:Str) (v:V),X.N[i]? = some x->σ[i]? = some (some v)->Vis X.env.scope x->∃u,RelV v u/\Look X.env s.heap m x u
 cell:∀x c,X.env.cells.lookup x=some c->∃v,s.heap.IsCell c v
 free:H X.env.locals=none
 freeC:∀x c,X.env.cells.lookup x=some c->H c=none
 pin:∀p∈X.pn++pins,s.heap.get? p.1=some p.2/\H p.1=none/\p.1≠X.env.locals/\p.1∉X.fs/\∀v,p.2.data≠.cell v
 hok:HOk X.prog X.w H s.heap
 len:σ.length=X.N.length
section
variable {X:Cx} {pins:List (Addr × Obj)} {σ:List (Option V)} {H H':Hp} {s:Shared} {h':Heap}
theorem Cx.Ok.nofr (ok:X.Ok) {b:Addr} {o:Obj} (e:X.base.get? b=some o):b∉X.fs:=fun hb=>by
 have:=(ok.funs.mem hb).1
 rw [e] at this; cases this
theorem Inv.bs (I:Inv X pins σ H s):∀b o,X.base.get? b=some o->s.heap.get? b=some o/\H b=none:=fun b o e=>
 ⟨I.base.keep b o (I.ok.bs b o e).1 (I.ok.bs b o e).2 (I.ok.nofr e) (I.ok.noex b o e),I.base.free b o (I.ok.bs b o e).1 (I.ok.bs b o e).2 (I.ok.noex b o e)⟩
theorem Inv.bk (I:Inv X pins σ H s):∀b o,X.base.get? b=some o->s.heap.get? b=some o:=fun b o e=>(I.bs b o e).1
theorem Inv.mod (I:Inv X pins σ H s):Mod X.K X.mg X.base:=I.ok.mod
theorem Inv.kIn (I:Inv X pins σ H s):X.K.In s.heap:=I.ok.mod.kin.keeps I.bk
theorem Inv.nolimit (I:Inv X pins σ H s):s.heap.NoLimit:=I.ok.mod.nolimit.keeps I.bk
theorem Inv.fr (I:Inv X pins σ H s):∃m,Fr X.base X.env.locals s.heap m:=
 let ⟨m,hn,_⟩:=I.loc
 ⟨m,hn,I.bk,Nat.le_trans I.ok.bsz I.ok.above⟩
theorem Inv.lt (I:Inv X pins σ H s):X.env.locals < s.heap.objs.size:=let ⟨_,hn,_⟩:=I.loc; hn.lt
theorem Inv.sz (I:Inv X pins σ H s):X.s₀.heap.objs.size<=s.heap.objs.size:=Nat.le_trans I.ok.above (Nat.le_of_lt I.lt)
theorem Inv.nofs (I:Inv X pins σ H s) {a:Addr} (h:s.heap.objs.size<=a):a∉X.fs:=fun hb=>by
 obtain ⟨_,o,ho,_⟩:=I.ok.funs.mem hb
 exact absurd (Nat.lt_of_lt_of_le (Heap.lt_size ho) (Nat.le_trans I.sz h)) (Nat.lt_irrefl _)
theorem Inv.cne (I:Inv X pins σ H s):∀x c,X.env.cells.lookup x=some c->c≠X.env.locals:=fun x c e z=>by
 obtain ⟨v,o,ho,hd⟩:=I.cell x c e
 obtain ⟨m,⟨o',es,ep,ho',hd',_⟩,_⟩:=I.loc
 rw [z,ho'] at ho; cases ho; rw [hd'] at hd; cases hd
theorem Inv.funs (I:Inv X pins σ H s):s.heap.FunFrames X.base X.outer:=by
 have all:∀(l:List Env),(∀b∈frs l,b∈X.fs)->X.s₀.heap.FunFrames X.base l->s.heap.FunFrames X.base l:=by
  intro l
  induction l with
  | nil=>intro _ _; trivial
  | cons env r ih=>
   intro hs hl
   obtain ⟨hk,⟨L,o,hf,hn,ho,hd⟩,hr⟩:=hl
   have hL:L∈X.fs:=hs L (by unfold frs; rw [List.filterMap_cons,hf]; exact List.mem_cons_self)
   obtain ⟨sl,e⟩:=I.base.slot L o ho (I.ok.frf L hL) hL fun z=>I.ok.exfs L z hL
   exact ⟨hk,⟨L,_,hf,hn,e,hd⟩,ih (fun b hb=>hs b (by unfold frs; rw [List.filterMap_cons,hf]; exact List.mem_cons_of_mem _ hb)) hr⟩
 exact all X.outer (fun _ hb=>hb) I.ok.funs
theorem Inv.stack (I:Inv X pins σ H s):s.heap.FunFrames X.base X.stack:=by
 rcases I.ok.stk with e | ⟨e,hf⟩
 ·rw [e]; exact I.funs
 ·rw [e]
  obtain ⟨m,hn,_⟩:=I.loc
  refine .cons (by rw [I.ok.kind]; decide) hf hn ?_ I.funs
  exact Heap.get?_none_of_le (Nat.le_trans I.ok.bsz I.ok.above)
theorem Inv.stkSub (I:Inv X pins σ H s):∀b∈frs X.stack,b∈X.env.locals::X.fs:=fun b hb=>by
 rcases I.ok.stk with e | ⟨e,hf⟩
 ·rw [e] at hb; exact List.mem_cons_of_mem _ hb
 ·rw [e] at hb
  unfold frs at hb
  rw [List.filterMap_cons,hf] at hb
  exact hb
theorem Inv.stkFree (I:Inv X pins σ H s):∀b∈frs X.stack,H b=none:=fun b hb=>by
 rcases List.mem_cons.mp (I.stkSub b hb) with e | hb
 ·rw [e]; exact I.free
 ·obtain ⟨_,o,ho,_⟩:=I.ok.funs.mem hb
  exact I.base.free b o ho (I.ok.frf b hb) fun z=>I.ok.exfs b z hb
theorem Inv.step {g':Array GenState} {t':Nat} {d':Drawn} {ch:List Addr} (I:Inv X pins σ H s)
  (hch:∀b∈ch,(b∈X.ex\/X.s₀.heap.objs.size<=b)/\b≠X.env.locals/\(∀x c,X.env.cells.lookup x=some c->c≠b)/\∀p∈X.pn++pins,p.1≠b)
  (keep:∀b o,b≠X.env.locals->b∉X.fs->b∉ch->s.heap.get? b=some o->H b=none->h'.get? b=some o)
  (slot:∀b o,b≠X.env.locals->b∈X.fs->b∉ch->s.heap.get? b=some o->H b=none->∃sl,h'.get? b=some { o with slots:=sl }) (free:∀b o,b∉ch->s.heap.get? b=some o->H b=none->H' b=none)
  (there:∀b o,b∉ch->s.heap.get? b=some o->∃o',h'.get? b=some o')
  (tups:∀b xs,H b=some (.tup xs)->H' b=some (.tup xs)) (frzs:∀b o u,H b=some (.frz o u)->H' b=some (.frz o u)) (tbls:∀b ps,H b=some (.tbl ps)->∃more,H' b=some (.tbl (ps++more)))
  (ns:∀m,s.heap.Ns X.env.locals m->h'.Ns X.env.locals m) (hok:HOk X.prog X.w H' h') (hg:AllBare g') :
  Inv X pins σ H' { s with heap:=h',gens:=g',drawn:=d',toks:=t' }:=by
 have neL:∀b o,X.s₀.heap.get? b=some o->b≠X.env.locals:=fun b o e=>Nat.ne_of_lt (Nat.lt_of_lt_of_le (Heap.lt_size e) I.ok.above)
 have neC:∀b o,X.s₀.heap.get? b=some o->b∉X.ex->b∉ch:=fun b o e hx hb=>by
  rcases (hch b hb).1 with z | z
  ·exact hx z
  ·exact absurd (Nat.lt_of_lt_of_le (Heap.lt_size e) z) (Nat.lt_irrefl _)
 have cellK:∀x c,X.env.cells.lookup x=some c->∀v,s.heap.IsCell c v->h'.IsCell c v:=fun x c e v ⟨o,ho,hd⟩=>by
  have nch:c∉ch:=fun z=>(hch c z).2.2.1 x c e rfl
  by_cases hc:c∈X.fs
  ·obtain ⟨sl,q⟩:=slot c o (I.cne x c e) hc nch ho (I.freeC x c e)
   exact ⟨_,q,hd⟩
  ·exact ⟨o,keep c o (I.cne x c e) hc nch ho (I.freeC x c e),hd⟩
 refine ⟨I.ok,I.os,hg,⟨fun b o e n hb hx=>?_,fun b o e n hb hx=>?_,fun b o e n hx=>?_,fun b o e hx=>?_,fun b xs e=>tups b xs (I.base.tups b xs e),fun b o xs e=>frzs b o xs (I.base.frzs b o xs e),fun b ps e=>?_⟩,?_,fun x c e=>?_,?_,fun x c e=>?_,fun p hp=>?_,hok,I.len⟩
 ·exact keep b o (neL b o e) hb (neC b o e hx) (I.base.keep b o e n hb hx) (I.base.free b o e n hx)
 ·obtain ⟨sl,e1⟩:=I.base.slot b o e n hb hx
  obtain ⟨sl',e2⟩:=slot b _ (neL b o e) hb (neC b o e hx) e1 (I.base.free b o e n hx)
  exact ⟨sl',e2⟩
 ·obtain ⟨o',e1⟩:=I.base.there b o e hx
  exact free b o' (neC b o e hx) e1 (I.base.free b o e n hx)
 ·obtain ⟨o',e1⟩:=I.base.there b o e hx
  exact there b o' (neC b o e hx) e1
 ·obtain ⟨m1,e1⟩:=I.base.tbls b ps e
  obtain ⟨m2,e2⟩:=tbls b _ e1
  exact ⟨m1++m2,by rw [e2,Array.append_assoc]⟩
 ·obtain ⟨m,hn,hl⟩:=I.loc
  refine ⟨m,ns m hn,fun i x v e1 e2 e3=>?_⟩
  obtain ⟨u,r,l⟩:=hl i x v e1 e2 e3
  refine ⟨u,r,?_⟩
  rcases l with l | ⟨k,c,e,z⟩
  ·exact .inl l
  ·exact .inr ⟨k,c,e,cellK x c e _ z⟩
 ·obtain ⟨v,z⟩:=I.cell x c e
  exact ⟨v,cellK x c e v z⟩
 ·obtain ⟨m,⟨o,_,_,ho,_⟩,_⟩:=I.loc
  exact free _ o (fun z=>(hch _ z).2.1 rfl) ho I.free
 ·obtain ⟨v,o,ho,hd⟩:=I.cell x c e
  exact free c o (fun z=>(hch c z).2.2.1 x c e rfl) ho (I.freeC x c e)
 ·obtain ⟨e,n,ne,nf,d⟩:=I.pin p hp
  have nch:p.1∉ch:=fun z=>(hch p.1 z).2.2.2 p hp rfl
  exact ⟨keep p.1 p.2 ne nf nch e n,free p.1 p.2 nch e n,ne,nf,d⟩
theorem Inv.un {t':Nat} (I:Inv X pins σ H s) (u:Un X.fs [] H H' s.heap h') (hok:HOk X.prog X.w H' h'):Inv X pins σ H' { s with heap:=h',toks:=t' }:=by
 obtain ⟨m,⟨o,es,ep,ho,r⟩,_⟩:=id I.loc
 obtain ⟨sl,hL⟩:=u.any ho I.free (by simp)
 exact I.step (g':=s.gens) (d':=s.drawn) (ch:=[]) (fun _ z=>nomatch z) (fun b o _ hb _ e n=>u.keep b o e n hb (by simp)) (fun b o _ hb _ e n=>u.slot b o e n hb (by simp)) (fun b o _ e n=>u.free b o e n (by simp)) (fun b o _ e=>u.there b o e (by simp)) u.tups u.frzs u.tbls (fun m' hm=>by
  obtain ⟨o',es',ep',ho',r'⟩:=hm
  rw [ho] at ho'; cases ho'
  exact ⟨_,es',ep',hL,r'⟩) hok I.bare
theorem Inv.call {g':Array GenState} {t':Nat} {d':Drawn} {ch:List Addr} (I:Inv X pins σ H s) (u:Un (frs X.stack) ch H H' s.heap h') (hok:HOk X.prog X.w H' h') (hg:AllBare g')
  (hch:∀b∈ch,(b∈X.ex\/X.s₀.heap.objs.size<=b)/\b≠X.env.locals/\(∀x c,X.env.cells.lookup x=some c->c≠b)/\∀p∈X.pn++pins,p.1≠b) :
  Inv X pins σ H' { s with heap:=h',gens:=g',drawn:=d',toks:=t' }:=by
 obtain ⟨m,⟨o,es,ep,ho,r⟩,_⟩:=id I.loc
 obtain ⟨sl,hL⟩:=u.any ho I.free fun z=>(hch _ z).2.1 rfl
 exact I.step (ch:=ch) hch (fun b o hL hb hc e n=>u.keep b o e n (fun z=>(List.mem_cons.mp (I.stkSub b z)).elim hL hb) hc) (fun b o _ _ hc e n=>u.any e n hc) (fun b o hc e n=>u.free b o e n hc) (fun b o hc e=>u.there b o e hc) u.tups u.frzs u.tbls (fun m' hm=>by
  obtain ⟨o',es',ep',ho',r'⟩:=hm
  rw [ho] at ho'; cases ho'
  exact ⟨_,es',ep',hL,r'⟩) hok hg
theorem Inv.turned {t':Nat} {it:Addr} (I:Inv X pins σ H s) (k:∀b o,b≠it->s.heap.get? b=some o->h'.get? b=some o) (hn:H it=none) (hL:it≠X.env.locals)
  (h1:it∈X.ex\/X.s₀.heap.objs.size<=it) (h2:∀x c,X.env.cells.lookup x=some c->c≠it) (h3:∀p∈X.pn++pins,p.1≠it):Inv X pins σ H { s with heap:=h',toks:=t' }:=by
 have nit:∀b u,H b=some u->b≠it:=fun b u e z=>by rw [z,hn] at e; cases e
 refine I.step (g':=s.gens) (d':=s.drawn) (ch:=[it]) (fun b hb=>?_) (fun b o _ _ hc e _=>k b o (fun z=>hc (by simp [z])) e) (fun b o _ _ hc e _=>⟨o.slots,k b o (fun z=>hc (by simp [z])) e⟩) (fun _ _ _ _ n=>n)
  (fun b o hc e=>⟨o,k b o (fun z=>hc (by simp [z])) e⟩) (fun _ _ e=>e) (fun _ _ _ e=>e) (fun b ps e=>⟨#[],by rw [e]; simp⟩) (fun m hm=>?_) (fun b u e=>?_) I.bare
 ·have e:b=it:=by simpa using hb
  subst e
  exact ⟨h1,hL,h2,h3⟩
 ·obtain ⟨o,es,ep,ho,r⟩:=hm
  exact ⟨o,es,ep,k _ o (Ne.symm hL) ho,r⟩
 ·refine (I.hok b u e).stay (fun c v hc q=>k c v ?_ q) (fun _ q=>q) fun _ _ q=>q
  rcases hc with z | z
  ·rw [z]; exact nit b u e
  ·exact nit c _ z
theorem Inv.tok (I:Inv X pins σ H s) (t:Nat):Inv X pins σ H { s with toks:=t }:=I.un (h':=s.heap) (t':=t) Un.refl I.hok
theorem Inv.kept {t':Nat} (I:Inv X pins σ H s) (k:∀b u,s.heap.get? b=some u->h'.get? b=some u):Inv X pins σ H { s with heap:=h',toks:=t' }:=I.un (Un.kept k) (I.hok.kept k)
theorem Inv.laid {a:Addr} {o:HO} {t':Nat} (I:Inv X pins σ H s) (k:∀b u,s.heap.get? b=some u->h'.get? b=some u) (hp:s.heap.objs.size<=a) (new:za8 X.prog X.w (upd H a o) h' a o) :
  Inv X pins σ (upd H a o) { s with heap:=h',toks:=t' }:=I.un (Un.laid k hp (I.hok.fresh hp)) (I.hok.laid k hp new)
theorem Inv.write {x e:Addr} {o:HO} {t':Nat} (I:Inv X pins σ H s) (mu:Mut (H x)) (he:e=x\/H e=some (.own x)) (k:∀b u,b≠e->s.heap.get? b=some u->h'.get? b=some u) (heo:∃u,h'.get? e=some u)
  (new:za8 X.prog X.w (upd H x o) h' x o):Inv X pins σ (upd H x o) { s with heap:=h',toks:=t' }:=I.un (Un.write mu he k heo) (I.hok.write mu he k heo new)
theorem Inv.pins_of {pins':List (Addr × Obj)} (I:Inv X pins σ H s) (h:∀p∈pins',s.heap.get? p.1=some p.2/\H p.1=none/\p.1≠X.env.locals/\p.1∉X.fs/\∀v,p.2.data≠.cell v):Inv X pins' σ H s:=
 ⟨I.ok,I.os,I.bare,I.base,I.loc,I.cell,I.free,I.freeC,fun p hp=>(List.mem_append.mp hp).elim (fun z=>I.pin p (List.mem_append_left _ z)) (h p),I.hok,I.len⟩
theorem ziW {N:List Str} (hN:N.Nodup) {i j:Nat} {x:Str} (a:N[i]? = some x) (b:N[j]? = some x):i=j:=by
 obtain ⟨h1,e1⟩:=List.getElem?_eq_some_iff.mp a
 obtain ⟨h2,e2⟩:=List.getElem?_eq_some_iff.mp b
 exact (List.getElem_inj hN).mp (e1.trans e2.symm)
theorem zfu {M:Model} {A:Around} {E:Value->Shared->Prop} {i:Nat} {x:Str} {v:V} {u:Value} {Q:Unit->Shared->Prop} (I:Inv X pins σ H s) (hN:X.N.Nodup) (hi:X.N[i]? = some x) (hx:Loc X.env.scope x) (r:RelV v u)
  (h:∀s',Inv X pins (σ.set i (some v)) H s'->(∃a,Heap.SameBut a s.heap s'.heap/\(a=X.env.locals\/X.env.cells.lookup x=some a))->Q () s') (hf:X.fn x=true\/X.env.scope.names.lookup x=some .local:=by first | exact .inl rfl | exact .inr rfl | assumption):wpAny M A (storeName X.env x u) Q E s:=by
 obtain ⟨m,hn,hl⟩:=id I.loc
 have hcls:(X.env.scope.kind == .class || (X.env.scope.kind == .module && X.env.locals != X.env.globals))=false:=by rw [I.ok.kind]; rfl
 have hiσ:i < σ.length:=by rw [I.len]; exact (List.getElem?_eq_some_iff.mp hi).1
 have cne:=I.cne
 have tracked:∀{a:Addr} {h':Heap},(∃o,s.heap.get? a=some o/\H a=none)->Heap.SameBut a s.heap h'->HOk X.prog X.w H h':=fun {a h'} ha hs b ob e=>by
  obtain ⟨_,_,hfree⟩:=ha
  refine (I.hok b ob e).stay (fun c w' hc q=>(hs.2 c ?_).trans q) (fun _ q=>q) fun _ _ q=>q
  rintro rfl
  rcases hc with rfl | hc
  ·rw [hfree] at e; cases e
  ·rw [hfree] at hc; cases hc
 rcases hx with hk | hk
 ·refine wpAny_storeName_local hk hn (fun h' hn' hs=>?_) hcls
  obtain ⟨oL,_,_,hoL,_⟩:=id hn
  refine h _ ⟨I.ok,I.os,I.bare,⟨fun b o e n hb hx=>?_,fun b o e n hb hx=>?_,I.base.free,fun b o e hx=>?_,I.base.tups,I.base.frzs,I.base.tbls⟩,⟨_,hn',fun j y v' e1 e2 e3=>?_⟩,fun y c e=>?_,I.free,I.freeC,fun p hp=>?_,tracked ⟨oL,hoL,I.free⟩ hs,by simpa using I.len⟩ ⟨_,hs,.inl rfl⟩
  ·exact (hs.2 b (Nat.ne_of_lt (Nat.lt_of_lt_of_le (Heap.lt_size e) I.ok.above))).trans (I.base.keep b o e n hb hx)
  ·obtain ⟨sl,e1⟩:=I.base.slot b o e n hb hx
   exact ⟨sl,(hs.2 b (Nat.ne_of_lt (Nat.lt_of_lt_of_le (Heap.lt_size e) I.ok.above))).trans e1⟩
  ·obtain ⟨o',e1⟩:=I.base.there b o e hx
   exact ⟨o',(hs.2 b (Nat.ne_of_lt (Nat.lt_of_lt_of_le (Heap.lt_size e) I.ok.above))).trans e1⟩
  ·by_cases hj:j=i
   ·subst hj
    rw [hi] at e1; cases e1
    rw [List.getElem?_set_self hiσ] at e2
    cases e2
    exact ⟨u,r,.inl ⟨hk,by simp⟩⟩
   ·rw [List.getElem?_set_ne (Ne.symm hj)] at e2
    obtain ⟨u',r',q⟩:=hl j y v' e1 e2 e3
    refine ⟨u',r',?_⟩
    rcases q with ⟨k,e⟩ | ⟨k,c,e,z⟩
    ·refine .inl ⟨k,?_⟩
     have:y≠x:=fun e=>hj (ziW hN e1 (e ▸ hi))
     simp [this,e]
    ·exact .inr ⟨k,c,e,z.sameBut hs (cne y c e)⟩
  ·obtain ⟨w',z⟩:=I.cell y c e
   exact ⟨w',z.sameBut hs (cne y c e)⟩
  ·obtain ⟨e,n,ne,nf,d⟩:=I.pin p hp
   exact ⟨(hs.2 p.1 ne).trans e,n,ne,nf,d⟩
 ·have hfn:X.fn x=true:=by
   rcases hf with z | z
   ·exact z
   ·rw [z] at hk; cases hk
  obtain ⟨c,hc⟩:=I.ok.has x (.inl hk)
  obtain ⟨w',z⟩:=I.cell x c hc
  refine wpAny_storeName_cell I.ok.kind hk hc z (fun h' hc' hs=>?_)
  obtain ⟨oc,hoc,hocd⟩:=id z
  refine h { s with heap:=h' } ⟨I.ok,I.os,I.bare,⟨fun b o e n hb hx=>?_,fun b o e n hb hx=>?_,I.base.free,fun b o e hx=>?_,I.base.tups,I.base.frzs,I.base.tbls⟩,⟨m,hn.sameBut hs (Ne.symm (cne x c hc)),fun j y v' e1 e2 e3=>?_⟩,fun y c' e=>?_,I.free,I.freeC,fun p hp=>?_,tracked ⟨oc,hoc,I.freeC x c hc⟩ hs,by simpa using I.len⟩ ⟨c,hs,.inr hc⟩
  ·exact (hs.2 b (Nat.ne_of_lt (Nat.lt_of_lt_of_le (Heap.lt_size e) (I.ok.cab x c hfn hc)))).trans (I.base.keep b o e n hb hx)
  ·obtain ⟨sl,e1⟩:=I.base.slot b o e n hb hx
   exact ⟨sl,(hs.2 b (Nat.ne_of_lt (Nat.lt_of_lt_of_le (Heap.lt_size e) (I.ok.cab x c hfn hc)))).trans e1⟩
  ·obtain ⟨o',e1⟩:=I.base.there b o e hx
   exact ⟨o',(hs.2 b (Nat.ne_of_lt (Nat.lt_of_lt_of_le (Heap.lt_size e) (I.ok.cab x c hfn hc)))).trans e1⟩
  ·by_cases hj:j=i
   ·subst hj
    rw [hi] at e1; cases e1
    rw [List.getElem?_set_self hiσ] at e2
    cases e2
    exact ⟨u,r,.inr ⟨.inl hk,c,hc,hc'⟩⟩
   ·rw [List.getElem?_set_ne (Ne.symm hj)] at e2
    obtain ⟨u',r',q⟩:=hl j y v' e1 e2 e3
    refine ⟨u',r',?_⟩
    rcases q with q | ⟨k,c',e,z'⟩
    ·exact .inl q
    ·refine .inr ⟨k,c',e,z'.sameBut hs ?_⟩
     rintro rfl
     exact hj (ziW hN e1 (I.ok.inj _ _ _ e hc ▸ hi))
  ·by_cases hcc:c'=c
   ·subst hcc; exact ⟨_,hc'⟩
   ·obtain ⟨w2,z2⟩:=I.cell y c' e
    exact ⟨w2,z2.sameBut hs hcc⟩
  ·obtain ⟨e,n,ne,nf,d⟩:=I.pin p hp
   refine ⟨(hs.2 p.1 ?_).trans e,n,ne,nf,d⟩
   intro q
   rw [q,hoc] at e
   have q':oc=p.2:=Option.some.inj e
   exact d w' (by rw [<-q']; exact hocd)
theorem ziG {M:Model} {A:Around} {E:Value->Shared->Prop} {i:Nat} {x:Str} {v:V} {u:Value} {Q:Unit->Shared->Prop} (I:Inv X pins σ H s) (hN:X.N.Nodup) (hi:X.N[i]? = some x) (hx:Loc X.env.scope x) (r:RelV v u)
  (h:∀s',Inv X pins (σ.set i (some v)) H s'->Q () s') (hf:X.fn x=true\/X.env.scope.names.lookup x=some .local:=by first | exact .inl rfl | exact .inr rfl | assumption):wpAny M A (storeName X.env x u) Q E s:=
 zfu I hN hi hx r (fun s' I' _=>h s' I') hf
theorem Inv.call' {s':Shared} {ch:List Addr} (I:Inv X pins σ H s) (ho:s'.os=s.os) (u:Un (frs X.stack) ch H H' s.heap s'.heap) (hok:HOk X.prog X.w H' s'.heap) (hg:AllBare s'.gens)
  (hch:∀b∈ch,(b∈X.ex\/X.s₀.heap.objs.size<=b)/\b≠X.env.locals/\(∀x c,X.env.cells.lookup x=some c->c≠b)/\∀p∈X.pn++pins,p.1≠b):Inv X pins σ H' s':=by
 obtain ⟨h',g',d',t',o'⟩:=s'
 have e:o'=s.os:=ho
 subst e
 exact I.call (g':=g') (t':=t') (d':=d') u hok hg hch
end
noncomputable abbrev XK:=Value->Option Addr->Hp->Prop
noncomputable abbrev St:=List (Option V)
noncomputable abbrev VK:=V->Hp->Prop
noncomputable abbrev TE:=St->Hp->VK->Prop
noncomputable abbrev TT:=St->Hp->(Bool->Hp->Prop)->Prop
noncomputable abbrev TA:=St->Hp->(List V->Hp->Prop)->Prop
structure Ends where
 nx:St->Hp->Prop
 rt:VK
 bk:St->Hp->Prop:=fun _ _=>False
 ct:St->Hp->Prop:=fun _ _=>False
noncomputable abbrev TS:=Ends->St->Hp->Prop
noncomputable def EP (X:Cx) (pins:List (Addr × Obj)) (σ:St) (Q:VK) (u:Value) (s':Shared):Prop:=∃v H',Inv X pins σ H' s'/\RelV v u/\Q v H'
noncomputable def TP (X:Cx) (pins:List (Addr × Obj)) (σ:St) (Q:Bool->Hp->Prop) (b:Bool) (s':Shared):Prop:=∃H',Inv X pins σ H' s'/\Q b H'
noncomputable def AP (X:Cx) (pins:List (Addr × Obj)) (σ:St) (Q:List V->Hp->Prop) (us:List Value) (s':Shared):Prop:=∃vs H',Inv X pins σ H' s'/\Vals vs us/\Q vs H'
noncomputable def SP (X:Cx) (pins:List (Addr × Obj)) (D:Ends) (f:Flow) (s':Shared):Prop:=
 match f with
 | .next=>∃σ' H',Inv X pins σ' H' s'/\D.nx σ' H'
 | .brk=>∃σ' H',Inv X pins σ' H' s'/\D.bk σ' H'
 | .cont=>∃σ' H',Inv X pins σ' H' s'/\D.ct σ' H'
 | .ret u=>∃v σ' H',Inv X pins σ' H' s'/\RelV v u/\D.rt v H'
noncomputable def PE (X:Cx) (e:Expr) (t:TE):Prop:=
 ∀(pins:List (Addr × Obj)) (s:Shared) (σ:St) (H:Hp) (Q:VK),Inv X pins σ H s->t σ H Q->wpAny (model X.prog X.w) X.A (eval e X.env) (EP X pins σ Q) X.xe s
noncomputable def PT (X:Cx) (e:Expr) (t:TT):Prop:=
 ∀(pins:List (Addr × Obj)) (s:Shared) (σ:St) (H:Hp) (Q:Bool->Hp->Prop),Inv X pins σ H s->t σ H Q->wpAny (model X.prog X.w) X.A (isTrue e X.env (eval e X.env)) (TP X pins σ Q) X.xe s
noncomputable def PW (X:Cx) (e:Expr) (t:TT):Prop:=
 ∀(whole:Sem Value) (pins:List (Addr × Obj)) (s:Shared) (σ:St) (H:Hp) (Q:Bool->Hp->Prop),Inv X pins σ H s->t σ H Q->wpAny (model X.prog X.w) X.A (isTrue e X.env whole) (TP X pins σ Q) X.xe s
theorem PW.pt {X:Cx} {e:Expr} {t:TT} (h:PW X e t):PT X e t:=h _
noncomputable def PA (X:Cx) (es:List Expr) (t:TA):Prop:=
 ∀(pos:Pos) (pins:List (Addr × Obj)) (s:Shared) (σ:St) (H:Hp) (Q:List V->Hp->Prop),Inv X pins σ H s->t σ H Q->wpAny (model X.prog X.w) X.A (spliced (backTo pos (starEach es X.env))) (AP X pins σ Q) X.xe s
noncomputable def PS (X:Cx) (st:Stmt) (t:TS):Prop:=
 ∀(pins:List (Addr × Obj)) (s:Shared) (σ:St) (H:Hp) (D:Ends),Inv X pins σ H s->t D σ H->wpAny (model X.prog X.w) X.A (exec st X.env) (SP X pins D) X.xe s
noncomputable def PSs (X:Cx) (st:List Stmt) (t:TS):Prop:=
 ∀(pins:List (Addr × Obj)) (s:Shared) (σ:St) (H:Hp) (D:Ends),Inv X pins σ H s->t D σ H->wpAny (model X.prog X.w) X.A (execs st X.env) (SP X pins D) X.xe s
theorem thn {α:Type} {t:Sem α} {Q Q':α->Shared->Prop} {M:Model} {A:Around} {E:Value->Shared->Prop} {s:Shared} (h:wpAny M A t Q E s) (hQ:∀a s,Q a s->Q' a s):wpAny M A t Q' E s:=wpAny_mono h hQ fun _ _ x=>x
section
variable {X:Cx}
noncomputable def tVar (i:Nat):TE:=fun σ H Q=>∃v,σ[i]? = some (some v)/\Q v H
noncomputable def tC (v:V):TE:=fun _ H Q=>Q v H
theorem zfG {i:Nat} {x:Str} {pos:Pos} (hN:X.N[i]? = some x) (hv:Vis X.env.scope x) (hd:(x == ("__debug__" : Str))=false:=by decide) (hcd:(x == ("__classdict__" : Str))=false:=by decide):PE X (.Name x pos) (tVar i):=by
 intro pins s σ H Q I h
 obtain ⟨v,e,h⟩:=h
 obtain ⟨m,hn,hl⟩:=I.loc
 obtain ⟨u,r,l⟩:=hl i x v hN e hv
 have fin:EP X pins σ Q u s:=⟨v,H,I,r,h⟩
 rcases l with ⟨hk,hm⟩ | ⟨hk,c,hc,hcell⟩
 ·exact wpAny_Name (wpAny_loadName_local I.ok.kind hk hn hm fin) hd
 ·rcases hk with hk | hk
  ·exact wpAny_Name (wpAny_loadName_cell I.ok.kind hk hc hcell fin) hd
  ·exact wpAny_Name (wpAny_loadName_free I.ok.kind hk hc hcell fin hcd) hd
theorem zqX {i j pos}:PE X (.Constant (.int i) j pos) (tC (.int i)):=fun _ _ _ H _ I h=>wpAny_Constant_int ⟨.int i,H,I.tok _,⟨_,rfl⟩,h⟩
theorem zsS {b j pos}:PE X (.Constant (.bool b) j pos) (tC (.bl b)):=fun _ _ _ H _ I h=>Constant_bool ⟨.bl b,H,I,rfl,h⟩
theorem zqU {j pos}:PE X (.Constant .none j pos) (tC .non):=fun _ _ _ H _ I h=>Constant_none ⟨.non,H,I,rfl,h⟩
noncomputable def Gl (X:Cx) (x:Str):Prop:=X.env.kindOf x=some .globalImplicit
theorem zk9 {E:Value->Shared->Prop} {pins:List (Addr × Obj)} {s:Shared} {σ:St} {H:Hp} {x:Str} {u:Value} {pos:Pos} {Q:Value->Shared->Prop} (I:Inv X pins σ H s) (hg:Gl X x) (hm:X.mg x=some u) (h:Q u s)
  (hd:(x == ("__debug__" : Str))=false:=by decide):wpAny (model X.prog X.w) X.A (eval (.Name x pos) X.env) Q E s:=
 Calls.Name_function_global I.ok.kind hg (Calls.loadGlobal_global (by rw [I.ok.glob]; exact I.mod.glob.keeps I.bk) hm h) hd
theorem zgl {E:Value->Shared->Prop} {pins:List (Addr × Obj)} {s:Shared} {σ:St} {H:Hp} {x:Str} {u:Value} {pos:Pos} {Q:Value->Shared->Prop} (I:Inv X pins σ H s) (hg:Gl X x) (hm:X.mg x=none) (hv:bootBuiltins x=some u) (h:Q u s)
  (hn:x≠"__name__" := by decide) (hd:(x == ("__debug__" : Str))=false:=by decide):wpAny (model X.prog X.w) X.A (eval (.Name x pos) X.env) Q E s:=by
 obtain ⟨mb,h1,h2⟩:=I.mod.blt
 exact Calls.Name_function_global I.ok.kind hg (Calls.loadGlobal_builtin (by rw [I.ok.glob]; exact I.mod.glob.keeps I.bk) hm (by rw [I.ok.blt]; exact h1.keeps I.bk) ((h2 x hn).trans hv) h) hd
theorem zo0 {x:Str} {v:V} {u:Value} {pos:Pos} (hg:Gl X x) (hm:X.mg x=some u) (r:RelV v u) (hd:(x == ("__debug__" : Str))=false:=by decide):PE X (.Name x pos) (tC v):=
 fun _ _ _ H _ I h=>zk9 I hg hm ⟨v,H,I,r,h⟩ hd
theorem zo3 {x:Str} {v:V} {u:Value} {pos:Pos} (hg:Gl X x) (hm:X.mg x=none) (hv:bootBuiltins x=some u) (r:RelV v u) (hn:x≠"__name__" := by decide) (hd:(x == ("__debug__" : Str))=false:=by decide):PE X (.Name x pos) (tC v):=
 fun _ _ _ H _ I h=>zgl I hg hm hv ⟨v,H,I,r,h⟩ hn hd
variable {a b:Expr} {ta tb:TE} {pos:Pos}
noncomputable def tB (t:TE):TT:=fun σ H Q=>t σ H fun x H1=>∃c,x=.bl c/\Q c H1
variable {tA tB':TT} {rest:List Expr}
noncomputable def tAnd (t u:TT):TT:=fun σ H Q=>t σ H fun c H1=>if c=true then u σ H1 Q else Q false H1
noncomputable def tOr (t u:TT):TT:=fun σ H Q=>t σ H fun c H1=>if c=true then Q true H1 else u σ H1 Q
noncomputable def tNot (t:TT):TT:=fun σ H Q=>t σ H fun c H1=>Q (! c) H1
theorem zoO (ha:PT X a tA):PW X (.BoolOp .And [a] pos) tA:=by
 intro wh pins s σ H Q I h
 refine isTrue_and (thn (ha pins s σ H Q I h) fun c s1 e=>?_)
 cases c with
 | true=>exact isTrue_and_nil e
 | false=>exact e
theorem zqJ (ha:PT X a tA):PW X (.BoolOp .Or [a] pos) tA:=by
 intro wh pins s σ H Q I h
 refine isTrue_or (thn (ha pins s σ H Q I h) fun c s1 e=>?_)
 cases c with
 | false=>exact isTrue_or_nil e
 | true=>exact e
theorem zqK (ha:PT X a tA) (hb:PW X (.BoolOp .And (b::rest) pos) tB'):PW X (.BoolOp .And (a::b::rest) pos) (tAnd tA tB'):=by
 intro wh pins s σ H Q I h
 refine isTrue_and (thn (ha pins s σ H _ I h) fun c s1 ⟨H1,I1,q1⟩=>?_)
 cases c with
 | true=>exact hb wh pins s1 σ H1 Q I1 q1
 | false=>exact ⟨H1,I1,q1⟩
theorem zsO (ha:PT X a tA) (hb:PW X (.BoolOp .Or (b::rest) pos) tB'):PW X (.BoolOp .Or (a::b::rest) pos) (tOr tA tB'):=by
 intro wh pins s σ H Q I h
 refine isTrue_or (thn (ha pins s σ H _ I h) fun c s1 ⟨H1,I1,q1⟩=>?_)
 cases c with
 | true=>exact ⟨H1,I1,q1⟩
 | false=>exact hb wh pins s1 σ H1 Q I1 q1
theorem zqL (ha:PT X a tA):PT X (.UnaryOp .Not a pos) (tNot tA):=by
 intro pins s σ H Q I h
 exact isTrue_not (ha pins s σ H (fun c H1=>Q (! c) H1) I h)
noncomputable def zsu (ta tb:TE):TE:=fun σ H Q=>ta σ H fun x H1=>∃c,x=.bl c/\if c=true then tb σ H1 Q else Q (.bl false) H1
noncomputable def zsp (ta:TE):TE:=fun σ H Q=>ta σ H fun x H1=>∃c,x=.bl c/\Q (.bl (! c)) H1
theorem zqS {op} {t:TE} (h:PE X a t):PE X (.BoolOp op [a] pos) t:=fun pins s σ H Q I hw=>BoolOp_one (h pins s σ H Q I hw)
theorem zqZ (ha:PE X a ta) (hb:PE X (.BoolOp .And (b::rest) pos) tb):PE X (.BoolOp .And (a::b::rest) pos) (zsu ta tb):=by
 intro pins s σ H Q I h
 refine BoolOp_and (thn (ha pins s σ H _ I h) fun v s1 ⟨x,H1,I1,r1,q1⟩=>?_)
 obtain ⟨c,rfl,q1⟩:=q1
 cases r1
 refine wpAny_truthy_bool ?_
 cases c with
 | true=>exact hb pins s1 σ H1 Q I1 q1
 | false=>exact ⟨.bl false,H1,I1,rfl,q1⟩
theorem zqT (ha:PE X a ta):PE X (.UnaryOp .Not a pos) (zsp ta):=by
 intro pins s σ H Q I h
 refine UnaryOp_ (thn (ha pins s σ H _ I h) fun v s1 ⟨x,H1,I1,r1,q1⟩=>?_)
 obtain ⟨c,rfl,q1⟩:=q1
 cases r1
 exact not_of (wpAny_truthy_bool ⟨.bl (! c),H1,I1,rfl,q1⟩)
end
noncomputable def SqL (K:W.Frag) (H:Hp) (a:Addr) (xs:List V):Prop:=
 Rd H a (.lst xs) \/
  ∃(o:Obj) (its:Array Value) (n:Nat),K.lookup a=some o/\o.cls=.type "list"/\o.dict=none/\o.data=.seq its n/\its.size<=sizeLine/\Vals xs its.toList
noncomputable def SqT (K:W.Frag) (H:Hp) (a:Addr) (xs:List V):Prop:=
 Rd H a (.tup xs) \/
  ∃(o:Obj) (its:Array Value) (n:Nat),K.lookup a=some o/\o.cls=.type "tuple"/\o.data=.seq its n/\its.size<=sizeLine/\Vals xs its.toList
noncomputable def absV:Value->Option V
 | .none=>some .non
 | .bool b=>some (.bl b)
 | .int i _=>some (.int i)
 | .str x _=>some (.str x)
 | .bytes b _=>some (.byt b)
 | .float b _=>some (.flt b)
 | .ref a=>some (.ref a)
 | .type n=>some (.ty n)
 | _=>none
theorem RelV.abs {x:V} {u:Value} (r:RelV x u):absV u=some x:=by
 cases x with
 | non=>cases r; rfl
 | bl _=>cases r; rfl
 | int _=>obtain ⟨t,rfl⟩:=r; rfl
 | str _=>obtain ⟨t,rfl⟩:=r; rfl
 | byt _=>obtain ⟨t,rfl⟩:=r; rfl
 | flt _=>obtain ⟨t,rfl⟩:=r; rfl
 | ref _=>cases r; rfl
 | ty _=>cases r; rfl
theorem RelV.inj {x y:V} {u:Value} (r:RelV x u) (q:RelV y u):x=y:=Option.some.inj (r.abs.symm.trans q.abs)
theorem Vals.inj {xs ys:List V} {us:List Value} (h:Vals xs us) (h':Vals ys us):xs=ys:=by
 induction h generalizing ys with
 | nil=>cases h'; rfl
 | cons r t ih=>
  cases h' with
  | cons r' t'=>rw [r.inj r',ih t']
section
variable {X:Cx} {pins:List (Addr × Obj)} {σ:St} {H:Hp} {s:Shared} {a:Addr} {xs ys:List V}
theorem SqL.of {K:W.Frag} (h:H a=some (.lst xs)):SqL K H a xs:=.inl (.inl h)
theorem SqT.of {K:W.Frag} (h:H a=some (.tup xs)):SqT K H a xs:=.inl (.inl h)
theorem Inv.list (I:Inv X pins σ H s) (h:SqL X.K H a xs):∃its:List Value,Vals xs its/\PlainL s.heap a its.toArray/\xs.length<=sizeLine:=by
 rcases h with h | ⟨o,its,n,hk,hc,hd,hs,hz,r⟩
 ·obtain ⟨z,its,n,r,e⟩:=h.ok I.hok
  exact ⟨its,r,⟨_,n,e,rfl,rfl,rfl⟩,z⟩
 ·refine ⟨its.toList,r,⟨o,n,I.kIn a o hk,hc,hd,by simpa using hs⟩,?_⟩
  have e:=r.length
  simp only [Array.length_toList] at e
  omega
theorem Inv.tuple (I:Inv X pins σ H s) (h:SqT X.K H a xs):∃its:List Value,Vals xs its/\IsTup s.heap a its.toArray/\xs.length<=sizeLine:=by
 rcases h with h | ⟨o,its,n,hk,hc,hs,hz,r⟩
 ·obtain ⟨z,its,r,p,_⟩:=h.ok I.hok
  exact ⟨its,r,p,z⟩
 ·refine ⟨its.toList,r,⟨o,I.kIn a o hk,hc,n,by simpa using hs⟩,?_⟩
  have e:=r.length
  simp only [Array.length_toList] at e
  omega
theorem Inv.list_inj (I:Inv X pins σ H s) (h:SqL X.K H a xs) (h':SqL X.K H a ys):xs=ys:=by
 obtain ⟨its,r,⟨o,n,e,_,_,d⟩,_⟩:=I.list h
 obtain ⟨its',r',⟨o',n',e',_,_,d'⟩,_⟩:=I.list h'
 rw [e] at e'; cases e'
 rw [d] at d'
 injection d' with d1 _
 have:its=its':=by simpa using congrArg Array.toList d1
 subst this
 exact r.inj r'
theorem Inv.tuple_inj (I:Inv X pins σ H s) (h:SqT X.K H a xs) (h':SqT X.K H a ys):xs=ys:=by
 obtain ⟨its,r,⟨o,e,_,n,d⟩,_⟩:=I.tuple h
 obtain ⟨its',r',⟨o',e',_,n',d'⟩,_⟩:=I.tuple h'
 rw [e] at e'; cases e'
 rw [d] at d'
 injection d' with d1 _
 have:its=its':=by simpa using congrArg Array.toList d1
 subst this
 exact r.inj r'
end
noncomputable abbrev Cx.wish (X:Cx) (E:Value->Shared->Prop):Cx:={ X with xe:=E }
noncomputable abbrev Cx.nox (X:Cx):Cx:=X.wish fun _ _=>False
theorem Cx.Ok.wish {X:Cx} (ok:X.Ok) (E:Value->Shared->Prop):(X.wish E).Ok:=
 ⟨ok.mod,ok.kind,ok.glob,ok.blt,ok.above,ok.inj,ok.has,ok.cab,ok.hd,ok.frames,ok.stk,ok.exf,ok.bs,ok.bsz,ok.noex,ok.exfs,ok.funs,ok.frf⟩
theorem Cx.Ok.unwish {X:Cx} {E:Value->Shared->Prop} (ok:(X.wish E).Ok):X.Ok:=
 ⟨ok.mod,ok.kind,ok.glob,ok.blt,ok.above,ok.inj,ok.has,ok.cab,ok.hd,ok.frames,ok.stk,ok.exf,ok.bs,ok.bsz,ok.noex,ok.exfs,ok.funs,ok.frf⟩
section
variable {X:Cx} {pins:List (Addr × Obj)} {σ:St} {H:Hp} {s:Shared} {E:Value->Shared->Prop}
theorem Inv.wish (I:Inv X pins σ H s) (E:Value->Shared->Prop):Inv (X.wish E) pins σ H s:=⟨I.ok.wish E,I.os,I.bare,I.base,I.loc,I.cell,I.free,I.freeC,I.pin,I.hok,I.len⟩
theorem Inv.unwish (I:Inv (X.wish E) pins σ H s):Inv X pins σ H s:=⟨I.ok.unwish,I.os,I.bare,I.base,I.loc,I.cell,I.free,I.freeC,I.pin,I.hok,I.len⟩
theorem SP.unwish {D:Ends} {f:Flow} {s':Shared} (h:SP (X.wish E) pins D f s'):SP X pins D f s':=by
 cases f with
 | next=>obtain ⟨σ',H',I,q⟩:=h; exact ⟨σ',H',I.unwish,q⟩
 | brk=>obtain ⟨σ',H',I,q⟩:=h; exact ⟨σ',H',I.unwish,q⟩
 | cont=>obtain ⟨σ',H',I,q⟩:=h; exact ⟨σ',H',I.unwish,q⟩
 | ret u=>obtain ⟨v,σ',H',I,r,q⟩:=h; exact ⟨v,σ',H',I.unwish,r,q⟩
theorem PE.nox {e:Expr} {t:TE} (h:PE X.nox e t):PE X e t:=fun pins s σ H Q I hw=>
 wpAny_mono (h pins s σ H Q (I.wish _) hw) (fun _ _ ⟨v,H',I',r,q⟩=>⟨v,H',I'.unwish,r,q⟩) fun _ _ z=>False.elim z
theorem PT.nox {e:Expr} {t:TT} (h:PT X.nox e t):PT X e t:=fun pins s σ H Q I hw=>
 wpAny_mono (h pins s σ H Q (I.wish _) hw) (fun _ _ ⟨H',I',q⟩=>⟨H',I'.unwish,q⟩) fun _ _ z=>False.elim z
theorem PSs.nox {st:List Stmt} {t:TS} (h:PSs X.nox st t):PSs X st t:=fun pins s σ H D I hw=>
 wpAny_mono (h pins s σ H D (I.wish _) hw) (fun _ _ q=>q.unwish) fun _ _ z=>False.elim z
end
section
variable {X:Cx} {st:Stmt} {rest:List Stmt} {t u:TS} {e:Expr} {te:TE} {pos:Pos}
noncomputable def zsq:TS:=fun D σ H=>D.nx σ H
noncomputable def tSeq (t u:TS):TS:=fun D σ H=>t { D with nx:=u D } σ H
theorem zkz:PSs X [] zsq:=fun _ _ σ H _ I h=>wpAny_execs_nil ⟨σ,H,I,h⟩
theorem zez (h1:PS X st t) (h2:PSs X rest u):PSs X (st::rest) (tSeq t u):=by
 intro pins s σ H D I h
 refine wpAny_execs_cons (thn (h1 pins s σ H { D with nx:=u D } I h) fun f s1 q=>?_)
 cases f with
 | next=>
  obtain ⟨σ',H',I',q⟩:=q
  exact h2 pins s1 σ' H' D I' q
 | ret v=>exact q
 | brk=>exact q
 | cont=>exact q
theorem Inv.quiet {pins:List (Addr × Obj)} {σ:St} {H:Hp} {s:Shared} (I:Inv X pins σ H s):interactive X.env=false:=by simp [interactive,I.ok.kind]
noncomputable def zsr (te:TE):TS:=fun D σ H=>te σ H fun _ H1=>D.nx σ H1
theorem zoS (he:PE X e te) (hs:swapsWith e none pos.line X.env=pure false:=by rfl):PS X (.Expr e pos) (zsr te):=by
 intro pins s σ H D I h
 exact wpAny_Expr_any (thn (he pins s σ H _ I h) fun v s1 ⟨x,H1,I1,r1,q1⟩=>⟨σ,H1,I1,q1⟩) I.quiet hs
noncomputable def tRet (te:TE):TS:=fun D σ H=>te σ H D.rt
theorem zqM (he:PE X e te):PS X (.Return (some e) pos) (tRet te):=by
 intro pins s σ H D I h
 exact wpAny_Return_some (thn (he pins s σ H _ I h) fun v s1 ⟨x,H1,I1,r1,q1⟩=>⟨x,σ,H1,I1,r1,q1⟩)
noncomputable def tIfS (c:TT) (t u:TS):TS:=fun D σ H=>c σ H fun b H1=>if b=true then t D σ H1 else u D σ H1
theorem zsQ {c:Expr} {a b:List Stmt} {tc:TT} (hc:PT X c tc) (ha:PSs X a t) (hb:PSs X b u):PS X (.If c a b pos) (tIfS tc t u):=by
 intro pins s σ H D I h
 refine wpAny_If (thn (hc pins s σ H _ I h) fun d s1 ⟨H1,I1,q1⟩=>?_)
 cases d with
 | true=>exact ha pins s1 σ H1 D I1 q1
 | false=>exact hb pins s1 σ H1 D I1 q1
noncomputable def zp6:TS:=fun _ _ _=>False
theorem zmE:PS X st zp6:=fun _ _ _ _ _ _ h=>h.elim
end
noncomputable abbrev TG:=V->St->Hp->(St->Hp->Prop)->Prop
noncomputable abbrev TGs:=List V->St->Hp->(St->Hp->Prop)->Prop
noncomputable def PG (X:Cx) (target:Expr) (t:TG):Prop:=
 ∀(pins:List (Addr × Obj)) (s:Shared) (σ:St) (H:Hp) (v:V) (u:Value) (Q:St->Hp->Prop),Inv X pins σ H s->RelV v u->t v σ H Q ->
  wpAny (model X.prog X.w) X.A (assign target X.env u) (fun _ s'=>∃σ' H',Inv X pins σ' H' s'/\Q σ' H') X.xe s
noncomputable def PGs (X:Cx) (ts:List Expr) (t:TGs):Prop:=
 ∀(pins:List (Addr × Obj)) (s:Shared) (σ:St) (H:Hp) (vs:List V) (us:List Value) (Q:St->Hp->Prop),Inv X pins σ H s->Vals vs us->t vs σ H Q ->
  wpAny (model X.prog X.w) X.A (assignInOrder ((assignEach ts X.env).map (·.2)) us) (fun _ s'=>∃σ' H',Inv X pins σ' H' s'/\Q σ' H') X.xe s
noncomputable abbrev TSet:=V->V->V->Hp->(Hp->Prop)->Prop
noncomputable def PSet (X:Cx) (t:TSet):Prop:=
 ∀(pins:List (Addr × Obj)) (s:Shared) (σ:St) (H:Hp) (o i v:V) (ov iv u:Value) (Q:Hp->Prop),Inv X pins σ H s->RelV o ov->RelV i iv->RelV v u->t o i v H Q ->
  wpAny (model X.prog X.w) X.A (setItem ov iv u) (fun _ s'=>∃H',Inv X pins σ H' s'/\Q H') X.xe s
section
variable {X:Cx} {pos:Pos}
noncomputable def zrQ (i:Nat):TG:=fun v σ H Q=>Q (σ.set i (some v)) H
theorem zoY {i:Nat} {x:Str} (hN:X.N.Nodup) (hi:X.N[i]? = some x) (hx:Loc X.env.scope x) (hf:X.fn x=true\/X.env.scope.names.lookup x=some .local:=by first | exact .inl rfl | exact .inr rfl | assumption):PG X (.Name x pos) (zrQ i):=by
 intro pins s σ H v u Q I r h
 exact wpAny_assign_Name (ziG I hN hi hx r (fun s' I'=>⟨_,H,I',h⟩) hf)
noncomputable def gNil:TGs:=fun vs σ H Q=>vs=[]/\Q σ H
noncomputable def zta (t:TG) (u:TGs):TGs:=fun vs σ H Q=>∃v r,vs=v::r/\t v σ H fun σ' H'=>u r σ' H' Q
theorem zoX:PGs X [] gNil:=by
 intro pins s σ H vs us Q I r h
 obtain ⟨e,h⟩:=h
 subst e
 cases r
 exact assignInOrder_nil ⟨σ,H,I,h⟩
theorem zmI {e:Expr} {es:List Expr} {t:TG} {u:TGs} (h1:PG X e t) (h2:PGs X es u)
  (hs:(assignEach (e::es) X.env).map (·.2)=assign e X.env::(assignEach es X.env).map (·.2):=by rfl):PGs X (e::es) (zta t u):=by
 intro pins s σ H vs us Q I r h
 obtain ⟨v,vr,e1,h⟩:=h
 subst e1
 cases r with
 | cons r rr=>
  rw [hs]
  refine assignInOrder_cons (thn (h1 pins s σ H _ _ _ I r h) fun _ s1 ⟨σ1,H1,I1,q1⟩=>?_)
  exact h2 pins s1 σ1 H1 _ _ Q I1 rr q1
noncomputable def gTup (K:W.Frag) (n:Nat) (t:TGs):TG:=fun v σ H Q=>∃a xs,v=.ref a/\SqT K H a xs/\xs.length=n/\t xs σ H Q
theorem zqQ {es:List Expr} {k:Nat} {t:TGs} {n:Nat} (hc:X.calm=true) (h:PGs X es t)
  (hn:(assignEach es X.env).length=n:=by rfl) (hst:(assignEach es X.env).findIdx? (·.1)=none:=by rfl):PG X (.Tuple es k pos) (gTup X.K n t):=by
 intro pins s σ H v u Q I r hw
 obtain ⟨a,xs,e1,hq,hl,hw⟩:=hw
 subst e1
 cases r
 obtain ⟨its,rv,ht,hz⟩:=I.tuple hq
 refine assign_Tuple_tuple (I.ok.hd hc) ht (by simp [hn,<-hl,rv.length]) hst fun h' hx=>?_
 have I1:Inv X pins σ H { s with heap:=h' }:=I.kept (t':=s.toks) fun b o e=>hx b o (Nat.ne_of_lt (Heap.lt_size e)) e
 exact h pins _ σ H xs _ Q I1 (by simpa using rv) hw
noncomputable def gSub (to ti:TE) (t:TSet):TG:=fun v σ H Q=>to σ H fun o H1=>ti σ H1 fun i H2=>t o i v H2 fun H3=>Q σ H3
theorem znW {o i:Expr} {to ti:TE} {t:TSet} (ho:PE X o to) (hi:PE X i ti) (hs:PSet X t)
  (ha:∀v,assign (.Subscript o i pos) X.env v=(do
   let ov <-holding [v] (eval o X.env)
   let iv <-holding [v,ov] (eval i X.env)
   standAt pos
   holding [v,ov,iv] (setItem ov iv v)
   release [v,ov,iv] []):=by intro _; rfl):PG X (.Subscript o i pos) (gSub to ti t):=by
 intro pins s σ H v u Q I r h
 rw [ha]
 refine wpAny_bind (wpAny_holding (thn (ho pins s σ H _ I h) fun ov s1 ⟨x,H1,I1,r1,q1⟩=>?_))
 refine wpAny_bind (wpAny_holding (thn (hi pins s1 σ H1 _ I1 q1) fun iv s2 ⟨y,H2,I2,r2,q2⟩=>?_))
 refine wpAny_bind (wpAny_standAt (wpAny_bind (wpAny_holding (thn (hs pins s2 σ H2 x y v ov iv u _ I2 r1 r2 r q2) fun _ s3 ⟨H3,I3,q3⟩=>?_))))
 exact wpAny_release ⟨σ,H3,I3,q3⟩
noncomputable def tAsg (te:TE) (g:TG):TS:=fun D σ H=>te σ H fun x H1=>g x σ H1 D.nx
theorem znU {tg e:Expr} {te:TE} {g:TG} (he:PE X e te) (hg:PG X tg g) (hs:swapsWithSole [tg] e pos.line X.env=pure false:=by rfl) (hw:swappedStores [tg] e X.env=pure none:=by rfl)
  (h1:(assignEach [tg] X.env).map (·.2)=[assign tg X.env]:=by rfl):PS X (.Assign [tg] e pos) (tAsg te g):=by
 intro pins s σ H D I h
 refine wpAny_Assign_stores (thn (he pins s σ H _ I h) fun v s1 ⟨x,H1,I1,r1,q1⟩=>?_) hs hw
 rw [h1]
 exact thn (hg pins s1 σ H1 x v _ I1 r1 q1) fun _ s2 q=>q
theorem zkA {i:Nat} {x:Str} {e:Expr} {te:TE} {pos':Pos} (hN:X.N.Nodup) (hi:X.N[i]? = some x) (hx:Loc X.env.scope x) (he:PE X e te) (hs:swapsWith e (some (.Name x pos')) pos.line X.env=pure false:=by rfl) (hf:X.fn x=true\/X.env.scope.names.lookup x=some .local:=by first | exact .inl rfl | exact .inr rfl | assumption) :
  PS X (.Assign [.Name x pos'] e pos) (tAsg te (zrQ i)):=by
 intro pins s σ H D I h
 refine wpAny_Assign_Name (thn (he pins s σ H _ I h) fun v s1 ⟨y,H1,I1,r1,q1⟩=>?_) hs
 exact ziG I1 hN hi hx r1 (fun s2 I2=>⟨_,H1,I2,q1⟩) hf
end
section
variable {X:Cx} {pos:Pos}
noncomputable def zp5 (c:TT) (tb:TS):TS:=fun D σ H=>∃W:Nat->St->Hp->Prop,(∃m,W m σ H)/\∀m σ H,W m σ H ->
 c σ H fun b H1=>if b=true then ∃N:St->Hp->Prop,(∀σ' H',N σ' H'->∃m',m' < m/\W m' σ' H')/\tb { D with nx:=N,ct:=N,bk:=D.nx } σ H1 else D.nx σ H1
theorem zmD {c:Expr} {body:List Stmt} {tc:TT} {tb:TS} (hp:PassesOwn (model X.prog X.w) X.A X.env X.xe) (hc:PT X c tc) (hb:PSs X body tb):PS X (.While c body [] pos) (zp5 tc tb):=by
 intro pins s σ H D I h
 obtain ⟨W,⟨m0,w0⟩,turn⟩:=h
 refine wpAny_While (codeAny_whileLoop (fun n s'=>∃σ' H',Inv X pins σ' H' s'/\W n σ' H') ?_ m0 ⟨σ,H,I,w0⟩)
 rintro n s1 ⟨σ1,H1,I1,w1⟩
 refine wpAny_passesOwn hp (thn (hc pins s1 σ1 H1 _ I1 (turn n σ1 H1 w1)) fun b s2 ⟨H2,I2,q2⟩=>?_)
 cases b with
 | true=>
  obtain ⟨N,hN,q2⟩:=q2
  rw [if_pos rfl]
  refine wpAny_passesOwn hp (thn (hb pins s2 σ1 H2 _ I2 q2) fun f s3 q3=>?_)
  cases f with
  | next=>
   obtain ⟨σ3,H3,I3,n3⟩:=q3
   obtain ⟨m',hm,w3⟩:=hN σ3 H3 n3
   exact ⟨m',hm,σ3,H3,I3,w3⟩
  | cont=>
   obtain ⟨σ3,H3,I3,n3⟩:=q3
   obtain ⟨m',hm,w3⟩:=hN σ3 H3 n3
   exact ⟨m',hm,σ3,H3,I3,w3⟩
  | brk=>exact q3
  | ret v=>exact q3
 | false=>
  rw [if_neg Bool.false_ne_true]
  exact wpAny_execs_nil ⟨σ1,H2,I2,q2⟩
end
structure It where
 go:Nat->Hp->Prop
 yld:Nat->Hp->V->Hp->Prop
 stop:Nat->Hp->Prop
noncomputable def FpOk (X:Cx) (pins:List (Addr × Obj)) (H:Hp) (b:Addr):Prop:=
 H b=none/\b≠X.env.locals/\b∉X.fs/\(b∈X.ex\/X.s₀.heap.objs.size<=b)/\(∀x c,X.env.cells.lookup x=some c->c≠b)/\∀p∈X.pn++pins,p.1≠b
theorem Inv.fpOk {X:Cx} {pins:List (Addr × Obj)} {σ:St} {H H':Hp} {s:Shared} {b:Addr} (I:Inv X pins σ H s) (hb:s.heap.objs.size<=b) (hn:H' b=none):FpOk X pins H' b:=by
 refine ⟨hn,Nat.ne_of_gt (Nat.lt_of_lt_of_le I.lt hb),I.nofs hb,.inr (Nat.le_trans I.sz hb),fun x c e z=>?_,fun p hp z=>?_⟩
 ·obtain ⟨v,q⟩:=I.cell x c e
  exact absurd (Nat.lt_of_lt_of_le q.lt (by rw [z]; exact hb)) (Nat.lt_irrefl _)
 ·exact absurd (Nat.lt_of_lt_of_le (Heap.lt_size (I.pin p hp).1) (by rw [z]; exact hb)) (Nat.lt_irrefl _)
structure Turn (P:Program) (w:World) (K:W.Frag) (tg:Expr) (J:It) (fp:List Addr) (it:Addr) (tn:Nat->Heap->Prop):Prop where
 mem:it∈fp
 obj:∀i h,tn i h->∀b∈fp,∃o,h.get? b=some o/\∀v,o.data≠.cell v
 keep:∀i h h',tn i h->(∀b∈fp,∀o,h.get? b=some o->h'.get? b=some o)->tn i h'
 item:∀(X:Cx),X.prog=P->X.w=w->X.K=K->X.calm=true->∀(i:Nat) (pins:List (Addr × Obj)) (s:Shared) (σ:St) (H:Hp) (E:Value->Shared->Prop),Inv X pins σ H s->(∀b∈fp,FpOk X pins H b)->tn i s.heap->J.go i H ->
  wpAny (model P w) X.A (pyNext (.ref it)) (fun r s1=>∃u,r=some u /\
   wpAny (model P w) X.A (letOwnedTupleGo tg (.ref it) u) (fun _ s2=>∃x H',Inv X pins σ H' s2/\RelV x u/\J.yld i H x H'/\tn (i + 1) s2.heap/\∀b∈fp,H' b=none) E s1) E s
 done:∀(X:Cx),X.prog=P->X.w=w->X.K=K->X.calm=true->∀(i:Nat) (pins:List (Addr × Obj)) (s:Shared) (σ:St) (H:Hp) (E:Value->Shared->Prop),Inv X pins σ H s->(∀b∈fp,FpOk X pins H b)->tn i s.heap->J.stop i H ->
  wpAny (model P w) X.A (pyNext (.ref it)) (fun r s1=>r=none/\Inv X pins σ H s1) E s
 self:∀(A:Around) (i:Nat) (s:Shared) (Q:Value->Shared->Prop) (E:Value->Shared->Prop),tn i s.heap->Q (.ref it) s->wpAny (model P w) A (pyIter (.ref it)) Q E s
noncomputable abbrev TI:=St->Hp->(It->Hp->Prop)->Prop
noncomputable def PIE (X:Cx) (pins:List (Addr × Obj)) (σ:St) (tg:Expr) (R:It->Hp->Prop) (itv:Value) (s2:Shared):Prop:=
 ∃(it:Addr) (fp:List Addr) (tn:Nat->Heap->Prop) (J:It) (H':Hp),itv=.ref it/\Inv X pins σ H' s2/\Turn X.prog X.w X.K tg J fp it tn/\tn 0 s2.heap/\(∀b∈fp,FpOk X pins H' b)/\R J H'
noncomputable def PI (X:Cx) (tg iter:Expr) (wi:TI):Prop:=
 ∀(pins:List (Addr × Obj)) (s:Shared) (σ:St) (H:Hp) (R:It->Hp->Prop),Inv X pins σ H s->wi σ H R ->
  wpAny (model X.prog X.w) X.A (eval iter X.env) (fun v s1=>wpAny (model X.prog X.w) X.A (pyIter v) (PIE X pins σ tg R) X.xe s1) X.xe s
theorem zna {M:Model} {A:Around} {E:Value->Shared->Prop} {s:Shared} {tg:Expr} {it:Addr} {u:Value} {o:Obj} {n:String} {vs:Array Value} {Q:Unit->Shared->Prop} (ho:s.heap.get? it=some o) (hc:o.cls=.type n) (hd:o.data=.fields vs)
    (hn : ["enumerate","zip","dict_itemiterator","dict_reverseitemiterator","odict_iterator","itertools.zip_longest","itertools.pairwise"].contains n=false) (hQ:Q () s):wpAny M A (letOwnedTupleGo tg (.ref it) u) Q E s:=by
  unfold letOwnedTupleGo
  cases tg <;> first
    | exact wpAny_pure hQ
    | (cases u <;> first
        | exact wpAny_pure hQ
        | (refine wpAny_bind (wpAny_load ho ?_)
           rw [hc,hd]
           show wpAny M A (if (["enumerate","zip","dict_itemiterator","dict_reverseitemiterator","odict_iterator","itertools.zip_longest","itertools.pairwise"].contains n && vs[0]? == some (rawInt _))=true then _ else _) Q E s
           rw [if_neg (by intro h; rw [hn,Bool.false_and] at h; cases h)]
           exact wpAny_pure hQ))
noncomputable def Itl (K:W.Frag) (a:Addr):It:=
 ⟨fun i H=>∃xs x,SqL K H a xs/\xs[i]? = some x,fun i H x H'=>H'=H/\∀xs,SqL K H a xs->xs[i]? = some x,fun i H=>∃xs,SqL K H a xs/\xs.length<=i⟩
noncomputable def Itt (K:W.Frag) (a:Addr):It:=
 ⟨fun i H=>∃xs x,SqT K H a xs/\xs[i]? = some x,fun i H x H'=>H'=H/\∀xs,SqT K H a xs->xs[i]? = some x,fun i H=>∃xs,SqT K H a xs/\xs.length<=i⟩
noncomputable def Itr (lo:Int) (n:Nat):It:=⟨fun i _=>i < n,fun i H x H'=>H'=H/\x=.int (lo + i),fun i _=>n<=i⟩
theorem zj1 {P:Program} {w:World} {K:W.Frag} {tg:Expr} (a it:Addr):Turn P w K tg (Itl K a) [it] it (fun i h=>h.IsListIter it a i) where
 mem:=by simp
 obj:=fun i h st b hb=>by
  have e:b=it:=by simpa using hb
  subst e
  obtain ⟨o,e,c,d⟩:=st
  exact ⟨o,e,fun v z=>by rw [d] at z; cases z⟩
 keep:=fun i h h' st k=>st.at fun o e=>k it (by simp) o e
 item:=by
  intro X hP hw hK hc i pins s σ H E I hf st hg
  subst hP hw hK
  obtain ⟨xs,x,hq,hx⟩:=hg
  obtain ⟨its,rv,p,hz⟩:=I.list hq
  obtain ⟨u,hu,ru⟩:=rv.get hx
  obtain ⟨f0,f1,f2,f3,f4,f5⟩:=hf it (by simp)
  refine wpAny_pyNext_list_item st p.isList (x:=u) (by simpa using hu) fun h' st' sb=>?_
  have I1:Inv X pins σ H { s with heap:=h' }:=I.turned (t':=s.toks) (fun b o hb e=>(sb.2 b hb).trans e) f0 f1 f3 f4 f5
  obtain ⟨o,e,c,d⟩:=id st'
  exact ⟨u,rfl,zna (s:={ s with heap:=h' }) e c d (by decide) ⟨x,H,I1,ru,⟨rfl,fun ys hy=>by rw [I.list_inj hy hq]; exact hx⟩,st',fun b hb=>(hf b hb).1⟩⟩
 done:=by
  intro X hP hw hK hc i pins s σ H E I hf st hg
  subst hP hw hK
  obtain ⟨xs,hq,hx⟩:=hg
  obtain ⟨its,rv,p,hz⟩:=I.list hq
  obtain ⟨f0,f1,f2,f3,f4,f5⟩:=hf it (by simp)
  have hl:=rv.length
  exact wpAny_pyNext_list_end (I.ok.hd hc) st p.isList (by simp; omega) fun h' eb=>⟨rfl,I.turned (t':=s.toks) (fun b o hb e=>eb b o hb e) f0 f1 f3 f4 f5⟩
 self:=fun _ _ _ _ _ st h=>wpAny_pyIter_listiter st h
theorem zjo {P:Program} {w:World} {K:W.Frag} {tg:Expr} (a it:Addr):Turn P w K tg (Itt K a) [it] it (fun i h=>h.IsTupleIter it a i) where
 mem:=by simp
 obj:=fun i h st b hb=>by
  have e:b=it:=by simpa using hb
  subst e
  obtain ⟨o,e,c,d⟩:=st
  exact ⟨o,e,fun v z=>by rw [d] at z; cases z⟩
 keep:=fun i h h' st k=>st.at fun o e=>k it (by simp) o e
 item:=by
  intro X hP hw hK hc i pins s σ H E I hf st hg
  subst hP hw hK
  obtain ⟨xs,x,hq,hx⟩:=hg
  obtain ⟨its,rv,p,hz⟩:=I.tuple hq
  obtain ⟨u,hu,ru⟩:=rv.get hx
  obtain ⟨f0,f1,f2,f3,f4,f5⟩:=hf it (by simp)
  refine wpAny_pyNext_tuple_item st (show s.heap.IsTuple a its.toArray from p) (x:=u) (by simpa using hu) fun h' st' sb=>?_
  have I1:Inv X pins σ H { s with heap:=h' }:=I.turned (t':=s.toks) (fun b o hb e=>(sb.2 b hb).trans e) f0 f1 f3 f4 f5
  obtain ⟨o,e,c,d⟩:=id st'
  exact ⟨u,rfl,zna (s:={ s with heap:=h' }) e c d (by decide) ⟨x,H,I1,ru,⟨rfl,fun ys hy=>by rw [I.tuple_inj hy hq]; exact hx⟩,st',fun b hb=>(hf b hb).1⟩⟩
 done:=by
  intro X hP hw hK hc i pins s σ H E I hf st hg
  subst hP hw hK
  obtain ⟨xs,hq,hx⟩:=hg
  obtain ⟨its,rv,p,hz⟩:=I.tuple hq
  obtain ⟨f0,f1,f2,f3,f4,f5⟩:=hf it (by simp)
  have hl:=rv.length
  exact wpAny_pyNext_tuple_end (I.ok.hd hc) st (show s.heap.IsTuple a its.toArray from p) (by simp; omega) fun h' eb=>⟨rfl,I.turned (t':=s.toks) (fun b o hb e=>eb b o hb e) f0 f1 f3 f4 f5⟩
 self:=fun _ _ _ _ _ st h=>wpAny_pyIter_tupleiter st h
theorem zjp {P:Program} {w:World} {K:W.Frag} {tg:Expr} (it:Addr) (lo:Int) (n:Nat):Turn P w K tg (Itr lo n) [it] it (fun i h=>IsRangeIter h it (lo + (i:Nat) * 1) ((n:Int) - (i:Nat)) 1) where
 mem:=by simp
 obj:=fun i h st b hb=>by
  have e:b=it:=by simpa using hb
  subst e
  exact ⟨_,st,fun v z=>by
   have z':Data.fields _=Data.cell v:=z
   cases z'⟩
 keep:=fun i h h' st k=>k it (by simp) _ st
 item:=by
  intro X hP hw hK hc i pins s σ H E I hf st hg
  subst hP hw hK
  obtain ⟨f0,f1,f2,f3,f4,f5⟩:=hf it (by simp)
  have W:=Walks.range (prog:=X.prog) (w:=X.w) (I.ok.hd hc) it lo 1 n
  refine W.item i s _ _ hg st fun v h' tk hv st' kk=>?_
  obtain ⟨t,rfl⟩:=hv
  have I1:Inv X pins σ H { s with heap:=h',toks:=tk }:=I.turned (fun b o hb e=>kk b o (by simpa using hb) e) f0 f1 f3 f4 f5
  refine ⟨_,rfl,zna (s:={ s with heap:=h',toks:=tk }) (n := "range_iterator") st' rfl rfl (by decide) ⟨.int (lo + i),H,I1,⟨t,?_⟩,⟨rfl,rfl⟩,st',fun b hb=>(hf b hb).1⟩⟩
  rw [Int.mul_one]
 done:=by
  intro X hP hw hK hc i pins s σ H E I hf st hg
  subst hP hw hK
  obtain ⟨f0,f1,f2,f3,f4,f5⟩:=hf it (by simp)
  exact wpAny_pyNext_range_end (I.ok.hd hc) st (by have:n<=i:=hg; omega) fun h' eb=>⟨rfl,I.turned (t':=s.toks) (fun b o hb e=>eb b o hb e) f0 f1 f3 f4 f5⟩
 self:=fun _ _ _ _ _ st h=>wpAny_pyIter_rangeiter st h
section
variable {X:Cx} {tg:Expr}
theorem zmy {pins:List (Addr × Obj)} {σ:St} {H:Hp} {s:Shared} {R:It->Hp->Prop} {E:Value->Shared->Prop} {lo hi:Int} {t u v:Tok} {tk:Nat} (I:Inv X pins σ H s) (h1 : -(2 ^ 62)<=lo) (h2:lo < 2 ^ 62) (h3 : -(2 ^ 62)<=hi) (h4:hi < 2 ^ 62)
  (q:R (Itr lo (hi - lo).toNat) H):wpAny (model X.prog X.w) X.A (pyIter (.ref s.heap.objs.size)) (PIE X pins σ tg R) E { s with heap:=s.heap.push { cls:=.type "range",data:=.fields #[.int lo t,.int hi u,.int 1 v] },toks:=tk }:=by
 refine wpAny_pyIter_range (IsRange.new ..) (small_one h1 h2 h3 h4) ?_
 have I1:Inv X pins σ H { s with heap:=s.heap.push { cls:=.type "range",data:=.fields #[.int lo t,.int hi u,.int 1 v] },toks:=tk }:=I.kept fun b o e=>Heap.get?_push_of_some _ e
 refine ⟨(s.heap.push { cls:=.type "range",data:=.fields #[.int lo t,.int hi u,.int 1 v] }).objs.size,[(s.heap.push { cls:=.type "range",data:=.fields #[.int lo t,.int hi u,.int 1 v] }).objs.size],_,_,H,rfl,
  I1.kept (t':=tk) fun b o e=>Heap.get?_push_of_some _ e,zjp _ lo (hi - lo).toNat,?_,fun b hb=>?_,q⟩
 ·have e1:lo + ((0:Nat):Int) * 1=lo:=by simp
  have e2:(((hi - lo).toNat:Nat):Int) - ((0:Nat):Int)=Builtin.Range.rangeSize lo hi 1:=by rw [rangeSize_one]; split <;> omega
  show IsRangeIter _ _ (lo + ((0:Nat):Int) * 1) ((((hi - lo).toNat:Nat):Int) - ((0:Nat):Int)) 1
  rw [e1,e2]
  exact Heap.get?_push_size _ rfl
 ·have e:b=(s.heap.push { cls:=.type "range",data:=.fields #[.int lo t,.int hi u,.int 1 v] }).objs.size:=by simpa using hb
  subst e
  exact I1.fpOk (Nat.le_refl _) (I1.hok.fresh (Nat.le_refl _))
noncomputable def zs9 (ta:TA):TI:=fun σ H R=>ta σ H fun vs H1=>∃j:Int,vs=[.int j]/\-(2 ^ 62)<=j/\j < 2 ^ 62/\R (Itr 0 j.toNat) H1
theorem zkG {a:Expr} {ta:TA} {p pos:Pos} (hg:Gl X "range") (hm:X.mg "range" = none) (ha:PA X [a] ta) (hs:starEach [a] X.env=[(false,eval a X.env)]:=by rfl):PI X tg (.Call (.Name "range" p) [a] [] pos) (zs9 ta):=by
 intro pins s σ H R I h
 refine Call_ (zgl I hg hm boot_range (PyProof.Rows.callWith_type1 (thn (ha pos pins s σ H _ I h) fun us s1 ⟨vs,H1,I1,r1,q1⟩=>?_) hs rfl))
 obtain ⟨j,e,q1,q2,q⟩:=q1
 subst e
 cases r1 with
 | cons r rr=>
  cases rr
  obtain ⟨t,rfl⟩:=r
  exact call_range_1 (zmy I1 (by omega) (by omega) q1 q2 (by simpa using q))
noncomputable def tFor (wi:TI) (g:TG) (tb:TS):TS:=fun D σ H=>wi σ H fun J H1=>∃W:Nat->Nat->St->Hp->Prop,(∃m,W 0 m σ H1)/\∀i m σ H,W i m σ H ->
 (J.stop i H/\D.nx σ H)\/(J.go i H/\∃N:St->Hp->Prop,(∀σ' H',N σ' H'->∃m',m' < m/\W (i + 1) m' σ' H')/\∀x H',J.yld i H x H'->g x σ H' fun σ2 H2=>tb { D with nx:=N,ct:=N,bk:=D.nx } σ2 H2)
noncomputable def zgi (fp:List Addr) (h:Heap):List (Addr × Obj):=fp.filterMap fun b=>(h.get? b).map fun o=>(b,o)
theorem zcj {fp:List Addr} {h:Heap} {b:Addr} {o:Obj} (hb:b∈fp) (e:h.get? b=some o):(b,o)∈zgi fp h:=List.mem_filterMap.mpr ⟨b,hb,by rw [e]; rfl⟩
theorem zkT {fp:List Addr} {h:Heap} {p:Addr × Obj} (hp:p∈zgi fp h):p.1∈fp/\h.get? p.1=some p.2:=by
 obtain ⟨b,hb,e⟩:=List.mem_filterMap.mp hp
 cases q:h.get? b with
 | none=>rw [q] at e; cases e
 | some o=>
  rw [q] at e
  have e':(b,o)=p:=Option.some.inj e
  subst e'
  exact ⟨hb,q⟩
theorem Inv.pinned {pins:List (Addr × Obj)} {σ:St} {H:Hp} {s:Shared} {fp:List Addr} (I:Inv X pins σ H s) (hf:∀b∈fp,FpOk X pins H b) (ho:∀b∈fp,∃o,s.heap.get? b=some o/\∀v,o.data≠.cell v):Inv X (pins++zgi fp s.heap) σ H s:=
 I.pins_of fun p hp=>(List.mem_append.mp hp).elim (fun z=>I.pin p (List.mem_append_right _ z)) fun z=>by
  obtain ⟨hb,e⟩:=zkT z
  obtain ⟨f0,f1,f2,_⟩:=hf p.1 hb
  obtain ⟨o,e',d⟩:=ho p.1 hb
  rw [e] at e'; cases e'
  exact ⟨e,f0,f1,f2,d⟩
theorem Inv.unpinned {pins pl:List (Addr × Obj)} {σ:St} {H:Hp} {s:Shared} (I:Inv X (pins++pl) σ H s):Inv X pins σ H s:=I.pins_of fun p hp=>I.pin p (List.mem_append_right _ (List.mem_append_left _ hp))
theorem zht {iter:Expr} {body:List Stmt} {wi:TI} {g:TG} {tb:TS} {pos:Pos} (hp:PassesOwn (model X.prog X.w) X.A X.env X.xe) (hc:X.calm=true) (hi:PI X tg iter wi) (hg:PG X tg g) (hb:PSs X body tb)
  (hs:∀x,foldedSetIterable iter X.env x=pure x:=by intro _; rfl):PS X (.For tg iter body [] pos) (tFor wi g tb):=by
 intro pins s σ H D I h
 refine wpAny_For (thn (hi pins s σ H _ I h) fun v s1 h1=>thn h1 fun itv s2 h2=>?_) hs
 obtain ⟨it,fp,tn,J,H2,e,I2,T,st2,f2,W,⟨m0,w0⟩,turn⟩:=h2
 subst e
 have stat:∀{H':Hp},(∀b∈fp,H' b=none)->∀b∈fp,FpOk X pins H' b:=fun hn b hb=>⟨hn b hb,(f2 b hb).2⟩
 refine codeAny_forLoop_any (fun n s'=>∃i σ' H',Inv X pins σ' H' s'/\tn i s'.heap/\(∀b∈fp,H' b=none)/\W i n σ' H') ?_ m0 ⟨0,σ,H2,I2,st2,fun b hb=>(f2 b hb).1,w0⟩
 rintro n s3 ⟨i,σ3,H3,I3,st3,fr3,w3⟩
 rcases turn i n σ3 H3 w3 with ⟨stop,qn⟩ | ⟨go,N,hN,step⟩
 ·refine wpAny_passesOwn hp (thn (T.done X rfl rfl rfl hc i pins s3 σ3 H3 X.xe I3 (stat fr3) st3 stop) fun r s4 ⟨hr,I4⟩=>?_)
  subst hr
  exact wpAny_execs_nil ⟨σ3,H3,I4,qn⟩
 ·refine wpAny_passesOwn hp (thn (T.item X rfl rfl rfl hc i pins s3 σ3 H3 X.xe I3 (stat fr3) st3 go) fun r s4 ⟨u,hr,h4⟩=>?_)
  subst hr
  refine wpAny_passesOwn hp (thn h4 fun _ s5 ⟨x,H5,I5,r5,y5,st5,fr5⟩=>?_)
  have I5':=I5.pinned (stat fr5) (T.obj _ _ st5)
  refine wpAny_passesOwn hp (thn (hg _ s5 σ3 H5 x u _ I5' r5 (step x H5 y5)) fun _ s6 ⟨σ6,H6,I6,q6⟩=>?_)
  refine wpAny_passesOwn hp (thn (hb _ s6 σ6 H6 _ I6 q6) fun f s7 q7=>?_)
  have again:∀{σ7:St} {H7:Hp},Inv X (pins++zgi fp s5.heap) σ7 H7 s7->N σ7 H7->∃m,m < n/\∃i σ' H',Inv X pins σ' H' s7/\tn i s7.heap/\(∀b∈fp,H' b=none)/\W i m σ' H':=fun {σ7 H7} I7 n7=>by
   obtain ⟨m',hm,w7⟩:=hN σ7 H7 n7
   refine ⟨m',hm,i + 1,σ7,H7,I7.unpinned,T.keep _ _ _ st5 fun b hb o e=>(I7.pin (b,o) (List.mem_append_right _ (List.mem_append_right _ (zcj hb e)))).1,fun b hb=>?_,w7⟩
   obtain ⟨o,e,d⟩:=T.obj _ _ st5 b hb
   exact (I7.pin (b,o) (List.mem_append_right _ (List.mem_append_right _ (zcj hb e)))).2.1
  cases f with
  | next=>obtain ⟨σ7,H7,I7,n7⟩:=q7; exact again I7 n7
  | cont=>obtain ⟨σ7,H7,I7,n7⟩:=q7; exact again I7 n7
  | brk=>obtain ⟨σ7,H7,I7,q7⟩:=q7; exact ⟨σ7,H7,I7.unpinned,q7⟩
  | ret v=>obtain ⟨x7,σ7,H7,I7,r7,q7⟩:=q7; exact ⟨x7,σ7,H7,I7.unpinned,r7,q7⟩
end
noncomputable abbrev R2:=V->V->Hp->VK->Prop
noncomputable def OpR (X:Cx) (f:Value->Value->Sem Value) (r:R2):Prop:=
 ∀(pins:List (Addr × Obj)) (s:Shared) (σ:St) (H:Hp) (x y:V) (v u:Value) (Q:VK),Inv X pins σ H s->RelV x v->RelV y u->r x y H Q ->
  wpAny (model X.prog X.w) X.A (f v u) (EP X pins σ Q) X.xe s
noncomputable def UnR (X:Cx) (f:Value->Sem Value) (r:V->Hp->VK->Prop):Prop:=
 ∀(pins:List (Addr × Obj)) (s:Shared) (σ:St) (H:Hp) (x:V) (v:Value) (Q:VK),Inv X pins σ H s->RelV x v->r x H Q ->
  wpAny (model X.prog X.w) X.A (f v) (EP X pins σ Q) X.xe s
noncomputable def zc9 (X:Cx) (f:Value) (r:List V->Hp->VK->Prop):Prop:=
 ∀(pins:List (Addr × Obj)) (s:Shared) (σ:St) (H:Hp) (xs:List V) (us:List Value) (Q:VK),Inv X pins σ H s->Vals xs us->r xs H Q ->
  wpAny (model X.prog X.w) X.A (call f us) (EP X pins σ Q) X.xe s
noncomputable def TruR (X:Cx) (r:V->Hp->(Bool->Hp->Prop)->Prop):Prop:=
 ∀(pins:List (Addr × Obj)) (s:Shared) (σ:St) (H:Hp) (x:V) (v:Value) (Q:Bool->Hp->Prop),Inv X pins σ H s->RelV x v->r x H Q ->
  wpAny (model X.prog X.w) X.A (truthy v) (TP X pins σ Q) X.xe s
noncomputable def tOp (r:R2) (ta tb:TE):TE:=fun σ H Q=>ta σ H fun x H1=>tb σ H1 fun y H2=>r x y H2 Q
noncomputable def tUn (r:V->Hp->VK->Prop) (ta:TE):TE:=fun σ H Q=>ta σ H fun x H1=>r x H1 Q
noncomputable def rI (C:Int->Int->Prop) (g:Int->Int->V):R2:=fun x y H Q=>∃i j,x=.int i/\y=.int j/\C i j/\Q (g i j) H
noncomputable def rI0 (g:Int->Int->V):R2:=fun x y H Q=>∃i j,x=.int i/\y=.int j/\Q (g i j) H
noncomputable def rU (g:Int->V):V->Hp->VK->Prop:=fun x H Q=>∃i,x=.int i/\Q (g i) H
section
variable {X:Cx} {a b c:Expr} {ta tb tc:TE} {pos:Pos}
theorem binT (ha:PE X a ta) (hb:PE X b tb) {pins:List (Addr × Obj)} {s:Shared} {σ:St} {H:Hp} {R:V->V->Hp->Prop} (I:Inv X pins σ H s)
  (h:ta σ H fun x H1=>tb σ H1 fun y H2=>R x y H2) {Q:Value->Shared->Prop} {f:Value->Value->Sem Value}
  (hf:∀v u s2 x y H2,Inv X pins σ H2 s2->RelV x v->RelV y u->R x y H2->wpAny (model X.prog X.w) X.A (f v u) Q X.xe s2) :
  wpAny (model X.prog X.w) X.A (eval a X.env) (fun v s₁=>wpAny (model X.prog X.w) X.A (eval b X.env) (fun u s₂=>wpAny (model X.prog X.w) X.A (f v u) Q X.xe s₂) X.xe s₁) X.xe s:=by
 refine thn (ha pins s σ H _ I h) fun v s1 ⟨x,H1,I1,r1,q1⟩=>?_
 refine thn (hb pins s1 σ H1 _ I1 q1) fun u s2 ⟨y,H2,I2,r2,q2⟩=>?_
 exact hf v u s2 x y H2 I2 r1 r2 q2
theorem zoZ {op:Operator} {r:R2} (ho:OpR X (binaryOp op) r) (ha:PE X a ta) (hb:PE X b tb):PE X (.BinOp a op b pos) (tOp r ta tb):=by
 intro pins s σ H Q I h
 exact wpAny_BinOp (binT ha hb I h fun v u s2 x y H2 I2 rx ry q=>ho pins s2 σ H2 x y v u Q I2 rx ry q)
theorem zsR {op:UnaryOp} {r:V->Hp->VK->Prop} (ho:UnR X (unaryOp op) r) (ha:PE X a ta):PE X (.UnaryOp op a pos) (tUn r ta):=by
 intro pins s σ H Q I h
 exact UnaryOp_ (thn (ha pins s σ H _ I h) fun v s1 ⟨x,H1,I1,r1,q1⟩=>ho pins s1 σ H1 x v Q I1 r1 q1)
theorem opI {f:Value->Value->Sem Value} {C:Int->Int->Prop} {g:Int->Int->Int}
  (rule:∀(i j:Int) (t u:Tok) (s:Shared) (Q:Value->Shared->Prop) (E:Value->Shared->Prop),C i j->Q (.int (g i j) s.toks) { s with toks:=s.toks + 1 }->wpAny (model X.prog X.w) X.A (f (.int i t) (.int j u)) Q E s) :
  OpR X f (rI C fun i j=>.int (g i j)):=by
 intro pins s σ H x y v u Q I rx ry h
 obtain ⟨i,j,rfl,rfl,hc,q⟩:=h
 obtain ⟨t,rfl⟩:=rx
 obtain ⟨t',rfl⟩:=ry
 exact rule i j t t' s _ _ hc ⟨.int (g i j),H,I.tok _,⟨_,rfl⟩,q⟩
theorem opI0 {f:Value->Value->Sem Value} {g:Int->Int->Int}
  (rule:∀(i j:Int) (t u:Tok) (s:Shared) (Q:Value->Shared->Prop) (E:Value->Shared->Prop),Q (.int (g i j) s.toks) { s with toks:=s.toks + 1 }->wpAny (model X.prog X.w) X.A (f (.int i t) (.int j u)) Q E s) :
  OpR X f (rI0 fun i j=>.int (g i j)):=by
 intro pins s σ H x y v u Q I rx ry h
 obtain ⟨i,j,rfl,rfl,q⟩:=h
 obtain ⟨t,rfl⟩:=rx
 obtain ⟨t',rfl⟩:=ry
 exact rule i j t t' s _ _ ⟨.int (g i j),H,I.tok _,⟨_,rfl⟩,q⟩
theorem opB0 {f:Value->Value->Sem Value} {g:Int->Int->Bool}
  (rule:∀(i j:Int) (t u:Tok) (s:Shared) (Q:Value->Shared->Prop) (E:Value->Shared->Prop),Q (.bool (g i j)) s->wpAny (model X.prog X.w) X.A (f (.int i t) (.int j u)) Q E s) :
  OpR X f (rI0 fun i j=>.bl (g i j)):=by
 intro pins s σ H x y v u Q I rx ry h
 obtain ⟨i,j,rfl,rfl,q⟩:=h
 obtain ⟨t,rfl⟩:=rx
 obtain ⟨t',rfl⟩:=ry
 exact rule i j t t' s _ _ ⟨.bl (g i j),H,I,rfl,q⟩
noncomputable def CDiv (i j:Int):Prop:=0 < j/\j < 1073741824
noncomputable def CPow (i j:Int):Prop:=0<=j/\j<=1000000/\i.natAbs < 2 ^ 64
noncomputable def CMul (i j:Int):Prop:=(-(2 ^ 64) < i/\i < 2 ^ 64)\/(-(2 ^ 64) < j/\j < 2 ^ 64)
theorem CMul.ok {i j:Int} (h:CMul i j):IntMulOk i j:=by
 rcases h with ⟨h1,h2⟩ | ⟨h1,h2⟩
 ·exact .of_left (intBits_le_64 h1 h2)
 ·exact .of_right (intBits_le_64 h1 h2)
theorem znY:OpR X (binaryOp .Add) (rI0 fun i j=>.int (i + j)):=opI0 fun _ _ _ _ _ _ _ q=>add_int q
theorem zq0:OpR X (binaryOp .Sub) (rI0 fun i j=>.int (i - j)):=opI0 fun _ _ _ _ _ _ _ q=>sub_int q
theorem zq3:OpR X (binaryOp .Mult) (rI CMul fun i j=>.int (i * j)):=opI fun _ _ _ _ _ _ _ hc q=>mul_int q hc.ok
theorem zo9:OpR X (binaryOp .FloorDiv) (rI CDiv fun i j=>.int (i / j)):=opI fun i j _ _ _ _ _ hc q=>by
 have h1:(0:Int) < j:=hc.1
 have h2:j < 1073741824:=hc.2
 exact floordiv_int (by omega) (by rw [Int.fdiv_eq_ediv_of_nonneg i (by omega)]; exact q) (.inl (PyProof.noPylong_small (by omega)))
theorem zq4:OpR X (binaryOp .Mod) (rI (fun _ j=>0 < j) fun i j=>.int (i % j)):=opI fun i j _ _ _ _ _ hc q=>by
 have h1:(0:Int) < j:=hc
 exact mod_int' (by omega) (by rw [Int.fmod_eq_emod_of_nonneg i (by omega)]; exact q)
theorem zq2:OpR X (binaryOp .Pow) (rI CPow fun i j=>.int (i ^ j.toNat)):=opI fun _ _ _ _ _ _ _ hc q=>pow_int_small hc.1 hc.2.1 hc.2.2 q
theorem unI {f:Value->Sem Value} {g:Int->Int}
  (rule:∀(i:Int) (t:Tok) (s:Shared) (Q:Value->Shared->Prop) (E:Value->Shared->Prop),Q (.int (g i) s.toks) { s with toks:=s.toks + 1 }->wpAny (model X.prog X.w) X.A (f (.int i t)) Q E s) :
  UnR X f (rU fun i=>.int (g i)):=by
 intro pins s σ H x v Q I rx h
 obtain ⟨i,rfl,q⟩:=h
 obtain ⟨t,rfl⟩:=rx
 exact rule i t s _ _ ⟨.int (g i),H,I.tok _,⟨_,rfl⟩,q⟩
theorem zpW:UnR X (unaryOp .USub) (rU fun i=>.int (-i)):=unI fun _ _ _ _ _ q=>neg_int q
end
noncomputable def scal:V->V->Bool
 | .non,.non=>true | .non,.int _=>true | .int _,.non=>true | .non,.bl _=>true | .bl _,.non=>true | .non,.str _=>true | .str _,.non=>true
 | .int _,.int _=>true | .bl _,.bl _=>true | .str _,.str _=>true | .byt _,.byt _=>true
 | .int _,.str _=>true | .str _,.int _=>true | .bl _,.str _=>true | .str _,.bl _=>true
 | _,_=>false
noncomputable def rEq:R2:=fun x y H Q=>scal x y=true/\Q (.bl (decide (x=y))) H
noncomputable def rNe:R2:=fun x y H Q=>scal x y=true/\Q (.bl (! decide (x=y))) H
theorem ziw {i j:Int}:decide (V.int i=V.int j)=(i == j):=by
 rw [Bool.eq_iff_iff]
 simp
theorem zlG {i j:Bool}:decide (V.bl i=V.bl j)=(i == j):=by
 rw [Bool.eq_iff_iff]
 simp
theorem ziv {i j:Str}:decide (V.str i=V.str j)=(i == j):=by
 rw [Bool.eq_iff_iff]
 simp
theorem zlF {i j:Array UInt8}:decide (V.byt i=V.byt j)=(i.toList == j.toList):=by
 rw [Bool.eq_iff_iff]
 cases i
 cases j
 simp
section
variable {X:Cx} {a b c:Expr} {ta tb tc:TE} {pos:Pos}
theorem zaL {pins:List (Addr × Obj)} {σ:St} {H:Hp} {s:Shared} {Q:VK} {k k':Bool} (I:Inv X pins σ H s) (q:Q (.bl k) H) (e:k=k'):EP X pins σ Q (.bool k') s:=by
 subst e
 exact ⟨.bl k,H,I,rfl,q⟩
theorem zq9:OpR X (compareOp .Eq) rEq:=by
 intro pins s σ H x y v u Q I rx ry h
 obtain ⟨hs,q⟩:=h
 cases x with
 | non=>
  cases rx
  cases y with
  | non=>cases ry; exact PySem.EqNone.eq_none_none (zaL I q (by simp))
  | bl j=>cases ry; exact PySem.EqNone.eq_none_bool (zaL I q (by simp))
  | int j=>obtain ⟨t',rfl⟩:=ry; exact PySem.EqNone.eq_none_int (zaL I q (by simp))
  | str j=>obtain ⟨t',rfl⟩:=ry; exact PySem.EqNone.eq_none_str (zaL I q (by simp))
  | _=>exact absurd (show false=true from hs) Bool.false_ne_true
 | bl i=>
  cases rx
  cases y with
  | non=>cases ry; exact PySem.EqNone.eq_bool_none (zaL I q (by simp))
  | bl j=>cases ry; exact eq_bool (zaL I q zlG)
  | str j=>obtain ⟨t',rfl⟩:=ry; exact PySem.EqMixed.eq_bool_str (zaL I q (by simp))
  | _=>exact absurd (show false=true from hs) Bool.false_ne_true
 | int i=>
  obtain ⟨t,rfl⟩:=rx
  cases y with
  | non=>cases ry; exact PySem.EqNone.eq_int_none (zaL I q (by simp))
  | int j=>obtain ⟨t',rfl⟩:=ry; exact eq_int (zaL I q ziw)
  | str j=>obtain ⟨t',rfl⟩:=ry; exact PySem.EqMixed.eq_int_str (zaL I q (by simp))
  | _=>exact absurd (show false=true from hs) Bool.false_ne_true
 | str i=>
  obtain ⟨t,rfl⟩:=rx
  cases y with
  | non=>cases ry; exact PySem.EqNone.eq_str_none (zaL I q (by simp))
  | bl j=>cases ry; exact PySem.EqMixed.eq_str_bool (zaL I q (by simp))
  | int j=>obtain ⟨t',rfl⟩:=ry; exact PySem.EqMixed.eq_str_int (zaL I q (by simp))
  | str j=>obtain ⟨t',rfl⟩:=ry; exact eq_str (zaL I q ziv)
  | _=>exact absurd (show false=true from hs) Bool.false_ne_true
 | byt i=>
  obtain ⟨t,rfl⟩:=rx
  cases y with
  | byt j=>obtain ⟨t',rfl⟩:=ry; exact W.eq_bytes (zaL I q zlF)
  | _=>exact absurd (show false=true from hs) Bool.false_ne_true
 | _=>cases y <;> exact absurd (show false=true from hs) Bool.false_ne_true
theorem zsU:OpR X (compareOp .NotEq) rNe:=by
 intro pins s σ H x y v u Q I rx ry h
 obtain ⟨hs,q⟩:=h
 cases x with
 | non=>
  cases rx
  cases y with
  | non=>cases ry; exact PySem.EqNone.ne_none_none (zaL I q (by simp))
  | bl j=>cases ry; exact PySem.EqNone.ne_none_bool (zaL I q (by simp))
  | int j=>obtain ⟨t',rfl⟩:=ry; exact PySem.EqNone.ne_none_int (zaL I q (by simp))
  | str j=>obtain ⟨t',rfl⟩:=ry; exact PySem.EqNone.ne_none_str (zaL I q (by simp))
  | _=>exact absurd (show false=true from hs) Bool.false_ne_true
 | bl i=>
  cases rx
  cases y with
  | non=>cases ry; exact PySem.EqNone.ne_bool_none (zaL I q (by simp))
  | bl j=>cases ry; exact ne_bool (zaL I q (congrArg not zlG))
  | str j=>obtain ⟨t',rfl⟩:=ry; exact PySem.EqMixed.ne_bool_str (zaL I q (by simp))
  | _=>exact absurd (show false=true from hs) Bool.false_ne_true
 | int i=>
  obtain ⟨t,rfl⟩:=rx
  cases y with
  | non=>cases ry; exact PySem.EqNone.ne_int_none (zaL I q (by simp))
  | int j=>obtain ⟨t',rfl⟩:=ry; exact ne_int (zaL I q (congrArg not ziw))
  | str j=>obtain ⟨t',rfl⟩:=ry; exact PySem.EqMixed.ne_int_str (zaL I q (by simp))
  | _=>exact absurd (show false=true from hs) Bool.false_ne_true
 | str i=>
  obtain ⟨t,rfl⟩:=rx
  cases y with
  | non=>cases ry; exact PySem.EqNone.ne_str_none (zaL I q (by simp))
  | bl j=>cases ry; exact PySem.EqMixed.ne_str_bool (zaL I q (by simp))
  | int j=>obtain ⟨t',rfl⟩:=ry; exact PySem.EqMixed.ne_str_int (zaL I q (by simp))
  | str j=>obtain ⟨t',rfl⟩:=ry; exact ne_str (zaL I q (congrArg not ziv))
  | _=>exact absurd (show false=true from hs) Bool.false_ne_true
 | byt i=>
  obtain ⟨t,rfl⟩:=rx
  cases y with
  | byt j=>obtain ⟨t',rfl⟩:=ry; exact W.ne_bytes (zaL I q (congrArg not zlF))
  | _=>exact absurd (show false=true from hs) Bool.false_ne_true
 | _=>cases y <;> exact absurd (show false=true from hs) Bool.false_ne_true
theorem zq5:OpR X (compareOp .Lt) (rI0 fun i j=>.bl (decide (i < j))):=opB0 fun _ _ _ _ _ _ _ q=>lt_int q
theorem zsV:OpR X (compareOp .LtE) (rI0 fun i j=>.bl (decide (i<=j))):=opB0 fun _ _ _ _ _ _ _ q=>le_int q
theorem zq8:OpR X (compareOp .Gt) (rI0 fun i j=>.bl (decide (j < i))):=opB0 fun _ _ _ _ _ _ _ q=>gt_int q
theorem zkM:OpR X (compareOp .In) (fun x y H Q=>∃i j,x=.str i/\y=.str j/\Q (.bl (!(Builtin.Str.occurrences j i 0 j.length 1).isEmpty)) H):=by
 intro pins s σ H x y v u Q I rx ry h
 obtain ⟨i,j,rfl,rfl,q⟩:=h
 obtain ⟨t,rfl⟩:=rx
 obtain ⟨t',rfl⟩:=ry
 exact in_str (zaL I q rfl)
theorem znX:OpR X (compareOp .Is) (fun x y H Q=>y=.non/\Q (.bl (decide (x=.non))) H):=by
 intro pins s σ H x y v u Q I rx ry h
 obtain ⟨rfl,q⟩:=h
 cases ry
 refine is_none_gen (zaL I q ?_)
 cases x <;> first
  | (cases rx; rfl)
  | (obtain ⟨t,rfl⟩:=rx; rfl)
theorem zo5:OpR X (compareOp .IsNot) (fun x y H Q=>y=.non/\Q (.bl (! decide (x=.non))) H):=by
 intro pins s σ H x y v u Q I rx ry h
 obtain ⟨rfl,q⟩:=h
 cases ry
 refine isnot_none_gen (zaL I q ?_)
 cases x <;> first
  | (cases rx; rfl)
  | (obtain ⟨t,rfl⟩:=rx; rfl)
theorem OpR.or {f:Value->Value->Sem Value} {r r':R2} (h:OpR X f r) (h':OpR X f r'):OpR X f (fun x y H Q=>r x y H Q\/r' x y H Q):=by
 intro pins s σ H x y v u Q I rx ry q
 rcases q with q | q
 ·exact h pins s σ H x y v u Q I rx ry q
 ·exact h' pins s σ H x y v u Q I rx ry q
theorem zdx (b:Expr) {op:CmpOp} (h:op≠.In:=by decide) (h2:op≠.NotIn:=by decide):behindInMarks op b=false:=by
 have e1:(op == CmpOp.In)=false:=by cases op <;> first | rfl | exact absurd rfl h
 have e2:(op == CmpOp.NotIn)=false:=by cases op <;> first | rfl | exact absurd rfl h2
 cases b <;> simp [behindInMarks,e1,e2]
theorem zo1 {op:CmpOp} {r:R2} (ho:OpR X (compareOp op) r) (ha:PE X a ta) (hb:PE X b tb) (hm:behindInMarks op b=false):PE X (.Compare a [op] [b] pos) (tOp r ta tb):=by
 intro pins s σ H Q I h
 exact wpAny_Compare1 (binT ha hb I h fun v u s2 x y H2 I2 rx ry q=>ho pins s2 σ H2 x y v u Q I2 rx ry q) hm
noncomputable def zsn (t:TE):TT:=fun σ H Q=>t σ H fun x H'=>∃k,x=.bl k/\Q k H'
theorem zoR {op:CmpOp} {r:R2} (ho:OpR X (compareOp op) r) (ha:PE X a ta) (hb:PE X b tb) (hm:behindInMarks op b=false):PT X (.Compare a [op] [b] pos) (zsn (tOp r ta tb)):=by
 intro pins s σ H Q I h
 refine wpAny_isTrue_Compare1 (thn (ha pins s σ H _ I h) fun v s1 ⟨x,H1,I1,r1,q1⟩=>thn (hb pins s1 σ H1 _ I1 q1) fun u s2 ⟨y,H2,I2,r2,q2⟩=>
  thn (ho pins s2 σ H2 x y v u _ I2 r1 r2 q2) fun c s3 ⟨z,H3,I3,r3,k,e,q3⟩=>?_) hm
 subst e
 cases r3
 exact wpAny_truthy_bool ⟨H3,I3,q3⟩
noncomputable def TruV (K:W.Frag) (x:V) (H:Hp) (k:Bool):Prop:=
 match x with
 | .non=>k=false
 | .bl b=>k=b
 | .int i=>k=(i != 0)
 | .str y=>y.length<=sizeLine/\k=((y.length:Int) != 0)
 | .byt y=>y.size<=sizeLine/\k=((y.size:Int) != 0)
 | .ref p=>(∃xs,SqL K H p xs/\k = ! xs.isEmpty)\/(∃xs,SqT K H p xs/\k = ! xs.isEmpty)\/∃kvs,Rd H p (.dK kvs)/\k = ! kvs.isEmpty
 | _=>False
theorem zjJ {κ:Type} {kvs:List (κ × V)} {vs:List (κ × Value)} (r:KV kvs vs):(! vs.isEmpty) = ! kvs.isEmpty:=by
 cases r <;> rfl
theorem zgm {xs:List V} {its:List Value} (r:Vals xs its):(! its.toArray.isEmpty) = ! xs.isEmpty:=by
 cases r <;> simp
theorem zgk:(sizeLine:Nat) < 2 ^ 63:=by rw [sizeLine_eq]; decide
theorem zp2:TruR X (fun x H Q=>∃k,TruV X.K x H k/\Q k H):=by
 intro pins s σ H x v Q I rx h
 obtain ⟨k,e,q⟩:=h
 have hl:=zgk
 have hs:sizeLine=16777216:=sizeLine_eq
 cases x with
 | non=>
  cases rx
  have e':k=false:=e
  subst e'
  exact truthy_none ⟨H,I,q⟩
 | bl b=>
  cases rx
  have e':k=b:=e
  subst e'
  exact wpAny_truthy_bool ⟨H,I,q⟩
 | int i=>
  obtain ⟨t,rfl⟩:=rx
  have e':k=(i != 0):=e
  subst e'
  exact PySem.P.truthy_int ⟨H,I,q⟩
 | str y=>
  obtain ⟨t,rfl⟩:=rx
  obtain ⟨hy,e'⟩:y.length<=sizeLine/\k=((y.length:Int) != 0):=e
  subst e'
  exact PySem.P.truthy_str (by omega) ⟨H,I.tok _,q⟩
 | byt y=>
  obtain ⟨t,rfl⟩:=rx
  obtain ⟨hy,e'⟩:y.size<=sizeLine/\k=((y.size:Int) != 0):=e
  subst e'
  exact W.truthy_bytes (by omega) ⟨H,I.tok _,q⟩
 | ref p=>
  cases rx
  have e':(∃xs,SqL X.K H p xs/\k = ! xs.isEmpty)\/(∃xs,SqT X.K H p xs/\k = ! xs.isEmpty)\/∃kvs,Rd H p (.dK kvs)/\k = ! kvs.isEmpty:=e
  rcases e' with ⟨xs,hx,e'⟩ | ⟨xs,hx,e'⟩ | ⟨kvs,hx,e'⟩
  ·subst e'
   obtain ⟨its,r,pl,hz⟩:=I.list hx
   have hlen:=r.length
   exact wpAny_truthy_list pl.isList (by simp only [List.size_toArray]; omega) ⟨H,I.tok _,by rw [zgm r]; exact q⟩
  ·subst e'
   obtain ⟨its,r,pl,hz⟩:=I.tuple hx
   have hlen:=r.length
   exact truthy_tuple pl (by simp only [List.size_toArray]; omega) ⟨H,I.tok _,by rw [zgm r]; exact q⟩
  ·subst e'
   obtain ⟨hz,hS,vs,r,m⟩:kvs.length<=sizeLine/\(p == sysModules)=false/\∃vs,KV kvs vs/\s.heap.DictOf (zbc X.prog X.w) p vs:=hx.ok I.hok
   have hlen:kvs.length=vs.length:=Paired.length r
   exact wpAny_truthy_dict hS m (by omega) ⟨H,I.tok _,by rw [zjJ r]; exact q⟩
 | _=>exact (show False from e).elim
theorem zmC (ha:PE X a ta) (he:∀whole,isTrue a X.env whole=(do let v <-whole; standAt a.pos; holding [v] (truthy v))) :
  PT X a (fun σ H Q=>ta σ H fun x H'=>∃k,TruV X.K x H' k/\Q k H'):=by
 intro pins s σ H Q I h
 exact isTrue_plain (thn (ha pins s σ H _ I h) fun v s1 ⟨x,H1,I1,r1,q1⟩=>zp2 pins s1 σ H1 x v Q I1 r1 q1) (he _)
theorem zgj:OpR X (binaryOp .Add) (fun x y H Q=>∃i j,x=.str i/\y=.str j/\i.length + j.length<=sizeLine/\Q (.str (i++j)) H):=by
 intro pins s σ H x y v u Q I rx ry h
 obtain ⟨i,j,rfl,rfl,hz,q⟩:=h
 obtain ⟨t,rfl⟩:=rx
 obtain ⟨t',rfl⟩:=ry
 exact add_str (fun t' tk=>⟨.str (i++j),H,I.tok _,⟨_,rfl⟩,q⟩) hz
theorem zeI {x:V} {us:List Value} (r:Vals [x] us):∃u,us=[u]/\RelV x u:=by
 cases r with
 | cons r1 r2=>cases r2; exact ⟨_,rfl,r1⟩
theorem zpU {x y:V} {us:List Value} (r:Vals [x,y] us):∃u w',us=[u,w']/\RelV x u/\RelV y w':=by
 cases r with
 | cons r1 r2=>
  cases r2 with
  | cons r3 r4=>cases r4; exact ⟨_,_,rfl,r1,r3⟩
theorem znv:zc9 X (.builtin "abs") (fun xs H Q=>∃i,xs=[.int i]/\Q (.int (if i < 0 then -i else i)) H):=by
 intro pins s σ H xs us Q I r h
 obtain ⟨i,rfl,q⟩:=h
 obtain ⟨u,rfl,t,rfl⟩:=zeI r
 exact call_abs_int fun u tk=>⟨.int (if i < 0 then -i else i),H,I.tok _,⟨_,rfl⟩,q⟩
noncomputable def LenV (K:W.Frag) (x:V) (H:Hp) (n:Nat):Prop:=
 match x with
 | .str y=>y.length<=sizeLine/\n=y.length
 | .byt y=>y.size<=sizeLine/\n=y.size
 | .ref p=>(∃xs,SqL K H p xs/\n=xs.length)\/∃xs,SqT K H p xs/\n=xs.length
 | _=>False
theorem znr:zc9 X (.builtin "len") (fun xs H Q=>∃x n,xs=[x]/\LenV X.K x H n/\Q (.int n) H):=by
 intro pins s σ H xs us Q I r h
 obtain ⟨x,n,rfl,e,q⟩:=h
 obtain ⟨u,rfl,rx⟩:=zeI r
 have hl:=zgk
 have hs:sizeLine=16777216:=sizeLine_eq
 cases x with
 | str y=>
  obtain ⟨t,rfl⟩:=rx
  obtain ⟨hy,e'⟩:y.length<=sizeLine/\n=y.length:=e
  subst e'
  exact len_str (by omega) ⟨.int _,H,I.tok _,⟨_,rfl⟩,q⟩
 | byt y=>
  obtain ⟨t,rfl⟩:=rx
  obtain ⟨hy,e'⟩:y.size<=sizeLine/\n=y.size:=e
  subst e'
  exact W.len_bytes (by omega) ⟨.int _,H,I.tok _,⟨_,rfl⟩,q⟩
 | ref p=>
  cases rx
  have e':(∃xs,SqL X.K H p xs/\n=xs.length)\/∃xs,SqT X.K H p xs/\n=xs.length:=e
  rcases e' with ⟨xs,hx,e'⟩ | ⟨xs,hx,e'⟩
  ·subst e'
   obtain ⟨its,r',pl,hz⟩:=I.list hx
   have hlen:=r'.length
   exact Calls.call_len_list pl.isList (by simp only [List.size_toArray]; omega) ⟨.int xs.length,H,I.tok _,⟨_,by simp only [List.size_toArray]; rw [hlen]⟩,q⟩
  ·subst e'
   obtain ⟨its,r',pl,hz⟩:=I.tuple hx
   have hlen:=r'.length
   exact len_tuple pl (by simp only [List.size_toArray]; omega) ⟨.int xs.length,H,I.tok _,⟨_,by simp only [List.size_toArray]; rw [hlen]⟩,q⟩
 | _=>exact (show False from e).elim
end
structure ObjM (h:Heap) (x dx C:Addr) (mA:Str->Option Value):Prop where
 obj:h.get? x=some (W.instObj C dx)
 ns:h.Ns1 dx mA
 ne:dx≠x
noncomputable def putF (f:Str) (v:V):List (Str × V)->List (Str × V)
 | []=>[(f,v)]
 | (g,x)::r=>if g=f then (g,v)::r else (g,x)::putF f v r
theorem RelO.some_of {v:V} {o:Option Value} (r:RelO (some v) o):∃u,o=some u/\RelV v u:=by
 cases o with
 | none=>exact (show False from r).elim
 | some u=>exact ⟨u,rfl,r⟩
theorem RelO.none_of {o:Option Value} (r:RelO none o):o=none:=by
 cases o with
 | none=>rfl
 | some u=>exact (show False from r).elim
structure Cls (K:W.Frag) (C:Addr):Prop where
 pg:W.plainGet K C Str.empty=true
 hd:W.hasDictIn K C=true
 po:W.plainOver K C=true
 sa:W.findIn K (.ref C) "__setattr__" = some (some (.builtin "object.__setattr__"))
theorem Cls.get {K:W.Frag} {C:Addr} (c:Cls K C) (f:Str):W.plainGet K C f=true:=c.pg
structure Con (K:W.Frag) (C:Addr) (f:Str) (v:V) (u:Value):Prop where
 at_:W.findIn K (.ref C) f=some (some u)
 rel:RelV v u
 get:W.specialIn K u "__get__" = some none
 cp:W.copiedNames.contains f=false
structure Meth (K:W.Frag) (C:Addr) (m:Str) (f:Addr):Prop where
 at_:W.findIn K (.ref C) m=some (some (.ref f))
 fn:W.isFn K (.ref f)=true
 kp:W.keepIn K (.ref f)=true
section
variable {X:Cx} {pins:List (Addr × Obj)} {σ:St} {H:Hp} {s:Shared} {a C dx:Addr} {fs:List (Str × V)} {f:Str} {v:V} {A:Around} {E:Value->Shared->Prop}
theorem Inv.made (I:Inv X pins σ H s):Inv X pins σ (upd (upd H s.heap.objs.size (.own (s.heap.objs.size + 1))) (s.heap.objs.size + 1) (.ins C s.heap.objs.size []))
  { s with heap:=(s.heap.push W.emptyDict).push (W.instObj C s.heap.objs.size) }:=by
 have e1:(s.heap.push W.emptyDict).get? s.heap.objs.size=some W.emptyDict:=Heap.get?_push_size s.heap rfl
 have e2:((s.heap.push W.emptyDict).push (W.instObj C s.heap.objs.size)).get? (s.heap.objs.size + 1)=some (W.instObj C s.heap.objs.size):=by
  have:=Heap.get?_push_size (s.heap.push W.emptyDict) (o:=W.instObj C s.heap.objs.size) rfl
  rwa [Heap.size_push] at this
 have e3:(s.heap.push W.emptyDict).Ns s.heap.objs.size (fun _=>none):=⟨W.emptyDict,#[],_,e1,rfl,(fun e he=>absurd he (by simp)),fun _=>rfl⟩
 have I1:=I.laid (a:=s.heap.objs.size) (o:=.own (s.heap.objs.size + 1)) (h':=s.heap.push W.emptyDict) (t':=s.toks) (fun b u q=>Heap.get?_push_of_some _ q) (Nat.le_refl _) ⟨_,e1⟩
 refine I1.laid (a:=s.heap.objs.size + 1) (o:=.ins C s.heap.objs.size []) (t':=s.toks) (fun b u q=>Heap.get?_push_of_some _ q) (Nat.le_of_eq (Heap.size_push _ _)) ?_
 have ne:s.heap.objs.size≠s.heap.objs.size + 1:=Nat.ne_of_lt (Nat.lt_succ_self _)
 refine ⟨by rw [zao ne,zan],Nat.zero_le _,ne,e2,fun _=>none,(Heap.Ns1.of_empty e3).at fun o q=>Heap.get?_push_of_some _ q,fun _=>True.intro,fun y hy=>absurd rfl hy⟩
end
section
variable {X:Cx} {pins:List (Addr × Obj)} {σ:St} {H:Hp} {s:Shared} {A:Around} {E:Value->Shared->Prop} {Q:Value->Shared->Prop} {c:Value} {b:Bool}
inductive TyOf (K:W.Frag) (H:Hp):V->Value->Prop where
 | non:TyOf K H .non (.type "NoneType")
 | bl (x:Bool):TyOf K H (.bl x) (.type "bool")
 | int (i:Int):TyOf K H (.int i) (.type "int")
 | str (x:Str):TyOf K H (.str x) (.type "str")
 | flt (x:UInt64):TyOf K H (.flt x) (.type "float")
 | lst {a:Addr} {xs:List V} (e:H a=some (.lst xs)):TyOf K H (.ref a) (.type "list")
 | frz {a:Addr} {o:Obj} {xs:List V} (e:H a=some (.frz o (.lst xs))):TyOf K H (.ref a) (.type "list")
 | tup {a:Addr} {xs:List V} (e:H a=some (.tup xs)):TyOf K H (.ref a) (.type "tuple")
 | dK {a:Addr} {kvs:List (Key × V)} (e:H a=some (.dK kvs)):TyOf K H (.ref a) (.type "dict")
 | dT {a:Addr} {kvs:List (List Key × V)} (e:H a=some (.dT kvs)):TyOf K H (.ref a) (.type "dict")
 | ins {a C dx:Addr} {fs:List (Str × V)} (e:H a=some (.ins C dx fs)) (cl:Cls K C) (ha:W.findIn K (.ref C) "__class__" = some (some (.builtin "object.__class__")))
   (hn:W.specialIn K (.builtin "object.__class__") "__get__" = some (some (.builtin "getset_descriptor.__get__"))) (htk:W.takesIn K (.builtin "object.__class__")=some true)
   (hm:W.mroIn K C (.type "object")=some true):TyOf K H (.ref a) (.ref C)
end
structure Room (k:Nat) (A:Around):Prop where
 hd:A.handled=none
 dp:A.depth + 3 * k + 5 < recursionLimit
 un:A.units + 16 * k + 200 < cLine
 gd:A.guards=some []
theorem Room.mono {j k:Nat} {A:Around} (r:Room k A) (h:j<=k):Room j A:=⟨r.hd,by have:=r.dp; omega,by have:=r.un; omega,r.gd⟩
theorem Room.deeper {k:Nat} {A:Around} (r:Room (k + 1) A) (env:Env):Room k (A.deeper env):=
 ⟨r.hd,by have:=r.dp; show A.depth + 1 + 3 * k + 5 < _; omega,by have:=r.un; show A.units + 3 + 16 * k + 200 < _; omega,r.gd⟩
theorem Room.in1 {k:Nat} {A:Around} (r:Room (k + 1) A):Room k A.in1:=
 ⟨r.hd,by have:=r.dp; show A.depth + 3 * k + 5 < _; omega,by have:=r.un; show A.units + 1 + 16 * k + 200 < _; omega,r.gd⟩
theorem zjF {A:Around} {C:Addr} {us:List Value} {kw:List (Str × Value)}:(A.under (.builtin "type.__call__" ⟨.ref C::us,kw⟩)).depth=A.depth + 1:=by
 first | rfl | simp [Around.under,Code.weight,Code.isCreation,Code.isGuard,Code.isCaller,Code.frames,Code.isFrame,guardIds]
theorem zjE {A:Around} {C:Addr} {us:List Value} {kw:List (Str × Value)}:(A.under (.builtin "type.__call__" ⟨.ref C::us,kw⟩)).units=A.units + 1:=by
 first | rfl | simp [Around.under,Code.cUnits,Code.frames,Code.isFrame]
theorem Room.make {k:Nat} {A:Around} (r:Room (k + 1) A) (C:Addr) (us:List Value) (kw:List (Str × Value)):Room k (A.under (.builtin "type.__call__" ⟨.ref C::us,kw⟩)):=
 ⟨r.hd,by have:=r.dp; rw [zjF]; omega,by have:=r.un; rw [zjE]; omega,(by have:=r.gd; first | exact this | (simp [Around.under,Code.isGuard,guardIds]; exact this))⟩
theorem Room.depth {k:Nat} {A:Around} (r:Room k A):A.depth < recursionLimit:=by have:=r.dp; omega
theorem Room.units {k:Nat} {A:Around} (r:Room k A):A.units + 64 < cLine:=by have:=r.un; omega
noncomputable def tNil:TA:=fun _ H Q=>Q [] H
noncomputable def zss (ta:TE) (tr:TA):TA:=fun σ H Q=>ta σ H fun x H1=>tr σ H1 fun xs H2=>Q (x::xs) H2
section
variable {X:Cx} {e:Expr} {es:List Expr} {te:TE} {t:TA} {pos:Pos}
theorem ze4:PA X [] tNil:=fun _ _ _ _ H Q I h=>Calls.spliced_nil ⟨[],H,I,.nil,h⟩
theorem zcq (ha:PE X e te) (hr:PA X es t) (hs:starEach (e::es) X.env=(false,eval e X.env)::starEach es X.env:=by rfl):PA X (e::es) (zss te t):=by
 intro pos pins s σ H Q I h
 rw [hs]
 show wpAny _ _ (spliced ((false,eval e X.env)::backTo pos (starEach es X.env))) _ _ s
 refine Calls.spliced_cons (thn (ha pins s σ H _ I h) fun u s1 ⟨x,H1,I1,r1,q1⟩=>?_)
 exact thn (hr pos pins s1 σ H1 _ I1 q1) fun us s2 ⟨xs,H2,I2,r2,q2⟩=>⟨x::xs,H2,I2,.cons r1 r2,q2⟩
noncomputable def tTup (t:TA):TE:=fun σ H Q=>t σ H fun xs H1=>xs.length<=sizeLine/\∀p,H1 p=none->Q (.ref p) (upd H1 p (.tup xs))
noncomputable def tLst (t:TA):TE:=fun σ H Q=>t σ H fun xs H1=>xs.length<=sizeLine/\∀p,H1 p=none->Q (.ref p) (upd H1 p (.lst xs))
theorem zqR {x1} (h:PA X es t):PE X (.Tuple es x1 pos) (tTup t):=by
 intro pins s σ H Q I hq
 refine wpAny_Tuple_spliced (thn (h pos pins s σ H _ I hq) fun us s1 ⟨xs,H1,I1,r,z,q⟩=>⟨by rw [<-r.length]; exact z,?_⟩)
 have hf:H1 s1.heap.objs.size=none:=I1.hok.fresh (Nat.le_refl _)
 refine ⟨.ref s1.heap.objs.size,upd H1 s1.heap.objs.size (.tup xs),I1.laid (t':=s1.toks) (fun b u e=>Heap.get?_push_of_some _ e) (Nat.le_refl _) ?_,rfl,q _ hf⟩
 exact ⟨z,us,r,⟨_,Heap.get?_push_size _ rfl,rfl,_,rfl⟩,_,Heap.get?_push_size _ rfl,rfl⟩
theorem zqV (h:PA X es t):PE X (.List es pos) (tLst t):=by
 intro pins s σ H Q I hq
 refine wpAny_List_spliced (thn (h pos pins s σ H _ I hq) fun us s1 ⟨xs,H1,I1,r,z,q⟩=>⟨by rw [<-r.length]; exact z,?_⟩)
 have hf:H1 s1.heap.objs.size=none:=I1.hok.fresh (Nat.le_refl _)
 refine ⟨.ref s1.heap.objs.size,upd H1 s1.heap.objs.size (.lst xs),I1.laid (t':=s1.toks) (fun b u e=>Heap.get?_push_of_some _ e) (Nat.le_refl _) ?_,rfl,q _ hf⟩
 exact ⟨z,us,0,r,Heap.get?_push_size _ rfl⟩
end
noncomputable abbrev Sp:=List V->Hp->VK->XK->Prop
noncomputable abbrev CXT:=List Env->Hp->Shared->XK->Value->Shared->Prop
structure Env0 (P:Program) (w:World) (K:W.Frag) (mg:Str->Option Value) (base:Heap) (A:Around) (outer:List Env) (s:Shared) (H:Hp):Prop where
 frames:A.frames=some outer
 mod:Mod K mg base
 bs:∀b o,base.get? b=some o->s.heap.get? b=some o/\H b=none
 bsz:base.objs.size<=s.heap.objs.size
 funs:s.heap.FunFrames base outer
 frf:∀b∈frs outer,H b=none
 hok:HOk P w H s.heap
 bare:AllBare s.gens
noncomputable def CE (outer:List Env) (P:Program) (w:World) (H:Hp) (s:Shared) (Q:VK) (u:Value) (s':Shared):Prop:=
 ∃v H',s'.os=s.os/\AllBare s'.gens/\Un (frs outer) [] H H' s.heap s'.heap/\HOk P w H' s'.heap/\RelV v u/\Q v H'
noncomputable def CR (CX:CXT) (outer:List Env) (P:Program) (w:World) (H:Hp) (s:Shared) (Q:VK) (E:XK) (r:Result) (s':Shared):Prop:=
 match r with
 | .ok (.ret u)=>CE outer P w H s Q u s'
 | .ok _=>False
 | .error e=>CX outer H s E e s'
structure FnOk (P:Program) (w:World) (K:W.Frag) (mg:Str->Option Value) (base:Heap) (CX:CXT) (k:Nat) (f:Addr) (fd:FuncData) (ps:List Str) (sp:Sp):Prop where
 len:∀vs H Q E,sp vs H Q E->vs.length=ps.length
 run:∀(A:Around) (outer:List Env) (s:Shared) (H:Hp) (args:Args) (us:List Value) (vs:List V) (Q:VK) (E:XK),Room k A->Env0 P w K mg base A outer s H->BindsTo s fd args (ps.zip us)->Vals vs us->sp vs H Q E ->
  codeAny (model P w) A (.call (.ref f) args) (CR CX outer P w H s Q E) s
theorem FnOk.mono {P:Program} {w:World} {K:W.Frag} {mg:Str->Option Value} {base:Heap} {CX:CXT} {j k:Nat} {f:Addr} {fd:FuncData} {ps:List Str} {sp:Sp} (F:FnOk P w K mg base CX j f fd ps sp) (h:j<=k) :
  FnOk P w K mg base CX k f fd ps sp:=⟨F.len,fun A outer s H args us vs Q E hr=>F.run A outer s H args us vs Q E (hr.mono h)⟩
theorem FnOk.imp {P:Program} {w:World} {K:W.Frag} {mg:Str->Option Value} {base:Heap} {CX:CXT} {k:Nat} {f:Addr} {fd:FuncData} {ps:List Str} {sp sp':Sp} (F:FnOk P w K mg base CX k f fd ps sp)
  (h:∀vs H Q E,sp' vs H Q E->sp vs H Q E):FnOk P w K mg base CX k f fd ps sp':=
 ⟨fun vs H Q E q=>F.len vs H Q E (h _ _ _ _ q),fun A outer s H args us vs Q E hr he hb hv hs=>F.run A outer s H args us vs Q E hr he hb hv (h _ _ _ _ hs)⟩
theorem Env0.make {P:Program} {w:World} {K:W.Frag} {mg:Str->Option Value} {base:Heap} {A:Around} {outer:List Env} {s:Shared} {H:Hp} (e:Env0 P w K mg base A outer s H) (C:Addr) (us:List Value) (kw:List (Str × Value)) :
  Env0 P w K mg base (A.under (.builtin "type.__call__" ⟨.ref C::us,kw⟩)) outer s H:=⟨by first | exact e.frames | (simpa [Around.under,Code.envs,Code.isFrame,pushEnvs] using e.frames),e.mod,e.bs,e.bsz,e.funs,e.frf,e.hok,e.bare⟩
theorem Env0.in1 {P:Program} {w:World} {K:W.Frag} {mg:Str->Option Value} {base:Heap} {A:Around} {outer:List Env} {s:Shared} {H:Hp} (e:Env0 P w K mg base A outer s H) :
  Env0 P w K mg base A.in1 outer s H:=⟨e.frames,e.mod,e.bs,e.bsz,e.funs,e.frf,e.hok,e.bare⟩
section
variable {X:Cx} {pins:List (Addr × Obj)} {σ:St} {H:Hp} {s s':Shared}
theorem Inv.env0 (I:Inv X pins σ H s):Env0 X.prog X.w X.K X.mg X.base X.A X.stack s H:=
 ⟨I.ok.frames,I.ok.mod,I.bs,Nat.le_trans I.ok.bsz I.sz,I.stack,I.stkFree,I.hok,I.bare⟩
theorem Inv.after {Q:VK} {u:Value} (I:Inv X pins σ H s) (h:CE X.stack X.prog X.w H s Q u s'):EP X pins σ Q u s':=by
 obtain ⟨v,H',os,bare,un,hok,r,q⟩:=h
 obtain ⟨hh,g,d,t,os'⟩:=s'
 obtain rfl:os'=s.os:=os
 exact ⟨v,H',I.call (h':=hh) (g':=g) (d':=d) (t':=t) (ch:=[]) un hok bare (fun b z=>absurd z (by simp)),r,q⟩
end
noncomputable def zst (sp:Sp) (dvs:List V) (E:XK) (t:TA):TE:=fun σ H Q=>t σ H fun vs H1=>sp (vs++dvs) H1 Q E
noncomputable def zgc (K:W.Frag) (fd:FuncData) (ps:List Str) (ds:List Value):Prop:=
 ∀(s:Shared) (us:List Value),K.In s.heap->(us++ds).length=ps.length->BindsTo s fd ⟨us,[]⟩ (ps.zip (us++ds))
theorem zgc.all {K:W.Frag} {fd:FuncData} {ps:List Str} (h:∀us:List Value,us.length=ps.length->bindArgs fd ⟨us,[]⟩=pure (ps.zip us)):zgc K fd ps []:=fun s us _ hl=>by
 rw [List.append_nil] at hl ⊢
 exact .of_eq (h us hl)
noncomputable def zl8 (CX:CXT) (X:Cx) (E:XK):Prop:=∀(pins:List (Addr × Obj)) (σ:St) (H:Hp) (s:Shared) (e:Value) (s':Shared),Inv X pins σ H s->CX X.stack H s E e s'->X.xe e s'
section
variable {X:Cx} {CX:CXT} {k:Nat} {f C:Addr} {fd:FuncData} {ps:List Str} {sp:Sp} {dvs:List V} {ds:List Value} {E:XK} {x m:Str} {p pos apos:Pos} {e o:Expr} {es:List Expr} {ta:TE} {t:TA}
theorem zqy {pins:List (Addr × Obj)} {σ:St} {H:Hp} {s:Shared} {Q:VK} {us:List Value} {vs:List V} (F:FnOk X.prog X.w X.K X.mg X.base CX k f fd ps sp) (hr:Room k X.A) (hb:zgc X.K fd ps ds) (hd:Vals dvs ds) (hx:zl8 CX X E)
  (I:Inv X pins σ H s) (r:Vals vs us) (h:sp (vs++dvs) H Q E):wpAny (model X.prog X.w) X.A (call (.ref f) us) (EP X pins σ Q) X.xe s:=by
 have r2:Vals (vs++dvs) (us++ds):=r.append hd
 have hl:(us++ds).length=ps.length:=by rw [<-r2.length]; exact F.len _ _ _ _ h
 refine wpAny_call (codeAny_mono (F.run X.A X.stack s H ⟨us,[]⟩ (us++ds) (vs++dvs) Q E hr I.env0 (hb s us I.kIn hl) r2 h) fun r s' hq=>?_)
 cases r with
 | error e=>exact hx pins σ H s e s' I hq
 | ok fl=>
  cases fl with
  | ret u=>exact I.after hq
  | next=>exact False.elim hq
  | brk=>exact False.elim hq
  | cont=>exact False.elim hq
theorem zo2 (F:FnOk X.prog X.w X.K X.mg X.base CX k f fd ps sp) (hr:Room k X.A) (hg:Gl X x) (hm:X.mg x=some (.ref f)) (hk:W.keepIn X.K (.ref f)=true) (hb:zgc X.K fd ps ds) (hd:Vals dvs ds) (hx:zl8 CX X E)
  (ha:PA X (e::es) t) (hdb:(x == ("__debug__" : Str))=false:=by decide) (he:starEach (e::es) X.env=(false,eval e X.env)::starEach es X.env:=by rfl) (hpl:(backTo pos (starEach es X.env)).any (·.1)=false:=by rfl) :
  PE X (.Call (.Name x p) (e::es) [] pos) (zst sp dvs E t):=by
 intro pins s σ H Q I h
 refine wpAny_Call_Name_kw (zk9 I hg hm ?_ hdb)
 refine W.callWith_K (h₀:=X.base) I.ok.mod.kin hk (thn (ha pos pins s σ H _ I h) fun us s1 ⟨vs,H1,I1,r,q⟩=>⟨I1.kIn,?_⟩) he hpl
 exact zqy F hr hb hd hx I1 r q
structure Mk (K:W.Frag) (C f:Addr):Prop where
 makes:W.makesIn K C=true
 init:W.findIn K (.ref C) "__init__" = some (some (.ref f))
 fn:W.isFn K (.ref f)=true
 kp:W.keepIn K (.ref C)=true
end
section
variable {X:Cx} {CX:CXT} {k:Nat} {f C:Addr} {fd:FuncData} {ps ks:List Str} {sp:Sp} {E:XK} {x m:Str} {p pos apos kpos:Pos} {e o:Expr} {es:List Expr} {kws:List Keyword} {te ta:TE} {t tk:TA} {nm:Option Str}
structure KBinds (K:W.Frag) (fd:FuncData) (ps ks:List Str) (g:List Value->List Value->List Value) (gV:List V->List V->List V):Prop where
 to:∀(s:Shared) (us ws:List Value),K.In s.heap->(g us ws).length=ps.length->BindsTo s fd ⟨us,ks.zip ws⟩ (ps.zip (g us ws))
 rel:∀{vs:List V} {us:List Value} {zs:List V} {ws:List Value},Vals vs us->Vals zs ws->Vals (gV vs zs) (g us ws)
variable {g:List Value->List Value->List Value} {gV:List V->List V->List V}
end
structure FnScope (N P:List Str) (sc:Scope):Prop where
 kind:sc.kind=.function
 co:sc.isCoroutine=false
 gen:sc.isGenerator=false
 nd:N.Nodup
 pre:N.take P.length=P
 par:∀x∈P,sc.names.lookup x=some .local\/sc.names.lookup x=some .cell
 nofree:∀y∈sc.names,y.2≠.free
theorem zhN {kindOf:Str->Option NameKind} {x:Str}:∀{binds:List (Str × Value)} {m:Str->Option Value},(∀v,(x,v)∉binds)->bindL kindOf binds m x=m x
 | [],_,_=>rfl
 | (n,v)::r,m,h=>by
  unfold bindL
  rw [zhN fun w hw=>h w (List.mem_cons_of_mem _ hw)]
  split
  ·have:x≠n:=by rintro rfl; exact h v List.mem_cons_self
   simp [this]
  ·rfl
theorem zhP {kindOf:Str->Option NameKind} {x:Str}:∀{binds:List (Str × Value)} {m:Str->Option Value},(∀v,(x,v)∉binds)->bindC kindOf binds m x=m x
 | [],_,_=>rfl
 | (n,v)::r,m,h=>by
  unfold bindC
  rw [zhP fun w hw=>h w (List.mem_cons_of_mem _ hw)]
  split
  ·rfl
  ·have:x≠n:=by rintro rfl; exact h v List.mem_cons_self
   simp [this]
theorem zhO {kindOf:Str->Option NameKind} {x:Str} {v:Value}:∀{P:List Str} {vs:List Value} {i:Nat} {m:Str->Option Value},P.Nodup->P[i]? = some x->vs[i]? = some v->kindOf x=some .local ->
  bindL kindOf (P.zip vs) m x=some v
 | [],_,_,_,_,h,_,_=>by simp at h
 | _::_,[],_,_,_,_,h,_=>by simp at h
 | p::P,w::vs,0,m,nd,h1,h2,hk=>by
  simp at h1 h2; subst h1; subst h2
  show bindL kindOf ((p,w)::P.zip vs) m p=_
  unfold bindL
  rw [zhN fun v hv=>(List.nodup_cons.mp nd).1 (List.of_mem_zip hv).1,if_pos hk]
  simp
 | p::P,w::vs,i + 1,m,nd,h1,h2,hk=>by
  show bindL kindOf ((p,w)::P.zip vs) m x=_
  unfold bindL
  exact zhO (i:=i) (List.nodup_cons.mp nd).2 (by simpa using h1) (by simpa using h2) hk
theorem zhQ {kindOf:Str->Option NameKind} {x:Str} {v:Value}:∀{P:List Str} {vs:List Value} {i:Nat} {m:Str->Option Value},P.Nodup->P[i]? = some x->vs[i]? = some v->kindOf x≠some .local ->
  bindC kindOf (P.zip vs) m x=some v
 | [],_,_,_,_,h,_,_=>by simp at h
 | _::_,[],_,_,_,_,h,_=>by simp at h
 | p::P,w::vs,0,m,nd,h1,h2,hk=>by
  simp at h1 h2; subst h1; subst h2
  show bindC kindOf ((p,w)::P.zip vs) m p=_
  unfold bindC
  rw [zhP fun v hv=>(List.nodup_cons.mp nd).1 (List.of_mem_zip hv).1,if_neg hk]
  simp
 | p::P,w::vs,i + 1,m,nd,h1,h2,hk=>by
  show bindC kindOf ((p,w)::P.zip vs) m x=_
  unfold bindC
  exact zhQ (i:=i) (List.nodup_cons.mp nd).2 (by simpa using h1) (by simpa using h2) hk
noncomputable def start (N:List Str) (vs:List V):St:=vs.map some++List.replicate (N.length - vs.length) none
noncomputable def cxOf (CX:CXT) (P:Program) (w:World) (K:W.Frag) (mg:Str->Option Value) (base:Heap) (N:List Str) (qual:Str) (scope:Scope) (f:Addr) (cd:Value) (A:Around) (outer:List Env) (s:Shared) (H:Hp) (E:XK):Cx where
 prog:=P
 w:=w
 K:=K
 mg:=mg
 base:=base
 A:=A.deeper (envOfC qual scope s.heap.objs.size f cd)
 N:=N
 s₀:=s
 H₀:=H
 env:=envOfC qual scope s.heap.objs.size f cd
 outer:=outer
 stack:=envOfC qual scope s.heap.objs.size f cd::outer
 ex:=[]
 calm:=true
 fn:=fun _=>true
 pn:=[]
 xe:=fun e s'=>wpAny (model P w) (A.deeper (envOfC qual scope s.heap.objs.size f cd)) (leaving (envOfC qual scope s.heap.objs.size f cd) e) (fun _ s''=>CX outer H s E e s'') (fun e' s''=>CX outer H s E e' s'') s'
theorem zjf {sc:Scope} {n:Nat} {x:Str} (h:sc.names.lookup x=some .cell):∃c,(cellsFrom n sc.names []).lookup x=some c:=by
 have q:=W.cellsFrom_some sc.names n [] (.inl h)
 exact Option.isSome_iff_exists.mp q
theorem zln {CX:CXT} {P:Program} {w:World} {K:W.Frag} {mg:Str->Option Value} {base:Heap} {N ps:List Str} {qual:Str} {scope:Scope} {f:Addr} {cd:Value} {A:Around} {outer:List Env} {s s1:Shared} {H:Hp} {E:XK} {us:List Value} {vs:List V}
  (S:FnScope N ps scope) (hd:A.handled=none) (e0:Env0 P w K mg base A outer s H) (hl:vs.length=ps.length) (r:Vals vs us)
  (x:InCallC s s.heap.objs.size (bindL (envOfC qual scope s.heap.objs.size f cd).kindOf (ps.zip us) fun _=>none) (cellsFrom (s.heap.objs.size + 1) scope.names []) (bindC (envOfC qual scope s.heap.objs.size f cd).kindOf (ps.zip us) fun _=>none) s1) :
  Inv (cxOf CX P w K mg base N qual scope f cd A outer s H E) [] (start N vs) H s1:=by
 have hpl:ps.length<=N.length:=by have:=congrArg List.length S.pre; rw [List.length_take] at this; omega
 obtain ⟨h1,tk,rfl,hk⟩:=x.done
 have noA:∀b:Addr,b∉(cxOf CX P w K mg base N qual scope f cd A outer s H E).ex:=fun b z=>absurd (show b∈([]:List Addr) from z) (by simp)
 refine ⟨⟨e0.mod,S.kind,rfl,rfl,Nat.le_refl _,fun y z c h1 h2=>?_,fun y hy=>?_,fun y c _ h=>?_,fun _=>hd,Around.frames_deeper e0.frames,.inr ⟨rfl,rfl⟩,fun b z=>absurd z (noA b),e0.bs,e0.bsz,fun b _ _=>noA b,fun b z=>absurd z (noA b),e0.funs,e0.frf⟩,
  rfl,e0.bare,Un.kept hk,⟨_,x.toInCall.ns,fun i y v h1 h2 h3=>?_⟩,fun y c h=>⟨_,x.cell y c h⟩,e0.hok.fresh (Nat.le_refl _),fun y c h=>?_,fun p hp=>absurd (show p∈([]:List (Addr × Obj)) from hp) (by simp),e0.hok.kept hk,?_⟩
 ·exact name_of_addr x.apart (PySem.mem_of_lookup h1) (PySem.mem_of_lookup h2)
 ·have hy:scope.names.lookup y=some .cell\/scope.names.lookup y=some .free:=hy
  rcases hy with hy | hy
  ·exact zjf hy
  ·exact absurd rfl (S.nofree _ (PySem.mem_of_lookup hy))
 ·exact Nat.le_of_lt (x.above y c (PySem.mem_of_lookup h))
 ·have hi:i < vs.length:=by
   unfold start at h2
   by_cases hi:i < vs.length
   ·exact hi
   ·rw [List.getElem?_append_right (by simpa using hi)] at h2
    rw [List.getElem?_replicate] at h2
    split at h2 <;> cases h2
  have ha:vs[i]? = some v:=by
   unfold start at h2
   rw [List.getElem?_append_left (by simpa using hi),List.getElem?_map] at h2
   cases e:vs[i]? with
   | none=>rw [e] at h2; cases h2
   | some a=>rw [e] at h2; cases h2; rfl
  obtain ⟨u,hu,rv⟩:=r.get ha
  have hp:ps[i]? = some y:=by
   rw [<-S.pre,List.getElem?_take_of_lt (by omega)]; exact h1
  have ndP:ps.Nodup:=by rw [<-S.pre]; exact S.nd.sublist (List.take_sublist _ _)
  refine ⟨u,rv,?_⟩
  rcases S.par y (List.mem_of_getElem? hp) with k | k
  ·exact .inl ⟨k,zhO ndP hp hu k⟩
  ·obtain ⟨c,e⟩:=zjf (n:=s.heap.objs.size + 1) k
   refine .inr ⟨.inl k,c,e,?_⟩
   have q:=x.cell y c e
   rw [zhQ ndP hp hu (by show scope.names.lookup y≠_; rw [k]; decide)] at q
   exact q
 ·exact e0.hok.fresh (Nat.le_of_lt (x.above y c (PySem.mem_of_lookup h)))
 ·unfold start
  show _=N.length
  rw [List.length_append,List.length_map,List.length_replicate]
  omega
theorem ztb {CX:CXT} {P:Program} {w:World} {K:W.Frag} {mg:Str->Option Value} {base:Heap} {k:Nat} {f:Addr} {name qual:Str} {params:Arguments} {body:List Stmt} {scope:Scope} {dV kV doc pm cdv ct oc:Value} {an od:Option Addr}
  {osl:Array (Option Value)} {N ps:List Str} {sp:Sp} (lk:K.lookup f=some ⟨oc,od,.func (W.fnOf name qual params body scope dV kV doc pm an cdv ct),osl⟩) (hcd:W.codeIn K cdv qual=true) (S:FnScope N ps scope)
  (len:∀vs H Q E,sp vs H Q E->vs.length=ps.length)
  (hbody:∀(A:Around) (outer:List Env) (s:Shared) (H:Hp) (vs:List V) (Q:VK) (E:XK),Room k (A.deeper (envOfC qual scope s.heap.objs.size f cdv))->sp vs H Q E ->
   ∃t,PSs (cxOf CX P w K mg base N qual scope f cdv A outer s H E) body t/\t { nx:=fun _ H'=>Q .non H',rt:=Q } (start N vs) H) :
  FnOk P w K mg base CX (k + 1) f (W.fnOf name qual params body scope dV kV doc pm an cdv ct) ps sp:=by
 refine ⟨len,fun A outer s H args us vs Q E hr e0 hb r hsp=>?_⟩
 have hl:=len _ _ _ _ hsp
 have KX:K.In s.heap:=e0.mod.kin.keeps fun b o e=>(e0.bs b o e).1
 have lim:s.heap.NoLimit:=e0.mod.nolimit.keeps fun b o e=>(e0.bs b o e).1
 have hkind:∀y∈ps.zip us,scope.names.lookup y.1=some .local\/(scope.names.lookup y.1=some .cell/\((cellsFrom (s.heap.objs.size + 1) scope.names []).lookup y.1).isSome=true):=fun ⟨n,v⟩ hy=>by
  rcases S.par n (List.of_mem_zip hy).1 with q | q
  ·exact .inl q
  ·exact .inr ⟨q,W.cellsFrom_some _ _ _ (.inl q)⟩
 refine codeAny_call_function hr.depth (KX _ _ lk) rfl S.co S.gen rfl (W.codeRec_of KX hcd) (hb _ _ _ _ ?_)
 refine wpAny_newFunctionEnv_cells S.kind hkind fun env he s1 x=>?_
 subst he
 refine ⟨lim.keeps x.toInCall.keep,codeAny_func ?_⟩
 obtain ⟨t,ht,hq⟩:=hbody A outer s H vs Q E (hr.deeper _) hsp
 have I:Inv (cxOf CX P w K mg base N qual scope f cdv A outer s H E) [] (start N vs) H s1:=zln S hr.hd e0 hl r x
 refine wpAny_mono (ht [] s1 (start N vs) H _ I hq) (fun fl s' hs=>?_) fun e s' hs=>hs
 have fin:∀{σ':St} {H':Hp} {v:V} {u:Value},Inv (cxOf CX P w K mg base N qual scope f cdv A outer s H E) [] σ' H' s'->RelV v u->Q v H'->CE outer P w H s Q u s':=
  fun {σ' H' v u} J rv q=>⟨v,H',J.os,J.bare,J.base,J.hok,rv,q⟩
 cases fl with
 | ret u=>
  obtain ⟨v,σ',H',J,rv,q⟩:=hs
  exact fin J rv q
 | next=>
  obtain ⟨σ',H',J,q⟩:=hs
  exact fin (v:=V.non) (u:=Value.none) J rfl q
 | brk=>
  obtain ⟨_,_,_,q⟩:=hs
  exact False.elim q
 | cont=>
  obtain ⟨_,_,_,q⟩:=hs
  exact False.elim q
section
variable {X:Cx} {x:Str} {p pos:Pos} {e:Expr} {es:List Expr} {t:TA} {id T:String} {r:List V->Hp->VK->Prop}
noncomputable def tCB (r:List V->Hp->VK->Prop) (t:TA):TE:=fun σ H Q=>t σ H fun vs H1=>r vs H1 Q
theorem zdg (hc:zc9 X (.builtin id) r) (hg:Gl X x) (hm:X.mg x=none) (hv:bootBuiltins x=some (.builtin id)) (ha:PA X (e::es) t) (hn:x≠"__name__" := by decide) (hdb:(x == ("__debug__" : Str))=false:=by decide)
  (he:starEach (e::es) X.env=(false,eval e X.env)::starEach es X.env:=by rfl) (hpl:(backTo pos (starEach es X.env)).any (·.1)=false:=by rfl):PE X (.Call (.Name x p) (e::es) [] pos) (tCB r t):=by
 intro pins s σ H Q I h
 refine wpAny_Call_Name_kw (zgl I hg hm hv ?_ hn hdb)
 exact PyProof.Rows.callWith_builtin1 (thn (ha pos pins s σ H _ I h) fun us s1 ⟨vs,H1,I1,r1,q1⟩=>hc pins s1 σ H1 vs us Q I1 r1 q1) he hpl
theorem zdv (hc:zc9 X (.type T) r) (hg:Gl X x) (hm:X.mg x=none) (hv:bootBuiltins x=some (.type T)) (ha:PA X (e::es) t) (hn:x≠"__name__" := by decide) (hdb:(x == ("__debug__" : Str))=false:=by decide)
  (he:starEach (e::es) X.env=(false,eval e X.env)::starEach es X.env:=by rfl) (hpl:(backTo pos (starEach es X.env)).any (·.1)=false:=by rfl):PE X (.Call (.Name x p) (e::es) [] pos) (tCB r t):=by
 intro pins s σ H Q I h
 refine wpAny_Call_Name_kw (zgl I hg hm hv ?_ hn hdb)
 exact PyProof.Rows.callWith_type1 (thn (ha pos pins s σ H _ I h) fun us s1 ⟨vs,H1,I1,r1,q1⟩=>hc pins s1 σ H1 vs us Q I1 r1 q1) he hpl
end
end L2
namespace HT
open PySem PyProof.Rows
section
open PySem.SeqAt
open PySem.AutoSeq1 (wpAny_loadPart')
open PySem.MeetsSeq PySem.MeetsSeq2 PySem.MeetsSeq3
end
section
variable {prog:Program} {w:World} {A:Around} {E:Value->Shared->Prop} {s:Shared}
theorem cat_tup {t b:Addr} {vs ws:List Value} {Q:Value->Shared->Prop} (ht:IsTup s.heap t vs.toArray) (hb:IsTup s.heap b ws.toArray) (hv:vs≠[])
  (h1:ws=[]->Q (.ref t) s) (h2:ws≠[]->Q (.ref s.heap.objs.size) { s with heap:=s.heap.push { cls:=.type "tuple",data:=.seq (vs++ws).toArray } })
  (hsz:vs.length + ws.length<=sizeLine):wpAny (model prog w) A (binaryOp .Add (.ref t) (.ref b)) Q E s:=by
 obtain ⟨⟨cls,dd,data,sl⟩,ho,hc,n,hd⟩:=id ht
 obtain ⟨⟨cls2,dd2,data2,sl2⟩,ho2,hc2,n2,hd2⟩:=id hb
 simp only at hc hd hc2 hd2
 subst hc hd hc2 hd2
 have e:vs.toArray++ws.toArray=(vs++ws).toArray:=by simp
 by_cases hw:ws=[]
 ·exact concat_meets ⟨_,ho,rfl⟩ ⟨_,ho2,rfl⟩ noFill_tuple_add seq_tuple_add PySem.F.slot_tuple_add PySem.F.entry_tuple_add (PySem.F.args_tuple_add_2 _ _)
   (tuple_addW1 t b vs.toArray ws.toArray n n2 dd dd2 sl sl2 (by simpa using hv) (by simp [hw])) ⟨ho,ho2,h1 hw⟩
 ·refine concat_meets ⟨_,ho,rfl⟩ ⟨_,ho2,rfl⟩ noFill_tuple_add seq_tuple_add PySem.F.slot_tuple_add PySem.F.entry_tuple_add (PySem.F.args_tuple_add_2 _ _)
   (tuple_addW2 t b vs.toArray ws.toArray n n2 dd dd2 sl sl2 (by simpa using hv) (by simpa using hw) (by rw [List.size_toArray,List.size_toArray]; exact hsz)) ⟨ho,ho2,?_⟩
  rw [e]
  exact h2 hw
noncomputable def sIx (n d:Nat):Option Int->Nat
 | none=>d
 | some v=>if v < 0 then (v + (n:Int)).toNat else min v.toNat n
theorem sIx_none (n d:Nat):sIx n d none=d:=rfl
theorem sIx_nat (n d k:Nat):sIx n d (some (k:Int))=min k n:=by
 show (if (k:Int) < 0 then ((k:Int) + (n:Int)).toNat else min (k:Int).toNat n)=min k n
 rw [if_neg (by omega),Int.toNat_natCast]
theorem zqv (n d:Nat) (hd:d<=n) (o:Option Int):sIx n d o<=n:=by
 cases o with
 | none=>exact hd
 | some v=>
  show (if v < 0 then (v + (n:Int)).toNat else min v.toNat n)<=n
  by_cases hv:v < 0
  ·rw [if_pos hv]; omega
  ·rw [if_neg hv]; exact Nat.min_le_right _ _
theorem zlP (v:Int) (n d:Nat):(if v < 0 then max (v + (n:Int)) 0 else min v (n:Int))=((sIx n d (some v):Nat):Int):=by
 show (if v < 0 then max (v + (n:Int)) 0 else min v (n:Int))=(((if v < 0 then (v + (n:Int)).toNat else min v.toNat n):Nat):Int)
 by_cases hv:v < 0
 ·simp only [if_pos hv]; omega
 ·simp only [if_neg hv]; omega
theorem zjS (lo hi:Option Int) (n:Nat):Builtin.Slice.sliceAdjust lo hi 1 (n:Int)=(((sIx n 0 lo:Nat):Int),((sIx n n hi:Nat):Int)):=by
 have h1:¬ ((1:Int) < 0):=by omega
 unfold Builtin.Slice.sliceAdjust
 simp only [h1,if_false]
 refine Prod.ext ?_ ?_
 ·cases lo with
  | none=>rfl
  | some v=>exact zlP v n 0
 ·cases hi with
  | none=>rfl
  | some v=>exact zlP v n n
theorem zjB (i j:Nat):Builtin.Slice.slicePlaces (i:Int) (j:Int) 1=j - i:=by
 unfold Builtin.Slice.slicePlaces
 have h1:(1:Int) > 0:=by omega
 simp only [h1,if_true,Int.ediv_one]
 split <;> omega
theorem zgf {v:Value} {o:Option Int} {Q:Option Int->Shared->Prop} (p:IsPart v o) (h:Q o s):wpAny (model prog w) A (Builtin.Slice.slicePartIndex v) Q E s:=by
 cases p with
 | none=>exact slicePart_none h
 | int i t=>exact slicePart_int h
theorem sliceApplied_gen {sl:Addr} {vl vu:Value} {lo hi:Option Int} {n:Nat} {Q:Int × Int × Nat->Shared->Prop} (hs:s.heap.IsSliceOf sl vl vu .none) (pl:IsPart vl lo) (pu:IsPart vu hi)
  (h:Q (((sIx n 0 lo:Nat):Int),1,sIx n n hi - sIx n 0 lo) s):wpAny (model prog w) A (Builtin.Slice.sliceApplied (.ref sl) (pure (n:Int))) Q E s:=by
 obtain ⟨os,hos,hcs,hds⟩:=id hs
 unfold Builtin.Slice.sliceApplied Builtin.Slice.sliceFields
 refine wpAny_bind (wpAny_bind (wpAny_field hos hds (x:=vl) rfl (wpAny_bind (wpAny_field hos hds (x:=vu) rfl (wpAny_bind (wpAny_field hos hds (x:=.none) rfl (wpAny_pure ?_)))))))
 refine wpAny_bind (slicePart_none ?_)
 show wpAny _ _ (if ((1:Int) == 0)=true then _ else _) _ _ s
 rw [if_neg (by decide)]
 refine wpAny_bind (zgf pl (wpAny_bind (zgf pu (wpAny_bind (wpAny_pure ?_)))))
 show wpAny _ _ (match Builtin.Slice.sliceAdjust lo hi 1 (n:Int) with | (lo,hi)=>pure (lo,(1:Int),Builtin.Slice.slicePlaces lo hi 1)) _ _ s
 rw [zjS lo hi n]
 show wpAny _ _ (pure (((sIx n 0 lo:Nat):Int),(1:Int),Builtin.Slice.slicePlaces ((sIx n 0 lo:Nat):Int) ((sIx n n hi:Nat):Int) 1)) _ _ s
 rw [zjB]
 exact wpAny_pure h
theorem zmH (xs:Array Value) (i k:Nat):((List.range k).filterMap fun (m:Nat)=>xs[((i:Int) + (m:Int) * 1).toNat]?).toArray=((xs.toList.drop i).take k).toArray:=by
 have e:(fun (m:Nat)=>xs[((i:Int) + (m:Int) * 1).toNat]?)=fun m=>xs[i + m]?:=by
  funext m
  have:((i:Int) + (m:Int) * 1).toNat=i + m:=by omega
  rw [this]
 rw [e]
 have:=pick_run xs i k
 rw [List.filterMap_map] at this
 have e2:((fun x=>xs[x]?) ∘ fun x=>i + x)=fun m=>xs[i + m]?:=rfl
 rw [e2] at this
 rw [this]
theorem getItem_tuple_cut {t sl:Addr} {items:Array Value} {vl vu:Value} {lo hi:Option Int} {Q:Value->Shared->Prop} (ht:IsTup s.heap t items) (hs:s.heap.IsSliceOf sl vl vu .none) (pl:IsPart vl lo) (pu:IsPart vu hi)
  (hw:¬ (sIx items.size 0 lo=0/\sIx items.size items.size hi=items.size))
  (h:Q (.ref s.heap.objs.size) { s with heap:=s.heap.push { cls:=.type "tuple",data:=.seq ((items.toList.drop (sIx items.size 0 lo)).take (sIx items.size items.size hi - sIx items.size 0 lo)).toArray } })
  (hsz:items.size<=sizeLine):wpAny (model prog w) A (getItem (.ref t) (.ref sl)) Q E s:=by
 have htake:sizeOk (.seq ((items.toList.drop (sIx items.size 0 lo)).take (sIx items.size items.size hi - sIx items.size 0 lo)).toArray):=by
  show ((items.toList.drop (sIx items.size 0 lo)).take (sIx items.size items.size hi - sIx items.size 0 lo)).toArray.size<=sizeLine
  rw [List.size_toArray,List.length_take,List.length_drop,Array.length_toList]
  omega
 have hj:sIx items.size items.size hi<=items.size:=zqv _ _ (Nat.le_refl _) hi
 obtain ⟨os,hos,hcs,hds⟩:=id hs
 have hTs:s.TypeIs (.ref sl) "slice" := ⟨os,hos,hcs⟩
 unfold getItem
 try with_reducible refine wpAny_holding ?_
 first | refine wpAny_bind (wpAny_pure ?_) | skip
 refine wpAny_bind (wpAny_sequenceKey ht.typeIs (by decide) ?_)
 refine wpAny_bind (wpAny_callSpecial?_slot (name:=Str.ofString "__getitem__") ht.typeIs PyProof.Rows.slot_tuple_getitem
  (wpAny_call_entry PyProof.Rows.slot_tuple_getitem ht.typeIs entry_tuple_getitem ?_ (args_tuple_getitem _ _)))
 show wpAny _ _ (Builtin.Tuple.tupleItemsOf (.ref t) >>= _) _ _ s
 refine wpAny_bind (tupleItemsOf_ ht ?_)
 refine wpAny_bind (wpAny_typeOf hTs ?_)
 rw [if_pos (by decide)]
 refine wpAny_bind (sliceApplied_gen hs pl pu ?_)
 have hno:¬ ((((sIx items.size 0 lo:Nat):Int) == 0 && (1:Int) == 1 && (sIx items.size items.size hi - sIx items.size 0 lo) == items.size)=true):=by
  intro q
  rw [Bool.and_eq_true,Bool.and_eq_true] at q
  have q1:((sIx items.size 0 lo:Nat):Int)=0:=eq_of_beq q.1.1
  have q2:sIx items.size items.size hi - sIx items.size 0 lo=items.size:=eq_of_beq q.2
  exact hw ⟨by omega,by omega⟩
 show wpAny _ _ (if (((sIx items.size 0 lo:Nat):Int) == 0 && (1:Int) == 1 && (sIx items.size items.size hi - sIx items.size 0 lo) == items.size)=true then _ else _) _ _ s
 rw [if_neg hno,zmH]
 first
  | exact wpAny_bind (m:=Builtin.Tuple.tupleExact _) (wpAny_newObj_type (wpAny_pure ⟨_,rfl,wpAny_pure h⟩) htake)
  | exact wpAny_bind (m:=Builtin.Tuple.tupleExact _) (wpAny_newObj_type (wpAny_bind (wpAny_pure (wpAny_pure ⟨_,rfl,wpAny_pure h⟩))) htake)
  | exact wpAny_bind (wpAny_bind (m:=Builtin.Tuple.tupleExact _) (wpAny_newObj_type (wpAny_pure (wpAny_pure ⟨_,rfl,wpAny_pure h⟩)) htake))
  | exact wpAny_bind (wpAny_bind (m:=Builtin.Tuple.tupleExact _) (wpAny_newObj_type (wpAny_pure ⟨_,rfl,wpAny_pure h⟩) htake))
end
end HT
namespace L2
open PySem PySem.Spec PyProof.Rows
noncomputable abbrev TO:=St->Hp->(Option Int->Hp->Prop)->Prop
noncomputable def PO (X:Cx) (e:Option Expr) (t:TO):Prop:=
 ∀(pins:List (Addr × Obj)) (s:Shared) (σ:St) (H:Hp) (Q:Option Int->Hp->Prop),Inv X pins σ H s->t σ H Q ->
  wpAny (model X.prog X.w) X.A (evalPart e X.env) (fun u s'=>∃o H',Inv X pins σ H' s'/\IsPart u o/\Q o H') X.xe s
noncomputable def zor:TO:=fun _ H Q=>Q none H
noncomputable def zso (t:TE):TO:=fun σ H Q=>t σ H fun x H1=>∃i,x=.int i/\Q (some i) H1
theorem zjK {ns:List Int}:∀{us:List Value},Vals (ns.map V.int) us->IntsAre us ns:=by
 induction ns with
 | nil=>intro us r; rw [List.map_nil] at r; cases r; exact .nil
 | cons n ns ih=>
  intro us r
  rw [List.map_cons] at r
  cases r with
  | cons r1 r2=>
   obtain ⟨t,e⟩:=r1
   subst e
   exact .cons n t (ih r2)
section
variable {X:Cx} {e:Expr} {te:TE} {lo hi:Option Expr} {tl th:TO} {pos p2:Pos}
theorem zoU:PO X none zor:=by
 intro pins s σ H Q I h
 rw [evalPart_none]
 exact wpAny_pure ⟨none,H,I,.none,h⟩
theorem zoT (h:PE X e te):PO X (some e) (zso te):=by
 intro pins s σ H Q I hw
 rw [evalPart_some]
 refine thn (h pins s σ H _ I hw) fun u s1 ⟨x,H1,I1,r1,q1⟩=>?_
 obtain ⟨i,rfl,q⟩:=q1
 obtain ⟨t,rfl⟩:=r1
 exact ⟨some i,H1,I1,.int i t,q⟩
noncomputable def SlR (X:Cx) (r:V->Option Int->Option Int->Hp->VK->Prop):Prop:=
 ∀(pins:List (Addr × Obj)) (s:Shared) (σ:St) (H:Hp) (x:V) (v vl vu:Value) (lo hi:Option Int) (sl:Addr) (Q:VK),Inv X pins σ H s->RelV x v->s.heap.IsSliceOf sl vl vu .none->IsPart vl lo->IsPart vu hi->r x lo hi H Q ->
  ∃T id,typeLookup (.type T) "__getitem__" = pure (some (.builtin id))/\s.TypeIs v T/\wpAny (model X.prog X.w) X.A (getItem v (.ref sl)) (EP X pins σ Q) X.xe s
theorem SlR.or {r r':V->Option Int->Option Int->Hp->VK->Prop} (h:SlR X r) (h':SlR X r'):SlR X (fun x lo hi H Q=>r x lo hi H Q\/r' x lo hi H Q):=by
 intro pins s σ H x v vl vu lo hi sl Q I rx hs pl pu q
 rcases q with q | q
 ·exact h pins s σ H x v vl vu lo hi sl Q I rx hs pl pu q
 ·exact h' pins s σ H x v vl vu lo hi sl Q I rx hs pl pu q
noncomputable def tSl (r:V->Option Int->Option Int->Hp->VK->Prop) (te:TE) (tl th:TO):TE:=fun σ H Q=>te σ H fun x H1=>tl σ H1 fun l H2=>th σ H2 fun u H3=>r x l u H3 Q
theorem ziT {r:V->Option Int->Option Int->Hp->VK->Prop} (hr:SlR X r) (he:PE X e te) (hl:PO X lo tl) (hu:PO X hi th):PE X (.Subscript e (.Slice lo hi none p2) pos) (tSl r te tl th):=by
 intro pins s σ H Q I h
 refine Subscript_ (thn (he pins s σ H _ I h) fun v s1 ⟨x,H1,I1,r1,q1⟩=>?_)
 refine wpAny_Slice (thn (hl pins s1 σ H1 _ I1 q1) fun vl s2 ⟨l,H2,I2,pl,q2⟩=>thn (hu pins s2 σ H2 _ I2 q2) fun vu s3 ⟨u,H3,I3,pu,q3⟩=>?_)
 rw [evalPart_none]
 refine wpAny_pure ?_
 have I4:Inv X pins σ H3 { s3 with heap:=s3.heap.push { cls:=.type "slice",data:=.fields #[vl,vu,.none] } }:=I3.kept (t':=s3.toks) fun b ob q=>Heap.get?_push_of_some _ q
 obtain ⟨T,id,hT,ht,hg⟩:=hr pins { s3 with heap:=s3.heap.push { cls:=.type "slice",data:=.fields #[vl,vu,.none] } } σ H3 x v vl vu l u s3.heap.objs.size Q I4 r1 (Heap.IsSliceOf.new ..) pl pu q3
 show wpAny (model X.prog X.w) X.A (subscriptTail e (.Slice lo hi none p2) v (.ref s3.heap.objs.size)) (EP X pins σ Q) X.xe { s3 with heap:=s3.heap.push { cls:=.type "slice",data:=.fields #[vl,vu,.none] } }
 exact tail_any (ops:=[.ref s3.heap.objs.size,v]) ht hT hg (by with_unfolding_all rfl)
noncomputable def cutV (xs:List V) (lo hi:Option Int):List V:=(xs.drop (HT.sIx xs.length 0 lo)).take (HT.sIx xs.length xs.length hi - HT.sIx xs.length 0 lo)
theorem zfR (xs:List V) (lo hi:Option Int):(cutV xs lo hi).length<=xs.length:=by
 unfold cutV
 rw [List.length_take,List.length_drop]
 omega
noncomputable def rSlT (K:W.Frag):V->Option Int->Option Int->Hp->VK->Prop:=fun x lo hi H Q=>∃a xs,x=.ref a/\SqT K H a xs /\
 ¬ (HT.sIx xs.length 0 lo=0/\HT.sIx xs.length xs.length hi=xs.length)/\∀p,H p=none->Q (.ref p) (upd H p (.tup (cutV xs lo hi)))
theorem znL:SlR X (rSlT X.K):=by
 intro pins s σ H x v vl vu lo hi sl Q I rx hs pl pu h
 obtain ⟨a,xs,rfl,hx,hw,q⟩:=h
 cases rx
 obtain ⟨its,r,ht,hz⟩:=I.tuple hx
 have hlen:its.toArray.size=xs.length:=by rw [List.size_toArray]; exact r.length.symm
 refine ⟨"tuple",_,PyProof.Rows.slot_tuple_getitem.lookup,ht.typeIs,?_⟩
 refine HT.getItem_tuple_cut ht hs pl pu (by rw [hlen]; exact hw) ?_ (by rw [hlen]; exact hz)
 rw [hlen]
 refine ⟨.ref s.heap.objs.size,_,I.laid (t':=s.toks) (o:=.tup (cutV xs lo hi)) (fun b ob q=>Heap.get?_push_of_some _ q) (Nat.le_refl _) ?_,rfl,q _ (I.hok.fresh (Nat.le_refl _))⟩
 exact ⟨Nat.le_trans (zfR xs lo hi) hz,_,(r.drop (HT.sIx xs.length 0 lo)).take (HT.sIx xs.length xs.length hi - HT.sIx xs.length 0 lo),IsTup.new _ _,_,Heap.get?_push_size _ rfl,rfl⟩
noncomputable def zoN (K:W.Frag):R2:=fun x y H Q=>∃a b xs ys,x=.ref a/\y=.ref b/\SqT K H a xs/\SqT K H b ys/\xs≠[]/\xs.length + ys.length<=sizeLine /\
 (ys=[]->Q (.ref a) H)/\(ys≠[]->∀p,H p=none->Q (.ref p) (upd H p (.tup (xs++ys))))
theorem Vals.nil_iff {xs:List V} {us:List Value} (r:Vals xs us):us=[]↔xs=[]:=by
 cases r with
 | nil=>simp
 | cons _ _=>simp
theorem zkO:OpR X (binaryOp .Add) (zoN X.K):=by
 intro pins s σ H x y v u Q I rx ry h
 obtain ⟨a,b,xs,ys,rfl,rfl,ha,hb,hx,hz,q1,q2⟩:=h
 cases rx
 cases ry
 obtain ⟨its,r1,p1,_⟩:=I.tuple ha
 obtain ⟨its2,r2,p2,_⟩:=I.tuple hb
 refine HT.cat_tup p1 p2 (fun z=>hx (r1.nil_iff.mp z)) (fun z=>⟨.ref a,H,I,rfl,q1 (r2.nil_iff.mp z)⟩) (fun z=>?_) (by rw [<-r1.length,<-r2.length]; exact hz)
 refine ⟨.ref s.heap.objs.size,_,I.laid (t':=s.toks) (o:=.tup (xs++ys)) (fun b ob q=>Heap.get?_push_of_some _ q) (Nat.le_refl _) ?_,rfl,q2 (fun w=>z (r2.nil_iff.mpr w)) _ (I.hok.fresh (Nat.le_refl _))⟩
 exact ⟨by rw [List.length_append]; exact hz,_,r1.append r2,IsTup.new _ _,_,Heap.get?_push_size _ rfl,rfl⟩
end
noncomputable def ixN (n:Nat) (i:Int):Option Nat:=if 0<=i then (if i < n then some i.toNat else none) else if -(n:Int)<=i then some (i + n).toNat else none
noncomputable def atI {α:Type} (xs:List α) (i:Int):Option α:=(ixN xs.length i).bind fun j=>xs[j]?
theorem zim {n:Nat} {i:Int} {j:Nat} (h:ixN n i=some j):seqIndex? i n=some j/\j < n/\-(n:Int)<=i/\i < n:=by
 unfold ixN at h
 by_cases h0:0<=i
 ·rw [if_pos h0] at h
  by_cases h1:i < n
  ·rw [if_pos h1] at h
   have e:i.toNat=j:=Option.some.inj h
   exact ⟨by rw [seqIndex_of h0 h1,e],by omega,by omega,h1⟩
  ·rw [if_neg h1] at h; cases h
 ·rw [if_neg h0] at h
  by_cases h1 : -(n:Int)<=i
  ·rw [if_pos h1] at h
   have e:(i + n).toNat=j:=Option.some.inj h
   exact ⟨by rw [seqIndex_neg (by omega) h1,e],by omega,h1,by omega⟩
  ·rw [if_neg h1] at h; cases h
theorem zix {α:Type} {xs:List α} {i:Int} {v:α} (h:atI xs i=some v):∃j,seqIndex? i xs.length=some j/\xs[j]? = some v/\j < xs.length/\-(xs.length:Int)<=i/\i < xs.length:=by
 unfold atI at h
 cases e:ixN xs.length i with
 | none=>rw [e] at h; cases h
 | some j=>
  rw [e] at h
  obtain ⟨h1,h2,h3,h4⟩:=zim e
  exact ⟨j,h1,h,h2,h3,h4⟩
noncomputable def ziy (b:Expr):Prop:=∀o i,subscripted b false o i=operate [o,i] (getItem o i)
noncomputable def IxR (X:Cx) (r:R2):Prop:=
 ∀(value slice:Expr) (pins:List (Addr × Obj)) (s:Shared) (σ:St) (H:Hp) (x y:V) (v u:Value) (Q:VK),Inv X pins σ H s->RelV x v->RelV y u->r x y H Q ->
  subscripted slice false v u=operate [v,u] (getItem v u)->wpAny (model X.prog X.w) X.A (subscriptTail value slice v u) (EP X pins σ Q) X.xe s
noncomputable def MtR (X:Cx) (id:String) (r:V->List V->Hp->VK->Prop):Prop:=
 ∀(pins:List (Addr × Obj)) (s:Shared) (σ:St) (H:Hp) (x:V) (xs:List V) (v:Value) (us:List Value) (Q:VK),Inv X pins σ H s->RelV x v->Vals xs us->r x xs H Q ->
  wpAny (model X.prog X.w) X.A (call (.builtin id) (v::us)) (EP X pins σ Q) X.xe s
section
variable {X:Cx} {a b:Expr} {ta tb:TE} {pos:Pos}
theorem IxR.or {r r':R2} (h:IxR X r) (h':IxR X r'):IxR X (fun x y H Q=>r x y H Q\/r' x y H Q):=by
 intro value slice pins s σ H x y v u Q I rx ry q hs
 rcases q with q | q
 ·exact h value slice pins s σ H x y v u Q I rx ry q hs
 ·exact h' value slice pins s σ H x y v u Q I rx ry q hs
theorem MtR.or {id:String} {r r':V->List V->Hp->VK->Prop} (h:MtR X id r) (h':MtR X id r'):MtR X id (fun x xs H Q=>r x xs H Q\/r' x xs H Q):=by
 intro pins s σ H x xs v us Q I rx rs q
 rcases q with q | q
 ·exact h pins s σ H x xs v us Q I rx rs q
 ·exact h' pins s σ H x xs v us Q I rx rs q
theorem zqW {r:R2} (hr:IxR X r) (ha:PE X a ta) (hb:PE X b tb) (hs:ziy b):PE X (.Subscript a b pos) (tOp r ta tb):=by
 intro pins s σ H Q I h
 exact Subscript_ (binT ha hb I h fun v u s2 x y H2 I2 rx ry q=>hr a b pins s2 σ H2 x y v u Q I2 rx ry q (hs _ _))
noncomputable def rIxL (K:W.Frag):R2:=fun x y H Q=>∃p xs i v,x=.ref p/\y=.int i/\SqL K H p xs/\atI xs i=some v/\Q v H
noncomputable def rIxT (K:W.Frag):R2:=fun x y H Q=>∃p xs i v,x=.ref p/\y=.int i/\SqT K H p xs/\atI xs i=some v/\Q v H
noncomputable def rIxS:R2:=fun x y H Q=>∃z i c,x=.str z/\y=.int i/\z.length<=sizeLine/\atI z.cps.toList i=some c/\Q (.str ⟨#[c]⟩) H
theorem zlj:IxR X (rIxL X.K):=by
 intro value slice pins s σ H x y v u Q I rx ry h hs
 obtain ⟨p,xs,i,z,rfl,rfl,hq,he,q⟩:=h
 cases rx
 obtain ⟨t,rfl⟩:=ry
 obtain ⟨its,r,pl,hz⟩:=I.list hq
 obtain ⟨j,h1,h2,h3,h4,h5⟩:=zix he
 obtain ⟨w,ew,rw'⟩:=r.get h2
 have hl:=r.length
 have hn:=zgk
 have fin:EP X pins σ Q w s:=⟨z,H,I,rw',q⟩
 by_cases h0:0<=i
 ·have hj:i.toNat=j:=by
   rw [seqIndex_of h0 h5] at h1
   exact Option.some.inj h1
  exact item_listR pl.isList h0 (by omega) (by rw [hj]; simpa using ew) fin hs
 ·have hj:(i + (its.toArray.size:Int)).toNat=j:=by
   rw [seqIndex_neg (by omega) h4] at h1
   rw [List.size_toArray,<-hl]
   exact Option.some.inj h1
  exact subscriptTail_builtinR (x:=w) pl.isList.typeIs slot_list_getitem.lookup
   (wpAny_getItem_list_neg (Q:=fun r s'=>r=w/\EP X pins σ Q r s') pl.isList (by omega) (by rw [List.size_toArray] <;> omega) (by omega) (by rw [hj]; simpa using ew) ⟨rfl,fin⟩) hs
theorem zrA:IxR X (rIxT X.K):=by
 intro value slice pins s σ H x y v u Q I rx ry h hs
 obtain ⟨p,xs,i,z,rfl,rfl,hq,he,q⟩:=h
 cases rx
 obtain ⟨t,rfl⟩:=ry
 obtain ⟨its,r,pl,hz⟩:=I.tuple hq
 obtain ⟨j,h1,h2,h3,h4,h5⟩:=zix he
 obtain ⟨w,ew,rw'⟩:=r.get h2
 have hl:=r.length
 have hn:=zgk
 have fin:EP X pins σ Q w s:=⟨z,H,I,rw',q⟩
 exact subscriptTail_builtinR (x:=w) pl.typeIs slot_tuple_getitem.lookup
  (getItem_tuple (j:=j) (Q:=fun r s'=>r=w/\EP X pins σ Q r s') pl (by omega) (by omega) (by rw [List.size_toArray,<-hl]; exact h1) (by simpa using ew) ⟨rfl,fin⟩) hs
theorem zrB:IxR X rIxS:=by
 intro value slice pins s σ H x y v u Q I rx ry h hs
 obtain ⟨z,i,c,rfl,rfl,hz,he,q⟩:=h
 obtain ⟨t,rfl⟩:=rx
 obtain ⟨t',rfl⟩:=ry
 obtain ⟨j,h1,h2,h3,h4,h5⟩:=zix he
 have hl:z.cps.toList.length=z.length:=by simp [Str.length]
 rw [hl] at h1 h4 h5
 have hn:=zgk
 exact tail_any (typeIs_str s z t) slot_str_getitem.lookup (getItem_str (c:=c) (by
  have e1:decide (i < -(2 ^ 63:Int))=false:=decide_eq_false (by omega)
  have e2:decide (i >= 2 ^ 63)=false:=decide_eq_false (by omega)
  rw [e1,e2,Bool.or_false]) (by rw [h1]; simpa using h2) ⟨.str ⟨#[c]⟩,H,I.tok _,⟨_,rfl⟩,q⟩) hs
noncomputable def rIx (K:W.Frag):R2:=fun x y H Q=>rIxL K x y H Q\/rIxT K x y H Q\/rIxS x y H Q
theorem zrC:IxR X (rIx X.K):=zlj.or (zrA.or zrB)
theorem zjD (its:List Value) (n j:Nat) (u:Value):Obj.mapSeq (·.setIfInBounds j u) { cls:=.type "list",data:=.seq its.toArray n }={ cls:=.type "list",data:=.seq (its.set j u).toArray n }:=by
 simp [Obj.mapSeq]
theorem Inv.lst {pins:List (Addr × Obj)} {σ:St} {H:Hp} {s:Shared} {p:Addr} {xs:List V} (I:Inv X pins σ H s) (h:H p=some (.lst xs)) :
  ∃(its:List Value) (n:Nat),Vals xs its/\s.heap.get? p=some { cls:=.type "list",data:=.seq its.toArray n }/\xs.length<=sizeLine:=by
 obtain ⟨z,its,n,r,e⟩:=I.hok p _ h
 exact ⟨its,n,r,e,z⟩
theorem Inv.lstUpd {pins:List (Addr × Obj)} {σ:St} {H:Hp} {s:Shared} {p:Addr} {xs ys:List V} {its its':List Value} {n n':Nat} {f:Obj->Obj} (I:Inv X pins σ H s) (h:H p=some (.lst xs))
  (ho:s.heap.get? p=some { cls:=.type "list",data:=.seq its.toArray n }) (hf:f { cls:=.type "list",data:=.seq its.toArray n }={ cls:=.type "list",data:=.seq its'.toArray n' }) (r:Vals ys its') (hz:ys.length<=sizeLine) (t:Nat) :
  Inv X pins σ (upd H p (.lst ys)) { s with heap:=s.heap.update p f,toks:=t }:=by
 have e:(s.heap.update p f).get? p=some { cls:=.type "list",data:=.seq its'.toArray n' }:=by
  rw [Heap.get?_update_self f ho (by rw [hf] <;> rfl),hf]
 refine I.write (x:=p) (e:=p) (by rw [h]; trivial) (.inl rfl) (fun b u hb q=>(Heap.get?_update_other _ _ (Ne.symm hb)).trans q) ⟨_,e⟩ ?_
 exact ⟨hz,its',n',r,e⟩
noncomputable def zqF:V->V->V->Hp->(Hp->Prop)->Prop:=fun o i v H Q=>∃p xs k j,o=.ref p/\i=.int k/\H p=some (.lst xs)/\ixN xs.length k=some j/\Q (upd H p (.lst (xs.set j v)))
theorem ziL:PSet X zqF:=by
 intro pins s σ H o i v ov iv u Q I ro ri rv h
 obtain ⟨p,xs,k,j,rfl,rfl,hp,hj,q⟩:=h
 cases ro
 obtain ⟨t,rfl⟩:=ri
 obtain ⟨its,n,r,ho,hz⟩:=I.lst hp
 obtain ⟨h1,h2,h3,h4⟩:=zim hj
 have hl:=r.length
 have hn:=zgk
 have I':Inv X pins σ (upd H p (.lst (xs.set j v))) { s with heap:=s.heap.update p (Obj.mapSeq (·.setIfInBounds j u)) }:=
  I.lstUpd hp ho (zjD its n j u) (r.set rv j) (by rw [List.length_set]; exact hz) s.toks
 by_cases h0:0<=k
 ·have hk:k.toNat=j:=by
   rw [seqIndex_of h0 h4] at h1
   exact Option.some.inj h1
  exact W.ki_setAt ho h0 (by omega) (by rw [List.size_toArray,<-hl]; exact h4) (by rw [hk]; exact ⟨_,I',q⟩)
 ·have hk:(k + (its.toArray.size:Int)).toNat=j:=by
   rw [seqIndex_neg (by omega) h3] at h1
   rw [List.size_toArray,<-hl]
   exact Option.some.inj h1
  exact W.ki_setBack ho (by omega) (by rw [List.size_toArray,<-hl]; exact h3) (by omega) (by rw [hk]; exact ⟨_,I',q⟩)
theorem zhk (lo hi:Option Int) (n:Nat):(sliceBounds lo hi none n).1=((HT.sIx n 0 lo:Nat):Int)/\(sliceBounds lo hi none n).2.1=((HT.sIx n n hi:Nat):Int)/\(sliceBounds lo hi none n).2.2=1:=by
 refine ⟨?_,?_,rfl⟩
 ·cases lo with
  | none=>simp [sliceBounds,HT.sIx]
  | some i=>
   simp only [sliceBounds,HT.sIx,Option.getD_none,show (1:Int) > 0 by decide,if_true]
   by_cases h:i < 0
   ·simp only [h,if_true] <;> omega
   ·simp only [h,if_false] <;> omega
 ·cases hi with
  | none=>simp [sliceBounds,HT.sIx]
  | some i=>
   simp only [sliceBounds,HT.sIx,Option.getD_none,show (1:Int) > 0 by decide,if_true]
   by_cases h:i < 0
   ·simp only [h,if_true] <;> omega
   ·simp only [h,if_false] <;> omega
theorem zgA (its:List Value) (lo hi:Option Int):slicePick its.toArray lo hi none=((its.drop (HT.sIx its.length 0 lo)).take (HT.sIx its.length its.length hi - HT.sIx its.length 0 lo)).toArray:=by
 obtain ⟨h1,h2,h3⟩:=zhk lo hi its.toArray.size
 unfold slicePick
 rw [h1,h2,h3]
 simp only [sliceRange_one,pick_run,List.size_toArray] <;> rfl
noncomputable def rSlL (K:W.Frag):V->Option Int->Option Int->Hp->VK->Prop:=fun x lo hi H Q=>∃a xs,x=.ref a/\SqL K H a xs/\∀p,H p=none->Q (.ref p) (upd H p (.lst (cutV xs lo hi)))
theorem zke:SlR X (rSlL X.K):=by
 intro pins s σ H x v vl vu lo hi sl Q I rx hs pl pu h
 obtain ⟨a,xs,rfl,hx,q⟩:=h
 cases rx
 obtain ⟨its,r,ht,hz⟩:=I.list hx
 have hlen:=r.length
 refine ⟨"list",_,slot_list_getitem.lookup,ht.isList.typeIs,?_⟩
 refine wpAny_getItem_list_slice ht.isList hs pl pu .none (by simp) ?_ (by rw [List.size_toArray] <;> omega)
 rw [zgA,<-hlen]
 refine ⟨.ref s.heap.objs.size,_,I.laid (t':=s.toks) (o:=.lst (cutV xs lo hi)) (fun b ob q=>Heap.get?_push_of_some _ q) (Nat.le_refl _) ?_,rfl,q _ (I.hok.fresh (Nat.le_refl _))⟩
 exact ⟨Nat.le_trans (zfR xs lo hi) hz,_,0,(r.drop (HT.sIx xs.length 0 lo)).take (HT.sIx xs.length xs.length hi - HT.sIx xs.length 0 lo),Heap.get?_push_size _ rfl⟩
noncomputable def zdA:V->Bool
 | .non=>true
 | .bl _=>true
 | .int _=>true
 | .str _=>true
 | _=>false
noncomputable def eqV:V->V->Bool
 | .non,.non=>true
 | .bl a,.bl b=>a == b
 | .bl a,.int b=>(if a then 1 else 0) == b
 | .int a,.bl b=>a == (if b then 1 else 0)
 | .int a,.int b=>a == b
 | .str a,.str b=>a == b
 | _,_=>false
theorem zr0 {A:Around} {s:Shared} {y x:V} {u v:Value} (ry:RelV y u) (rx:RelV x v) (fy:zdA y=true) (fx:zdA x=true):SeqAt.EqAt A s u v (eqV y x):=by
 cases y with
 | non=>
  cases ry
  cases x with
  | non=>cases rx; exact SeqAt.EqAt.same _
  | bl b=>cases rx; exact SeqAt.EqAt.none_bool b
  | int b=>obtain ⟨t,rfl⟩:=rx; exact SeqAt.EqAt.none_int b t
  | str b=>obtain ⟨t,rfl⟩:=rx; exact SeqAt.EqAt.none_str b t
  | _=>exact absurd (show false=true from fx) Bool.false_ne_true
 | bl a=>
  cases ry
  cases x with
  | non=>cases rx; exact SeqAt.EqAt.bool_none a
  | bl b=>cases rx; exact SeqAt.EqAt.bool_bool a b
  | int b=>obtain ⟨t,rfl⟩:=rx; exact SeqAt.EqAt.bool_int a b t
  | str b=>obtain ⟨t,rfl⟩:=rx; exact SeqAt.EqAt.bool_str a b t
  | _=>exact absurd (show false=true from fx) Bool.false_ne_true
 | int a=>
  obtain ⟨t',rfl⟩:=ry
  cases x with
  | non=>cases rx; exact SeqAt.EqAt.int_none a t'
  | bl b=>cases rx; exact SeqAt.EqAt.int_bool a t' b
  | int b=>obtain ⟨t,rfl⟩:=rx; exact SeqAt.EqAt.int_int a t' b t
  | str b=>obtain ⟨t,rfl⟩:=rx; exact SeqAt.EqAt.int_str a t' b t
  | _=>exact absurd (show false=true from fx) Bool.false_ne_true
 | str a=>
  obtain ⟨t',rfl⟩:=ry
  cases x with
  | non=>cases rx; exact SeqAt.EqAt.str_none a t'
  | bl b=>cases rx; exact SeqAt.EqAt.str_bool a t' b
  | int b=>obtain ⟨t,rfl⟩:=rx; exact SeqAt.EqAt.str_int a t' b t
  | str b=>obtain ⟨t,rfl⟩:=rx; exact SeqAt.EqAt.str_str a t' b t
  | _=>exact absurd (show false=true from fx) Bool.false_ne_true
 | _=>exact absurd (show false=true from fy) Bool.false_ne_true
noncomputable def eqU (x:V) (u:Value):Bool:=match u with
 | .none=>eqV .non x
 | .bool b=>eqV (.bl b) x
 | .int i _=>eqV (.int i) x
 | .str z _=>eqV (.str z) x
 | _=>false
theorem zjb {x y:V} {u:Value} (r:RelV y u) (f:zdA y=true):eqU x u=eqV y x:=by
 cases y with
 | non=>cases r; rfl
 | bl b=>cases r; rfl
 | int i=>obtain ⟨t,rfl⟩:=r; rfl
 | str z=>obtain ⟨t,rfl⟩:=r; rfl
 | _=>exact absurd (show false=true from f) Bool.false_ne_true
theorem zfV {x:V}:∀{xs:List V} {us:List Value},Vals xs us->xs.all zdA=true->us.any (eqU x)=xs.any fun y=>eqV y x
 | _,_,.nil,_=>rfl
 | y::xs,u::us,.cons r t,f=>by
  rw [List.all_cons,Bool.and_eq_true] at f
  rw [List.any_cons,List.any_cons,zjb r f.1,zfV t f.2]
theorem zdi {A:Around} {s:Shared} {x:V} {v:Value} (rx:RelV x v) (fx:zdA x=true):∀{xs:List V} {us:List Value},Vals xs us->xs.all zdA=true->∀u∈us,SeqAt.EqAt A s u v (eqU x u)
 | _,_,.nil,_=>fun u hu=>by cases hu
 | y::xs,u::us,.cons r t,f=>fun u' hu=>by
  rw [List.all_cons,Bool.and_eq_true] at f
  rcases List.mem_cons.mp hu with rfl | hu
  ·rw [zjb r f.1]; exact zr0 r rx f.1 fx
  ·exact zdi rx fx t f.2 u' hu
noncomputable def inV (x:V) (xs:List V):Bool:=xs.any fun y=>eqV y x
noncomputable def rIn (K:W.Frag) (neg:Bool):R2:=fun x y H Q=>∃p xs,y=.ref p/\(SqL K H p xs\/SqT K H p xs)/\zdA x=true/\xs.all zdA=true/\Q (.bl (if neg then ! inV x xs else inV x xs)) H
theorem zkN:OpR X (compareOp .In) (rIn X.K false):=by
 intro pins s σ H x y v u Q I rx ry h
 obtain ⟨p,xs,rfl,hq,fx,fs,q⟩:=h
 cases ry
 rcases hq with hq | hq
 ·obtain ⟨its,r,pl,hz⟩:=I.list hq
  refine SeqAt.in_listAt (eqU x) pl.isList (fun w hw=>zdi rx fx r fs w (by simpa using hw)) ⟨.bl _,H,I,rfl,?_⟩
  rw [show its.toArray.any (eqU x)=its.any (eqU x) by simp,zfV r fs]
  exact q
 ·obtain ⟨its,r,pl,hz⟩:=I.tuple hq
  refine SeqAt.in_tupleAt (eqU x) pl (fun w hw=>zdi rx fx r fs w (by simpa using hw)) ⟨.bl _,H,I,rfl,?_⟩
  rw [show its.toArray.any (eqU x)=its.any (eqU x) by simp,zfV r fs]
  exact q
theorem zhw:OpR X (compareOp .NotIn) (rIn X.K true):=by
 intro pins s σ H x y v u Q I rx ry h
 obtain ⟨p,xs,rfl,hq,fx,fs,q⟩:=h
 cases ry
 rcases hq with hq | hq
 ·obtain ⟨its,r,pl,hz⟩:=I.list hq
  refine SeqAt.notIn_listAt (eqU x) pl.isList (fun w hw=>zdi rx fx r fs w (by simpa using hw)) ⟨.bl _,H,I,rfl,?_⟩
  rw [show its.toArray.any (eqU x)=its.any (eqU x) by simp,zfV r fs]
  exact q
 ·obtain ⟨its,r,pl,hz⟩:=I.tuple hq
  refine SeqAt.notIn_tupleAt (eqU x) pl (fun w hw=>zdi rx fx r fs w (by simpa using hw)) ⟨.bl _,H,I,rfl,?_⟩
  rw [show its.toArray.any (eqU x)=its.any (eqU x) by simp,zfV r fs]
  exact q
theorem zhv:OpR X (compareOp .NotIn) (fun x y H Q=>∃i j,x=.str i/\y=.str j/\Q (.bl (!(!(Builtin.Str.occurrences j i 0 j.length 1).isEmpty))) H):=by
 intro pins s σ H x y v u Q I rx ry h
 obtain ⟨i,j,rfl,rfl,q⟩:=h
 obtain ⟨t,rfl⟩:=rx
 obtain ⟨t',rfl⟩:=ry
 exact notIn_str ⟨.bl _,H,I,rfl,q⟩
theorem zc9.or {f:Value} {r r':List V->Hp->VK->Prop} (h:zc9 X f r) (h':zc9 X f r'):zc9 X f (fun xs H Q=>r xs H Q\/r' xs H Q):=by
 intro pins s σ H xs us Q I rs q
 rcases q with q | q
 ·exact h pins s σ H xs us Q I rs q
 ·exact h' pins s σ H xs us Q I rs q
theorem zhM:zc9 X (.type "list") (fun xs H Q=>∃p ys,xs=[.ref p]/\(SqL X.K H p ys\/SqT X.K H p ys)/\∀l,H l=none->Q (.ref l) (upd H l (.lst ys))):=by
 intro pins s σ H xs us Q I r h
 obtain ⟨p,ys,rfl,hq,q⟩:=h
 obtain ⟨u,rfl,rx⟩:=zeI r
 cases rx
 have fin:∀(its:List Value),Vals ys its->ys.length<=sizeLine->∀(h':Heap) (c':Nat),(∀b o',s.heap.get? b=some o'->h'.get? b=some o') ->
   h'.get? s.heap.objs.size=some { cls:=.type "list",dict:=none,data:=.seq its.toArray c',slots:=#[] }->EP X pins σ Q (.ref s.heap.objs.size) { s with heap:=h' }:=fun its r' hz h' c' kp e=>
  ⟨.ref s.heap.objs.size,_,I.laid (t':=s.toks) kp (Nat.le_refl _) (show za8 X.prog X.w _ h' _ (.lst ys) from ⟨hz,its,c',r',e⟩),rfl,q _ (I.hok.fresh (Nat.le_refl _))⟩
 rcases hq with hq | hq
 ·obtain ⟨its,r',pl,hz⟩:=I.list hq
  have hlen:=r'.length
  obtain ⟨o,ho,hc,n,hd⟩:=pl.isList
  exact call_list_seq p (.inl rfl) ho hc hd (fun h' c' kp e=>fin its r' hz h' c' kp e) (by simp only [List.size_toArray] <;> omega)
 ·obtain ⟨its,r',pl,hz⟩:=I.tuple hq
  have hlen:=r'.length
  obtain ⟨o,ho,hc,n,hd⟩:=pl
  exact call_list_seq p (.inr rfl) ho hc hd (fun h' c' kp e=>fin its r' hz h' c' kp e) (by simp only [List.size_toArray] <;> omega)
theorem zg6:zc9 X (.type "tuple") (fun xs H Q=>∃p ys,xs=[.ref p]/\((SqL X.K H p ys/\∀l,H l=none->Q (.ref l) (upd H l (.tup ys)))\/(SqT X.K H p ys/\Q (.ref p) H))):=by
 intro pins s σ H xs us Q I r h
 obtain ⟨p,ys,rfl,h⟩:=h
 obtain ⟨u,rfl,rx⟩:=zeI r
 cases rx
 rcases h with ⟨hq,q⟩ | ⟨hq,q⟩
 ·obtain ⟨its,r',pl,hz⟩:=I.list hq
  have hlen:=r'.length
  refine call_tuple_list pl.isList (fun h' kp=>?_) (by simp only [List.size_toArray] <;> omega)
  have I1:Inv X pins σ H { s with heap:=h' }:=I.kept (t':=s.toks) kp
  have I2:Inv X pins σ (upd H h'.objs.size (.tup ys)) { s with heap:=h'.push { cls:=.type "tuple",data:=.seq its.toArray } }:=
   I1.laid (t':=s.toks) (fun b o e=>Heap.get?_push_of_some _ e) (Nat.le_refl _) (show za8 X.prog X.w _ _ _ (.tup ys) from ⟨hz,its,r',IsTup.new _ _,_,Heap.get?_push_size _ rfl,rfl⟩)
  exact ⟨.ref h'.objs.size,_,I2,rfl,q _ (I1.hok.fresh (Nat.le_refl _))⟩
 ·obtain ⟨its,r',pl,hz⟩:=I.tuple hq
  exact call_tuple_same pl ⟨.ref p,H,I,rfl,q⟩
noncomputable def tyV (K:W.Frag) (T:String) (x:V) (H:Hp):Prop:=match x with
 | .str _=>T = "str"
 | .int _=>T = "int"
 | .ref p=>(T = "list"/\∃xs,SqL K H p xs)\/(T = "tuple"/\((∃o,K.lookup p=some o/\o.cls=.type "tuple"/\o.dict=none)\/∃xs,Rd H p (.tup xs))) \/
   (T = "dict"/\((∃kvs,Rd H p (.dK kvs))\/∃kvs,H p=some (.dT kvs)))\/(T = "set"/\∃S n,H p=some (.set S n))
 | _=>False
theorem zpY {pins:List (Addr × Obj)} {σ:St} {H:Hp} {s:Shared} {T:String} {x:V} {v:Value} (I:Inv X pins σ H s) (r:RelV x v) (ty:tyV X.K T x H) :
  s.TypeIs v T/\∀a,v=.ref a->∃ob,s.heap.get? a=some ob/\ob.dict=none:=by
 cases x with
 | str z=>
  obtain ⟨t,rfl⟩:=r
  cases (show T = "str" from ty)
  exact ⟨typeIs_str s z t,fun _ e=>nomatch e⟩
 | int i=>
  obtain ⟨t,rfl⟩:=r
  cases (show T = "int" from ty)
  exact ⟨typeIs_int s i t,fun _ e=>nomatch e⟩
 | ref p=>
  cases r
  rcases ty with ⟨rfl,xs,hq⟩ | ⟨rfl,⟨o,hk,hc,hd⟩ | ⟨xs,hq⟩⟩ | ⟨rfl,hk⟩ | ⟨rfl,S,n,hk⟩
  ·obtain ⟨its,_,pl,_⟩:=I.list hq
   refine ⟨pl.isList.typeIs,fun a e=>?_⟩
   cases e
   obtain ⟨o,n,e,c,hd,_⟩:=pl
   exact ⟨o,e,hd⟩
  ·refine ⟨⟨o,I.kIn p o hk,hc⟩,fun a e=>?_⟩
   cases e
   exact ⟨o,I.kIn _ o hk,hd⟩
  ·obtain ⟨_,its,_,⟨o,ho,hc,_⟩,o2,ho2,hd2⟩:=hq.ok I.hok
   refine ⟨⟨o,ho,hc⟩,fun a e=>?_⟩
   cases e
   exact ⟨o2,ho2,hd2⟩
  ·have z:∃o,s.heap.get? p=some o/\o.ExactDict:=by
    rcases hk with ⟨kvs,hk⟩ | ⟨kvs,hk⟩
    ·obtain ⟨_,_,_,_,o,_,_,e,ex,_⟩:=(show za8 X.prog X.w H s.heap p (.dK kvs) from hk.ok I.hok)
     exact ⟨o,e,ex⟩
    ·obtain ⟨_,_,_,_,o,_,_,e,ex,_⟩:=I.hok p _ hk
     exact ⟨o,e,ex⟩
   obtain ⟨o,e,ex⟩:=z
   refine ⟨⟨o,e,ex.1⟩,fun a e2=>?_⟩
   cases e2
   exact ⟨o,e,ex.2.1⟩
  ·obtain ⟨o,_,_,_,e,ex,_⟩:=I.hok p _ hk
   refine ⟨⟨o,e,ex.1⟩,fun a e2=>?_⟩
   cases e2
   exact ⟨o,e,ex.2.1⟩
 | _=>exact False.elim ty
noncomputable def tBM (K:W.Frag) (T:String) (r:V->List V->Hp->VK->Prop) (to:TE) (t:TA):TE:=fun σ H Q=>to σ H fun x H1=>tyV K T x H1/\t σ H1 fun xs H2=>r x xs H2 Q
variable {o e:Expr} {es:List Expr} {to:TE} {t:TA} {name:Str} {apos cpos:Pos} {T id:String} {r:V->List V->Hp->VK->Prop}
theorem zqY (pa:PlainAttrs T) (slot:Slot T name id) (hty:typeOf (.builtin id)=pure (.type "method_descriptor")) (hm:MtR X id r) (ho:PE X o to) (ha:PA X (e::es) t)
  (hbase:attributeBase o name X.env (eval o X.env)=eval o X.env:=by rfl)
  (hfew:((backTo cpos (starEach (e::es) X.env)).all (fun x=>! x.1) && (backToKw cpos (keywordEach [] X.env)).all (fun x=>x.1.isSome)
   && decide ((e::es).length + ([]:List Keyword).length + (if ([]:List Keyword).isEmpty then 0 else 1) < 30))=true:=by rfl)
  (hline:(apos.endLine == cpos.line)=true:=by rfl) (hs:starEach (e::es) X.env=(false,eval e X.env)::starEach es X.env:=by rfl) (hplain:(backTo cpos (starEach es X.env)).any (·.1)=false:=by rfl) :
  PE X (.Call (.Attribute o name apos) (e::es) [] cpos) (tBM X.K T r to t):=by
 intro pins s σ H Q I h
 refine wpAny_Call_method_late hbase hfew hline rfl (thn (ho pins s σ H _ I h) fun v s1 ⟨x,H1,I1,r1,ty,q1⟩=>?_)
 obtain ⟨h1,h2⟩:=zpY I1 r1 ty
 refine ⟨T,id,pa,slot,hty,h1,h2,?_⟩
 have hA:=ha cpos pins s1 σ H1 _ I1 q1
 rw [hs] at hA ⊢
 refine Calls.callWith_builtin (by show (false || (backTo cpos (starEach es X.env)).any (·.1))=false; rw [hplain] <;> rfl) (Calls.evalArgs_plain ?_)
 exact thn hA fun us s2 ⟨vs,H2,I2,r2,q2⟩=>hm pins s2 σ H2 x vs v us Q I2 r1 r2 q2
end
noncomputable def MtM (X:Cx) (id:String) (r:V->List V->Hp->VK->Prop):Prop:=
 ∀(pins:List (Addr × Obj)) (s:Shared) (σ:St) (H:Hp) (x:V) (xs:List V) (v:Value) (us:List Value) (Q:VK),Inv X pins σ H s->RelV x v->Vals xs us->r x xs H Q ->
  wpAny (model X.prog X.w) X.A (call (.builtin id) (v::us)) (EP X pins σ Q) X.xe s
theorem Vals.one {x:V} {us:List Value} (h:Vals [x] us):∃u,us=[u]/\RelV x u:=by
 cases h with
 | cons r t=>cases t; exact ⟨_,rfl,r⟩
theorem Vals.zero:∀{us:List Value},Vals [] us->us=[]
 | _,.nil=>rfl
theorem Vals.eraseIdx:∀{xs:List V} {us:List Value} (i:Nat),Vals xs us->Vals (xs.eraseIdx i) (us.eraseIdx i)
 | _,_,_,.nil=>.nil
 | _,_,0,.cons _ t=>t
 | _,_,i + 1,.cons r t=>.cons r (Vals.eraseIdx i t)
theorem Vals.reverse {xs:List V} {us:List Value} (h:Vals xs us):Vals xs.reverse us.reverse:=by
 induction h with
 | nil=>exact .nil
 | cons r t ih=>rw [List.reverse_cons,List.reverse_cons]; exact Vals.append ih (.cons r .nil)
theorem Vals.rep {xs:List V} {us:List Value} (h:Vals xs us):∀k:Nat,Vals (List.replicate k xs).flatten (List.replicate k us).flatten
 | 0=>.nil
 | k + 1=>by
  rw [List.replicate_succ,List.replicate_succ,List.flatten_cons,List.flatten_cons]
  exact Vals.append h (Vals.rep h k)
theorem zhE (its:List Value):∀(k:Nat) (acc:List Value),
  List.foldl (fun x1 x2=>x1++x2) acc.toArray (List.replicate k its.toArray)=(acc++(List.replicate k its).flatten).toArray
 | 0,acc=>by simp
 | k + 1,acc=>by
  have e:acc.toArray++its.toArray=(acc++its).toArray:=by simp
  have e2:(acc++its)++(List.replicate k its).flatten=acc++(List.replicate (k + 1) its).flatten:=by
   rw [List.replicate_succ,List.flatten_cons,List.append_assoc]
  rw [<-e2,<-zhE its k (acc++its),<-e,List.replicate_succ,List.foldl_cons]
section
variable {X:Cx} {pins:List (Addr × Obj)} {σ:St} {H:Hp} {s:Shared} {l b:Addr} {xs ys zs:List V}
theorem Inv.lset {its its':List Value} {n:Nat} {f:Array Value->Array Value} {t':Nat} (I:Inv X pins σ H s) (hH:H l=some (.lst xs))
  (e:s.heap.get? l=some { cls:=.type "list",data:=.seq its.toArray n }) (hf:f its.toArray=its'.toArray) (hv:Vals ys its') (hz:ys.length<=sizeLine) :
  Inv X pins σ (upd H l (.lst ys)) { s with heap:=s.heap.update l (Obj.mapSeq f),toks:=t' }:=by
 have q:=PySem.IsL.update e f
 rw [hf] at q
 refine I.write (x:=l) (e:=l) (by rw [hH]; exact trivial) (.inl rfl) (fun b' u hb hu=>(Heap.get?_update_other s.heap (Obj.mapSeq f) (Ne.symm hb)).trans hu) ⟨_,q⟩ ?_
 exact ⟨hz,its',_,hv,q⟩
theorem Inv.lnew {its:List Value} {t':Nat} (I:Inv X pins σ H s) (hv:Vals ys its) (hz:ys.length<=sizeLine) :
  Inv X pins σ (upd H s.heap.objs.size (.lst ys)) { s with heap:=s.heap.push { cls:=.type "list",data:=.seq its.toArray },toks:=t' }:=
 I.laid (fun _ _ q=>Heap.get?_push_of_some _ q) (Nat.le_refl _) ⟨hz,its,0,hv,Heap.get?_push_size _ rfl⟩
theorem Inv.fresh (I:Inv X pins σ H s):H s.heap.objs.size=none:=I.hok.fresh (Nat.le_refl _)
theorem Inv.lstM (I:Inv X pins σ H s) (hH:H l=some (.lst xs)):xs.length<=sizeLine/\∃(its:List Value) (n:Nat),Vals xs its/\xs.length=its.length/\s.heap.get? l=some { cls:=.type "list",data:=.seq its.toArray n }:=by
 obtain ⟨z,its,n,r,e⟩:=I.hok l _ hH
 exact ⟨z,its,n,r,r.length,e⟩
theorem zmT {n:Nat} (h:n<=sizeLine):Builtin.List.listTooLong n=false:=by
 unfold Builtin.List.listTooLong
 exact decide_eq_false (by omega)
end
section
variable {X:Cx}
noncomputable def zkw:V->List V->Hp->VK->Prop:=fun x vs H Q=>∃l xs y,x=.ref l/\vs=[y]/\H l=some (.lst xs)/\xs.length < sizeLine/\Q .non (upd H l (.lst (xs++[y])))
theorem zb5:MtM X "list.append" zkw:=by
 intro pins s σ H x vs v us Q I rx rv h
 obtain ⟨l,xs,y,rfl,rfl,hH,hz,q⟩:=h
 cases rx
 obtain ⟨u,rfl,ru⟩:=rv.one
 obtain ⟨z,its,n,r,hl,e⟩:=I.lstM hH
 refine call_meets F.slot_list_append ⟨_,e,rfl⟩ F.entry_list_append (F.args_list_append_2 _ _) (PySem.list_append l its.toArray n u (by rw [List.size_toArray]; omega)) ⟨e,?_⟩
 refine ⟨.non,_,I.lset (its':=its++[u]) hH e (by simp) (r.append (.cons ru .nil)) ?_,rfl,q⟩
 rw [List.length_append,List.length_singleton]
 omega
noncomputable def rRep:R2:=fun x y H Q=>∃l k xs,x=.ref l/\y=.int k/\H l=some (.lst xs)/\-(2 ^ 63)<=k/\k < 2 ^ 63/\xs.length * k.toNat<=sizeLine /\
 ∀p,H p=none->Q (.ref p) (upd H p (.lst (List.replicate k.toNat xs).flatten))
theorem zpr {α:Type} (xs:List α) (k:Nat):(List.replicate k xs).flatten.length=k * xs.length:=by
 induction k with
 | zero=>simp
 | succ k ih=>rw [List.replicate_succ,List.flatten_cons,List.length_append,ih,Nat.succ_mul,Nat.add_comm]
theorem zq1:OpR X (binaryOp .Mult) rRep:=by
 intro pins s σ H x y v u Q I rx ry h
 obtain ⟨l,k,xs,rfl,rfl,hH,h1,h2,hz,q⟩:=h
 cases rx
 obtain ⟨t,rfl⟩:=ry
 obtain ⟨z,its,n,r,hl,e⟩:=I.lstM hH
 have hlen:its.toArray.size * k.toNat<=sizeLine:=by rw [List.size_toArray,<-hl]; exact hz
 have hcap:¬ its.toArray.size * k.toNat > (2 ^ 63 - 1) / 8:=by
  have:(sizeLine:Nat)<=(2 ^ 63 - 1) / 8:=by decide
  omega
 have hfit:¬ (! Builtin.List.listFitsIndex k)=true:=by
  rw [fitsIndex_both h1 h2]
  exact Bool.false_ne_true
 have hlong:¬ Builtin.List.listTooLong (its.toArray.size * k.toNat)=true:=by
  rw [zmT hlen]
  exact Bool.false_ne_true
 have hnew:List.foldl (fun x1 x2=>x1++x2) #[] (List.replicate (if its.toArray.isEmpty=true then 0 else k.toNat) its.toArray)=(List.replicate k.toNat its).flatten.toArray:=by
  have f0:∀m:Nat,List.foldl (fun x1 x2=>x1++x2) #[] (List.replicate m its.toArray)=(List.replicate m its).flatten.toArray:=fun m=>by
   have:=zhE its m []
   rw [List.nil_append] at this
   exact this
  rw [f0]
  cases its with
  | nil=>simp
  | cons a r'=>rw [if_neg (by simp)]
 refine wpAny_binaryOp_repeat_ref (T := "list") (U := "int") (by decide) ⟨_,e,rfl⟩ (fun s'=>typeIs_int s' k t) noFill_list_mul F.fills_int_mul F.slot_int_rmul repeat_list F.slot_int_index.lookup
  (call_meets F.slot_int_rmul (typeIs_int s k t) F.entry_int_rmul (F.args_int_rmul_2 _ _) (int___rmul___int_list k t l its.toArray n)
   ⟨e,rfl,⟨_,e,rfl⟩,call_meets F.slot_list_mul ⟨_,e,rfl⟩ F.entry_list_mul (F.args_list_mul_2 _ _) (AutoListH.list___mul___list_int_3 l its.toArray n k t hfit hcap hlong) ⟨e,?_⟩⟩)
 rw [hnew]
 exact ⟨.ref _,_,I.lnew (t':=s.toks) (r.rep k.toNat) (by rw [zpr,Nat.mul_comm]; exact hz),rfl,q _ I.fresh⟩
end
section
variable {κ:Type} [DecidableEq κ]
noncomputable def valV (kvs:List (κ × V)) (k:κ):Option V:=(kvs.find? fun kv=>decide (kv.1=k)).map (·.2)
noncomputable def putK (kvs:List (κ × V)) (k:κ) (v:V):List (κ × V):=
 if (kvs.any fun kv=>decide (kv.1=k))=true then kvs.map (fun kv=>if kv.1=k then (kv.1,v) else kv) else kvs++[(k,v)]
noncomputable def zr2 (kvs:List (κ × V)) (k:κ):List (κ × V):=kvs.filter fun kv=>decide (kv.1≠k)
theorem zfi {p:κ × V} {r:List (κ × V)} {k:κ} (e:p.1=k):valV (p::r) k=some p.2:=by simp [valV,List.find?_cons,e]
theorem zer {p:κ × V} {r:List (κ × V)} {k:κ} (e:¬ p.1=k):valV (p::r) k=valV r k:=by simp [valV,List.find?_cons,e]
theorem ziD (k:κ):∀kvs:List (κ × V),(kvs.any fun kv=>decide (kv.1=k))=(valV kvs k).isSome
 | []=>rfl
 | p::r=>by
  rw [List.any_cons]
  by_cases e:p.1=k
  ·simp only [zfi e,decide_eq_true e,Bool.true_or,Option.isSome_some]
  ·rw [zer e,decide_eq_false e,Bool.false_or]; exact ziD k r
theorem zfK (kvs:List (κ × V)) (k:κ) (v:V):(putK kvs k v).length<=kvs.length + 1:=by
 unfold putK
 split
 ·rw [List.length_map]; omega
 ·rw [List.length_append,List.length_cons,List.length_nil]; omega
theorem RelO.isSome_eq {o:Option V} {u:Option Value} (r:RelO o u):o.isSome=u.isSome:=by
 cases o with
 | none=>cases u with
  | none=>rfl
  | some _=>exact (show False from r).elim
 | some _=>cases u with
  | none=>exact (show False from r).elim
  | some _=>rfl
theorem RelO.getD {o:Option V} {u:Option Value} {d:V} {d':Value} (r:RelO o u) (rd:RelV d d'):RelV (o.getD d) (u.getD d'):=by
 cases o with
 | none=>cases u with
  | none=>exact rd
  | some _=>exact (show False from r).elim
 | some _=>cases u with
  | none=>exact (show False from r).elim
  | some _=>exact r
theorem KV.val {kvs:List (κ × V)} {vs:List (κ × Value)} (r:KV kvs vs) (k:κ):RelO (valV kvs k) (valueAt vs k):=by
 unfold KV at r
 induction r with
 | nil=>exact True.intro
 | @cons p q ps qs h t ih=>
  obtain ⟨h1,h2⟩:=h
  by_cases e:p.1=k
  ·have e':q.1=k:=h1.symm.trans e
   have b:valueAt (q::qs) k=some q.2:=by simp [valueAt,List.find?_cons,e']
   rw [zfi e,b]; exact h2
  ·have e':¬ q.1=k:=fun z=>e (h1.trans z)
   have b:valueAt (q::qs) k=valueAt qs k:=by simp [valueAt,List.find?_cons,e']
   rw [zer e,b]; exact ih
theorem KV.any {kvs:List (κ × V)} {vs:List (κ × Value)} (r:KV kvs vs) (k:κ):(kvs.any fun kv=>decide (kv.1=k))=vs.any fun kv=>decide (kv.1=k):=by
 unfold KV at r
 induction r with
 | nil=>rfl
 | cons h t ih=>rw [List.any_cons,List.any_cons,ih,h.1]
theorem KV.repl {kvs:List (κ × V)} {vs:List (κ × Value)} (r:KV kvs vs) (k:κ) {y:V} {u:Value} (ry:RelV y u) :
  KV (kvs.map fun kv=>if kv.1=k then (kv.1,y) else kv) (vs.map fun kv=>if kv.1=k then (kv.1,u) else kv):=by
 unfold KV at r ⊢
 induction r with
 | nil=>exact .nil
 | @cons p q ps qs h t ih=>
  rw [List.map_cons,List.map_cons]
  refine .cons ?_ ih
  obtain ⟨h1,h2⟩:=h
  by_cases e:p.1=k
  ·rw [if_pos e,if_pos (h1.symm.trans e)]; exact ⟨h1,ry⟩
  ·rw [if_neg e,if_neg (fun z=>e (h1.trans z))]; exact ⟨h1,h2⟩
theorem KV.put {kvs:List (κ × V)} {vs:List (κ × Value)} (r:KV kvs vs) (k:κ) {y:V} {u:Value} (ry:RelV y u):KV (putK kvs k y) (stored vs k u):=by
 unfold putK stored
 rw [r.any k]
 by_cases e:(vs.any fun kv=>decide (kv.1=k))=true
 ·rw [if_pos e,if_pos e]; exact r.repl k ry
 ·rw [if_neg e,if_neg e]; exact Paired.snoc r ⟨rfl,ry⟩
theorem KV.drop {kvs:List (κ × V)} {vs:List (κ × Value)} (r:KV kvs vs) (k:κ):KV (zr2 kvs k) (without vs k):=by
 unfold KV at r ⊢
 unfold zr2 without
 induction r with
 | nil=>exact .nil
 | @cons p q ps qs h t ih=>
  obtain ⟨h1,h2⟩:=h
  rw [List.filter_cons,List.filter_cons]
  by_cases e:p.1=k
  ·have a:¬ decide (p.1≠k)=true:=by simp [e]
   have b:¬ decide (q.1≠k)=true:=by simp [h1.symm.trans e]
   rw [if_neg a,if_neg b]; exact ih
  ·have e':¬ q.1=k:=fun z=>e (h1.trans z)
   have a:decide (p.1≠k)=true:=by simp [e]
   have b:decide (q.1≠k)=true:=by simp [e']
   rw [if_pos a,if_pos b]; exact .cons ⟨h1,h2⟩ ih
theorem KV.keys {kvs:List (κ × V)} {vs:List (κ × Value)} (r:KV kvs vs):kvs.map (·.1)=vs.map (·.1):=by
 unfold KV at r
 induction r with
 | nil=>rfl
 | cons h t ih=>rw [List.map_cons,List.map_cons,ih,h.1]
theorem KV.length {kvs:List (κ × V)} {vs:List (κ × Value)} (r:KV kvs vs):kvs.length=vs.length:=Paired.length r
end
theorem zli {P:Program} {w:World} {k:Key} {u:Value} (r:RelV (kV k) u):(zbc P w).is k u=true:=by
 cases k with
 | inl i=>obtain ⟨t,e⟩:=(show ∃t,u=Value.int i t from r); subst e; exact zig P w i t
 | inr x=>obtain ⟨t,e⟩:=(show ∃t,u=Value.str x t from r); subst e; exact zif P w x t
theorem zhB {P:Program} {w:World}:∀{ks:List Key} {us:List Value},Vals (ks.map kV) us->ItemsAre (zbc P w) ks us
 | [],_,r=>by rw [List.map_nil] at r; cases r; exact .nil
 | k::ks,_,r=>by
  rw [List.map_cons] at r
  cases r with
  | cons h t=>exact .cons (zli h) (zhB t)
noncomputable abbrev KT (H:Hp):List (List Key × V)->List (List Key × Addr × Value)->Prop:=Paired fun p q=>p.1=q.1/\H q.2.1=some (.tup (p.1.map kV))/\RelV p.2 q.2.2
theorem KT.val {H:Hp} {kvs:List (List Key × V)} {xs:List (List Key × Addr × Value)} (r:KT H kvs xs) (k:List Key):RelO (valV kvs k) ((atKey xs k).map (·.2)):=by
 induction r with
 | nil=>exact True.intro
 | @cons p q ps qs h t ih=>
  obtain ⟨h1,_,h2⟩:=h
  by_cases e:p.1=k
  ·have e':q.1=k:=h1.symm.trans e
   have b:atKey (q::qs) k=some q.2:=by simp [atKey,List.find?_cons,e']
   rw [zfi e,b]; exact h2
  ·have e':¬ q.1=k:=fun z=>e (h1.trans z)
   have b:atKey (q::qs) k=atKey qs k:=by simp [atKey,List.find?_cons,e']
   rw [zer e,b]; exact ih
theorem KT.repl {H:Hp} {kvs:List (List Key × V)} {xs:List (List Key × Addr × Value)} (r:KT H kvs xs) (k:List Key) {y:V} {u:Value} (ry:RelV y u) :
  KT H (kvs.map fun kv=>if kv.1=k then (kv.1,y) else kv) (xs.map (putAt k u)):=by
 induction r with
 | nil=>exact .nil
 | @cons p q ps qs h t ih=>
  rw [List.map_cons,List.map_cons]
  refine .cons ?_ ih
  obtain ⟨h1,h2,h3⟩:=h
  unfold putAt
  by_cases e:p.1=k
  ·rw [if_pos e,if_pos (h1.symm.trans e)]; exact ⟨h1,h2,ry⟩
  ·rw [if_neg e,if_neg (fun z=>e (h1.trans z))]; exact ⟨h1,h2,h3⟩
theorem KT.put {H:Hp} {kvs:List (List Key × V)} {xs:List (List Key × Addr × Value)} (r:KT H kvs xs) (k:List Key) {b:Addr} {y:V} {u:Value} (hb:H b=some (.tup (k.map kV))) (ry:RelV y u) :
  KT H (putK kvs k y) (storedH xs k b u):=by
 have e:(kvs.any fun kv=>decide (kv.1=k))=(atKey xs k).isSome:=by
  rw [ziD,(r.val k).isSome_eq,Option.isSome_map]
 unfold putK storedH
 rw [e]
 by_cases q:(atKey xs k).isSome=true
 ·rw [if_pos q,if_pos q]; exact r.repl k ry
 ·rw [if_neg q,if_neg q]; exact Paired.snoc r ⟨rfl,hb,ry⟩
theorem KT.keeps {H H':Hp} {kvs:List (List Key × V)} {xs:List (List Key × Addr × Value)} (r:KT H kvs xs) (ht:∀b ys,H b=some (.tup ys)->H' b=some (.tup ys)):KT H' kvs xs:=
 Paired.mapP r fun _ _ z=>⟨z.1,ht _ _ z.2.1,z.2.2⟩
section
variable {P:Program} {w:World} {H:Hp} {h:Heap} {a:Addr}
theorem zqE {u:HO} (ok:HOk P w H h) (e:Rd H a u):za8 P w H h a u:=e.ok ok
theorem zjO {kvs:List (Key × V)} (ok:HOk P w H h) (e:Rd H a (.dK kvs)):kvs.length<=sizeLine/\(a == sysModules)=false/\∃vs,KV kvs vs/\h.DictOf (zbc P w) a vs:=
 show za8 P w H h a (.dK kvs) from zqE ok e
theorem ztf {kvs:List (Key × V)} (ok:HOk P w H h) (e:H a=some (.dK kvs)):kvs.length<=sizeLine/\(a == sysModules)=false/\∃vs,KV kvs vs/\h.DictOf (zbc P w) a vs:=zjO ok (.inl e)
theorem zhA {ks:List Key} (ok:HOk P w H h) (e:H a=some (.tup (ks.map kV))):(tupleKind (zbc P w)).is h ks a:=by
 obtain ⟨_,its,r,⟨o,h1,h2,n,h3⟩,_⟩:=(show za8 P w H h a (.tup (ks.map kV)) from ok a _ e)
 exact ⟨o,its.toArray,n,h1,h2,h3,by simpa using zhB r⟩
theorem zlD {kvs:List (List Key × V)} (ok:HOk P w H h) (e:Rd H a (.dT kvs)):kvs.length<=sizeLine/\(a == sysModules)=false /\
  ∃xs,KT H kvs xs/\h.DictOfH (tupleKind (zbc P w)) a xs:=by
 obtain ⟨z,y,xs,r,o,es,ep,h1,h2,h3,h4,h5⟩:=(show za8 P w H h a (.dT kvs) from zqE ok e)
 refine ⟨z,y,xs,r,o,es,ep,h1,h2,h3,h4,fun x hx=>?_,h5⟩
 have all:∀{l:List (List Key × V)} {m:List (List Key × Addr × Value)},KT H l m->∀x∈m,(tupleKind (zbc P w)).is h x.1 x.2.1:=by
  intro l m q
  induction q with
  | nil=>intro x hx; exact nomatch hx
  | @cons p q ps qs hq t ih=>
   intro x hx
   rcases List.mem_cons.mp hx with e | hx
   ·subst e
    exact zhA ok (by rw [<-hq.1]; exact hq.2.1)
   ·exact ih x hx
 exact all r x hx
theorem zte {kvs:List (List Key × V)} (ok:HOk P w H h) (e:H a=some (.dT kvs)):kvs.length<=sizeLine/\(a == sysModules)=false /\
  ∃xs,KT H kvs xs/\h.DictOfH (tupleKind (zbc P w)) a xs:=zlD ok (.inl e)
end
noncomputable def DGet (H:Hp) (a:Addr) (y:V) (r:Option V):Prop:=
 (∃kvs k,Rd H a (.dK kvs)/\y=kV k/\r=valV kvs k)\/∃kvs k b,Rd H a (.dT kvs)/\y=.ref b/\H b=some (.tup (k.map kV))/\r=valV kvs k
noncomputable def DPut (H:Hp) (a:Addr) (y v:V) (H':Hp):Prop:=
 (∃kvs k,H a=some (.dK kvs)/\y=kV k/\kvs.length < sizeLine/\H'=upd H a (.dK (putK kvs k v))) \/
 ∃kvs k b,H a=some (.dT kvs)/\y=.ref b/\H b=some (.tup (k.map kV))/\kvs.length < sizeLine/\H'=upd H a (.dT (putK kvs k v))
theorem DGet.k {H:Hp} {a:Addr} {kvs:List (Key × V)} {k:Key} (e:H a=some (.dK kvs)):DGet H a (kV k) (valV kvs k):=.inl ⟨kvs,k,.inl e,rfl,rfl⟩
theorem DGet.t {H:Hp} {a b:Addr} {kvs:List (List Key × V)} {k:List Key} (e:H a=some (.dT kvs)) (eb:H b=some (.tup (k.map kV))):DGet H a (.ref b) (valV kvs k):=.inr ⟨kvs,k,b,.inl e,rfl,eb,rfl⟩
theorem DPut.k {H:Hp} {a:Addr} {kvs:List (Key × V)} {k:Key} {v:V} (e:H a=some (.dK kvs)) (hl:kvs.length < sizeLine):DPut H a (kV k) v (upd H a (.dK (putK kvs k v))):=.inl ⟨kvs,k,e,rfl,hl,rfl⟩
theorem DPut.t {H:Hp} {a b:Addr} {kvs:List (List Key × V)} {k:List Key} {v:V} (e:H a=some (.dT kvs)) (eb:H b=some (.tup (k.map kV))) (hl:kvs.length < sizeLine) :
  DPut H a (.ref b) v (upd H a (.dT (putK kvs k v))):=.inr ⟨kvs,k,b,e,rfl,eb,hl,rfl⟩
section
variable {X:Cx} {pins:List (Addr × Obj)} {σ:St} {H:Hp} {s:Shared} {a:Addr} {y v:V} {u r:Value} {o:Option V} {A:Around} {E:Value->Shared->Prop}
theorem Inv.big (I:Inv X pins σ H s):sysModules < s.heap.objs.size:=by
 have h:mainGlobals < s.heap.objs.size:=(I.mod.glob.keeps I.bk).lt
 exact Nat.lt_trans (by decide) h
theorem zlJ {Q:Value->Shared->Prop} (hu:A.units + 1 < cLine) (I:Inv X pins σ H s) (g:DGet H a y (some v)) (ry:RelV y u) (h:∀w' s',Inv X pins σ H s'->RelV v w'->Q w' s') :
  wpAny (model X.prog X.w) A (getItem (.ref a) u) Q E s:=by
 rcases g with ⟨kvs,k,e,ey,l⟩ | ⟨kvs,k,b,e,ey,eb,l⟩
 ·subst ey
  obtain ⟨z,hd,vs,rel,dd⟩:=zjO I.hok e
  obtain ⟨w',hw,rw'⟩:=RelO.some_of (v:=v) (o:=valueAt vs k) (by rw [l]; exact rel.val k)
  exact wpAny_getItem_of (zli ry) dd.mapOf hw (h w' _ (I.tok _) rw')
 ·subst ey
  cases (show u=Value.ref b from ry)
  obtain ⟨z,hd,xs,rel,dd⟩:=zlD I.hok e
  obtain ⟨w',hw,rw'⟩:=RelO.some_of (v:=v) (o:=(atKey xs k).map (·.2)) (by rw [l]; exact rel.val k)
  obtain ⟨p,hp,hp2⟩:=Option.map_eq_some_iff.mp hw
  refine wpAny_getItem_heap (tupleKind_room_in1 hu) (zhA I.hok eb) dd hp ?_
  rw [hp2]
  exact h w' _ (I.tok _) rw'
theorem d_in {Q:Value->Shared->Prop} (hu:A.units + 1 < cLine) (I:Inv X pins σ H s) (g:DGet H a y o) (ry:RelV y u) (h:∀s',Inv X pins σ H s'->Q (.bool o.isSome) s') :
  wpAny (model X.prog X.w) A (compareOp .In u (.ref a)) Q E s:=by
 rcases g with ⟨kvs,k,e,ey,l⟩ | ⟨kvs,k,b,e,ey,eb,l⟩
 ·subst ey
  obtain ⟨z,hd,vs,rel,dd⟩:=zjO I.hok e
  refine wpAny_in_of (zli ry) hd dd.mapOf ?_
  rw [<-(rel.val k).isSome_eq,<-l]
  exact h _ (I.tok _)
 ·subst ey
  cases (show u=Value.ref b from ry)
  obtain ⟨z,hd,xs,rel,dd⟩:=zlD I.hok e
  refine wpAny_in_heap (tupleKind_room_in1 hu) (zhA I.hok eb) hd dd ?_
  have q:=(rel.val k).isSome_eq
  rw [Option.isSome_map] at q
  rw [<-q,<-l]
  exact h _ (I.tok _)
theorem zpE {Q:Value->Shared->Prop} (hu:A.units + 1 < cLine) (I:Inv X pins σ H s) (g:DGet H a y o) (ry:RelV y u) (h:∀s',Inv X pins σ H s'->Q (.bool (! o.isSome)) s') :
  wpAny (model X.prog X.w) A (compareOp .NotIn u (.ref a)) Q E s:=by
 rcases g with ⟨kvs,k,e,ey,l⟩ | ⟨kvs,k,b,e,ey,eb,l⟩
 ·subst ey
  obtain ⟨z,hd,vs,rel,dd⟩:=zjO I.hok e
  refine wpAny_notIn_of (zli ry) hd dd.mapOf ?_
  rw [<-(rel.val k).isSome_eq,<-l]
  exact h _ (I.tok _)
 ·subst ey
  cases (show u=Value.ref b from ry)
  obtain ⟨z,hd,xs,rel,dd⟩:=zlD I.hok e
  refine wpAny_notIn_heap (tupleKind_room_in1 hu) (zhA I.hok eb) hd dd ?_
  have q:=(rel.val k).isSome_eq
  rw [Option.isSome_map] at q
  rw [<-q,<-l]
  exact h _ (I.tok _)
theorem zlH {h':Heap} {t':Nat} {ob:HO} (I:Inv X pins σ H s) (mu:Mut (H a)) (hs:Heap.SameBut a s.heap h') (he:∃q,h'.get? a=some q) (new:za8 X.prog X.w (upd H a ob) h' a ob) :
  Inv X pins σ (upd H a ob) { s with heap:=h',toks:=t' }:=
 I.write (x:=a) (e:=a) mu (.inl rfl) (fun b q hb z=>(hs.2 b hb).trans z) he new
theorem zr4 {P:Program} {w:World} {H':Hp} {h':Heap} {kvs:List (Key × V)} {vs:List (Key × Value)} (z:kvs.length<=sizeLine) (hd:(a == sysModules)=false) (rel:KV kvs vs) (dd:h'.DictOf (zbc P w) a vs) :
  za8 P w H' h' a (.dK kvs):=⟨z,hd,vs,rel,dd⟩
theorem zlI {H':Hp} {Q:Unit->Shared->Prop} (hu:A.units + 1 < cLine) (I:Inv X pins σ H s) (g:DPut H a y v H') (ry:RelV y u) (rv:RelV v r) (h:∀s',Inv X pins σ H' s'->Q () s') :
  wpAny (model X.prog X.w) A (setItem (.ref a) u r) Q E s:=by
 rcases g with ⟨kvs,k,e,ey,l,eH⟩ | ⟨kvs,k,b,e,ey,eb,l,eH⟩
 ·subst ey eH
  obtain ⟨z,hd,vs,rel,dd⟩:=ztf I.hok e
  have hz:vs.length<=sizeLine:=by rw [<-rel.length]; exact z
  have hl:(putK kvs k v).length<=sizeLine:=by have:=zfK kvs k v; omega
  refine wpAny_setItem_pairs (hsz:=hz) (zli ry) dd fun h' dd' hs=>h _ ?_
  have he:∃q,h'.get? a=some q:=let ⟨q,_,_,hq,_⟩:=dd'; ⟨q,hq⟩
  exact zlH I (by rw [e]; exact True.intro) hs he (zr4 hl hd (rel.put k rv) dd')
 ·subst ey eH
  cases (show u=Value.ref b from ry)
  obtain ⟨z,hd,xs,rel,dd⟩:=zte I.hok e
  have hz:xs.length<=sizeLine:=by rw [<-Paired.length rel]; exact z
  have hl:(putK kvs k v).length<=sizeLine:=by have:=zfK kvs k v; omega
  refine wpAny_setItem_heap (hsz:=hz) (tupleKind_room_in1 hu) (zhA I.hok eb) dd fun h' dd' hs=>h _ ?_
  obtain ⟨q,es,ep,hq,h2,h3,h4,_,h5⟩:=dd'
  refine zlH I (by rw [e]; exact True.intro) hs ⟨q,hq⟩ ⟨hl,hd,_,(rel.put k eb rv).keeps fun c ys ec=>?_,q,es,ep,hq,h2,h3,h4,h5⟩
  rw [zao (zs1 ec e (fun z=>nomatch z))]
  exact ec
end
section
variable {X:Cx} {pins:List (Addr × Obj)} {σ:St} {H:Hp} {s:Shared} {a:Addr} {kvs:List (Key × V)} {k:Key} {u:Value} {A:Around} {E:Value->Shared->Prop}
theorem ztg {Q:Value->Shared->Prop} (I:Inv X pins σ H s) (e:Rd H a (.dK kvs)) (h:∀t s',Inv X pins σ H s'->Q (.int kvs.length t) s'):wpAny (model X.prog X.w) A (call (.builtin "len") [.ref a]) Q E s:=by
 obtain ⟨z,hd,vs,rel,dd⟩:=zjO I.hok e
 refine call_len_dict hd dd (by rw [<-rel.length]; rw [sizeLine_eq] at z; omega) ?_
 rw [<-rel.length]
 exact h _ _ (I.tok _)
end
theorem zit {X:Cx} {pins:List (Addr × Obj)} {σ:St} {H:Hp} {s:Shared} {a:Addr} {y:V} {o:Option V} (I:Inv X pins σ H s) (g:DGet H a y o):s.TypeIs (.ref a) "dict" := by
 rcases g with ⟨kvs,k,e,_,_⟩ | ⟨kvs,k,b,e,_,_,_⟩
 ·obtain ⟨_,_,vs,_,dd⟩:=zjO I.hok e
  exact dd.typeIs
 ·obtain ⟨_,_,xs,_,dd⟩:=zlD I.hok e
  exact dd.typeIs
theorem znj {P:Program} {w:World} {H:Hp} (h:Heap) (hb:sysModules < h.objs.size):za8 P w H (h.push { cls:=.type "dict",data:=.dict #[] }) h.objs.size (.dK []):=
 ⟨Nat.zero_le _,beq_eq_false_iff_ne.mpr (Ne.symm (Nat.ne_of_lt hb)),[],.nil,Heap.DictOf.new h⟩
noncomputable def zp7:TE:=fun _ H Q=>∀p,H p=none->Q (.ref p) (upd H p (.dK []))
section
variable {X:Cx} {pos:Pos}
theorem zmK:PE X (.Dict [] [] pos) zp7:=fun pins s σ H Q I h=>
 wpAny_Dict_empty ⟨.ref s.heap.objs.size,_,I.laid (a:=s.heap.objs.size) (o:=.dK []) (t':=s.toks) (fun _ _ q=>Heap.get?_push_of_some _ q) (Nat.le_refl _) (znj s.heap I.big),rfl,h _ (I.hok.fresh (Nat.le_refl _))⟩
end
structure M1 (X:Cx) (o:Expr) (m:Str) (apos:Pos) (e:Expr) (cpos:Pos):Prop where
 base:attributeBase o m X.env (eval o X.env)=eval o X.env
 few:((backTo cpos (starEach [e] X.env)).all (fun x=>! x.1) && (backToKw cpos (keywordEach [] X.env)).all (fun x=>x.1.isSome)
  && decide (([e]:List Expr).length + ([]:List Keyword).length + (if ([]:List Keyword).isEmpty then 0 else 1) < 30))=true
 line:(apos.endLine == cpos.line)=true
 trees:backTo cpos (starEach [e] X.env)=[(false,eval e X.env)]
structure M2 (X:Cx) (o:Expr) (m:Str) (apos:Pos) (e f:Expr) (cpos:Pos):Prop where
 base:attributeBase o m X.env (eval o X.env)=eval o X.env
 few:((backTo cpos (starEach [e,f] X.env)).all (fun x=>! x.1) && (backToKw cpos (keywordEach [] X.env)).all (fun x=>x.1.isSome)
  && decide (([e,f]:List Expr).length + ([]:List Keyword).length + (if ([]:List Keyword).isEmpty then 0 else 1) < 30))=true
 line:(apos.endLine == cpos.line)=true
 trees:backTo cpos (starEach [e,f] X.env)=[(false,eval e X.env),(false,eval f X.env)]
end L2
namespace Att
open PySem PySem.W PySem.Calls PyProof.Rows
theorem zfN {P:Params} {h:Heap}:∀(ns:List Int) (vs:List Value),WellAll P h vs (ns.map WData.int)->IntsAre vs ns:=by
 intro ns
 induction ns with
 | nil=>
  intro vs w
  rw [List.map_nil] at w
  cases w
  exact .nil
 | cons n ns ih=>
  intro vs w
  rw [List.map_cons] at w
  cases w with
  | cons a b=>
   cases a
   exact .cons _ _ (ih _ b)
theorem zkg {l:OpenLaw} {n:Nat} (hn:l.most=some n) {P:Params} {h:Heap} {args:List WData} {vals:List Value}
  (hpre:l.row.toRowW.claim.pre args=true) (hwl:WellAll P h vals args) :
  ∃a vs ns,vals=[Value.ref a]/\args=[WData.list (ns.map WData.int)]/\h.get? a=some { cls:=.type "list",data:=.seq vs.toArray }/\IntsAre vs ns/\ns.length<=n:=by
 have hsh:WShape.hasAll [] args [.list .int]=true:=(pre_splitW hpre).1
 have hc:l.pre.holds [] { args:=args }=true:=(pre_splitW hpre).2
 obtain ⟨d,r,rfl,h1,h2⟩:=hasAllW_cons hsh
 obtain rfl:=hasAllW_nil h2
 obtain ⟨xs,rfl,h3⟩:=hasW_list h1
 obtain ⟨ns,rfl⟩:=items_int h3
 have hlen:ns.length<=n:=by
  unfold OpenLaw.pre at hc
  have h4:(WTm.not (.lt (.lit (.int (n:Int))) (.len (.arg 0)))).holds [] { args:=[.list (ns.map .int)] }=true:=by
   have h4:=(holds_andW hc).1
   rw [hn] at h4
   exact h4
  have h5:=condW_of h4 (w_not (w_lt w_lit (w_len_list (w_arg rfl))))
  rw [List.length_map] at h5
  refine Nat.le_of_not_lt fun q=>?_
  have q':(n:Int) < ((ns.length:Nat):Int):=by omega
  first
   | (rw [decide_eq_true q'] at h5; exact absurd h5 (by decide))
   | (simp at h5; omega)
 cases hwl with
 | cons w1 w2=>
  cases w2
  cases w1 with
  | list ho hall=>exact ⟨_,_,ns,rfl,rfl,ho,zfN ns _ hall,hlen⟩
theorem zkB (l:OpenLaw) (args:List WData):l.row.toRowW.claim.post args (.bool true) args=true:=
 postW_of (r:=l.row.toRowW) (X:=(true == true))
  (show WShape.has [] (.bool true) .bool=true by first | rfl | decide | simp [WShape.has,WShape.arms,WShape.armsAll])
  (show (WTm.eq .res (.lit (.bool true))).value [] { args:=args,res:=some (.bool true),after:=args }=some (.bool (true == true)) from w_eq_bool (w_res rfl) w_lit) rfl
theorem attach_call {l:OpenLaw} {n:Nat} {q:Program} {loose:List Str} {XP:(Str->Option Value)->Heap->Prop} {YP:World->Heap->Prop} {d:DefRec}
  (hn:l.most=some n) (hdf:d.params.defaults=[])
  (call:∀(w:World) (s₀ s₁:Shared) (mg mb:Str->Option Value) (fa:Addr) (o:Obj) (pm cd doc:Value) (a:Addr) (vs:List Value) (ns:List Int),
   Ground q loose [] XP w s₀ mg mb s₁.heap->YP w s₁.heap ->
   s₁.heap.get? fa=some o->o.data=.func (docDef d.name d.params d.body d.scope pm cd doc)->s₁.heap.CodeRec cd d.name->mg d.name=some (.ref fa) ->
   s₁.heap.get? a=some { cls:=.type "list",data:=.seq vs.toArray }->IntsAre vs ns->ns.length<=n->s₁.gens = #[] ->
   codeAny (model l.prog w) callerA (.call (.ref fa) ⟨[.ref a],[]⟩) (fun r s'=>r=.ok (.ret (.bool true))/\OldK s₁.heap s'.heap/\s'.os=s₁.os/\AllBare s'.gens) s₁) :
  WalkO q loose XP YP l.row.toRowW d [] (fun f vs=>PySem.call f vs):=by
 intro w s₀ s₁ mg mb G Y fa o pm cd doc dV kV ho hd hcd hD hmg hg args vals as hpre hlay hrd hwl hlo
 obtain rfl:dV=.none:=Dflts.none hD hdf
 obtain rfl:kV=.none:=Dflts.noKw hD
 obtain ⟨a,vs,ns,rfl,rfl,hobj,hints,hlen⟩:=zkg hn hpre hwl
 refine enter_call (codeAny_mono (call w s₀ s₁ mg mb fa o pm cd doc a vs ns G Y ho (fd_plain hd) hcd hmg hobj hints hlen hg) fun r s' hq=>?_)
 obtain ⟨rfl,h2,h3,h4⟩:=hq
 exact ⟨.inl ⟨.bool true,.bool true,[],rfl,fun _=>rfl,.bool true,zkB l _,fun _=>⟨List.Pairwise.nil,fun _ hm=>(nomatch hm)⟩⟩,h2,h3,h4⟩
end Att
namespace L2
open PySem PySem.Spec PyProof.Rows
theorem zhg:∀{vs:List Value} {ns:List Int},IntsAre vs ns->Vals (ns.map V.int) vs
 | _,_,.nil=>.nil
 | _,_,.cons n t h=>.cons ⟨t,rfl⟩ (zhg h)
noncomputable def Only (H:Hp):Prop:=∀b,H b=none\/∃o xs,H b=some (.frz o (.lst xs))
theorem zm4 {P:Program} {w:World} {K:W.Frag} {mg mb:Str->Option Value} {CX:CXT} {k:Nat} {fa a:Addr} {fd:FuncData} {x:Str} {sp:Sp} {s₁:Shared} {vs:List Value} {ns:List Int}
  (KX:K.In s₁.heap) (hns:s₁.heap.Ns mainGlobals mg) (hb:s₁.heap.Ns builtinsNs mb) (hbb:∀x:Str,x≠"__name__"->mb x=bootBuiltins x) (hlim:s₁.heap.NoLimit) (hg:s₁.gens = #[])
  (ha:s₁.heap.get? a=some { cls:=.type "list",data:=.seq vs.toArray }) (hi:IntsAre vs ns) (hl:ns.length<=sizeLine) (hr:Room k callerA)
  (F:∀base:Heap,K.In base->base.Ns mainGlobals mg->FnOk P w K mg base CX k fa fd [x] sp) (hbind:∀(s:Shared) (u:Value),BindsTo s fd ⟨[u],[]⟩ [(x,u)])
  (hsp:∀H:Hp,Only H->SqL K H a (ns.map V.int)->sp [.ref a] H (fun v _=>v=.bl true) fun _ _ _=>False)
  (hCX:∀H e s',CX [] H s₁ (fun _ _ _=>False) e s'->False) :
  codeAny (model P w) callerA (.call (.ref fa) ⟨[.ref a],[]⟩) (fun r s'=>r=.ok (.ret (.bool true))/\OldK s₁.heap s'.heap/\s'.os=s₁.os/\AllBare s'.gens) s₁:=by
 have rv:=zhg hi
 have lenV:=hi.length
 have core:∀H:Hp,Only H->SqL K H a (ns.map V.int)->HOk P w H s₁.heap->(∀b,H b≠none->b=a)->(H a≠none->K.lookup a=none) ->
   codeAny (model P w) callerA (.call (.ref fa) ⟨[.ref a],[]⟩) (fun r s'=>r=.ok (.ret (.bool true))/\OldK s₁.heap s'.heap/\s'.os=s₁.os/\AllBare s'.gens) s₁:=by
  intro H hO hS hok hA hK
  have base_of:∀{b:Addr} {o:Obj},s₁.heap.get? b=some o->H b=none->(hidT s₁.heap H).get? b=some o:=fun e n=>zm9 e n
  have noA:∀{b:Addr} {o:Obj} {es:Array DictEntry} {ep:Nat},s₁.heap.get? b=some o->o.data=.dict es ep->H b=none:=fun {b o es ep} e d=>by
   cases q:H b with
   | none=>rfl
   | some u=>
    have e':b=a:=hA b (by rw [q]; simp)
    subst e'
    rw [ha] at e; cases e
    have d':Data.seq vs.toArray _=Data.dict es ep:=d
    cases d'
  have nsK:∀{b:Addr} {m:Str->Option Value},s₁.heap.Ns b m->(hidT s₁.heap H).Ns b m:=fun {b m} ⟨o,es,ep,e,d,r⟩=>⟨o,es,ep,base_of e (noA e d),d,r⟩
  have hKb:K.In (hidT s₁.heap H):=fun b o e=>base_of (KX b o e) (by
   cases q:H b with
   | none=>rfl
   | some u=>
    have e':b=a:=hA b (by rw [q]; simp)
    subst e'
    rw [hK (by rw [q]; simp)] at e; cases e)
  have hM:Mod K mg (hidT s₁.heap H):=⟨hKb,nsK hns,⟨mb,nsK hb,hbb⟩,let ⟨mc,h1,h2⟩:=hlim; ⟨mc,nsK h1,h2⟩⟩
  have e0:Env0 P w K mg (hidT s₁.heap H) callerA [] s₁ H:=⟨rfl,hM,fun b o e=>zpi e,Nat.le_of_eq (zlr _ _),trivial,fun b hb=>absurd (show b∈([]:List Addr) from hb) (by simp),hok,.of_eq hg⟩
  refine codeAny_mono ((F _ hKb (nsK hns)).run callerA [] s₁ H ⟨[.ref a],[]⟩ [.ref a] [.ref a] _ _ hr e0 (hbind s₁ (.ref a)) (.cons rfl .nil) (hsp H hO hS)) fun r s' h=>?_
  cases r with
  | error e=>exact (hCX H e s' h).elim
  | ok fl=>
   cases fl with
   | next=>exact False.elim h
   | brk=>exact False.elim h
   | cont=>exact False.elim h
   | ret u=>
    obtain ⟨v,H',os,bare,un,hok',r',q⟩:=h
    have q':v=.bl true:=q
    subst q'
    obtain rfl:u=Value.bool true:=r'
    refine ⟨rfl,OldK.of_keep fun b o e=>?_,os,bare⟩
    cases q:H b with
    | none=>exact un.keep b o e q (by intro z; exact absurd (show b∈([]:List Addr) from z) (by simp)) (by simp)
    | some u=>
     rcases hO b with z | ⟨ob,xs,z⟩
     ·rw [q] at z; cases z
     ·have z2:=un.frzs b ob _ z
      obtain ⟨e1,_⟩:=hok b _ z
      obtain ⟨e2,_⟩:=hok' b _ z2
      rw [e] at e1; cases e1
      exact e2
 cases hk:K.lookup a with
 | some o=>
  have e:=KX a o hk
  rw [ha] at e
  cases e
  refine core (fun _=>none) (fun _=>.inl rfl) (.inr ⟨_,vs.toArray,_,hk,rfl,rfl,rfl,by rw [List.size_toArray,lenV]; exact hl,by simpa using rv⟩) (fun b u z=>by have z':(none:Option HO)=some u:=z; cases z') (fun b z=>absurd rfl z) fun z=>absurd rfl z
 | none=>
  refine core (fun b=>if b=a then some (.frz { cls:=.type "list",data:=.seq vs.toArray } (.lst (ns.map V.int))) else none) (fun b=>?_) (.inl (.inr ⟨{ cls:=.type "list",data:=.seq vs.toArray },if_pos rfl⟩)) (fun b u z=>?_) (fun b z=>?_) fun _=>hk
  ·by_cases hb:b=a
   ·exact .inr ⟨_,_,if_pos hb⟩
   ·exact .inl (if_neg hb)
  ·by_cases hb:b=a
   ·have z':=(if_pos hb).symm.trans z
    cases z'
    subst hb
    exact ⟨ha,by rw [List.length_map]; exact hl,vs,_,rv,ha⟩
   ·have z':=(if_neg hb).symm.trans z
    cases z'
  ·by_cases hb:b=a
   ·exact hb
   ·exact absurd (if_neg hb) z
noncomputable abbrev KOf {K:W.Frag} {h:Heap} (_:K.In h):W.Frag:=K
theorem walk_of {l:W.OpenLaw} {n k:Nat} {q:Program} {loose:List Str} {XP:(Str->Option Value)->Heap->Prop} {YP:World->Heap->Prop} {d:DefRec} {K:Params->W.Frag} {CX:World->CXT} {sp:World->Sp} {x:Str}
  (hn:l.most=some n) (hn2:n<=sizeLine) (hdf:d.params.defaults=[]) (hr:Room k callerA)
  (hY:∀(w:World) (h:Heap),YP w h->(K w.params).In h)
  (F:∀(w:World) (mg:Str->Option Value) (fa:Addr) (h:Heap),(K w.params).In h->h.Ns mainGlobals mg->mg d.name=some (.ref fa) ->
   ∃fd:FuncData,(∀(s:Shared) (u:Value),BindsTo s fd ⟨[u],[]⟩ [(x,u)]) /\
    ∀base:Heap,(K w.params).In base->base.Ns mainGlobals mg->FnOk l.prog w (K w.params) mg base (CX w) k fa fd [x] (sp w))
  (hsp:∀(w:World) (H:Hp) (a:Addr) (ns:List Int),ns.length<=n->Only H->SqL (K w.params) H a (ns.map V.int)->sp w [.ref a] H (fun v _=>v=.bl true) fun _ _ _=>False)
  (hCX:∀(w:World) (H:Hp) (s:Shared) (e:Value) (s':Shared),CX w [] H s (fun _ _ _=>False) e s'->False) :
  W.WalkO q loose XP YP l.row.toRowW d [] (fun f vs=>PySem.call f vs):=by
 refine Att.attach_call hn hdf fun w s₀ s₁ mg mb fa o pm cd doc a vs ns G Y ho hd hcd hmg hobj hints hlen hg=>?_
 have KX:=hY w _ Y
 obtain ⟨fd,hb,hF⟩:=F w mg fa _ KX G.T.g hmg
 exact zm4 KX G.T.g G.T.b G.T.builtins G.T.nolimit hg hobj hints (Nat.le_trans hlen hn2) hr hF hb (fun H hO hS=>hsp w H a ns hlen hO hS) fun H e s'=>hCX w H s₁ e s'
noncomputable def zdB (s:Stmt):Arguments:=match s with
 | .FunctionDef _ a _ _ _ _ _ _ _ _=>a
 | _=>{ posonlyargs:=[],args:=[],vararg:=none,kwonlyargs:=[],kw_defaults:=[],kwarg:=none,defaults:=[] }
noncomputable def zcu (s:Stmt):List Stmt:=match s with
 | .FunctionDef _ _ b _ _ _ _ _ _ _=>b
 | _=>[]
noncomputable def zac (s:Stmt):Scope:=match s with
 | .FunctionDef _ _ _ _ _ _ sc _ _ _=>sc
 | _=>{ kind:=.function,names:=[],isGenerator:=false,isCoroutine:=false }
noncomputable abbrev CX0:CXT:=fun _ _ _ _ _ _=>False
noncomputable abbrev E0:XK:=fun _ _ _=>False
theorem zsT {X:Cx}:zl8 CX0 X E0:=fun _ _ _ _ _ _ _ h=>h.elim
structure Fun (K:W.Frag) (x qual:Str) (st:Stmt) (f:Addr) (fd:FuncData):Prop where
 ex:∃(oc:Value) (od:Option Addr) (kV doc pm:Value) (an:Option Addr) (cdv ct:Value) (osl:Array (Option Value)),
  fd=W.fnOf x qual (zdB st) (zcu st) (zac st) .none kV doc pm an cdv ct/\K.lookup f=some ⟨oc,od,.func fd,osl⟩/\W.codeIn K cdv qual=true
 kp:W.keepIn K (.ref f)=true
section
variable {P:Program} {w:World} {K:W.Frag} {mg:Str->Option Value} {base:Heap}
theorem Fun.ok {x qual:Str} {st:Stmt} {f:Addr} {fd:FuncData} {N ps:List Str} {k:Nat} {sp:Sp} (F:Fun K x qual st f fd) (S:FnScope N ps (zac st)) (len:∀vs H Q E,sp vs H Q E->vs.length=ps.length)
  (hbody:∀(cdv:Value) (A:Around) (outer:List Env) (s:Shared) (H:Hp) (vs:List V) (Q:VK) (E:XK),Room k (A.deeper (envOfC qual (zac st) s.heap.objs.size f cdv))->sp vs H Q E ->
   ∃t,PSs (cxOf CX0 P w K mg base N qual (zac st) f cdv A outer s H E).nox (zcu st) t/\t { nx:=fun _ H'=>Q .non H',rt:=Q } (start N vs) H):FnOk P w K mg base CX0 (k + 1) f fd ps sp:=by
 obtain ⟨oc,od,kV,doc,pm,an,cdv,ct,osl,rfl,lk,hcd⟩:=F.ex
 refine ztb lk hcd S len fun A outer s H vs Q E hr hsp=>?_
 obtain ⟨t,h,q⟩:=hbody cdv A outer s H vs Q E hr hsp
 exact ⟨t,h.nox,q⟩
theorem Fun.binds {x qual:Str} {st:Stmt} {f:Addr} {fd:FuncData} {ps:List Str} (F:Fun K x qual st f fd)
  (h:∀(kV doc pm:Value) (an:Option Addr) (cdv ct:Value) (us:List Value),us.length=ps.length->bindArgs (W.fnOf x qual (zdB st) (zcu st) (zac st) .none kV doc pm an cdv ct) ⟨us,[]⟩=pure (ps.zip us)):zgc K fd ps []:=by
 obtain ⟨oc,od,kV,doc,pm,an,cdv,ct,osl,rfl,lk,hcd⟩:=F.ex
 exact .all (h kV doc pm an cdv ct)
theorem zrT {x qual:Str} {st:Stmt} {f:Addr} {oc:Value} {od an:Option Addr} {osl:Array (Option Value)} {kV doc pm cdv ct:Value} (l:K.lookup f=some ⟨oc,od,.func (W.fnOf x qual (zdB st) (zcu st) (zac st) .none kV doc pm an cdv ct),osl⟩)
  (c:W.codeIn K cdv qual=true) (k:W.keepIn K (.ref f)=true):Fun K x qual st f (W.fnOf x qual (zdB st) (zcu st) (zac st) .none kV doc pm an cdv ct):=⟨⟨oc,od,kV,doc,pm,an,cdv,ct,osl,rfl,l,c⟩,k⟩
end
theorem zbd {A:Around} {k:Nat} (hr:Room k A):A.units + 1 < cLine:=Nat.lt_of_le_of_lt (Nat.add_le_add_left (by decide:1<=64) _) hr.units
section
variable {X:Cx}
theorem zlU:zc9 X (.builtin "len") (fun xs H Q=>∃a kvs,xs=[V.ref a]/\Rd H a (.dK kvs)/\Q (.int kvs.length) H):=by
 intro pins s σ H xs us Q I r h
 obtain ⟨a,kvs,rfl,ha,q⟩:=h
 obtain ⟨u,rfl,ru⟩:=zeI r
 cases ru
 exact ztg I ha fun t s' I'=>⟨.int kvs.length,H,I',⟨t,rfl⟩,q⟩
end
noncomputable def Same (H H':Hp):Prop:=∀b o,H b=some o->H' b=some o
theorem Same.refl (H:Hp):Same H H:=fun _ _ h=>h
theorem Same.trans {H H1 H2:Hp} (a:Same H H1) (b:Same H1 H2):Same H H2:=fun c o h=>b c o (a c o h)
theorem Same.free {H H':Hp} (e:Same H H') {l:Addr} (h:H' l=Option.none):H l=Option.none:=by
 cases q:H l with
 | none=>rfl
 | some o=>
  rw [e l o q] at h
  cases h
theorem Same.seq {K:W.Frag} {H H':Hp} {a:Addr} {xs:List V} (e:Same H H') (h:SqL K H a xs):SqL K H' a xs:=by
 rcases h with (h | ⟨o,h⟩) | h
 ·exact .inl (.inl (e _ _ h))
 ·exact .inl (.inr ⟨o,e _ _ h⟩)
 ·exact .inr h
end L2
end
namespace DL
open PySem
section
open PySem.SeqAt
open PySem.AutoSeq1 (wpAny_loadPart')
open PySem.MeetsSeq PySem.MeetsSeq2 PySem.MeetsSeq3
noncomputable def zlk (items:Array Value) (x:Value):Nat->Option Fin × Unit->Sem (ForInStep (Option Fin × Unit)):=fun i _=>match items[i]? with
 | some y=>do
  let c <-eqBool y x
  if c=true then do
    let r <-retInt i
    pure (ForInStep.done (some r,()))
   else pure (ForInStep.yield (none,()))
 | _=>pure (ForInStep.yield (none,()))
theorem zpu {prog:Program} {w:World} {A:Around} {E:Value->Shared->Prop} {s:Shared} {items:Array Value} {x:Value} {e:Value->Bool} {j:Nat} (hj:j < items.size) (hit:e items[j]=true) (he:∀y,y∈items->EqAt A s y x (e y))
  {Q:Option Fin × Unit->Shared->Prop} (hq:Q (some (.done (.ret (.int j s.toks))),()) { s with toks:=s.toks + 1 }) :
  ∀(k i:Nat),j=i + k->(∀m (hm:m < items.size),i<=m->m < j->e items[m]=false)->wpAny (model prog w) A (forIn (List.range' i (items.size - i)) (none,()) (zlk items x)) Q E s:=by
 intro k
 induction k with
 | zero=>
  intro i hk _
  obtain rfl:j=i:=by omega
  obtain ⟨r,hr⟩:∃r,items.size - j=r + 1:=⟨items.size - j - 1,by omega⟩
  rw [hr,List.range'_succ,List.forIn_cons]
  refine wpAny_bind ?_
  unfold zlk
  rw [show items[j]? = some items[j] by simp [hj]]
  refine wpAny_bind (he _ (Array.getElem_mem hj) prog w _ _ ?_)
  rw [hit,if_pos rfl]
  refine wpAny_bind (m:=retInt j) ?_
  unfold retInt
  wp_walk
  exact hq
 | succ k ih=>
  intro i hk hno
  have hi:i < items.size:=by omega
  obtain ⟨r,hr⟩:∃r,items.size - i=r + 1:=⟨items.size - i - 1,by omega⟩
  rw [hr,List.range'_succ,List.forIn_cons]
  refine wpAny_bind ?_
  unfold zlk
  rw [show items[i]? = some items[i] by simp [hi]]
  refine wpAny_bind (he _ (Array.getElem_mem hi) prog w _ _ ?_)
  rw [hno i hi (Nat.le_refl _) (by omega),if_neg Bool.false_ne_true]
  refine wpAny_pure ?_
  have:=ih (i + 1) (by omega) (fun m hm h1 h2=>hno m hm (by omega) h2)
  rw [show items.size - (i + 1)=r by omega] at this
  exact this
theorem zgy (l:Addr) (items:Array Value) (n:Nat) (dd:Option Addr) (sl:Array (Option Value)) (x:Value) (e:Value->Bool) (j:Nat) (hj:j < items.size)
  (hit:e items[j]=true) (hno:∀m (hm:m < items.size),m < j->e items[m]=false) :
  Meets (Builtin.«tuple.index» ⟨[.ref l,x],[]⟩)
   (fun A R s=>s.heap.get? l=some { cls:=.type "tuple",dict:=dd,data:=.seq items n,slots:=sl }/\(∀y,y∈items->EqAt A.in1 s y x (e y))/\R (.ok (.ret (.int j s.toks))) { s with toks:=s.toks + 1 }):=by
 intro prog w A R s h
 obtain ⟨hp,g,d,tk,os⟩:=s; obtain ⟨hl,he,h⟩:=h
 unfold Builtin.«tuple.index»
 simp only [Std.Legacy.Range.forIn_eq_forIn_range']
 generalize hF : @forIn Sem (List Nat) Nat _ (Option Fin × Unit)=F
 wp_walk using wpAny_loadPart' hl
 subst hF
 rw [show ([:min items.size items.size]:Std.Legacy.Range).size=items.size - 0 by simp [Std.Legacy.Range.size]]
 refine zpu hj hit he ?_ j 0 (by omega) (fun m hm _ h2=>hno m hm h2)
 exact wpAny_pure h
end
end DL
namespace DL
open PySem PyProof.Rows
end DL
namespace DL
open PySem PyProof.Rows PySem.W
noncomputable def zn5 {α:Type} (c:Nat->Nat->Bool):KasT α->α
 | .ret a=>a
 | .ask i j k=>zn5 c (k (c i j))
inductive Asks (n:Nat) {α:Type} (P:α->Prop):KasT α->Prop where
 | ret {a:α}:P a->Asks n P (.ret a)
 | ask {i j:Nat} {k:Bool->KasT α}:i < n->j < n->(∀b,Asks n P (k b))->Asks n P (.ask i j k)
theorem Asks.bind {n:Nat} {α β:Type} {P:α->Prop} {P':β->Prop} {t:KasT α} {f:α->KasT β} (h:Asks n P t) (hf:∀a,P a->Asks n P' (f a)):Asks n P' (t.bind f):=by
 induction h with
 | ret h=>exact hf _ h
 | ask h1 h2 _ ih=>exact .ask h1 h2 ih
theorem Asks.run {n:Nat} {α:Type} {P:α->Prop} {t:KasT α} (h:Asks n P t) (c:Nat->Nat->Bool):P (zn5 c t):=by
 induction h with
 | ret h=>exact h
 | ask _ _ _ ih=>exact ih _
theorem Asks.mono {n:Nat} {α:Type} {P P':α->Prop} {t:KasT α} (h:Asks n P t) (hp:∀a,P a->P' a):Asks n P' t:=by
 induction h with
 | ret h=>exact .ret (hp _ h)
 | ask h1 h2 _ ih=>exact .ask h1 h2 ih
noncomputable def zl7 (n:Nat) (p:Array Nat):Prop:=p.toList.Perm (List.range n)
theorem zl7.bd {n:Nat} {p:Array Nat} (h:zl7 n p) (hn:0 < n) (k:Nat):p.getD k 0 < n:=by
 by_cases hk:k < p.size
 ·have e:p.getD k 0=p[k]:=by simp [Array.getD,hk]
  rw [e]
  exact List.mem_range.mp (h.mem_iff.mp (by simp))
 ·have e:p.getD k 0=0:=by simp [Array.getD,hk]
  rw [e]; exact hn
theorem zl7.rev {n:Nat} {p:Array Nat} (h:zl7 n p) (i j:Nat):zl7 n (kas_rev p i j):=(Array.perm_iff_toList_perm.mp (mirror_perm p i j ((j - i) / 2))).trans h
section
variable {n:Nat} (hn:0 < n)
include hn
end
end DL
namespace DL
open PySem PyProof.Rows PySem.W PySem.Calls
end DL
namespace DL
open PySem PySem.Spec PyProof.Rows L2 PySem.W PySem.Calls
structure Lft (fr:List Addr) (a:Addr) (oe:Obj) (vs:Array Value) (T:Option Addr) (v:Value) (h h':Heap):Prop where
 keep:∀b o,b∉fr->b≠a->T≠some b->h.get? b=some o->h'.get? b=some o
 slot:∀b o,h.get? b=some o->(∀vs:Array Value,o.data≠Data.fields vs)->∃sl,h'.get? b=some { cls:=o.cls,dict:=o.dict,data:=o.data,slots:=sl }
 obj:∃tb ot ts,(h.get? tb=none\/T=some tb)/\tb≠a/\h'.get? a=some { cls:=oe.cls,dict:=oe.dict,data:=.fields (vs.setIfInBounds 1 (.ref tb)),slots:=oe.slots }/\h'.get? tb=some ot/\ot.data=.fields ts/\ts[3]? = some v
noncomputable def ztn (h B:Heap) (a:Addr) (cls:Value) (od L:Option Addr):Prop:=
 ∃oe vs,h.get? a=some oe/\oe.cls=cls/\(∀dx,od=some dx->oe.dict=some dx)/\oe.data=.fields vs /\
  (vs[1]? = some Value.none\/(∃T oT ts,vs[1]? = some (.ref T)/\B.get? T=none/\T≠a/\h.get? T=some oT/\oT.data=.fields ts/\ts[3]? = some Value.none) \/
   ∃l T oT ts,L=some l/\vs[1]? = some (.ref T)/\B.get? T=none/\T≠a/\h.get? T=some oT/\oT.data=.fields ts/\ts[3]? = some (rawInt ↑l))
noncomputable def topF (st:List Env):Option Addr:=st.head?.bind (·.frame)
structure Fly (P:Program) (w:World) (st:List Env) (H:Hp) (s:Shared) (H':Hp) (a:Addr) (cls:Value) (od:Option Addr) (s':Shared):Prop where
 os:s'.os=s.os
 bare:AllBare s'.gens
 un:Un (frs st) [] H H' s.heap s'.heap
 hok:HOk P w H' s'.heap
 ex:∃B:Heap,B.StaysIn s'.heap/\B.get? a=none/\s'.heap.FunFrames B st/\ztn s'.heap B a cls od (topF st) /\
  (∀b o,s.heap.get? b=some o->b∉frs st->∃o',B.get? b=some o')/\∀b u,H' b=some u->∃o',B.get? b=some o'
noncomputable def CXR (P:Program) (w:World):CXT:=fun outer H s E e s'=>∃a cls H' od,e=.ref a/\Fly P w outer H s H' a cls od s'/\E cls od H'
theorem zrc {P:Program} {w:World} {H:Hp} {h:Heap} {a:Addr} {o:HO} (x:za8 P w H h a o):∃u,h.get? a=some u:=by
 cases o with
 | lst xs=>obtain ⟨_,_,_,_,e⟩:=x; exact ⟨_,e⟩
 | tup xs=>obtain ⟨_,_,_,_,o,e,_⟩:=x; exact ⟨_,e⟩
 | dK kvs=>obtain ⟨_,_,_,_,o,_,_,e,_⟩:=x; exact ⟨_,e⟩
 | dT kvs=>obtain ⟨_,_,_,_,o,_,_,e,_⟩:=x; exact ⟨_,e⟩
 | set S n=>obtain ⟨o,_,_,_,e,_⟩:=x; exact ⟨_,e⟩
 | ins C dx fs=>obtain ⟨_,_,_,e,_⟩:=x; exact ⟨_,e⟩
 | own y=>exact x
 | xd fs=>obtain ⟨_,⟨_,_,_,e,_⟩,_⟩:=x; exact ⟨_,e⟩
 | rng lo hi=>obtain ⟨_,_,_,e⟩:=x; exact ⟨_,e⟩
 | frz ob u=>obtain ⟨e,_⟩:=x; exact ⟨_,e⟩
 | tbl ps=>exact ⟨_,(show h.get? a=some _ from x)⟩
 | met f y=>exact ⟨_,(show h.get? a=some _ from x)⟩
 | ext φ=>exact x.2.1
noncomputable abbrev vErr:List Value:=[Value.type "ValueError",Value.type "Exception",Value.type "BaseException",Value.type "object"]
structure XC (K:W.Frag) (mg:Str->Option Value) (x:Str) (C:Addr):Prop where
 bound:mg x=some (.ref C)
 exc:excIn K C vErr "ValueError.__new__" = true
section
variable {X:Cx} {pins:List (Addr × Obj)} {σ:L2.St} {H:Hp} {s:Shared} {x:Str} {C:Addr} {np cpos pos:Pos} {e₀:Expr} {rest:List Expr} {t:TA}
theorem Fly.made {h':Heap} {e:Addr} {cls:Value} {vs:List Value} (I:Inv X pins σ H s) (m:s.heap.MadeExcOf h' e cls vs):Fly X.prog X.w X.stack H s H e cls none { heap:=h',gens:=s.gens,drawn:=s.drawn,toks:=s.toks,os:=s.os }:=by
 obtain ⟨t,m1,m2,m3⟩:=m.there
 have hst:∀b o,(hideAll s.heap (frs X.stack)).get? b=some o->h'.get? b=some o:=fun b o e=>m.keeps b o (of_hideAll _ e)
 refine ⟨rfl,I.bare,Un.kept m.keeps,I.hok.kept m.keeps,hideAll s.heap (frs X.stack),hst,?_,?_,⟨_,_,m1,rfl,(fun _ e=>nomatch e),rfl,.inl rfl⟩,fun b o e n=>⟨o,hideAll_get _ e n⟩,fun b u e=>?_⟩
 ·cases q:(hideAll s.heap (frs X.stack)).get? e with
  | none=>rfl
  | some o=>have:=of_hideAll _ q; rw [m.new] at this; cases this
 ·have ff:=I.stack
  have key:∀l:List Env,(∀b∈frs l,b∈frs X.stack)->s.heap.FunFrames X.base l->h'.FunFrames (hideAll s.heap (frs X.stack)) l:=by
   intro l
   induction l with
   | nil=>intro _ _; unfold Heap.FunFrames; trivial
   | cons env l ih=>
    intro hs hf
    unfold Heap.FunFrames at hf ⊢
    obtain ⟨f1,⟨L,o,f2,f3,f4,f5⟩,f6⟩:=hf
    refine ⟨f1,⟨L,o,f2,hideAll_none _ (hs L ?_),m.keeps _ _ f4,f5⟩,ih (fun b hb=>hs b ?_) f6⟩
    ·unfold frs; rw [List.filterMap_cons,f2]; exact List.mem_cons_self
    ·unfold frs; rw [List.filterMap_cons,f2]; exact List.mem_cons_of_mem _ hb
  exact key X.stack (fun _ hb=>hb) ff
 ·obtain ⟨o,eo⟩:=zrc (I.hok b u e)
  exact ⟨o,hideAll_get _ eo fun z=>by rw [I.stkFree b z] at e; cases e⟩
end
end DL
namespace DL
open PySem PySem.Spec PyProof.Rows L2
inductive D where
 | non | bl (b:Bool) | int (i:Int) | str (x:Str)
 | tup (ds:List D) | lst (ds:List D)
 | dic (kvs:List (Key × D))
 | obj (c:Nat) (fs:List (Str × D))
instance:Inhabited D:=⟨.non⟩
inductive Res (α:Type) where
 | ok (a:α) | exc (x:D) | stuck
noncomputable def Res.bind {α β:Type} (r:Res α) (f:α->Res β):Res β:=match r with
 | .ok a=>f a
 | .exc x=>.exc x
 | .stuck=>.stuck
@[simp] theorem bind_ok {α β:Type} (a:α) (f:α->Res β):(Res.ok a).bind f=f a:=rfl
@[simp] theorem bind_exc {α β:Type} (x:D) (f:α->Res β):(Res.exc x:Res α).bind f=.exc x:=rfl
@[simp] theorem bind_stuck {α β:Type} (f:α->Res β):(Res.stuck:Res α).bind f=.stuck:=rfl
noncomputable def fin {α:Type} (r:Res α) (q:α->Prop) (x:D->Prop):Prop:=match r with
 | .ok a=>q a
 | .exc e=>x e
 | .stuck=>False
theorem zai {α:Type} {r:Res α} {q q':α->Prop} {x:D->Prop} (h:fin r q x) (hq:∀a,q a->q' a):fin r q' x:=by
 cases r with
 | ok a=>exact hq a h
 | exc e=>exact h
 | stuck=>exact h
theorem zah {α β:Type} {r:Res α} {f:α->Res β} {q:β->Prop} {x:D->Prop} (h:fin (r.bind f) q x):fin r (fun a=>fin (f a) q x) x:=by
 cases r with
 | ok a=>exact h
 | exc e=>exact h
 | stuck=>exact h
noncomputable abbrev GH:=Addr->Option D
inductive Scl:V->D->Prop where
 | non:Scl .non .non
 | bl (b:Bool):Scl (.bl b) (.bl b)
 | int (i:Int):Scl (.int i) (.int i)
 | str (x:Str):Scl (.str x) (.str x)
inductive KC (K:W.Frag) (a:Addr):D->Prop where
 | lst {xs:List V} {ds:List D}:SqL K (fun _=>none) a xs->Paired Scl xs ds->KC K a (.lst ds)
 | tup {xs:List V} {ds:List D}:SqT K (fun _=>none) a xs->Paired Scl xs ds->(∃o,K.lookup a=some o/\o.cls=.type "tuple"/\o.dict=none)->KC K a (.tup ds)
inductive RG (K:W.Frag) (G:GH):V->D->Prop where
 | scl {v:V} {d:D}:Scl v d->RG K G v d
 | ref {a:Addr} {d:D}:G a=some d->RG K G (.ref a) d
 | kc {a:Addr} {d:D}:KC K a d->RG K G (.ref a) d
noncomputable abbrev RGs (K:W.Frag) (G:GH):List V->List D->Prop:=Paired (RG K G)
noncomputable abbrev RKs (K:W.Frag) (G:GH):List (Key × V)->List (Key × D)->Prop:=Paired fun p q=>p.1=q.1/\RG K G p.2 q.2
noncomputable abbrev xD (nm:Str) (ds:List (Str × D)):D:=.obj 0 (("__class__",.str nm)::ds)
noncomputable def XN (K:W.Frag) (nm:Str) (C:Addr):Prop:=∃o cd,K.lookup C=some o/\o.data=Data.cls cd/\cd.name=nm
noncomputable def XcO (a C:Addr) (od:Option Addr):Heap->Prop:=fun h=>∃oe vs,h.get? a=some oe/\oe.cls=.ref C/\(∀dx,od=some dx->oe.dict=some dx)/\oe.data=.fields vs
noncomputable def XF (G:GH) (od:Option Addr) (ds:List (Str × D)):Prop:=match od with
 | none=>ds=[]
 | some dx=>G dx=some (.obj 1 ds)
theorem XF.mono {G G':GH} {od:Option Addr} {ds:List (Str × D)} (h:XF G od ds) (ge:∀a d,G a=some d->G' a=some d):XF G' od ds:=by
 cases od with
 | none=>exact h
 | some dx=>exact ge _ _ h
noncomputable abbrev RFs (K:W.Frag) (G:GH):List (Str × V)->List (Str × D)->Prop:=Paired fun p q=>p.1=q.1/\RG K G p.2 q.2
inductive OB (K:W.Frag) (G:GH) (H:Hp) (a:Addr):D->Prop where
 | lst {xs:List V} {ds:List D}:Rd H a (.lst xs)->RGs K G xs ds->OB K G H a (.lst ds)
 | tup {xs:List V} {ds:List D}:Rd H a (.tup xs)->RGs K G xs ds->OB K G H a (.tup ds)
 | dic {ob:Obj} {ps:List (Key × V)} {kvs:List (Key × D)}:H a=some (.frz ob (.dK ps))->RKs K G ps kvs->OB K G H a (.dic kvs)
 | exc {nm:Str} {C:Addr} {od:Option Addr} {ds:List (Str × D)}:H a=some (.ext (XcO a C od))->XN K nm C->XF G od ds->OB K G H a (xD nm ds)
 | fld {fs:List (Str × V)} {ds:List (Str × D)}:H a=some (.xd fs)->RFs K G fs ds->OB K G H a (.obj 1 ds)
noncomputable def GOk (K:W.Frag) (G:GH) (H:Hp):Prop:=∀a d,G a=some d->OB K G H a d
inductive OwnO (K:W.Frag) (G:GH) (H:Hp) (a:Addr):D->Prop where
 | lst {xs:List V} {ds:List D}:H a=some (.lst xs)->RGs K G xs ds->OwnO K G H a (.lst ds)
 | dic {ps:List (Key × V)} {kvs:List (Key × D)}:H a=some (.dK ps)->RKs K G ps kvs->OwnO K G H a (.dic kvs)
structure Own (K:W.Frag) (G:GH) (H:Hp) (a:Addr) (d:D):Prop where
 un:G a=none
 ob:OwnO K G H a d
structure Grow (K:W.Frag) (G:GH) (H:Hp) (G':GH) (H':Hp):Prop where
 ok:GOk K G' H'
 he:∀a o,H a=some o->H' a=some o
 ge:∀a d,G a=some d->G' a=some d
 gf:∀a,H a≠none->G' a=G a
section
variable {K:W.Frag} {G G' G1 G2:GH} {H H' H1 H2:Hp} {a p:Addr} {d:D} {v:V}
theorem Rd.mono {u:HO} (h:Rd H a u) (he:∀a o,H a=some o->H' a=some o):Rd H' a u:=by
 rcases h with h | ⟨o,h⟩
 ·exact .inl (he _ _ h)
 ·exact .inr ⟨o,he _ _ h⟩
theorem Rd.isS {u:HO} (h:Rd H a u):H a≠none:=by
 rcases h with h | ⟨o,h⟩ <;> rw [h] <;> simp
theorem RG.mono (h:RG K G v d) (ge:∀a d,G a=some d->G' a=some d):RG K G' v d:=by
 cases h with
 | scl s=>exact .scl s
 | ref e=>exact .ref (ge _ _ e)
 | kc k=>exact .kc k
theorem RGs.mono {xs:List V} {ds:List D} (h:RGs K G xs ds) (ge:∀a d,G a=some d->G' a=some d):RGs K G' xs ds:=Paired.mono (fun _ _ r=>r.mono ge) h
theorem RKs.mono {xs:List (Key × V)} {ds:List (Key × D)} (h:RKs K G xs ds) (ge:∀a d,G a=some d->G' a=some d):RKs K G' xs ds:=Paired.mono (fun _ _ r=>⟨r.1,r.2.mono ge⟩) h
theorem OB.mono (h:OB K G H a d) (ge:∀a d,G a=some d->G' a=some d) (he:∀o,H a=some o->H' a=some o):OB K G' H' a d:=by
 have rd:∀{u:HO},Rd H a u->Rd H' a u:=fun r=>by
  rcases r with r | ⟨o,r⟩
  ·exact .inl (he _ r)
  ·exact .inr ⟨o,he _ r⟩
 cases h with
 | lst r s=>exact .lst (rd r) (s.mono ge)
 | tup r s=>exact .tup (rd r) (s.mono ge)
 | dic r s=>exact .dic (he _ r) (RKs.mono s ge)
 | exc r n f=>exact .exc (he _ r) n (f.mono ge)
 | fld r s=>exact .fld (he _ r) (Paired.mono (fun _ _ r=>⟨r.1,r.2.mono ge⟩) s)
theorem OB.isS (h:OB K G H a d):H a≠none:=by
 cases h with
 | lst r s=>exact Rd.isS r
 | tup r s=>exact Rd.isS r
 | dic r s=>rw [r]; simp
 | exc r n f=>rw [r]; simp
 | fld r s=>rw [r]; simp
theorem GOk.isN (g:GOk K G H) (h:H p=none):G p=none:=by
 cases e:G p with
 | none=>rfl
 | some d=>exact absurd h (g p d e).isS
theorem OwnO.isS (h:OwnO K G H a d):H a≠none:=by
 cases h with
 | lst r s=>rw [r]; simp
 | dic r s=>rw [r]; simp
theorem OwnO.mono (h:OwnO K G H a d) (ge:∀a d,G a=some d->G' a=some d) (he:∀o,H a=some o->H' a=some o):OwnO K G' H' a d:=by
 cases h with
 | lst r s=>exact .lst (he _ r) (s.mono ge)
 | dic r s=>exact .dic (he _ r) (RKs.mono s ge)
theorem Own.mono (h:Own K G H a d) (w:Grow K G H G' H'):Own K G' H' a d:=
 ⟨by rw [w.gf a h.ob.isS]; exact h.un,h.ob.mono w.ge fun o e=>w.he _ _ e⟩
noncomputable def fz (H:Hp) (a:Addr) (ob:Obj):Hp:=match H a with
 | some (.dK ps)=>upd H a (.frz ob (.dK ps))
 | _=>H
theorem zlv {b:Addr} {ob:Obj} (h:b≠a):fz H a ob b=H b:=by
 unfold fz
 cases e:H a with
 | none=>rfl
 | some u=>cases u <;> first | rfl | exact zao h
theorem zrR {xs:List V} {ob:Obj} (h:H a=some (.lst xs)):fz H a ob=H:=by
 unfold fz
 rw [h]
theorem zrS {ps:List (Key × V)} {ob:Obj} (h:H a=some (.dK ps)):fz H a ob a=some (.frz ob (.dK ps)):=by
 unfold fz
 rw [h]; exact zan
theorem OwnO.fast (h:OwnO K G H a d) (ob:Obj):OB K G (fz H a ob) a d:=by
 cases h with
 | lst r s=>rw [zrR r]; exact .lst (.inl r) s
 | dic r s=>exact .dic (zrS r) s
theorem GOk.fast (g:GOk K G H) (hn:G a=none) (ob:Obj):GOk K G (fz H a ob):=fun b d e=>by
 have hb:b≠a:=by rintro rfl; rw [hn] at e; cases e
 exact (g b d e).mono (fun _ _ z=>z) fun o z=>by rw [zlv hb]; exact z
theorem Grow.refl (g:GOk K G H):Grow K G H G H:=⟨g,fun _ _ e=>e,fun _ _ e=>e,fun _ _=>rfl⟩
theorem Grow.trans (x:Grow K G H G1 H1) (y:Grow K G1 H1 G2 H2):Grow K G H G2 H2:=
 ⟨y.ok,fun a o e=>y.he _ _ (x.he _ _ e),fun a d e=>y.ge _ _ (x.ge _ _ e),fun a h=>by
  have h1:H1 a≠Option.none:=by
   cases e:H a with
   | none=>exact absurd e h
   | some o=>rw [x.he _ _ e]; simp
  rw [y.gf a h1,x.gf a h]⟩
noncomputable def gset (G:GH) (a:Addr) (d:D):GH:=fun b=>if b=a then some d else G b
theorem zap:gset G a d a=some d:=if_pos rfl
theorem zaM {b:Addr} (h:b≠a):gset G a d b=G b:=if_neg h
theorem zaX (hn:G a=none):∀b e,G b=some e->gset G a d b=some e:=fun b e h=>by
 have:b≠a:=by rintro rfl; rw [hn] at h; cases h
 rw [zaM this]; exact h
theorem GOk.gset (g:GOk K G H) (hn:G a=none) (o:OB K G H a d):GOk K (gset G a d) H:=fun b e h=>by
 by_cases hb:b=a
 ·subst hb; rw [zap] at h; cases h
  exact o.mono (zaX hn) fun _ q=>q
 ·rw [zaM hb] at h
  exact (g b e h).mono (zaX hn) fun _ q=>q
theorem znH (hn:H p=none) {o:HO}:∀a u,H a=some u->upd H p o a=some u:=fun a u e=>by
 rw [zao (zbV e hn)]; exact e
theorem Grow.new (g:GOk K G H) (hn:H p=none) (o:HO):Grow K G H G (upd H p o):=
 ⟨fun a d e=>(g a d e).mono (fun _ _ q=>q) fun u q=>znH hn _ _ q,fun a u e=>znH hn _ _ e,fun _ _ e=>e,fun _ _=>rfl⟩
theorem Grow.newF (g:GOk K G H) (hn:H p=none) {o:HO} (ob:OB K G (upd H p o) p d):Grow K G H (gset G p d) (upd H p o):=by
 have w:=Grow.new g hn o
 have gn:=g.isN hn
 exact ⟨w.ok.gset gn ob,w.he,fun a e h=>zaX gn a e h,fun a h=>zaM (by rintro rfl; exact h hn)⟩
theorem Grow.frz (w:Grow K G H G' H') (hn:H a=none) (o:Own K G' H' a d) (ob:Obj):Grow K G H (gset G' a d) (fz H' a ob):=
 ⟨(w.ok.fast o.un ob).gset o.un (o.ob.fast ob),fun b u e=>by rw [zlv (by rintro rfl; rw [hn] at e; cases e)]; exact w.he b u e,fun b e h=>zaX o.un b e (w.ge b e h),fun b h=>by rw [zaM (by rintro rfl; exact h hn)]; exact w.gf b h⟩
theorem RG.lst {ds:List D} (g:GOk K G H) (h:RG K G v (.lst ds)):∃a xs,v=.ref a/\SqL K H a xs/\RGs K G xs ds:=by
 cases h with
 | scl s=>cases s
 | ref e=>
  cases g _ _ e with
  | lst r s=>exact ⟨_,_,rfl,.inl r,s⟩
 | kc k=>
  cases k with
  | lst r s=>
   refine ⟨_,_,rfl,?_,Paired.mono (fun _ _ z=>.scl z) s⟩
   rcases r with (r | ⟨o,r⟩) | r
   ·cases r
   ·cases r
   ·exact .inr r
theorem RG.tup {ds:List D} (g:GOk K G H) (h:RG K G v (.tup ds)):∃a xs,v=.ref a/\SqT K H a xs/\RGs K G xs ds:=by
 cases h with
 | scl s=>cases s
 | ref e=>
  cases g _ _ e with
  | tup r s=>exact ⟨_,_,rfl,.inl r,s⟩
 | kc k=>
  cases k with
  | tup r s _=>
   refine ⟨_,_,rfl,?_,Paired.mono (fun _ _ z=>.scl z) s⟩
   rcases r with (r | ⟨o,r⟩) | r
   ·cases r
   ·cases r
   ·exact .inr r
theorem RG.dic {kvs:List (Key × D)} (g:GOk K G H) (h:RG K G v (.dic kvs)):∃a ps,v=.ref a/\Rd H a (.dK ps)/\RKs K G ps kvs:=by
 cases h with
 | scl s=>cases s
 | ref e=>
  cases g _ _ e with
  | dic r s=>exact ⟨_,_,rfl,.inr ⟨_,r⟩,s⟩
 | kc k=>cases k
theorem RG.int {i:Int} (g:GOk K G H) (h:RG K G v (.int i)):v=.int i:=by
 cases h with
 | scl s=>cases s; rfl
 | ref e=>cases g _ _ e
 | kc k=>cases k
theorem RG.str {x:Str} (g:GOk K G H) (h:RG K G v (.str x)):v=.str x:=by
 cases h with
 | scl s=>cases s; rfl
 | ref e=>cases g _ _ e
 | kc k=>cases k
theorem RG.bl {b:Bool} (g:GOk K G H) (h:RG K G v (.bl b)):v=.bl b:=by
 cases h with
 | scl s=>cases s; rfl
 | ref e=>cases g _ _ e
 | kc k=>cases k
theorem RG.non (g:GOk K G H) (h:RG K G v .non):v=.non:=by
 cases h with
 | scl s=>cases s; rfl
 | ref e=>cases g _ _ e
 | kc k=>cases k
noncomputable def RB (K:W.Frag) (G:GH) (H:Hp) (v:V) (d:D):Prop:=RG K G v d\/∃a,v=.ref a/\Own K G H a d
theorem RG.rb (h:RG K G v d):RB K G H v d:=.inl h
theorem RB.mono (h:RB K G H v d) (w:Grow K G H G' H'):RB K G' H' v d:=by
 rcases h with h | ⟨a,e,h⟩
 ·exact .inl (h.mono w.ge)
 ·exact .inr ⟨a,e,h.mono w⟩
theorem RB.lst {ds:List D} (g:GOk K G H) (h:RB K G H v (.lst ds)):∃a xs,v=.ref a/\SqL K H a xs/\RGs K G xs ds:=by
 rcases h with h | ⟨a,e,h⟩
 ·exact h.lst g
 ·cases h.ob with
  | lst r s=>exact ⟨a,_,e,SqL.of r,s⟩
theorem RB.tup {ds:List D} (g:GOk K G H) (h:RB K G H v (.tup ds)):∃a xs,v=.ref a/\SqT K H a xs/\RGs K G xs ds:=by
 rcases h with h | ⟨a,e,h⟩
 ·exact h.tup g
 ·cases h.ob
theorem RB.dic {kvs:List (Key × D)} (g:GOk K G H) (h:RB K G H v (.dic kvs)):∃a ps,v=.ref a/\Rd H a (.dK ps)/\RKs K G ps kvs:=by
 rcases h with h | ⟨a,e,h⟩
 ·exact h.dic g
 ·cases h.ob with
  | dic r s=>exact ⟨a,_,e,.inl r,s⟩
theorem RB.int {i:Int} (g:GOk K G H) (h:RB K G H v (.int i)):v=.int i:=by
 rcases h with h | ⟨a,e,h⟩
 ·exact h.int g
 ·cases h.ob
theorem RB.str {x:Str} (g:GOk K G H) (h:RB K G H v (.str x)):v=.str x:=by
 rcases h with h | ⟨a,e,h⟩
 ·exact h.str g
 ·cases h.ob
theorem RB.bl {b:Bool} (g:GOk K G H) (h:RB K G H v (.bl b)):v=.bl b:=by
 rcases h with h | ⟨a,e,h⟩
 ·exact h.bl g
 ·cases h.ob
theorem RB.non (g:GOk K G H) (h:RB K G H v .non):v=.non:=by
 rcases h with h | ⟨a,e,h⟩
 ·exact h.non g
 ·cases h.ob
theorem Paired.get {α β:Type} {F:α->β->Prop}:∀{l:List α} {r:List β} {i:Nat} {b:β},Paired F l r->r[i]? = some b->∃a,l[i]? = some a/\F a b
 | _,_,_,_,.nil,e=>by simp at e
 | _,_,0,_,.cons h _,e=>by simp at e; subst e; exact ⟨_,rfl,h⟩
 | _,_,i + 1,b,.cons _ t,e=>by
  obtain ⟨a,h1,h2⟩:=Paired.get (i:=i) t (by simpa using e)
  exact ⟨a,by simpa using h1,h2⟩
theorem Paired.app {α β:Type} {F:α->β->Prop} {l l':List α} {r r':List β} (h:Paired F l r) (q:Paired F l' r'):Paired F (l++l') (r++r'):=by
 induction h with
 | nil=>exact q
 | cons h _ ih=>exact .cons h ih
theorem Paired.tk {α β:Type} {F:α->β->Prop} {l:List α} {r:List β} (n:Nat) (h:Paired F l r):Paired F (l.take n) (r.take n):=by
 induction h generalizing n with
 | nil=>cases n <;> exact .nil
 | cons h _ ih=>cases n with
  | zero=>exact .nil
  | succ n=>exact .cons h (ih n)
theorem Paired.dr {α β:Type} {F:α->β->Prop} {l:List α} {r:List β} (n:Nat) (h:Paired F l r):Paired F (l.drop n) (r.drop n):=by
 induction h generalizing n with
 | nil=>cases n <;> exact .nil
 | cons h t ih=>cases n with
  | zero=>exact .cons h t
  | succ n=>exact ih n
theorem Paired.st {α β:Type} {F:α->β->Prop} {a:α} {b:β} (h:F a b) {l:List α} {r:List β} (n:Nat) (p:Paired F l r):Paired F (l.set n a) (r.set n b):=by
 induction p generalizing n with
 | nil=>exact .nil
 | cons q t ih=>cases n with
  | zero=>exact .cons h t
  | succ n=>exact .cons q (ih n)
theorem Paired.er {α β:Type} {F:α->β->Prop} {l:List α} {r:List β} (n:Nat) (p:Paired F l r):Paired F (l.eraseIdx n) (r.eraseIdx n):=by
 induction p generalizing n with
 | nil=>exact .nil
 | cons q t ih=>cases n with
  | zero=>exact t
  | succ n=>exact .cons q (ih n)
end
inductive Md where
 | sh | ow | bw
 deriving DecidableEq
noncomputable abbrev Rho:=List (Option D)
structure GE where
 gh:GH
 h0:Hp
 hd:Nat->Option (Option V × Option D)
noncomputable def Bw (K:W.Frag) (h0:Hp) (G:GH) (H:Hp) (v:V) (d:D):Prop:=RG K G v d\/∃a,v=V.ref a/\Own K G H a d/\h0 a≠none
theorem Bw.grow {K:W.Frag} {h0:Hp} {G G':GH} {H H':Hp} {v:V} {d:D} (h:Bw K h0 G H v d) (w:Grow K G H G' H'):Bw K h0 G' H' v d:=by
 rcases h with h | ⟨a,e,h1,h2⟩
 ·exact .inl (h.mono w.ge)
 ·exact .inr ⟨a,e,h1.mono w,h2⟩
theorem Bw.rb {K:W.Frag} {h0:Hp} {G:GH} {H:Hp} {v:V} {d:D} (h:Bw K h0 G H v d):RB K G H v d:=by
 rcases h with h | ⟨a,e,h1,h2⟩
 ·exact .inl h
 ·exact .inr ⟨a,e,h1⟩
noncomputable def Lk (r:Rho) (st:L2.St) (i:Nat) (o:Option V × Option D):Prop:=st[i]? = some o.1/\∀d,r[i]? = some (some d)->o.2=some d
structure SI (X:Cx) (g:GE) (m:List Md) (r:Rho) (G:GH) (st:L2.St) (H:Hp):Prop where
 gok:GOk X.K G H
 old:∀a o,g.h0 a=some o->H a=some o
 ge:∀a d,g.gh a=some d->G a=some d
 gf:∀a,g.h0 a≠none->G a=g.gh a
 lm:m.length=st.length
 lr:r.length=st.length
 sh:∀(i:Nat) d,r[i]? = some (some d)->m[i]? = some .sh->∃v,st[i]? = some (some v)/\RG X.K G v d
 ow:∀(i:Nat) d,r[i]? = some (some d)->m[i]? = some .ow->∃a,st[i]? = some (some (V.ref a))/\Own X.K G H a d/\g.h0 a=none
 bw:∀(i:Nat) d,r[i]? = some (some d)->m[i]? = some .bw->∃v,st[i]? = some (some v)/\Bw X.K g.h0 G H v d
 dis:∀(i j:Nat) a d e,i≠j->r[i]? = some (some d)->r[j]? = some (some e)->m[i]? = some .ow->m[j]? = some .ow->st[i]? = some (some (V.ref a))->st[j]? = some (some (V.ref a))->False
 lk:∀(i:Nat) o,g.hd i=some o->m[i]? = some .bw->Lk r st i o
section
variable {X:Cx} {g:GE} {m:List Md} {r:Rho} {G G':GH} {st:L2.St} {H H':Hp}
theorem SI.grow (s:SI X g m r G st H) (w:Grow X.K G H G' H'):SI X g m r G' st H' where
 gok:=w.ok
 old:=fun a o e=>w.he _ _ (s.old a o e)
 ge:=fun a d e=>w.ge _ _ (s.ge a d e)
 gf:=fun a h=>by
  have h1:H a≠none:=by
   cases e:g.h0 a with
   | none=>exact absurd e h
   | some o=>rw [s.old _ _ e]; simp
  rw [w.gf a h1,s.gf a h]
 lm:=s.lm
 lr:=s.lr
 sh:=fun i d h1 h2=>by obtain ⟨v,h3,h4⟩:=s.sh i d h1 h2; exact ⟨v,h3,h4.mono w.ge⟩
 ow:=fun i d h1 h2=>by obtain ⟨a,h3,h4,h5⟩:=s.ow i d h1 h2; exact ⟨a,h3,h4.mono w,h5⟩
 bw:=fun i d h1 h2=>by obtain ⟨v,h3,h4⟩:=s.bw i d h1 h2; exact ⟨v,h3,h4.grow w⟩
 dis:=s.dis
 lk:=s.lk
theorem SI.grown (s:SI X g m r G st H):Grow X.K g.gh g.h0 G H:=⟨s.gok,s.old,s.ge,s.gf⟩
theorem SI.frz (s:SI X g m r G st H) (i:Nat) (hi:m[i]? = some .ow):(∃G',(∀a d,G a=some d->G' a=some d)/\SI X g (m.set i .sh) r G' st H)\/∃a,∀ob,∃G',(∀a d,G a=some d->G' a=some d)/\SI X g (m.set i .sh) r G' st (fz H a ob):=by
 have hlt:i < m.length:=(List.getElem?_eq_some_iff.mp hi).1
 by_cases hb:∃d,r[i]? = some (some d)
 ·obtain ⟨d,hd⟩:=hb
  obtain ⟨a,h1,h2,h3⟩:=s.ow i d hd hi
  refine .inr ⟨a,fun ob=>⟨gset G a d,zaX h2.un,(s.gok.fast h2.un ob).gset h2.un (h2.ob.fast ob),fun b o e=>by rw [zlv (by rintro rfl; rw [h3] at e; cases e)]; exact s.old b o e,fun b e h=>zaX h2.un b e (s.ge b e h),fun b h=>?_,by simpa using s.lm,s.lr,?_,?_,?_,?_,fun j o hj hm=>?_⟩⟩
  ·rw [zaM (by rintro rfl; exact h h3)]; exact s.gf b h
  ·intro j e hj hm
   by_cases hij:i=j
   ·subst hij
    rw [hd] at hj; cases hj
    exact ⟨_,h1,.ref zap⟩
   ·rw [List.getElem?_set_ne hij] at hm
    obtain ⟨v,q1,q2⟩:=s.sh j e hj hm
    exact ⟨v,q1,q2.mono (zaX h2.un)⟩
  ·intro j e hj hm
   by_cases hij:i=j
   ·subst hij
    rw [List.getElem?_set_self hlt] at hm; cases hm
   ·rw [List.getElem?_set_ne hij] at hm
    obtain ⟨b,q1,q2,q3⟩:=s.ow j e hj hm
    have hba:b≠a:=by
     rintro rfl
     exact s.dis i j b d e hij hd hj hi hm h1 q1
    exact ⟨b,q1,⟨by rw [zaM hba]; exact q2.un,q2.ob.mono (zaX h2.un) fun _ z=>by rw [zlv hba]; exact z⟩,q3⟩
  ·intro j e hj hm
   by_cases hij:i=j
   ·subst hij
    rw [List.getElem?_set_self hlt] at hm; cases hm
   ·rw [List.getElem?_set_ne hij] at hm
    obtain ⟨v,q1,q2⟩:=s.bw j e hj hm
    refine ⟨v,q1,?_⟩
    rcases q2 with q2 | ⟨b,rfl,q2,q3⟩
    ·exact .inl (q2.mono (zaX h2.un))
    ·have hba:b≠a:=by rintro rfl; exact q3 h3
     exact .inr ⟨b,rfl,⟨by rw [zaM hba]; exact q2.un,q2.ob.mono (zaX h2.un) fun _ z=>by rw [zlv hba]; exact z⟩,q3⟩
  ·intro j k b e e' hjk hj hk hm hm' q1 q2
   have hij:i≠j:=by
    rintro rfl
    rw [List.getElem?_set_self hlt] at hm; cases hm
   have hik:i≠k:=by
    rintro rfl
    rw [List.getElem?_set_self hlt] at hm'; cases hm'
   rw [List.getElem?_set_ne hij] at hm
   rw [List.getElem?_set_ne hik] at hm'
   exact s.dis j k b e e' hjk hj hk hm hm' q1 q2
  ·refine s.lk j o hj ?_
   by_cases hij:i=j
   ·subst hij; rw [List.getElem?_set_self hlt] at hm; cases hm
   ·rw [List.getElem?_set_ne hij] at hm; exact hm
 ·refine .inl ⟨G,fun _ _ z=>z,s.gok,s.old,s.ge,s.gf,by simpa using s.lm,s.lr,?_,?_,?_,?_,fun j o hj hm=>?_⟩
  ·intro j e hj hm
   have hij:i≠j:=by rintro rfl; exact hb ⟨e,hj⟩
   rw [List.getElem?_set_ne hij] at hm
   exact s.sh j e hj hm
  ·intro j e hj hm
   have hij:i≠j:=by rintro rfl; exact hb ⟨e,hj⟩
   rw [List.getElem?_set_ne hij] at hm
   exact s.ow j e hj hm
  ·intro j e hj hm
   have hij:i≠j:=by rintro rfl; exact hb ⟨e,hj⟩
   rw [List.getElem?_set_ne hij] at hm
   exact s.bw j e hj hm
  ·intro j k b e e' hjk hj hk hm hm' q1 q2
   have hij:i≠j:=by rintro rfl; exact hb ⟨e,hj⟩
   have hik:i≠k:=by rintro rfl; exact hb ⟨e',hk⟩
   rw [List.getElem?_set_ne hij] at hm
   rw [List.getElem?_set_ne hik] at hm'
   exact s.dis j k b e e' hjk hj hk hm hm' q1 q2
  ·refine s.lk j o hj ?_
   by_cases hij:i=j
   ·subst hij; rw [List.getElem?_set_self hlt] at hm; cases hm
   ·rw [List.getElem?_set_ne hij] at hm; exact hm
end
theorem PE.imp {X:Cx} {e:Expr} {t t':TE} (h:PE X e t) (i:∀σ H Q,t' σ H Q->t σ H Q):PE X e t':=fun pins s σ H Q I q=>h pins s σ H Q I (i σ H Q q)
theorem PT.imp {X:Cx} {e:Expr} {t t':TT} (h:PT X e t) (i:∀σ H Q,t' σ H Q->t σ H Q):PT X e t':=fun pins s σ H Q I q=>h pins s σ H Q I (i σ H Q q)
theorem PW.imp {X:Cx} {e:Expr} {t t':TT} (h:PW X e t) (i:∀σ H Q,t' σ H Q->t σ H Q):PW X e t':=fun whole pins s σ H Q I q=>h whole pins s σ H Q I (i σ H Q q)
theorem PA.imp {X:Cx} {e:List Expr} {t t':TA} (h:PA X e t) (i:∀σ H Q,t' σ H Q->t σ H Q):PA X e t':=fun pos pins s σ H Q I q=>h pos pins s σ H Q I (i σ H Q q)
theorem PS.imp {X:Cx} {e:Stmt} {t t':TS} (h:PS X e t) (i:∀D σ H,t' D σ H->t D σ H):PS X e t':=fun pins s σ H D I q=>h pins s σ H D I (i D σ H q)
theorem PSs.imp {X:Cx} {e:List Stmt} {t t':TS} (h:PSs X e t) (i:∀D σ H,t' D σ H->t D σ H):PSs X e t':=fun pins s σ H D I q=>h pins s σ H D I (i D σ H q)
noncomputable def ExV (X:Cx) (σ:L2.St) (G:GH) (H':Hp) (e:Value) (x:D) (s':Shared):Prop:=
 ∃pins s H1 a C od nm ds,e=.ref a/\x=xD nm ds/\XN X.K nm C/\XF G od ds/\Inv X pins σ H1 s/\Fly X.prog X.w X.stack H1 s H' a (.ref C) od s'
noncomputable def XW (X:Cx) (σ:L2.St) (G:GH) (H:Hp) (x:D):Prop:=∀pins e s' G' H',Grow X.K G H G' H'->Inv X pins σ H' s'->ExV X σ G' H' e x s'->X.xe e s'
theorem XW.grow {X:Cx} {σ:L2.St} {G G1:GH} {H H1:Hp} {x:D} (h:XW X σ G H x) (w:Grow X.K G H G1 H1):XW X σ G1 H1 x:=fun pins e s' G' H' w' I q=>h pins e s' G' H' (w.trans w') I q
noncomputable abbrev FE:=Rho->Res D
noncomputable def tE (X:Cx) (g:GE) (m:List Md) (f:FE):TE:=fun σ H Q=>∃r G,SI X g m r G σ H/\fin (f r) (fun d=>∀v G' H',Grow X.K G H G' H'->RG X.K G' v d->Q v H') (XW X σ G H)
noncomputable def tB (X:Cx) (g:GE) (m:List Md) (f:FE):TE:=fun σ H Q=>∃r G,SI X g m r G σ H/\fin (f r) (fun d=>∀v G' H',Grow X.K G H G' H'->RB X.K G' H' v d->Q v H') (XW X σ G H)
noncomputable def tO (X:Cx) (g:GE) (m:List Md) (f:FE):TE:=fun σ H Q=>∃r G,SI X g m r G σ H/\fin (f r) (fun d=>∀a G' H',Grow X.K G H G' H'->H a=none->Own X.K G' H' a d->Q (.ref a) H') (XW X σ G H)
noncomputable def tQ (X:Cx) (g:GE) (m:List Md) (f:Rho->Res Bool):TT:=fun σ H Q=>∃r G,SI X g m r G σ H/\fin (f r) (fun b=>∀G' H',Grow X.K G H G' H'->Q b H') (XW X σ G H)
noncomputable def tL (X:Cx) (g:GE) (m:List Md) (f:Rho->Res (List D)):TA:=fun σ H Q=>∃r G,SI X g m r G σ H/\fin (f r) (fun ds=>∀vs G' H',Grow X.K G H G' H'->RGs X.K G' vs ds->Q vs H') (XW X σ G H)
noncomputable def tLB (X:Cx) (g:GE) (m:List Md) (f:Rho->Res (List D)):TA:=fun σ H Q=>∃r G,SI X g m r G σ H/\fin (f r) (fun ds=>∀vs G' H',Grow X.K G H G' H'->Paired (RB X.K G' H') vs ds->Q vs H') (XW X σ G H)
noncomputable def SE (X:Cx) (g:GE) (m:List Md) (e:Expr) (f:FE):Prop:=PE X e (tE X g m f)
noncomputable def SB (X:Cx) (g:GE) (m:List Md) (e:Expr) (f:FE):Prop:=PE X e (tB X g m f)
noncomputable def SO (X:Cx) (g:GE) (m:List Md) (e:Expr) (f:FE):Prop:=PE X e (tO X g m f)
noncomputable def SQ (X:Cx) (g:GE) (m:List Md) (e:Expr) (f:Rho->Res Bool):Prop:=PT X e (tQ X g m f)
noncomputable def SW (X:Cx) (g:GE) (m:List Md) (e:Expr) (f:Rho->Res Bool):Prop:=PW X e (tQ X g m f)
noncomputable def SA (X:Cx) (g:GE) (m:List Md) (es:List Expr) (f:Rho->Res (List D)):Prop:=PA X es (tL X g m f)
noncomputable def SAB (X:Cx) (g:GE) (m:List Md) (es:List Expr) (f:Rho->Res (List D)):Prop:=PA X es (tLB X g m f)
section
variable {X:Cx} {g:GE} {m:List Md} {e a b c:Expr} {f fa fb fc:FE} {pos:Pos}
theorem SE.toB (h:SE X g m e f):SB X g m e f:=PE.imp h fun σ H Q ⟨r,G,si,q⟩=>⟨r,G,si,zai q fun d k v G' H' w z=>k v G' H' w z.rb⟩
theorem Inv.fast {pins:List (Addr × Obj)} {σ:L2.St} {H:Hp} {s:Shared} (I:Inv X pins σ H s) (a:Addr):∃ob,Inv X pins σ (fz H a ob) s:=by
 cases e:H a with
 | none=>exact ⟨{ cls:=.none,data:=.fields #[] },by unfold fz; rw [e]; exact I⟩
 | some u=>
  cases u with
  | dK ps=>
   obtain ⟨z1,z2,vs,z3,o,es,ep,z4,z5⟩:=(show za8 X.prog X.w H s.heap a (.dK ps) from I.hok a _ e)
   have ef:fz H a o=upd H a (.frz o (.dK ps)):=by unfold fz; rw [e]
   refine ⟨o,?_⟩
   rw [ef]
   exact I.write (t':=s.toks) (h':=s.heap) (x:=a) (e:=a) (by rw [e]; exact trivial) (.inl rfl) (fun b u _ q=>q) ⟨o,z4⟩ (show za8 X.prog X.w _ s.heap a (.frz o (.dK ps)) from ⟨z4,z1,z2,vs,z3,o,es,ep,z4,z5⟩)
  | _=>exact ⟨{ cls:=.none,data:=.fields #[] },by unfold fz; rw [e]; exact I⟩
theorem SO.toE (h:SO X g m e f):SE X g m e f:=by
 intro pins s σ H Q I ⟨r,G,si,q⟩
 refine thn (h pins s σ H (fun v H'=>∃a,v=.ref a/\∀ob,Q v (fz H' a ob)) I ⟨r,G,si,zai q fun d k a G' H' w hn o=>⟨a,rfl,fun ob=>k _ _ _ (w.frz hn o ob) (.ref zap)⟩⟩) fun u s' ⟨v,H',I',rv,a,_,z⟩=>?_
 obtain ⟨ob,I2⟩:=Inv.fast I' a
 exact ⟨v,_,I2,rv,z ob⟩
theorem SO.toB (h:SO X g m e f):SB X g m e f:=h.toE.toB
theorem SE.eq {f':FE} (h:SE X g m e f) (q:∀r,f' r=f r):SE X g m e f':=by
 have:f'=f:=funext q
 rw [this]; exact h
theorem zh7 {v:V} {d:D} (h:PE X e (tC v)) (s:Scl v d):SE X g m e fun _=>.ok d:=
 PE.imp h fun σ H Q ⟨r,G,si,q⟩=>q v G H (Grow.refl si.gok) (.scl s)
theorem zam {i:Int} {j}:SE X g m (.Constant (.int i) j pos) fun _=>.ok (.int i):=zh7 zqX (.int i)
theorem s_bl {i:Bool} {j}:SE X g m (.Constant (.bool i) j pos) fun _=>.ok (.bl i):=zh7 zsS (.bl i)
theorem zeK {j}:SE X g m (.Constant .none j pos) fun _=>.ok .non:=zh7 zqU .non
noncomputable def getV (r:Rho) (i:Nat):Res D:=match r[i]? with
 | some (some d)=>.ok d
 | _=>.stuck
theorem zgY {r:Rho} {i:Nat} {q:D->Prop} {x:D->Prop} (h:fin (getV r i) q x):∃d,r[i]? = some (some d)/\q d:=by
 unfold getV at h
 split at h
 ·rename_i d e; exact ⟨d,e,h⟩
 ·exact h.elim
theorem zsB (i:Nat) {x:Str} (hm:m[i]? = some .sh) (hN:X.N[i]? = some x) (hv:Vis X.env.scope x) (hd:(x == ("__debug__" : Str))=false:=by decide) (hcd:(x == ("__classdict__" : Str))=false:=by decide) :
  SE X g m (.Name x pos) fun r=>getV r i:=by
 refine PE.imp (zfG hN hv hd hcd) fun σ H Q ⟨r,G,si,q⟩=>?_
 obtain ⟨d,e,k⟩:=zgY q
 obtain ⟨v,e1,e2⟩:=si.sh i d e hm
 exact ⟨v,e1,k v G H (Grow.refl si.gok) e2⟩
theorem zqn (i:Nat) {x:Str} (hm:i < m.length) (hN:X.N[i]? = some x) (hv:Vis X.env.scope x) (hd:(x == ("__debug__" : Str))=false:=by decide) (hcd:(x == ("__classdict__" : Str))=false:=by decide) :
  SB X g m (.Name x pos) fun r=>getV r i:=by
 refine PE.imp (zfG hN hv hd hcd) fun σ H Q ⟨r,G,si,q⟩=>?_
 obtain ⟨d,e,k⟩:=zgY q
 have hm':m[i]? = some m[i]:=List.getElem?_eq_getElem hm
 cases h:m[i] with
 | sh=>
  obtain ⟨v,e1,e2⟩:=si.sh i d e (hm'.trans (by rw [h]))
  exact ⟨v,e1,k v G H (Grow.refl si.gok) e2.rb⟩
 | ow=>
  obtain ⟨v,e1,e2,_⟩:=si.ow i d e (hm'.trans (by rw [h]))
  exact ⟨_,e1,k _ G H (Grow.refl si.gok) (.inr ⟨v,rfl,e2⟩)⟩
 | bw=>
  obtain ⟨v,e1,e2⟩:=si.bw i d e (hm'.trans (by rw [h]))
  exact ⟨_,e1,k _ G H (Grow.refl si.gok) e2.rb⟩
theorem seq2 {β:Type} {k:D->D->Res β} {q:β->Prop} {R:V->V->Hp->Prop} {r:Rho} {G:GH} {σ:L2.St} {H:Hp} (si:SI X g m r G σ H)
  (h:fin ((fa r).bind fun d1=>(fb r).bind fun d2=>k d1 d2) q (XW X σ G H))
  (hk:∀d1 d2 v1 v2 G2 H2,Grow X.K G H G2 H2->RB X.K G2 H2 v1 d1->RB X.K G2 H2 v2 d2->fin (k d1 d2) q (XW X σ G H)->R v1 v2 H2) :
  tB X g m fa σ H fun v1 H1=>tB X g m fb σ H1 fun v2 H2=>R v1 v2 H2:=by
 refine ⟨r,G,si,zai (zah h) fun d1 h1 v1 G1 H1 w1 r1=>⟨r,G1,si.grow w1,?_⟩⟩
 cases e:fb r with
 | ok d2=>
  rw [e] at h1
  exact fun v2 G2 H2 w2 r2=>hk d1 d2 v1 v2 G2 H2 (w1.trans w2) (r1.mono w2) r2 h1
 | exc x=>
  rw [e] at h1
  exact (show XW X σ G H x from h1).grow w1
 | stuck=>
  rw [e] at h1
  exact h1
noncomputable def opt {α:Type}:Option α->Res α
 | some a=>.ok a
 | none=>.stuck
@[simp] theorem opt_some {α:Type} (a:α):opt (some a)=.ok a:=rfl
@[simp] theorem opt_none {α:Type}:opt (none:Option α)=.stuck:=rfl
theorem zaB {α:Type} {o:Option α} {q:α->Prop} {x:D->Prop} (h:fin (opt o) q x):∃a,o=some a/\q a:=by
 cases o with
 | none=>exact h.elim
 | some a=>exact ⟨a,rfl,h⟩
noncomputable def OpD (K:W.Frag) (r:R2) (k:D->D->Option D):Prop:=∀(G:GH) (H:Hp) (v1 v2:V) (d1 d2 d:D) (Q:VK),GOk K G H->RB K G H v1 d1->RB K G H v2 d2->k d1 d2=some d ->
 (∀v G' H',Grow K G H G' H'->RG K G' v d->Q v H')->r v1 v2 H Q
noncomputable def OpO (K:W.Frag) (r:R2) (k:D->D->Option D):Prop:=∀(G:GH) (H:Hp) (v1 v2:V) (d1 d2 d:D) (Q:VK),GOk K G H->RB K G H v1 d1->RB K G H v2 d2->k d1 d2=some d ->
 (∀a G' H',Grow K G H G' H'->H a=none->Own K G' H' a d->Q (.ref a) H')->r v1 v2 H Q
noncomputable def f2 (fa fb:FE) (k:D->D->Option D):FE:=fun r=>(fa r).bind fun d1=>(fb r).bind fun d2=>opt (k d1 d2)
theorem zoA {R:R2} {k:D->D->Option D} (ho:OpD X.K R k) (h:PE X e (tOp R (tB X g m fa) (tB X g m fb))):SE X g m e (f2 fa fb k):=by
 refine PE.imp h fun σ H Q ⟨r,G,si,q⟩=>?_
 refine seq2 si q fun d1 d2 v1 v2 G2 H2 w r1 r2 q2=>?_
 obtain ⟨d,e,q2⟩:=zaB q2
 exact ho G2 H2 v1 v2 d1 d2 d Q w.ok r1 r2 e fun v G' H' w' z=>q2 v G' H' (w.trans w') z
theorem zqp {R:R2} {k:D->D->Option D} (ho:OpO X.K R k) (h:PE X e (tOp R (tB X g m fa) (tB X g m fb))):SO X g m e (f2 fa fb k):=by
 refine PE.imp h fun σ H Q ⟨r,G,si,q⟩=>?_
 refine seq2 si q fun d1 d2 v1 v2 G2 H2 w r1 r2 q2=>?_
 obtain ⟨d,e,q2⟩:=zaB q2
 exact ho G2 H2 v1 v2 d1 d2 d Q w.ok r1 r2 e fun a G' H' w' hn z=>q2 a G' H' (w.trans w') (by
  cases q:H a with
  | none=>rfl
  | some o=>rw [w.he _ _ q] at hn; cases hn) z
theorem zgD {op:Operator} {R:R2} {k:D->D->Option D} (hr:OpR X (binaryOp op) R) (ho:OpD X.K R k) (ha:SB X g m a fa) (hb:SB X g m b fb):SE X g m (.BinOp a op b pos) (f2 fa fb k):=zoA ho (zoZ hr ha hb)
theorem zqs {op:Operator} {R:R2} {k:D->D->Option D} (hr:OpR X (binaryOp op) R) (ho:OpO X.K R k) (ha:SB X g m a fa) (hb:SB X g m b fb):SO X g m (.BinOp a op b pos) (f2 fa fb k):=zqp ho (zoZ hr ha hb)
theorem zmr {op:CmpOp} {R:R2} {k:D->D->Option D} (hr:OpR X (compareOp op) R) (ho:OpD X.K R k) (ha:SB X g m a fa) (hb:SB X g m b fb) (hm:behindInMarks op b=false):SE X g m (.Compare a [op] [b] pos) (f2 fa fb k):=zoA ho (zo1 hr ha hb hm)
noncomputable def asB:D->Option Bool
 | .bl b=>some b
 | _=>none
noncomputable def zaU (f:FE):Rho->Res Bool:=fun r=>(f r).bind fun d=>opt (asB d)
theorem zgH {op:CmpOp} {R:R2} {k:D->D->Option D} (hr:OpR X (compareOp op) R) (ho:OpD X.K R k) (ha:SB X g m a fa) (hb:SB X g m b fb) (hm:behindInMarks op b=false):SQ X g m (.Compare a [op] [b] pos) (zaU (f2 fa fb k)):=by
 refine PT.imp (zoR hr ha hb hm) fun σ H Q ⟨r,G,si,q⟩=>?_
 have e:zaU (f2 fa fb k) r=(fa r).bind fun d1=>(fb r).bind fun d2=>(opt (k d1 d2)).bind fun d=>opt (asB d):=by
  unfold zaU f2
  cases fa r with
  | ok d1=>cases fb r <;> rfl
  | exc _=>rfl
  | stuck=>rfl
 rw [e] at q
 refine seq2 (R:=fun x y H2=>R x y H2 fun x H'=>∃k,x=V.bl k/\Q k H') si q fun d1 d2 v1 v2 G2 H2 w r1 r2 q3=>?_
 obtain ⟨d,e,q3⟩:=zaB (zah q3)
 obtain ⟨b,eb,q3⟩:=zaB q3
 cases d with
 | bl b'=>
  cases eb
  exact ho G2 H2 v1 v2 d1 d2 _ _ w.ok r1 r2 e fun v G' H' w' z=>⟨_,z.bl w'.ok,q3 G' H' (w.trans w')⟩
 | _=>cases eb
end
instance decMul (i j:Int):Decidable (CMul i j):=by unfold CMul; infer_instance
instance decDiv (i j:Int):Decidable (CDiv i j):=by unfold CDiv; infer_instance
instance decPow (i j:Int):Decidable (CPow i j):=by unfold CPow; infer_instance
noncomputable def zin (k:Int->Int->D):D->D->Option D
 | .int a,.int b=>some (k a b)
 | _,_=>none
noncomputable def zfO (C:Int->Int->Prop) [∀a b,Decidable (C a b)] (k:Int->Int->D):D->D->Option D
 | .int a,.int b=>if C a b then some (k a b) else none
 | _,_=>none
@[simp] theorem ints2_int (k:Int->Int->D) (a b:Int):zin k (.int a) (.int b)=some (k a b):=rfl
@[simp] theorem intsC_int (C:Int->Int->Prop) [∀a b,Decidable (C a b)] (k:Int->Int->D) (a b:Int):zfO C k (.int a) (.int b)=if C a b then some (k a b) else none:=rfl
section
variable {K:W.Frag}
theorem zeO {gv:Int->Int->V} {gd:Int->Int->D} (hs:∀i j,Scl (gv i j) (gd i j)):OpD K (rI0 gv) (zin gd):=by
 intro G H v1 v2 d1 d2 d Q g r1 r2 e q
 unfold zin at e
 split at e
 ·cases e
  exact ⟨_,_,r1.int g,r2.int g,q _ G H (Grow.refl g) (.scl (hs _ _))⟩
 ·cases e
theorem zdJ {C:Int->Int->Prop} [∀a b,Decidable (C a b)] {gv:Int->Int->V} {gd:Int->Int->D} (hs:∀i j,Scl (gv i j) (gd i j)):OpD K (rI C gv) (zfO C gd):=by
 intro G H v1 v2 d1 d2 d Q g r1 r2 e q
 unfold zfO at e
 split at e
 ·split at e
  ·rename_i hc
   cases e
   exact ⟨_,_,r1.int g,r2.int g,hc,q _ G H (Grow.refl g) (.scl (hs _ _))⟩
  ·cases e
 ·cases e
theorem OpD.or {r r':R2} {k k':D->D->Option D} (h:OpD K r k) (h':OpD K r' k'):OpD K (fun x y H Q=>r x y H Q\/r' x y H Q) (fun a b=>match k a b with | some d=>some d | none=>k' a b):=by
 intro G H v1 v2 d1 d2 d Q g r1 r2 e q
 cases e1:k d1 d2 with
 | some d'=>
  simp only [e1] at e
  cases e
  exact .inl (h G H v1 v2 d1 d2 d Q g r1 r2 e1 q)
 | none=>
  simp only [e1] at e
  exact .inr (h' G H v1 v2 d1 d2 d Q g r1 r2 e q)
end
noncomputable abbrev subI:D->D->Option D:=zin fun a b=>.int (a - b)
noncomputable abbrev mulI:D->D->Option D:=zfO CMul fun a b=>.int (a * b)
noncomputable abbrev zjL:D->D->Option D:=zfO CDiv fun a b=>.int (a / b)
noncomputable abbrev modI:D->D->Option D:=zfO (fun _ b=>0 < b) fun a b=>.int (a % b)
noncomputable abbrev powI:D->D->Option D:=zfO CPow fun a b=>.int (a ^ b.toNat)
noncomputable abbrev ltI:D->D->Option D:=zin fun a b=>.bl (decide (a < b))
noncomputable abbrev leI:D->D->Option D:=zin fun a b=>.bl (decide (a<=b))
noncomputable abbrev gtI:D->D->Option D:=zin fun a b=>.bl (decide (b < a))
section
variable {X:Cx} {g:GE} {m:List Md} {e a b c:Expr} {f fa fb fc:FE} {pos:Pos}
theorem zsD (ha:SB X g m a fa) (hb:SB X g m b fb):SE X g m (.BinOp a .Sub b pos) (f2 fa fb subI):=zgD zq0 (zeO fun _ _=>.int _) ha hb
theorem zf4 (ha:SB X g m a fa) (hb:SB X g m b fb):SE X g m (.BinOp a .Mult b pos) (f2 fa fb mulI):=zgD zq3 (zdJ fun _ _=>.int _) ha hb
theorem znR (ha:SB X g m a fa) (hb:SB X g m b fb):SE X g m (.BinOp a .FloorDiv b pos) (f2 fa fb zjL):=zgD zo9 (zdJ fun _ _=>.int _) ha hb
theorem zeL (ha:SB X g m a fa) (hb:SB X g m b fb):SE X g m (.BinOp a .Mod b pos) (f2 fa fb modI):=zgD zq4 (zdJ fun _ _=>.int _) ha hb
theorem zqo (ha:SB X g m a fa) (hb:SB X g m b fb):SE X g m (.BinOp a .Pow b pos) (f2 fa fb powI):=zgD zq2 (zdJ fun _ _=>.int _) ha hb
theorem s_lt (ha:SB X g m a fa) (hb:SB X g m b fb):SE X g m (.Compare a [.Lt] [b] pos) (f2 fa fb ltI):=zmr zq5 (zeO fun _ _=>.bl _) ha hb (zdx _)
theorem s_gt (ha:SB X g m a fa) (hb:SB X g m b fb):SE X g m (.Compare a [.Gt] [b] pos) (f2 fa fb gtI):=zmr zq8 (zeO fun _ _=>.bl _) ha hb (zdx _)
theorem q_lt (ha:SB X g m a fa) (hb:SB X g m b fb):SQ X g m (.Compare a [.Lt] [b] pos) (zaU (f2 fa fb ltI)):=zgH zq5 (zeO fun _ _=>.bl _) ha hb (zdx _)
theorem q_le (ha:SB X g m a fa) (hb:SB X g m b fb):SQ X g m (.Compare a [.LtE] [b] pos) (zaU (f2 fa fb leI)):=zgH zsV (zeO fun _ _=>.bl _) ha hb (zdx _)
theorem q_gt (ha:SB X g m a fa) (hb:SB X g m b fb):SQ X g m (.Compare a [.Gt] [b] pos) (zaU (f2 fa fb gtI)):=zgH zq8 (zeO fun _ _=>.bl _) ha hb (zdx _)
noncomputable def f1 (fa:FE) (k:D->Option D):FE:=fun r=>(fa r).bind fun d=>opt (k d)
noncomputable def negI:D->Option D
 | .int a=>some (.int (-a))
 | _=>none
@[simp] theorem negI_int (a:Int):negI (.int a)=some (.int (-a)):=rfl
theorem zsG (ha:SB X g m a fa):SE X g m (.UnaryOp .USub a pos) (f1 fa negI):=by
 refine PE.imp (zsR zpW ha) fun σ H Q ⟨r,G,si,q⟩=>⟨r,G,si,zai (zah q) fun d q1 v G1 H1 w1 r1=>?_⟩
 obtain ⟨d',e,q2⟩:=zaB q1
 cases d with
 | int i=>
  cases e
  exact ⟨i,r1.int w1.ok,q2 _ G1 H1 w1 (.scl (.int _))⟩
 | _=>cases e
noncomputable def truD:D->Option Bool
 | .non=>some false
 | .bl b=>some b
 | .int i=>some (i != 0)
 | .str y=>if y.length<=sizeLine then some ((y.length:Int) != 0) else none
 | .lst ds=>some (! ds.isEmpty)
 | .tup ds=>some (! ds.isEmpty)
 | .dic kvs=>some (! kvs.isEmpty)
 | .obj _ _=>none
theorem zfM {α β:Type} {F:α->β->Prop} {l:List α} {r:List β} (h:Paired F l r):l.isEmpty=r.isEmpty:=by cases h <;> rfl
theorem zoq {K:W.Frag} {G:GH} {H:Hp} {v:V} {d:D} {b:Bool} (gk:GOk K G H) (h:RB K G H v d) (e:truD d=some b):TruV K v H b:=by
 cases d with
 | non=>cases e; rw [h.non gk]; rfl
 | bl b'=>cases e; rw [h.bl gk]; rfl
 | int i=>cases e; rw [h.int gk]; rfl
 | str y=>
  rw [h.str gk]
  have e':(if y.length<=sizeLine then some ((y.length:Int) != 0) else none)=some b:=e
  by_cases hy:y.length<=sizeLine
  ·rw [if_pos hy] at e'; cases e'; exact ⟨hy,rfl⟩
  ·rw [if_neg hy] at e'; cases e'
 | lst ds=>
  cases e
  obtain ⟨a,xs,rfl,s,r⟩:=h.lst gk
  exact .inl ⟨xs,s,by rw [zfM r]⟩
 | tup ds=>
  cases e
  obtain ⟨a,xs,rfl,s,r⟩:=h.tup gk
  exact .inr (.inl ⟨xs,s,by rw [zfM r]⟩)
 | dic kvs=>
  cases e
  obtain ⟨a,xs,rfl,s,r⟩:=h.dic gk
  exact .inr (.inr ⟨xs,s,by rw [zfM r]⟩)
 | obj _ _=>cases e
noncomputable def fTru (f:FE):Rho->Res Bool:=fun r=>(f r).bind fun d=>opt (truD d)
theorem zd1 (ha:SB X g m a fa) (he:∀whole,isTrue a X.env whole=(do let v <-whole; standAt a.pos; holding [v] (truthy v)):=by intro _; rfl):SQ X g m a (fTru fa):=by
 refine PT.imp (zmC ha he) fun σ H Q ⟨r,G,si,q⟩=>⟨r,G,si,zai (zah q) fun d q1 v G1 H1 w1 r1=>?_⟩
 obtain ⟨b,e,q2⟩:=zaB q1
 exact ⟨b,zoq w1.ok r1 e,q2 G1 H1 w1⟩
noncomputable abbrev FQ:=Rho->Res Bool
noncomputable def fAnd (p q:FQ):FQ:=fun r=>(p r).bind fun c=>if c=true then q r else .ok false
noncomputable def fOr (p q:FQ):FQ:=fun r=>(p r).bind fun c=>if c=true then .ok true else q r
noncomputable def fNot (p:FQ):FQ:=fun r=>(p r).bind fun c=>.ok (! c)
variable {p q:FQ} {rest:List Expr}
theorem ztc {α:Type} {r:Res α} {q:α->Prop} {x x':D->Prop} (h:fin r q x) (hx:∀e,x e->x' e):fin r q x':=by
 cases r with
 | ok a=>exact h
 | exc e=>exact hx e h
 | stuck=>exact h
theorem zaF {α:Type} {r:Res α} {σ:L2.St} {G G1:GH} {H H1:Hp} {P P':α->Prop} (h:fin r P (XW X σ G H)) (w:Grow X.K G H G1 H1) (hp:∀a,P a->P' a):fin r P' (XW X σ G1 H1):=ztc (zai h hp) fun _ x=>x.grow w
theorem zqI (ha:SQ X g m a p):SW X g m (.BoolOp .And [a] pos) p:=zoO ha
theorem zjA (ha:SQ X g m a p):SW X g m (.BoolOp .Or [a] pos) p:=zqJ ha
theorem zsN (ha:SQ X g m a p) (hb:SW X g m (.BoolOp .And (b::rest) pos) q):SW X g m (.BoolOp .And (a::b::rest) pos) (fAnd p q):=by
 refine PW.imp (zqK ha hb) fun σ H Q ⟨r,G,si,k⟩=>⟨r,G,si,zai (zah k) fun c k1 G1 H1 w1=>?_⟩
 cases c with
 | true=>rw [if_pos rfl] at k1 ⊢; exact ⟨r,G1,si.grow w1,zaF k1 w1 fun b z G' H' w'=>z G' H' (w1.trans w')⟩
 | false=>rw [if_neg Bool.false_ne_true] at k1 ⊢; exact k1 G1 H1 w1
theorem q_or (ha:SQ X g m a p) (hb:SW X g m (.BoolOp .Or (b::rest) pos) q):SW X g m (.BoolOp .Or (a::b::rest) pos) (fOr p q):=by
 refine PW.imp (zsO ha hb) fun σ H Q ⟨r,G,si,k⟩=>⟨r,G,si,zai (zah k) fun c k1 G1 H1 w1=>?_⟩
 cases c with
 | true=>rw [if_pos rfl] at k1 ⊢; exact k1 G1 H1 w1
 | false=>rw [if_neg Bool.false_ne_true] at k1 ⊢; exact ⟨r,G1,si.grow w1,zaF k1 w1 fun b z G' H' w'=>z G' H' (w1.trans w')⟩
theorem SW.toQ (h:SW X g m e p):SQ X g m e p:=PW.pt h
theorem zf5 (ha:SQ X g m a p):SQ X g m (.UnaryOp .Not a pos) (fNot p):=
 PT.imp (zqL ha) fun σ H Q ⟨r,G,si,k⟩=>⟨r,G,si,zai (zah k) fun c k1 G1 H1 w1=>k1 G1 H1 w1⟩
noncomputable def vAnd (fa fb:FE):FE:=fun r=>(fa r).bind fun d=>(opt (asB d)).bind fun c=>if c=true then fb r else .ok (.bl false)
noncomputable def vOr (fa fb:FE):FE:=fun r=>(fa r).bind fun d=>(opt (asB d)).bind fun c=>if c=true then .ok (.bl true) else fb r
noncomputable def vNot (fa:FE):FE:=fun r=>(fa r).bind fun d=>(opt (asB d)).bind fun c=>.ok (.bl (! c))
theorem zoC {op} (h:SE X g m a fa):SE X g m (.BoolOp op [a] pos) fa:=zqS h
theorem zoF (ha:SE X g m a fa) (hb:SE X g m (.BoolOp .And (b::rest) pos) fb):SE X g m (.BoolOp .And (a::b::rest) pos) (vAnd fa fb):=by
 refine PE.imp (zqZ ha hb) fun σ H Q ⟨r,G,si,k⟩=>⟨r,G,si,zai (zah k) fun d k1 v G1 H1 w1 r1=>?_⟩
 obtain ⟨c,e,k2⟩:=zaB (zah k1)
 cases d with
 | bl c'=>
  cases e
  refine ⟨_,r1.bl w1.ok,?_⟩
  cases c with
  | true=>rw [if_pos rfl] at k2 ⊢; exact ⟨r,G1,si.grow w1,zaF k2 w1 fun b z v G' H' w'=>z v G' H' (w1.trans w')⟩
  | false=>rw [if_neg Bool.false_ne_true] at k2 ⊢; exact k2 _ G1 H1 w1 (.scl (.bl _))
 | _=>cases e
theorem zqq (ha:SE X g m a fa):SE X g m (.UnaryOp .Not a pos) (vNot fa):=by
 refine PE.imp (zqT ha) fun σ H Q ⟨r,G,si,k⟩=>⟨r,G,si,zai (zah k) fun d k1 v G1 H1 w1 r1=>?_⟩
 obtain ⟨c,e,k2⟩:=zaB (zah k1)
 cases d with
 | bl c'=>cases e; exact ⟨_,r1.bl w1.ok,k2 _ G1 H1 w1 (.scl (.bl _))⟩
 | _=>cases e
noncomputable def fIf (p:FQ) (fa fb:FE):FE:=fun r=>(p r).bind fun c=>if c=true then fa r else fb r
variable {es:List Expr} {fl fr:Rho->Res (List D)}
noncomputable def lNil:Rho->Res (List D):=fun _=>.ok []
noncomputable def zab (fa:FE) (fl:Rho->Res (List D)):Rho->Res (List D):=fun r=>(fa r).bind fun d=>(fl r).bind fun ds=>.ok (d::ds)
theorem zcb:SA X g m [] lNil:=PA.imp ze4 fun σ H Q ⟨r,G,si,k⟩=>k [] G H (Grow.refl si.gok) .nil
theorem za0 (ha:SE X g m e fa) (hr:SA X g m es fl) (hs:starEach (e::es) X.env=(false,eval e X.env)::starEach es X.env:=by rfl):SA X g m (e::es) (zab fa fl):=by
 refine PA.imp (zcq ha hr hs) fun σ H Q ⟨r,G,si,k⟩=>⟨r,G,si,zai (zah k) fun d k1 v G1 H1 w1 r1=>⟨r,G1,si.grow w1,?_⟩⟩
 exact zaF (zah k1) w1 fun ds z vs G2 H2 w2 r2=>z (v::vs) G2 H2 (w1.trans w2) (.cons (r1.mono w2.ge) r2)
theorem zaV:SAB X g m [] lNil:=PA.imp ze4 fun σ H Q ⟨r,G,si,k⟩=>k [] G H (Grow.refl si.gok) .nil
theorem zay (ha:SB X g m e fa) (hr:SAB X g m es fl) (hs:starEach (e::es) X.env=(false,eval e X.env)::starEach es X.env:=by rfl):SAB X g m (e::es) (zab fa fl):=by
 refine PA.imp (zcq ha hr hs) fun σ H Q ⟨r,G,si,k⟩=>⟨r,G,si,zai (zah k) fun d k1 v G1 H1 w1 r1=>⟨r,G1,si.grow w1,?_⟩⟩
 exact zaF (zah k1) w1 fun ds z vs G2 H2 w2 r2=>z (v::vs) G2 H2 (w1.trans w2) (.cons (r1.mono w2) r2)
noncomputable def sz (ds:List D):Option (List D):=if ds.length<=sizeLine then some ds else none
theorem zmj {ds ds':List D} (h:sz ds=some ds'):ds'=ds/\ds.length<=sizeLine:=by
 unfold sz at h; split at h
 ·rename_i hl; cases h; exact ⟨rfl,hl⟩
 ·cases h
theorem zsv {ds:List D} (h:ds.length<=sizeLine):sz ds=some ds:=if_pos h
noncomputable def mkT (fl:Rho->Res (List D)):FE:=fun r=>(fl r).bind fun ds=>(opt (sz ds)).bind fun ds=>.ok (.tup ds)
noncomputable def mkL (fl:Rho->Res (List D)):FE:=fun r=>(fl r).bind fun ds=>(opt (sz ds)).bind fun ds=>.ok (.lst ds)
theorem zhn {x1} (h:SA X g m es fl):SE X g m (.Tuple es x1 pos) (mkT fl):=by
 refine PE.imp (zqR h) fun σ H Q ⟨r,G,si,k⟩=>⟨r,G,si,zai (zah k) fun ds k1 vs G1 H1 w1 r1=>?_⟩
 obtain ⟨ds',e,k2⟩:=zaB (zah k1)
 obtain ⟨rfl,hl⟩:=zmj e
 have hlen:=Paired.length r1
 refine ⟨by omega,fun p hp=>?_⟩
 exact k2 _ _ _ (w1.trans (Grow.newF (d:=.tup ds') w1.ok hp (.tup (.inl zan) r1))) (.ref zap)
theorem zf8 (h:SA X g m es fl):SO X g m (.List es pos) (mkL fl):=by
 refine PE.imp (zqV h) fun σ H Q ⟨r,G,si,k⟩=>⟨r,G,si,zai (zah k) fun ds k1 vs G1 H1 w1 r1=>?_⟩
 obtain ⟨ds',e,k2⟩:=zaB (zah k1)
 obtain ⟨rfl,hl⟩:=zmj e
 have hlen:=Paired.length r1
 refine ⟨by omega,fun p hp=>?_⟩
 have hn:H p=none:=by
  cases q:H p with
  | none=>rfl
  | some o=>rw [w1.he _ _ q] at hp; cases hp
 exact k2 p G1 _ (w1.trans (Grow.new w1.ok hp _)) hn ⟨w1.ok.isN hp,.lst zan r1⟩
end
noncomputable def zhX (K:W.Frag) (r:List V->Hp->VK->Prop) (k:List D->Option D):Prop:=∀(G:GH) (H:Hp) (vs:List V) (ds:List D) (d:D) (Q:VK),GOk K G H->Paired (RB K G H) vs ds->k ds=some d ->
 (∀v G' H',Grow K G H G' H'->RG K G' v d->Q v H')->r vs H Q
noncomputable def zsh (K:W.Frag) (r:List V->Hp->VK->Prop) (k:List D->Option D):Prop:=∀(G:GH) (H:Hp) (vs:List V) (ds:List D) (d:D) (Q:VK),GOk K G H->Paired (RB K G H) vs ds->k ds=some d ->
 (∀a G' H',Grow K G H G' H'->H a=none->Own K G' H' a d->Q (.ref a) H')->r vs H Q
noncomputable def fC (fl:Rho->Res (List D)) (k:List D->Option D):FE:=fun r=>(fl r).bind fun ds=>opt (k ds)
theorem Grow.back {K:W.Frag} {G G1:GH} {H H1:Hp} (w:Grow K G H G1 H1) {a:Addr} (hn:H1 a=none):H a=none:=by
 cases q:H a with
 | none=>rfl
 | some o=>rw [w.he _ _ q] at hn; cases hn
section
variable {X:Cx} {g:GE} {m:List Md} {e a b c:Expr} {f fa fb fc:FE} {pos p p2:Pos} {es:List Expr} {fl:Rho->Res (List D)} {x:Str} {id T:String} {R:List V->Hp->VK->Prop} {k:List D->Option D}
theorem s_cb (hk:zhX X.K R k) (h:PE X e (tCB R (tLB X g m fl))):SE X g m e (fC fl k):=by
 refine PE.imp h fun σ H Q ⟨r,G,si,q⟩=>⟨r,G,si,zai (zah q) fun ds q1 vs G1 H1 w1 r1=>?_⟩
 obtain ⟨d,e,q2⟩:=zaB q1
 exact hk G1 H1 vs ds d Q w1.ok r1 e fun v G' H' w' z=>q2 v G' H' (w1.trans w') z
theorem zsI (hk:zsh X.K R k) (h:PE X e (tCB R (tLB X g m fl))):SO X g m e (fC fl k):=by
 refine PE.imp h fun σ H Q ⟨r,G,si,q⟩=>⟨r,G,si,zai (zah q) fun ds q1 vs G1 H1 w1 r1=>?_⟩
 obtain ⟨d,e,q2⟩:=zaB q1
 exact hk G1 H1 vs ds d Q w1.ok r1 e fun v G' H' w' hn z=>q2 v G' H' (w1.trans w') (w1.back hn) z
noncomputable def lenD:List D->Option D
 | [.str y]=>if y.length<=sizeLine then some (.int y.length) else none
 | [.lst ds]=>some (.int ds.length)
 | [.tup ds]=>some (.int ds.length)
 | [.dic kvs]=>some (.int kvs.length)
 | _=>none
theorem zrs {K:W.Frag}:zhX K (fun xs H Q=>(∃x n,xs=[x]/\LenV K x H n/\Q (.int n) H)\/∃a kvs,xs=[V.ref a]/\Rd H a (.dK kvs)/\Q (.int kvs.length) H) lenD:=by
 intro G H vs ds d Q gk rs e q
 unfold lenD at e
 split at e
 ·split at e
  ·cases e
   cases rs with
   | cons r t=>cases t; exact .inl ⟨_,_,rfl,by rw [r.str gk]; exact ⟨by assumption,rfl⟩,q _ G H (Grow.refl gk) (.scl (.int _))⟩
  ·cases e
 ·cases e
  cases rs with
  | cons r t=>
   cases t
   obtain ⟨a,xs,rfl,s,r⟩:=r.lst gk
   have:=Paired.length r
   exact .inl ⟨_,_,rfl,.inl ⟨xs,s,rfl⟩,q _ G H (Grow.refl gk) (.scl (by rw [this]; exact .int _))⟩
 ·cases e
  cases rs with
  | cons r t=>
   cases t
   obtain ⟨a,xs,rfl,s,r⟩:=r.tup gk
   have:=Paired.length r
   exact .inl ⟨_,_,rfl,.inr ⟨xs,s,rfl⟩,q _ G H (Grow.refl gk) (.scl (by rw [this]; exact .int _))⟩
 ·cases e
  cases rs with
  | cons r t=>
   cases t
   obtain ⟨a,xs,rfl,s,r⟩:=r.dic gk
   have:=Paired.length r
   exact .inr ⟨_,_,rfl,s,q _ G H (Grow.refl gk) (.scl (by rw [this]; exact .int _))⟩
 ·cases e
theorem zeM (hg:Gl X "len") (hm:X.mg "len" = none) (ha:SAB X g m (e::es) fl) (he:starEach (e::es) X.env=(false,eval e X.env)::starEach es X.env:=by rfl) (hpl:(backTo pos (starEach es X.env)).any (·.1)=false:=by rfl) :
  SE X g m (.Call (.Name "len" p) (e::es) [] pos) (fC fl lenD):=s_cb zrs (zdg (zc9.or znr zlU) hg hm PySem.boot_len ha (by decide) (by decide) he hpl)
noncomputable def zik:List D->Option D
 | [.lst ds]=>some (.lst ds)
 | [.tup ds]=>some (.lst ds)
 | _=>none
theorem zpq {K:W.Frag}:zsh K (fun xs H Q=>∃p ys,xs=[.ref p]/\(SqL K H p ys\/SqT K H p ys)/\∀l,H l=none->Q (.ref l) (upd H l (.lst ys))) zik:=by
 intro G H vs ds d Q gk rs e q
 have fin:∀{ys:List V} {zs:List D},RGs K G ys zs->(∀(a:Addr) (G':GH) (H':Hp),Grow K G H G' H'->H a=none->Own K G' H' a (.lst zs)->Q (.ref a) H')->∀l,H l=none->Q (.ref l) (upd H l (.lst ys)):=
  fun r q l hl=>q l G _ (Grow.new gk hl _) hl ⟨gk.isN hl,.lst zan r⟩
 unfold zik at e
 split at e
 ·cases e
  cases rs with
  | cons r t=>
   cases t
   obtain ⟨a,xs,rfl,s,r⟩:=r.lst gk
   exact ⟨a,xs,rfl,.inl s,fin r q⟩
 ·cases e
  cases rs with
  | cons r t=>
   cases t
   obtain ⟨a,xs,rfl,s,r⟩:=r.tup gk
   exact ⟨a,xs,rfl,.inr s,fin r q⟩
 ·cases e
theorem zn2 (hg:Gl X "list") (hm:X.mg "list" = none) (ha:SAB X g m (e::es) fl) (he:starEach (e::es) X.env=(false,eval e X.env)::starEach es X.env:=by rfl) (hpl:(backTo pos (starEach es X.env)).any (·.1)=false:=by rfl) :
  SO X g m (.Call (.Name "list" p) (e::es) [] pos) (fC fl zik):=zsI zpq (zdv zhM hg hm rfl ha (by decide) (by decide) he hpl)
noncomputable def tupD:List D->Option D
 | [.lst ds]=>some (.tup ds)
 | [.tup ds]=>some (.tup ds)
 | _=>none
theorem zp1 {K:W.Frag}:zhX K (fun xs H Q=>∃p ys,xs=[.ref p]/\((SqL K H p ys/\∀l,H l=none->Q (.ref l) (upd H l (.tup ys)))\/(SqT K H p ys/\Q (.ref p) H))) tupD:=by
 intro G H vs ds d Q gk rs e q
 unfold tupD at e
 split at e
 ·cases e
  cases rs with
  | cons r t=>
   cases t
   obtain ⟨a,xs,rfl,s,r⟩:=r.lst gk
   exact ⟨a,xs,rfl,.inl ⟨s,fun l hl=>q _ _ _ (Grow.newF gk hl (.tup (.inl zan) r)) (.ref zap)⟩⟩
 ·cases e
  cases rs with
  | cons r t=>
   cases t
   rcases r with r | ⟨a,_,o⟩
   ·obtain ⟨a,xs,rfl,s,r'⟩:=r.tup gk
    exact ⟨a,xs,rfl,.inr ⟨s,q _ G H (Grow.refl gk) r⟩⟩
   ·cases o.ob
 ·cases e
theorem zdt (hg:Gl X "tuple") (hm:X.mg "tuple" = none) (ha:SAB X g m (e::es) fl) (he:starEach (e::es) X.env=(false,eval e X.env)::starEach es X.env:=by rfl) (hpl:(backTo pos (starEach es X.env)).any (·.1)=false:=by rfl) :
  SE X g m (.Call (.Name "tuple" p) (e::es) [] pos) (fC fl tupD):=s_cb zp1 (zdv zg6 hg hm rfl ha (by decide) (by decide) he hpl)
noncomputable def ixD:D->D->Option D
 | .lst ds,.int i=>atI ds i
 | .tup ds,.int i=>atI ds i
 | .str z,.int i=>if z.length<=sizeLine then (atI z.cps.toList i).map fun c=>.str ⟨#[c]⟩ else none
 | _,_=>none
theorem zr7 {K:W.Frag} {G:GH} {xs:List V} {ds:List D} {i:Int} {d:D} (r:RGs K G xs ds) (h:atI ds i=some d):∃v,atI xs i=some v/\RG K G v d:=by
 unfold atI at h ⊢
 rw [Paired.length r]
 cases e:ixN ds.length i with
 | none=>rw [e] at h; cases h
 | some j=>
  rw [e] at h
  exact Paired.get r h
theorem zpt {K:W.Frag}:OpD K (rIx K) ixD:=by
 intro G H v1 v2 d1 d2 d Q gk r1 r2 e q
 unfold ixD at e
 split at e
 ·obtain ⟨a,xs,rfl,s,r⟩:=r1.lst gk
  obtain ⟨v,ev,rv⟩:=zr7 r e
  exact .inl ⟨a,xs,_,v,rfl,r2.int gk,s,ev,q v G H (Grow.refl gk) rv⟩
 ·obtain ⟨a,xs,rfl,s,r⟩:=r1.tup gk
  obtain ⟨v,ev,rv⟩:=zr7 r e
  exact .inr (.inl ⟨a,xs,_,v,rfl,r2.int gk,s,ev,q v G H (Grow.refl gk) rv⟩)
 ·split at e
  ·rename_i z i hz
   cases ec:atI z.cps.toList i with
   | none=>rw [ec] at e; cases e
   | some c=>
    rw [ec] at e; cases e
    exact .inr (.inr ⟨z,i,c,r1.str gk,r2.int gk,hz,ec,q _ G H (Grow.refl gk) (.scl (.str _))⟩)
  ·cases e
 ·cases e
noncomputable def cutL {α:Type} (xs:List α) (lo hi:Option Int):List α:=(xs.drop (HT.sIx xs.length 0 lo)).take (HT.sIx xs.length xs.length hi - HT.sIx xs.length 0 lo)
theorem znk {α β:Type} {F:α->β->Prop} {xs:List α} {ds:List β} (r:Paired F xs ds) (lo hi:Option Int):Paired F (cutL xs lo hi) (cutL ds lo hi):=by
 unfold cutL
 rw [Paired.length r]
 exact Paired.tk _ (Paired.dr _ r)
noncomputable abbrev FP:=Rho->Res (Option Int)
noncomputable def tP (X:Cx) (g:GE) (m:List Md) (f:FP):TO:=fun σ H Q=>∃r G,SI X g m r G σ H/\fin (f r) (fun o=>∀G' H',Grow X.K G H G' H'->Q o H') (XW X σ G H)
noncomputable def SP1 (X:Cx) (g:GE) (m:List Md) (e:Option Expr) (f:FP):Prop:=PO X e (tP X g m f)
theorem PO.imp {X:Cx} {e:Option Expr} {t t':TO} (h:PO X e t) (i:∀σ H Q,t' σ H Q->t σ H Q):PO X e t':=fun pins s σ H Q I q=>h pins s σ H Q I (i σ H Q q)
noncomputable def asI:D->Option Int
 | .int i=>some i
 | _=>none
noncomputable def zga (f:FE):FP:=fun r=>(f r).bind fun d=>(opt (asI d)).bind fun i=>.ok (some i)
theorem ziU:SP1 X g m none fun _=>.ok none:=PO.imp zoU fun σ H Q ⟨r,G,si,q⟩=>q G H (Grow.refl si.gok)
theorem zfH (h:SB X g m e f):SP1 X g m (some e) (zga f):=by
 refine PO.imp (zoT h) fun σ H Q ⟨r,G,si,q⟩=>⟨r,G,si,zai (zah q) fun d q1 v G1 H1 w1 r1=>?_⟩
 obtain ⟨i,e,q2⟩:=zaB (zah q1)
 cases d with
 | int j=>cases e; exact ⟨_,r1.int w1.ok,q2 G1 H1 w1⟩
 | _=>cases e
noncomputable def slD (d:D) (lo hi:Option Int):Option D:=match d with
 | .tup ds=>if HT.sIx ds.length 0 lo=0/\HT.sIx ds.length ds.length hi=ds.length then none else some (.tup (cutL ds lo hi))
 | .lst ds=>some (.lst (cutL ds lo hi))
 | _=>none
noncomputable def fSl (fa:FE) (fl fh:FP):FE:=fun r=>(fa r).bind fun d=>(fl r).bind fun lo=>(fh r).bind fun hi=>opt (slD d lo hi)
theorem zqf {R:V->Option Int->Option Int->Hp->Prop} {fl fh:FP} {r:Rho} {G:GH} {σ:L2.St} {H:Hp} {q:D->Prop} (si:SI X g m r G σ H) (h:fin (fSl fa fl fh r) q (XW X σ G H))
  (hk:∀d lo hi v G2 H2 d',Grow X.K G H G2 H2->RB X.K G2 H2 v d->slD d lo hi=some d'->q d'->R v lo hi H2) :
  tB X g m fa σ H fun x H1=>tP X g m fl σ H1 fun l H2=>tP X g m fh σ H2 fun u H3=>R x l u H3:=by
 refine ⟨r,G,si,zai (zah h) fun d h1 v G1 H1 w1 r1=>⟨r,G1,si.grow w1,zaF (zah h1) w1 fun lo h2 G2 H2 w2=>⟨r,G2,(si.grow w1).grow w2,?_⟩⟩⟩
 refine zaF (zah h2) (w1.trans w2) fun hi h3 G3 H3 w3=>?_
 obtain ⟨d',e,h4⟩:=zaB h3
 exact hk d lo hi v G3 H3 d' ((w1.trans w2).trans w3) ((r1.mono w2).mono w3) e h4
theorem zoz {lo hi:Option Expr} {fl fh:FP} (he:SB X g m e f) (hl:SP1 X g m lo fl) (hu:SP1 X g m hi fh):SE X g m (.Subscript e (.Slice lo hi none p2) pos) (fSl f fl fh):=by
 refine PE.imp (ziT (SlR.or zke znL) he hl hu) fun σ H Q ⟨r,G,si,q⟩=>?_
 refine zqf si q fun d lo hi v G2 H2 d' w r1 e q2=>?_
 cases d with
 | tup ds=>
  obtain ⟨a,xs,rfl,s,r⟩:=r1.tup w.ok
  have e':(if HT.sIx ds.length 0 lo=0/\HT.sIx ds.length ds.length hi=ds.length then none else some (D.tup (cutL ds lo hi)))=some d':=e
  by_cases hw:HT.sIx ds.length 0 lo=0/\HT.sIx ds.length ds.length hi=ds.length
  ·rw [if_pos hw] at e'; cases e'
  rw [if_neg hw] at e'
  cases e'
  rw [<-Paired.length r] at hw
  refine .inr ⟨a,xs,rfl,s,hw,fun p hp=>?_⟩
  exact q2 _ _ _ (w.trans (Grow.newF w.ok hp (.tup (.inl zan) (znk r lo hi)))) (.ref zap)
 | lst ds=>
  cases e
  obtain ⟨a,xs,rfl,s,r⟩:=r1.lst w.ok
  exact .inl ⟨a,xs,rfl,s,fun p hp=>q2 _ _ _ (w.trans (Grow.newF w.ok hp (.lst (.inl zan) (znk r lo hi)))) (.ref zap)⟩
 | _=>cases e
end
inductive Out where
 | nx (r:Rho) | rt (d:D) | bk (r:Rho) | ct (r:Rho) | exc (x:D) (r:Rho) | stuck
noncomputable abbrev FS:=Rho->Out
noncomputable def Gle (G G':GH):Prop:=∀a d,G a=some d->G' a=some d
theorem Gle.refl (G:GH):Gle G G:=fun _ _ e=>e
theorem Gle.trans {G G1 G2:GH} (a:Gle G G1) (b:Gle G1 G2):Gle G G2:=fun x d e=>b x d (a x d e)
noncomputable def forget (m:List Md) (r:Rho):Rho:=List.zipWith (fun md o=>if md=Md.sh then o else none) m r
noncomputable def zd2 (m:List Md):List Md:=m.map fun _=>Md.sh
theorem zc4 {m:List Md} {r:Rho} {i:Nat} {d:D} (h:(forget m r)[i]? = some (some d)):r[i]? = some (some d)/\m[i]? = some .sh:=by
 unfold forget at h
 rw [List.getElem?_zipWith] at h
 cases e1:m[i]? with
 | none=>rw [e1] at h; cases h
 | some md=>
  cases e2:r[i]? with
  | none=>rw [e1,e2] at h; cases h
  | some o=>
   rw [e1,e2] at h
   have h':(if md=Md.sh then o else none)=some d:=Option.some.inj h
   split at h'
   ·rename_i hm; subst hm; rw [h']; exact ⟨rfl,rfl⟩
   ·cases h'
section
variable {X:Cx} {g:GE} {m:List Md} {r:Rho} {G:GH} {st:L2.St} {H:Hp}
theorem SI.forget (s:SI X g m r G st H):SI X g (zd2 m) (forget m r) G st H where
 gok:=s.gok
 old:=s.old
 ge:=s.ge
 gf:=s.gf
 lm:=by rw [zd2,List.length_map]; exact s.lm
 lr:=by rw [DL.forget,List.length_zipWith,s.lm,s.lr,Nat.min_self]
 sh:=fun i d h _=>s.sh i d (zc4 h).1 (zc4 h).2
 ow:=fun i d h hm=>by rw [zd2,List.getElem?_map,(zc4 h).2] at hm; cases hm
 bw:=fun i d h hm=>by rw [zd2,List.getElem?_map,(zc4 h).2] at hm; cases hm
 dis:=fun i j a d e _ h _ hm=>by rw [zd2,List.getElem?_map,(zc4 h).2] at hm; cases hm
 lk:=fun i o _ hm=>by rw [zd2,List.getElem?_map] at hm; cases q:m[i]? <;> rw [q] at hm <;> cases hm
theorem SI.set (s:SI X g m r G st H) (i:Nat) {v:V} {d:D} (hv:RG X.K G v d):SI X g (m.set i .sh) (r.set i (some d)) G (st.set i (some v)) H where
 gok:=s.gok
 old:=s.old
 ge:=s.ge
 gf:=s.gf
 lm:=by simp [s.lm]
 lr:=by simp [s.lr]
 sh:=fun j e h hm=>by
  by_cases hij:i=j
  ·subst hij
   have hl:i < r.length:=by
    have:=(List.getElem?_eq_some_iff.mp h).1
    simpa using this
   rw [List.getElem?_set_self hl] at h
   cases h
   exact ⟨v,by rw [List.getElem?_set_self (by rw [<-s.lr]; exact hl)],hv⟩
  ·rw [List.getElem?_set_ne hij] at h hm
   rw [List.getElem?_set_ne hij]
   exact s.sh j e h hm
 ow:=fun j e h hm=>by
  by_cases hij:i=j
  ·subst hij
   have hl:i < m.length:=by
    have:=(List.getElem?_eq_some_iff.mp hm).1
    simpa using this
   rw [List.getElem?_set_self hl] at hm; cases hm
  ·rw [List.getElem?_set_ne hij] at h hm
   rw [List.getElem?_set_ne hij]
   exact s.ow j e h hm
 bw:=fun j e h hm=>by
  by_cases hij:i=j
  ·subst hij
   have hl:i < m.length:=by
    have:=(List.getElem?_eq_some_iff.mp hm).1
    simpa using this
   rw [List.getElem?_set_self hl] at hm; cases hm
  ·rw [List.getElem?_set_ne hij] at h hm
   rw [List.getElem?_set_ne hij]
   exact s.bw j e h hm
 dis:=fun j k a d1 d2 hjk h1 h2 hm hm' q1 q2=>by
  have hij:i≠j:=by
   rintro rfl
   have hl:i < m.length:=by
    have:=(List.getElem?_eq_some_iff.mp hm).1
    simpa using this
   rw [List.getElem?_set_self hl] at hm; cases hm
  have hik:i≠k:=by
   rintro rfl
   have hl:i < m.length:=by
    have:=(List.getElem?_eq_some_iff.mp h2).1
    rw [List.length_set,s.lr,<-s.lm] at this; exact this
   rw [List.getElem?_set_self hl] at hm'; cases hm'
  rw [List.getElem?_set_ne hij] at h1 hm q1
  rw [List.getElem?_set_ne hik] at h2 hm' q2
  exact s.dis j k a d1 d2 hjk h1 h2 hm hm' q1 q2
 lk:=fun j o hj hm=>by
  have hij:i≠j:=by
   rintro rfl
   have hl:i < m.length:=by
    have:=(List.getElem?_eq_some_iff.mp hm).1
    simpa using this
   rw [List.getElem?_set_self hl] at hm; cases hm
  rw [List.getElem?_set_ne hij] at hm
  have:=s.lk j o hj hm
  exact ⟨by rw [List.getElem?_set_ne hij]; exact this.1,fun d h=>this.2 d (by rw [List.getElem?_set_ne hij] at h; exact h)⟩
theorem SI.setO (s:SI X g m r G st H) (i:Nat) {a:Addr} {d:D} (ho:Own X.K G H a d) (h0:g.h0 a=none) (hx:∀(j:Nat) (b:Addr) (e:D),r[j]? = some (some e)->m[j]? = some Md.ow->st[j]? = some (some (V.ref b))->b≠a) :
  SI X g (m.set i .ow) (r.set i (some d)) G (st.set i (some (V.ref a))) H where
 gok:=s.gok
 old:=s.old
 ge:=s.ge
 gf:=s.gf
 lm:=by simp [s.lm]
 lr:=by simp [s.lr]
 sh:=fun j e h hm=>by
  by_cases hij:i=j
  ·subst hij
   have hl:i < m.length:=by
    have:=(List.getElem?_eq_some_iff.mp hm).1
    simpa using this
   rw [List.getElem?_set_self hl] at hm; cases hm
  ·rw [List.getElem?_set_ne hij] at h hm
   rw [List.getElem?_set_ne hij]
   exact s.sh j e h hm
 ow:=fun j e h hm=>by
  by_cases hij:i=j
  ·subst hij
   have hl:i < r.length:=by
    have:=(List.getElem?_eq_some_iff.mp h).1
    simpa using this
   rw [List.getElem?_set_self hl] at h
   cases h
   exact ⟨a,by rw [List.getElem?_set_self (by rw [<-s.lr]; exact hl)],ho,h0⟩
  ·rw [List.getElem?_set_ne hij] at h hm
   rw [List.getElem?_set_ne hij]
   exact s.ow j e h hm
 bw:=fun j e h hm=>by
  by_cases hij:i=j
  ·subst hij
   have hl:i < m.length:=by
    have:=(List.getElem?_eq_some_iff.mp hm).1
    simpa using this
   rw [List.getElem?_set_self hl] at hm; cases hm
  ·rw [List.getElem?_set_ne hij] at h hm
   rw [List.getElem?_set_ne hij]
   exact s.bw j e h hm
 dis:=fun j k b d1 d2 hjk h1 h2 hm hm' q1 q2=>by
  by_cases hij:i=j
  ·subst hij
   rw [List.getElem?_set_ne hjk] at h2 hm' q2
   have hl:i < st.length:=by
    have:=(List.getElem?_eq_some_iff.mp q1).1
    simpa using this
   rw [List.getElem?_set_self hl] at q1
   have e:a=b:=by injection q1 with q1; injection q1 with q1; injection q1
   exact hx k b d2 h2 hm' q2 e.symm
  ·by_cases hik:i=k
   ·subst hik
    rw [List.getElem?_set_ne hij] at h1 hm q1
    have hl:i < st.length:=by
     have:=(List.getElem?_eq_some_iff.mp q2).1
     simpa using this
    rw [List.getElem?_set_self hl] at q2
    have e:a=b:=by injection q2 with q2; injection q2 with q2; injection q2
    exact hx j b d1 h1 hm q1 e.symm
   ·rw [List.getElem?_set_ne hij] at h1 hm q1
    rw [List.getElem?_set_ne hik] at h2 hm' q2
    exact s.dis j k b d1 d2 hjk h1 h2 hm hm' q1 q2
 lk:=fun j o hj hm=>by
  have hij:i≠j:=by
   rintro rfl
   have hl:i < m.length:=by
    have:=(List.getElem?_eq_some_iff.mp hm).1
    simpa using this
   rw [List.getElem?_set_self hl] at hm; cases hm
  rw [List.getElem?_set_ne hij] at hm
  have:=s.lk j o hj hm
  exact ⟨by rw [List.getElem?_set_ne hij]; exact this.1,fun d h=>this.2 d (by rw [List.getElem?_set_ne hij] at h; exact h)⟩
theorem SI.other (s:SI X g m r G st H) {p:Addr} (hp:G p=none) (h0:g.h0 p=none) (hm:∀(i:Nat),m[i]?≠some Md.ow) (o:HO):SI X g m r G st (upd H p o) where
 gok:=fun b e h=>(s.gok b e h).mono (fun _ _ z=>z) fun o' q=>by rw [zao (by rintro rfl; rw [hp] at h; cases h)]; exact q
 old:=fun b o' h=>by rw [zao (by rintro rfl; rw [h0] at h; cases h)]; exact s.old b o' h
 ge:=s.ge
 gf:=s.gf
 lm:=s.lm
 lr:=s.lr
 sh:=s.sh
 ow:=fun i d _ h=>absurd h (hm i)
 bw:=fun i d h1 h2=>by
  obtain ⟨v,h3,h4⟩:=s.bw i d h1 h2
  refine ⟨v,h3,?_⟩
  rcases h4 with h4 | ⟨a,rfl,h4,h5⟩
  ·exact .inl h4
  ·have ha:a≠p:=by rintro rfl; exact h5 h0
   exact .inr ⟨a,rfl,⟨h4.un,h4.ob.mono (fun _ _ z=>z) fun o' z=>by rw [zao ha]; exact z⟩,h5⟩
 dis:=fun i j a d e _ _ _ h=>absurd h (hm i)
 lk:=s.lk
theorem SI.less (s:SI X g m r G st H) {r':Rho} (hl:r'.length=r.length) (h:∀(i:Nat) d,r'[i]? = some (some d)->r[i]? = some (some d)):SI X g m r' G st H:=
 ⟨s.gok,s.old,s.ge,s.gf,s.lm,hl.trans s.lr,fun i d a b=>s.sh i d (h i d a) b,fun i d a b=>s.ow i d (h i d a) b,fun i d a b=>s.bw i d (h i d a) b,fun i j a d e n p q x y=>s.dis i j a d e n (h i d p) (h j e q) x y,fun i o hi hm=>by
  have:=s.lk i o hi hm
  exact ⟨this.1,fun d hd=>this.2 d (h i d hd)⟩⟩
theorem SI.held (s:SI X g m r G st H) {j:Nat} {b:Addr} {e:D} (h:r[j]? = some (some e)) (hm:m[j]? = some .ow) (hs:st[j]? = some (some (V.ref b))):H b≠none:=by
 obtain ⟨a,h1,h2,_⟩:=s.ow j e h hm
 rw [hs] at h1
 injection h1 with h1; injection h1 with h1; injection h1 with h1
 rw [h1]; exact h2.ob.isS
theorem SI.new (s:SI X g m r G st H) {a:Addr} (hn:H a=none):g.h0 a=none:=by
 cases q:g.h0 a with
 | none=>rfl
 | some o=>rw [s.old _ _ q] at hn; cases hn
theorem SI.setN (s:SI X g m r G st H) {G':GH} {H':Hp} (w:Grow X.K G H G' H') (i:Nat) {a:Addr} {d:D} (hn:H a=none) (ho:Own X.K G' H' a d):SI X g (m.set i .ow) (r.set i (some d)) G' (st.set i (some (V.ref a))) H':=by
 refine (s.grow w).setO i ho ?_ fun j b e h1 h2 h3=>?_
 ·cases q:g.h0 a with
  | none=>rfl
  | some o=>rw [s.old _ _ q] at hn; cases hn
 ·rintro rfl
  exact s.held h1 h2 h3 hn
theorem SI.mut (s:SI X g m r G st H) {i:Nat} {d:D} (hm:m[i]? = some .ow) (hd:r[i]? = some (some d)) :
  ∃a,st[i]? = some (some (V.ref a))/\Own X.K G H a d/\∀(o':HO) (d':D),OwnO X.K G (upd H a o') a d'->SI X g m (r.set i (some d')) G st (upd H a o'):=by
 obtain ⟨a,h1,h2,h3⟩:=s.ow i d hd hm
 have hl:i < r.length:=(List.getElem?_eq_some_iff.mp hd).1
 refine ⟨a,h1,h2,fun o' d' ob=>?_⟩
 have oth:∀(j:Nat) (b:Addr) (e:D),j≠i->r[j]? = some (some e)->m[j]? = some .ow->st[j]? = some (some (V.ref b))->b≠a:=fun j b e hj q1 q2 q3 z=>by
  subst z
  exact s.dis i j b d e (Ne.symm hj) hd q1 hm q2 h1 q3
 refine ⟨fun b e h=>?_,fun b o h=>?_,s.ge,s.gf,s.lm,by simp [s.lr],?_,?_,?_,?_,fun j o hj hm'=>?_⟩
 ·have hb:b≠a:=by rintro rfl; rw [h2.un] at h; cases h
  exact (s.gok b e h).mono (fun _ _ z=>z) fun o q=>by rw [zao hb]; exact q
 ·have hb:b≠a:=by rintro rfl; rw [h3] at h; cases h
  rw [zao hb]; exact s.old b o h
 ·intro j e h hm'
  have hij:i≠j:=by rintro rfl; rw [hm] at hm'; cases hm'
  rw [List.getElem?_set_ne hij] at h
  exact s.sh j e h hm'
 ·intro j e h hm'
  by_cases hij:i=j
  ·subst hij
   rw [List.getElem?_set_self hl] at h; cases h
   exact ⟨a,h1,⟨h2.un,ob⟩,h3⟩
  ·rw [List.getElem?_set_ne hij] at h
   obtain ⟨b,q1,q2,q3⟩:=s.ow j e h hm'
   have hb:=oth j b e (Ne.symm hij) h hm' q1
   exact ⟨b,q1,⟨q2.un,q2.ob.mono (fun _ _ z=>z) fun o z=>by rw [zao hb]; exact z⟩,q3⟩
 ·intro j e h hm'
  have hij:i≠j:=by rintro rfl; rw [hm] at hm'; cases hm'
  rw [List.getElem?_set_ne hij] at h
  obtain ⟨v,q1,q2⟩:=s.bw j e h hm'
  refine ⟨v,q1,?_⟩
  rcases q2 with q2 | ⟨b,rfl,q2,q3⟩
  ·exact .inl q2
  ·have hb:b≠a:=by rintro rfl; exact q3 h3
   exact .inr ⟨b,rfl,⟨q2.un,q2.ob.mono (fun _ _ z=>z) fun o z=>by rw [zao hb]; exact z⟩,q3⟩
 ·have bound:∀(j:Nat) e,(r.set i (some d'))[j]? = some (some e)->∃e',r[j]? = some (some e'):=fun j e h=>by
   by_cases hij:i=j
   ·subst hij; exact ⟨d,hd⟩
   ·rw [List.getElem?_set_ne hij] at h; exact ⟨e,h⟩
  intro j k b d1 d2 hjk q1 q2 p1 p2 z1 z2
  obtain ⟨e1,q1⟩:=bound j d1 q1
  obtain ⟨e2,q2⟩:=bound k d2 q2
  exact s.dis j k b e1 e2 hjk q1 q2 p1 p2 z1 z2
 ·have hij:i≠j:=by rintro rfl; rw [hm] at hm'; cases hm'
  have:=s.lk j o hj hm'
  exact ⟨this.1,fun d'' h=>this.2 d'' (by rw [List.getElem?_set_ne hij] at h; exact h)⟩
end
noncomputable def RV (ro:Bool) (K:W.Frag) (H0:Hp) (G:GH) (H:Hp) (v:V) (d:D):Prop:=match ro with
 | false=>RG K G v d
 | true=>(∃a,v=.ref a/\H0 a=none/\Own K G H a d)\/(d=.non/\v=.non)
noncomputable def oTo (X:Cx) (g:GE) (ro:Bool) (m' mb:List Md) (G:GH) (D:Ends):Out->Prop
 | .nx r'=>∀σ' G' H',Gle G G'->SI X g m' r' G' σ' H'->D.nx σ' H'
 | .rt d=>∀v G' H',Grow X.K g.gh g.h0 G' H'->RV ro X.K g.h0 G' H' v d->D.rt v H'
 | .bk r'=>∀σ' G' H',Gle G G'->SI X g mb r' G' σ' H'->D.bk σ' H'
 | .ct r'=>∀σ' G' H',Gle G G'->SI X g mb r' G' σ' H'->D.ct σ' H'
 | .exc x r'=>∀pins e s' σ' G' H',Gle G G'->SI X g (zd2 m') r' G' σ' H'->Inv X pins σ' H' s'->ExV X σ' G' H' e x s'->X.xe e s'
 | .stuck=>False
noncomputable def tS (X:Cx) (g:GE) (ro:Bool) (m m' mb:List Md) (f:FS):TS:=fun D σ H=>∃r G,SI X g m r G σ H/\oTo X g ro m' mb G D (f r)
noncomputable def SS (X:Cx) (g:GE) (ro:Bool) (mb m:List Md) (st:Stmt) (f:FS) (m':List Md):Prop:=m'.length=m.length/\PS X st (tS X g ro m m' mb f)
noncomputable def SSs (X:Cx) (g:GE) (ro:Bool) (mb m:List Md) (st:List Stmt) (f:FS) (m':List Md):Prop:=m'.length=m.length/\PSs X st (tS X g ro m m' mb f)
theorem zeF {m m':List Md} (h:m'.length=m.length):zd2 m'=zd2 m:=by
 unfold zd2
 rw [List.map_const',List.map_const',h]
theorem oTo.x {X:Cx} {g:GE} {ro:Bool} {m m' mb:List Md} {r:Rho} {G:GH} {D:Ends} {σ:L2.St} {H:Hp} {x:DL.D} (h:oTo X g ro m' mb G D (.exc x (forget m r))) (si:SI X g m r G σ H) (hl:m'.length=m.length):XW X σ G H x:=
 fun pins e s' G' H' w I ex=>h pins e s' σ G' H' w.ge (by rw [zeF hl]; exact (si.grow w).forget) I ex
section
variable {X:Cx} {g:GE} {ro:Bool} {m m' m1 mb:List Md} {e a b c tg:Expr} {f fa fb fc:FE} {p:FQ} {pos pos':Pos} {st:Stmt} {sts sts':List Stmt} {s1 s2:FS}
theorem oTo.gle {G G1:GH} {D:Ends} {o:Out} (h:oTo X g ro m' mb G D o) (w:Gle G G1):oTo X g ro m' mb G1 D o:=by
 cases o with
 | nx r'=>exact fun σ' G' H' q si=>h σ' G' H' (w.trans q) si
 | rt d=>exact h
 | bk r'=>exact fun σ' G' H' q si=>h σ' G' H' (w.trans q) si
 | ct r'=>exact fun σ' G' H' q si=>h σ' G' H' (w.trans q) si
 | exc x r'=>exact fun pins e s' σ' G' H' q=>h pins e s' σ' G' H' (w.trans q)
 | stuck=>exact h
noncomputable def seqF (s1 s2:FS):FS:=fun r=>match s1 r with
 | .nx r'=>s2 r'
 | o=>o
noncomputable def zal:FS:=fun r=>.nx r
theorem zag:SSs X g ro mb m [] zal m:=⟨rfl,PSs.imp zkz fun D σ H ⟨r,G,si,q⟩=>q σ G H (Gle.refl G) si⟩
theorem zaa (h1:SS X g ro mb m st s1 m1) (h2:SSs X g ro mb m1 sts s2 m'):SSs X g ro mb m (st::sts) (seqF s1 s2) m':=by
 refine ⟨h2.1.trans h1.1,PSs.imp (zez h1.2 h2.2) fun D σ H ⟨r,G,si,q⟩=>⟨r,G,si,?_⟩⟩
 unfold seqF at q
 cases e:s1 r with
 | nx r'=>
  rw [e] at q
  exact fun σ' G' H' w si'=>⟨r',G',si',oTo.gle q w⟩
 | rt d=>rw [e] at q; exact q
 | bk r'=>rw [e] at q; exact q
 | ct r'=>rw [e] at q; exact q
 | exc x r'=>rw [e] at q; exact fun pins e s' σ' G' H' w si'=>q pins e s' σ' G' H' w (by rw [zeF h2.1]; exact si')
 | stuck=>rw [e] at q; exact q
theorem zoD:SS X g ro mb m st (fun _=>.stuck) m:=⟨rfl,PS.imp zmE fun D σ H ⟨r,G,si,q⟩=>q⟩
theorem zki (i:Nat) (hi:m[i]? = some .ow) (h:SS X g ro mb (m.set i .sh) st s1 m'):SS X g ro mb m st s1 m':=by
 refine ⟨h.1.trans (by simp),fun pins s σ H D I ⟨r,G,si,q⟩=>?_⟩
 rcases si.frz i hi with ⟨G',le,si'⟩ | ⟨a,z⟩
 ·exact h.2 pins s σ H D I ⟨r,G',si',oTo.gle q le⟩
 ·obtain ⟨ob,I2⟩:=Inv.fast I a
  obtain ⟨G',le,si'⟩:=z ob
  exact h.2 pins s σ _ D I2 ⟨r,G',si',oTo.gle q le⟩
noncomputable def onE {α:Type} (m:List Md) (r:Rho) (x:Res α) (k:α->Out):Out:=match x with
 | .ok a=>k a
 | .exc e=>.exc e (forget m r)
 | .stuck=>.stuck
@[simp] theorem onE_ok {α:Type} (m:List Md) (r:Rho) (a:α) (k:α->Out):onE m r (.ok a) k=k a:=rfl
theorem zbU {α:Type} {x:Res α} {k:α->Out} {r:Rho} {G:GH} {D:Ends} {σ:L2.St} {H:Hp} (si:SI X g m r G σ H) (hl:m'.length=m.length) (h:oTo X g ro m' mb G D (onE m r x k)):fin x (fun a=>oTo X g ro m' mb G D (k a)) (XW X σ G H):=by
 cases x with
 | ok a=>exact h
 | exc e=>exact oTo.x h si hl
 | stuck=>exact h
noncomputable def setF (m:List Md) (i:Nat) (f:FE):FS:=fun r=>onE m r (f r) fun d=>.nx (r.set i (some d))
theorem zaT (i:Nat) {x:Str} (hN:X.N.Nodup) (hi:X.N[i]? = some x) (hx:Loc X.env.scope x) (he:SE X g m e f) (hs:swapsWith e (some (.Name x pos')) pos.line X.env=pure false:=by rfl)
  (hf:X.fn x=true\/X.env.scope.names.lookup x=some .local:=by first | exact .inl rfl | exact .inr rfl | assumption):SS X g ro mb m (.Assign [.Name x pos'] e pos) (setF m i f) (m.set i .sh):=by
 have hl:(m.set i .sh).length=m.length:=by simp
 refine ⟨hl,PS.imp (zkA hN hi hx he hs hf) fun D σ H ⟨r,G,si,q⟩=>⟨r,G,si,?_⟩⟩
 exact zai (zbU si hl q) fun d q v G' H' w rv=>q _ G' H' w.ge ((si.grow w).set i rv)
theorem zd8 (i:Nat) {x:Str} (hN:X.N.Nodup) (hi:X.N[i]? = some x) (hx:Loc X.env.scope x) (he:SO X g m e f) (hs:swapsWith e (some (.Name x pos')) pos.line X.env=pure false:=by rfl)
  (hf:X.fn x=true\/X.env.scope.names.lookup x=some .local:=by first | exact .inl rfl | exact .inr rfl | assumption):SS X g ro mb m (.Assign [.Name x pos'] e pos) (setF m i f) (m.set i .ow):=by
 have hl:(m.set i .ow).length=m.length:=by simp
 refine ⟨hl,PS.imp (zkA hN hi hx he hs hf) fun D σ H ⟨r,G,si,q⟩=>⟨r,G,si,?_⟩⟩
 exact zai (zbU si hl q) fun d q a G' H' w hn ho=>q _ G' H' w.ge (si.setN w i hn ho)
noncomputable def retF (m:List Md) (f:FE):FS:=fun r=>onE m r (f r) fun d=>.rt d
theorem zaJ (he:SE X g m e f):SS X g false mb m (.Return (some e) pos) (retF m f) m:=
 ⟨rfl,PS.imp (zqM he) fun D σ H ⟨r,G,si,q⟩=>⟨r,G,si,zai (zbU si rfl q) fun d q v G' H' w rv=>q v G' H' (si.grow w).grown rv⟩⟩
noncomputable def ifF (m:List Md) (p:FQ) (s1 s2:FS):FS:=fun r=>onE m r (p r) fun c=>if c=true then s1 r else s2 r
theorem s_if (hc:SQ X g m c p) (h1:SSs X g ro mb m sts s1 m') (h2:SSs X g ro mb m sts' s2 m'):SS X g ro mb m (.If c sts sts' pos) (ifF m p s1 s2) m':=by
 refine ⟨h1.1,PS.imp (zsQ hc h1.2 h2.2) fun D σ H ⟨r,G,si,q⟩=>⟨r,G,si,zai (zbU si h1.1 q) fun c q G' H' w=>?_⟩⟩
 cases c with
 | true=>rw [if_pos rfl] at q ⊢; exact ⟨r,G',si.grow w,oTo.gle q w.ge⟩
 | false=>rw [if_neg Bool.false_ne_true] at q ⊢; exact ⟨r,G',si.grow w,oTo.gle q w.ge⟩
theorem zhi (i:Nat) (h:SSs X g ro mb m sts s1 m') (hi:m'[i]? = some .ow):SSs X g ro mb m sts s1 (m'.set i .sh):=by
 refine ⟨by simp [h.1],fun pins s σ H D I ⟨r,G,si,q⟩=>?_⟩
 refine thn (h.2 pins s σ H ⟨fun σ' H'=>D.nx σ' H'\/∃a,∀ob,D.nx σ' (fz H' a ob),D.rt,D.bk,D.ct⟩ I ⟨r,G,si,?_⟩) fun f s' p=>?_
 ·cases e:s1 r with
  | nx r'=>
   rw [e] at q
   intro σ' G' H' w si'
   rcases si'.frz i hi with ⟨G2,le,si2⟩ | ⟨a,z⟩
   ·exact .inl (q σ' G2 H' (w.trans le) si2)
   ·refine .inr ⟨a,fun ob=>?_⟩
    obtain ⟨G2,le,si2⟩:=z ob
    exact q σ' G2 _ (w.trans le) si2
  | rt d=>rw [e] at q; exact q
  | bk r'=>rw [e] at q; exact q
  | ct r'=>rw [e] at q; exact q
  | exc x r'=>rw [e] at q; exact fun pins e s' σ' G' H' w si'=>q pins e s' σ' G' H' w (by rw [zeF (m:=m') (by simp)]; exact si')
  | stuck=>rw [e] at q; exact q
 ·cases f with
  | next=>
   obtain ⟨σ',H',I',z | ⟨a,z⟩⟩:=p
   ·exact ⟨σ',H',I',z⟩
   ·obtain ⟨ob,I2⟩:=Inv.fast I' a
    exact ⟨σ',_,I2,z ob⟩
  | brk=>exact p
  | cont=>exact p
  | ret u=>exact p
end
noncomputable abbrev FT:=D->Rho->Option Rho
noncomputable abbrev FTs:=List D->Rho->Option Rho
noncomputable def tG (X:Cx) (g:GE) (m m':List Md) (ft:FT):TG:=fun v σ H Q=>∃r G d,SI X g m r G σ H/\RG X.K G v d/\∃r',ft d r=some r'/\∀σ',SI X g m' r' G σ' H->Q σ' H
noncomputable def tGs (X:Cx) (g:GE) (m m':List Md) (ft:FTs):TGs:=fun vs σ H Q=>∃r G ds,SI X g m r G σ H/\RGs X.K G vs ds/\∃r',ft ds r=some r'/\∀σ',SI X g m' r' G σ' H->Q σ' H
theorem PG.imp {X:Cx} {e:Expr} {t t':TG} (h:PG X e t) (i:∀v σ H Q,t' v σ H Q->t v σ H Q):PG X e t':=fun pins s σ H v u Q I r q=>h pins s σ H v u Q I r (i v σ H Q q)
theorem PGs.imp {X:Cx} {e:List Expr} {t t':TGs} (h:PGs X e t) (i:∀v σ H Q,t' v σ H Q->t v σ H Q):PGs X e t':=fun pins s σ H v u Q I r q=>h pins s σ H v u Q I r (i v σ H Q q)
noncomputable def SG (X:Cx) (g:GE) (m:List Md) (tg:Expr) (ft:FT) (m':List Md):Prop:=m'.length=m.length/\PG X tg (tG X g m m' ft)
structure SGs (X:Cx) (g:GE) (m:List Md) (ts:List Expr) (n:Nat) (ft:FTs) (m':List Md):Prop where
 ml:m'.length=m.length
 ln:∀ds r r',ft ds r=some r'->ds.length=n
 pg:PGs X ts (tGs X g m m' ft)
noncomputable def ftN (i:Nat):FT:=fun d r=>some (r.set i (some d))
noncomputable def ftT (ft:FTs):FT:=fun d r=>match d with
 | .tup ds=>ft ds r
 | .lst ds=>ft ds r
 | _=>none
noncomputable def zc3:FTs:=fun ds r=>match ds with
 | []=>some r
 | _=>none
noncomputable def zaC (ft:FT) (fts:FTs):FTs:=fun ds r=>match ds with
 | []=>none
 | d::ds=>(ft d r).bind fun r'=>fts ds r'
section
variable {X:Cx} {g:GE} {m m' m1:List Md} {tg:Expr} {ts:List Expr} {ft:FT} {fts:FTs} {pos:Pos} {n:Nat}
theorem zaw (i:Nat) {x:Str} (hN:X.N.Nodup) (hi:X.N[i]? = some x) (hx:Loc X.env.scope x) (hf:X.fn x=true\/X.env.scope.names.lookup x=some .local:=by first | exact .inl rfl | exact .inr rfl | assumption) :
  SG X g m (.Name x pos) (ftN i) (m.set i .sh):=
 ⟨by simp,PG.imp (zoY hN hi hx hf) fun v σ H Q ⟨r,G,d,si,rv,r',e,k⟩=>by cases e; exact k _ (si.set i rv)⟩
theorem zgW:SGs X g m [] 0 zc3 m:=by
 refine ⟨rfl,fun ds r r' e=>?_,PGs.imp zoX fun v σ H Q ⟨r,G,ds,si,rv,r',e,k⟩=>?_⟩
 ·cases ds with
  | nil=>rfl
  | cons _ _=>cases e
 ·cases rv with
  | nil=>cases e; exact ⟨rfl,k σ si⟩
  | cons _ _=>cases e
theorem zbT (h1:SG X g m tg ft m1) (h2:SGs X g m1 ts n fts m') (hs:(assignEach (tg::ts) X.env).map (·.2)=assign tg X.env::(assignEach ts X.env).map (·.2):=by rfl):SGs X g m (tg::ts) (n + 1) (zaC ft fts) m':=by
 refine ⟨h2.ml.trans h1.1,fun ds r r' e=>?_,PGs.imp (zmI h1.2 h2.pg hs) fun v σ H Q ⟨r,G,ds,si,rv,r',e,k⟩=>?_⟩
 ·cases ds with
  | nil=>cases e
  | cons d ds=>
   have e':((ft d r).bind fun r'=>fts ds r')=some r':=e
   cases q:ft d r with
   | none=>rw [q] at e'; cases e'
   | some r1=>
    rw [q] at e'
    have:=h2.ln ds r1 r' e'
    simp [this]
 ·cases rv with
  | nil=>cases e
  | @cons v0 d vs ds rv rs=>
   have e':((ft d r).bind fun r'=>fts ds r')=some r':=e
   cases q:ft d r with
   | none=>rw [q] at e'; cases e'
   | some r1=>
    rw [q] at e'
    exact ⟨_,_,rfl,r,G,d,si,rv,r1,q,fun σ' si'=>⟨r1,G,ds,si',rs,r',e',k⟩⟩
theorem zqP {k:Nat} {t:TGs} (hc:X.calm=true) (h:PGs X ts t) (hn:(assignEach ts X.env).length=n) (hst:(assignEach ts X.env).findIdx? (·.1)=none) :
  PG X (.Tuple ts k pos) (fun v σ H Q=>∃a xs,v=.ref a/\SqL X.K H a xs/\xs.length=n/\t xs σ H Q):=by
 intro pins s σ H v u Q I r hw
 obtain ⟨a,xs,e1,hq,hl,hw⟩:=hw
 subst e1
 cases r
 obtain ⟨its,rv,⟨o,nn,l1,l2,l3,l4⟩,hz⟩:=I.list hq
 rw [PyProof.Rows.assign_Tuple]
 refine wpAny_bind (wpAny_standAt ?_)
 unfold unpack
 rw [hst,show (assignEach ts X.env).length=its.toArray.size by simp [hn,<-hl,rv.length]]
 refine wpAny_bind (wpAny_holding (W.kun_itemsOf (I.ok.hd hc) ⟨o,l1,l2,nn,l4⟩ fun h' hx=>?_))
 have I1:Inv X pins σ H { s with heap:=h' }:=I.kept (t':=s.toks) fun b o e=>hx b o (Nat.ne_of_lt (Heap.lt_size e)) e
 exact h pins _ σ H xs _ Q I1 (by simpa using rv) hw
theorem PG.or {e:Expr} {t t':TG} (h:PG X e t) (h':PG X e t'):PG X e (fun v σ H Q=>t v σ H Q\/t' v σ H Q):=fun pins s σ H v u Q I r q=>q.elim (h pins s σ H v u Q I r) (h' pins s σ H v u Q I r)
theorem zgV {k:Nat} (hc:X.calm=true) (h:SGs X g m ts n fts m') (hn:(assignEach ts X.env).length=n:=by rfl) (hst:(assignEach ts X.env).findIdx? (·.1)=none:=by rfl):SG X g m (.Tuple ts k pos) (ftT fts) m':=by
 refine ⟨h.ml,PG.imp (PG.or (zqQ hc h.pg hn hst) (zqP hc h.pg hn hst)) fun v σ H Q ⟨r,G,d,si,rv,r',e,k⟩=>?_⟩
 cases d with
 | tup ds=>
  obtain ⟨a,xs,rfl,s,rs⟩:=rv.tup si.gok
  exact .inl ⟨a,xs,rfl,s,(Paired.length rs).trans (h.ln ds r r' e),r,G,ds,si,rs,r',e,k⟩
 | lst ds=>
  obtain ⟨a,xs,rfl,s,rs⟩:=rv.lst si.gok
  exact .inr ⟨a,xs,rfl,s,(Paired.length rs).trans (h.ln ds r r' e),r,G,ds,si,rs,r',e,k⟩
 | _=>cases e
end
structure Yields (K:W.Frag) (J:It) (ds:List D) (G0:GH):Prop where
 go:∀G H (i:Nat),Gle G0 G->GOk K G H->i < ds.length->J.go i H
 yld:∀G H (i:Nat) x H' d,Gle G0 G->GOk K G H->J.yld i H x H'->ds[i]? = some d->∃G',Grow K G H G' H'/\RG K G' x d
 stop:∀G H,Gle G0 G->GOk K G H->J.stop ds.length H
noncomputable abbrev FI:=Rho->Res (List D)
noncomputable def tI (X:Cx) (g:GE) (m:List Md) (f:FI):TI:=fun σ H R=>∃r G,SI X g m r G σ H/\fin (f r) (fun ds=>∀J G' H',Grow X.K G H G' H'->Yields X.K J ds G'->R J H') (XW X σ G H)
noncomputable def SIt (X:Cx) (g:GE) (m:List Md) (tg iter:Expr) (f:FI):Prop:=PI X tg iter (tI X g m f)
theorem PI.imp {X:Cx} {tg e:Expr} {t t':TI} (h:PI X tg e t) (i:∀σ H Q,t' σ H Q->t σ H Q):PI X tg e t':=fun pins s σ H R I q=>h pins s σ H R I (i σ H R q)
theorem zh0 {K:W.Frag} {a:Addr} {ds:List D} {G0:GH} (h0:RG K G0 (.ref a) (.lst ds)):Yields K (Itl K a) ds G0:=by
 have at_:∀G H,Gle G0 G->GOk K G H->∃xs,SqL K H a xs/\RGs K G xs ds:=fun G H w gk=>by
  obtain ⟨b,xs,e,s,r⟩:=(h0.mono w).lst gk
  cases e
  exact ⟨xs,s,r⟩
 refine ⟨fun G H i w gk hi=>?_,fun G H i x H' d w gk y e=>?_,fun G H w gk=>?_⟩
 ·obtain ⟨xs,s,r⟩:=at_ G H w gk
  have hl:=Paired.length r
  exact ⟨xs,xs[i],s,List.getElem?_eq_getElem (by omega)⟩
 ·obtain ⟨xs,s,r⟩:=at_ G H w gk
  obtain ⟨rfl,y⟩:=y
  obtain ⟨v,e1,rv⟩:=Paired.get r e
  have:=y xs s
  rw [e1] at this; cases this
  exact ⟨G,Grow.refl gk,rv⟩
 ·obtain ⟨xs,s,r⟩:=at_ G H w gk
  exact ⟨xs,s,Nat.le_of_eq (Paired.length r)⟩
theorem zjX {K:W.Frag} {a:Addr} {ds:List D} {G0:GH} (h0:RG K G0 (.ref a) (.tup ds)):Yields K (Itt K a) ds G0:=by
 have at_:∀G H,Gle G0 G->GOk K G H->∃xs,SqT K H a xs/\RGs K G xs ds:=fun G H w gk=>by
  obtain ⟨b,xs,e,s,r⟩:=(h0.mono w).tup gk
  cases e
  exact ⟨xs,s,r⟩
 refine ⟨fun G H i w gk hi=>?_,fun G H i x H' d w gk y e=>?_,fun G H w gk=>?_⟩
 ·obtain ⟨xs,s,r⟩:=at_ G H w gk
  have hl:=Paired.length r
  exact ⟨xs,xs[i],s,List.getElem?_eq_getElem (by omega)⟩
 ·obtain ⟨xs,s,r⟩:=at_ G H w gk
  obtain ⟨rfl,y⟩:=y
  obtain ⟨v,e1,rv⟩:=Paired.get r e
  have:=y xs s
  rw [e1] at this; cases this
  exact ⟨G,Grow.refl gk,rv⟩
 ·obtain ⟨xs,s,r⟩:=at_ G H w gk
  exact ⟨xs,s,Nat.le_of_eq (Paired.length r)⟩
noncomputable def rngD (lo:Int) (n:Nat):List D:=(List.range n).map fun (i:Nat)=>D.int (lo + (i:Int))
theorem zpR {K:W.Frag} {lo:Int} {n:Nat} {G0:GH}:Yields K (Itr lo n) (rngD lo n) G0:=by
 have hl:(rngD lo n).length=n:=by simp [rngD]
 refine ⟨fun G H i w gk hi=>(by rw [hl] at hi; exact hi),fun G H i x H' d w gk y e=>?_,fun G H w gk=>(by rw [hl]; exact Nat.le_refl _)⟩
 obtain ⟨rfl,rfl⟩:=y
 have hi:i < n:=by
  have:=(List.getElem?_eq_some_iff.mp e).1
  rw [hl] at this; exact this
 unfold rngD at e
 rw [List.getElem?_map,List.getElem?_range hi] at e
 cases e
 exact ⟨G,Grow.refl gk,.scl (.int _)⟩
noncomputable def zbf:D->Option (List D)
 | .lst ds=>some ds
 | .tup ds=>some ds
 | _=>none
section
variable {X:Cx} {g:GE} {m m' m1 mb:List Md} {tg e a b c iter:Expr} {f fa fb:FE} {p:FQ} {pos pos':Pos} {ro:Bool} {fl:Rho->Res (List D)} {sts:List Stmt} {s1:FS}
noncomputable def fSeq (k:D->Option (List D)) (f:FE):FI:=fun r=>(f r).bind fun d=>opt (k d)
theorem zkF {l:Expr} {tl:TE} (hl:PE X l tl):PI X tg l (fun σ H R=>tl σ H fun x H1=>(∃a,x=.ref a/\(∃xs,SqL X.K H1 a xs)/\R (Itl X.K a) H1)\/∃a,x=.ref a/\(∃xs,SqT X.K H1 a xs)/\R (Itt X.K a) H1):=by
 intro pins s σ H R I h
 refine thn (hl pins s σ H _ I h) fun v s1 ⟨x,H1,I1,r1,q1⟩=>?_
 rcases q1 with ⟨a,e,⟨xs,hq⟩,q⟩ | ⟨a,e,⟨xs,hq⟩,q⟩
 ·subst e
  cases r1
  obtain ⟨its,rv,p,hz⟩:=I1.list hq
  refine wpAny_pyIter_list p.isList ?_
  refine ⟨s1.heap.objs.size,[s1.heap.objs.size],_,_,H1,rfl,I1.kept (t':=s1.toks) fun b o e=>Heap.get?_push_of_some _ e,zj1 a _,⟨_,Heap.get?_push_size _ rfl,rfl,rfl⟩,fun b hb=>?_,q⟩
  have e:b=s1.heap.objs.size:=by simpa using hb
  subst e
  exact I1.fpOk (Nat.le_refl _) (I1.hok.fresh (Nat.le_refl _))
 ·subst e
  cases r1
  obtain ⟨its,rv,p,hz⟩:=I1.tuple hq
  refine wpAny_pyIter_tuple (show s1.heap.IsTuple a its.toArray from p) ?_
  refine ⟨s1.heap.objs.size,[s1.heap.objs.size],_,_,H1,rfl,I1.kept (t':=s1.toks) fun b o e=>Heap.get?_push_of_some _ e,zjo a _,⟨_,Heap.get?_push_size _ rfl,rfl,rfl⟩,fun b hb=>?_,q⟩
  have e:b=s1.heap.objs.size:=by simpa using hb
  subst e
  exact I1.fpOk (Nat.le_refl _) (I1.hok.fresh (Nat.le_refl _))
theorem zm8 (h:SE X g m e f):SIt X g m tg e (fSeq zbf f):=by
 refine PI.imp (zkF h) fun σ H R ⟨r,G,si,q⟩=>⟨r,G,si,zai (zah q) fun d q v G' H' w rv=>?_⟩
 obtain ⟨ds,e,q⟩:=zaB q
 cases d with
 | lst ds'=>
  cases e
  obtain ⟨a,xs,rfl,s,rs⟩:=rv.lst w.ok
  exact .inl ⟨a,rfl,⟨xs,s⟩,q _ G' H' w (zh0 rv)⟩
 | tup ds'=>
  cases e
  obtain ⟨a,xs,rfl,s,rs⟩:=rv.tup w.ok
  exact .inr ⟨a,rfl,⟨xs,s⟩,q _ G' H' w (zjX rv)⟩
 | _=>cases e
structure YieldsC (K:W.Frag) (J:It) (ds:List D) (G0:GH) (H0:Hp):Prop where
 go:∀G H (i:Nat),Grow K G0 H0 G H->i < ds.length->J.go i H
 yld:∀G H (i:Nat) x H' d,Grow K G0 H0 G H->J.yld i H x H'->ds[i]? = some d->∃G',Grow K G H G' H'/\RG K G' x d
 stop:∀G H,Grow K G0 H0 G H->J.stop ds.length H
theorem Yields.toC {K:W.Frag} {J:It} {ds:List D} {G0:GH} {H0:Hp} (y:Yields K J ds G0):YieldsC K J ds G0 H0:=
 ⟨fun G H i w hi=>y.go G H i w.ge w.ok hi,fun G H i x H' d w q e=>y.yld G H i x H' d w.ge w.ok q e,fun G H w=>y.stop G H w.ge w.ok⟩
noncomputable def tIC (X:Cx) (g:GE) (m:List Md) (f:FI):TI:=fun σ H R=>∃r G,SI X g m r G σ H/\fin (f r) (fun ds=>∀J G' H',Grow X.K G H G' H'->YieldsC X.K J ds G' H'->R J H') (XW X σ G H)
noncomputable def SItC (X:Cx) (g:GE) (m:List Md) (tg iter:Expr) (f:FI):Prop:=PI X tg iter (tIC X g m f)
theorem SIt.toC {fi:FI} (h:SIt X g m tg iter fi):SItC X g m tg iter fi:=PI.imp h fun σ H R ⟨r,G,si,q⟩=>⟨r,G,si,zai q fun ds k J G' H' w y=>k J G' H' w y.toC⟩
theorem zpS {K:W.Frag} {a:Addr} {ds:List D} {G0:GH} {H0:Hp} (o:Own K G0 H0 a (.lst ds)):YieldsC K (Itl K a) ds G0 H0:=by
 have at_:∀G H,Grow K G0 H0 G H->∃xs,SqL K H a xs/\RGs K G xs ds:=fun G H w=>by
  cases (o.mono w).ob with
  | lst r s=>exact ⟨_,SqL.of r,s⟩
 refine ⟨fun G H i w hi=>?_,fun G H i x H' d w y e=>?_,fun G H w=>?_⟩
 ·obtain ⟨xs,s,r⟩:=at_ G H w
  have hl:=Paired.length r
  exact ⟨xs,xs[i],s,List.getElem?_eq_getElem (by omega)⟩
 ·obtain ⟨xs,s,r⟩:=at_ G H w
  obtain ⟨rfl,y⟩:=y
  obtain ⟨v,e1,rv⟩:=Paired.get r e
  have:=y xs s
  rw [e1] at this; cases this
  exact ⟨G,Grow.refl w.ok,rv⟩
 ·obtain ⟨xs,s,r⟩:=at_ G H w
  exact ⟨xs,s,Nat.le_of_eq (Paired.length r)⟩
theorem zdz (h:SB X g m e f):SItC X g m tg e (fSeq zbf f):=by
 refine PI.imp (zkF h) fun σ H R ⟨r,G,si,q⟩=>⟨r,G,si,zai (zah q) fun d q v G' H' w rv=>?_⟩
 obtain ⟨ds,e,q⟩:=zaB q
 cases d with
 | lst ds'=>
  cases e
  rcases rv with rv | ⟨a,rfl,o⟩
  ·obtain ⟨a,xs,rfl,s,rs⟩:=rv.lst w.ok
   exact .inl ⟨a,rfl,⟨xs,s⟩,q _ G' H' w (zh0 rv).toC⟩
  ·cases o.ob with
   | lst r s=>exact .inl ⟨a,rfl,⟨_,SqL.of r⟩,q _ G' H' w (zpS o)⟩
 | tup ds'=>
  cases e
  rcases rv with rv | ⟨a,rfl,o⟩
  ·obtain ⟨a,xs,rfl,s,rs⟩:=rv.tup w.ok
   exact .inr ⟨a,rfl,⟨xs,s⟩,q _ G' H' w (zjX rv).toC⟩
  ·cases o.ob
 | _=>cases e
noncomputable def rng1:List D->Option (List D)
 | [.int j]=>if -(2 ^ 62)<=j/\j < 2 ^ 62 then some (rngD 0 j.toNat) else none
 | _=>none
noncomputable def fRng (k:List D->Option (List D)) (fl:Rho->Res (List D)):FI:=fun r=>(fl r).bind fun ds=>opt (k ds)
theorem zbY {pn:Pos} (hg:Gl X "range") (hm:X.mg "range" = none) (ha:SAB X g m [a] fl) (hs:starEach [a] X.env=[(false,eval a X.env)]:=by rfl):SIt X g m tg (.Call (.Name "range" pn) [a] [] pos) (fRng rng1 fl):=by
 refine PI.imp (zkG hg hm ha hs) fun σ H R ⟨r,G,si,q⟩=>⟨r,G,si,zai (zah q) fun ds q vs G' H' w rs=>?_⟩
 obtain ⟨zs,e,q⟩:=zaB q
 unfold rng1 at e
 split at e
 ·split at e
  ·rename_i j hj
   cases e
   cases rs with
   | cons r1 t=>cases t; exact ⟨j,by rw [r1.int w.ok],hj.1,hj.2,q _ G' H' w zpR⟩
  ·cases e
 ·cases e
noncomputable def forF (ft:FT) (body:FS):List D->FS
 | [],r=>.nx r
 | d::ds,r=>match ft d r with
  | none=>.stuck
  | some r1=>match body r1 with
   | .nx r'=>forF ft body ds r'
   | .ct r'=>forF ft body ds r'
   | .bk r'=>.nx r'
   | o=>o
noncomputable def zbL (m:List Md) (fi:FI) (ft:FT) (body:FS):FS:=fun r=>onE m r (fi r) fun ds=>forF ft body ds r
theorem zen (hp:PassesOwn (model X.prog X.w) X.A X.env X.xe) (hc:X.calm=true) {ft:FT} {fi:FI} (hi:SIt X g m tg iter fi) (hg:SG X g m tg ft m) (hb:SSs X g ro m m sts s1 m)
  (hs:∀x,foldedSetIterable iter X.env x=pure x:=by intro _; rfl):SS X g ro mb m (.For tg iter sts [] pos) (zbL m fi ft s1) m:=by
 refine ⟨rfl,PS.imp (zht hp hc hi hg.2 hb.2 hs) fun D σ H ⟨r,G,si,q⟩=>⟨r,G,si,zai (zbU si rfl q) fun ds q J G0 H0 w0 Y=>?_⟩⟩
 refine ⟨fun i n σ H=>∃r G,SI X g m r G σ H/\Gle G0 G/\i<=ds.length/\n=ds.length - i/\oTo X g ro m mb G D (forF ft s1 (ds.drop i) r),⟨ds.length,r,G0,si.grow w0,Gle.refl G0,Nat.zero_le _,rfl,oTo.gle q w0.ge⟩,?_⟩
 rintro i n σ1 H1 ⟨r1,G1,si1,le1,hi,rfl,q1⟩
 by_cases hlt:i < ds.length
 ·have hd:ds.drop i=ds[i]::ds.drop (i + 1):=List.drop_eq_getElem_cons hlt
  rw [hd] at q1
  unfold forF at q1
  refine .inr ⟨Y.go G1 H1 i le1 si1.gok hlt,fun σ' H'=>∃r G,SI X g m r G σ' H'/\Gle G0 G/\oTo X g ro m mb G D (forF ft s1 (ds.drop (i + 1)) r),fun σ' H' ⟨r',G',si',le',q'⟩=>⟨ds.length - (i + 1),by omega,r',G',si',le',hlt,rfl,q'⟩,fun x H' y=>?_⟩
  obtain ⟨G',w',rv⟩:=Y.yld G1 H1 i x H' ds[i] le1 si1.gok y (List.getElem?_eq_getElem hlt)
  have le':Gle G0 G':=le1.trans w'.ge
  cases eft:ft ds[i] r1 with
  | none=>simp only [eft] at q1; exact q1.elim
  | some r2=>
   simp only [eft] at q1
   refine ⟨r1,G',ds[i],si1.grow w',rv,r2,eft,fun σ2 si2=>⟨r2,G',si2,?_⟩⟩
   cases eb:s1 r2 with
   | nx r'=>simp only [eb] at q1; exact fun σ3 G3 H3 le3 si3=>⟨r',G3,si3,le'.trans le3,oTo.gle q1 (Gle.trans w'.ge le3)⟩
   | ct r'=>simp only [eb] at q1; exact fun σ3 G3 H3 le3 si3=>⟨r',G3,si3,le'.trans le3,oTo.gle q1 (Gle.trans w'.ge le3)⟩
   | bk r'=>simp only [eb] at q1; exact fun σ3 G3 H3 le3 si3=>q1 σ3 G3 H3 (Gle.trans w'.ge le3) si3
   | rt d=>simp only [eb] at q1; exact q1
   | exc x r'=>simp only [eb] at q1; exact fun pins e s' σ3 G3 H3 le3=>q1 pins e s' σ3 G3 H3 (Gle.trans w'.ge le3)
   | stuck=>simp only [eb] at q1; exact q1
 ·have e:i=ds.length:=by omega
  subst e
  rw [List.drop_length] at q1
  exact .inl ⟨Y.stop G1 H1 le1 si1.gok,q1 σ1 G1 H1 (Gle.refl _) si1⟩
noncomputable def zbM (m:List Md):List Md:=m.map fun x=>if x=Md.sh then Md.sh else Md.bw
noncomputable def zij (m:List Md) (r:Rho) (st:L2.St) (G:GH) (H:Hp):GE:=⟨G,H,fun i=>if m[i]? = some Md.ow\/m[i]? = some Md.bw then some ((st[i]?).join,(r[i]?).join) else none⟩
theorem zdy {m:List Md} {i:Nat} {x:Md} (h:m[i]? = some x):(zbM m)[i]? = some (if x=Md.sh then Md.sh else Md.bw):=by
 unfold zbM; rw [List.getElem?_map,h]; rfl
theorem zm0 {m:List Md} {i:Nat} (h:(zbM m)[i]? = some Md.sh):m[i]? = some Md.sh:=by
 cases q:m[i]? with
 | none=>unfold zbM at h; rw [List.getElem?_map,q] at h; cases h
 | some x=>
  rw [zdy q] at h
  cases x <;> first | rfl | (simp at h)
theorem zi2 {m:List Md} {i:Nat} (h:(zbM m)[i]? = some Md.ow):False:=by
 cases q:m[i]? with
 | none=>unfold zbM at h; rw [List.getElem?_map,q] at h; cases h
 | some x=>
  rw [zdy q] at h
  cases x <;> simp at h
theorem lockM_bw {m:List Md} {i:Nat} (h:(zbM m)[i]? = some Md.bw):m[i]? = some Md.ow\/m[i]? = some Md.bw:=by
 cases q:m[i]? with
 | none=>unfold zbM at h; rw [List.getElem?_map,q] at h; cases h
 | some x=>
  rw [zdy q] at h
  cases x with
  | sh=>simp at h
  | ow=>exact .inl rfl
  | bw=>exact .inr rfl
theorem SI.lock {r:Rho} {G:GH} {st:L2.St} {H:Hp} (s:SI X g m r G st H):SI X (zij m r st G H) (zbM m) r G st H where
 gok:=s.gok
 old:=fun _ _ e=>e
 ge:=fun _ _ e=>e
 gf:=fun _ _=>rfl
 lm:=by unfold zbM; rw [List.length_map]; exact s.lm
 lr:=s.lr
 sh:=fun i d h hm=>s.sh i d h (zm0 hm)
 ow:=fun i d h hm=>(zi2 hm).elim
 bw:=fun i d h hm=>by
  rcases lockM_bw hm with z | z
  ·obtain ⟨a,h1,h2,_⟩:=s.ow i d h z
   exact ⟨_,h1,.inr ⟨a,rfl,h2,h2.ob.isS⟩⟩
  ·obtain ⟨v,h1,h2⟩:=s.bw i d h z
   refine ⟨v,h1,?_⟩
   rcases h2 with h2 | ⟨a,e,h2,_⟩
   ·exact .inl h2
   ·exact .inr ⟨a,e,h2,h2.ob.isS⟩
 dis:=fun i j a d e _ _ _ hm=>(zi2 hm).elim
 lk:=fun i o h hm=>by
  have h':(if m[i]? = some Md.ow\/m[i]? = some Md.bw then some ((st[i]?).join,(r[i]?).join) else none)=some o:=h
  rw [if_pos (lockM_bw hm)] at h'
  cases h'
  have hi:i < st.length:=by
   have:=(List.getElem?_eq_some_iff.mp hm).1
   unfold zbM at this
   rw [List.length_map,s.lm] at this; exact this
  refine ⟨?_,fun d hd=>by rw [hd]; rfl⟩
  rw [List.getElem?_eq_getElem hi]; rfl
theorem SI.unlock {r r':Rho} {G G':GH} {st st':L2.St} {H H':Hp} (s:SI X g m r G st H) (s':SI X (zij m r st G H) (zbM m) r' G' st' H'):SI X g m r' G' st' H':=by
 have w:Grow X.K G H G' H':=s'.grown
 have hlk:∀(i:Nat),(m[i]? = some Md.ow\/m[i]? = some Md.bw)->st'[i]? = some (st[i]?).join/\∀d,r'[i]? = some (some d)->r[i]? = some (some d):=fun i hi=>by
  have hm:(zbM m)[i]? = some Md.bw:=by
   rcases hi with z | z <;> rw [zdy z] <;> simp
  obtain ⟨h1,h2⟩:=s'.lk i ((st[i]?).join,(r[i]?).join) (if_pos hi) hm
  refine ⟨h1,fun d hd=>?_⟩
  have:=h2 d hd
  cases q:r[i]? with
  | none=>rw [q] at this; cases this
  | some o=>rw [q] at this; rw [show o=some d from this]
 have hst:∀(i:Nat) v,(m[i]? = some Md.ow\/m[i]? = some Md.bw)->st[i]? = some (some v)->st'[i]? = some (some v):=fun i v hi h=>by
  rw [(hlk i hi).1,h]; rfl
 refine ⟨s'.gok,fun a o e=>s'.old a o (s.old a o e),fun a d e=>s'.ge a d (s.ge a d e),fun a h=>?_,?_,s'.lr,fun i d h hm=>?_,fun i d h hm=>?_,fun i d h hm=>?_,fun i j a d e hij h1 h2 m1 m2 q1 q2=>?_,fun i o hi hm=>?_⟩
 ·have h1:H a≠none:=by
   cases e:g.h0 a with
   | none=>exact absurd e h
   | some o=>rw [s.old _ _ e]; simp
  rw [w.gf a h1,s.gf a h]
 ·have:=s'.lm
  unfold zbM at this
  rw [List.length_map] at this; exact this
 ·exact s'.sh i d h (by rw [zdy hm]; simp)
 ·obtain ⟨a,h1,h2,h3⟩:=s.ow i d ((hlk i (.inl hm)).2 d h) hm
  exact ⟨a,hst i _ (.inl hm) h1,h2.mono w,h3⟩
 ·obtain ⟨v,h1,h2⟩:=s.bw i d ((hlk i (.inr hm)).2 d h) hm
  exact ⟨v,hst i _ (.inr hm) h1,h2.grow w⟩
 ·have e1:=(hlk i (.inl m1)).2 d h1
  have e2:=(hlk j (.inl m2)).2 e h2
  obtain ⟨b,z1,_,_⟩:=s.ow i d e1 m1
  obtain ⟨c,z2,_,_⟩:=s.ow j e e2 m2
  have y1:=hst i _ (.inl m1) z1
  have y2:=hst j _ (.inl m2) z2
  rw [q1] at y1
  rw [q2] at y2
  cases y1
  cases y2
  exact s.dis i j a d e hij e1 e2 m1 m2 z1 z2
 ·obtain ⟨h1,h2⟩:=s.lk i o hi hm
  refine ⟨?_,fun d hd=>h2 d ((hlk i (.inr hm)).2 d hd)⟩
  rw [(hlk i (.inr hm)).1,h1]; rfl
theorem SI.unlockX {r r':Rho} {G G':GH} {st st':L2.St} {H H':Hp} (s:SI X g m r G st H) (s':SI X (zij m r st G H) (zd2 (zbM m)) r' G' st' H'):SI X g (zd2 m) r' G' st' H':=by
 have w:Grow X.K G H G' H':=s'.grown
 have el:zd2 (zbM m)=zd2 m:=zeF (by unfold zbM; rw [List.length_map])
 rw [el] at s'
 have no:∀{i:Nat} {x:Md},(zd2 m)[i]? = some x->x=Md.sh:=fun {i x} h=>by
  unfold zd2 at h
  rw [List.getElem?_map] at h
  cases q:m[i]? with
  | none=>rw [q] at h; cases h
  | some y=>rw [q] at h; cases h; rfl
 refine ⟨s'.gok,fun a o e=>s'.old a o (s.old a o e),fun a d e=>s'.ge a d (s.ge a d e),fun a h=>?_,s'.lm,s'.lr,s'.sh,fun i d h hm=>(nomatch (no hm)),fun i d h hm=>(nomatch (no hm)),fun i j a d e hij h1 h2 m1 m2=>(nomatch (no m1)),fun i o hi hm=>(nomatch (no hm))⟩
 have h1:H a≠none:=by
  cases e:g.h0 a with
  | none=>exact absurd e h
  | some o=>rw [s.old _ _ e]; simp
 rw [w.gf a h1,s.gf a h]
theorem zkj (hp:PassesOwn (model X.prog X.w) X.A X.env X.xe) (hc:X.calm=true) {ft:FT} {fi:FI} (hi:SItC X g m tg iter fi) (hg:∀g',SG X g' (zbM m) tg ft (zbM m)) (hb:∀g',SSs X g' ro (zbM m) (zbM m) sts s1 (zbM m))
  (hs:∀x,foldedSetIterable iter X.env x=pure x:=by intro _; rfl):SS X g ro mb m (.For tg iter sts [] pos) (zbL m fi ft s1) m:=by
 have hgA:PG X tg (fun v σ H Q=>∃g',tG X g' (zbM m) (zbM m) ft v σ H Q):=fun pins s σ H v u Q I r ⟨g',q⟩=>(hg g').2 pins s σ H v u Q I r q
 have hbA:PSs X sts (fun D σ H=>∃g',tS X g' ro (zbM m) (zbM m) (zbM m) s1 D σ H):=fun pins s σ H D I ⟨g',q⟩=>(hb g').2 pins s σ H D I q
 refine ⟨rfl,PS.imp (zht hp hc hi hgA hbA hs) fun D σ H ⟨r,G,si,q⟩=>⟨r,G,si,zai (zbU si rfl q) fun ds q J G0 H0 w0 Y=>?_⟩⟩
 have si0:=si.grow w0
 refine ⟨fun i n σ1 H1=>∃r1 G1,SI X (zij m r σ G0 H0) (zbM m) r1 G1 σ1 H1/\i<=ds.length/\n=ds.length - i/\oTo X g ro m mb G1 D (forF ft s1 (ds.drop i) r1),⟨ds.length,r,G0,si0.lock,Nat.zero_le _,rfl,oTo.gle q w0.ge⟩,?_⟩
 rintro i n σ1 H1 ⟨r1,G1,si1,hi,rfl,q1⟩
 have wg:Grow X.K G0 H0 G1 H1:=si1.grown
 by_cases hlt:i < ds.length
 ·have hd:ds.drop i=ds[i]::ds.drop (i + 1):=List.drop_eq_getElem_cons hlt
  rw [hd] at q1
  unfold forF at q1
  refine .inr ⟨Y.go G1 H1 i wg hlt,fun σ' H'=>∃r' G',SI X (zij m r σ G0 H0) (zbM m) r' G' σ' H'/\oTo X g ro m mb G' D (forF ft s1 (ds.drop (i + 1)) r'),fun σ' H' ⟨r',G',si',q'⟩=>⟨ds.length - (i + 1),by omega,r',G',si',hlt,rfl,q'⟩,fun x H' y=>?_⟩
  obtain ⟨G',w',rv⟩:=Y.yld G1 H1 i x H' ds[i] wg y (List.getElem?_eq_getElem hlt)
  cases eft:ft ds[i] r1 with
  | none=>simp only [eft] at q1; exact q1.elim
  | some r2=>
   simp only [eft] at q1
   refine ⟨zij m r σ G0 H0,r1,G',ds[i],si1.grow w',rv,r2,eft,fun σ2 si2=>⟨zij m r σ G0 H0,r2,G',si2,?_⟩⟩
   cases eb:s1 r2 with
   | nx r'=>simp only [eb] at q1; exact fun σ3 G3 H3 le3 si3=>⟨r',G3,si3,oTo.gle q1 (Gle.trans w'.ge le3)⟩
   | ct r'=>simp only [eb] at q1; exact fun σ3 G3 H3 le3 si3=>⟨r',G3,si3,oTo.gle q1 (Gle.trans w'.ge le3)⟩
   | bk r'=>simp only [eb] at q1; exact fun σ3 G3 H3 le3 si3=>q1 σ3 G3 H3 (Gle.trans w'.ge le3) (si0.unlock si3)
   | rt d=>
    simp only [eb] at q1
    intro v G2 H2 wr rv2
    refine q1 v G2 H2 (si0.grown.trans wr) ?_
    cases ro with
    | false=>exact rv2
    | true=>
     rcases rv2 with ⟨a,e1,e2,e3⟩ | z
     ·exact .inl ⟨a,e1,si0.grown.back e2,e3⟩
     ·exact .inr z
   | exc x r'=>simp only [eb] at q1; exact fun pins e s' σ3 G3 H3 le3 si3=>q1 pins e s' σ3 G3 H3 (Gle.trans w'.ge le3) (si0.unlockX si3)
   | stuck=>simp only [eb] at q1; exact q1
 ·have e:i=ds.length:=by omega
  subst e
  rw [List.drop_length] at q1
  exact .inl ⟨Y.stop G1 H1 wg,q1 σ1 G1 H1 (Gle.refl _) (si0.unlock si1)⟩
noncomputable def zbr (m:List Md) (p:FQ) (body:FS):Nat->FS
 | 0,_=>.stuck
 | n + 1,r=>onE m r (p r) fun c=>if c=true then (match body r with
   | .nx r'=>zbr m p body n r'
   | .ct r'=>zbr m p body n r'
   | .bk r'=>.nx r'
   | o=>o) else .nx r
theorem zgB (n:Nat) (hp:PassesOwn (model X.prog X.w) X.A X.env X.xe) (hc:SQ X g m c p) (hb:SSs X g ro m m sts s1 m):SS X g ro mb m (.While c sts [] pos) (zbr m p s1 n) m:=by
 refine ⟨rfl,PS.imp (zmD hp hc hb.2) fun D σ H ⟨r,G,si,q⟩=>?_⟩
 refine ⟨fun n σ H=>∃r G,SI X g m r G σ H/\oTo X g ro m mb G D (zbr m p s1 n r),⟨n,r,G,si,q⟩,?_⟩
 rintro n σ1 H1 ⟨r1,G1,si1,q1⟩
 cases n with
 | zero=>exact q1.elim
 | succ n=>
  unfold zbr at q1
  refine ⟨r1,G1,si1,zai (zbU si1 rfl q1) fun c q2 G2 H2 w2=>?_⟩
  cases c with
  | false=>rw [if_neg Bool.false_ne_true] at q2 ⊢; exact q2 σ1 G2 H2 w2.ge (si1.grow w2)
  | true=>
   rw [if_pos rfl] at q2 ⊢
   refine ⟨fun σ' H'=>∃r G,SI X g m r G σ' H'/\oTo X g ro m mb G D (zbr m p s1 n r),fun σ' H' h=>⟨n,Nat.lt_succ_self _,h⟩,r1,G2,si1.grow w2,?_⟩
   cases eb:s1 r1 with
   | nx r'=>simp only [eb] at q2; exact fun σ3 G3 H3 le3 si3=>⟨r',G3,si3,oTo.gle q2 (Gle.trans w2.ge le3)⟩
   | ct r'=>simp only [eb] at q2; exact fun σ3 G3 H3 le3 si3=>⟨r',G3,si3,oTo.gle q2 (Gle.trans w2.ge le3)⟩
   | bk r'=>simp only [eb] at q2; exact fun σ3 G3 H3 le3 si3=>q2 σ3 G3 H3 (Gle.trans w2.ge le3) si3
   | rt d=>simp only [eb] at q2; exact q2
   | exc x r'=>simp only [eb] at q2; exact fun pins e s' σ3 G3 H3 le3=>q2 pins e s' σ3 G3 H3 (Gle.trans w2.ge le3)
   | stuck=>simp only [eb] at q2; exact q2
end
noncomputable def noX:Res D->Res D
 | .ok d=>.ok d
 | _=>.stuck
@[simp] theorem noX_ok (d:D):noX (.ok d)=.ok d:=rfl
inductive ArgsOk (K:W.Frag) (G:GH) (H:Hp):List Md->List V->List D->Prop where
 | nil:ArgsOk K G H [] [] []
 | sh {v:V} {d:D} {ms:List Md} {vs:List V} {ds:List D}:RG K G v d->ArgsOk K G H ms vs ds->ArgsOk K G H (.sh::ms) (v::vs) (d::ds)
 | bw {v:V} {d:D} {ms:List Md} {vs:List V} {ds:List D}:RB K G H v d->ArgsOk K G H ms vs ds->ArgsOk K G H (.bw::ms) (v::vs) (d::ds)
section
variable {K:W.Frag} {G G':GH} {H H':Hp}
theorem ArgsOk.mono:∀{ms:List Md} {vs:List V} {ds:List D},ArgsOk K G H ms vs ds->Grow K G H G' H'->ArgsOk K G' H' ms vs ds
 | _,_,_,.nil,_=>.nil
 | _,_,_,.sh h t,w=>.sh (h.mono w.ge) (t.mono w)
 | _,_,_,.bw h t,w=>.bw (h.mono w) (t.mono w)
theorem ArgsOk.len {ms:List Md} {vs:List V} {ds:List D} (h:ArgsOk K G H ms vs ds):vs.length=ms.length/\ds.length=ms.length:=by
 induction h with
 | nil=>exact ⟨rfl,rfl⟩
 | sh h t ih=>exact ⟨congrArg (· + 1) ih.1,congrArg (· + 1) ih.2⟩
 | bw h t ih=>exact ⟨congrArg (· + 1) ih.1,congrArg (· + 1) ih.2⟩
theorem ArgsOk.app {dvs:List V} {dds:List D} (hs:Paired Scl dvs dds):∀{ms:List Md} {vs:List V} {ds:List D},ArgsOk K G H ms vs ds->ArgsOk K G H (ms++List.replicate dds.length .sh) (vs++dvs) (ds++dds)
 | _,_,_,.nil=>by
  induction hs with
  | nil=>exact .nil
  | cons h t ih=>exact .sh (.scl h) ih
 | _,_,_,.sh h t=>.sh h (t.app hs)
 | _,_,_,.bw h t=>.bw h (t.app hs)
theorem ArgsOk.get:∀{ms:List Md} {vs:List V} {ds:List D} {i:Nat} {d:D},ArgsOk K G H ms vs ds->ds[i]? = some d->∃v,vs[i]? = some v/\((ms[i]? = some .sh/\RG K G v d)\/(ms[i]? = some .bw/\RB K G H v d))
 | _,_,_,_,_,.nil,e=>by simp at e
 | _,_,_,0,_,.sh h t,e=>by simp at e; subst e; exact ⟨_,rfl,.inl ⟨rfl,h⟩⟩
 | _,_,_,0,_,.bw h t,e=>by simp at e; subst e; exact ⟨_,rfl,.inr ⟨rfl,h⟩⟩
 | _,_,_,i + 1,d,.sh h t,e=>by
  obtain ⟨v,h1,h2⟩:=t.get (i:=i) (d:=d) (by simpa using e)
  exact ⟨v,by simpa using h1,by simpa using h2⟩
 | _,_,_,i + 1,d,.bw h t,e=>by
  obtain ⟨v,h1,h2⟩:=t.get (i:=i) (d:=d) (by simpa using e)
  exact ⟨v,by simpa using h1,by simpa using h2⟩
end
noncomputable def spM (K:W.Frag) (ro:Bool) (ms:List Md) (F:List D->Res D):Sp:=fun vs H Q _=>∃G ds,GOk K G H/\ArgsOk K G H ms vs ds/\fin (F ds) (fun d=>∀v G' H',Grow K G H G' H'->RV ro K H G' H' v d->Q v H') fun _=>False
noncomputable def outR (ro:Bool):Out->Res D
 | .nx _=>if ro=true then .stuck else .ok .non
 | .rt d=>.ok d
 | .exc x _=>.exc x
 | _=>.stuck
noncomputable def zat (n:Nat) (ds:List D):Rho:=ds.map some++List.replicate (n - ds.length) none
noncomputable def zfv (n:Nat) (ms:List Md):List Md:=ms++List.replicate (n - ms.length) .sh
section
variable {P:Program} {w:World} {K:W.Frag} {mg:Str->Option Value} {base:Heap}
theorem zmk {X:Cx} {N:List Str} {ms:List Md} {vs:List V} {ds:List D} {G:GH} {H:Hp} (gk:GOk X.K G H) (rs:ArgsOk X.K G H ms vs ds) (hn:ms.length<=N.length):SI X ⟨G,H,fun _=>none⟩ (zfv N.length ms) (zat N.length ds) G (L2.start N vs) H:=by
 obtain ⟨l1,l2⟩:=rs.len
 have e1:(L2.start N vs).length=N.length:=by unfold L2.start; rw [List.length_append,List.length_map,List.length_replicate]; omega
 have e2:(zat N.length ds).length=N.length:=by unfold zat; rw [List.length_append,List.length_map,List.length_replicate]; omega
 have e3:(zfv N.length ms).length=N.length:=by unfold zfv; rw [List.length_append,List.length_replicate]; omega
 have at_:∀(i:Nat) d,(zat N.length ds)[i]? = some (some d)->i < ms.length/\(zfv N.length ms)[i]? = ms[i]?/\∃v,(L2.start N vs)[i]? = some (some v)/\((ms[i]? = some .sh/\RG X.K G v d)\/(ms[i]? = some .bw/\RB X.K G H v d)):=fun i d h=>by
  unfold zat at h
  by_cases hi:i < ds.length
  ·rw [List.getElem?_append_left (by simpa using hi),List.getElem?_map] at h
   have hd:ds[i]? = some d:=by
    cases z:ds[i]? with
    | none=>rw [z] at h; cases h
    | some d'=>rw [z] at h; cases h; rfl
   obtain ⟨v,hv,rv⟩:=rs.get hd
   refine ⟨by omega,?_,v,?_,rv⟩
   ·unfold zfv
    rw [List.getElem?_append_left (by omega)]
   ·unfold L2.start
    rw [List.getElem?_append_left (by rw [List.length_map]; omega),List.getElem?_map,hv]
    rfl
  ·rw [List.getElem?_append_right (by simpa using hi),List.getElem?_replicate] at h
   split at h <;> cases h
 refine ⟨gk,fun _ _ e=>e,fun _ _ e=>e,fun _ _=>rfl,by rw [e3,e1],by rw [e1,e2],fun i d h hm=>?_,fun i d h hm=>?_,fun i d h hm=>?_,fun i j a d e _ h _ hm=>?_,fun i o h=>nomatch h⟩
 ·obtain ⟨_,hq,v,h1,h2⟩:=at_ i d h
  rw [hq] at hm
  rcases h2 with ⟨_,h2⟩ | ⟨h3,h2⟩
  ·exact ⟨v,h1,h2⟩
  ·rw [hm] at h3; cases h3
 ·obtain ⟨_,hq,v,h1,h2⟩:=at_ i d h
  rw [hq] at hm
  rcases h2 with ⟨h3,h2⟩ | ⟨h3,h2⟩ <;> rw [hm] at h3 <;> cases h3
 ·obtain ⟨_,hq,v,h1,h2⟩:=at_ i d h
  rw [hq] at hm
  rcases h2 with ⟨h3,h2⟩ | ⟨h3,h2⟩
  ·rw [hm] at h3; cases h3
  ·refine ⟨v,h1,?_⟩
   rcases h2 with h2 | ⟨a,rfl,h2⟩
   ·exact .inl h2
   ·exact .inr ⟨a,rfl,h2,h2.ob.isS⟩
 ·obtain ⟨_,hq,v,h1,h2⟩:=at_ i d h
  rw [hq] at hm
  rcases h2 with ⟨h3,h2⟩ | ⟨h3,h2⟩ <;> rw [hm] at h3 <;> cases h3
theorem znw {X:Cx} {ro:Bool} {fs:FS} {m':List Md} {G:GH} {H:Hp} {r:Rho} {Q:VK} (q:fin (outR ro (fs r)) (fun d=>∀v G' H',Grow X.K G H G' H'->RV ro X.K H G' H' v d->Q v H') fun _=>False) :
  oTo X ⟨G,H,fun _=>none⟩ ro m' [] G { nx:=fun _ H'=>Q .non H',rt:=Q } (fs r):=by
 cases e:fs r with
 | nx r'=>
  rw [e] at q
  cases ro with
  | false=>exact fun σ' G' H' _ si=>q .non G' H' si.grown (.scl .non)
  | true=>exact q.elim
 | rt d=>rw [e] at q; exact fun v G' H' wg rv=>q v G' H' wg rv
 | bk r'=>rw [e] at q; exact q.elim
 | ct r'=>rw [e] at q; exact q.elim
 | exc x r'=>rw [e] at q; exact q.elim
 | stuck=>rw [e] at q; exact q
theorem zoc {x qual:Str} {st:Stmt} {f:Addr} {fd:FuncData} {N ps:List Str} {k:Nat} {ro:Bool} {ms:List Md} {fs:FS} {m':List Md} (F:Fun K x qual st f fd) (S:FnScope N ps (zac st)) (hms:ms.length=ps.length)
  (hbody:∀(cdv:Value) (A:Around) (outer:List Env) (s:Shared) (H:Hp) (g:GE) (E:XK),Room k (A.deeper (envOfC qual (zac st) s.heap.objs.size f cdv)) ->
   SSs (cxOf CX0 P w K mg base N qual (zac st) f cdv A outer s H E).nox g ro [] (zfv N.length ms) (zcu st) fs m') :
  FnOk P w K mg base CX0 (k + 1) f fd ps (spM K ro ms fun ds=>outR ro (fs (zat N.length ds))):=by
 refine F.ok S (fun vs H Q E ⟨G,ds,gk,rs,q⟩=>rs.len.1.trans hms) fun cdv A outer s H vs Q E hr h=>?_
 obtain ⟨G,ds,gk,rs,q⟩:=h
 have hpl:ps.length<=N.length:=by have:=congrArg List.length S.pre; rw [List.length_take] at this; omega
 exact ⟨_,(hbody cdv A outer s H ⟨G,H,fun _=>none⟩ E hr).2,zat N.length ds,G,zmk gk rs (by omega),znw q⟩
end
section
variable {X:Cx} {g:GE} {m:List Md} {e:Expr} {f:FE} {es:List Expr} {fl:Rho->Res (List D)} {k:Nat} {fa:Addr} {fd:FuncData} {ps:List Str} {F:List D->Res D} {dvs:List V} {ds:List Value} {dds:List D} {x:Str} {p pos:Pos} {ms:List Md}
noncomputable def tLM (X:Cx) (g:GE) (m:List Md) (ms:List Md) (f:Rho->Res (List D)):TA:=fun σ H Q=>∃r G,SI X g m r G σ H/\fin (f r) (fun ds=>∀vs G' H',Grow X.K G H G' H'->ArgsOk X.K G' H' ms vs ds->Q vs H') (XW X σ G H)
noncomputable def SAM (X:Cx) (g:GE) (m:List Md) (es:List Expr) (ms:List Md) (f:Rho->Res (List D)):Prop:=PA X es (tLM X g m ms f)
theorem zaG:SAM X g m [] [] lNil:=PA.imp ze4 fun σ H Q ⟨r,G,si,k⟩=>k [] G H (Grow.refl si.gok) .nil
theorem m_sh (ha:SE X g m e f) (hr:SAM X g m es ms fl) (hs:starEach (e::es) X.env=(false,eval e X.env)::starEach es X.env:=by rfl):SAM X g m (e::es) (.sh::ms) (zab f fl):=by
 refine PA.imp (zcq ha hr hs) fun σ H Q ⟨r,G,si,k⟩=>⟨r,G,si,zai (zah k) fun d k1 v G1 H1 w1 r1=>⟨r,G1,si.grow w1,?_⟩⟩
 exact zaF (zah k1) w1 fun ds z vs G2 H2 w2 r2=>z (v::vs) G2 H2 (w1.trans w2) (.sh (r1.mono w2.ge) r2)
theorem m_bw (ha:SB X g m e f) (hr:SAM X g m es ms fl) (hs:starEach (e::es) X.env=(false,eval e X.env)::starEach es X.env:=by rfl):SAM X g m (e::es) (.bw::ms) (zab f fl):=by
 refine PA.imp (zcq ha hr hs) fun σ H Q ⟨r,G,si,k⟩=>⟨r,G,si,zai (zah k) fun d k1 v G1 H1 w1 r1=>⟨r,G1,si.grow w1,?_⟩⟩
 exact zaF (zah k1) w1 fun ds z vs G2 H2 w2 r2=>z (v::vs) G2 H2 (w1.trans w2) (.bw (r1.mono w2) r2)
noncomputable def zas (fl:Rho->Res (List D)) (dds:List D) (F:List D->Res D):FE:=fun r=>(fl r).bind fun ds=>noX (F (ds++dds))
theorem zlV {ro:Bool} {vs:List V} {zs:List D} {G:GH} {H:Hp} {Q:VK} (gk:GOk X.K G H) (rs:ArgsOk X.K G H ms vs zs) (hsc:Paired Scl dvs dds) (q:fin (noX (F (zs++dds))) (fun d=>∀v G' H',Grow X.K G H G' H'->RV ro X.K H G' H' v d->Q v H') fun _=>False) :
  spM X.K ro (ms++List.replicate dds.length .sh) F (vs++dvs) H Q E0:=by
 refine ⟨G,zs++dds,gk,rs.app hsc,?_⟩
 cases e:F (zs++dds) with
 | ok d=>rw [e] at q; exact q
 | exc x=>rw [e] at q; exact q.elim
 | stuck=>rw [e] at q; exact q.elim
theorem zly {α:Type} {r:Res α} {q:α->Prop} {x:D->Prop} (h:fin r q x) (hr:∀e,r≠.exc e):fin r q fun _=>False:=by
 cases r with
 | ok a=>exact h
 | exc e=>exact absurd rfl (hr e)
 | stuck=>exact h
theorem zrf (r:Res D) (e:D):noX r≠.exc e:=by cases r <;> simp [noX]
theorem zqr (G1:FnOk X.prog X.w X.K X.mg X.base CX0 k fa fd ps (spM X.K false (ms++List.replicate dds.length .sh) F)) (hr:Room k X.A) (hg:Gl X x) (hm:X.mg x=some (.ref fa)) (hk:W.keepIn X.K (.ref fa)=true) (hb:zgc X.K fd ps ds) (hd:Vals dvs ds) (hsc:Paired Scl dvs dds)
  (ha:SAM X g m (e::es) ms fl) (hdb:(x == ("__debug__" : Str))=false:=by decide) (he:starEach (e::es) X.env=(false,eval e X.env)::starEach es X.env:=by rfl) (hpl:(backTo pos (starEach es X.env)).any (·.1)=false:=by rfl) :
  SE X g m (.Call (.Name x p) (e::es) [] pos) (zas fl dds F):=by
 refine PE.imp (zo2 G1 hr hg hm hk hb hd zsT ha hdb he hpl) fun σ H Q ⟨r,G,si,q⟩=>⟨r,G,si,?_⟩
 cases ez:fl r with
 | ok zs=>
  unfold zas at q
  rw [ez] at q
  intro vs G' H' w' rs
  exact zlV w'.ok rs hsc (zai (zly q (zrf _)) fun d k v G2 H2 w2 rv=>k v G2 H2 (w'.trans w2) rv)
 | exc x=>unfold zas at q; rw [ez] at q; exact q
 | stuck=>unfold zas at q; rw [ez] at q; exact q
end
theorem znl {env:Env}:∀(l:List (Str × NameKind)) (cs:List (Str × Addr)),(∀x∈l,x.2=.free->∃c,env.cells.lookup x.1=some c)->(∀x c,cs.lookup x=some c->env.cells.lookup x=some c) ->
  ∃cl,(forIn l cs (fun (x:Str × NameKind) (cs:List (Str × Addr))=>if (x.2 == NameKind.free)=true then (do let a <-cellOf env x.1; pure (ForInStep.yield ((x.1,a)::cs))) else pure (ForInStep.yield cs)):Sem (List (Str × Addr)))=pure cl /\
   (∀x c,cl.lookup x=some c->env.cells.lookup x=some c)/\(∀x,(x,NameKind.free)∈l->∃c,cl.lookup x=some c)/\(∀x c,cs.lookup x=some c->∃c',cl.lookup x=some c'):=by
 intro l
 induction l with
 | nil=>intro cs _ h; exact ⟨cs,rfl,h,fun x hx=>(by cases hx),fun x c h=>⟨c,h⟩⟩
 | cons y l ih=>
  intro cs hf hc
  obtain ⟨n,k⟩:=y
  by_cases hk:k=.free
  ·subst hk
   obtain ⟨c,ec⟩:=hf (n,.free) List.mem_cons_self rfl
   have e1:cellOf env n=pure c:=by unfold cellOf; rw [ec]
   have hc':∀x c',((n,c)::cs).lookup x=some c'->env.cells.lookup x=some c':=fun x c' h=>by
    rw [List.lookup_cons] at h
    cases q:x == n with
    | true=>rw [q] at h; cases h; rw [eq_of_beq q]; exact ec
    | false=>rw [q] at h; exact hc x c' h
   obtain ⟨cl,e2,h1,h2,h3⟩:=ih ((n,c)::cs) (fun x hx=>hf x (List.mem_cons_of_mem _ hx)) hc'
   refine ⟨cl,?_,h1,fun x hx=>?_,fun x c' h=>?_⟩
   ·rw [<-e2]
    rw [List.forIn_cons]
    show (cellOf env n >>= fun a=>pure (ForInStep.yield ((n,a)::cs))) >>= _=_
    rw [e1]
    rfl
   ·rcases List.mem_cons.mp hx with z | z
    ·cases z; exact h3 n c (by rw [List.lookup_cons]; simp)
    ·exact h2 x z
   ·cases q:x == n with
    | true=>exact h3 x c (by rw [List.lookup_cons,q])
    | false=>exact h3 x c' (by rw [List.lookup_cons,q]; exact h)
  ·obtain ⟨cl,e2,h1,h2,h3⟩:=ih cs (fun x hx=>hf x (List.mem_cons_of_mem _ hx)) hc
   have hb:(k == NameKind.free)=false:=by simpa using hk
   refine ⟨cl,?_,h1,fun x hx=>?_,h3⟩
   ·rw [<-e2,List.forIn_cons]
    simp only [hb,Bool.false_eq_true,if_false]
    rfl
   ·rcases List.mem_cons.mp hx with z | z
    ·cases z; exact absurd rfl hk
    ·exact h2 x z
theorem zjQ {scope:Scope} {env:Env} (hf:∀x∈scope.names,x.2=.free->∃c,env.cells.lookup x.1=some c) :
  ∃cl,closureFor scope env=pure cl/\(∀x c,cl.lookup x=some c->env.cells.lookup x=some c)/\(∀x,(x,NameKind.free)∈scope.names->∃c,cl.lookup x=some c):=by
 obtain ⟨cl,e,h1,h2,_⟩:=znl scope.names [] hf (fun x c h=>by cases h)
 refine ⟨cl,?_,h1,h2⟩
 have e0:closureFor scope env=((forIn scope.names ([]:List (Str × Addr)) (fun (x:Str × NameKind) (cs:List (Str × Addr))=>if (x.2 == NameKind.free)=true then (do let a <-cellOf env x.1; pure (ForInStep.yield ((x.1,a)::cs))) else pure (ForInStep.yield cs)):Sem (List (Str × Addr))) >>= fun cs=>pure cs):=rfl
 rw [e0,e]
 rfl
theorem zec {f:Str->NameKind->NameKind}:∀(l:List (Str × NameKind)) (x:Str),(l.map fun y=>(y.1,f y.1 y.2)).lookup x=(l.lookup x).map (f x)
 | [],x=>rfl
 | (n,k)::l,x=>by
  rw [List.map_cons,List.lookup_cons,List.lookup_cons]
  cases q:x == n with
  | true=>simp [eq_of_beq q]
  | false=>exact zec l x
noncomputable def relK (env:Env) (n:Str) (k:NameKind):NameKind:=if (k == .free && env.scope.kind == .function && env.kindOf n == some .cell)=true then .cell else k
theorem zd9 (scope:Scope) (env:Env) (x:Str):(relabel scope env).names.lookup x=(scope.names.lookup x).map (relK env x):=by
 rw [<-zec]
 unfold relabel
 congr 1
 apply List.map_congr_left
 intro y _
 obtain ⟨n,k⟩:=y
 show (if (k == NameKind.free && env.scope.kind == .function && env.kindOf n == some .cell)=true then (n,NameKind.cell) else (n,k))=(n,relK env n k)
 unfold relK
 split <;> rfl
structure CompSc (X:Cx) (scope:Scope) (N':List Str) (nl:Nat) (cap:List Nat):Prop where
 kind:scope.kind=.function
 nocell:∀y∈scope.names,y.2≠.cell
 names:∀y∈scope.names,y.2=.local->scope.names.lookup y.1=some .local
 freeK:∀y∈scope.names,y.2=.free->X.env.kindOf y.1=some .cell\/X.env.kindOf y.1=some .free
 len:N'.length=nl + cap.length
 capN:∀j,j < cap.length->∃x,N'[nl + j]? = some x/\X.N[cap.getD j 0]? = some x/\scope.names.lookup x=some .free
noncomputable def cxC (X:Cx) (s₀:Shared) (H₀:Hp) (N':List Str) (scope:Scope) (cl:List (Str × Addr)) (C:Addr) (fp:List Addr):Cx where
 prog:=X.prog
 w:=X.w
 K:=X.K
 mg:=X.mg
 base:=X.base
 A:=X.A
 N:=N'
 s₀:=s₀
 H₀:=H₀
 env:=compEnvC scope cl C X.env
 outer:=X.stack
 stack:=X.stack
 ex:=fp
 fn:=fun _=>false
 calm:=X.calm
 pn:=[]
 xe:=fun _ _=>False
section
variable {X:Cx} {pins:List (Addr × Obj)} {σ:L2.St} {H:Hp} {s:Shared} {scope:Scope} {N':List Str} {nl:Nat} {cap:List Nat} {cl:List (Str × Addr)} {C:Addr} {fp:List Addr}
theorem zoh (I:Inv X pins σ H s) (sc:CompSc X scope N' nl cap) (h1:∀x c,cl.lookup x=some c->X.env.cells.lookup x=some c) (h2:∀x,(x,NameKind.free)∈scope.names->∃c,cl.lookup x=some c)
  (hf:∀b∈fp,FpOk X pins H b/\b < s.heap.objs.size) (hC:s.heap.objs.size<=C):(cxC X s H N' scope cl C fp).Ok where
 mod:=I.ok.mod
 kind:=sc.kind
 glob:=I.ok.glob
 blt:=I.ok.blt
 above:=hC
 inj:=fun x y c a b=>I.ok.inj x y c (h1 x c a) (h1 y c b)
 has:=fun x hk=>by
  have hk':(scope.names.lookup x).map (relK X.env x)=some .cell\/(scope.names.lookup x).map (relK X.env x)=some .free:=by
   rw [<-zd9]; exact hk
  cases e:scope.names.lookup x with
  | none=>rw [e] at hk'; rcases hk' with z | z <;> cases z
  | some k=>
   have hm:=PySem.mem_of_lookup e
   have kf:k=.free:=by
    rw [e] at hk'
    have hk2:relK X.env x k=.cell\/relK X.env x k=.free:=by
     rcases hk' with z | z
     ·exact .inl (Option.some.inj z)
     ·exact .inr (Option.some.inj z)
    unfold relK at hk2
    split at hk2
    ·rename_i hc
     simp only [Bool.and_eq_true,beq_iff_eq] at hc
     exact hc.1.1
    ·rcases hk2 with z | z
     ·exact absurd z (sc.nocell _ hm)
     ·exact z
   subst kf
   exact h2 x hm
 cab:=fun x c h=>by cases h
 hd:=I.ok.hd
 frames:=I.ok.frames
 stk:=.inl rfl
 exf:=fun b hb=>⟨Nat.ne_of_lt (Nat.lt_of_lt_of_le (hf b hb).2 hC),fun x c e=>(hf b hb).1.2.2.2.2.1 x c (h1 x c e)⟩
 bs:=I.bs
 bsz:=Nat.le_trans I.ok.bsz I.sz
 noex:=fun b o e hb=>by
  obtain ⟨_,_,_,hx,_⟩:=(hf b hb).1
  rcases hx with z | z
  ·exact I.ok.noex b o e z
  ·exact absurd (Nat.lt_of_lt_of_le (Heap.lt_size e) (Nat.le_trans I.ok.bsz z)) (Nat.lt_irrefl _)
 exfs:=fun b hb hfs=>by
  obtain ⟨_,q1,q2,_⟩:=(hf b hb).1
  rcases List.mem_cons.mp (I.stkSub b hfs) with z | z
  ·exact q1 z
  ·exact q2 z
 funs:=I.stack
 frf:=I.stkFree
end
noncomputable def zcv (ft:FT) (q:FQ) (fe:FE) (r0:Rho):List D->Res (List D)
 | []=>.ok []
 | d::ds=>(opt (ft d r0)).bind fun r1=>(q r1).bind fun c=>if c=true then (fe r1).bind fun v=>(zcv ft q fe r0 ds).bind fun vs=>.ok (v::vs) else zcv ft q fe r0 ds
noncomputable def capR (nl:Nat) (cap:List Nat) (r:Rho):Rho:=List.replicate nl none++cap.map fun i=>r.getD i none
noncomputable def capM (nl:Nat) (cap:List Nat) (m:List Md):List Md:=List.replicate nl Md.sh++cap.map fun i=>if m.getD i Md.sh=Md.sh then Md.sh else Md.bw
noncomputable def capS (nl:Nat) (cap:List Nat) (st:L2.St):L2.St:=List.replicate nl none++cap.map fun i=>st.getD i none
theorem zfS {α:Type} {nl:Nat} {cap:List Nat} {u:α} {h:Nat->α} {i:Nat} (hi:nl<=i):(List.replicate nl u++cap.map h)[i]? = (cap[i - nl]?).map h:=by
 rw [List.getElem?_append_right (by simpa using hi),List.length_replicate,List.getElem?_map]
section
variable {X:Cx} {pins:List (Addr × Obj)} {σ:L2.St} {H H':Hp} {s:Shared} {scope:Scope} {N':List Str} {nl:Nat} {cap:List Nat} {cl:List (Str × Addr)} {C:Addr} {fp:List Addr} {g:GE} {G G':GH} {m:List Md} {r:Rho}
theorem zr6 (si:SI X g m r G σ H) (w:Grow X.K G H G' H'):SI (cxC X s H N' scope cl C fp) ⟨G,H,fun _=>none⟩ (capM nl cap m) (capR nl cap r) G' (capS nl cap σ) H':=by
 have lens:(capM nl cap m).length=nl + cap.length:=by simp [capM]
 have lens2:(capR nl cap r).length=nl + cap.length:=by simp [capR]
 have lens3:(capS nl cap σ).length=nl + cap.length:=by simp [capS]
 have rget:∀(i:Nat) d,(capR nl cap r)[i]? = some (some d)->nl<=i/\∃j,cap[i - nl]? = some j/\r[j]? = some (some d):=fun i d h=>by
  by_cases hi:i < nl
  ·unfold capR at h
   rw [List.getElem?_append_left (by simpa using hi),List.getElem?_replicate] at h
   split at h <;> cases h
  ·refine ⟨by omega,?_⟩
   unfold capR at h
   rw [zfS (by omega)] at h
   cases e:cap[i - nl]? with
   | none=>rw [e] at h; cases h
   | some j=>
    rw [e] at h
    refine ⟨j,rfl,?_⟩
    have h':r.getD j none=some d:=Option.some.inj h
    rw [List.getD_eq_getElem?_getD] at h'
    cases e2:r[j]? with
    | none=>rw [e2] at h'; cases h'
    | some o=>rw [e2] at h'; rw [show o=some d from h']
 have mget:∀(i j:Nat) md,nl<=i->cap[i - nl]? = some j->(capM nl cap m)[i]? = some md->md=if m.getD j Md.sh=Md.sh then Md.sh else Md.bw:=fun i j md hi hj h=>by
  unfold capM at h
  rw [zfS hi,hj] at h
  exact (Option.some.inj h).symm
 have sget:∀(i j:Nat) v,nl<=i->cap[i - nl]? = some j->σ[j]? = some (some v)->(capS nl cap σ)[i]? = some (some v):=fun i j v hi hj h=>by
  unfold capS
  rw [zfS hi,hj]
  show some (σ.getD j none)=_
  rw [List.getD_eq_getElem?_getD,h]
  rfl
 have mj:∀(j:Nat) d,r[j]? = some (some d)->m[j]? = some (m.getD j Md.sh):=fun j d h=>by
  have hl:j < m.length:=by
   have:=(List.getElem?_eq_some_iff.mp h).1
   rw [si.lr,<-si.lm] at this; exact this
  rw [List.getD_eq_getElem?_getD,List.getElem?_eq_getElem hl]
  rfl
 refine ⟨w.ok,w.he,w.ge,w.gf,by rw [lens,lens3],by rw [lens2,lens3],fun i d h hm=>?_,fun i d h hm=>?_,fun i d h hm=>?_,fun i j a d e _ h _ hm=>?_,fun i o h=>nomatch h⟩
 ·obtain ⟨hi,j,hj,hr⟩:=rget i d h
  have e:=mget i j _ hi hj hm
  have hsh:m.getD j Md.sh=Md.sh:=by
   by_cases z:m.getD j Md.sh=Md.sh
   ·exact z
   ·rw [if_neg z] at e; cases e
  obtain ⟨v,h1,h2⟩:=si.sh j d hr (by rw [mj j d hr,hsh])
  exact ⟨v,sget i j v hi hj h1,h2.mono w.ge⟩
 ·obtain ⟨hi,j,hj,hr⟩:=rget i d h
  have e:=mget i j _ hi hj hm
  split at e <;> cases e
 ·obtain ⟨hi,j,hj,hr⟩:=rget i d h
  have e:=mget i j _ hi hj hm
  have hsh:m.getD j Md.sh≠Md.sh:=by
   intro z
   rw [if_pos z] at e; cases e
  have hmj:=mj j d hr
  cases q:m.getD j Md.sh with
  | sh=>exact absurd q hsh
  | ow=>
   rw [q] at hmj
   obtain ⟨a,h1,h2,_⟩:=si.ow j d hr hmj
   exact ⟨_,sget i j _ hi hj h1,.inr ⟨a,rfl,h2.mono w,h2.ob.isS⟩⟩
  | bw=>
   rw [q] at hmj
   obtain ⟨v,h1,h2⟩:=si.bw j d hr hmj
   refine ⟨v,sget i j _ hi hj h1,?_⟩
   rcases h2 with h2 | ⟨a,rfl,h2,_⟩
   ·exact .inl (h2.mono w.ge)
   ·exact .inr ⟨a,rfl,h2.mono w,h2.ob.isS⟩
 ·obtain ⟨hi,j',hj,hr⟩:=rget i d h
  have e:=mget i j' _ hi hj hm
  split at e <;> cases e
theorem zol (I:Inv X pins σ H s) (ok:(cxC X s H N' scope cl C fp).Ok) (sc:CompSc X scope N' nl cap) (h1:∀x c,cl.lookup x=some c->X.env.cells.lookup x=some c) (h2:∀x,(x,NameKind.free)∈scope.names->∃c,cl.lookup x=some c)
  (hN:X.N.Nodup) {s4:Shared} {H4:Hp} {mc:Str->Option Value} (hos:s4.os=s.os) (hb:AllBare s4.gens) (kp:∀b o,s.heap.get? b=some o->s4.heap.get? b=some o) (hns:s4.heap.Ns C mc) (hC:s.heap.objs.size<=C) (hHC:H4 C=none)
  (hH:∀b,H b=none->b < s.heap.objs.size->H4 b=none) (un:Un (frs X.stack) fp H H4 s.heap s4.heap) (hok:HOk X.prog X.w H4 s4.heap):Inv (cxC X s H N' scope cl C fp) [] (capS nl cap σ) H4 s4:=by
 refine ⟨ok,hos,hb,un,⟨mc,hns,fun i x v e1 e2 e3=>?_⟩,fun x c e=>?_,hHC,fun x c e=>?_,fun p hp=>absurd (show p∈([]:List (Addr × Obj)) from hp) (by simp),hok,?_⟩
 ·have hi:nl<=i:=by
   by_cases z:i < nl
   ·unfold capS at e2
    rw [List.getElem?_append_left (by simpa using z),List.getElem?_replicate] at e2
    split at e2 <;> cases e2
   ·omega
  unfold capS at e2
  rw [zfS hi] at e2
  cases ej:cap[i - nl]? with
  | none=>rw [ej] at e2; cases e2
  | some j=>
   rw [ej] at e2
   have hj:i - nl < cap.length:=(List.getElem?_eq_some_iff.mp ej).1
   obtain ⟨x',q1,q2,q3⟩:=sc.capN (i - nl) hj
   have ed:cap.getD (i - nl) 0=j:=by rw [List.getD_eq_getElem?_getD,ej]; rfl
   rw [ed] at q2
   have ei:nl + (i - nl)=i:=by omega
   rw [ei] at q1
   have e1':N'[i]? = some x:=e1
   rw [q1] at e1'
   have ex:x'=x:=Option.some.inj e1'
   subst ex
   have hv:σ[j]? = some (some v):=by
    have z:σ.getD j none=some v:=Option.some.inj e2
    rw [List.getD_eq_getElem?_getD] at z
    cases q:σ[j]? with
    | none=>rw [q] at z; cases z
    | some o=>rw [q] at z; rw [show o=some v from z]
   have hfree:=PySem.mem_of_lookup q3
   have kX:=sc.freeK _ hfree rfl
   obtain ⟨mx,hnx,hl⟩:=I.loc
   obtain ⟨u,ru,lk⟩:=hl j x' v q2 hv (.inr kX)
   refine ⟨u,ru,.inr ?_⟩
   obtain ⟨c,ec⟩:=h2 x' hfree
   have hkk:Env.kindOf (cxC X s H N' scope cl C fp).env x'=some .cell\/Env.kindOf (cxC X s H N' scope cl C fp).env x'=some .free:=by
    have z:(relabel scope X.env).names.lookup x'=some (relK X.env x' .free):=by rw [zd9,q3]; rfl
    show (relabel scope X.env).names.lookup x'=_\/(relabel scope X.env).names.lookup x'=_
    rw [z]
    unfold relK
    split
    ·exact .inl rfl
    ·exact .inr rfl
   refine ⟨hkk,c,ec,?_⟩
   rcases lk with ⟨k,_⟩ | ⟨_,c',ec',hcell⟩
   ·rcases kX with z | z <;> rw [k] at z <;> cases z
   ·rw [h1 x' c ec] at ec'
    cases ec'
    obtain ⟨o,ho,hd⟩:=hcell
    exact ⟨o,kp c o ho,hd⟩
 ·obtain ⟨v,o,ho,hd⟩:=I.cell x c (h1 x c e)
  exact ⟨v,o,kp c o ho,hd⟩
 ·obtain ⟨v,o,ho,hd⟩:=I.cell x c (h1 x c e)
  exact hH c (I.freeC x c (h1 x c e)) (Heap.lt_size ho)
 ·show (capS nl cap σ).length=N'.length
  rw [sc.len]
  simp [capS]
end
section
variable {prog:Program} {w:World} {A:Around} {R:Result->Shared->Prop} {s:Shared}
theorem zlQ {elt target iter:Expr} {ifs:List Expr} {scope:Scope} {pos:Pos} {it acc:Value} {env:Env} (I:Nat->Shared->Prop)
  (turn:∀n s,I n s->wpAny (model prog w) A (pyNext it) (fun r s1=>match r with
   | none=>R (.ok .next) s1
   | some v=>wpAny (model prog w) A (letOwnedTupleGo target it v) (fun _ s1'=>wpAny (model prog w) A (assign target env v) (fun _ s2=>
     wpAny (model prog w) A (forIn ifs true fun c r=>if r=true then do let ok <-isTrue c env (eval c env); pure (ForInStep.yield ok) else pure (ForInStep.yield r)) (fun ok s3=>
      if ok=true then wpAny (model prog w) A (eval elt env) (fun x s4=>
       wpAny (model prog w) A (call (.builtin "list.append") [acc,x]) (fun _ s5=>∃m,m < n/\I m s5) (notedBy (model prog w) A env fun e s'=>R (.error e) s') s4) (notedBy (model prog w) A env fun e s'=>R (.error e) s') s3
      else ∃m,m < n/\I m s3) (notedBy (model prog w) A env fun e s'=>R (.error e) s') s2) (notedBy (model prog w) A env fun e s'=>R (.error e) s') s1')
     (notedBy (model prog w) A env fun e s'=>R (.error e) s') s1) (notedBy (model prog w) A env fun e s'=>R (.error e) s') s)
  (n:Nat) (h:I n s):codeAny (model prog w) A (.compLoop (.ListComp elt [⟨target,iter,ifs,0⟩] scope pos) 0 it acc env) R s:=by
 refine codeAny_loop rfl I (fun n s hI=>?_) n h
 show wpAny _ A ((compTurn (.ListComp elt [⟨target,iter,ifs,0⟩] scope pos) 0 it acc env).onRaise (fun x=>do noteFrame x env; theTreesLotGoes x)) _ _ s
 refine wpAny_noted ?_
 rw [compTurn_list]
 refine wpAny_bind (wpAny_standAt (wpAny_bind (wpAny_mono (turn n s hI) (fun r s1 h1=>?_) fun _ _ h'=>h')))
 cases r with
 | none=>exact wpAny_pure h1
 | some v=>
  refine wpAny_bind (wpAny_mono h1 (fun _ s1' h1'=>?_) fun _ _ h'=>h')
  refine wpAny_bind (wpAny_mono h1' (fun _ s2 h2=>wpAny_bind (wpAny_mono h2 (fun ok s3 h3=>?_) fun _ _ h'=>h')) fun _ _ h'=>h')
  cases ok with
  | false=>exact wpAny_pure ⟨rfl,h3⟩
  | true=>
   exact wpAny_bind (wpAny_bind (wpAny_mono h3 (fun x s4 h4=>wpAny_bind (wpAny_mono h4 (fun _ s5 h5=>wpAny_pure (wpAny_pure ⟨rfl,h5⟩)) fun _ _ h'=>h')) fun _ _ h'=>h'))
end
noncomputable def SQs (X:Cx) (g:GE) (m:List Md) (ifs:List Expr) (f:FQ):Prop:=∀(pins:List (Addr × Obj)) (s:Shared) (σ:L2.St) (H:Hp) (Q:Bool->Hp->Prop),Inv X pins σ H s->tQ X g m f σ H Q ->
 wpAny (model X.prog X.w) X.A (forIn ifs true fun c r=>if r=true then do let ok <-isTrue c X.env (eval c X.env); pure (ForInStep.yield ok) else pure (ForInStep.yield r)) (TP X pins σ Q) X.xe s
section
variable {X:Cx} {g:GE} {m:List Md} {c:Expr} {p:FQ}
theorem ze3:SQs X g m [] fun _=>.ok true:=fun pins s σ H Q I ⟨r,G,si,q⟩=>wpAny_tests_nil ⟨H,I,q G H (Grow.refl si.gok)⟩
theorem zhs (h:SQ X g m c p):SQs X g m [c] p:=fun pins s σ H Q I q=>wpAny_tests_one (h pins s σ H Q I q)
end
noncomputable def FtOk (ft:FT) (nl:Nat):Prop:=∀d r r1,ft d r=some r1->r1.length=r.length/\∀i,nl<=i->r1[i]? = r[i]?
noncomputable def znB (ft:FTs) (nl:Nat):Prop:=∀d r r1,ft d r=some r1->r1.length=r.length/\∀i,nl<=i->r1[i]? = r[i]?
theorem zcs {i nl:Nat} (h:i < nl):FtOk (ftN i) nl:=fun d r r1 e=>by
 cases e
 exact ⟨by simp,fun j hj=>by rw [List.getElem?_set_ne (by omega)]⟩
theorem zi8 {nl:Nat}:znB zc3 nl:=fun ds r r1 e=>by
 cases ds with
 | nil=>cases e; exact ⟨rfl,fun _ _=>rfl⟩
 | cons _ _=>cases e
theorem zeB {ft:FT} {fts:FTs} {nl:Nat} (h1:FtOk ft nl) (h2:znB fts nl):znB (zaC ft fts) nl:=fun ds r r1 e=>by
 cases ds with
 | nil=>cases e
 | cons d ds=>
  have e':((ft d r).bind fun r'=>fts ds r')=some r1:=e
  cases q:ft d r with
  | none=>rw [q] at e'; cases e'
  | some r2=>
   rw [q] at e'
   obtain ⟨a1,a2⟩:=h1 d r r2 q
   obtain ⟨b1,b2⟩:=h2 ds r2 r1 e'
   exact ⟨b1.trans a1,fun i hi=>(b2 i hi).trans (a2 i hi)⟩
theorem zob {fts:FTs} {nl:Nat} (h:znB fts nl):FtOk (ftT fts) nl:=fun d r r1 e=>by
 cases d with
 | tup ds=>exact h ds r r1 e
 | lst ds=>exact h ds r r1 e
 | _=>cases e
section
variable {X:Cx} {pins:List (Addr × Obj)} {σ:L2.St} {H2:Hp} {s2:Shared} {scope:Scope} {N':List Str} {nl:Nat} {cap:List Nat} {cl:List (Str × Addr)} {fp:List Addr} {g:GE} {G2:GH} {m:List Md} {r:Rho} {elt tg iter:Expr} {ifs:List Expr} {pos:Pos}
 {J:It} {it:Addr} {tn:Nat->Heap->Prop} {ds vs:List D} {ft:FT} {q:FQ} {fe:FE} {E:Value->Shared->Prop}
theorem zlR (i:Nat):(capM nl cap m)[i]?≠some Md.ow:=fun h=>by
 by_cases hi:i < nl
 ·unfold capM at h
  rw [List.getElem?_append_left (by simpa using hi),List.getElem?_replicate] at h
  split at h <;> cases h
 ·unfold capM at h
  rw [zfS (by omega)] at h
  cases e:cap[i - nl]? with
  | none=>rw [e] at h; cases h
  | some j=>
   rw [e] at h
   have h':(if m.getD j Md.sh=Md.sh then Md.sh else Md.bw)=Md.ow:=Option.some.inj h
   split at h' <;> cases h'
theorem zhL {i:Nat} (hi:i < nl) (d:D):(capR nl cap r)[i]?≠some (some d):=fun h=>by
 unfold capR at h
 rw [List.getElem?_append_left (by simpa using hi),List.getElem?_replicate] at h
 split at h <;> cases h
theorem zhJ (hN:X.N.Nodup) (hcalm:X.calm=true) (sc:CompSc X scope N' nl cap) (h1:∀x c,cl.lookup x=some c->X.env.cells.lookup x=some c) (h2:∀x,(x,NameKind.free)∈scope.names->∃c,cl.lookup x=some c)
  (I2:Inv X pins σ H2 s2) (si:SI X g m r G2 σ H2) (T:Turn X.prog X.w X.K tg J fp it tn) (st:tn 0 s2.heap) (hf:∀b∈fp,FpOk X pins H2 b) (Y:YieldsC X.K J ds G2 H2) (hsz:ds.length<=sizeLine)
  (hg:∀C,SG (cxC X s2 H2 N' scope cl C fp) ⟨G2,H2,fun _=>none⟩ (capM nl cap m) tg ft (capM nl cap m)) (hft:FtOk ft nl) (hq:∀C,SQs (cxC X s2 H2 N' scope cl C fp) ⟨G2,H2,fun _=>none⟩ (capM nl cap m) ifs q) (he:∀C,SE (cxC X s2 H2 N' scope cl C fp) ⟨G2,H2,fun _=>none⟩ (capM nl cap m) elt fe)
  (hres:zcv ft q fe (capR nl cap r) ds=.ok vs) {RR:Value->Addr->Result->Shared->Prop}
  (hRR:∀(p C:Addr) (s':Shared) (H':Hp) (G':GH),Inv X pins σ H' s'->(∃mm,s'.heap.Ns C mm)->H' C=none->C≠X.env.locals->X.s₀.heap.objs.size<=C->(∀x c,X.env.cells.lookup x=some c->c≠C)->(∀z∈X.pn++pins,z.1≠C) ->
   Grow X.K G2 H2 G' H'->H2 p=none->Own X.K G' H' p (.lst vs)->RR (.ref p) C (.ok .next) s') :
  wpAny (model X.prog X.w) X.A (newList []) (fun acc s3=>wpAny (model X.prog X.w) X.A (newFunctionEnv scope X.env.globals cl [] X.env.qual none .none (some X.env)) (fun cenv s4=>
   codeAny (model X.prog X.w) X.A (.compStart (.ListComp elt [⟨tg,iter,ifs,0⟩] scope pos) 0 (.ref it) acc { cenv with scope:=relabel scope X.env }) (RR acc cenv.locals) s4) E s3) E s2:=by
 refine wpAny_newObj_type (wpAny_newFunctionEnv sc.nocell (by intro y hy; simp at hy) (fun h₁ hns₁ hsb₁=>?_) sc.kind)
 dsimp only at hns₁ hsb₁ ⊢
 generalize hH2:s2.heap.push { cls:=.type "list",dict:=none,data:=.seq ([]:List Value).toArray }=HH at hns₁ hsb₁ ⊢
 have hC:HH.objs.size=s2.heap.objs.size + 1:=by rw [<-hH2,Heap.size_push]
 have hDC:s2.heap.objs.size≠HH.objs.size:=by rw [hC]; exact Nat.ne_of_lt (Nat.lt_succ_self _)
 have hCle:s2.heap.objs.size<=HH.objs.size:=by rw [hC]; exact Nat.le_succ _
 have below:∀b,b < s2.heap.objs.size->b≠HH.objs.size/\b≠s2.heap.objs.size:=fun b hb=>⟨by rw [hC]; exact Nat.ne_of_lt (Nat.lt_succ_of_lt hb),Nat.ne_of_lt hb⟩
 have old:∀b o,s2.heap.get? b=some o->h₁.get? b=some o:=fun b o e=>hsb₁.extBut b o (below b (Heap.lt_size e)).1 (Heap.get?_push_of_some _ (hH2 ▸ Heap.get?_push_of_some _ e))
 have hacc:h₁.get? s2.heap.objs.size=some { cls:=.type "list",dict:=none,data:=.seq ([]:List Value).toArray }:=hsb₁.extBut _ _ hDC (Heap.get?_push_of_some _ (hH2 ▸ Heap.get?_push_size _ rfl))
 have hp2:H2 s2.heap.objs.size=none:=I2.hok.fresh (Nat.le_refl _)
 have hflt:∀b∈fp,FpOk X pins H2 b/\b < s2.heap.objs.size:=fun b hb=>⟨hf b hb,by
  obtain ⟨o,e,_⟩:=T.obj 0 s2.heap st b hb
  exact Heap.lt_size e⟩
 have ok:=zoh (fp:=fp) I2 sc h1 h2 hflt hCle
 generalize hXX:cxC X s2 H2 N' scope cl HH.objs.size fp=XX at ok
 have hG2p:G2 s2.heap.objs.size=none:=si.gok.isN hp2
 have w0:Grow X.K G2 H2 G2 (upd H2 s2.heap.objs.size (.lst [])):=Grow.new si.gok hp2 _
 have hok4:HOk X.prog X.w (upd H2 s2.heap.objs.size (.lst [])) h₁:=I2.hok.laid old (Nat.le_refl _) ⟨Nat.zero_le _,[],0,.nil,hacc⟩
 have IC:Inv XX [] (capS nl cap σ) (upd H2 s2.heap.objs.size (.lst [])) { s2 with heap:=h₁,toks:=s2.toks + ([]:List (Str × Value)).length }:=by
  subst hXX
  refine zol I2 ok sc h1 h2 hN rfl I2.bare old hns₁ hCle ?_ (fun b hb hlt=>?_) (Un.laid old (Nat.le_refl _) hp2) hok4
  ·rw [zao (Ne.symm hDC)]; exact I2.hok.fresh hCle
  ·rw [zao (below b hlt).2]; exact hb
 have SC:SI XX ⟨G2,H2,fun _=>none⟩ (capM nl cap m) (capR nl cap r) G2 (capS nl cap σ) (upd H2 s2.heap.objs.size (.lst [])):=by
  subst hXX
  exact zr6 si w0
 have hst₁:tn 0 h₁:=T.keep _ _ _ st fun b _ o e=>old b o e
 have hfX:∀(H':Hp),(∀b∈fp,H' b=none)->∀b∈fp,FpOk XX [] H' b:=fun H' hn b hb=>by
  clear IC SC
  subst hXX
  obtain ⟨z0,z1,z2,z3,z4,z5⟩:=hf b hb
  refine ⟨hn b hb,?_,?_,?_,?_,?_⟩
  ·exact (below b (hflt b hb).2).1
  ·intro hfs
   rcases List.mem_cons.mp (I2.stkSub b hfs) with z | z
   ·exact z1 z
   ·exact z2 z
  ·exact .inl hb
  ·exact fun x c e=>z4 x c (h1 x c e)
  ·intro p hp; exact absurd (show p∈([]:List (Addr × Obj)) from hp) (by simp)
 have eA:XX.A=X.A:=Eq.rec (motive:=fun z _=>z.A=X.A) rfl hXX
 have eP:XX.prog=X.prog:=Eq.rec (motive:=fun z _=>z.prog=X.prog) rfl hXX
 have eW:XX.w=X.w:=Eq.rec (motive:=fun z _=>z.w=X.w) rfl hXX
 have eK:XX.K=X.K:=Eq.rec (motive:=fun z _=>z.K=X.K) rfl hXX
 have eX:XX.xe=fun _ _=>False:=Eq.rec (motive:=fun z _=>z.xe=fun _ _=>False) rfl hXX
 have eE:XX.env=compEnvC scope cl HH.objs.size X.env:=Eq.rec (motive:=fun z _=>z.env=compEnvC scope cl HH.objs.size X.env) rfl hXX
 have eC:XX.calm=true:=Eq.rec (motive:=fun z _=>z.calm=true) hcalm hXX
 have eH:XX.H₀ = H2:=Eq.rec (motive:=fun z _=>z.H₀ = H2) rfl hXX
 have hg':PG XX tg (tG XX ⟨G2,H2,fun _=>none⟩ (capM nl cap m) (capM nl cap m) ft):=Eq.rec (motive:=fun z _=>PG z tg (tG z ⟨G2,H2,fun _=>none⟩ (capM nl cap m) (capM nl cap m) ft)) (hg _).2 hXX
 have hq':SQs XX ⟨G2,H2,fun _=>none⟩ (capM nl cap m) ifs q:=Eq.rec (motive:=fun z _=>SQs z ⟨G2,H2,fun _=>none⟩ (capM nl cap m) ifs q) (hq _) hXX
 have he':SE XX ⟨G2,H2,fun _=>none⟩ (capM nl cap m) elt fe:=Eq.rec (motive:=fun z _=>SE z ⟨G2,H2,fun _=>none⟩ (capM nl cap m) elt fe) (he _) hXX
 have fin':∀{H':Hp} {s':Shared} {σ':L2.St} {G':GH} {ws:List V},Inv XX [] σ' H' s'->Grow X.K G2 H2 G' H'->H' s2.heap.objs.size=some (.lst ws)->G' s2.heap.objs.size=none->RGs X.K G' ws vs->RR (.ref s2.heap.objs.size) HH.objs.size (.ok .next) s':=fun {H' s' σ' G' ws} J1 wg hpp hgp rs=>by
  clear IC SC hfX hg' hq' he' eA eP eW eK eX eE eC eH
  subst hXX
  have un:=J1.base
  refine hRR _ _ s' H' G' ?_ (let ⟨mm,hn,_⟩:=J1.loc; ⟨mm,hn⟩) J1.free (Nat.ne_of_gt (Nat.lt_of_lt_of_le I2.lt hCle)) (Nat.le_trans I2.sz hCle) (fun x c e z=>?_) (fun z hz e=>?_) wg hp2 ⟨hgp,.lst hpp rs⟩
  ·refine I2.call' J1.os un J1.hok J1.bare fun b hb=>?_
   obtain ⟨z0,z1,z2,z3,z4,z5⟩:=hf b hb
   exact ⟨z3,z1,z4,z5⟩
  ·obtain ⟨v,o,ho,_⟩:=I2.cell x c e
   exact absurd (Nat.lt_of_lt_of_le (Heap.lt_size ho) hCle) (by rw [z]; exact Nat.lt_irrefl _)
  ·have:=(I2.pin z hz).1
   exact absurd (Nat.lt_of_lt_of_le (Heap.lt_size this) hCle) (by rw [e]; exact Nat.lt_irrefl _)
 have loop:codeAny (model X.prog X.w) X.A (.compLoop (.ListComp elt [⟨tg,iter,ifs,0⟩] scope pos) 0 (.ref it) (.ref s2.heap.objs.size) (compEnvC scope cl HH.objs.size X.env)) (RR (.ref s2.heap.objs.size) HH.objs.size)
   { s2 with heap:=h₁,toks:=s2.toks + ([]:List (Str × Value)).length }:=by
  refine zlQ (fun n s'=>∃(i:Nat) (σ':L2.St) (H':Hp) (G':GH) (ws:List V) (done rest:List D),Inv XX [] σ' H' s'/\SI XX ⟨G2,H2,fun _=>none⟩ (capM nl cap m) (capR nl cap r) G' σ' H'/\tn i s'.heap/\(∀b∈fp,H' b=none)/\Grow X.K G2 H2 G' H' /\
    H' s2.heap.objs.size=some (.lst ws)/\G' s2.heap.objs.size=none/\RGs X.K G' ws done/\zcv ft q fe (capR nl cap r) (ds.drop i)=.ok rest/\vs=done++rest/\done.length<=i/\i<=ds.length/\n=ds.length - i) ?_ ds.length
   ⟨0,_,_,G2,[],[],vs,IC,SC,hst₁,fun b hb=>?_,w0,zan,hG2p,.nil,hres,rfl,Nat.le_refl _,Nat.zero_le _,rfl⟩
  rotate_left
  ·rw [zao (below b (hflt b hb).2).2]; exact (hf b hb).1
  rintro n s3 ⟨i,σ3,H3,G3,ws,done,rest,I3,S3,st3,fr3,w3,hp3,hg3,rs3,hr3,hv3,hd3,hi3,rfl⟩
  have weaken:∀{α:Type} {t:Sem α} {Q:α->Shared->Prop} {s':Shared} {E':Value->Shared->Prop},wpAny (model XX.prog XX.w) XX.A t Q XX.xe s'->wpAny (model X.prog X.w) X.A t Q E' s':=fun h=>by
   rw [eP,eW,eA,eX] at h
   exact wpAny_mono h (fun _ _ z=>z) fun _ _ z=>z.elim
  by_cases hlt:i < ds.length
  ·have hd:ds.drop i=ds[i]::ds.drop (i + 1):=List.drop_eq_getElem_cons hlt
   rw [hd] at hr3
   unfold zcv at hr3
   have it3:=T.item XX eP eW eK eC i [] s3 σ3 H3 (notedBy (model X.prog X.w) X.A (compEnvC scope cl HH.objs.size X.env) fun e s'=>RR (.ref s2.heap.objs.size) HH.objs.size (.error e) s') I3 (hfX H3 fr3) st3 (Y.go G3 H3 i w3 hlt)
   rw [eA] at it3
   refine thn it3 fun rr s4 ⟨u,hr,h4⟩=>?_
   subst hr
   refine thn h4 fun _ s5 ⟨x,H5,I5,r5,y5,st5,fr5⟩=>?_
   obtain ⟨G5,w5,rv5⟩:=Y.yld G3 H3 i x H5 ds[i] w3 y5 (List.getElem?_eq_getElem hlt)
   have w25:=w3.trans w5
   cases eft:ft ds[i] (capR nl cap r) with
   | none=>rw [eft] at hr3; cases hr3
   | some r1=>
    rw [eft] at hr3
    simp only [opt_some,bind_ok] at hr3
    have I5':=I5.pinned (hfX H5 fr5) (T.obj _ _ st5)
    have S5:SI XX ⟨G2,H2,fun _=>none⟩ (capM nl cap m) (capR nl cap r) G5 σ3 H5:=S3.grow (by rw [eK]; exact w5)
    have rv5':RG XX.K G5 x ds[i]:=by rw [eK]; exact rv5
    have as5:=hg' _ s5 σ3 H5 x u (fun σ6 H6=>H6=H5/\SI XX ⟨G2,H2,fun _=>none⟩ (capM nl cap m) r1 G5 σ6 H5) I5' r5 ⟨capR nl cap r,G5,ds[i],S5,rv5',r1,eft,fun σ6 si6=>⟨rfl,si6⟩⟩
    rw [eE] at as5
    refine thn (weaken as5) fun _ s6 ⟨σ6,H6,I6,e6,S6⟩=>?_
    subst e6
    obtain ⟨fl1,fl2⟩:=hft _ _ _ eft
    cases eq1:q r1 with
    | stuck=>rw [eq1] at hr3; cases hr3
    | exc xx=>rw [eq1] at hr3; cases hr3
    | ok b1=>
     rw [eq1] at hr3
     simp only [bind_ok] at hr3
     have te6:=hq' _ s6 σ6 H6 (fun b H7=>b=b1/\∃G7,Grow X.K G5 H6 G7 H7) I6 ⟨r1,G5,S6,by rw [eq1]; exact fun G7 H7 w7=>⟨rfl,G7,by rw [eK] at w7; exact w7⟩⟩
     rw [eE] at te6
     refine thn (weaken te6) fun b s7 ⟨H7,I7,eb,G7,w7⟩=>?_
     subst eb
     have S7:SI XX ⟨G2,H2,fun _=>none⟩ (capM nl cap m) r1 G7 σ6 H7:=S6.grow (by rw [eK]; exact w7)
     have w27:=w25.trans w7
     have hp7:H7 s2.heap.objs.size=some (.lst ws):=w7.he _ _ (w5.he _ _ hp3)
     have hg7:G7 s2.heap.objs.size=none:=by
      rw [w7.gf _ (by rw [w5.he _ _ hp3]; simp),w5.gf _ (by rw [hp3]; simp)]; exact hg3
     have back:∀{σ8:L2.St} {H8:Hp} {G8:GH} {s8:Shared},Inv XX ([]++zgi fp s5.heap) σ8 H8 s8->Inv XX [] σ8 H8 s8/\tn (i + 1) s8.heap/\∀b∈fp,H8 b=none:=fun {σ8 H8 G8 s8} I8=>by
      refine ⟨I8.unpinned,T.keep _ _ _ st5 fun b hb o e=>(I8.pin (b,o) (List.mem_append_right _ (List.mem_append_right _ (zcj hb e)))).1,fun b hb=>?_⟩
      obtain ⟨o,e,_⟩:=T.obj _ _ st5 b hb
      exact (I8.pin (b,o) (List.mem_append_right _ (List.mem_append_right _ (zcj hb e)))).2.1
     have less:∀{σ8:L2.St} {H8:Hp} {G8:GH},SI XX ⟨G2,H2,fun _=>none⟩ (capM nl cap m) r1 G8 σ8 H8->SI XX ⟨G2,H2,fun _=>none⟩ (capM nl cap m) (capR nl cap r) G8 σ8 H8:=fun h=>h.less fl1.symm fun j d hj=>by
      by_cases hjn:j < nl
      ·exact absurd hj (zhL hjn d)
      ·rw [fl2 j (by omega)]; exact hj
     cases b with
     | false=>
      rw [if_neg Bool.false_ne_true] at hr3 ⊢
      obtain ⟨I7',t7,f7⟩:=back (G8:=G7) I7
      exact ⟨ds.length - (i + 1),by omega,i + 1,σ6,H7,G7,ws,done,rest,I7',less S7,t7,f7,w27,hp7,hg7,rs3.mono (Gle.trans w5.ge w7.ge),hr3,hv3,by omega,hlt,rfl⟩
     | true=>
      rw [if_pos rfl] at hr3 ⊢
      cases ee1:fe r1 with
      | stuck=>rw [ee1] at hr3; cases hr3
      | exc xx=>rw [ee1] at hr3; cases hr3
      | ok d1=>
       rw [ee1] at hr3
       simp only [bind_ok] at hr3
       cases er:zcv ft q fe (capR nl cap r) (ds.drop (i + 1)) with
       | stuck=>rw [er] at hr3; cases hr3
       | exc xx=>rw [er] at hr3; cases hr3
       | ok rest'=>
        rw [er] at hr3
        simp only [bind_ok] at hr3
        cases hr3
        have el7:=he' _ s7 σ6 H7 (fun v H8=>∃G8,Grow X.K G7 H7 G8 H8/\RG X.K G8 v d1) I7 ⟨r1,G7,S7,by rw [ee1]; exact fun v G8 H8 w8 rv=>⟨G8,by rw [eK] at w8; exact w8,by rw [eK] at rv; exact rv⟩⟩
        rw [eE] at el7
        refine thn (weaken el7) fun u8 s8 ⟨v8,H8,I8,r8,G8,w8,rv8⟩=>?_
        have hp8:H8 s2.heap.objs.size=some (.lst ws):=w8.he _ _ hp7
        have hg8:G8 s2.heap.objs.size=none:=by rw [w8.gf _ (by rw [hp7]; simp)]; exact hg7
        have S8:SI XX ⟨G2,H2,fun _=>none⟩ (capM nl cap m) r1 G8 σ6 H8:=S7.grow (by rw [eK]; exact w8)
        have hlen:=Paired.length rs3
        have ap8:=zb5 (X:=XX) _ s8 σ6 H8 (.ref s2.heap.objs.size) [v8] (.ref s2.heap.objs.size) [u8] (fun v H9=>H9=upd H8 s2.heap.objs.size (.lst (ws++[v8]))) I8 rfl (.cons r8 .nil) ⟨_,ws,v8,rfl,rfl,hp8,by omega,rfl⟩
        refine thn (weaken ap8) fun u9 s9 ⟨v9,H9,I9,r9,e9⟩=>?_
        subst e9
        obtain ⟨I9',t9,f9⟩:=back (G8:=G8) I9
        have rsn:RGs X.K G8 (ws++[v8]) (done++[d1]):=Paired.snoc (rs3.mono (Gle.trans (Gle.trans w5.ge w7.ge) w8.ge)) rv8
        have w28:=w27.trans w8
        refine ⟨ds.length - (i + 1),by omega,i + 1,σ6,_,G8,ws++[v8],done++[d1],rest',I9',less (S8.other hg8 hp2 zlR _),t9,f9,?_,zan,hg8,rsn,er,by rw [hv3,List.append_assoc]; rfl,by rw [List.length_append,List.length_singleton]; omega,hlt,rfl⟩
        refine ⟨fun b e hb=>(w28.ok b e hb).mono (fun _ _ z=>z) fun o z=>?_,fun b o hb=>?_,w28.ge,w28.gf⟩
        ·rw [zao (by rintro rfl; rw [hg8] at hb; cases hb)]; exact z
        ·rw [zao (by rintro rfl; rw [hp2] at hb; cases hb)]; exact w28.he b o hb
  ·have e:i=ds.length:=by omega
   subst e
   rw [List.drop_length] at hr3
   cases hr3
   rw [List.append_nil] at hv3
   subst hv3
   have dn:=T.done XX eP eW eK eC ds.length [] s3 σ3 H3 (notedBy (model X.prog X.w) X.A (compEnvC scope cl HH.objs.size X.env) fun e s'=>RR (.ref s2.heap.objs.size) HH.objs.size (.error e) s') I3 (hfX H3 fr3) st3 (Y.stop G3 H3 w3)
   rw [eA] at dn
   refine thn dn fun rr s4 ⟨hr,I4⟩=>?_
   subst hr
   exact fin' I4 w3 hp3 hg3 rs3
 exact codeAny_compStart_list loop (T.self X.A 0 _ _ _ hst₁ loop)
end
noncomputable def noXL:Res (List D)->Res (List D)
 | .ok d=>.ok d
 | _=>.stuck
@[simp] theorem noXL_ok (d:List D):noXL (.ok d)=.ok d:=rfl
noncomputable def zca (nl:Nat) (cap:List Nat) (fi:FI) (ft:FT) (q:FQ) (fe:FE):FE:=fun r=>(fi r).bind fun ds=>(opt (sz ds)).bind fun ds=>(noXL (zcv ft q fe (capR nl cap r) ds)).bind fun vs=>.ok (.lst vs)
section
variable {X:Cx} {g:GE} {m mb:List Md} {scope:Scope} {N':List Str} {nl:Nat} {cap:List Nat} {elt tg iter:Expr} {ifs:List Expr} {pos pos' spos:Pos} {fi:FI} {ft:FT} {q:FQ} {fe:FE} {ro:Bool}
theorem zne {r:Rho} {d:D} (h:zca nl cap fi ft q fe r=.ok d):∃ds vs,fi r=.ok ds/\ds.length<=sizeLine/\zcv ft q fe (capR nl cap r) ds=.ok vs/\d=.lst vs:=by
 unfold zca at h
 cases e1:fi r with
 | ok ds=>
  rw [e1,bind_ok] at h
  cases e2:sz ds with
  | none=>rw [e2] at h; cases h
  | some ds'=>
   obtain ⟨rfl,hl⟩:=zmj e2
   rw [e2,opt_some,bind_ok] at h
   cases e3:zcv ft q fe (capR nl cap r) ds' with
   | ok vs=>rw [e3,noXL_ok,bind_ok] at h; cases h; exact ⟨ds',vs,rfl,hl,e3,rfl⟩
   | exc x=>rw [e3] at h; cases h
   | stuck=>rw [e3] at h; cases h
 | exc x=>rw [e1] at h; cases h
 | stuck=>rw [e1] at h; cases h
theorem zhF {r:Rho} {P:D->Prop} {x:D->Prop} (h:fin (zca nl cap fi ft q fe r) P x):fin (fi r) (fun ds=>∃vs,ds.length<=sizeLine/\zcv ft q fe (capR nl cap r) ds=.ok vs/\P (.lst vs)) x:=by
 unfold zca at h
 refine zai (zah h) fun ds h1=>?_
 obtain ⟨ds',e2,h2⟩:=zaB (zah h1)
 obtain ⟨rfl,hl⟩:=zmj e2
 cases e3:zcv ft q fe (capR nl cap r) ds' with
 | ok vs=>rw [e3] at h2; exact ⟨vs,hl,rfl,h2⟩
 | exc x=>rw [e3] at h2; exact h2.elim
 | stuck=>rw [e3] at h2; exact h2.elim
theorem CompSc.clo {pins:List (Addr × Obj)} {σ:L2.St} {H:Hp} {s:Shared} (sc:CompSc X scope N' nl cap) (ok:X.Ok):∃cl,closureFor scope X.env=pure cl/\(∀x c,cl.lookup x=some c->X.env.cells.lookup x=some c)/\(∀x,(x,NameKind.free)∈scope.names->∃c,cl.lookup x=some c):=
 zjQ fun y hy hf=>ok.has y.1 (sc.freeK y hy hf)
theorem ze5 (hN:X.N.Nodup) (hcalm:X.calm=true) (sc:CompSc X scope N' nl cap) (hi:SItC X g m tg iter fi) (hg:∀s0 H0 cl C fp g',SG (cxC X s0 H0 N' scope cl C fp) g' (capM nl cap m) tg ft (capM nl cap m)) (hft:FtOk ft nl)
  (hq:∀s0 H0 cl C fp g',SQs (cxC X s0 H0 N' scope cl C fp) g' (capM nl cap m) ifs q) (he:∀s0 H0 cl C fp g',SE (cxC X s0 H0 N' scope cl C fp) g' (capM nl cap m) elt fe)
  (hs:∀x,foldedSetIterable iter X.env x=pure x:=by intro _; rfl):SO X g m (.ListComp elt [⟨tg,iter,ifs,0⟩] scope pos) (zca nl cap fi ft q fe):=by
 intro pins s σ H Q I h
 obtain ⟨r,G,si,k⟩:=h
 obtain ⟨cl,hcl,h1,h2⟩:=sc.clo (pins:=pins) (σ:=σ) (H:=H) (s:=s) I.ok
 have k1:=zhF k
 rw [eval_ListComp]
 refine wpAny_comprehension_free (use:=none) rfl hs hcl sc.kind sc.names (thn (hi pins s σ H (fun J H'=>∃G' ds vs,Grow X.K G H G' H'/\YieldsC X.K J ds G' H'/\ds.length<=sizeLine/\zcv ft q fe (capR nl cap r) ds=.ok vs /\
  (∀a G' H',Grow X.K G H G' H'->H a=none->Own X.K G' H' a (.lst vs)->Q (.ref a) H')) I ⟨r,G,si,zai k1 fun ds ⟨vs,z1,z2,z3⟩ J G' H' w y=>⟨G',ds,vs,w,y,z1,z2,z3⟩⟩) fun v s1 hv=>thn hv fun itv s2 hv2=>?_)
 obtain ⟨it,fp,tn,J,H2,rfl,I2,T,st,hf,G2,ds,vs,w2,Y,hsz,hres,hQ⟩:=hv2
 refine zhJ (RR:=fun acc C=>compPost (model X.prog X.w) X.A X.xe none (EP X pins σ Q) acc C) hN hcalm sc h1 h2 I2 (si.grow w2) T st hf Y hsz (fun C=>hg _ _ _ _ _ _) hft (fun C=>hq _ _ _ _ _ _) (fun C=>he _ _ _ _ _ _) hres ?_
 intro p C s' H' G' I' hns hC1 hC2 hC3 hC4 hC5 w' hp ho
 obtain ⟨mm,hn⟩:=hns
 refine ⟨mm,hn,fun h' hsb=>⟨.ref p,H',?_,rfl,hQ p G' H' (w2.trans w') (w2.back hp) ho⟩⟩
 exact I'.turned (it:=C) (t':=s'.toks) (fun b o hb e=>hsb.extBut b o hb e) hC1 hC2.symm.symm (.inr hC3) hC4 hC5
theorem zex (i:Nat) {y:Str} (hN:X.N.Nodup) (hcalm:X.calm=true) (hy:X.N[i]? = some y) (hyl:X.env.scope.names.lookup y=some .local) (sc:CompSc X scope N' nl cap) (hi:SItC X g m tg iter fi) (hg:∀s0 H0 cl C fp g',SG (cxC X s0 H0 N' scope cl C fp) g' (capM nl cap m) tg ft (capM nl cap m)) (hft:FtOk ft nl)
  (hq:∀s0 H0 cl C fp g',SQs (cxC X s0 H0 N' scope cl C fp) g' (capM nl cap m) ifs q) (he:∀s0 H0 cl C fp g',SE (cxC X s0 H0 N' scope cl C fp) g' (capM nl cap m) elt fe)
  (hsw:swapsWith (.ListComp elt [⟨tg,iter,ifs,0⟩] scope pos) (some (.Name y pos')) spos.line X.env=pure true:=by rfl) (hs:∀x,foldedSetIterable iter X.env x=pure x:=by intro _; rfl) :
  SS X g ro mb m (.Assign [.Name y pos'] (.ListComp elt [⟨tg,iter,ifs,0⟩] scope pos) spos) (setF m i (zca nl cap fi ft q fe)) (m.set i .ow):=by
 refine ⟨by simp,?_⟩
 intro pins s σ H D0 I h
 obtain ⟨r,G,si,k⟩:=h
 obtain ⟨cl,hcl,h1,h2⟩:=sc.clo (pins:=pins) (σ:=σ) (H:=H) (s:=s) I.ok
 have k1:=zhF (zbU si (m':=m.set i .ow) (by simp) k)
 rw [exec_Assign_Name_used _ _ _ _ hsw]
 refine wpAny_bind (wpAny_standAt (wpAny_bind ?_))
 show wpAny _ X.A (do let _ <-comprehension (.ListComp elt [⟨tg,iter,ifs,0⟩] scope pos) scope X.env _ (newList []) false (eval iter X.env) (some (assign (.Name y pos') X.env))) _ _ s
 refine wpAny_bind (wpAny_mono (wpAny_comprehension_free (use:=some (assign (.Name y pos') X.env)) (Q:=fun _ s'=>SP X pins D0 .next s') rfl hs hcl sc.kind sc.names (thn (hi pins s σ H (fun J H'=>∃G' ds vs,Grow X.K G H G' H'/\YieldsC X.K J ds G' H'/\ds.length<=sizeLine/\zcv ft q fe (capR nl cap r) ds=.ok vs /\
  (∀σ' G' H',Gle G G'->SI X g (m.set i .ow) (r.set i (some (.lst vs))) G' σ' H'->D0.nx σ' H')) I ⟨r,G,si,zai k1 fun ds ⟨vs,z1,z2,z3⟩ J G' H' w y=>⟨G',ds,vs,w,y,z1,z2,z3⟩⟩) fun v s1 hv=>thn hv fun itv s2 hv2=>?_)) (fun _ s' hq=>wpAny_pure (wpAny_pure hq)) fun _ _ e=>e)
 obtain ⟨it,fp,tn,J,H2,rfl,I2,T,st,hf,G2,ds,vs,w2,Y,hsz,hres,hQ⟩:=hv2
 refine zhJ (RR:=fun acc C=>compPost (model X.prog X.w) X.A X.xe (some (assign (.Name y pos') X.env)) (fun _ s'=>SP X pins D0 .next s') acc C) hN hcalm sc h1 h2 I2 (si.grow w2) T st hf Y hsz (fun C=>hg _ _ _ _ _ _) hft (fun C=>hq _ _ _ _ _ _) (fun C=>he _ _ _ _ _ _) hres ?_
 intro p C s' H' G' I' hns hC1 hC2 hC3 hC4 hC5 w' hp ho
 obtain ⟨mm,hn⟩:=hns
 show wpAny _ X.A (assign (.Name y pos') X.env (.ref p)) _ _ s'
 refine wpAny_assign_Name (zfu I' hN hy (.inl hyl) (v:=.ref p) rfl (fun s'' I'' ⟨a,hsb,ha⟩=>?_) (.inr hyl))
 have hCa:C≠a:=by
  rcases ha with z | z
  ·rw [z]; exact hC2
  ·exact (hC4 y a z).symm
 refine ⟨mm,hn.sameBut hsb hCa,fun h' hsb'=>?_⟩
 refine ⟨_,H',I''.turned (it:=C) (t':=s''.toks) (fun b o hb e=>hsb'.extBut b o hb e) hC1 hC2 (.inr hC3) hC4 hC5,?_⟩
 exact hQ _ G' H' (w2.trans w').ge (si.setN (w2.trans w') i (w2.back hp) ho)
end
noncomputable def MutD (K:W.Frag) (r:V->List V->Hp->VK->Prop) (mk:D->List D->Option D):Prop:=∀(G:GH) (H:Hp) (a:Addr) (d:D) (vs:List V) (ds:List D) (d':D) (Q:VK),GOk K G H->Own K G H a d->RGs K G vs ds->mk d ds=some d' ->
 (∀o',OwnO K G (upd H a o') a d'->Q .non (upd H a o'))->r (.ref a) vs H Q
noncomputable def tyB (T:String):D->Bool
 | .lst _=>T == "list"
 | .dic _=>T == "dict"
 | _=>false
noncomputable def mutF (T:String) (m:List Md) (i:Nat) (fl:Rho->Res (List D)) (mk:D->List D->Option D):FS:=fun r=>match r[i]? with
 | some (some d)=>if tyB T d=true then onE m r (fl r) fun ds=>(match mk d ds with
  | some d'=>.nx (r.set i (some d'))
  | none=>.stuck) else .stuck
 | _=>.stuck
theorem zpX {K:W.Frag} {G:GH} {H:Hp} {a:Addr} {d:D} {T:String} (o:Own K G H a d) (t:tyB T d=true):tyV K T (.ref a) H:=by
 cases o.ob with
 | lst r s=>exact .inl ⟨eq_of_beq t,_,SqL.of r⟩
 | dic r s=>exact .inr (.inr (.inl ⟨eq_of_beq t,.inl ⟨_,.inl r⟩⟩))
section
variable {X:Cx} {g:GE} {m mb:List Md} {e a b o:Expr} {es:List Expr} {f fa fb:FE} {fl:Rho->Res (List D)} {pos pos' apos cpos:Pos} {ro:Bool} {x name:Str} {T id:String} {R:V->List V->Hp->VK->Prop} {mk:D->List D->Option D}
theorem zmV (i:Nat) (hm:m[i]? = some .ow) (hk:MutD X.K R mk) {D0:Ends} {σ:L2.St} {H:Hp} (h:tS X g ro m m mb (mutF T m i fl mk) D0 σ H) :
  ∃v,σ[i]? = some (some v)/\tyV X.K T v H/\tL X g m fl σ H fun xs H2=>R v xs H2 fun _ H1=>D0.nx σ H1:=by
 obtain ⟨r,G,si,k⟩:=h
 unfold mutF at k
 cases er:r[i]? with
 | none=>simp only [er] at k; exact (show False from k).elim
 | some oo=>
  cases oo with
  | none=>simp only [er] at k; exact (show False from k).elim
  | some d=>
   simp only [er] at k
   by_cases ht:tyB T d=true
   ·rw [if_pos ht] at k
    obtain ⟨a,h1,h2,h3⟩:=si.mut hm er
    refine ⟨_,h1,zpX h2 ht,r,G,si,zai (zbU si rfl k) fun ds k2 vs G' H' w rs=>?_⟩
    cases em:mk d ds with
    | none=>simp only [em] at k2; exact (show False from k2).elim
    | some d'=>
     simp only [em] at k2
     obtain ⟨a',h1',h2',h3'⟩:=(si.grow w).mut hm er
     rw [h1] at h1'; cases h1'
     exact hk G' H' a d vs ds d' _ w.ok h2' rs em fun o' ob=>k2 σ G' _ w.ge (h3' o' d' ob)
   ·rw [if_neg ht] at k; exact (show False from k).elim
theorem zh5 (i:Nat) (hm:m[i]? = some .ow) (pa:PlainAttrs T) (slot:Slot T name id) (hty:typeOf (.builtin id)=pure (.type "method_descriptor")) (hmt:MtR X id R) (hk:MutD X.K R mk) (hN:X.N[i]? = some x) (hv:Vis X.env.scope x) (ha:SA X g m (e::es) fl)
  (hd:(x == ("__debug__" : Str))=false:=by decide) (hcd:(x == ("__classdict__" : Str))=false:=by decide)
  (hbase:attributeBase (.Name x pos') name X.env (eval (.Name x pos') X.env)=eval (.Name x pos') X.env:=by rfl)
  (hfew:((backTo cpos (starEach (e::es) X.env)).all (fun x=>! x.1) && (backToKw cpos (keywordEach [] X.env)).all (fun x=>x.1.isSome) && decide ((e::es).length + ([]:List Keyword).length + (if ([]:List Keyword).isEmpty then 0 else 1) < 30))=true:=by rfl)
  (hline:(apos.endLine == cpos.line)=true:=by rfl) (hst:starEach (e::es) X.env=(false,eval e X.env)::starEach es X.env:=by rfl) (hplain:(backTo cpos (starEach es X.env)).any (·.1)=false:=by rfl) :
  SS X g ro mb m (.Expr (.Call (.Attribute (.Name x pos') name apos) (e::es) [] cpos) pos) (mutF T m i fl mk) m:=
 ⟨rfl,PS.imp (zoS (zqY pa slot hty hmt (zfG hN hv hd hcd) ha hbase hfew hline hst hplain)) fun D0 σ H h=>zmV i hm hk h⟩
noncomputable def appD:D->List D->Option D
 | .lst ds,[d]=>if ds.length < sizeLine then some (.lst (ds++[d])) else none
 | _,_=>none
theorem zgo {K:W.Frag}:MutD K zkw appD:=by
 intro G H a d vs ds d' Q gk ow rs e q
 unfold appD at e
 split at e
 ·split at e
  ·rename_i hl
   cases e
   cases ow.ob with
   | lst r s=>
    cases rs with
    | cons r1 t=>
     cases t
     have:=Paired.length s
     exact ⟨a,_,_,rfl,rfl,r,by omega,q _ (.lst zan (Paired.snoc s r1))⟩
  ·cases e
 ·cases e
theorem Paired.rev {α β:Type} {F:α->β->Prop}:∀{l:List α} {r:List β},Paired F l r->Paired F l.reverse r.reverse
 | _,_,.nil=>.nil
 | _,_,.cons h t=>by rw [List.reverse_cons,List.reverse_cons]; exact Paired.snoc (Paired.rev t) h
noncomputable def zpv (x:Int) (n:Nat):Nat:=if x < 0 then (x + (n:Int)).toNat else min x.toNat n
noncomputable def insL {α:Type} (xs:List α) (x:Int) (y:α):List α:=xs.take (zpv x xs.length)++y::xs.drop (zpv x xs.length)
noncomputable def zkt:V->List V->Hp->VK->Prop:=fun x vs H Q=>∃l xs i y,x=.ref l/\vs=[.int i,y]/\H l=some (.lst xs)/\-(2 ^ 63)<=i/\i < 2 ^ 63/\xs.length < sizeLine/\Q .non (upd H l (.lst (insL xs i y)))
theorem zkW:MtR X "list.insert" zkt:=by
 intro pins s σ H x vs v us Q I rx rv h
 obtain ⟨l,xs,i,y,rfl,rfl,hH,h1,h2,hz,q⟩:=h
 cases rx
 obtain ⟨u,w',rfl,⟨t,rfl⟩,ry⟩:=zpU rv
 obtain ⟨z,its,n,r,hl,e⟩:=I.lstM hH
 have hfit:¬(! Builtin.List.listFitsIndex i)=true:=by rw [fitsIndex_both h1 h2]; exact Bool.false_ne_true
 refine call_meets PySem.F.slot_list_insert ⟨_,e,rfl⟩ PySem.F.entry_list_insert (PySem.F.args_list_insert_3 _ _ _) (AutoListH.list_insert_list_int_val_1 l its.toArray n i t w' hfit (by rw [List.size_toArray]; omega)) ⟨e,?_⟩
 refine ⟨.non,_,I.lset (its':=insL its i w') hH e ?_ ?_ ?_,rfl,q⟩
 ·show ((its.toArray.extract 0 (if i < 0 then (i + ((its.toArray.size:Nat):Int)).toNat else min i.toNat its.toArray.size)).push w'++its.toArray.extract (if i < 0 then (i + ((its.toArray.size:Nat):Int)).toNat else min i.toNat its.toArray.size))=(insL its i w').toArray
  rw [List.size_toArray]
  unfold insL zpv
  generalize (if i < 0 then (i + ((its.length:Nat):Int)).toNat else min i.toNat its.length)=k
  apply Array.ext'
  simp
  exact List.take_of_length_le (by rw [List.length_drop]; exact Nat.le_refl _)
 ·unfold insL
  rw [hl]
  exact Vals.append (r.take _) (.cons ry (r.drop _))
 ·unfold insL
  rw [List.length_append,List.length_cons,List.length_take,List.length_drop]
  omega
noncomputable def insD:D->List D->Option D
 | .lst ds,[.int i,d]=>if ds.length < sizeLine/\-(2 ^ 63)<=i/\i < 2 ^ 63 then some (.lst (insL ds i d)) else none
 | _,_=>none
theorem zrJ {α β:Type} {F:α->β->Prop} {l:List α} {r:List β} {x:α} {y:β} (h:Paired F l r) (i:Int) (hxy:F x y):Paired F (insL l i x) (insL r i y):=by
 unfold insL
 rw [Paired.length h]
 exact Paired.app (Paired.tk _ h) (.cons hxy (Paired.dr _ h))
theorem zrI {K:W.Frag}:MutD K zkt insD:=by
 intro G H a d vs ds d' Q gk ow rs e q
 unfold insD at e
 split at e
 ·split at e
  ·rename_i hl
   cases e
   cases ow.ob with
   | lst r s=>
    cases rs with
    | cons r1 t=>
     cases t with
     | cons r2 t=>
      cases t
      have:=Paired.length s
      exact ⟨a,_,_,_,rfl,by rw [r1.int gk],r,hl.2.1,hl.2.2,by omega,q _ (.lst zan (zrJ s _ r2))⟩
  ·cases e
 ·cases e
end
noncomputable def zbq:D->Bool
 | .non=>true
 | .bl _=>true
 | .int _=>true
 | .str _=>true
 | _=>false
noncomputable def toV:D->V
 | .non=>.non
 | .bl b=>.bl b
 | .int i=>.int i
 | .str x=>.str x
 | _=>.non
noncomputable def eqs (a b:D):Bool:=eqV (toV a) (toV b)
@[simp] theorem eqs_int (a b:Int):eqs (.int a) (.int b)=(a == b):=rfl
@[simp] theorem eqs_str (a b:Str):eqs (.str a) (.str b)=(a == b):=rfl
@[simp] theorem eqs_non_int (b:Int):eqs .non (.int b)=false:=rfl
@[simp] theorem eqs_int_non (b:Int):eqs (.int b) .non=false:=rfl
section
variable {K:W.Frag} {G:GH} {H:Hp} {v:V} {d:D}
theorem RB.flat (h:RB K G H v d) (gk:GOk K G H) (hf:zbq d=true):v=toV d/\zdA v=true:=by
 cases d with
 | non=>rw [h.non gk]; exact ⟨rfl,rfl⟩
 | bl b=>rw [h.bl gk]; exact ⟨rfl,rfl⟩
 | int i=>rw [h.int gk]; exact ⟨rfl,rfl⟩
 | str x=>rw [h.str gk]; exact ⟨rfl,rfl⟩
 | _=>cases hf
theorem zrW {xs:List V} {ds:List D} (h:RGs K G xs ds) (gk:GOk K G H) (hf:ds.all zbq=true):xs=ds.map toV/\xs.all zdA=true:=by
 induction h with
 | nil=>exact ⟨rfl,rfl⟩
 | cons r t ih=>
  rw [List.all_cons,Bool.and_eq_true] at hf
  obtain ⟨e1,e2⟩:=RB.flat (H:=H) r.rb gk hf.1
  obtain ⟨e3,e4⟩:=ih hf.2
  exact ⟨by rw [List.map_cons,<-e3,<-e1],by rw [List.all_cons,e2,e4]; rfl⟩
end
noncomputable def keyD:D->Option Key
 | .int i=>some (.inl i)
 | .str x=>some (.inr x)
 | _=>none
noncomputable def hasK (kvs:List (Key × D)) (k:Key):Bool:=kvs.any fun kv=>decide (kv.1=k)
noncomputable def getK (kvs:List (Key × D)) (k:Key):Option D:=(kvs.find? fun kv=>decide (kv.1=k)).map (·.2)
noncomputable def inB (x c:D):Option Bool:=match c with
 | .lst ds=>if zbq x=true/\ds.all zbq=true then some (ds.any fun y=>eqs y x) else none
 | .tup ds=>if zbq x=true/\ds.all zbq=true then some (ds.any fun y=>eqs y x) else none
 | .dic kvs=>(keyD x).map (hasK kvs)
 | .str y=>match x with
  | .str z=>some (!(Builtin.Str.occurrences y z 0 y.length 1).isEmpty)
  | _=>none
 | _=>none
noncomputable def inD (x c:D):Option D:=(inB x c).map .bl
noncomputable def ninD (x c:D):Option D:=(inB x c).map fun b=>.bl (! b)
theorem zod {K:W.Frag} {G:GH} {k:Key} {ps:List (Key × V)} {kvs:List (Key × D)} (h:RKs K G ps kvs) (d:D) (e:getK kvs k=some d):∃v,valV ps k=some v/\RG K G v d:=by
 induction h with
 | nil=>cases e
 | @cons p q ps kvs r t ih=>
  obtain ⟨k1,v1⟩:=p
  obtain ⟨k2,d2⟩:=q
  obtain ⟨e1,r1⟩:=r
  have e1':k1=k2:=e1
  subst e1'
  by_cases hk:k1=k
  ·subst hk
   have:d2=d:=by simpa [getK,List.find?_cons] using e
   subst this
   exact ⟨v1,zfi rfl,r1⟩
  ·have e':getK kvs k=some d:=by simpa [getK,List.find?_cons,hk] using e
   obtain ⟨v,h1,h2⟩:=ih e'
   exact ⟨v,by rw [zer hk]; exact h1,h2⟩
theorem zlx {K:W.Frag} {G:GH} {k:Key} {ps:List (Key × V)} {kvs:List (Key × D)} (h:RKs K G ps kvs) (e:getK kvs k=none):valV ps k=none:=by
 induction h with
 | nil=>rfl
 | @cons p q ps kvs r t ih=>
  obtain ⟨k1,v1⟩:=p
  obtain ⟨k2,d2⟩:=q
  obtain ⟨e1,r1⟩:=r
  have e1':k1=k2:=e1
  subst e1'
  by_cases hk:k1=k
  ·subst hk; simp [getK,List.find?_cons] at e
  ·have e':getK kvs k=none:=by simpa [getK,List.find?_cons,hk] using e
   rw [zer hk]; exact ih e'
theorem zrN (kvs:List (Key × D)) (k:Key):hasK kvs k=(getK kvs k).isSome:=by
 induction kvs with
 | nil=>rfl
 | cons p r ih=>
  by_cases e:p.1=k
  ·simp [hasK,getK,List.find?_cons,e]
  ·have h1:hasK (p::r) k=hasK r k:=by simp [hasK,e]
   have h2:getK (p::r) k=getK r k:=by simp [getK,List.find?_cons,e]
   rw [h1,h2,ih]
theorem zlh {K:W.Frag} {G:GH} {H:Hp} {v:V} {d:D} {k:Key} (gk:GOk K G H) (h:RB K G H v d) (e:keyD d=some k):v=kV k:=by
 cases d with
 | int i=>cases e; exact h.int gk
 | str x=>cases e; exact h.str gk
 | _=>cases e
section
variable {X:Cx} {g:GE} {m mb:List Md} {e a b o c:Expr} {f fa fb fc:FE} {pos pos':Pos}
noncomputable def rInD (neg:Bool):R2:=fun y x H Q=>∃a o,x=.ref a/\DGet H a y o/\Q (.bl (if neg then ! o.isSome else o.isSome)) H
theorem zq6 (hu:X.A.units + 1 < cLine):OpR X (compareOp .In) (rInD false):=by
 intro pins s σ H y x u v Q I ry rx h
 obtain ⟨a,oo,rfl,hg,q⟩:=h
 cases rx
 exact d_in hu I hg ry fun s' I'=>⟨.bl _,H,I',rfl,q⟩
theorem zo6 (hu:X.A.units + 1 < cLine):OpR X (compareOp .NotIn) (rInD true):=by
 intro pins s σ H y x u v Q I ry rx h
 obtain ⟨a,oo,rfl,hg,q⟩:=h
 cases rx
 exact zpE hu I hg ry fun s' I'=>⟨.bl _,H,I',rfl,q⟩
noncomputable def rInA (K:W.Frag) (neg:Bool):R2:=fun x y H Q=>rIn K neg x y H Q\/rInD neg x y H Q\/∃i j,x=.str i/\y=.str j/\Q (.bl (if neg then !(!(Builtin.Str.occurrences j i 0 j.length 1).isEmpty) else !(Builtin.Str.occurrences j i 0 j.length 1).isEmpty)) H
theorem zq7 (hu:X.A.units + 1 < cLine):OpR X (compareOp .In) (rInA X.K false):=OpR.or zkN (OpR.or (zq6 hu) zkM)
theorem zo7 (hu:X.A.units + 1 < cLine):OpR X (compareOp .NotIn) (rInA X.K true):=OpR.or zhw (OpR.or (zo6 hu) zhv)
theorem zlq {K:W.Frag} (neg:Bool):OpD K (rInA K neg) (fun x c=>(inB x c).map fun b=>.bl (if neg then ! b else b)):=by
 intro G H v1 v2 d1 d2 d Q gk r1 r2 e q
 have seq:∀{xs:List V} {ds:List D} {p:Addr},RGs K G xs ds->v2=.ref p->(SqL K H p xs\/SqT K H p xs)->zbq d1=true->ds.all zbq=true->d=.bl (if neg then !(ds.any fun y=>eqs y d1) else ds.any fun y=>eqs y d1)->rInA K neg v1 v2 H Q:=fun {xs ds p} rs e2 hs hf hfs ed=>by
  obtain ⟨e1,f1⟩:=RB.flat r1 gk hf
  obtain ⟨e3,f3⟩:=zrW rs gk hfs
  refine .inl ⟨p,xs,e2,hs,f1,f3,q _ G H (Grow.refl gk) ?_⟩
  have:inV v1 xs=ds.any fun y=>eqs y d1:=by
   unfold inV
   rw [e3,List.any_map,e1]
   rfl
  rw [this,ed]
  exact .scl (.bl _)
 cases d2 with
 | lst ds=>
  by_cases hc:zbq d1=true/\ds.all zbq=true
  ·simp only [inB,if_pos hc,Option.map_some] at e
   obtain ⟨p,xs,e2,hs,rs⟩:=r2.lst gk
   exact seq rs e2 (.inl hs) hc.1 hc.2 (Option.some.inj e).symm
  ·simp only [inB,if_neg hc,Option.map_none] at e
   cases e
 | tup ds=>
  by_cases hc:zbq d1=true/\ds.all zbq=true
  ·simp only [inB,if_pos hc,Option.map_some] at e
   obtain ⟨p,xs,e2,hs,rs⟩:=r2.tup gk
   exact seq rs e2 (.inr hs) hc.1 hc.2 (Option.some.inj e).symm
  ·simp only [inB,if_neg hc,Option.map_none] at e
   cases e
 | dic kvs=>
  simp only [inB] at e
  cases ek:keyD d1 with
  | none=>rw [ek] at e; cases e
  | some k=>
   rw [ek] at e
   cases e
   obtain ⟨p,ps,rfl,hs,rs⟩:=r2.dic gk
   refine .inr (.inl ⟨p,valV ps k,rfl,by rw [zlh gk r1 ek]; exact .inl ⟨ps,k,hs,rfl,rfl⟩,q _ G H (Grow.refl gk) ?_⟩)
   have:(valV ps k).isSome=hasK kvs k:=by
    rw [zrN]
    cases eg:getK kvs k with
    | none=>rw [zlx rs eg]; rfl
    | some d=>obtain ⟨v,h1,_⟩:=zod rs d eg; rw [h1]; rfl
   rw [this]
   exact .scl (.bl _)
 | str y=>
  cases d1 with
  | str z=>cases e; exact .inr (.inr ⟨z,y,r1.str gk,r2.str gk,q _ G H (Grow.refl gk) (.scl (.bl _))⟩)
  | _=>cases e
 | _=>cases e
theorem zs7 {K:W.Frag}:OpD K (rInA K false) inD:=by
 have h:=zlq (K:=K) false
 have e:(fun x c=>(inB x c).map fun b=>D.bl (if false=true then ! b else b))=inD:=by
  funext x c; unfold inD; cases inB x c <;> rfl
 rw [e] at h; exact h
theorem zrg {K:W.Frag}:OpD K (rInA K true) ninD:=by
 have h:=zlq (K:=K) true
 have e:(fun x c=>(inB x c).map fun b=>D.bl (if true=true then ! b else b))=ninD:=by
  funext x c; unfold ninD; cases inB x c <;> rfl
 rw [e] at h; exact h
theorem q_in (hu:X.A.units + 1 < cLine) (ha:SB X g m a fa) (hb:SB X g m b fb) (hm:behindInMarks .In b=false:=by rfl):SQ X g m (.Compare a [.In] [b] pos) (zaU (f2 fa fb inD)):=zgH (zq7 hu) zs7 ha hb hm
theorem zsL (hu:X.A.units + 1 < cLine) (ha:SB X g m a fa) (hb:SB X g m b fb) (hm:behindInMarks .NotIn b=false:=by rfl):SQ X g m (.Compare a [.NotIn] [b] pos) (zaU (f2 fa fb ninD)):=zgH (zo7 hu) zrg ha hb hm
noncomputable def isD:D->D->Option D
 | .non,.non=>some (.bl true)
 | _,.non=>some (.bl false)
 | _,_=>none
noncomputable def isnD:D->D->Option D
 | .non,.non=>some (.bl false)
 | _,.non=>some (.bl true)
 | _,_=>none
theorem RB.isnon {K:W.Frag} {G:GH} {H:Hp} {v:V} {d:D} (gk:GOk K G H) (h:RB K G H v d):(v=.non↔d=.non):=by
 constructor
 ·intro e
  subst e
  rcases h with h | ⟨a,e,_⟩
  ·cases h with
   | scl s=>cases s; rfl
  ·cases e
 ·intro e
  subst e
  exact h.non gk
theorem zrH {K:W.Frag}:OpD K (fun x y H Q=>y=.non/\Q (.bl (decide (x=.non))) H) isD:=by
 intro G H v1 v2 d1 d2 d Q gk r1 r2 e q
 have hn:=r1.isnon gk
 cases d2 with
 | non=>
  refine ⟨r2.non gk,q _ G H (Grow.refl gk) ?_⟩
  cases d1 with
  | non=>cases e; rw [decide_eq_true (hn.mpr rfl)]; exact .scl (.bl _)
  | _=>cases e; rw [decide_eq_false (fun z=>by have:=hn.mp z; cases this)]; exact .scl (.bl _)
 | _=>cases d1 <;> cases e
theorem zrG {K:W.Frag}:OpD K (fun x y H Q=>y=.non/\Q (.bl (! decide (x=.non))) H) isnD:=by
 intro G H v1 v2 d1 d2 d Q gk r1 r2 e q
 have hn:=r1.isnon gk
 cases d2 with
 | non=>
  refine ⟨r2.non gk,q _ G H (Grow.refl gk) ?_⟩
  cases d1 with
  | non=>cases e; rw [decide_eq_true (hn.mpr rfl)]; exact .scl (.bl _)
  | _=>cases e; rw [decide_eq_false (fun z=>by have:=hn.mp z; cases this)]; exact .scl (.bl _)
 | _=>cases d1 <;> cases e
theorem s_is (ha:SB X g m a fa) (hb:SB X g m b fb):SE X g m (.Compare a [.Is] [b] pos) (f2 fa fb isD):=zmr znX zrH ha hb (zdx _)
theorem q_is (ha:SB X g m a fa) (hb:SB X g m b fb):SQ X g m (.Compare a [.Is] [b] pos) (zaU (f2 fa fb isD)):=zgH znX zrH ha hb (zdx _)
theorem zsM (ha:SB X g m a fa) (hb:SB X g m b fb):SQ X g m (.Compare a [.IsNot] [b] pos) (zaU (f2 fa fb isnD)):=zgH zo5 zrG ha hb (zdx _)
end
end DL
section
namespace DL
open PySem PySem.Spec PyProof.Rows L2
section
variable {X:Cx} {g:GE} {m mb:List Md} {e a b o c:Expr} {f fa fb fc:FE} {pos pos' p1 p2:Pos} {ro:Bool} {x:Str}
noncomputable def rIxD:R2:=fun x y H Q=>∃a v,x=.ref a/\DGet H a y (some v)/\Q v H
theorem zrD (hu:X.A.units + 1 < cLine):IxR X rIxD:=by
 intro value slice pins s σ H x y v u Q I rx ry h hs
 obtain ⟨a,w,rfl,hg,q⟩:=h
 cases rx
 exact tail_any (zit I hg) PySem.F.slot_dict_getitem.lookup (zlJ hu I hg ry fun w' s' I' rw'=>⟨w,H,I',rw',q⟩) hs
noncomputable def ixA:D->D->Option D
 | .dic kvs,k=>(keyD k).bind (getK kvs)
 | c,k=>ixD c k
theorem zrF {K:W.Frag}:OpD K (fun x y H Q=>rIxD x y H Q\/rIx K x y H Q) ixA:=by
 intro G H v1 v2 d1 d2 d Q gk r1 r2 e q
 cases d1 with
 | dic kvs=>
  obtain ⟨a,ps,rfl,hs,rs⟩:=r1.dic gk
  have e':(keyD d2).bind (getK kvs)=some d:=e
  cases ek:keyD d2 with
  | none=>rw [ek] at e'; cases e'
  | some k=>
   rw [ek] at e'
   obtain ⟨v,h1,h2⟩:=zod rs d e'
   refine .inl ⟨a,v,rfl,?_,q v G H (Grow.refl gk) h2⟩
   rw [zlh gk r2 ek,<-h1]
   exact .inl ⟨ps,k,hs,rfl,rfl⟩
 | lst ds=>exact .inr (zpt G H v1 v2 _ d2 d Q gk r1 r2 e q)
 | tup ds=>exact .inr (zpt G H v1 v2 _ d2 d Q gk r1 r2 e q)
 | str ds=>exact .inr (zpt G H v1 v2 _ d2 d Q gk r1 r2 e q)
 | _=>cases e
theorem zax (hu:X.A.units + 1 < cLine) (ha:SB X g m a fa) (hb:SB X g m b fb) (hs:ziy b:=by intro _ _; rfl):SE X g m (.Subscript a b pos) (f2 fa fb ixA):=zoA zrF (zqW (IxR.or (zrD hu) zrC) ha hb hs)
theorem zre:SO X g m (.Dict [] [] pos) fun _=>.ok (.dic []):=
 PE.imp zmK fun σ H Q ⟨r,G,si,q⟩ p hp=>q p G _ (Grow.new si.gok hp _) hp ⟨si.gok.isN hp,.dic zan .nil⟩
noncomputable def putD (kvs:List (Key × D)) (k:Key) (d:D):List (Key × D):=if (kvs.any fun kv=>decide (kv.1=k))=true then kvs.map fun kv=>if kv.1=k then (kv.1,d) else kv else kvs++[(k,d)]
theorem znz {K:W.Frag} {G:GH} {k:Key} {ps:List (Key × V)} {kvs:List (Key × D)} (h:RKs K G ps kvs):(ps.any fun kv=>decide (kv.1=k))=kvs.any fun kv=>decide (kv.1=k):=by
 induction h with
 | nil=>rfl
 | cons r t ih=>rw [List.any_cons,List.any_cons,ih,r.1]
theorem zsP {K:W.Frag} {G:GH} {ps:List (Key × V)} {kvs:List (Key × D)} {k:Key} {v:V} {d:D} (r:RKs K G ps kvs) (h:RG K G v d):RKs K G (putK ps k v) (putD kvs k d):=by
 unfold putK putD
 rw [znz r]
 by_cases hc:(kvs.any fun kv=>decide (kv.1=k))=true
 ·rw [if_pos hc,if_pos hc]
  clear hc
  induction r with
  | nil=>exact .nil
  | @cons p q ps kvs r t ih=>
   refine .cons ?_ ih
   obtain ⟨p1,p2⟩:=p
   obtain ⟨q1,q2⟩:=q
   have e:p1=q1:=r.1
   subst e
   by_cases hk:p1=k
   ·simp only [hk,if_true,true_and]; exact h
   ·simp only [hk,if_false,true_and]; exact r.2
 ·rw [if_neg hc,if_neg hc]
  exact Paired.snoc r ⟨rfl,h⟩
noncomputable def stoD:D->D->D->Option D
 | .lst ds,.int k,v=>(ixN ds.length k).map fun j=>.lst (ds.set j v)
 | .dic kvs,k,v=>(keyD k).bind fun k=>if kvs.length < sizeLine then some (.dic (putD kvs k v)) else none
 | _,_,_=>none
noncomputable def zqG:V->V->V->Hp->(Hp->Prop)->Prop:=fun o i v H Q=>∃p H',o=.ref p/\DPut H p i v H'/\Q H'
theorem zow (hu:X.A.units + 1 < cLine):PSet X zqG:=by
 intro pins s σ H o i v ov iv u Q I ro ri rv h
 obtain ⟨p,H',rfl,hp,q⟩:=h
 cases ro
 exact zlI hu I hp ri rv fun s' I'=>⟨H',I',q⟩
theorem PSet.or {t t':TSet} (h:PSet X t) (h':PSet X t'):PSet X (fun o i v H Q=>t o i v H Q\/t' o i v H Q):=by
 intro pins s σ H o i v ov iv u Q I ro ri rv q
 rcases q with q | q
 ·exact h pins s σ H o i v ov iv u Q I ro ri rv q
 ·exact h' pins s σ H o i v ov iv u Q I ro ri rv q
theorem zqa {K:W.Frag} {G:GH} {H:Hp} {a:Addr} {d k v d':D} {kv vv:V} {Q:Hp->Prop} (gk:GOk K G H) (ow:Own K G H a d) (rk:RB K G H kv k) (rv:RG K G vv v) (e:stoD d k v=some d') (q:∀o',OwnO K G (upd H a o') a d'->Q (upd H a o')) :
  zqF (.ref a) kv vv H Q\/zqG (.ref a) kv vv H Q:=by
 cases ow.ob with
 | @lst xs ds r s=>
  cases k with
  | int k=>
   have e':(ixN ds.length k).map (fun j=>D.lst (ds.set j v))=some d':=e
   cases ej:ixN ds.length k with
   | none=>rw [ej] at e'; cases e'
   | some j=>
    rw [ej] at e'
    cases e'
    exact .inl ⟨a,xs,k,j,rfl,rk.int gk,r,by rw [Paired.length s]; exact ej,q _ (.lst zan (Paired.st rv j s))⟩
  | _=>cases e
 | @dic ps kvs r s=>
  have e':(keyD k).bind (fun k=>if kvs.length < sizeLine then some (D.dic (putD kvs k v)) else none)=some d':=e
  cases ek:keyD k with
  | none=>rw [ek] at e'; cases e'
  | some k'=>
   rw [ek] at e'
   have e2:(if kvs.length < sizeLine then some (D.dic (putD kvs k' v)) else none)=some d':=e'
   by_cases hl:kvs.length < sizeLine
   ·rw [if_pos hl] at e2
    cases e2
    have:=Paired.length s
    refine .inr ⟨a,_,rfl,?_,q _ (.dic zan (zsP s rv))⟩
    rw [zlh gk rk ek]
    exact DPut.k r (by omega)
   ·rw [if_neg hl] at e2; cases e2
noncomputable def putF (m:List Md) (i:Nat) (fk fv:FE):FS:=fun r=>onE m r (fv r) fun v=>match r[i]? with
 | some (some d)=>onE m r (fk r) fun k=>(match stoD d k v with
  | some d'=>.nx (r.set i (some d'))
  | none=>.stuck)
 | _=>.stuck
theorem zmq (i:Nat) (hu:X.A.units + 1 < cLine) (hm:m[i]? = some .ow) (hN:X.N[i]? = some x) (hv:Vis X.env.scope x) (hk:SB X g m b fb) (he:SE X g m e f)
  (hd:(x == ("__debug__" : Str))=false:=by decide) (hcd:(x == ("__classdict__" : Str))=false:=by decide)
  (ha:∀v,assign (.Subscript (.Name x p1) b p2) X.env v=(do
   let ov <-holding [v] (eval (.Name x p1) X.env)
   let iv <-holding [v,ov] (eval b X.env)
   standAt p2
   holding [v,ov,iv] (setItem ov iv v)
   release [v,ov,iv] []):=by intro _; rfl)
  (hs:swapsWithSole [.Subscript (.Name x p1) b p2] e pos.line X.env=pure false:=by rfl) (hw:swappedStores [.Subscript (.Name x p1) b p2] e X.env=pure none:=by rfl)
  (h1:(assignEach [.Subscript (.Name x p1) b p2] X.env).map (·.2)=[assign (.Subscript (.Name x p1) b p2) X.env]:=by rfl) :
  SS X g ro mb m (.Assign [.Subscript (.Name x p1) b p2] e pos) (putF m i fb f) m:=by
 refine ⟨rfl,PS.imp (znU he (znW (zfG hN hv hd hcd) hk (PSet.or ziL (zow hu)) ha) hs hw h1) fun D0 σ H ⟨r,G,si,k⟩=>⟨r,G,si,?_⟩⟩
 refine zai (zbU si rfl k) fun v k1 vv G1 H1 w1 rv=>?_
 cases er:r[i]? with
 | none=>simp only [er] at k1; exact (show False from k1).elim
 | some oo=>
  cases oo with
  | none=>simp only [er] at k1; exact (show False from k1).elim
  | some d=>
   simp only [er] at k1
   obtain ⟨a,h1,h2,h3⟩:=(si.grow w1).mut hm er
   refine ⟨_,h1,r,G1,si.grow w1,?_⟩
   refine zai (zbU (m:=m) (si.grow w1) rfl (oTo.gle k1 w1.ge)) fun kk k2 kv G2 H2 w2 rk=>?_
   cases es:stoD d kk v with
   | none=>simp only [es] at k2; exact (show False from k2).elim
   | some d'=>
    simp only [es] at k2
    obtain ⟨a',h1',h2',h3'⟩:=((si.grow w1).grow w2).mut hm er
    rw [h1] at h1'; cases h1'
    exact zqa w2.ok h2' rk (rv.mono w2.ge) es fun o' ob=>k2 σ G2 _ w2.ge (h3' o' d' ob)
end
mutual
noncomputable def toPy:D->PyData
 | .non=>.none
 | .bl b=>.bool b
 | .int i=>.int i
 | .str x=>.str x
 | .tup ds=>.tuple (zcT ds)
 | .lst ds=>.list (zcT ds)
 | .dic _=>.none
 | .obj _ _=>.none
noncomputable def zcT:List D->List PyData
 | []=>[]
 | d::ds=>toPy d::zcT ds
end
noncomputable def Shp:Nat->D->Prop
 | _,.non=>True
 | _,.bl _=>True
 | _,.int _=>True
 | _,.str x=>PyData.strOk x=true
 | 0,.tup _=>False
 | 0,.lst _=>False
 | k + 1,.tup ds=>∀d∈ds,Shp k d
 | k + 1,.lst ds=>∀d∈ds,Shp k d
 | _,.dic _=>False
 | _,.obj _ _=>False
theorem zkf {k:Nat} {ds:List D}:Shp (k + 1) (.lst ds)↔∀d∈ds,Shp k d:=by simp only [Shp]
theorem zel {k:Nat} {ds:List D}:Shp (k + 1) (.tup ds)↔∀d∈ds,Shp k d:=by simp only [Shp]
noncomputable def eqb (a b:D):Bool:=PyData.eqv (toPy a) (toPy b)
section
variable {X:Cx} {pins:List (Addr × Obj)} {σ:L2.St} {H:Hp} {s:Shared} {G:GH}
theorem zhr {k:Nat} (ih:∀(d:D) (v:V) (u:Value),Shp k d->RG X.K G v d->L2.RelV v u->∃as,Reads s.heap u (toPy d) as) (ds:List D) (vs:List V) (us:List Value) (h:∀d∈ds,Shp k d) (r:RGs X.K G vs ds) (q:Vals vs us):∃as,ReadsAll s.heap us (zcT ds) as:=by
 induction r generalizing us with
 | nil=>cases q; exact ⟨[],.nil⟩
 | cons r t ih'=>
  cases q with
  | cons r' t'=>
   obtain ⟨a1,h1⟩:=ih _ _ _ (h _ List.mem_cons_self) r r'
   obtain ⟨a2,h2⟩:=ih' _ (fun x hx=>h x (List.mem_cons_of_mem _ hx)) t'
   exact ⟨a1++a2,.cons h1 h2⟩
theorem zfl (I:Inv X pins σ H s) (gk:GOk X.K G H):∀(k:Nat) (d:D) (v:V) (u:Value),Shp k d->RB X.K G H v d->L2.RelV v u->∃as,Reads s.heap u (toPy d) as:=by
 intro k
 induction k with
 | zero=>
  intro d v u hs r ru
  cases d with
  | non=>rw [r.non gk] at ru; cases ru; exact ⟨_,.none⟩
  | bl b=>rw [r.bl gk] at ru; cases ru; exact ⟨_,.bool b⟩
  | int i=>rw [r.int gk] at ru; obtain ⟨t,rfl⟩:=ru; exact ⟨_,.int i t⟩
  | str x=>rw [r.str gk] at ru; obtain ⟨t,rfl⟩:=ru; exact ⟨_,.str x t⟩
  | tup _=>unfold Shp at hs; exact hs.elim
  | lst _=>unfold Shp at hs; exact hs.elim
  | dic _=>unfold Shp at hs; exact hs.elim
  | obj _ _=>unfold Shp at hs; exact hs.elim
 | succ k ih=>
  intro d v u hs r ru
  cases d with
  | non=>rw [r.non gk] at ru; cases ru; exact ⟨_,.none⟩
  | bl b=>rw [r.bl gk] at ru; cases ru; exact ⟨_,.bool b⟩
  | int i=>rw [r.int gk] at ru; obtain ⟨t,rfl⟩:=ru; exact ⟨_,.int i t⟩
  | str x=>rw [r.str gk] at ru; obtain ⟨t,rfl⟩:=ru; exact ⟨_,.str x t⟩
  | tup ds=>
   obtain ⟨a,xs,rfl,sq,rs⟩:=r.tup gk
   cases ru
   obtain ⟨its,rv,pl,_⟩:=I.tuple sq
   obtain ⟨o,ho,hc,n,hd⟩:=pl
   obtain ⟨as,h⟩:=zhr (k:=k) (fun d v u h1 h2 h3=>ih d v u h1 h2.rb h3) ds xs its (zel.mp hs) rs rv
   refine ⟨as,?_⟩
   unfold toPy
   exact .tuple ho hc hd (by simpa using h)
  | lst ds=>
   obtain ⟨a,xs,rfl,sq,rs⟩:=r.lst gk
   cases ru
   obtain ⟨its,rv,pl,_⟩:=I.list sq
   obtain ⟨o,ho,hc,n,hd⟩:=pl.isList
   obtain ⟨as,h⟩:=zhr (k:=k) (fun d v u h1 h2 h3=>ih d v u h1 h2.rb h3) ds xs its (zkf.mp hs) rs rv
   refine ⟨a::as,?_⟩
   unfold toPy
   exact .list ho hc hd (by simpa using h)
  | dic _=>unfold Shp at hs; exact hs.elim
  | obj _ _=>unfold Shp at hs; exact hs.elim
theorem zh3 {k:Nat} (ih:∀d,Shp k d->PyData.canLay0 (toPy d)=true/\PyData.depth (toPy d)<=k):∀ds:List D,(∀d∈ds,Shp k d)->PyData.canLayAll0 (zcT ds)=true/\PyData.depthAll (zcT ds)<=k
 | [],_=>by unfold zcT PyData.canLayAll0 PyData.depthAll; exact ⟨rfl,Nat.zero_le _⟩
 | d::ds,h=>by
  obtain ⟨a1,a2⟩:=ih d (h d List.mem_cons_self)
  obtain ⟨b1,b2⟩:=zh3 ih ds fun x hx=>h x (List.mem_cons_of_mem _ hx)
  unfold zcT PyData.canLayAll0 PyData.depthAll
  rw [a1,b1]
  exact ⟨rfl,Nat.max_le.mpr ⟨a2,b2⟩⟩
theorem zqk:∀(k:Nat) (d:D),Shp k d->PyData.canLay0 (toPy d)=true/\PyData.depth (toPy d)<=k:=by
 intro k
 induction k with
 | zero=>
  intro d hs
  cases d with
  | non=>unfold toPy PyData.canLay0 PyData.depth; exact ⟨rfl,Nat.zero_le _⟩
  | bl b=>unfold toPy PyData.canLay0 PyData.depth; exact ⟨rfl,Nat.zero_le _⟩
  | int i=>unfold toPy PyData.canLay0 PyData.depth; exact ⟨rfl,Nat.zero_le _⟩
  | str x=>unfold Shp at hs; unfold toPy PyData.canLay0 PyData.depth; exact ⟨hs,Nat.zero_le _⟩
  | tup _=>unfold Shp at hs; exact hs.elim
  | lst _=>unfold Shp at hs; exact hs.elim
  | dic _=>unfold Shp at hs; exact hs.elim
  | obj _ _=>unfold Shp at hs; exact hs.elim
 | succ k ih=>
  intro d hs
  cases d with
  | non=>unfold toPy PyData.canLay0 PyData.depth; exact ⟨rfl,Nat.zero_le _⟩
  | bl b=>unfold toPy PyData.canLay0 PyData.depth; exact ⟨rfl,Nat.zero_le _⟩
  | int i=>unfold toPy PyData.canLay0 PyData.depth; exact ⟨rfl,Nat.zero_le _⟩
  | str x=>unfold Shp at hs; unfold toPy PyData.canLay0 PyData.depth; exact ⟨hs,Nat.zero_le _⟩
  | tup ds=>
   obtain ⟨b1,b2⟩:=zh3 ih ds (zel.mp hs)
   unfold toPy PyData.canLay0 PyData.depth
   exact ⟨b1,Nat.succ_le_succ b2⟩
  | lst ds=>
   obtain ⟨b1,b2⟩:=zh3 ih ds (zkf.mp hs)
   unfold toPy PyData.canLay0 PyData.depth
   exact ⟨b1,Nat.succ_le_succ b2⟩
  | dic _=>unfold Shp at hs; exact hs.elim
  | obj _ _=>unfold Shp at hs; exact hs.elim
theorem zev {d:D} (h:Shp 60 d):SeqAt.shaped (toPy d)=true:=by
 obtain ⟨a,b⟩:=zqk 60 d h
 unfold SeqAt.shaped
 rw [a,decide_eq_true (Nat.le_trans b (by decide))]
 rfl
end
section
variable {X:Cx} {g:GE} {m mb:List Md} {e a b o c:Expr} {f fa fb fc:FE} {pos pos':Pos}
noncomputable def zjt (a b:D):Bool:=zbq a && zbq b && scal (toV a) (toV b)
open Classical in
noncomputable def eqB (a b:D):Option Bool:=if zjt a b=true then some (eqs a b) else if Shp 60 a/\Shp 60 b then some (eqb a b) else none
noncomputable def eqD (a b:D):Option D:=(eqB a b).map .bl
noncomputable def neD (a b:D):Option D:=(eqB a b).map fun c=>.bl (! c)
theorem zgZ {a b:D} (h:zjt a b=false) (h1:Shp 60 a) (h2:Shp 60 b):eqB a b=some (eqb a b):=by
 unfold eqB
 rw [if_neg (by rw [h]; exact Bool.false_ne_true),if_pos ⟨h1,h2⟩]
theorem zeC {a b:D} (h:zjt a b=true):eqB a b=some (eqs a b):=by
 unfold eqB
 rw [if_pos h]
@[simp] theorem eqB_int (a b:Int):eqB (.int a) (.int b)=some (a == b):=zeC rfl
@[simp] theorem eqB_str (a b:Str):eqB (.str a) (.str b)=some (a == b):=zeC rfl
@[simp] theorem eqB_non_int (b:Int):eqB .non (.int b)=some false:=zeC rfl
@[simp] theorem eqB_int_non (b:Int):eqB (.int b) .non=some false:=zeC rfl
@[simp] theorem eqB_non_non:eqB .non .non=some true:=zeC rfl
theorem ziM {a b:D} (h:scal (toV a) (toV b)=true) (fa:zbq a=true) (fb:zbq b=true):decide (toV a=toV b)=eqs a b:=by
 cases a <;> cases b <;> first
  | exact absurd (show false=true from fa) Bool.false_ne_true
  | exact absurd (show false=true from fb) Bool.false_ne_true
  | exact absurd (show false=true from h) Bool.false_ne_true
  | exact ziw
  | exact zlG
  | exact ziv
  | rfl
  | simp [toV,eqs,eqV]
noncomputable def zgG (K:W.Frag) (neg:Bool):R2:=fun x y H Q=>∃(G:GH) (d1 d2:D),GOk K G H/\RB K G H x d1/\RB K G H y d2/\Shp 60 d1/\Shp 60 d2/\Q (.bl (if neg then ! eqb d1 d2 else eqb d1 d2)) H
theorem zhx (hu:X.A.units + 64 < cLine):OpR X (compareOp .Eq) (zgG X.K false):=by
 intro pins s σ H x y v u Q I rx ry h
 obtain ⟨G,d1,d2,gk,r1,r2,s1,s2,q⟩:=h
 obtain ⟨as,h1⟩:=zfl I gk 60 d1 x v s1 r1 rx
 obtain ⟨bs,h2⟩:=zfl I gk 60 d2 y u s2 r2 ry
 exact SeqAt.compareEq_shaped h1 h2 (zev s1) (zev s2) hu ⟨.bl _,H,I,rfl,q⟩
theorem zkL (hu:X.A.units + 64 < cLine):OpR X (compareOp .NotEq) (zgG X.K true):=by
 intro pins s σ H x y v u Q I rx ry h
 obtain ⟨G,d1,d2,gk,r1,r2,s1,s2,q⟩:=h
 obtain ⟨as,h1⟩:=zfl I gk 60 d1 x v s1 r1 rx
 obtain ⟨bs,h2⟩:=zfl I gk 60 d2 y u s2 r2 ry
 exact SeqAt.compareNe_shaped h1 h2 (zev s1) (zev s2) hu ⟨.bl _,H,I,rfl,q⟩
theorem eq_cases {a b:D} {c:Bool} (h:eqB a b=some c):(zjt a b=true/\c=eqs a b)\/(Shp 60 a/\Shp 60 b/\c=eqb a b):=by
 unfold eqB at h
 split at h
 ·rename_i hs; cases h; exact .inl ⟨hs,rfl⟩
 ·split at h
  ·rename_i hs; cases h; exact .inr ⟨hs.1,hs.2,rfl⟩
  ·cases h
theorem zrZ {K:W.Frag}:OpD K (fun x y H Q=>rEq x y H Q\/zgG K false x y H Q) eqD:=by
 intro G H v1 v2 d1 d2 d Q gk r1 r2 e q
 unfold eqD at e
 cases ec:eqB d1 d2 with
 | none=>rw [ec] at e; cases e
 | some c=>
  rw [ec] at e
  cases e
  rcases eq_cases ec with ⟨hs,rfl⟩ | ⟨s1,s2,rfl⟩
  ·unfold zjt at hs
   rw [Bool.and_eq_true,Bool.and_eq_true] at hs
   obtain ⟨e1,_⟩:=RB.flat r1 gk hs.1.1
   obtain ⟨e2,_⟩:=RB.flat r2 gk hs.1.2
   refine .inl ⟨by rw [e1,e2]; exact hs.2,?_⟩
   rw [e1,e2,ziM hs.2 hs.1.1 hs.1.2]
   exact q _ G H (Grow.refl gk) (.scl (.bl _))
  ·exact .inr ⟨G,d1,d2,gk,r1,r2,s1,s2,q _ G H (Grow.refl gk) (.scl (.bl _))⟩
theorem zs0 {K:W.Frag}:OpD K (fun x y H Q=>rNe x y H Q\/zgG K true x y H Q) neD:=by
 intro G H v1 v2 d1 d2 d Q gk r1 r2 e q
 unfold neD at e
 cases ec:eqB d1 d2 with
 | none=>rw [ec] at e; cases e
 | some c=>
  rw [ec] at e
  cases e
  rcases eq_cases ec with ⟨hs,rfl⟩ | ⟨s1,s2,rfl⟩
  ·unfold zjt at hs
   rw [Bool.and_eq_true,Bool.and_eq_true] at hs
   obtain ⟨e1,_⟩:=RB.flat r1 gk hs.1.1
   obtain ⟨e2,_⟩:=RB.flat r2 gk hs.1.2
   refine .inl ⟨by rw [e1,e2]; exact hs.2,?_⟩
   rw [e1,e2,ziM hs.2 hs.1.1 hs.1.2]
   exact q _ G H (Grow.refl gk) (.scl (.bl _))
  ·exact .inr ⟨G,d1,d2,gk,r1,r2,s1,s2,q _ G H (Grow.refl gk) (.scl (.bl _))⟩
theorem s_eq (hu:X.A.units + 64 < cLine) (ha:SB X g m a fa) (hb:SB X g m b fb):SE X g m (.Compare a [.Eq] [b] pos) (f2 fa fb eqD):=zmr (OpR.or zq9 (zhx hu)) zrZ ha hb (zdx _)
theorem q_eq (hu:X.A.units + 64 < cLine) (ha:SB X g m a fa) (hb:SB X g m b fb):SQ X g m (.Compare a [.Eq] [b] pos) (zaU (f2 fa fb eqD)):=zgH (OpR.or zq9 (zhx hu)) zrZ ha hb (zdx _)
theorem q_ne (hu:X.A.units + 64 < cLine) (ha:SB X g m a fa) (hb:SB X g m b fb):SQ X g m (.Compare a [.NotEq] [b] pos) (zaU (f2 fa fb neD)):=zgH (OpR.or zsU (zkL hu)) zs0 ha hb (zdx _)
noncomputable def zmz (K:W.Frag):R2:=fun x y H Q=>∃l b xs zs,x=.ref l/\y=.ref b/\SqL K H l xs/\SqL K H b zs/\xs.length + zs.length<=sizeLine/\∀p,H p=none->Q (.ref p) (upd H p (.lst (xs++zs)))
theorem zic:OpR X (binaryOp .Add) (zmz X.K):=by
 intro pins s σ H x y v u Q I rx ry h
 obtain ⟨l,b,xs,zs,rfl,rfl,hH,hB,hz,q⟩:=h
 cases rx
 cases ry
 obtain ⟨its,r,pl,_⟩:=I.list hH
 obtain ⟨its2,r2,pl2,_⟩:=I.list hB
 have l1:=r.length
 have l2:=r2.length
 obtain ⟨⟨cls,dd,data,sl⟩,ho,hc,n,hd⟩:=pl.isList
 obtain ⟨⟨cls2,dd2,data2,sl2⟩,ho2,hc2,n2,hd2⟩:=pl2.isList
 simp only at hc hd hc2 hd2
 subst hc hd hc2 hd2
 have e:its.toArray++its2.toArray=(its++its2).toArray:=by simp
 refine concat_meets ⟨_,ho,rfl⟩ ⟨_,ho2,rfl⟩ noFill_list_add seq_list_add PySem.F.slot_list_add PySem.F.entry_list_add (PySem.F.args_list_add_2 _ _) (list_addW _ _ its.toArray its2.toArray n n2 dd dd2 sl sl2 (by simp; omega)) ⟨ho,ho2,?_⟩
 rw [e]
 exact ⟨.ref _,_,I.lnew (t':=s.toks) (r.append r2) (by rw [List.length_append]; omega),rfl,q _ I.fresh⟩
noncomputable def catL:D->D->Option D
 | .lst a,.lst b=>if a.length + b.length<=sizeLine then some (.lst (a++b)) else none
 | _,_=>none
theorem zpG {K:W.Frag}:OpO K (zmz K) catL:=by
 intro G H v1 v2 d1 d2 d Q gk r1 r2 e q
 unfold catL at e
 split at e
 ·split at e
  ·rename_i hl
   cases e
   obtain ⟨a,xs,rfl,s1,t1⟩:=r1.lst gk
   obtain ⟨b,ys,rfl,s2,t2⟩:=r2.lst gk
   have l1:=Paired.length t1
   have l2:=Paired.length t2
   exact ⟨a,b,xs,ys,rfl,rfl,s1,s2,by omega,fun p hp=>q p G _ (Grow.new gk hp _) hp ⟨gk.isN hp,.lst zan (Paired.app t1 t2)⟩⟩
  ·cases e
 ·cases e
theorem zsZ (ha:SB X g m a fa) (hb:SB X g m b fb):SO X g m (.BinOp a .Add b pos) (f2 fa fb catL):=zqs zic zpG ha hb
noncomputable def addA:D->D->Option D
 | .int a,.int b=>some (.int (a + b))
 | .str a,.str b=>if a.length + b.length<=sizeLine then some (.str (a++b)) else none
 | .lst a,.lst b=>if a.length + b.length<=sizeLine then some (.lst (a++b)) else none
 | .tup (x::a),.tup b=>if (x::a).length + b.length<=sizeLine then some (.tup (x::a++b)) else none
 | _,_=>none
theorem zl6 {K:W.Frag}:OpD K (fun x y H Q=>(∃i j,x=.int i/\y=.int j/\Q (.int (i + j)) H)\/(∃i j,x=.str i/\y=.str j/\i.length + j.length<=sizeLine/\Q (.str (i++j)) H)\/zmz K x y H Q\/zoN K x y H Q) addA:=by
 intro G H v1 v2 d1 d2 d Q gk r1 r2 e q
 unfold addA at e
 split at e
 ·cases e
  exact .inl ⟨_,_,r1.int gk,r2.int gk,q _ G H (Grow.refl gk) (.scl (.int _))⟩
 ·split at e
  ·rename_i hl
   cases e
   exact .inr (.inl ⟨_,_,r1.str gk,r2.str gk,hl,q _ G H (Grow.refl gk) (.scl (.str _))⟩)
  ·cases e
 ·split at e
  ·rename_i hl
   cases e
   obtain ⟨a,xs,rfl,s1,t1⟩:=r1.lst gk
   obtain ⟨b,ys,rfl,s2,t2⟩:=r2.lst gk
   have l1:=Paired.length t1
   have l2:=Paired.length t2
   exact .inr (.inr (.inl ⟨a,b,xs,ys,rfl,rfl,s1,s2,by omega,fun p hp=>q _ _ _ (Grow.newF gk hp (.lst (.inl zan) (Paired.app t1 t2))) (.ref zap)⟩))
  ·cases e
 ·split at e
  ·rename_i x0 a0 b0 hl
   cases e
   rcases r1 with r1 | ⟨a',_,oo⟩
   ·obtain ⟨a,xs,rfl,s1,t1⟩:=r1.tup gk
    obtain ⟨b,ys,rfl,s2,t2⟩:=r2.tup gk
    have l1:=Paired.length t1
    have l2:=Paired.length t2
    refine .inr (.inr (.inr ⟨a,b,xs,ys,rfl,rfl,s1,s2,?_,by omega,fun hy=>?_,fun _ p hp=>q _ _ _ (Grow.newF gk hp (.tup (.inl zan) (Paired.app t1 t2))) (.ref zap)⟩))
    ·rintro rfl
     cases t1
    ·subst hy
     cases t2
     refine q _ G H (Grow.refl gk) ?_
     rw [List.append_nil]
     exact r1
   ·cases oo.ob
  ·cases e
 ·cases e
theorem zbK (ha:SB X g m a fa) (hb:SB X g m b fb):SE X g m (.BinOp a .Add b pos) (f2 fa fb addA):=zgD (OpR.or znY (OpR.or zgj (OpR.or zic zkO))) zl6 ha hb
end
end DL
end
namespace DL
open PySem PySem.Spec PyProof.Rows L2
structure DefAt (K:W.Frag) (mg:Str->Option Value) (x:Str) (st:Stmt):Prop where
 ex:∃f fd,mg x=some (.ref f)/\Fun K x x st f fd
structure Callee (P:Program) (w:World) (K:W.Frag) (mg:Str->Option Value) (base:Heap) (x:Str) (ps:List Str) (ds:List Value) (k:Nat) (ro:Bool) (ms:List Md) (F:List D->Res D):Prop where
 ex:∃f fd,mg x=some (.ref f)/\W.keepIn K (.ref f)=true/\zgc K fd ps ds/\FnOk P w K mg base CX0 k f fd ps (spM K ro ms F)
section
variable {P:Program} {w:World} {K:W.Frag} {mg:Str->Option Value} {base:Heap}
theorem zaI {x:Str} {st:Stmt} {N ps:List Str} {k:Nat} {ro:Bool} {ms:List Md} {fs:FS} {m':List Md} (A:DefAt K mg x st) (S:FnScope N ps (zac st)) (hms:ms.length=ps.length)
  (hb:∀(kV doc pm:Value) (an:Option Addr) (cdv ct:Value) (us:List Value),us.length=ps.length->bindArgs (W.fnOf x x (zdB st) (zcu st) (zac st) .none kV doc pm an cdv ct) ⟨us,[]⟩=pure (ps.zip us))
  (hbody:∀(f:Addr) (cdv:Value) (A:Around) (outer:List Env) (s:Shared) (H:Hp) (g:GE) (E:XK),Room k (A.deeper (envOfC x (zac st) s.heap.objs.size f cdv)) ->
   SSs (cxOf CX0 P w K mg base N x (zac st) f cdv A outer s H E).nox g ro [] (zfv N.length ms) (zcu st) fs m') :
  Callee P w K mg base x ps [] (k + 1) ro ms fun ds=>outR ro (fs (zat N.length ds)):=by
 obtain ⟨f,fd,h1,F⟩:=A.ex
 exact ⟨f,fd,h1,F.kp,F.binds hb,zoc F S hms (hbody f)⟩
structure DefAtD (K:W.Frag) (mg:Str->Option Value) (x:Str) (st:Stmt) (dds:List Value):Prop where
 ex:∃(f T:Addr) (o:Obj) (n:Nat) (oc:Value) (od:Option Addr) (kV doc pm:Value) (an:Option Addr) (cdv ct:Value) (osl:Array (Option Value)),
  mg x=some (.ref f)/\K.lookup T=some o/\o.data=.seq dds.toArray n/\K.lookup f=some ⟨oc,od,.func (W.fnOf x x (zdB st) (zcu st) (zac st) (.ref T) kV doc pm an cdv ct),osl⟩/\W.codeIn K cdv x=true/\W.keepIn K (.ref f)=true
end
section
variable {X:Cx} {g:GE} {m:List Md} {e:Expr} {es:List Expr} {fl:Rho->Res (List D)} {k:Nat} {ps:List Str} {F:List D->Res D} {dvs:List V} {ds:List Value} {dds:List D} {x:Str} {p pos:Pos} {i:Nat} {ms ms':List Md}
theorem zar (c:Callee X.prog X.w X.K X.mg X.base x ps ds k false ms' F) (hr:Room k X.A) (ha:SAM X g m (e::es) ms fl) (hms:ms'=ms++List.replicate dds.length .sh:=by rfl) (hg:Gl X x:=by rfl) (hd:Vals dvs ds:=by exact .nil) (hsc:Paired Scl dvs dds:=by exact .nil)
  (hdb:(x == ("__debug__" : Str))=false:=by decide) (he:starEach (e::es) X.env=(false,eval e X.env)::starEach es X.env:=by rfl) (hpl:(backTo pos (starEach es X.env)).any (·.1)=false:=by rfl) :
  SE X g m (.Call (.Name x p) (e::es) [] pos) (zas fl dds F):=by
 subst hms
 obtain ⟨f,fd,h1,h2,h3,h4⟩:=c.ex
 exact zqr h4 hr hg h1 h2 h3 hd hsc ha hdb he hpl
theorem v_ (i:Nat) (hm:m[i]? = some .sh:=by rfl) (hN:X.N[i]? = some x:=by rfl) (hv:Vis X.env.scope x:=by first | exact Or.inl rfl | exact Or.inr (Or.inl rfl) | exact Or.inr (Or.inr rfl)) (hd:(x == ("__debug__" : Str))=false:=by decide) (hcd:(x == ("__classdict__" : Str))=false:=by decide) :
  SE X g m (.Name x p) fun r=>getV r i:=zsB i hm hN hv hd hcd
theorem vb_ (i:Nat) (hm:i < m.length:=by decide) (hN:X.N[i]? = some x:=by rfl) (hv:Vis X.env.scope x:=by first | exact Or.inl rfl | exact Or.inr (Or.inl rfl) | exact Or.inr (Or.inr rfl)) (hd:(x == ("__debug__" : Str))=false:=by decide) (hcd:(x == ("__classdict__" : Str))=false:=by decide) :
  SB X g m (.Name x p) fun r=>getV r i:=zqn i hm hN hv hd hcd
end
noncomputable def zlM (osc:Scope) (ON:List Str) (sc:Scope) (N':List Str) (nl:Nat) (cap:List Nat):Bool:=
 decide (sc.kind=.function) && sc.names.all (fun y=>decide (y.2≠.cell)) && sc.names.all (fun y=>decide (y.2≠.local) || decide (sc.names.lookup y.1=some .local)) &&
 sc.names.all (fun y=>decide (y.2≠.free) || (decide (osc.names.lookup y.1=some .cell) || decide (osc.names.lookup y.1=some .free))) && decide (N'.length=nl + cap.length) &&
 (List.range cap.length).all fun j=>match N'[nl + j]?,ON[cap.getD j 0]? with
  | some x,some y=>decide (x=y) && decide (sc.names.lookup x=some .free)
  | _,_=>false
theorem zaY {X:Cx} {osc:Scope} {ON:List Str} {sc:Scope} {N':List Str} {nl:Nat} {cap:List Nat} (h1:X.env.scope=osc) (h2:X.N=ON) (h:zlM osc ON sc N' nl cap=true):CompSc X sc N' nl cap:=by
 subst h1 h2
 unfold zlM at h
 simp only [Bool.and_eq_true,List.all_eq_true,decide_eq_true_eq,Bool.or_eq_true] at h
 obtain ⟨⟨⟨⟨⟨a1,a2⟩,a3⟩,a4⟩,a5⟩,a6⟩:=h
 refine ⟨a1,a2,fun y hy hl=>(a3 y hy).resolve_left fun z=>z hl,fun y hy hf=>(a4 y hy).resolve_left fun z=>z hf,a5,fun j hj=>?_⟩
 have h6:=a6 j (List.mem_range.mpr hj)
 cases e1:N'[nl + j]? with
 | none=>rw [e1] at h6; cases h6
 | some x=>
  cases e2:X.N[cap.getD j 0]? with
  | none=>rw [e1,e2] at h6; cases h6
  | some y=>
   rw [e1,e2] at h6
   simp only [Bool.and_eq_true,decide_eq_true_eq] at h6
   exact ⟨x,rfl,by rw [h6.1],h6.2⟩
theorem ztr {K:W.Frag} {h:Heap} {mg:Str->Option Value} {x:Str} {st:Stmt} (KX:K.In h) (G:h.Ns mainGlobals mg) {f:Addr} {oc:Value} {od an:Option Addr} {osl:Array (Option Value)} {kV doc pm cdv ct:Value} (a:W.nsIn K mainGlobals x=some (some (.ref f)))
  (l:K.lookup f=some ⟨oc,od,.func (W.fnOf x x (zdB st) (zcu st) (zac st) .none kV doc pm an cdv ct),osl⟩) (c:W.codeIn K cdv x=true) (k:W.keepIn K (.ref f)=true):DefAt K mg x st:=
 ⟨f,_,W.mg_of KX G a,zrT l c k⟩
theorem ztq {P:Program} {w:World} {K:W.Frag} {mg:Str->Option Value} {x p:Str} {st:Stmt} {k:Nat} {F:List D->Res D} {fa:Addr} (hfa:mg x=some (.ref fa)) (A:DefAt K mg x st)
  (hb:∀(kV doc pm:Value) (an:Option Addr) (cdv ct:Value) (us:List Value),us.length=[p].length->bindArgs (W.fnOf x x (zdB st) (zcu st) (zac st) .none kV doc pm an cdv ct) ⟨us,[]⟩=pure ([p].zip us))
  (C:∀(f:Addr) (fd:FuncData),Fun K x x st f fd->∀base:Heap,FnOk P w K mg base CX0 k f fd [p] (spM K false [.sh] F)) :
  ∃fd:FuncData,(∀(s:Shared) (u:Value),BindsTo s fd ⟨[u],[]⟩ [(p,u)])/\∀base:Heap,K.In base->base.Ns mainGlobals mg->FnOk P w K mg base CX0 k fa fd [p] (spM K false [.sh] F):=by
 obtain ⟨f,fd,h1,Fn⟩:=A.ex
 rw [hfa] at h1
 cases h1
 refine ⟨fd,fun s u=>?_,fun base _ _=>C fa fd Fn base⟩
 obtain ⟨oc,od,kV,doc,pm,an,cdv,ct,osl,rfl,lk,hcd⟩:=Fn.ex
 exact .of_eq (hb kV doc pm an cdv ct [u] rfl)
theorem zts {l:W.OpenLaw} {k:Nat} {q:Program} {loose:List Str} {XP:(Str->Option Value)->Heap->Prop} {YP:World->Heap->Prop} {d:DefRec} {K:Params->W.Frag} {x:Str} {F:List D->Res D} (hn:l.most=some 63) (hdf:d.params.defaults=[]) (hr:Room k callerA)
  (hY:∀(w:World) (h:Heap),YP w h->(K w.params).In h) (hF:∀ns:List Int,ns.length<=63->F [.lst (ns.map .int)]=.ok (.bl true))
  (C:∀(w:World) (mg:Str->Option Value) (fa:Addr) (h:Heap),(K w.params).In h->h.Ns mainGlobals mg->mg d.name=some (.ref fa) ->
   ∃fd:FuncData,(∀(s:Shared) (u:Value),BindsTo s fd ⟨[u],[]⟩ [(x,u)])/\∀base:Heap,(K w.params).In base->base.Ns mainGlobals mg->FnOk l.prog w (K w.params) mg base CX0 k fa fd [x] (spM (K w.params) false [.sh] F)) :
  W.WalkO q loose XP YP l.row.toRowW d [] (fun f vs=>PySem.call f vs):=by
 refine L2.walk_of (n:=63) (k:=k) (x:=x) (CX:=fun _=>CX0) (sp:=fun w=>spM (K w.params) false [.sh] F) hn (by decide) hdf hr hY C (fun w H a ns hl hO hS=>?_) fun _ _ _ _ _ z=>z
 have intsP:∀(l:List Int),Paired Scl (l.map V.int) (l.map D.int):=fun l=>by
  induction l with
  | nil=>exact .nil
  | cons i l ih=>exact .cons (.int i) ih
 rcases hS with hS | hS
 ·refine ⟨fun b=>if b=a then some (.lst (ns.map D.int)) else none,[.lst (ns.map .int)],fun b d' hb=>?_,.sh (.ref (if_pos rfl)) .nil,?_⟩
  ·by_cases e:b=a
   ·subst e
    have hb':some (D.lst (ns.map D.int))=some d':=(if_pos rfl).symm.trans hb
    cases hb'
    exact .lst hS (Paired.mono (fun _ _ z=>.scl z) (intsP ns))
   ·have hb':(none:Option D)=some d':=(if_neg e).symm.trans hb
    cases hb'
  ·rw [hF ns hl]
   intro v G' H' w' rv
   exact rv.bl w'.ok
 ·refine ⟨fun _=>none,[.lst (ns.map .int)],fun b d' hb=>(by cases hb),.sh (.kc (.lst (.inr hS) (intsP ns))) .nil,?_⟩
  rw [hF ns hl]
  intro v G' H' w' rv
  exact rv.bl w'.ok
section
open AutoSeq1 (wpAny_loadPart')
section
variable {prog:Program} {w:World} {A:Around} {E:Value->Shared->Prop} {s:Shared}
theorem zeQ {it t:Addr} {i:Nat} {items} {x:Value} {Q:Value->Shared->Prop} (hit:s.heap.IsTupleIter it t i) (ht:s.heap.IsTuple t items) (hx:items[i]? = some x)
  (hQ:∀h',h'.IsTupleIter it t (i + 1)->Heap.SameBut it s.heap h'->Q x { s with heap:=h' }):wpAny (model prog w) A (Builtin.SmallTypes.nextOf (.ref it)) Q E s:=by
 obtain ⟨o,ho,hc,hd⟩:=id hit
 obtain ⟨ol,hol,_,nl,hdl⟩:=ht
 unfold Builtin.SmallTypes.nextOf
 refine wpAny_bind (wpAny_callSpecial?_slot (name:=Str.ofString "__next__") hit.typeIs F.slot_tuple_iterator_next
  (wpAny_call_entry F.slot_tuple_iterator_next hit.typeIs F.entry_tuple_iterator_next ?_ (F.args_tuple_iterator_next_1 _)))
 show wpAny _ _ (field (.ref it) 0 >>= _) _ _ s
 refine wpAny_bind (wpAny_field ho hd (x:=.ref t) rfl ?_)
 show wpAny _ _ (if (Value.ref t == Value.none)=true then _ else _) _ _ s
 rw [if_neg (show ¬ ((Value.ref t == Value.none)=true) from Bool.false_ne_true)]
 show wpAny _ _ (field (.ref it) 1 >>= _) _ _ s
 refine wpAny_bind (wpAny_field ho hd (x:=.int i 0) rfl ?_)
 show wpAny _ _ (seqItems? (.ref t) >>= _) _ _ s
 refine wpAny_bind (wpAny_seqItems hol hdl ?_)
 simp only [Int.toNat_natCast,hx]
 refine wpAny_bind (wpAny_setField ho hd (by simp) (wpAny_pure ⟨x,rfl,wpAny_pure (hQ _ ?_ (Heap.SameBut.update ..))⟩))
 exact ⟨_,Heap.get?_update_self _ ho (Obj.isFreed_of_fields (Obj.data_mapFields hd _)),(Obj.cls_mapFields ..).trans hc,by
  rw [Obj.data_mapFields hd]; simp [rawInt]⟩
theorem zfg {it t:Addr} {i:Nat} {items} {Q:Value->Shared->Prop} (hh:A.handled=none) (hit:s.heap.IsTupleIter it t i) (ht:s.heap.IsTuple t items) (hx:items[i]? = none)
  (hE:∀h' e,Heap.ExtBut it s.heap h'->(∃o,h'.get? e=some o/\o.cls=.type "StopIteration")->E (.ref e) { s with heap:=h' }):wpAny (model prog w) A (Builtin.SmallTypes.nextOf (.ref it)) Q E s:=by
 obtain ⟨o,ho,hc,hd⟩:=id hit
 obtain ⟨ol,hol,_,nl,hdl⟩:=ht
 unfold Builtin.SmallTypes.nextOf
 refine wpAny_bind (wpAny_callSpecial?_slot (name:=Str.ofString "__next__") hit.typeIs F.slot_tuple_iterator_next
  (wpAny_call_entry F.slot_tuple_iterator_next hit.typeIs F.entry_tuple_iterator_next ?_ (F.args_tuple_iterator_next_1 _)))
 show wpAny _ _ (field (.ref it) 0 >>= _) _ _ s
 refine wpAny_bind (wpAny_field ho hd (x:=.ref t) rfl ?_)
 show wpAny _ _ (if (Value.ref t == Value.none)=true then _ else _) _ _ s
 rw [if_neg (show ¬ ((Value.ref t == Value.none)=true) from Bool.false_ne_true)]
 show wpAny _ _ (field (.ref it) 1 >>= _) _ _ s
 refine wpAny_bind (wpAny_field ho hd (x:=.int i 0) rfl ?_)
 show wpAny _ _ (seqItems? (.ref t) >>= _) _ _ s
 refine wpAny_bind (wpAny_seqItems hol hdl ?_)
 simp only [Int.toNat_natCast,hx]
 refine wpAny_bind (wpAny_rule (wpAny_bind (wpAny_setField ho hd (by simp) ?_)))
 show wpAny _ _ (newExc (.type "StopIteration") [] >>= _) _ _ _
 refine wpAny_bind ?_
 simp only [newExc,newTuple]
 refine wpAny_bind (wpAny_newObj_type ?_ (by size_fits))
 refine wpAny_bind (m:=firstArgMember _ _) (wpAny_of_eq (a:=Value.none) (by first | rfl | (simp only [firstArgMember]; rfl)) ?_)
 refine wpAny_newObj_type ?_ (by size_fits)
 simp only [raiseNew]
 refine wpAny_bind (wpAny_handled ?_)
 first | rw [show A.in1.handled=none from hh] | rw [hh]
 refine wpAny_bind (wpAny_pure (wpAny_throw ?_))
 exact hE _ _ (((Heap.SameBut.update ..).extBut.push _).push _) ⟨_,Heap.get?_push_size _ rfl,rfl⟩
end
theorem zlE {prog:Program} {w:World} {A:Around} (hh:A.handled=none) (it l:Addr) (hne:l≠it) (items:Array Value) :
  Draws prog w A it [it,l] items.size (fun i v=>items[i]? = some v) (fun i h=>h.IsTupleIter it l i/\h.IsTuple l items) where
 live:=fun _ _ st=>let ⟨o,ho,_⟩:=st.1; ⟨o,ho⟩
 frame:=fun _ _ _ st hk=>⟨let ⟨o,ho,r⟩:=st.1; ⟨o,hk it (by simp) o ho,r⟩,let ⟨o,ho,r⟩:=st.2; ⟨o,hk l (by simp) o ho,r⟩⟩
 item:=fun i s Q E hi st hQ=>by
  refine zeQ st.1 st.2 (x:=items[i]) (by simp [hi]) fun h' hit' hs'=>?_
  exact hQ _ h' s.toks (by simp [hi]) ⟨hit',st.2.extBut hs'.extBut hne⟩ hs'
 done:=fun s Q E st hE=>zfg hh st.1 st.2 (by simp) hE
theorem zfJ (l:Addr) (items:Array Value) (n:Nat) (dct:Option Addr) (sl:Array (Option Value)) :
  Meets (Builtin.«enumerate.__new__» ⟨[.type "enumerate",.ref l],[]⟩) (fun _ R s=>s.heap.get? l=some { cls:=.type "tuple",dict:=dct,data:=.seq items n,slots:=sl } /\
   R (.ok (.ret (.ref (s.heap.push { cls:=.type "tuple_iterator",data:=.fields #[.ref l,.int 0 0] }).objs.size)))
    { s with heap:=(s.heap.push { cls:=.type "tuple_iterator",data:=.fields #[.ref l,.int 0 0] }).push { cls:=.type "enumerate",data:=.fields #[.none,.bool false,.ref s.heap.objs.size,rawInt 0,.none,.none] } }):=
 .of_wp fun prog w A R s h=>by
  obtain ⟨hp,g,d,tk,os⟩:=s; obtain ⟨hl,h⟩:=h
  have hsub:=sub_enumerate
  have hL:Heap.IsTuple (Shared.heap ⟨hp,g,d,tk,os⟩) l items:=⟨_,hl,rfl,n,rfl⟩
  wp_walk using wpAny_loadPart' hl
  refine wpAny_stack_any fun st=>wpAny_pure ?_
  split
  ·rename_i c _ _ _ _ _
   cases (c == Value.type "enumerate")
   ·wp_walk using wpAny_loadPart' hl,wpAny_pyIter_tuple hL
    exact ⟨_,rfl,h⟩
   ·wp_walk using wpAny_loadPart' hl,wpAny_pyIter_tuple hL
    exact ⟨_,rfl,h⟩
  ·wp_walk using wpAny_loadPart' hl,wpAny_pyIter_tuple hL
   exact ⟨_,rfl,h⟩
section
variable {prog:Program} {w:World} {A:Around} {E:Value->Shared->Prop} {s:Shared}
theorem zfT {l:Addr} {items:Array Value} {Q:Value->Shared->Prop} (hL:s.heap.IsTuple l items)
  (h:∀h',IsEnum h' (s.heap.objs.size + 1) s.heap.objs.size 0 .none->h'.IsTupleIter s.heap.objs.size l 0->h'.objs.size=s.heap.objs.size + 2 ->
   (∀b o,s.heap.get? b=some o->h'.get? b=some o)->Q (.ref (s.heap.objs.size + 1)) { s with heap:=h' }) :
  wpAny (model prog w) A (call (.type "enumerate") [.ref l]) Q E s:=by
 obtain ⟨⟨c,dct,dt,sl⟩,hl,hc,n,hd⟩:=hL
 replace hc:c=.type "tuple" := hc
 replace hd:dt=.seq items n:=hd
 subst hc hd
 refine callType_new F.called_enumerate (by decide) (F.typeCall_enumerate_1 _) (F.newCall_enumerate_1 _) (fun obj=>F.args_object_init_2 obj _) F.entry_enumerate_new
  (zfJ l items n dct sl) ⟨hl,?_⟩
 have hz:(s.heap.push { cls:=.type "tuple_iterator",data:=.fields #[.ref l,.int 0 0] }).objs.size=s.heap.objs.size + 1:=Heap.size_push ..
 show _/\_
 rw [hz]
 have he:IsEnum ((s.heap.push { cls:=.type "tuple_iterator",data:=.fields #[.ref l,.int 0 0] }).push
   { cls:=.type "enumerate",data:=.fields #[.none,.bool false,.ref s.heap.objs.size,rawInt 0,.none,.none] }) (s.heap.objs.size + 1) s.heap.objs.size 0 .none:=by
  have:=Heap.get?_push_size (s.heap.push { cls:=.type "tuple_iterator",data:=.fields #[.ref l,.int 0 0] })
   (o:={ cls:=.type "enumerate",data:=.fields #[.none,.bool false,.ref s.heap.objs.size,rawInt 0,.none,.none] }) rfl
  rw [hz] at this; exact this
 refine ⟨⟨_,he,rfl⟩,h _ he ⟨_,Heap.get?_push_of_some _ (Heap.get?_push_size _ rfl),rfl,rfl⟩ (by rw [Heap.size_push,hz]) fun b o x=>Heap.get?_push_of_some _ (Heap.get?_push_of_some _ x)⟩
end
theorem zgQ {X:Cx} {pins:List (Addr × Obj)} {σ:L2.St} {H:Hp} {s:Shared} {h':Heap} {ch:List Addr} {T:Addr} {o:HO} {t':Nat} (I:Inv X pins σ H s)
  (hch:∀b∈ch,FpOk X pins H b) (k:∀b ob,b∉ch->s.heap.get? b=some ob->h'.get? b=some ob) (hT:s.heap.objs.size<=T) (new:za8 X.prog X.w (upd H T o) h' T o):Inv X pins σ (upd H T o) { s with heap:=h',toks:=t' }:=by
 have hTn:H T=none:=I.hok.fresh hT
 have trk:∀b u,H b=some u->b∉ch:=fun b u e hb=>by rw [(hch b hb).1] at e; cases e
 have neT:∀b ob,s.heap.get? b=some ob->b≠T:=fun b ob e=>Nat.ne_of_lt (Nat.lt_of_lt_of_le (Heap.lt_size e) hT)
 have keepU:∀b u,H b=some u->upd H T o b=some u:=fun b u e=>by rw [zao (zbV e hTn)]; exact e
 refine I.step (g':=s.gens) (d':=s.drawn) (ch:=ch) (fun b hb=>?_) (fun b ob _ _ hc e _=>k b ob hc e) (fun b ob _ _ hc e _=>⟨ob.slots,k b ob hc e⟩) (fun b ob hc e n=>by rw [zao (neT b ob e)]; exact n)
  (fun b ob hc e=>⟨ob,k b ob hc e⟩) (fun b xs e=>keepU b _ e) (fun b ob u e=>keepU b _ e) (fun b ps e=>⟨#[],by rw [keepU b _ e]; simp⟩) (fun m hm=>?_) (fun b u e=>?_) I.bare
 ·obtain ⟨z0,z1,z2,z3,z4,z5⟩:=hch b hb
  exact ⟨z3,z1,z4,z5⟩
 ·obtain ⟨ob,es,ep,ho,r⟩:=hm
  exact ⟨ob,es,ep,k _ ob (fun hb=>(hch _ hb).2.1 rfl) ho,r⟩
 ·by_cases hb:b=T
  ·subst hb
   rw [zan] at e
   cases e
   exact new
  ·rw [zao hb] at e
   refine (I.hok b u e).stay (fun c v hc q=>k c v ?_ q) (fun c q=>keepU c _ q) fun c xs q=>keepU c _ q
   rcases hc with z | z
   ·rw [z]; exact trk b u e
   ·exact trk c _ z
noncomputable def Ien (sq:Hp->List V->Prop):It:=
 ⟨fun i H=>∃xs x,sq H xs/\xs[i]? = some x,fun i H x H'=>∃p v,H p=none/\x=.ref p/\H'=upd H p (.tup [.int i,v])/\∀xs,sq H xs->xs[i]? = some v,fun i H=>∃xs,sq H xs/\xs.length=i⟩
theorem zkJ {P:Program} {w:World} {H:Hp} {h:Heap} {T:Addr} {i:Nat} {tk:Tok} {x:Value} {v:V} (hT:h.get? T=some { cls:=.type "tuple",data:=.seq #[.int i tk,x] }) (r:L2.RelV v x):za8 P w H h T (.tup [.int i,v]):=
 ⟨by show 2<=sizeLine; decide,[.int i tk,x],.cons ⟨tk,rfl⟩ (.cons r .nil),⟨_,hT,rfl,0,rfl⟩,_,hT,rfl⟩
theorem zjr {P:Program} {w:World} {K:W.Frag} {elts:List Expr} {k:Nat} {pos:Pos} (a it e:Addr) (hei:e≠it):Turn P w K (.Tuple elts k pos) (Ien fun H xs=>SqL K H a xs) [e,it] e (fun i h=>(∃old,IsEnum h e it i old)/\h.IsListIter it a i) where
 mem:=by simp
 obj:=fun i h st b hb=>by
  obtain ⟨⟨old,he⟩,o,ho,hc,hd⟩:=st
  rcases List.mem_cons.mp hb with rfl | hb
  ·exact ⟨_,he,fun v z=>by have z':Data.fields _=Data.cell v:=z; cases z'⟩
  ·rw [List.mem_singleton.mp hb]
   exact ⟨o,ho,fun v z=>by rw [hd] at z; cases z⟩
 keep:=fun i h h' st kk=>by
  obtain ⟨⟨old,he⟩,hi⟩:=st
  exact ⟨⟨old,kk e (by simp) _ he⟩,hi.at fun o q=>kk it (by simp) o q⟩
 item:=by
  intro X hP hw hK hc i pins s σ H E I hf st hg
  subst hP hw hK
  obtain ⟨xs,x,hq,hx⟩:=hg
  obtain ⟨its,rv,p,hz⟩:=I.list hq
  obtain ⟨⟨old,he⟩,hi⟩:=st
  obtain ⟨o1,ho1,hc1,hd1⟩:=id hi
  obtain ⟨o2,ho2,hc2,_⟩:=id p.isList
  have hai:a≠it:=by rintro rfl; rw [ho1] at ho2; cases ho2; rw [hc1] at hc2; exact absurd hc2 (by decide)
  have hea:e≠a:=by rintro rfl; rw [he] at ho2; cases ho2; exact absurd (show Value.type "enumerate" = _ from hc2) (by decide)
  have hlt:i < its.toArray.size:=by
   have:=(List.getElem?_eq_some_iff.mp hx).1
   rw [List.size_toArray,<-rv.length]; exact this
  refine wpAny_pyNext_enum_itemD (Draws.list (A:=X.A.in1) (show X.A.in1.handled=none from I.ok.hd hc) it a hai its.toArray) he ⟨hi,p.isList⟩ hlt hei (by simp [hei,hea]) fun y h' tk hP ho hs' hT hsz hk=>?_
  refine ⟨_,rfl,wpAny_letOwnedTupleGo_enum ho fun h'' he'' hs''=>?_⟩
  obtain ⟨u,hu,ru⟩:=rv.get hx
  have hy:y=u:=by
   have:its[i]? = some y:=by simpa using hP
   rw [hu] at this; exact (Option.some.inj this).symm
  subst hy
  have hTe:s.heap.objs.size≠e:=Nat.ne_of_gt (Heap.lt_size he)
  have hT'':h''.get? s.heap.objs.size=some { cls:=.type "tuple",data:=.seq #[.int i tk,y] }:=(hs''.2 _ hTe).trans hT
  refine ⟨.ref s.heap.objs.size,upd H s.heap.objs.size (.tup [.int i,x]),zgQ (s:=s) (h':=h'') (t':=tk + 1) (ch:=[e,it]) I hf (fun b ob hb q=>?_) (Nat.le_refl _) (zkJ hT'' ru),rfl,⟨_,x,I.hok.fresh (Nat.le_refl _),rfl,rfl,fun ys hy=>by rw [I.list_inj hy hq]; exact hx⟩,⟨⟨_,by simpa using he''⟩,hs'.1.extBut hs''.extBut (Ne.symm hei)⟩,fun b hb=>?_⟩
  ·have hbe:b≠e:=fun z=>hb (by simp [z])
   exact (hs''.2 b hbe).trans (hk b ob hbe (fun z=>hb (by simp [z])) q)
  ·rw [zao ?_]
   ·exact (hf b hb).1
   ·rcases List.mem_cons.mp hb with rfl | hb
    ·exact Nat.ne_of_lt (Heap.lt_size he)
    ·rw [List.mem_singleton.mp hb]; exact Nat.ne_of_lt (Heap.lt_size ho1)
 done:=by
  intro X hP hw hK hc i pins s σ H E I hf st hg
  subst hP hw hK
  obtain ⟨xs,hq,hx⟩:=hg
  obtain ⟨its,rv,p,hz⟩:=I.list hq
  obtain ⟨⟨old,he⟩,hi⟩:=st
  obtain ⟨o1,ho1,hc1,hd1⟩:=id hi
  obtain ⟨o2,ho2,hc2,_⟩:=id p.isList
  have hai:a≠it:=by rintro rfl; rw [ho1] at ho2; cases ho2; rw [hc1] at hc2; exact absurd hc2 (by decide)
  obtain ⟨f0,f1,f2,f3,f4,f5⟩:=hf it (by simp)
  have hn:its.toArray.size=i:=by rw [List.size_toArray,<-rv.length]; exact hx
  refine wpAny_pyNext_enum_endD (Draws.list (A:=X.A.in1) (show X.A.in1.handled=none from I.ok.hd hc) it a hai its.toArray) he ⟨by rw [hn]; exact hi,p.isList⟩ fun h' eb=>⟨rfl,I.turned (t':=s.toks) (fun b o hb q=>eb b o hb q) f0 f1 f3 f4 f5⟩
 self:=fun _ _ _ _ _ st h=>let ⟨⟨_,he⟩,_⟩:=st; wpAny_pyIter_enum he h
theorem IsTupleIter.at' {h h':Heap} {a t:Addr} {i:Nat} (x:h.IsTupleIter a t i) (hs:∀o,h.get? a=some o->h'.get? a=some o):h'.IsTupleIter a t i:=let ⟨o,ho,r⟩:=x; ⟨o,hs o ho,r⟩
theorem zjq {P:Program} {w:World} {K:W.Frag} {elts:List Expr} {k:Nat} {pos:Pos} (a it e:Addr) (hei:e≠it):Turn P w K (.Tuple elts k pos) (Ien fun H xs=>SqT K H a xs) [e,it] e (fun i h=>(∃old,IsEnum h e it i old)/\h.IsTupleIter it a i) where
 mem:=by simp
 obj:=fun i h st b hb=>by
  obtain ⟨⟨old,he⟩,o,ho,hc,hd⟩:=st
  rcases List.mem_cons.mp hb with rfl | hb
  ·exact ⟨_,he,fun v z=>by have z':Data.fields _=Data.cell v:=z; cases z'⟩
  ·rw [List.mem_singleton.mp hb]
   exact ⟨o,ho,fun v z=>by rw [hd] at z; cases z⟩
 keep:=fun i h h' st kk=>by
  obtain ⟨⟨old,he⟩,hi⟩:=st
  exact ⟨⟨old,kk e (by simp) _ he⟩,IsTupleIter.at' hi fun o q=>kk it (by simp) o q⟩
 item:=by
  intro X hP hw hK hc i pins s σ H E I hf st hg
  subst hP hw hK
  obtain ⟨xs,x,hq,hx⟩:=hg
  obtain ⟨its,rv,p,hz⟩:=I.tuple hq
  obtain ⟨⟨old,he⟩,hi⟩:=st
  obtain ⟨o1,ho1,hc1,hd1⟩:=id hi
  obtain ⟨o2,ho2,hc2,_⟩:=id p
  have hai:a≠it:=by rintro rfl; rw [ho1] at ho2; cases ho2; rw [hc1] at hc2; exact absurd hc2 (by decide)
  have hea:e≠a:=by rintro rfl; rw [he] at ho2; cases ho2; exact absurd (show Value.type "enumerate" = _ from hc2) (by decide)
  have hlt:i < its.toArray.size:=by
   have:=(List.getElem?_eq_some_iff.mp hx).1
   rw [List.size_toArray,<-rv.length]; exact this
  refine wpAny_pyNext_enum_itemD (zlE (A:=X.A.in1) (show X.A.in1.handled=none from I.ok.hd hc) it a hai its.toArray) he ⟨hi,p⟩ hlt hei (by simp [hei,hea]) fun y h' tk hP ho hs' hT hsz hk=>?_
  refine ⟨_,rfl,wpAny_letOwnedTupleGo_enum ho fun h'' he'' hs''=>?_⟩
  obtain ⟨u,hu,ru⟩:=rv.get hx
  have hy:y=u:=by
   have:its[i]? = some y:=by simpa using hP
   rw [hu] at this; exact (Option.some.inj this).symm
  subst hy
  have hTe:s.heap.objs.size≠e:=Nat.ne_of_gt (Heap.lt_size he)
  have hT'':h''.get? s.heap.objs.size=some { cls:=.type "tuple",data:=.seq #[.int i tk,y] }:=(hs''.2 _ hTe).trans hT
  refine ⟨.ref s.heap.objs.size,upd H s.heap.objs.size (.tup [.int i,x]),zgQ (s:=s) (h':=h'') (t':=tk + 1) (ch:=[e,it]) I hf (fun b ob hb q=>?_) (Nat.le_refl _) (zkJ hT'' ru),rfl,⟨_,x,I.hok.fresh (Nat.le_refl _),rfl,rfl,fun ys hy=>by rw [I.tuple_inj hy hq]; exact hx⟩,⟨⟨_,by simpa using he''⟩,hs'.1.extBut hs''.extBut (Ne.symm hei)⟩,fun b hb=>?_⟩
  ·have hbe:b≠e:=fun z=>hb (by simp [z])
   exact (hs''.2 b hbe).trans (hk b ob hbe (fun z=>hb (by simp [z])) q)
  ·rw [zao ?_]
   ·exact (hf b hb).1
   ·rcases List.mem_cons.mp hb with rfl | hb
    ·exact Nat.ne_of_lt (Heap.lt_size he)
    ·rw [List.mem_singleton.mp hb]; exact Nat.ne_of_lt (Heap.lt_size ho1)
 done:=by
  intro X hP hw hK hc i pins s σ H E I hf st hg
  subst hP hw hK
  obtain ⟨xs,hq,hx⟩:=hg
  obtain ⟨its,rv,p,hz⟩:=I.tuple hq
  obtain ⟨⟨old,he⟩,hi⟩:=st
  obtain ⟨o1,ho1,hc1,hd1⟩:=id hi
  obtain ⟨o2,ho2,hc2,_⟩:=id p
  have hai:a≠it:=by rintro rfl; rw [ho1] at ho2; cases ho2; rw [hc1] at hc2; exact absurd hc2 (by decide)
  obtain ⟨f0,f1,f2,f3,f4,f5⟩:=hf it (by simp)
  have hn:its.toArray.size=i:=by rw [List.size_toArray,<-rv.length]; exact hx
  refine wpAny_pyNext_enum_endD (zlE (A:=X.A.in1) (show X.A.in1.handled=none from I.ok.hd hc) it a hai its.toArray) he ⟨by rw [hn]; exact hi,p⟩ fun h' eb=>⟨rfl,I.turned (t':=s.toks) (fun b o hb q=>eb b o hb q) f0 f1 f3 f4 f5⟩
 self:=fun _ _ _ _ _ st h=>let ⟨⟨_,he⟩,_⟩:=st; wpAny_pyIter_enum he h
end
noncomputable def tyN:D->Option String
 | .non=>some "NoneType"
 | .bl _=>some "bool"
 | .int _=>some "int"
 | .str _=>some "str"
 | .tup _=>some "tuple"
 | .lst _=>some "list"
 | .dic _=>some "dict"
 | .obj _ _=>none
noncomputable def subT (t T:String):Bool:=t == T || (t == "bool" && T == "int")
noncomputable def isiD (T:String) (d:D):Option D:=(tyN d).map fun t=>.bl (subT t T)
noncomputable def TyD (K:W.Frag) (x:V) (H:Hp) (t:String):Prop:=match x with
 | .non=>t = "NoneType"
 | .bl _=>t = "bool"
 | .int _=>t = "int"
 | .str _=>t = "str"
 | .ref p=>(t = "list"/\∃xs,SqL K H p xs)\/(t = "tuple"/\∃xs,SqT K H p xs)\/(t = "dict"/\∃kvs,Rd H p (.dK kvs))
 | _=>False
theorem zp0 {K:W.Frag} {G:GH} {H:Hp} {v:V} {d:D} {t:String} (gk:GOk K G H) (h:RB K G H v d) (e:tyN d=some t):TyD K v H t:=by
 cases d with
 | non=>cases e; rw [h.non gk]; rfl
 | bl b=>cases e; rw [h.bl gk]; rfl
 | int i=>cases e; rw [h.int gk]; rfl
 | str x=>cases e; rw [h.str gk]; rfl
 | tup ds=>cases e; obtain ⟨a,xs,rfl,s,r⟩:=h.tup gk; exact .inr (.inl ⟨rfl,xs,s⟩)
 | lst ds=>cases e; obtain ⟨a,xs,rfl,s,r⟩:=h.lst gk; exact .inl ⟨rfl,xs,s⟩
 | dic ds=>cases e; obtain ⟨a,xs,rfl,s,r⟩:=h.dic gk; exact .inr (.inr ⟨rfl,xs,s⟩)
 | obj _ _=>cases e
section
variable {X:Cx} {g:GE} {m:List Md} {e a:Expr} {f:FE} {pos p p2:Pos}
theorem zns:zc9 X (.builtin "isinstance") (fun xs H Q=>∃x t T b,xs=[x,.ty T]/\TyD X.K x H t/\W.kitOne X.K (.type t) (.type T)=some b/\Q (.bl b) H):=by
 intro pins s σ H xs us Q I r h
 obtain ⟨x,t,T,b,rfl,ty,e,q⟩:=h
 obtain ⟨u,w',rfl,rx,ry⟩:=zpU r
 cases ry
 have fin:∀tk,EP X pins σ Q (.bool b) { s with toks:=tk }:=fun tk=>⟨.bl b,H,I.tok tk,rfl,q⟩
 cases x with
 | non=>cases rx; cases (show t = "NoneType" from ty); exact W.kia_one W.kitx_none I.kIn True.intro e (fun z=>nomatch z) fin
 | bl y=>cases rx; cases (show t = "bool" from ty); exact W.kia_one W.kitx_bool I.kIn True.intro e (fun z=>nomatch z) fin
 | int i=>obtain ⟨t,rfl⟩:=rx; cases ty; exact W.kia_one W.kitx_int I.kIn True.intro e (fun z=>nomatch z) fin
 | str i=>obtain ⟨t,rfl⟩:=rx; cases ty; exact W.kia_one W.kitx_str I.kIn True.intro e (fun z=>nomatch z) fin
 | ref p=>
  cases rx
  rcases ty with ⟨rfl,xs,hq⟩ | ⟨rfl,xs,hq⟩ | ⟨rfl,kvs,hq⟩
  ·obtain ⟨its,_,pl,_⟩:=I.list hq
   obtain ⟨o,ho,hc,_⟩:=pl.isList
   exact W.kia_one W.kitx_list I.kIn ⟨o,ho,hc⟩ e (fun z=>nomatch z) fin
  ·obtain ⟨its,_,pl,_⟩:=I.tuple hq
   obtain ⟨o,ho,hc,_⟩:=pl
   exact W.kia_one W.kitx_tuple I.kIn ⟨o,ho,hc⟩ e (fun z=>nomatch z) fin
  ·obtain ⟨_,_,vs,_,pp⟩:=(show za8 X.prog X.w H s.heap p (.dK kvs) from hq.ok I.hok)
   obtain ⟨o,es,ep,h1,h2,_⟩:=pp
   exact W.kia_one W.kitx_dict I.kIn ⟨o,h1,h2.1⟩ e (fun z=>nomatch z) fin
 | _=>exact (show False from ty).elim
theorem zh6 (x:Str) (T:String) (hv:bootBuiltins x=some (.type T)) (hk:∀(d:D) (t:String),tyN d=some t->W.kitOne X.K (.type t) (.type T)=some (subT t T)) (hg:Gl X "isinstance") (hm:X.mg "isinstance" = none) (hgT:Gl X x) (hmT:X.mg x=none) (he:SB X g m e f)
  (hn:x≠"__name__" := by decide) (hd:(x == ("__debug__" : Str))=false:=by decide) (hs1:starEach [e,.Name x p2] X.env=(false,eval e X.env)::starEach [.Name x p2] X.env:=by rfl) (hs2:starEach [.Name x p2] X.env=(false,eval (.Name x p2) X.env)::starEach [] X.env:=by rfl)
  (hpl:(backTo pos (starEach [.Name x p2] X.env)).any (·.1)=false:=by rfl) :
  SE X g m (.Call (.Name "isinstance" p) [e,.Name x p2] [] pos) (f1 f (isiD T)):=by
 refine PE.imp (zdg zns hg hm (by first | exact PyProof.Rows.boot_isinstance | rfl) (zcq he (zcq (zo3 (v:=.ty T) hgT hmT hv rfl hn hd) ze4 hs2) hs1) (by decide) (by decide) hs1 hpl) fun σ H Q ⟨r,G,si,q⟩=>⟨r,G,si,zai (zah q) fun d q1 v G1 H1 w1 r1=>?_⟩
 obtain ⟨d',e',q2⟩:=zaB q1
 unfold isiD at e'
 cases et:tyN d with
 | none=>rw [et] at e'; cases e'
 | some t=>
  rw [et] at e'
  cases e'
  exact ⟨v,t,T,_,rfl,zp0 w1.ok r1 et,hk d t et,q2 _ G1 H1 w1 (.scl (.bl _))⟩
end
theorem zft {d:D} {t:String} (h:tyN d=some t) {P:String->Prop} (h1:P "NoneType") (h2:P "bool") (h3:P "int") (h4:P "str") (h5:P "tuple") (h6:P "list") (h7:P "dict"):P t:=by
 cases d <;> cases h <;> assumption
theorem zlb (K:W.Frag) (d:D) (t:String) (h:tyN d=some t):W.kitOne K (.type t) (.type "int")=some (subT t "int"):=zft (P:=fun t=>W.kitOne K (.type t) (.type "int")=some (subT t "int")) h (by kernel_rfl) (by kernel_rfl) (by kernel_rfl) (by kernel_rfl) (by kernel_rfl) (by kernel_rfl) (by kernel_rfl)
theorem zi4 (K:W.Frag) (d:D) (t:String) (h:tyN d=some t):W.kitOne K (.type t) (.type "bool")=some (subT t "bool"):=zft (P:=fun t=>W.kitOne K (.type t) (.type "bool")=some (subT t "bool")) h (by kernel_rfl) (by kernel_rfl) (by kernel_rfl) (by kernel_rfl) (by kernel_rfl) (by kernel_rfl) (by kernel_rfl)
theorem zfL (K:W.Frag) (d:D) (t:String) (h:tyN d=some t):W.kitOne K (.type t) (.type "tuple")=some (subT t "tuple"):=zft (P:=fun t=>W.kitOne K (.type t) (.type "tuple")=some (subT t "tuple")) h (by kernel_rfl) (by kernel_rfl) (by kernel_rfl) (by kernel_rfl) (by kernel_rfl) (by kernel_rfl) (by kernel_rfl)
section
variable {X:Cx} {g:GE} {m:List Md} {e a b:Expr} {f fa:FE} {pos p pos2 p2:Pos} {es:List Expr} {fl:Rho->Res (List D)}
noncomputable def rngV (lo:Int) (n:Nat):List V:=(List.range n).map fun (i:Nat)=>V.int (lo + (i:Int))
theorem zqB {K:W.Frag} {G:GH} (lo:Int) (n:Nat):RGs K G (rngV lo n) (rngD lo n):=by
 unfold rngV rngD
 induction (List.range n) with
 | nil=>exact .nil
 | cons i l ih=>exact .cons (.scl (.int _)) ih
theorem zdb:∀{xs:List V} {us:List Value},xs.length=us.length->(∀(j:Nat) v u,xs[j]? = some v->us[j]? = some u->L2.RelV v u)->Vals xs us
 | [],[],_,_=>.nil
 | v::xs,u::us,hl,h=>.cons (h 0 v u rfl rfl) (zdb (by simpa using hl) fun j a b e1 e2=>h (j + 1) a b (by simpa using e1) (by simpa using e2))
 | [],_::_,hl,_=>by simp at hl
 | _::_,[],hl,_=>by simp at hl
theorem zmx {lo:Int} {n:Nat} {acc:Array Value} (h:ItemsOf (fun i v=>∃t,v=.int (lo + i * 1) t) acc n):Vals (rngV lo n) acc.toList:=by
 refine zdb (by simp [rngV,h.1]) fun j v u e1 e2=>?_
 have hj:j < n:=by
  have:=(List.getElem?_eq_some_iff.mp e1).1
  simpa [rngV] using this
 unfold rngV at e1
 rw [List.getElem?_map,List.getElem?_range hj] at e1
 cases e1
 obtain ⟨t,rfl⟩:=h.2 j u (by rw [<-Array.getElem?_toList]; exact e2)
 exact ⟨t,by simp⟩
theorem zlT:zc9 X (.type "range") (fun xs H Q=>∃j,xs=[.int j]/\∀p,H p=none->Q (.ref p) (upd H p (.rng 0 j))):=by
 intro pins s σ H xs us Q I r h
 obtain ⟨j,rfl,q⟩:=h
 obtain ⟨u,rfl,t,rfl⟩:=zeI r
 refine call_range_1 ⟨.ref s.heap.objs.size,_,I.laid (o:=.rng 0 j) (fun b o e=>Heap.get?_push_of_some _ e) (Nat.le_refl _) ⟨_,_,_,Heap.get?_push_size _ rfl⟩,rfl,q _ (I.hok.fresh (Nat.le_refl _))⟩
theorem zg7 (hc:X.calm=true):zc9 X (.type "list") (fun xs H Q=>∃p lo hi,xs=[.ref p]/\H p=some (.rng lo hi)/\(-(2 ^ 62)<=lo/\lo < 2 ^ 62/\-(2 ^ 62)<=hi/\hi < 2 ^ 62)/\(hi - lo).toNat<=sizeLine/\∀l,H l=none->Q (.ref l) (upd H l (.lst (rngV lo (hi - lo).toNat)))):=by
 intro pins s σ H xs us Q I r h
 obtain ⟨p,lo,hi,rfl,hp,⟨h1,h2,h3,h4⟩,hz,q⟩:=h
 obtain ⟨u,rfl,rx⟩:=zeI r
 cases rx
 obtain ⟨t,u,v,ho⟩:=(show za8 X.prog X.w H s.heap p (.rng lo hi) from I.hok p _ hp)
 have e2:Builtin.Range.rangeSize lo hi 1=(((hi - lo).toNat:Nat):Int):=by rw [rangeSize_one]; split <;> omega
 refine call_list_range (I.ok.hd hc) (r:=p) (a:=lo) (b:=hi) (c:=1) ho (small_one h1 h2 h3 h4) e2 (by rw [sizeLine_eq] at hz; omega) fun h' tk acc c' kp hS hacc=>?_
 refine ⟨.ref s.heap.objs.size,_,I.laid (t':=tk) kp (Nat.le_refl _) (show za8 X.prog X.w _ h' _ (.lst (rngV lo (hi - lo).toNat)) from ⟨by unfold rngV; rw [List.length_map,List.length_range]; exact hz,acc.toList,c',zmx hacc,by rw [Array.toArray_toList]; exact hS⟩),rfl,q _ (I.hok.fresh (Nat.le_refl _))⟩
noncomputable def zk5:List D->Option D
 | [.int j]=>if -(2 ^ 62)<=j/\j < 2 ^ 62/\j.toNat<=sizeLine then some (.lst (rngD 0 j.toNat)) else none
 | _=>none
theorem zrU {H:Hp} {p l:Addr} {o:HO} (h:upd H p o l=none):H l=none/\l≠p:=by
 by_cases e:l=p
 ·subst e; rw [zan] at h; cases h
 ·rw [zao e] at h; exact ⟨h,e⟩
theorem zpj (hc:X.calm=true) (hgl:Gl X "list") (hml:X.mg "list" = none) (hg:Gl X "range") (hm:X.mg "range" = none) (ha:SAB X g m [a] fl)
  (hs:starEach [a] X.env=(false,eval a X.env)::starEach [] X.env:=by rfl)
  (hs2:starEach [.Call (.Name "range" p2) [a] [] pos2] X.env=(false,eval (.Call (.Name "range" p2) [a] [] pos2) X.env)::starEach [] X.env:=by rfl) :
  SO X g m (.Call (.Name "list" p) [.Call (.Name "range" p2) [a] [] pos2] [] pos) (fC fl zk5):=by
 refine PE.imp (zdv (zg7 hc) hgl hml rfl (zcq (zdv zlT hg hm boot_range ha (by decide) (by decide) hs rfl) ze4 hs2) (by decide) (by decide) hs2 rfl) fun σ H Q ⟨r,G,si,q⟩=>⟨r,G,si,zai (zah q) fun ds q1 vs G1 H1 w1 rs=>?_⟩
 obtain ⟨d,e,q2⟩:=zaB q1
 unfold zk5 at e
 split at e
 ·split at e
  ·rename_i j hj
   cases e
   cases rs with
   | cons r1 t=>
    cases t
    refine ⟨j,by rw [r1.int w1.ok],fun p hp=>⟨p,0,j,rfl,zan,⟨by decide,by decide,hj.1,hj.2.1⟩,by simpa using hj.2.2,fun l hl=>?_⟩⟩
    obtain ⟨hl1,hl2⟩:=zrU hl
    have w2:=Grow.new w1.ok hp (.rng 0 j)
    have w3:=Grow.new w2.ok hl (.lst (rngV 0 (j - 0).toNat))
    refine q2 l G1 _ (w1.trans (w2.trans w3)) (w1.back hl1) ⟨w1.ok.isN hl1,.lst zan ?_⟩
    rw [show j - 0=j by omega]
    exact zqB 0 _
  ·cases e
 ·cases e
end
noncomputable def MtD (K:W.Frag) (r:V->List V->Hp->VK->Prop) (k:D->List D->Option D):Prop:=∀(G:GH) (H:Hp) (v:V) (d:D) (vs:List V) (ds:List D) (d':D) (Q:VK),GOk K G H->RB K G H v d->Paired (RB K G H) vs ds->k d ds=some d' ->
 (∀v' G' H',Grow K G H G' H'->RG K G' v' d'->Q v' H')->r v vs H Q
noncomputable def tyM (T:String):D->Bool
 | .lst _=>T == "list"
 | .tup _=>T == "tuple"
 | .dic _=>T == "dict"
 | .str _=>T == "str"
 | .int _=>T == "int"
 | _=>false
theorem zpZ {K:W.Frag} {G:GH} {H:Hp} {v:V} {d:D} {T:String} (gk:GOk K G H) (h:RB K G H v d) (t:tyM T d=true):tyV K T v H:=by
 cases d with
 | lst ds=>obtain ⟨a,xs,rfl,s,r⟩:=h.lst gk; exact .inl ⟨eq_of_beq t,xs,s⟩
 | tup ds=>
  have e:T = "tuple" := eq_of_beq t
  rcases h with h | ⟨a,rfl,o⟩
  ·cases h with
   | scl s=>cases s
   | ref q=>
    cases gk _ _ q with
    | tup r s=>exact .inr (.inl ⟨e,.inr ⟨_,r⟩⟩)
   | kc k=>
    cases k with
    | tup r s z=>exact .inr (.inl ⟨e,.inl z⟩)
  ·cases o.ob
 | dic ds=>obtain ⟨a,xs,rfl,s,r⟩:=h.dic gk; exact .inr (.inr (.inl ⟨eq_of_beq t,.inl ⟨xs,s⟩⟩))
 | str x=>rw [h.str gk]; exact eq_of_beq t
 | int x=>rw [h.int gk]; exact eq_of_beq t
 | _=>cases t
noncomputable def fM (T:String) (fo:FE) (fl:Rho->Res (List D)) (k:D->List D->Option D):FE:=fun r=>(fo r).bind fun d=>if tyM T d=true then (fl r).bind fun ds=>opt (k d ds) else .stuck
section
variable {X:Cx} {g:GE} {m mb:List Md} {e a b o:Expr} {es:List Expr} {f fa fb fo:FE} {fl:Rho->Res (List D)} {pos pos' apos cpos:Pos} {ro:Bool} {x name:Str} {T id:String} {R:V->List V->Hp->VK->Prop} {k:D->List D->Option D}
theorem s_bm (pa:PlainAttrs T) (slot:Slot T name id) (hty:typeOf (.builtin id)=pure (.type "method_descriptor")) (hmt:MtR X id R) (hk:MtD X.K R k) (ho:SB X g m o fo) (ha:SAB X g m (e::es) fl)
  (hbase:attributeBase o name X.env (eval o X.env)=eval o X.env:=by rfl)
  (hfew:((backTo cpos (starEach (e::es) X.env)).all (fun x=>! x.1) && (backToKw cpos (keywordEach [] X.env)).all (fun x=>x.1.isSome) && decide ((e::es).length + ([]:List Keyword).length + (if ([]:List Keyword).isEmpty then 0 else 1) < 30))=true:=by rfl)
  (hline:(apos.endLine == cpos.line)=true:=by rfl) (hst:starEach (e::es) X.env=(false,eval e X.env)::starEach es X.env:=by rfl) (hplain:(backTo cpos (starEach es X.env)).any (·.1)=false:=by rfl) :
  SE X g m (.Call (.Attribute o name apos) (e::es) [] cpos) (fM T fo fl k):=by
 refine PE.imp (zqY pa slot hty hmt ho ha hbase hfew hline hst hplain) fun σ H Q ⟨r,G,si,q⟩=>⟨r,G,si,zai (zah q) fun d q1 v G1 H1 w1 r1=>?_⟩
 by_cases ht:tyM T d=true
 ·rw [if_pos ht] at q1
  refine ⟨zpZ w1.ok r1 ht,r,G1,si.grow w1,zaF (zah q1) w1 fun ds q2 vs G2 H2 w2 rs=>?_⟩
  obtain ⟨d',e',q3⟩:=zaB q2
  exact hk G2 H2 v d vs ds d' Q w2.ok (r1.mono w2) rs e' fun v' G' H' w' z=>q3 v' G' H' ((w1.trans w2).trans w') z
 ·rw [if_neg ht] at q1; exact q1.elim
noncomputable def zgX (x:V):List V->Option Nat
 | []=>none
 | y::xs=>if eqV y x=true then some 0 else (zgX x xs).map (· + 1)
noncomputable def zfP (x:D):List D->Option Nat
 | []=>none
 | y::xs=>if eqs y x=true then some 0 else (zfP x xs).map (· + 1)
theorem zi9 (x:D):∀ds:List D,zgX (toV x) (ds.map toV)=zfP x ds
 | []=>rfl
 | y::ds=>by
  show (if eqV (toV y) (toV x)=true then some 0 else (zgX (toV x) (ds.map toV)).map (· + 1))=if eqs y x=true then some 0 else (zfP x ds).map (· + 1)
  rw [zi9 x ds]; rfl
theorem zja {x:V} {xs:List V} {us:List Value} {j:Nat} (h0:Vals xs us) (f:xs.all zdA=true) (h:zgX x xs=some j):∃hj:j < us.length,eqU x us[j]=true/\∀i (hi:i < us.length),i < j->eqU x us[i]=false:=by
 induction h0 generalizing j with
 | nil=>cases h
 | @cons y u xs us r t ih=>
  rw [List.all_cons,Bool.and_eq_true] at f
  unfold zgX at h
  by_cases hy:eqV y x=true
  ·rw [if_pos hy] at h
   cases h
   exact ⟨Nat.zero_lt_succ _,by show eqU x u=true; rw [zjb r f.1]; exact hy,fun i _ hlt=>absurd hlt (Nat.not_lt_zero _)⟩
  ·rw [if_neg hy] at h
   cases e:zgX x xs with
   | none=>rw [e] at h; cases h
   | some z=>
    rw [e] at h
    cases h
    obtain ⟨a,b,c⟩:=ih f.2 e
    refine ⟨Nat.succ_lt_succ a,b,fun i hi hlt=>?_⟩
    cases i with
    | zero=>show eqU x u=false; rw [zjb r f.1]; simpa using hy
    | succ i=>exact c i (Nat.lt_of_succ_lt_succ hi) (Nat.lt_of_succ_lt_succ hlt)
noncomputable def zkv (K:W.Frag):V->List V->Hp->VK->Prop:=fun x vs H Q=>∃p xs y j,x=.ref p/\vs=[y]/\SqL K H p xs/\zdA y=true/\xs.all zdA=true/\zgX y xs=some j/\Q (.int j) H
noncomputable def zku (K:W.Frag):V->List V->Hp->VK->Prop:=fun x vs H Q=>∃p xs y j,x=.ref p/\vs=[y]/\SqT K H p xs/\zdA y=true/\xs.all zdA=true/\zgX y xs=some j/\Q (.int j) H
theorem zkX:MtR X "list.index" (zkv X.K):=by
 intro pins s σ H x vs v us Q I rx rv h
 obtain ⟨p,xs,y,j,rfl,rfl,hq,fy,fx,e,q⟩:=h
 cases rx
 obtain ⟨u,rfl,ru⟩:=zeI rv
 obtain ⟨its,r,pl,hz⟩:=I.list hq
 obtain ⟨o,n,ho,hc,hd,hs⟩:=pl
 obtain ⟨a,b,c⟩:=zja r fx e
 have hl:=r.length
 obtain ⟨ocls,odict,odata,oslots⟩:=o
 simp only at hc hd hs
 subst hc hd hs
 refine call_meets PySem.F.slot_list_index ⟨_,ho,rfl⟩ PySem.F.entry_list_index (PySem.F.args_list_index_2 _ _)
  (SeqAt.list_indexAt p its.toArray n none oslots u (eqU y) j (by simpa using a) (by rw [sizeLine_eq] at hz; omega) (by simpa using b) (fun i hi hlt=>by simpa using c i (by simpa using hi) hlt)) ⟨ho,fun w hw=>zdi ru fy r fx w (by simpa using hw),⟨.int j,H,I.tok _,⟨_,rfl⟩,q⟩⟩
theorem zhy:MtR X "tuple.index" (zku X.K):=by
 intro pins s σ H x vs v us Q I rx rv h
 obtain ⟨p,xs,y,j,rfl,rfl,hq,fy,fx,e,q⟩:=h
 cases rx
 obtain ⟨u,rfl,ru⟩:=zeI rv
 obtain ⟨its,r,pl,hz⟩:=I.tuple hq
 obtain ⟨o,ho,hc,n,hs⟩:=pl
 obtain ⟨a,b,c⟩:=zja r fx e
 have hl:=r.length
 obtain ⟨ocls,odict,odata,oslots⟩:=o
 simp only at hc hs
 subst hc hs
 refine call_meets PySem.F.slot_tuple_index ⟨_,ho,rfl⟩ PySem.F.entry_tuple_index (PySem.F.args_tuple_index_2 _ _)
  (zgy p its.toArray n odict oslots u (eqU y) j (by simpa using a) (by simpa using b) (fun i hi hlt=>by simpa using c i (by simpa using hi) hlt)) ⟨ho,fun w hw=>zdi ru fy r fx w (by simpa using hw),⟨.int j,H,I.tok _,⟨_,rfl⟩,q⟩⟩
noncomputable def zn7:D->List D->Option D
 | .lst ds,[x]=>if zbq x=true/\ds.all zbq=true then (zfP x ds).map fun j=>.int j else none
 | .tup ds,[x]=>if zbq x=true/\ds.all zbq=true then (zfP x ds).map fun j=>.int j else none
 | _,_=>none
theorem zgn {K:W.Frag} {G:GH} {H:Hp} {ds:List D} {xs:List V} {x d':D} {v:V} (gk:GOk K G H) (rs:RGs K G xs ds) (rx:RB K G H v x) (e:(if zbq x=true/\ds.all zbq=true then (zfP x ds).map fun j=>D.int j else none)=some d') :
  ∃j:Nat,d'=.int j/\zdA v=true/\xs.all zdA=true/\zgX v xs=some j:=by
 by_cases hc:zbq x=true/\ds.all zbq=true
 ·rw [if_pos hc] at e
  obtain ⟨e1,f1⟩:=RB.flat rx gk hc.1
  obtain ⟨e3,f3⟩:=zrW rs gk hc.2
  cases ef:zfP x ds with
  | none=>rw [ef] at e; cases e
  | some j=>
   rw [ef] at e
   cases e
   exact ⟨j,rfl,f1,f3,by rw [e1,e3,zi9]; exact ef⟩
 ·rw [if_neg hc] at e; cases e
noncomputable def zio (d:D) (ds:List D):Option D:=match d with
 | .lst _=>zn7 d ds
 | _=>none
noncomputable def zgR (d:D) (ds:List D):Option D:=match d with
 | .tup _=>zn7 d ds
 | _=>none
theorem zlp {K:W.Frag}:MtD K (zkv K) zio:=by
 intro G H v d vs ds d' Q gk rv rs e q
 cases d with
 | lst zs=>
  cases ds with
  | nil=>cases e
  | cons x t=>
   cases t with
   | nil=>
    cases rs with
    | cons r1 rt=>
     cases rt
     obtain ⟨a,xs,rfl,s,r⟩:=rv.lst gk
     obtain ⟨j,rfl,h1,h2,h3⟩:=zgn gk r r1 e
     exact ⟨a,xs,_,j,rfl,rfl,s,h1,h2,h3,q _ G H (Grow.refl gk) (.scl (.int _))⟩
   | cons _ _=>cases e
 | _=>cases e
theorem zhC {K:W.Frag}:MtD K (zku K) zgR:=by
 intro G H v d vs ds d' Q gk rv rs e q
 cases d with
 | tup zs=>
  cases ds with
  | nil=>cases e
  | cons x t=>
   cases t with
   | nil=>
    cases rs with
    | cons r1 rt=>
     cases rt
     obtain ⟨a,xs,rfl,s,r⟩:=rv.tup gk
     obtain ⟨j,rfl,h1,h2,h3⟩:=zgn gk r r1 e
     exact ⟨a,xs,_,j,rfl,rfl,s,h1,h2,h3,q _ G H (Grow.refl gk) (.scl (.int _))⟩
   | cons _ _=>cases e
 | _=>cases e
noncomputable def isInt:D->Bool
 | .int _=>true
 | _=>false
noncomputable def zsl:D->Option D
 | .dic kvs=>some (.lst (kvs.map (·.2)))
 | _=>none
end
noncomputable def enuD:Nat->List D->List D
 | _,[]=>[]
 | i,d::ds=>.tup [.int i,d]::enuD (i + 1) ds
theorem zg0:∀(i:Nat) (ds:List D),(enuD i ds).length=ds.length
 | _,[]=>rfl
 | i,d::ds=>congrArg (· + 1) (zg0 (i + 1) ds)
theorem zg1:∀(i j:Nat) (ds:List D),(enuD i ds)[j]? = (ds[j]?).map fun d=>D.tup [.int ((i + j:Nat):Int),d]
 | _,_,[]=>by simp [enuD]
 | i,0,d::ds=>by simp [enuD]
 | i,j + 1,d::ds=>by
  show (enuD (i + 1) ds)[j]? = _
  rw [zg1 (i + 1) j ds]
  simp only [List.getElem?_cons_succ]
  rw [show i + 1 + j=i + (j + 1) by omega]
theorem zjY {K:W.Frag} {ds:List D} {G0:GH} {sq:Hp->List V->Prop} (h:∀G H,Gle G0 G->GOk K G H->∃xs,sq H xs/\RGs K G xs ds):Yields K (Ien sq) (enuD 0 ds) G0:=by
 refine ⟨fun G H i w gk hi=>?_,fun G H i x H' d w gk y e=>?_,fun G H w gk=>?_⟩
 ·obtain ⟨xs,s,r⟩:=h G H w gk
  rw [zg0] at hi
  have hl:=Paired.length r
  exact ⟨xs,xs[i],s,List.getElem?_eq_getElem (by omega)⟩
 ·obtain ⟨xs,s,r⟩:=h G H w gk
  obtain ⟨p,v,hp,rfl,rfl,hv⟩:=y
  rw [zg1] at e
  cases ed:ds[i]? with
  | none=>rw [ed] at e; cases e
  | some d0=>
   rw [ed] at e
   simp only [Option.map_some,Option.some.injEq,Nat.zero_add] at e
   subst e
   obtain ⟨v',e1,rv⟩:=Paired.get r ed
   have:=hv xs s
   rw [e1] at this; cases this
   exact ⟨_,Grow.newF gk hp (.tup (.inl zan) (.cons (.scl (.int _)) (.cons rv .nil))),.ref zap⟩
 ·obtain ⟨xs,s,r⟩:=h G H w gk
  rw [zg0]
  exact ⟨xs,s,Paired.length r⟩
noncomputable def fEnu (f:FE):FI:=fun r=>(f r).bind fun d=>(opt (zbf d)).bind fun ds=>.ok (enuD 0 ds)
section
variable {X:Cx} {g:GE} {m:List Md} {e a:Expr} {f:FE} {pos p pos2:Pos} {elts:List Expr} {kk:Nat}
theorem zoV {te:TE} (hg:Gl X "enumerate") (hm:X.mg "enumerate" = none) (he:PE X e te) (hs:starEach [e] X.env=(false,eval e X.env)::starEach [] X.env:=by rfl):PI X (.Tuple elts kk pos2) (.Call (.Name "enumerate" p) [e] [] pos) (fun σ H R=>te σ H fun x H1=>
   (∃a,x=.ref a/\(∃xs,SqL X.K H1 a xs)/\R (Ien fun H xs=>SqL X.K H a xs) H1)\/∃a,x=.ref a/\(∃xs,SqT X.K H1 a xs)/\R (Ien fun H xs=>SqT X.K H a xs) H1):=by
 intro pins s σ H R I h
 refine Call_ (zgl I hg hm boot_enumerate (PyProof.Rows.callWith_type1 (thn (zcq he ze4 hs pos pins s σ H (fun vs H1=>match vs with
  | [x]=>(∃a,x=.ref a/\(∃xs,SqL X.K H1 a xs)/\R (Ien fun H xs=>SqL X.K H a xs) H1)\/∃a,x=.ref a/\(∃xs,SqT X.K H1 a xs)/\R (Ien fun H xs=>SqT X.K H a xs) H1
  | _=>False) I h) fun us s1 ⟨vs,H1,I1,r1,q1⟩=>?_) hs rfl))
 ·cases r1 with
  | nil=>exact q1.elim
  | @cons x u xs us rx rt=>
  cases rt with
  | cons _ _=>exact q1.elim
  | nil=>
  have fin:∀{h':Heap},h'.objs.size=s1.heap.objs.size + 2->(∀b o,s1.heap.get? b=some o->h'.get? b=some o)->∀b∈[s1.heap.objs.size + 1,s1.heap.objs.size],FpOk X pins H1 b:=fun hz kp b hb=>by
   have hge:s1.heap.objs.size<=b:=by
    rcases List.mem_cons.mp hb with rfl | hb
    ·exact Nat.le_succ _
    ·rw [List.mem_singleton.mp hb]; exact Nat.le_refl _
   exact I1.fpOk hge (I1.hok.fresh hge)
  rcases q1 with ⟨a,rfl,⟨xs,hq⟩,q⟩ | ⟨a,rfl,⟨xs,hq⟩,q⟩
  ·cases rx
   obtain ⟨its,rv,pl,hz⟩:=I1.list hq
   refine call_enumerate_list pl.isList fun h' he hi hsz kp=>wpAny_pyIter_enum he ?_
   exact ⟨_,[s1.heap.objs.size + 1,s1.heap.objs.size],_,_,H1,rfl,I1.kept (t':=s1.toks) kp,zjr a _ _ (Nat.ne_of_gt (Nat.lt_succ_self _)),⟨⟨_,he⟩,hi⟩,fin hsz kp,q⟩
  ·cases rx
   obtain ⟨its,rv,pl,hz⟩:=I1.tuple hq
   refine zfT (show s1.heap.IsTuple a its.toArray from pl) fun h' he hi hsz kp=>wpAny_pyIter_enum he ?_
   exact ⟨_,[s1.heap.objs.size + 1,s1.heap.objs.size],_,_,H1,rfl,I1.kept (t':=s1.toks) kp,zjq a _ _ (Nat.ne_of_gt (Nat.lt_succ_self _)),⟨⟨_,he⟩,hi⟩,fin hsz kp,q⟩
theorem zi6 (hg:Gl X "enumerate") (hm:X.mg "enumerate" = none) (he:SE X g m e f) (hs:starEach [e] X.env=(false,eval e X.env)::starEach [] X.env:=by rfl):SIt X g m (.Tuple elts kk pos2) (.Call (.Name "enumerate" p) [e] [] pos) (fEnu f):=by
 refine PI.imp (zoV hg hm he hs) fun σ H R ⟨r,G,si,q⟩=>⟨r,G,si,zai (zah q) fun d q v G' H' w rv=>?_⟩
 obtain ⟨ds,e,q⟩:=zaB (zah q)
 cases d with
 | lst ds'=>
  cases e
  obtain ⟨a,xs,rfl,s,rs⟩:=rv.lst w.ok
  refine .inl ⟨a,rfl,⟨xs,s⟩,q _ G' H' w (zjY fun G H le gk=>?_)⟩
  obtain ⟨b,ys,e,s',r'⟩:=(rv.mono le).lst gk
  cases e
  exact ⟨ys,s',r'⟩
 | tup ds'=>
  cases e
  obtain ⟨a,xs,rfl,s,rs⟩:=rv.tup w.ok
  refine .inr ⟨a,rfl,⟨xs,s⟩,q _ G' H' w (zjY fun G H le gk=>?_)⟩
  obtain ⟨b,ys,e,s',r'⟩:=(rv.mono le).tup gk
  cases e
  exact ⟨ys,s',r'⟩
 | _=>cases e
end
inductive TupI (h:Heap):Value->List Int->Prop where
 | mk {a:Addr} {items:Array Value} {ns:List Int}:IsTup h a items->IntsAre items.toList ns->TupI h (.ref a) ns
inductive TupsI (h:Heap):List Value->List (List Int)->Prop where
 | nil:TupsI h [] []
 | cons {p:Value} {k:List Int} {ps:List Value} {ks:List (List Int)}:TupI h p k->TupsI h ps ks->TupsI h (p::ps) (k::ks)
theorem TupsI.length {h:Heap}:∀{ps:List Value} {ks:List (List Int)},TupsI h ps ks->ps.length=ks.length
 | _,_,.nil=>rfl
 | _,_,.cons _ t=>congrArg (· + 1) t.length
section
variable {prog:Program} {w:World} {A:Around} {s:Shared}
inductive TupR (h:Heap):Value->List (List Int)->Prop where
 | mk {a:Addr} {items:List Value} {ks:List (List Int)}:IsTup h a items.toArray->TupsI h items ks->ks≠[]->TupR h (.ref a) ks
end
noncomputable def zeE:List D->Option (List Int)
 | []=>some []
 | .int i::ds=>(zeE ds).map (i::·)
 | _=>none
theorem zny {K:W.Frag} {G:GH} {H:Hp} (gk:GOk K G H) {ds:List D} {xs:List V} {ns:List Int} (h:RGs K G xs ds) (e:zeE ds=some ns):xs=ns.map V.int:=by
 induction h generalizing ns with
 | nil=>cases e; rfl
 | @cons x d xs ds r t ih=>
  cases d with
  | int i=>
   have e':(zeE ds).map (i::·)=some ns:=e
   cases q:zeE ds with
   | none=>rw [q] at e'; cases e'
   | some ms=>
    rw [q] at e'
    cases e'
    rw [r.int gk,ih q]; rfl
  | _=>cases e
theorem za8.isS {P:Program} {w:World} {H:Hp} {h:Heap} {a:Addr} {o:HO} (x:za8 P w H h a o):h.get? a≠none:=by
 have s:∀{u:Obj},h.get? a=some u->h.get? a≠none:=fun e z=>by rw [z] at e; cases e
 cases o with
 | lst xs=>obtain ⟨_,_,_,_,e⟩:=x; exact s e
 | tup xs=>obtain ⟨_,_,_,⟨_,e,_⟩,_⟩:=x; exact s e
 | dK kvs=>obtain ⟨_,_,_,_,o,_,_,e,_⟩:=x; exact s e
 | dT kvs=>obtain ⟨_,_,_,_,o,_,_,e,_⟩:=x; exact s e
 | set S n=>obtain ⟨o,_,_,_,e,_⟩:=x; exact s e
 | ins C dx fs=>obtain ⟨_,_,_,e,_⟩:=x; exact s e
 | own y=>obtain ⟨_,e⟩:=x; exact s e
 | xd fs=>obtain ⟨_,⟨_,_,_,e,_⟩,_⟩:=x; exact s e
 | rng lo hi=>obtain ⟨_,_,_,e⟩:=x; exact s e
 | frz ob u=>obtain ⟨e,_⟩:=x; exact s e
 | tbl ps=>exact s (show h.get? a=some _ from x)
 | met f y=>exact s (show h.get? a=some _ from x)
 | ext φ=>obtain ⟨_,⟨_,e⟩,_⟩:=x; exact s e
section
variable {X:Cx} {pins:List (Addr × Obj)} {σ:L2.St} {H:Hp} {s:Shared}
theorem TupI.stay {h h':Heap} {L:Addr} {mm:Str->Option Value} (hL:h.Ns L mm) (k:∀b o,b≠L->h.get? b=some o->h'.get? b=some o) {p:Value} {ns:List Int} (x:TupI h p ns):TupI h' p ns:=by
 cases x with
 | mk ht hi=>
  obtain ⟨o,h1,h2,n,h3⟩:=ht
  refine .mk ⟨o,k _ _ ?_ h1,h2,n,h3⟩ hi
  rintro rfl
  obtain ⟨o',es,ep,e,d,_⟩:=hL
  rw [h1] at e; cases e
  rw [h3] at d; cases d
theorem TupsI.stay {h h':Heap} {L:Addr} {mm:Str->Option Value} (hL:h.Ns L mm) (k:∀b o,b≠L->h.get? b=some o->h'.get? b=some o):∀{ps:List Value} {ks:List (List Int)},TupsI h ps ks->TupsI h' ps ks
 | _,_,.nil=>.nil
 | _,_,.cons x t=>.cons (x.stay hL k) (t.stay hL k)
theorem TupR.stay {h h':Heap} {L:Addr} {mm:Str->Option Value} (hL:h.Ns L mm) (k:∀b o,b≠L->h.get? b=some o->h'.get? b=some o) {p:Value} {ks:List (List Int)} (x:TupR h p ks):TupR h' p ks:=by
 cases x with
 | mk ht hi hn=>
  obtain ⟨o,h1,h2,n,h3⟩:=ht
  refine .mk ⟨o,k _ _ ?_ h1,h2,n,h3⟩ (hi.stay hL k) hn
  rintro rfl
  obtain ⟨o',es,ep,e,d,_⟩:=hL
  rw [h1] at e; cases e
  rw [h3] at d; cases d
theorem zpk {h:Heap} {L:Addr} {m m':Str->Option Value} (a:h.Ns L m) (b:h.Ns L m'):m=m':=by
 obtain ⟨o,es,ep,e,d,_,f⟩:=a
 obtain ⟨o',es',ep',e',d',_,f'⟩:=b
 rw [e] at e'; cases e'
 rw [d] at d'; cases d'
 funext x
 rw [<-f,<-f']
end
end DL
namespace DL
open PySem PyProof.Rows PySem.SeqAt PySem.MeetsSeq PySem.MeetsSeq2 PySem.MeetsSeq3 L2
section
open PySem.AutoSeq1 (wpAny_loadPart')
end
end DL
namespace DL
open PySem PyProof.Rows L2
section
variable {prog:Program} {w:World} {A:Around} {E:Value->Shared->Prop} {s:Shared}
noncomputable def LisI (h:Heap) (u:Value) (ns:List Int):Prop:=∃a its,u=.ref a/\h.IsList a its/\IntsAre its.toList ns
end
end DL
namespace DL
open PySem PySem.Spec PyProof.Rows L2
section
variable {X:Cx} {pins:List (Addr × Obj)} {σ:L2.St} {H:Hp} {s:Shared}
theorem LisI.stay {h h':Heap} {L:Addr} {mm:Str->Option Value} (hL:h.Ns L mm) (k:∀b o,b≠L->h.get? b=some o->h'.get? b=some o) {p:Value} {ns:List Int} (x:LisI h p ns):LisI h' p ns:=by
 obtain ⟨a,its,rfl,⟨o,h1,h2,n,h3⟩,hi⟩:=x
 refine ⟨a,its,rfl,⟨o,k _ _ ?_ h1,h2,n,h3⟩,hi⟩
 rintro rfl
 obtain ⟨o',es,ep,e,d,_⟩:=hL
 rw [h1] at e; cases e
 rw [h3] at d; cases d
end
section
variable {X:Cx} {pins:List (Addr × Obj)} {σ:L2.St} {H:Hp} {s:Shared}
theorem Inv.keptN {h':Heap} (I:Inv X pins σ H s) (k:∀b o,b≠X.env.locals->s.heap.get? b=some o->h'.get? b=some o)
  (hns:∀m,s.heap.Ns X.env.locals m->h'.Ns X.env.locals m) (t':Nat):Inv X pins σ H { s with heap:=h',toks:=t' }:=by
 have trkL:∀b u,H b=some u->b≠X.env.locals:=fun b u e z=>by rw [z,I.free] at e; cases e
 refine I.step (g':=s.gens) (d':=s.drawn) (ch:=[]) (fun b hb=>absurd hb (by simp)) (fun b ob hL _ _ e _=>k b ob hL e) (fun b ob hL _ _ e _=>⟨ob.slots,k b ob hL e⟩) (fun b ob _ e n=>n)
  (fun b ob _ e=>?_) (fun b xs e=>e) (fun b ob u e=>e) (fun b ps e=>⟨#[],by rw [e]; simp⟩) hns (fun b u e=>?_) I.bare
 ·by_cases hb:b=X.env.locals
  ·subst hb
   obtain ⟨m,hn,_⟩:=I.loc
   obtain ⟨o,_,_,ho',_⟩:=hns m hn
   exact ⟨o,ho'⟩
  ·exact ⟨ob,k b ob hb e⟩
 ·refine (I.hok b u e).stay (fun cc v hc q=>k cc v ?_ q) (fun cc q=>q) fun cc xs q=>q
  rcases hc with z | z
  ·rw [z]; exact trkL b u e
  ·exact trkL cc _ z
theorem Inv.keptF {h':Heap} {mF:Str->Option Value} (I:Inv X pins σ H s) (F:Fr X.base X.env.locals s.heap mF) (F':Fr X.base X.env.locals h' mF) (N':News X.base X.env.locals h' (zfW X.base s.heap X.env.locals)) (t':Nat):Inv X pins σ H { s with heap:=h',toks:=t' }:=by
 refine Inv.keptN I (fun b o hb e=>?_) (fun m hm=>by rw [zpk hm F.ns]; exact F'.ns) t'
 cases z:X.base.get? b with
 | some o'=>
  have:=I.bk b o' z
  rw [e] at this; cases this
  exact F'.keep b o z
 | none=>exact (N' (b,o) (zih hb z e)).1
theorem znq (hc:X.calm=true):zc9 X (.builtin "max") (fun xs H Q=>∃i j:Int,xs=[.int i,.int j]/\Q (.int (if j > i then j else i)) H):=by
 intro pins s σ H xs us Q I r h
 obtain ⟨i,j,rfl,q⟩:=h
 cases r with
 | cons r1 r=>
  cases r with
  | cons r2 r=>
   cases r
   obtain ⟨t,rfl⟩:=r1
   obtain ⟨u,rfl⟩:=r2
   obtain ⟨mF,F⟩:=I.fr
   exact max_two_N (I.ok.hd hc) F (ziX (g:=X.base) (h:=s.heap) (L:=X.env.locals)) fun h' tk F' N'=>⟨.int (if j > i then j else i),_,Inv.keptF I F F' N' tk,⟨_,rfl⟩,q⟩
end
noncomputable def maxD:List D->Option D
 | [.int i,.int j]=>some (.int (if j > i then j else i))
 | _=>none
theorem zrn {K:W.Frag}:zhX K (fun xs H Q=>∃i j:Int,xs=[.int i,.int j]/\Q (.int (if j > i then j else i)) H) maxD:=by
 intro G H vs ds d Q gk rs e q
 unfold maxD at e
 split at e
 ·cases e
  cases rs with
  | cons r1 t=>
   cases t with
   | cons r2 t=>
    cases t
    exact ⟨_,_,by rw [r1.int gk,r2.int gk],q _ G H (Grow.refl gk) (.scl (.int _))⟩
 ·cases e
section
variable {X:Cx} {g:GE} {m:List Md} {e a b:Expr} {es:List Expr} {fl:Rho->Res (List D)} {fa fb:FE} {pos p:Pos}
theorem zsH (hc:X.calm=true) (hg:Gl X "max") (hm:X.mg "max" = none) (ha:SAB X g m (e::es) fl) (he:starEach (e::es) X.env=(false,eval e X.env)::starEach es X.env:=by rfl) (hpl:(backTo pos (starEach es X.env)).any (·.1)=false:=by rfl) :
  SE X g m (.Call (.Name "max" p) (e::es) [] pos) (fC fl maxD):=s_cb zrn (zdg (znq hc) hg hm PyProof.Rows.boot_max ha (by decide) (by decide) he hpl)
noncomputable def zqH (K:W.Frag):R2:=fun x y H Q=>∃a b ys,x=.ref a/\y=.ref b/\SqT K H a []/\SqT K H b ys/\Q (.ref b) H
theorem zpa:OpR X (binaryOp .Add) (zqH X.K):=by
 intro pins s σ H x y v u Q I rx ry h
 obtain ⟨a,b,ys,rfl,rfl,ha,hb,q⟩:=h
 cases rx
 cases ry
 obtain ⟨its,r1,p1,_⟩:=I.tuple ha
 obtain ⟨its2,r2,p2,_⟩:=I.tuple hb
 cases r1
 obtain ⟨⟨cls,dd,data,sl⟩,ho,hc,n,hd⟩:=id p1
 obtain ⟨⟨cls2,dd2,data2,sl2⟩,ho2,hc2,n2,hd2⟩:=id p2
 simp only at hc hd hc2 hd2
 subst hc hd hc2 hd2
 exact concat_meets ⟨_,ho,rfl⟩ ⟨_,ho2,rfl⟩ noFill_tuple_add seq_tuple_add PySem.F.slot_tuple_add PySem.F.entry_tuple_add (PySem.F.args_tuple_add_2 _ _)
  (tuple_addW0 a b _ _ n n2 dd dd2 sl sl2 rfl) ⟨ho,ho2,⟨.ref b,H,I,rfl,q⟩⟩
noncomputable def addE:D->D->Option D
 | .tup [],.tup b=>some (.tup b)
 | a,b=>addA a b
theorem zpL {K:W.Frag}:OpD K (fun x y H Q=>zqH K x y H Q\/((∃i j,x=.int i/\y=.int j/\Q (.int (i + j)) H)\/(∃i j,x=.str i/\y=.str j/\i.length + j.length<=sizeLine/\Q (.str (i++j)) H)\/zmz K x y H Q\/zoN K x y H Q)) addE:=by
 intro G H v1 v2 d1 d2 d Q gk r1 r2 e q
 unfold addE at e
 split at e
 ·cases e
  rcases r1 with r1 | ⟨a',_,oo⟩
  ·rcases r2 with r2 | ⟨a',_,oo⟩
   ·obtain ⟨a,xs,rfl,s1,t1⟩:=r1.tup gk
    obtain ⟨b,ys,rfl,s2,t2⟩:=r2.tup gk
    cases t1
    exact .inl ⟨a,b,ys,rfl,rfl,s1,s2,q _ G H (Grow.refl gk) r2⟩
   ·cases oo.ob
  ·cases oo.ob
 ·exact .inr (zl6 G H v1 v2 d1 d2 d Q gk r1 r2 e q)
theorem zqt (ha:SB X g m a fa) (hb:SB X g m b fb):SE X g m (.BinOp a .Add b pos) (f2 fa fb addE):=zgD (OpR.or zpa (OpR.or znY (OpR.or zgj (OpR.or zic zkO)))) zpL ha hb
end
end DL
namespace DL
open PySem PyProof.Rows L2
section
open PySem.AutoSeq1 (wpAny_loadPart')
end
end DL
namespace DL
open PySem PyProof.Rows PySem.W
noncomputable abbrev at0 (p:Array Nat) (i:Nat):Nat:=p.getD i 0
section
variable {n:Nat} {c:Nat->Nat->Bool} (as:∀i j,c i j=true->c j i=false) (tr:∀i j k,c j i=false->c k j=false->c k i=false)
noncomputable def Le (c:Nat->Nat->Bool) (i j:Nat):Prop:=c j i=false
noncomputable def Up (c:Nat->Nat->Bool) (p:Array Nat) (k:Nat):Prop:=∀i,i + 1 < k->Le c (at0 p i) (at0 p (i + 1))
noncomputable def Dn (c:Nat->Nat->Bool) (p:Array Nat) (k:Nat):Prop:=∀i,i + 1 < k->Le c (at0 p (i + 1)) (at0 p i)
noncomputable def Eqv (c:Nat->Nat->Bool) (i j:Nat):Prop:=Le c i j/\Le c j i
theorem zm3 (as:∀i j,c i j=true->c j i=false) (i:Nat):Le c i i:=by
 unfold Le
 cases e:c i i with
 | false=>rfl
 | true=>have:=as i i e; rw [e] at this; cases this
include tr in
theorem Eqv.trans {i j k:Nat} (h1:Eqv c i j) (h2:Eqv c j k):Eqv c i k:=⟨tr _ _ _ h1.1 h2.1,tr _ _ _ h2.2 h1.2⟩
theorem Eqv.symm {i j:Nat} (h:Eqv c i j):Eqv c j i:=⟨h.2,h.1⟩
include as tr in
include tr in
theorem Dn.eqv {p p':Array Nat} {k:Nat} (h:Dn c p k) (e:∀i,Eqv c (at0 p' i) (at0 p i)):Dn c p' k:=fun i hi=>tr _ _ _ (e (i + 1)).1 (tr _ _ _ (h i hi) (e i).2)
include as tr in
include as tr in
include as tr in
theorem znJ {p:Array Nat} {k:Nat} (h:Up c p k):∀(d i:Nat),i + d < k->Le c (at0 p i) (at0 p (i + d))
 | 0,i,_=>zm3 as _
 | d + 1,i,hi=>tr _ _ _ (znJ h d i (by omega)) (h (i + d) (by omega))
include as tr in
theorem up_le {p:Array Nat} {k i j:Nat} (h:Up c p k) (hij:i<=j) (hj:j < k):Le c (at0 p i) (at0 p j):=by
 have:=znJ as tr h (j - i) i (by omega)
 rw [show i + (j - i)=j by omega] at this
 exact this
include as tr in
include as tr in
include as tr in
include as tr in
include as tr in
end
end DL
section
namespace DL
end DL
end
namespace DL
open PySem PySem.Spec PyProof.Rows L2
section
variable {X:Cx} {pins:List (Addr × Obj)} {σ:L2.St} {H:Hp} {s:Shared}
theorem zl2 (bs:List Bool):((List.range bs.length).all fun i=>bs.getD i true)=bs.all id:=by
 rw [Bool.eq_iff_iff,List.all_eq_true,List.all_eq_true]
 constructor
 ·intro h b hb
  obtain ⟨i,hi,rfl⟩:=List.getElem_of_mem hb
  have:=h i (List.mem_range.mpr hi)
  simpa [List.getD_eq_getElem?_getD,hi] using this
 ·intro h i hi
  have hi:=List.mem_range.mp hi
  have:=h bs[i] (List.getElem_mem _)
  simpa [List.getD_eq_getElem?_getD,hi] using this
theorem zlZ (bs:List Bool):((List.range bs.length).any fun i=>bs.getD i true)=bs.any id:=by
 rw [Bool.eq_iff_iff,List.any_eq_true,List.any_eq_true]
 constructor
 ·rintro ⟨i,hi,h⟩
  have hi:=List.mem_range.mp hi
  exact ⟨bs[i],List.getElem_mem _,by simpa [List.getD_eq_getElem?_getD,hi] using h⟩
 ·rintro ⟨b,hb,h⟩
  obtain ⟨i,hi,rfl⟩:=List.getElem_of_mem hb
  exact ⟨i,List.mem_range.mpr hi,by simpa [List.getD_eq_getElem?_getD,hi] using h⟩
theorem zgd (hc:X.calm=true) (I:Inv X pins σ H s) {p:Addr} {bs:List Bool} (hq:SqL X.K H p (bs.map V.bl)) {A:Around} (hA:A.handled=none) {E:Value->Shared->Prop} {Q:Value->Shared->Prop}
  (h:∀I fp wr n P St tr it s₂,it=Value.ref I->Walks X.prog X.w A I fp wr n P St->St 0 s₂.heap->TruthOf X.prog X.w A P tr->n=bs.length->(∀i,tr i=bs.getD i true) ->
   (∀(h':Heap) (tk:Nat),(∀(b:Addr) (o:Obj),¬b∈wr->s₂.heap.get? b=some o->h'.get? b=some o)->Inv X pins σ H { heap:=h',gens:=s₂.gens,drawn:=s₂.drawn,toks:=tk,os:=s₂.os })->Q it s₂) :
  wpAny (model X.prog X.w) A (pyIter (.ref p)) Q E s:=by
 obtain ⟨its,rv,pl,hz⟩:=I.list hq
 have hl:=rv.length
 rw [List.length_map] at hl
 refine PySem.Flt.iter_list_ pl.isList fun s₂ e2 hi hlt hne=>?_
 refine h s.heap.objs.size [s.heap.objs.size,p] [s.heap.objs.size] its.toArray.size _ _ (fun i=>bs.getD i true) _ s₂ rfl (Walks.list hA _ p hne its.toArray) hi ?_ (by rw [List.size_toArray,hl]) (fun i=>rfl) fun h' tk k=>?_
 ·intro i v s' Q' E' hv hq'
  have hv':its[i]? = some v:=by simpa using hv
  have hi:i < its.length:=(List.getElem?_eq_some_iff.mp hv').1
  have hki:i < (bs.map V.bl).length:=by rw [List.length_map]; omega
  obtain ⟨u,h1,h3⟩:=rv.get (i:=i) (x:=(bs.map V.bl)[i]) (List.getElem?_eq_getElem hki)
  rw [hv'] at h1
  cases h1
  rw [List.getElem_map] at h3
  have h3':v=Value.bool bs[i]:=h3
  subst h3'
  have e:bs.getD i true=bs[i]:=by
   have hb:i < bs.length:=by omega
   simp [List.getD_eq_getElem?_getD,hb]
  have hq2:Q' (bs.getD i true) s':=hq'
  rw [e] at hq2
  exact wpAny_pure hq2
 ·subst e2
  have ne:∀b o,s.heap.get? b=some o->¬ b∈[s.heap.objs.size]:=fun b o e z=>by
   have:=List.mem_singleton.mp z
   subst this
   exact absurd (Heap.lt_size e) (Nat.lt_irrefl _)
  exact Inv.keptN I (fun b o _ e=>k b o (ne b o e) (Heap.get?_push_of_some _ e)) (fun m ⟨o,es,ep,e,z⟩=>⟨o,es,ep,k _ _ (ne _ _ e) (Heap.get?_push_of_some _ e),z⟩) tk
theorem znu (hc:X.calm=true):zc9 X (.builtin "all") (fun xs H Q=>∃(p:Addr) (bs:List Bool),xs=[.ref p]/\SqL X.K H p (bs.map V.bl)/\Q (.bl (bs.all id)) H):=by
 intro pins s σ H xs us Q I r h
 obtain ⟨p,bs,rfl,hq,q⟩:=h
 obtain ⟨u,rfl,rx⟩:=zeI r
 cases rx
 refine call_all_walk (zgd hc I hq (show X.A.in1.handled=none from I.ok.hd hc) fun J fp wr n P St tr it s₂ e1 e2 e3 e4 e5 e6 e7=>⟨J,fp,wr,n,P,St,tr,e1,e2,e3,e4,fun h' tk k=>?_⟩)
 have et:tr=fun i=>bs.getD i true:=funext e6
 rw [e5,et,zl2]
 exact ⟨.bl (bs.all id),H,e7 h' tk k,rfl,q⟩
theorem znt (hc:X.calm=true):zc9 X (.builtin "any") (fun xs H Q=>∃(p:Addr) (bs:List Bool),xs=[.ref p]/\SqL X.K H p (bs.map V.bl)/\Q (.bl (bs.any id)) H):=by
 intro pins s σ H xs us Q I r h
 obtain ⟨p,bs,rfl,hq,q⟩:=h
 obtain ⟨u,rfl,rx⟩:=zeI r
 cases rx
 refine call_any_walk (zgd hc I hq (show X.A.in1.handled=none from I.ok.hd hc) fun J fp wr n P St tr it s₂ e1 e2 e3 e4 e5 e6 e7=>⟨J,fp,wr,n,P,St,tr,e1,e2,e3,e4,fun h' tk k=>?_⟩)
 have et:tr=fun i=>bs.getD i true:=funext e6
 rw [e5,et,zlZ]
 exact ⟨.bl (bs.any id),H,e7 h' tk k,rfl,q⟩
end
noncomputable def zfh:List D->Option (List Bool)
 | []=>some []
 | .bl b::ds=>(zfh ds).map (b::·)
 | _=>none
theorem zlY {K:W.Frag} {G:GH} {H:Hp} (gk:GOk K G H) {ds:List D} {xs:List V} {bs:List Bool} (h:RGs K G xs ds) (e:zfh ds=some bs):xs=bs.map V.bl:=by
 induction h generalizing bs with
 | nil=>cases e; rfl
 | @cons x d xs ds r t ih=>
  cases d with
  | bl b=>
   have e':(zfh ds).map (b::·)=some bs:=e
   cases e1:zfh ds with
   | none=>rw [e1] at e'; cases e'
   | some bs'=>
    rw [e1] at e'; cases e'
    rw [ih e1,List.map_cons,(RG.rb (H:=H) r).bl gk]
  | _=>cases e
noncomputable def allD:List D->Option D
 | [.lst ds]=>(zfh ds).map fun bs=>.bl (bs.all id)
 | _=>none
noncomputable def anyD:List D->Option D
 | [.lst ds]=>(zfh ds).map fun bs=>.bl (bs.any id)
 | _=>none
theorem zr9 {K:W.Frag}:zhX K (fun xs H Q=>∃(p:Addr) (bs:List Bool),xs=[.ref p]/\SqL K H p (bs.map V.bl)/\Q (.bl (bs.all id)) H) allD:=by
 intro G H vs ds d Q gk rs e q
 unfold allD at e
 split at e
 ·rename_i zs
  cases ek:zfh zs with
  | none=>rw [ek] at e; cases e
  | some bs=>
   rw [ek] at e; cases e
   cases rs with
   | cons r1 t=>
    cases t
    obtain ⟨b,xs,rfl,s,r⟩:=r1.lst gk
    have ex:=zlY gk r ek
    subst ex
    exact ⟨b,bs,rfl,s,q _ G H (Grow.refl gk) (.scl (.bl _))⟩
 ·cases e
theorem zr8 {K:W.Frag}:zhX K (fun xs H Q=>∃(p:Addr) (bs:List Bool),xs=[.ref p]/\SqL K H p (bs.map V.bl)/\Q (.bl (bs.any id)) H) anyD:=by
 intro G H vs ds d Q gk rs e q
 unfold anyD at e
 split at e
 ·rename_i zs
  cases ek:zfh zs with
  | none=>rw [ek] at e; cases e
  | some bs=>
   rw [ek] at e; cases e
   cases rs with
   | cons r1 t=>
    cases t
    obtain ⟨b,xs,rfl,s,r⟩:=r1.lst gk
    have ex:=zlY gk r ek
    subst ex
    exact ⟨b,bs,rfl,s,q _ G H (Grow.refl gk) (.scl (.bl _))⟩
 ·cases e
section
variable {X:Cx} {g:GE} {m:List Md} {e:Expr} {es:List Expr} {fl:Rho->Res (List D)} {pos p:Pos}
theorem zsK (hc:X.calm=true) (hg:Gl X "all") (hm:X.mg "all" = none) (ha:SAB X g m (e::es) fl) (he:starEach (e::es) X.env=(false,eval e X.env)::starEach es X.env:=by rfl) (hpl:(backTo pos (starEach es X.env)).any (·.1)=false:=by rfl) :
  SE X g m (.Call (.Name "all" p) (e::es) [] pos) (fC fl allD):=s_cb zr9 (zdg (znu hc) hg hm PyProof.Rows.boot_all ha (by decide) (by decide) he hpl)
theorem zsJ (hc:X.calm=true) (hg:Gl X "any") (hm:X.mg "any" = none) (ha:SAB X g m (e::es) fl) (he:starEach (e::es) X.env=(false,eval e X.env)::starEach es X.env:=by rfl) (hpl:(backTo pos (starEach es X.env)).any (·.1)=false:=by rfl) :
  SE X g m (.Call (.Name "any" p) (e::es) [] pos) (fC fl anyD):=s_cb zr8 (zdg (znt hc) hg hm PyProof.Rows.boot_any ha (by decide) (by decide) he hpl)
end
noncomputable def ziC (h0 H:Hp):Prop:=∀a o,h0 a=some o->H a=some o
structure YieldsB (K:W.Frag) (h0:Hp) (J:It) (ds:List D) (G0:GH):Prop where
 go:∀G H (i:Nat),Gle G0 G->GOk K G H->ziC h0 H->i < ds.length->J.go i H
 yld:∀G H (i:Nat) x H' d,Gle G0 G->GOk K G H->ziC h0 H->J.yld i H x H'->ds[i]? = some d->∃G',Grow K G H G' H'/\RG K G' x d
 stop:∀G H,Gle G0 G->GOk K G H->ziC h0 H->J.stop ds.length H
theorem Yields.toH {K:W.Frag} {h0:Hp} {J:It} {ds:List D} {G0:GH} (y:Yields K J ds G0):YieldsB K h0 J ds G0:=
 ⟨fun G H i w gk _ hi=>y.go G H i w gk hi,fun G H i x H' d w gk _ q e=>y.yld G H i x H' d w gk q e,fun G H w gk _=>y.stop G H w gk⟩
noncomputable def tIB (X:Cx) (g:GE) (m:List Md) (f:FI):TI:=fun σ H R=>∃r G,SI X g m r G σ H/\fin (f r) (fun ds=>∀J G' H',Grow X.K G H G' H'->YieldsB X.K g.h0 J ds G'->R J H') (XW X σ G H)
noncomputable def SItB (X:Cx) (g:GE) (m:List Md) (tg iter:Expr) (f:FI):Prop:=PI X tg iter (tIB X g m f)
noncomputable def tBw (X:Cx) (g:GE) (m:List Md) (f:FE):TE:=fun σ H Q=>∃r G,SI X g m r G σ H/\fin (f r) (fun d=>∀v G' H',Grow X.K G H G' H'->Bw X.K g.h0 G' H' v d->Q v H') (XW X σ G H)
noncomputable def SBw (X:Cx) (g:GE) (m:List Md) (e:Expr) (f:FE):Prop:=PE X e (tBw X g m f)
section
variable {X:Cx} {g:GE} {m m' mb:List Md} {tg e a iter:Expr} {f:FE} {pos p pos2:Pos} {ro:Bool} {sts:List Stmt} {s1:FS} {elts:List Expr} {kk:Nat}
theorem SIt.toH {fi:FI} (h:SIt X g m tg iter fi):SItB X g m tg iter fi:=PI.imp h fun σ H R ⟨r,G,si,q⟩=>⟨r,G,si,zai q fun ds k J G' H' w y=>k J G' H' w y.toH⟩
theorem vw_ (i:Nat) {x:Str} (hm:m[i]? = some .bw:=by rfl) (hN:X.N[i]? = some x:=by rfl) (hv:Vis X.env.scope x:=by first | exact Or.inl rfl | exact Or.inr (Or.inl rfl) | exact Or.inr (Or.inr rfl)) (hd:(x == ("__debug__" : Str))=false:=by decide) (hcd:(x == ("__classdict__" : Str))=false:=by decide) :
  SBw X g m (.Name x pos) fun r=>getV r i:=by
 refine PE.imp (zfG hN hv hd hcd) fun σ H Q ⟨r,G,si,q⟩=>?_
 obtain ⟨d,e,k⟩:=zgY q
 obtain ⟨v,e1,e2⟩:=si.bw i d e hm
 exact ⟨v,e1,k _ G H (Grow.refl si.gok) e2⟩
theorem zo4 {K:W.Frag} {h0:Hp} {G0 G:GH} {H0 H:Hp} {a:Addr} {ds:List D} (o:Own K G0 H0 a (.lst ds)) (h:h0 a≠none) (o0:ziC h0 H0) (le:Gle G0 G) (o1:ziC h0 H):∃xs,SqL K H a xs/\RGs K G xs ds:=by
 cases e:h0 a with
 | none=>exact absurd e h
 | some u=>
  have h1:=o0 a u e
  have h2:=o1 a u e
  cases o.ob with
  | lst r s=>
   rw [h1] at r
   cases r
   exact ⟨_,SqL.of h2,RGs.mono s le⟩
theorem zpT {K:W.Frag} {h0:Hp} {ds:List D} {G0:GH} {a:Addr} (h:∀G H,Gle G0 G->GOk K G H->ziC h0 H->∃xs,SqL K H a xs/\RGs K G xs ds):YieldsB K h0 (Itl K a) ds G0:=by
 refine ⟨fun G H i w gk o hi=>?_,fun G H i x H' d w gk o y e=>?_,fun G H w gk o=>?_⟩
 ·obtain ⟨xs,s,r⟩:=h G H w gk o
  have hl:=Paired.length r
  exact ⟨xs,xs[i],s,List.getElem?_eq_getElem (by omega)⟩
 ·obtain ⟨xs,s,r⟩:=h G H w gk o
  obtain ⟨rfl,y⟩:=y
  obtain ⟨v,e1,rv⟩:=Paired.get r e
  have:=y xs s
  rw [e1] at this; cases this
  exact ⟨G,Grow.refl gk,rv⟩
 ·obtain ⟨xs,s,r⟩:=h G H w gk o
  exact ⟨xs,s,Nat.le_of_eq (Paired.length r)⟩
theorem SI.oldIn {r:Rho} {G:GH} {st:L2.St} {H:Hp} (s:SI X g m r G st H):ziC g.h0 H:=s.old
theorem zn8 (h:SBw X g m e f):SItB X g m tg e (fSeq zbf f):=by
 refine PI.imp (zkF h) fun σ H R ⟨r,G,si,q⟩=>⟨r,G,si,zai (zah q) fun d q v G' H' w rv=>?_⟩
 obtain ⟨ds,e,q⟩:=zaB q
 cases d with
 | lst ds'=>
  cases e
  rcases rv with rv | ⟨a,rfl,o,ho⟩
  ·obtain ⟨a,xs,rfl,s,rs⟩:=rv.lst w.ok
   exact .inl ⟨a,rfl,⟨xs,s⟩,q _ G' H' w (zh0 rv).toH⟩
  ·cases o.ob with
   | lst r s=>exact .inl ⟨a,rfl,⟨_,SqL.of r⟩,q _ G' H' w (zpT fun G2 H2 le _ o2=>zo4 o ho (si.grow w).oldIn le o2)⟩
 | tup ds'=>
  cases e
  rcases rv with rv | ⟨a,rfl,o,ho⟩
  ·obtain ⟨a,xs,rfl,s,rs⟩:=rv.tup w.ok
   exact .inr ⟨a,rfl,⟨xs,s⟩,q _ G' H' w (zjX rv).toH⟩
  ·cases o.ob
 | _=>cases e
theorem znQ (hp:PassesOwn (model X.prog X.w) X.A X.env X.xe) (hc:X.calm=true) {ft:FT} {fi:FI} (hi:SItB X g m tg iter fi) (hg:SG X g m tg ft m) (hb:SSs X g ro m m sts s1 m)
  (hs:∀x,foldedSetIterable iter X.env x=pure x:=by intro _; rfl):SS X g ro mb m (.For tg iter sts [] pos) (zbL m fi ft s1) m:=by
 refine ⟨rfl,PS.imp (zht hp hc hi hg.2 hb.2 hs) fun D σ H ⟨r,G,si,q⟩=>⟨r,G,si,zai (zbU si rfl q) fun ds q J G0 H0 w0 Y=>?_⟩⟩
 refine ⟨fun i n σ H=>∃r G,SI X g m r G σ H/\Gle G0 G/\i<=ds.length/\n=ds.length - i/\oTo X g ro m mb G D (forF ft s1 (ds.drop i) r),⟨ds.length,r,G0,si.grow w0,Gle.refl G0,Nat.zero_le _,rfl,oTo.gle q w0.ge⟩,?_⟩
 rintro i n σ1 H1 ⟨r1,G1,si1,le1,hi,rfl,q1⟩
 by_cases hlt:i < ds.length
 ·have hd:ds.drop i=ds[i]::ds.drop (i + 1):=List.drop_eq_getElem_cons hlt
  rw [hd] at q1
  unfold forF at q1
  refine .inr ⟨Y.go G1 H1 i le1 si1.gok si1.oldIn hlt,fun σ' H'=>∃r G,SI X g m r G σ' H'/\Gle G0 G/\oTo X g ro m mb G D (forF ft s1 (ds.drop (i + 1)) r),fun σ' H' ⟨r',G',si',le',q'⟩=>⟨ds.length - (i + 1),by omega,r',G',si',le',hlt,rfl,q'⟩,fun x H' y=>?_⟩
  obtain ⟨G',w',rv⟩:=Y.yld G1 H1 i x H' ds[i] le1 si1.gok si1.oldIn y (List.getElem?_eq_getElem hlt)
  have le':Gle G0 G':=le1.trans w'.ge
  cases eft:ft ds[i] r1 with
  | none=>simp only [eft] at q1; exact q1.elim
  | some r2=>
   simp only [eft] at q1
   refine ⟨r1,G',ds[i],si1.grow w',rv,r2,eft,fun σ2 si2=>⟨r2,G',si2,?_⟩⟩
   cases eb:s1 r2 with
   | nx r'=>simp only [eb] at q1; exact fun σ3 G3 H3 le3 si3=>⟨r',G3,si3,le'.trans le3,oTo.gle q1 (Gle.trans w'.ge le3)⟩
   | ct r'=>simp only [eb] at q1; exact fun σ3 G3 H3 le3 si3=>⟨r',G3,si3,le'.trans le3,oTo.gle q1 (Gle.trans w'.ge le3)⟩
   | bk r'=>simp only [eb] at q1; exact fun σ3 G3 H3 le3 si3=>q1 σ3 G3 H3 (Gle.trans w'.ge le3) si3
   | rt d=>simp only [eb] at q1; exact q1
   | exc x r'=>simp only [eb] at q1; exact fun pins e s' σ3 G3 H3 le3=>q1 pins e s' σ3 G3 H3 (Gle.trans w'.ge le3)
   | stuck=>simp only [eb] at q1; exact q1
 ·have e:i=ds.length:=by omega
  subst e
  rw [List.drop_length] at q1
  exact .inl ⟨Y.stop G1 H1 le1 si1.gok si1.oldIn,q1 σ1 G1 H1 (Gle.refl _) si1⟩
end
section
open HT (sIx)
section
variable {prog:Program} {w:World} {A:Around} {E:Value->Shared->Prop} {s:Shared}
theorem zgT {t sl:Addr} {items:Array Value} {vl vu:Value} {lo hi:Option Int} {Q:Value->Shared->Prop} (ht:IsTup s.heap t items) (hs:s.heap.IsSliceOf sl vl vu .none) (pl:IsPart vl lo) (pu:IsPart vu hi)
  (hw:sIx items.size 0 lo=0/\sIx items.size items.size hi=items.size) (h:Q (.ref t) s):wpAny (model prog w) A (getItem (.ref t) (.ref sl)) Q E s:=by
 obtain ⟨os,hos,hcs,hds⟩:=id hs
 have hTs:s.TypeIs (.ref sl) "slice" := ⟨os,hos,hcs⟩
 unfold getItem
 try with_reducible refine wpAny_holding ?_
 first | refine wpAny_bind (wpAny_pure ?_) | skip
 refine wpAny_bind (wpAny_sequenceKey ht.typeIs (by decide) (wpAny_bind (wpAny_callSpecial?_slot (name:=Str.ofString "__getitem__") ht.typeIs PyProof.Rows.slot_tuple_getitem (wpAny_call_entry PyProof.Rows.slot_tuple_getitem ht.typeIs PyProof.Rows.entry_tuple_getitem ?_ (PyProof.Rows.args_tuple_getitem _ _)))))
 show wpAny _ _ (Builtin.Tuple.tupleItemsOf (.ref t) >>= _) _ _ s
 refine wpAny_bind (PyProof.Rows.tupleItemsOf_ ht (wpAny_bind (wpAny_typeOf hTs ?_)))
 rw [if_pos (by decide)]
 refine wpAny_bind (HT.sliceApplied_gen hs pl pu ?_)
 rw [hw.1,hw.2]
 show wpAny _ _ (if (((0:Nat):Int) == 0 && (1:Int) == 1 && (items.size - 0) == items.size)=true then _ else _) _ _ s
 rw [if_pos (by simp)]
 show wpAny _ _ (Builtin.Tuple.tupleIsExact (.ref t) >>= _) _ _ s
 unfold Builtin.Tuple.tupleIsExact
 refine wpAny_bind (wpAny_bind (wpAny_typeOf ht.typeIs (wpAny_pure ?_)))
 rw [if_pos (by decide)]
 refine wpAny_bind (wpAny_rule ?_)
 show wpAny _ _ (ret (.ref t)) _ _ s
 exact wpAny_pure ⟨_,rfl,wpAny_pure h⟩
end
noncomputable def rSlW (K:W.Frag):V->Option Int->Option Int->Hp->VK->Prop:=fun x lo hi H Q=>∃a xs,x=.ref a/\SqT K H a xs/\(sIx xs.length 0 lo=0/\sIx xs.length xs.length hi=xs.length)/\Q (.ref a) H
theorem zmm {X:Cx}:SlR X (rSlW X.K):=by
 intro pins s σ H x v vl vu lo hi sl Q I rx hs pl pu h
 obtain ⟨a,xs,rfl,hx,hw,q⟩:=h
 cases rx
 obtain ⟨its,r,ht,hz⟩:=I.tuple hx
 have hlen:its.toArray.size=xs.length:=by rw [List.size_toArray]; exact r.length.symm
 exact ⟨"tuple",_,PyProof.Rows.slot_tuple_getitem.lookup,ht.typeIs,zgT ht hs pl pu (by rw [hlen]; exact hw) ⟨.ref a,H,I,rfl,q⟩⟩
noncomputable def slA (d:D) (lo hi:Option Int):Option D:=match d with
 | .tup ds=>some (.tup (cutL ds lo hi))
 | .lst ds=>some (.lst (cutL ds lo hi))
 | _=>none
noncomputable def fSlA (fa:FE) (fl fh:FP):FE:=fun r=>(fa r).bind fun d=>(fl r).bind fun lo=>(fh r).bind fun hi=>opt (slA d lo hi)
section
variable {X:Cx} {g:GE} {m:List Md} {e:Expr} {f fa:FE} {pos p2:Pos}
theorem zov {R:V->Option Int->Option Int->Hp->Prop} {fl fh:FP} {r:Rho} {G:GH} {σ:L2.St} {H:Hp} {q:D->Prop} (si:SI X g m r G σ H) (h:fin (fSlA fa fl fh r) q (XW X σ G H))
  (hk:∀d lo hi v G2 H2 d',Grow X.K G H G2 H2->RB X.K G2 H2 v d->slA d lo hi=some d'->q d'->R v lo hi H2) :
  tB X g m fa σ H fun x H1=>tP X g m fl σ H1 fun l H2=>tP X g m fh σ H2 fun u H3=>R x l u H3:=by
 refine ⟨r,G,si,zai (zah h) fun d h1 v G1 H1 w1 r1=>⟨r,G1,si.grow w1,zaF (zah h1) w1 fun lo h2 G2 H2 w2=>⟨r,G2,(si.grow w1).grow w2,?_⟩⟩⟩
 refine zaF (zah h2) (w1.trans w2) fun hi h3 G3 H3 w3=>?_
 obtain ⟨d',e,h4⟩:=zaB h3
 exact hk d lo hi v G3 H3 d' ((w1.trans w2).trans w3) ((r1.mono w2).mono w3) e h4
theorem zlK {α:Type} {ds:List α} {lo hi:Option Int} (h:sIx ds.length 0 lo=0/\sIx ds.length ds.length hi=ds.length):cutL ds lo hi=ds:=by
 unfold cutL
 rw [h.1,h.2]; simp
theorem zsF {lo hi:Option Expr} {fl fh:FP} (he:SB X g m e f) (hl:SP1 X g m lo fl) (hu:SP1 X g m hi fh):SE X g m (.Subscript e (.Slice lo hi none p2) pos) (fSlA f fl fh):=by
 refine PE.imp (ziT (SlR.or zmm (SlR.or zke znL)) he hl hu) fun σ H Q ⟨r,G,si,q⟩=>?_
 refine zov si q fun d lo hi v G2 H2 d' w r1 e q2=>?_
 cases d with
 | tup ds=>
  cases e
  rcases r1 with r1 | ⟨a',_,oo⟩
  ·obtain ⟨a,xs,rfl,s,r⟩:=r1.tup w.ok
   by_cases hw:sIx ds.length 0 lo=0/\sIx ds.length ds.length hi=ds.length
   ·refine .inl ⟨a,xs,rfl,s,by rw [Paired.length r]; exact hw,?_⟩
    rw [zlK hw] at q2
    exact q2 _ G2 H2 w r1
   ·rw [<-Paired.length r] at hw
    refine .inr (.inr ⟨a,xs,rfl,s,hw,fun p hp=>?_⟩)
    exact q2 _ _ _ (w.trans (Grow.newF w.ok hp (.tup (.inl zan) (znk r lo hi)))) (.ref zap)
  ·cases oo.ob
 | lst ds=>
  cases e
  obtain ⟨a,xs,rfl,s,r⟩:=r1.lst w.ok
  exact .inr (.inl ⟨a,xs,rfl,s,fun p hp=>q2 _ _ _ (w.trans (Grow.newF w.ok hp (.lst (.inl zan) (znk r lo hi)))) (.ref zap)⟩)
 | _=>cases e
end
end
section
open AutoSeq1 (wpAny_loadPart')
structure ZA (zp ti to u1 u2:Addr) (f1 f2:List Addr):Prop where
 a1:ti≠zp
 a2:to≠zp
 a3:u1≠zp
 a4:u2≠zp
 a5:to≠u1
 a6:to≠u2
 a7:u1≠u2
 a8:ti≠to/\ti≠u1/\ti≠u2
 b1:zp∉f1/\to∉f1/\u2∉f1
 b2:zp∉f2/\to∉f2/\u1∉f2
theorem _root_.PySem.Draws.at' {prog:Program} {w:World} {A:Around} {it:Addr} {fp:List Addr} {n:Nat} {P:Nat->Value->Prop} {St:Nat->Heap->Prop} (D:Draws prog w A it fp n P St) {i:Nat} {h h':Heap} {c:Addr} (st:St i h) (e:Heap.ExtBut c h h') (hc:c∉fp):St i h':=
 D.frame i h h' st fun b hb o q=>e b o (by rintro rfl; exact hc hb) q
section
variable {prog:Program} {w:World} {A:Around} {E:Value->Shared->Prop} {s:Shared} {zp ti to u1 u2:Addr} {f1 f2:List Addr} {n1 n2:Nat} {P1 P2:Nat->Value->Prop} {St1 St2:Nat->Heap->Prop} {p q:Value}
theorem zjW {i:Nat} {Q:Value->Shared->Prop} (Z:ZA zp ti to u1 u2 f1 f2) (D1:Draws prog w A u1 f1 n1 P1 St1) (D2:Draws prog w A u2 f2 n2 P2 St2) (hz:IsZip s.heap zp ti to .none) (hi:IsPair s.heap ti (.ref u1) (.ref u2)) (ho:IsPair s.heap to p q)
  (s1:St1 i s.heap) (s2:St2 i s.heap) (l1:i < n1) (l2:i < n2)
  (hQ:∀x y h' tk,P1 i x->P2 i y->IsZip h' zp ti to (rawInt s.heap.objs.size)->IsPair h' to x y->St1 (i + 1) h'->St2 (i + 1) h'->IsPair h' s.heap.objs.size x y->h'.objs.size=s.heap.objs.size + 1 ->
   (∀c o,c≠zp->c≠to->c≠u1->c≠u2->s.heap.get? c=some o->h'.get? c=some o)->Q (.ref s.heap.objs.size) { s with heap:=h',toks:=tk }) :
  wpAny (model prog w) A (Builtin.«zip.__next__» ⟨[.ref zp],[]⟩) (fun fin s'=>∃v,fin=.done (.ret v)/\Q v s') E s:=by
 show wpAny _ _ (field (.ref zp) 2 >>= _) _ _ _
 refine wpAny_bind (wpAny_field hz rfl (x:=.bool false) rfl ?_)
 show wpAny _ _ (field (.ref zp) 3 >>= _) _ _ _
 refine wpAny_bind (wpAny_field hz rfl (x:=.ref ti) rfl (wpAny_bind (wpAny_seqItems hi rfl ?_)))
 show wpAny _ _ (Builtin.SmallTypes.ownedTupleIsFree (.ref zp) >>= _) _ _ _
 refine wpAny_bind ?_
 unfold Builtin.SmallTypes.ownedTupleIsFree
 refine wpAny_bind (wpAny_field hz rfl (x:=.none) rfl (wpAny_pure ?_))
 simp only [if_true]
 refine wpAny_bind (wpAny_rule (wpAny_bind (wpAny_field hz rfl (x:=.ref to) rfl (wpAny_bind (wpAny_setField_rec hz (by simp) fun g1 hz1 k1=>?_)))))
 replace hz1:IsZip g1 zp ti to .ellipsis:=hz1
 refine wpAny_bind ?_
 simp only [List.zipIdx_cons,List.zipIdx_nil,List.forIn_cons,List.forIn_nil]
 refine wpAny_bind (wpAny_bind (wpAny_onRaise ?_))
 show wpAny _ _ (Builtin.SmallTypes.nextOf (.ref u1) >>= _) _ _ _
 refine wpAny_bind (D1.item i _ _ _ l1 (D1.at' s1 k1.extBut Z.b1.1) fun x g2 t2 px st1 k2=>wpAny_pure ?_)
 have ho2:IsPair g2 to p q:=k2.extBut _ _ Z.a5 (k1.extBut _ _ Z.a2 ho)
 refine wpAny_bind (wpAny_seqItems ho2 rfl (wpAny_bind (wpAny_updateSeq_pair ho2 fun g3 ho3 k3=>?_)))
 replace ho3:IsPair g3 to x q:=ho3
 refine wpAny_bind (wpAny_letGo (wpAny_pure ?_))
 refine wpAny_bind (wpAny_bind (wpAny_onRaise ?_))
 show wpAny _ _ (Builtin.SmallTypes.nextOf (.ref u2) >>= _) _ _ _
 refine wpAny_bind (D2.item i _ _ _ l2 (D2.at' (D2.at' (D2.at' s2 k1.extBut Z.b2.1) k2.extBut Z.b2.2.2) k3.extBut Z.b2.2.1) fun y g4 t4 py st2 k4=>wpAny_pure ?_)
 have ho4:IsPair g4 to x q:=k4.extBut _ _ Z.a6 ho3
 refine wpAny_bind (wpAny_seqItems ho4 rfl (wpAny_bind (wpAny_updateSeq_pair ho4 fun g5 ho5 k5=>?_)))
 replace ho5:IsPair g5 to x y:=ho5
 refine wpAny_bind (wpAny_letGo (wpAny_pure (wpAny_pure ?_)))
 refine wpAny_bind (wpAny_seqItems ho5 rfl (wpAny_bind (wpAny_newTuple ?_)))
 have hsz:g5.objs.size=s.heap.objs.size:=by rw [k5.1,k4.1,k3.1,k2.1,k1.1]
 have hz5:IsZip g5 zp ti to .ellipsis:=k5.extBut _ _ Z.a2.symm (k4.extBut _ _ Z.a4.symm (k3.extBut _ _ Z.a2.symm (k2.extBut _ _ Z.a3.symm hz1)))
 have st15:St1 (i + 1) g5:=D1.at' (D1.at' (D1.at' st1 k3.extBut Z.b1.2.1) k4.extBut Z.b1.2.2) k5.extBut Z.b1.2.1
 have st25:St2 (i + 1) g5:=D2.at' st2 k5.extBut Z.b2.2.1
 have hzlt:zp < g5.objs.size:=Heap.lt_size hz5
 show wpAny _ _ (Builtin.SmallTypes.ownedTupleHandOut (.ref zp) (.ref g5.objs.size) >>= _) _ _ _
 refine wpAny_bind ?_
 unfold Builtin.SmallTypes.ownedTupleHandOut
 have hz6:IsZip (g5.push { cls:=.type "tuple",data:=.seq #[x,y] }) zp ti to .ellipsis:=Heap.get?_push_of_some _ hz5
 refine wpAny_bind (wpAny_setField_rec hz6 (by simp) fun g7 hz7 k7=>?_)
 replace hz7:IsZip g7 zp ti to (rawInt g5.objs.size):=hz7
 refine wpAny_setField_rec hz7 (by simp) fun g8 hz8 k8=>?_
 replace hz8:IsZip g8 zp ti to (rawInt g5.objs.size):=hz8
 have up:∀c o,c≠zp->g5.get? c=some o->g8.get? c=some o:=fun c o c1 e=>k8.extBut _ _ c1 (k7.extBut _ _ c1 (Heap.get?_push_of_some _ e))
 have hT8:IsPair g8 g5.objs.size x y:=k8.extBut _ _ (Nat.ne_of_gt hzlt) (k7.extBut _ _ (Nat.ne_of_gt hzlt) (Heap.get?_push_size _ rfl))
 have sz8:g8.objs.size=g5.objs.size + 1:=by rw [k8.1,k7.1,Heap.size_push]
 rw [hsz] at hz8 hT8 sz8
 refine wpAny_pure ⟨_,rfl,?_⟩
 show Q (.ref g5.objs.size) _
 rw [hsz]
 refine hQ x y g8 _ px py hz8 (up _ _ Z.a2 ho5) (D1.frame _ _ _ st15 fun b hb o e=>up b o (by rintro rfl; exact Z.b1.1 hb) e) (D2.frame _ _ _ st25 fun b hb o e=>up b o (by rintro rfl; exact Z.b2.1 hb) e) hT8 sz8 fun c o c1 c2 c3 c4 e=>up c o c1 ?_
 exact k5.extBut _ _ c2 (k4.extBut _ _ c4 (k3.extBut _ _ c2 (k2.extBut _ _ c3 (k1.extBut _ _ c1 e))))
theorem zmg {i:Nat} {Q:Fin->Shared->Prop} (Z:ZA zp ti to u1 u2 f1 f2) (D1:Draws prog w A u1 f1 n1 P1 St1) (D2:Draws prog w A u2 f2 n2 P2 St2) (hz:IsZip s.heap zp ti to .none) (hi:IsPair s.heap ti (.ref u1) (.ref u2)) (ho:IsPair s.heap to p q)
  (s1:St1 i s.heap) (s2:St2 i s.heap) (hend:i=n1\/(i < n1/\i=n2))
  (hE:∀h' e tk,(∀c o,c≠zp->c≠to->c≠u1->c≠u2->s.heap.get? c=some o->h'.get? c=some o)->(∃o,h'.get? e=some o/\o.cls=.type "StopIteration")->E (.ref e) { s with heap:=h',toks:=tk }) :
  wpAny (model prog w) A (Builtin.«zip.__next__» ⟨[.ref zp],[]⟩) Q E s:=by
 show wpAny _ _ (field (.ref zp) 2 >>= _) _ _ _
 refine wpAny_bind (wpAny_field hz rfl (x:=.bool false) rfl ?_)
 show wpAny _ _ (field (.ref zp) 3 >>= _) _ _ _
 refine wpAny_bind (wpAny_field hz rfl (x:=.ref ti) rfl (wpAny_bind (wpAny_seqItems hi rfl ?_)))
 show wpAny _ _ (Builtin.SmallTypes.ownedTupleIsFree (.ref zp) >>= _) _ _ _
 refine wpAny_bind ?_
 unfold Builtin.SmallTypes.ownedTupleIsFree
 refine wpAny_bind (wpAny_field hz rfl (x:=.none) rfl (wpAny_pure ?_))
 simp only [if_true]
 refine wpAny_bind (wpAny_rule (wpAny_bind (wpAny_field hz rfl (x:=.ref to) rfl (wpAny_bind (wpAny_setField_rec hz (by simp) fun g1 hz1 k1=>?_)))))
 replace hz1:IsZip g1 zp ti to .ellipsis:=hz1
 refine wpAny_bind ?_
 simp only [List.zipIdx_cons,List.zipIdx_nil,List.forIn_cons,List.forIn_nil]
 refine wpAny_bind (wpAny_bind (wpAny_onRaise ?_))
 show wpAny _ _ (Builtin.SmallTypes.nextOf (.ref u1) >>= _) _ _ _
 rcases hend with hend | ⟨hlt,hend⟩
 ·subst hend
  refine wpAny_bind (D1.done _ _ _ (D1.at' s1 k1.extBut Z.b1.1) fun g2 e k2 he=>?_)
  obtain ⟨oe,hoe,hce⟩:=he
  have hz2:IsZip g2 zp ti to .ellipsis:=k2 _ _ Z.a3.symm hz1
  have hez:e≠zp:=fun x=>by subst x; rw [hz2] at hoe; cases hoe; simp at hce
  exact wpAny_setField_rec hz2 (by simp) fun g3 _ k3=>hE g3 e _ (fun c o c1 _ c3 _ x=>k3.extBut _ _ c1 (k2 _ _ c3 (k1.extBut _ _ c1 x))) ⟨oe,k3.extBut _ _ hez hoe,hce⟩
 ·subst hend
  refine wpAny_bind (D1.item _ _ _ _ hlt (D1.at' s1 k1.extBut Z.b1.1) fun x g2 t2 px st1 k2=>wpAny_pure ?_)
  have ho2:IsPair g2 to p q:=k2.extBut _ _ Z.a5 (k1.extBut _ _ Z.a2 ho)
  refine wpAny_bind (wpAny_seqItems ho2 rfl (wpAny_bind (wpAny_updateSeq_pair ho2 fun g3 ho3 k3=>?_)))
  refine wpAny_bind (wpAny_letGo (wpAny_pure ?_))
  refine wpAny_bind (wpAny_bind (wpAny_onRaise ?_))
  show wpAny _ _ (Builtin.SmallTypes.nextOf (.ref u2) >>= _) _ _ _
  refine wpAny_bind (D2.done _ _ _ (D2.at' (D2.at' (D2.at' s2 k1.extBut Z.b2.1) k2.extBut Z.b2.2.2) k3.extBut Z.b2.2.1) fun g4 e k4 he=>?_)
  obtain ⟨oe,hoe,hce⟩:=he
  have hz4:IsZip g4 zp ti to .ellipsis:=k4 _ _ Z.a4.symm (k3.extBut _ _ Z.a2.symm (k2.extBut _ _ Z.a3.symm hz1))
  have hez:e≠zp:=fun x=>by subst x; rw [hz4] at hoe; cases hoe; simp at hce
  exact wpAny_setField_rec hz4 (by simp) fun g5 _ k5=>hE g5 e _ (fun c o c1 c2 c3 c4 x=>k5.extBut _ _ c1 (k4 _ _ c4 (k3.extBut _ _ c2 (k2.extBut _ _ c3 (k1.extBut _ _ c1 x))))) ⟨oe,k5.extBut _ _ hez hoe,hce⟩
theorem zib {i:Nat} {Q:Option Value->Shared->Prop} (Z:ZA zp ti to u1 u2 f1 f2) (D1:Draws prog w A.in1 u1 f1 n1 P1 St1) (D2:Draws prog w A.in1 u2 f2 n2 P2 St2) (hz:IsZip s.heap zp ti to .none) (hi:IsPair s.heap ti (.ref u1) (.ref u2)) (ho:IsPair s.heap to p q)
  (s1:St1 i s.heap) (s2:St2 i s.heap) (l1:i < n1) (l2:i < n2)
  (hQ:∀x y h' tk,P1 i x->P2 i y->IsZip h' zp ti to (rawInt s.heap.objs.size)->IsPair h' to x y->St1 (i + 1) h'->St2 (i + 1) h'->IsPair h' s.heap.objs.size x y->h'.objs.size=s.heap.objs.size + 1 ->
   (∀c o,c≠zp->c≠to->c≠u1->c≠u2->s.heap.get? c=some o->h'.get? c=some o)->Q (some (.ref s.heap.objs.size)) { s with heap:=h',toks:=tk }) :
  wpAny (model prog w) A (pyNext (.ref zp)) Q E s:=by
 have hT:s.TypeIs (.ref zp) "zip" := ⟨_,hz,rfl⟩
 unfold pyNext
 exact wpAny_bind (wpAny_attempt (wpAny_callSpecial?_slot (name:=Str.ofString "__next__") hT F.slot_zip_next (wpAny_call_entry F.slot_zip_next hT F.entry_zip_next
   (zjW Z D1 D2 hz hi ho s1 s2 l1 l2 fun x y h' tk b1 b2 b3 b4 b5 b6 b7 b8 b9=>wpAny_pure (hQ x y h' tk b1 b2 b3 b4 b5 b6 b7 b8 b9)) (F.args_zip_next_1 _))))
theorem zf6 {i:Nat} {Q:Option Value->Shared->Prop} (Z:ZA zp ti to u1 u2 f1 f2) (D1:Draws prog w A.in1 u1 f1 n1 P1 St1) (D2:Draws prog w A.in1 u2 f2 n2 P2 St2) (hz:IsZip s.heap zp ti to .none) (hi:IsPair s.heap ti (.ref u1) (.ref u2)) (ho:IsPair s.heap to p q)
  (s1:St1 i s.heap) (s2:St2 i s.heap) (hend:i=n1\/(i < n1/\i=n2)) (hQ:∀h' tk,(∀c o,c≠zp->c≠to->c≠u1->c≠u2->s.heap.get? c=some o->h'.get? c=some o)->Q none { s with heap:=h',toks:=tk }) :
  wpAny (model prog w) A (pyNext (.ref zp)) Q E s:=by
 have hT:s.TypeIs (.ref zp) "zip" := ⟨_,hz,rfl⟩
 unfold pyNext
 refine wpAny_bind (wpAny_attempt (wpAny_callSpecial?_slot (name:=Str.ofString "__next__") hT F.slot_zip_next (wpAny_call_entry F.slot_zip_next hT F.entry_zip_next (zmg Z D1 D2 hz hi ho s1 s2 hend fun h' e tk hk he=>?_) (F.args_zip_next_1 _))))
 obtain ⟨o,ho,hc⟩:=he
 exact wpAny_bind (wpAny_isInstance (T := "StopIteration") (b:=true) ⟨o,ho,hc⟩ isSubtype_stop (wpAny_pure (hQ _ _ hk)))
end
noncomputable abbrev itO (c:String) (l:Addr):Obj:={ cls:=.type c,data:=.fields #[.ref l,.int 0 0] }
noncomputable abbrev zg2 (h:Heap) (c1 c2:String) (l1 l2:Addr):Heap:=(h.push (itO c1 l1)).push (itO c2 l2)
noncomputable abbrev zg3 (h:Heap) (c1 c2:String) (l1 l2:Addr):Heap:=(zg2 h c1 c2 l1 l2).push { cls:=.type "tuple",data:=.seq #[.ref h.objs.size,.ref (h.push (itO c1 l1)).objs.size] }
noncomputable abbrev zg4 (h:Heap) (c1 c2:String) (l1 l2:Addr):Heap:=(zg3 h c1 c2 l1 l2).push { cls:=.type "tuple",data:=.seq #[.none,.none] }
noncomputable abbrev zg5 (h:Heap) (c1 c2:String) (l1 l2:Addr):Heap:=(zg4 h c1 c2 l1 l2).push { cls:=.type "zip",data:=.fields #[.none,.bool false,.bool false,.ref (zg2 h c1 c2 l1 l2).objs.size,.ref (zg3 h c1 c2 l1 l2).objs.size] }
theorem ziE {h:Heap} {a:Addr} {xs:Array Value} (x:h.IsTuple a xs) (o:Obj):(h.push o).IsTuple a xs:=let ⟨u,hu,r⟩:=x; ⟨u,Heap.get?_push_of_some _ hu,r⟩
theorem zk3 (l1 l2:Addr) (xs ys:Array Value):Meets (Builtin.«zip.__new__» ⟨[.type "zip",.ref l1,.ref l2],[]⟩) (fun _ R s=>s.heap.IsList l1 xs/\s.heap.IsList l2 ys /\
   R (.ok (.ret (.ref (zg4 s.heap "list_iterator" "list_iterator" l1 l2).objs.size))) { s with heap:=zg5 s.heap "list_iterator" "list_iterator" l1 l2 }):=
 .of_wp fun prog w A R s h=>by
  obtain ⟨hp,gg,dd,tk,os⟩:=s; obtain ⟨q1,q2,h⟩:=h
  have hsub:=sub_zip
  have e1:Heap.IsList (Shared.heap ⟨hp,gg,dd,tk,os⟩) l1 xs:=q1
  have e2:Heap.IsList (Shared.heap ⟨hp.push (itO "list_iterator" l1),gg,dd,tk,os⟩) l2 ys:=Heap.IsList.push q2 _
  wp_walk using wpAny_pyIter_list e1,wpAny_pyIter_list e2
  exact ⟨_,rfl,h⟩
theorem zk1 (l1 l2:Addr) (xs ys:Array Value):Meets (Builtin.«zip.__new__» ⟨[.type "zip",.ref l1,.ref l2],[]⟩) (fun _ R s=>s.heap.IsTuple l1 xs/\s.heap.IsList l2 ys /\
   R (.ok (.ret (.ref (zg4 s.heap "tuple_iterator" "list_iterator" l1 l2).objs.size))) { s with heap:=zg5 s.heap "tuple_iterator" "list_iterator" l1 l2 }):=
 .of_wp fun prog w A R s h=>by
  obtain ⟨hp,gg,dd,tk,os⟩:=s; obtain ⟨q1,q2,h⟩:=h
  have hsub:=sub_zip
  have e1:Heap.IsTuple (Shared.heap ⟨hp,gg,dd,tk,os⟩) l1 xs:=q1
  have e2:Heap.IsList (Shared.heap ⟨hp.push (itO "tuple_iterator" l1),gg,dd,tk,os⟩) l2 ys:=Heap.IsList.push q2 _
  wp_walk using wpAny_pyIter_tuple e1,wpAny_pyIter_list e2
  exact ⟨_,rfl,h⟩
theorem zk0 (l1 l2:Addr) (xs ys:Array Value):Meets (Builtin.«zip.__new__» ⟨[.type "zip",.ref l1,.ref l2],[]⟩) (fun _ R s=>s.heap.IsTuple l1 xs/\s.heap.IsTuple l2 ys /\
   R (.ok (.ret (.ref (zg4 s.heap "tuple_iterator" "tuple_iterator" l1 l2).objs.size))) { s with heap:=zg5 s.heap "tuple_iterator" "tuple_iterator" l1 l2 }):=
 .of_wp fun prog w A R s h=>by
  obtain ⟨hp,gg,dd,tk,os⟩:=s; obtain ⟨q1,q2,h⟩:=h
  have hsub:=sub_zip
  have e1:Heap.IsTuple (Shared.heap ⟨hp,gg,dd,tk,os⟩) l1 xs:=q1
  have e2:Heap.IsTuple (Shared.heap ⟨hp.push (itO "tuple_iterator" l1),gg,dd,tk,os⟩) l2 ys:=ziE q2 _
  wp_walk using wpAny_pyIter_tuple e1,wpAny_pyIter_tuple e2
  exact ⟨_,rfl,h⟩
theorem zk2 (l1 l2:Addr) (xs ys:Array Value):Meets (Builtin.«zip.__new__» ⟨[.type "zip",.ref l1,.ref l2],[]⟩) (fun _ R s=>s.heap.IsList l1 xs/\s.heap.IsTuple l2 ys /\
   R (.ok (.ret (.ref (zg4 s.heap "list_iterator" "tuple_iterator" l1 l2).objs.size))) { s with heap:=zg5 s.heap "list_iterator" "tuple_iterator" l1 l2 }):=
 .of_wp fun prog w A R s h=>by
  obtain ⟨hp,gg,dd,tk,os⟩:=s; obtain ⟨q1,q2,h⟩:=h
  have hsub:=sub_zip
  have e1:Heap.IsList (Shared.heap ⟨hp,gg,dd,tk,os⟩) l1 xs:=q1
  have e2:Heap.IsTuple (Shared.heap ⟨hp.push (itO "list_iterator" l1),gg,dd,tk,os⟩) l2 ys:=ziE q2 _
  wp_walk using wpAny_pyIter_list e1,wpAny_pyIter_tuple e2
  exact ⟨_,rfl,h⟩
section
variable {prog:Program} {w:World} {A:Around} {E:Value->Shared->Prop} {s:Shared}
noncomputable def Made (s:Shared) (c1 c2:String) (l1 l2:Addr) (Q:Value->Shared->Prop):Prop:=
 ∀h',IsZip h' (s.heap.objs.size + 4) (s.heap.objs.size + 2) (s.heap.objs.size + 3) .none->IsPair h' (s.heap.objs.size + 2) (.ref s.heap.objs.size) (.ref (s.heap.objs.size + 1)) ->
   IsPair h' (s.heap.objs.size + 3) .none .none->h'.get? s.heap.objs.size=some (itO c1 l1)->h'.get? (s.heap.objs.size + 1)=some (itO c2 l2) ->
   (∀c o,s.heap.get? c=some o->h'.get? c=some o)->Q (.ref (s.heap.objs.size + 4)) { s with heap:=h' }
theorem zgL {c1 c2:String} {l1 l2:Addr} {Q:Value->Shared->Prop} (h:Made s c1 c2 l1 l2 Q):(∃o,(zg5 s.heap c1 c2 l1 l2).get? (zg4 s.heap c1 c2 l1 l2).objs.size=some o/\o.cls=.type "zip")/\Q (.ref (zg4 s.heap c1 c2 l1 l2).objs.size) { s with heap:=zg5 s.heap c1 c2 l1 l2 }:=by
 have z1:(s.heap.push (itO c1 l1)).objs.size=s.heap.objs.size + 1:=Heap.size_push ..
 have z2:(zg2 s.heap c1 c2 l1 l2).objs.size=s.heap.objs.size + 2:=by rw [Heap.size_push,z1]
 have z3:(zg3 s.heap c1 c2 l1 l2).objs.size=s.heap.objs.size + 3:=by rw [Heap.size_push,z2]
 have z4:(zg4 s.heap c1 c2 l1 l2).objs.size=s.heap.objs.size + 4:=by rw [Heap.size_push,z3]
 have g5:(zg5 s.heap c1 c2 l1 l2).get? (zg4 s.heap c1 c2 l1 l2).objs.size=some _:=Heap.get?_push_size _ rfl
 have g4:(zg5 s.heap c1 c2 l1 l2).get? (zg3 s.heap c1 c2 l1 l2).objs.size=some _:=Heap.get?_push_of_some _ (Heap.get?_push_size _ rfl)
 have g3:(zg5 s.heap c1 c2 l1 l2).get? (zg2 s.heap c1 c2 l1 l2).objs.size=some _:=Heap.get?_push_of_some _ (Heap.get?_push_of_some _ (Heap.get?_push_size _ rfl))
 have g2:(zg5 s.heap c1 c2 l1 l2).get? (s.heap.push (itO c1 l1)).objs.size=some (itO c2 l2):=Heap.get?_push_of_some _ (Heap.get?_push_of_some _ (Heap.get?_push_of_some _ (Heap.get?_push_size _ rfl)))
 have g1:(zg5 s.heap c1 c2 l1 l2).get? s.heap.objs.size=some (itO c1 l1):=Heap.get?_push_of_some _ (Heap.get?_push_of_some _ (Heap.get?_push_of_some _ (Heap.get?_push_of_some _ (Heap.get?_push_size _ rfl))))
 rw [z2,z3,z4] at g5
 rw [z1,z2] at g3
 rw [z3] at g4
 rw [z1] at g2
 rw [z4]
 exact ⟨⟨_,g5,rfl⟩,h _ g5 g3 g4 g1 g2 fun c o x=>Heap.get?_push_of_some _ (Heap.get?_push_of_some _ (Heap.get?_push_of_some _ (Heap.get?_push_of_some _ (Heap.get?_push_of_some _ x))))⟩
theorem znp {l1 l2:Addr} {xs ys:Array Value} {Q:Value->Shared->Prop} (q1:s.heap.IsList l1 xs) (q2:s.heap.IsList l2 ys) (h:Made s "list_iterator" "list_iterator" l1 l2 Q):wpAny (model prog w) A (call (.type "zip") [.ref l1,.ref l2]) Q E s:=
 callType_new F.called_zip (by decide) (F.typeCall_zip_2 _ _) (F.newCall_zip_2 _ _) (fun obj=>F.args_object_init_3 obj _ _) F.entry_zip_new (zk3 l1 l2 xs ys) ⟨q1,q2,zgL h⟩
theorem znn {l1 l2:Addr} {xs ys:Array Value} {Q:Value->Shared->Prop} (q1:s.heap.IsTuple l1 xs) (q2:s.heap.IsList l2 ys) (h:Made s "tuple_iterator" "list_iterator" l1 l2 Q):wpAny (model prog w) A (call (.type "zip") [.ref l1,.ref l2]) Q E s:=
 callType_new F.called_zip (by decide) (F.typeCall_zip_2 _ _) (F.newCall_zip_2 _ _) (fun obj=>F.args_object_init_3 obj _ _) F.entry_zip_new (zk1 l1 l2 xs ys) ⟨q1,q2,zgL h⟩
theorem znm {l1 l2:Addr} {xs ys:Array Value} {Q:Value->Shared->Prop} (q1:s.heap.IsTuple l1 xs) (q2:s.heap.IsTuple l2 ys) (h:Made s "tuple_iterator" "tuple_iterator" l1 l2 Q):wpAny (model prog w) A (call (.type "zip") [.ref l1,.ref l2]) Q E s:=
 callType_new F.called_zip (by decide) (F.typeCall_zip_2 _ _) (F.newCall_zip_2 _ _) (fun obj=>F.args_object_init_3 obj _ _) F.entry_zip_new (zk0 l1 l2 xs ys) ⟨q1,q2,zgL h⟩
theorem zno {l1 l2:Addr} {xs ys:Array Value} {Q:Value->Shared->Prop} (q1:s.heap.IsList l1 xs) (q2:s.heap.IsTuple l2 ys) (h:Made s "list_iterator" "tuple_iterator" l1 l2 Q):wpAny (model prog w) A (call (.type "zip") [.ref l1,.ref l2]) Q E s:=
 callType_new F.called_zip (by decide) (F.typeCall_zip_2 _ _) (F.newCall_zip_2 _ _) (fun obj=>F.args_object_init_3 obj _ _) F.entry_zip_new (zk2 l1 l2 xs ys) ⟨q1,q2,zgL h⟩
end
end
noncomputable def sqK (K:W.Frag) (t:Bool) (a:Addr) (H:Hp) (xs:List V):Prop:=match t with
 | false=>SqL K H a xs
 | true=>SqT K H a xs
noncomputable def itK (t:Bool) (a u:Addr) (i:Nat) (h:Heap):Prop:=match t with
 | false=>h.IsListIter u a i
 | true=>h.IsTupleIter u a i
noncomputable abbrev nmK (t:Bool):String:=match t with
 | false => "list_iterator"
 | true => "tuple_iterator"
theorem zll {t:Bool} {a u:Addr} {h:Heap} (e:h.get? u=some (itO (nmK t) a)):itK t a u 0 h:=by cases t <;> exact ⟨_,e,rfl,rfl⟩
theorem zgP {t:Bool} {a u:Addr} {i:Nat} {h:Heap} (e:itK t a u i h):∃o,h.get? u=some o/\∀v,o.data≠.cell v:=by
 cases t <;> (obtain ⟨o,ho,hc,hd⟩:=e; exact ⟨o,ho,fun v z=>by rw [hd] at z; cases z⟩)
theorem zfm {t:Bool} {a u:Addr} {i:Nat} {h h':Heap} (e:itK t a u i h) (k:∀o,h.get? u=some o->h'.get? u=some o):itK t a u i h':=by
 cases t <;> (obtain ⟨o,ho,r⟩:=e; exact ⟨o,k o ho,r⟩)
section
variable {X:Cx} {pins:List (Addr × Obj)} {σ:L2.St} {H:Hp} {s:Shared} {t:Bool} {a u:Addr} {xs ys:List V} {i:Nat}
theorem zni (I:Inv X pins σ H s) (hc:X.calm=true) (hq:sqK X.K t a H xs) (hau:a≠u) (hi:itK t a u i s.heap):∃(its:List Value) (St:Nat->Heap->Prop),Vals xs its/\Draws X.prog X.w X.A.in1 u [u,a] its.toArray.size (fun i v=>its.toArray[i]? = some v) St/\St i s.heap/\∀j h',St j h'->itK t a u j h':=by
 cases t with
 | false=>
  obtain ⟨its,rv,p,hz⟩:=I.list hq
  exact ⟨its,_,rv,Draws.list (A:=X.A.in1) (show X.A.in1.handled=none from I.ok.hd hc) u a hau its.toArray,⟨hi,p.isList⟩,fun j h' st=>st.1⟩
 | true=>
  obtain ⟨its,rv,p,hz⟩:=I.tuple hq
  exact ⟨its,_,rv,zlE (A:=X.A.in1) (show X.A.in1.handled=none from I.ok.hd hc) u a hau its.toArray,⟨hi,p⟩,fun j h' st=>st.1⟩
theorem zkc (I:Inv X pins σ H s) (h1:sqK X.K t a H xs) (h2:sqK X.K t a H ys):xs=ys:=by
 cases t with
 | false=>exact I.list_inj h1 h2
 | true=>exact I.tuple_inj h1 h2
theorem zhj (I:Inv X pins σ H s) (h1:sqK X.K t a H xs):a < s.heap.objs.size:=by
 cases t with
 | false=>obtain ⟨its,rv,p,hz⟩:=I.list h1; obtain ⟨o,ho,_⟩:=p.isList; exact Heap.lt_size ho
 | true=>obtain ⟨its,rv,p,hz⟩:=I.tuple h1; obtain ⟨o,ho,_⟩:=id p; exact Heap.lt_size ho
theorem zlm {h':Heap} {ch:List Addr} {t':Nat} (I:Inv X pins σ H s) (hch:∀b∈ch,FpOk X pins H b) (k:∀b ob,b∉ch->s.heap.get? b=some ob->h'.get? b=some ob):Inv X pins σ H { s with heap:=h',toks:=t' }:=by
 have trk:∀b u,H b=some u->b∉ch:=fun b u e hb=>by rw [(hch b hb).1] at e; cases e
 refine I.step (g':=s.gens) (d':=s.drawn) (ch:=ch) (fun b hb=>?_) (fun b ob _ _ hc e _=>k b ob hc e) (fun b ob _ _ hc e _=>⟨ob.slots,k b ob hc e⟩) (fun b ob hc e n=>n)
  (fun b ob hc e=>⟨ob,k b ob hc e⟩) (fun b xs e=>e) (fun b ob u e=>e) (fun b ps e=>⟨#[],by rw [e]; simp⟩) (fun m hm=>?_) (fun b u e=>?_) I.bare
 ·obtain ⟨z0,z1,z2,z3,z4,z5⟩:=hch b hb
  exact ⟨z3,z1,z4,z5⟩
 ·obtain ⟨ob,es,ep,ho,r⟩:=hm
  exact ⟨ob,es,ep,k _ ob (fun hb=>(hch _ hb).2.1 rfl) ho,r⟩
 ·refine (I.hok b u e).stay (fun c v hc q=>k c v ?_ q) (fun c q=>q) fun c xs q=>q
  rcases hc with z | z
  ·rw [z]; exact trk b u e
  ·exact trk c _ z
end
noncomputable def Izp (sq1 sq2:Hp->List V->Prop):It:=
 ⟨fun i H=>∃xs ys x y,sq1 H xs/\sq2 H ys/\xs[i]? = some x/\ys[i]? = some y,fun i H x H'=>∃p v u,H p=none/\x=.ref p/\H'=upd H p (.tup [v,u])/\(∀xs,sq1 H xs->xs[i]? = some v)/\∀ys,sq2 H ys->ys[i]? = some u,
  fun i H=>∃xs ys,sq1 H xs/\sq2 H ys/\min xs.length ys.length=i⟩
theorem zmM {P:Program} {w:World} {H:Hp} {h:Heap} {T:Addr} {x y:Value} {v u:V} (hT:h.get? T=some { cls:=.type "tuple",data:=.seq #[x,y] }) (r1:L2.RelV v x) (r2:L2.RelV u y):za8 P w H h T (.tup [v,u]):=
 ⟨by show 2<=sizeLine; decide,[x,y],.cons r1 (.cons r2 .nil),⟨_,hT,rfl,0,rfl⟩,_,hT,rfl⟩
theorem zmh {P:Program} {w:World} {K:W.Frag} {elts:List Expr} {k:Nat} {pos:Pos} {t1 t2:Bool} (a b zp ti to u1 u2:Addr) (Z:ZA zp ti to u1 u2 [u1,a] [u2,b]) (h1:a≠u1) (h2:b≠u2) :
  Turn P w K (.Tuple elts k pos) (Izp (sqK K t1 a) (sqK K t2 b)) [zp,ti,to,u1,u2] zp (fun i h=>IsZip h zp ti to .none/\IsPair h ti (.ref u1) (.ref u2)/\(∃p q,IsPair h to p q)/\itK t1 a u1 i h/\itK t2 b u2 i h) where
 mem:=by simp
 obj:=fun i h st c hc=>by
  obtain ⟨hz,hi,⟨p,q,ho⟩,s1,s2⟩:=st
  simp only [List.mem_cons,List.not_mem_nil,or_false] at hc
  rcases hc with rfl | rfl | rfl | rfl | rfl
  ·exact ⟨_,hz,fun v z=>by have z':Data.fields _=Data.cell v:=z; cases z'⟩
  ·exact ⟨_,hi,fun v z=>by have z':Data.seq _ _=Data.cell v:=z; cases z'⟩
  ·exact ⟨_,ho,fun v z=>by have z':Data.seq _ _=Data.cell v:=z; cases z'⟩
  ·exact zgP s1
  ·exact zgP s2
 keep:=fun i h h' st kk=>by
  obtain ⟨hz,hi,⟨p,q,ho⟩,s1,s2⟩:=st
  exact ⟨kk zp (by simp) _ hz,kk ti (by simp) _ hi,⟨p,q,kk to (by simp) _ ho⟩,zfm s1 fun o e=>kk u1 (by simp) o e,zfm s2 fun o e=>kk u2 (by simp) o e⟩
 item:=by
  intro X hP hw hK hc i pins s σ H E I hf st hg
  subst hP hw hK
  obtain ⟨xs,ys,x,y,q1,q2,hx,hy⟩:=hg
  obtain ⟨hz,hi,⟨p,q,ho⟩,s1,s2⟩:=st
  obtain ⟨its1,St1,rv1,D1,d1,f1⟩:=zni I hc q1 h1 s1
  obtain ⟨its2,St2,rv2,D2,d2,f2⟩:=zni I hc q2 h2 s2
  have l1:i < its1.toArray.size:=by
   have:=(List.getElem?_eq_some_iff.mp hx).1
   rw [List.size_toArray,<-rv1.length]; exact this
  have l2:i < its2.toArray.size:=by
   have:=(List.getElem?_eq_some_iff.mp hy).1
   rw [List.size_toArray,<-rv2.length]; exact this
  refine zib Z D1 D2 hz hi ho d1 d2 l1 l2 fun vx vy h' tk px py hz' hto' st1' st2' hT hsz hk=>⟨_,rfl,wpAny_letOwnedTupleGo_zip hz' fun h'' hz'' hs''=>?_⟩
  obtain ⟨wx,e1,r1⟩:=rv1.get hx
  obtain ⟨wy,e2,r2⟩:=rv2.get hy
  have ex:vx=wx:=by
   have:its1[i]? = some vx:=by simpa using px
   rw [e1] at this; exact (Option.some.inj this).symm
  have ey:vy=wy:=by
   have:its2[i]? = some vy:=by simpa using py
   rw [e2] at this; exact (Option.some.inj this).symm
  subst ex ey
  have nT:∀c o,s.heap.get? c=some o->s.heap.objs.size≠c:=fun c o e=>Nat.ne_of_gt (Heap.lt_size e)
  have hT'':h''.get? s.heap.objs.size=some { cls:=.type "tuple",data:=.seq #[vx,vy] }:=(hs''.2 _ (nT _ _ hz)).trans hT
  obtain ⟨o1,ho1,_⟩:=zgP s1
  obtain ⟨o2,ho2,_⟩:=zgP s2
  refine ⟨.ref s.heap.objs.size,upd H s.heap.objs.size (.tup [x,y]),zgQ (s:=s) (h':=h'') (t':=tk) (ch:=[zp,to,u1,u2]) I (fun c hc=>hf c ?_) (fun c ob hb e=>?_) (Nat.le_refl _) (zmM hT'' r1 r2),rfl,⟨_,x,y,I.hok.fresh (Nat.le_refl _),rfl,rfl,fun zs hz=>by rw [zkc I hz q1]; exact hx,fun zs hz=>by rw [zkc I hz q2]; exact hy⟩,⟨hz'',?_,⟨vx,vy,?_⟩,?_,?_⟩,fun c hc=>?_⟩
  ·simp only [List.mem_cons,List.not_mem_nil,or_false] at hc ⊢
   rcases hc with rfl | rfl | rfl | rfl <;> simp
  ·simp only [List.mem_cons,List.not_mem_nil,or_false,not_or] at hb
   exact (hs''.2 c hb.1).trans (hk c ob hb.1 hb.2.1 hb.2.2.1 hb.2.2.2 e)
  ·exact (hs''.2 _ Z.a1).trans (hk _ _ Z.a1 Z.a8.1 Z.a8.2.1 Z.a8.2.2 hi)
  ·exact (hs''.2 _ Z.a2).trans hto'
  ·exact zfm (f1 _ _ st1') fun o e=>(hs''.2 _ Z.a3).trans e
  ·exact zfm (f2 _ _ st2') fun o e=>(hs''.2 _ Z.a4).trans e
  ·rw [zao ?_]
   ·exact (hf c hc).1
   ·simp only [List.mem_cons,List.not_mem_nil,or_false] at hc
    rcases hc with rfl | rfl | rfl | rfl | rfl
    ·exact (nT _ _ hz).symm
    ·exact (nT _ _ hi).symm
    ·exact (nT _ _ ho).symm
    ·exact (nT _ _ ho1).symm
    ·exact (nT _ _ ho2).symm
 done:=by
  intro X hP hw hK hc i pins s σ H E I hf st hg
  subst hP hw hK
  obtain ⟨xs,ys,q1,q2,hm⟩:=hg
  obtain ⟨hz,hi,⟨p,q,ho⟩,s1,s2⟩:=st
  obtain ⟨its1,St1,rv1,D1,d1,f1⟩:=zni I hc q1 h1 s1
  obtain ⟨its2,St2,rv2,D2,d2,f2⟩:=zni I hc q2 h2 s2
  have l1:=rv1.length
  have l2:=rv2.length
  refine zf6 Z D1 D2 hz hi ho d1 d2 ?_ fun h' tk hk=>⟨rfl,zlm (h':=h') (t':=tk) (ch:=[zp,to,u1,u2]) I (fun c hc=>hf c ?_) fun c ob hb e=>?_⟩
  ·rw [List.size_toArray,List.size_toArray]
   omega
  ·simp only [List.mem_cons,List.not_mem_nil,or_false] at hc ⊢
   rcases hc with rfl | rfl | rfl | rfl <;> simp
  ·simp only [List.mem_cons,List.not_mem_nil,or_false,not_or] at hb
   exact hk c ob hb.1 hb.2.1 hb.2.2.1 hb.2.2.2 e
 self:=fun _ _ _ _ _ st h=>wpAny_pyIter_zip st.1 h
noncomputable def fZip (fa fb:FE):FI:=fun r=>(fa r).bind fun d=>(fb r).bind fun e=>(opt (zbf d)).bind fun ds=>(opt (zbf e)).bind fun es=>.ok (List.zipWith (fun a b=>D.tup [a,b]) ds es)
theorem zmf {α β γ:Type} (f:α->β->γ):∀(l:List α) (r:List β) (i:Nat),(List.zipWith f l r)[i]? = (match l[i]?,r[i]? with | some a,some b=>some (f a b) | _,_=>none):=fun l r i=>by
 rw [List.getElem?_zipWith]
 cases l[i]? <;> cases r[i]? <;> rfl
theorem zpQ {K:W.Frag} {ds es:List D} {G0:GH} {sq1 sq2:Hp->List V->Prop} (h1:∀G H,Gle G0 G->GOk K G H->∃xs,sq1 H xs/\RGs K G xs ds) (h2:∀G H,Gle G0 G->GOk K G H->∃xs,sq2 H xs/\RGs K G xs es):Yields K (Izp sq1 sq2) (List.zipWith (fun a b=>D.tup [a,b]) ds es) G0:=by
 refine ⟨fun G H i w gk hi=>?_,fun G H i x H' d w gk y e=>?_,fun G H w gk=>?_⟩
 ·obtain ⟨xs,s1,r1⟩:=h1 G H w gk
  obtain ⟨ys,s2,r2⟩:=h2 G H w gk
  rw [List.length_zipWith] at hi
  have l1:=Paired.length r1
  have l2:=Paired.length r2
  exact ⟨xs,ys,xs[i]'(by omega),ys[i]'(by omega),s1,s2,List.getElem?_eq_getElem _,List.getElem?_eq_getElem _⟩
 ·obtain ⟨xs,s1,r1⟩:=h1 G H w gk
  obtain ⟨ys,s2,r2⟩:=h2 G H w gk
  obtain ⟨p,v,u,hp,rfl,rfl,hv,hu⟩:=y
  rw [zmf] at e
  cases e1:ds[i]? with
  | none=>rw [e1] at e; cases e
  | some d1=>
   cases e2:es[i]? with
   | none=>rw [e1,e2] at e; cases e
   | some d2=>
    rw [e1,e2] at e
    cases e
    obtain ⟨v',z1,rv⟩:=Paired.get r1 e1
    obtain ⟨u',z2,ru⟩:=Paired.get r2 e2
    have a1:=hv xs s1
    have a2:=hu ys s2
    rw [z1] at a1; cases a1
    rw [z2] at a2; cases a2
    exact ⟨_,Grow.newF gk hp (.tup (.inl zan) (.cons rv (.cons ru .nil))),.ref zap⟩
 ·obtain ⟨xs,s1,r1⟩:=h1 G H w gk
  obtain ⟨ys,s2,r2⟩:=h2 G H w gk
  refine ⟨xs,ys,s1,s2,?_⟩
  rw [List.length_zipWith,Paired.length r1,Paired.length r2]
section
variable {X:Cx} {g:GE} {m:List Md} {e1 e2:Expr} {fa fb:FE} {pos p pos2:Pos} {elts:List Expr} {kk:Nat}
theorem zpH {pins:List (Addr × Obj)} {σ:L2.St} {H:Hp} {s:Shared} {t1 t2:Bool} {a b:Addr} {xs ys:List V} {E:Value->Shared->Prop} {Q:Value->Shared->Prop} (I:Inv X pins σ H s) (q1:sqK X.K t1 a H xs) (q2:sqK X.K t2 b H ys) (h:Made s (nmK t1) (nmK t2) a b Q):wpAny (model X.prog X.w) X.A (call (.type "zip") [.ref a,.ref b]) Q E s:=by
 cases t1 with
 | false=>
  obtain ⟨its1,_,p1,_⟩:=I.list q1
  cases t2 with
  | false=>obtain ⟨its2,_,p2,_⟩:=I.list q2; exact znp p1.isList p2.isList h
  | true=>obtain ⟨its2,_,p2,_⟩:=I.tuple q2; exact zno p1.isList (show s.heap.IsTuple b its2.toArray from p2) h
 | true=>
  obtain ⟨its1,_,p1,_⟩:=I.tuple q1
  cases t2 with
  | false=>obtain ⟨its2,_,p2,_⟩:=I.list q2; exact znn (show s.heap.IsTuple a its1.toArray from p1) p2.isList h
  | true=>obtain ⟨its2,_,p2,_⟩:=I.tuple q2; exact znm (show s.heap.IsTuple a its1.toArray from p1) (show s.heap.IsTuple b its2.toArray from p2) h
theorem zea {x y:Nat} (h:x≠y):(show Addr from x)≠(show Addr from y):=h
theorem zeP {x u a:Nat} (h1:x≠u) (h2:x≠a):(show Addr from x)∉[(show Addr from u),(show Addr from a)]:=fun h=>by
 rcases List.mem_cons.mp h with h | h
 ·exact h1 h
 ·exact h2 (List.mem_singleton.mp h)
theorem zpP {a b k:Nat} (la:a < k) (lb:b < k):ZA (show Addr from k + 4) (show Addr from k + 2) (show Addr from k + 3) (show Addr from k) (show Addr from k + 1) [(show Addr from k),(show Addr from a)] [(show Addr from k + 1),(show Addr from b)]:=
 ⟨zea (by omega),zea (by omega),zea (by omega),zea (by omega),zea (by omega),zea (by omega),zea (by omega),⟨zea (by omega),zea (by omega),zea (by omega)⟩,
  ⟨zeP (by omega) (by omega),zeP (by omega) (by omega),zeP (by omega) (by omega)⟩,⟨zeP (by omega) (by omega),zeP (by omega) (by omega),zeP (by omega) (by omega)⟩⟩
theorem zrP {c k:Nat} (h:c=k + 4\/c=k + 2\/c=k + 3\/c=k\/c=k + 1):k<=c:=by omega
theorem zqO {ta tb:TE} (hg:Gl X "zip") (hm:X.mg "zip" = none) (ha:PE X e1 ta) (hb:PE X e2 tb) (hs:starEach [e1,e2] X.env=(false,eval e1 X.env)::starEach [e2] X.env:=by rfl) (hs2:starEach [e2] X.env=(false,eval e2 X.env)::starEach [] X.env:=by rfl) (hpl:(backTo pos (starEach [e2] X.env)).any (·.1)=false:=by rfl) :
  PI X (.Tuple elts kk pos2) (.Call (.Name "zip" p) [e1,e2] [] pos) (fun σ H R=>ta σ H fun x H1=>tb σ H1 fun y H2=>∃(t1 t2:Bool) (a b:Addr),x=.ref a/\y=.ref b/\(∃xs,sqK X.K t1 a H2 xs)/\(∃ys,sqK X.K t2 b H2 ys)/\R (Izp (sqK X.K t1 a) (sqK X.K t2 b)) H2):=by
 intro pins s σ H R I h
 refine Call_ (zgl I hg hm boot_zip (PyProof.Rows.callWith_type1 (thn (zcq ha (zcq hb ze4 hs2) hs pos pins s σ H (fun vs H2=>match vs with
  | [x,y]=>∃(t1 t2:Bool) (a b:Addr),x=.ref a/\y=.ref b/\(∃xs,sqK X.K t1 a H2 xs)/\(∃ys,sqK X.K t2 b H2 ys)/\R (Izp (sqK X.K t1 a) (sqK X.K t2 b)) H2
  | _=>False) I h) fun us s1 ⟨vs,H1,I1,r1,q1⟩=>?_) hs hpl))
 cases r1 with
 | nil=>exact q1.elim
 | @cons x u xs us rx rt=>
 cases rt with
 | nil=>exact q1.elim
 | @cons y u' xs' us' ry rt'=>
 cases rt' with
 | cons _ _=>exact q1.elim
 | nil=>
 obtain ⟨t1,t2,a,b,rfl,rfl,⟨zs,z1⟩,⟨ws,z2⟩,q⟩:=q1
 cases rx
 cases ry
 have la:=zhj I1 z1
 have lb:=zhj I1 z2
 refine zpH I1 z1 z2 fun h' hz hi ho o1 o2 kp=>wpAny_pyIter_zip hz ?_
 refine ⟨_,[s1.heap.objs.size + 4,s1.heap.objs.size + 2,s1.heap.objs.size + 3,s1.heap.objs.size,s1.heap.objs.size + 1],_,_,H1,rfl,I1.kept (t':=s1.toks) kp,zmh (t1:=t1) (t2:=t2) a b _ _ _ _ _ (zpP la lb) (Nat.ne_of_lt la) (Nat.ne_of_lt (Nat.lt_succ_of_lt lb)),⟨hz,hi,⟨_,_,ho⟩,zll o1,zll o2⟩,fun c hc=>?_,q⟩
 have hge:s1.heap.objs.size<=c:=by
  simp only [List.mem_cons,List.not_mem_nil,or_false] at hc
  exact zrP hc
 exact I1.fpOk hge (I1.hok.fresh hge)
theorem zpw (hg:Gl X "zip") (hm:X.mg "zip" = none) (ha:SE X g m e1 fa) (hb:SE X g m e2 fb) (hs:starEach [e1,e2] X.env=(false,eval e1 X.env)::starEach [e2] X.env:=by rfl) (hs2:starEach [e2] X.env=(false,eval e2 X.env)::starEach [] X.env:=by rfl) (hpl:(backTo pos (starEach [e2] X.env)).any (·.1)=false:=by rfl):SIt X g m (.Tuple elts kk pos2) (.Call (.Name "zip" p) [e1,e2] [] pos) (fZip fa fb):=by
 refine PI.imp (zqO hg hm ha hb hs hs2 hpl) fun σ H R ⟨r,G,si,q⟩=>⟨r,G,si,zai (zah q) fun d q v G1 H1 w1 rv=>⟨r,G1,si.grow w1,?_⟩⟩
 refine zaF (zah q) w1 fun e q u G2 H2 w2 ru=>?_
 obtain ⟨ds,ed,q⟩:=zaB (zah q)
 obtain ⟨es,ee,q⟩:=zaB (zah q)
 have rv2:=rv.mono w2.ge
 have one:∀{v:V} {d:D} {ds:List D},RG X.K G2 v d->zbf d=some ds->∃(t:Bool) (a:Addr),v=.ref a/\(∃xs,sqK X.K t a H2 xs)/\∀G H,Gle G2 G->GOk X.K G H->∃xs,sqK X.K t a H xs/\RGs X.K G xs ds:=by
  intro v d ds rv ed
  cases d with
  | lst ds'=>
   cases ed
   obtain ⟨a,xs,rfl,s,rs⟩:=rv.lst w2.ok
   refine ⟨false,a,rfl,⟨xs,s⟩,fun G H le gk=>?_⟩
   obtain ⟨b,ys,e,s',r'⟩:=(rv.mono le).lst gk
   cases e
   exact ⟨ys,s',r'⟩
  | tup ds'=>
   cases ed
   obtain ⟨a,xs,rfl,s,rs⟩:=rv.tup w2.ok
   refine ⟨true,a,rfl,⟨xs,s⟩,fun G H le gk=>?_⟩
   obtain ⟨b,ys,e,s',r'⟩:=(rv.mono le).tup gk
   cases e
   exact ⟨ys,s',r'⟩
  | _=>cases ed
 obtain ⟨t1,a,rfl,x1,y1⟩:=one rv2 ed
 obtain ⟨t2,b,rfl,x2,y2⟩:=one ru ee
 exact ⟨t1,t2,a,b,rfl,rfl,x1,x2,q _ G2 H2 (w1.trans w2) (zpQ y1 y2)⟩
end
noncomputable def BIG:Nat:=2 ^ 2000
noncomputable def zjT (i j:Int):Prop:=i.natAbs < BIG/\j.natAbs < BIG
noncomputable def znC (_i j:Int):Prop:=0 < j/\j.natAbs < BIG
instance decMulW (i j:Int):Decidable (zjT i j):=by unfold zjT; infer_instance
instance decDivW (i j:Int):Decidable (znC i j):=by unfold znC; infer_instance
theorem zlW {i:Int} (h:i.natAbs < BIG):Builtin.Int.intBits i<=2000:=by
 unfold Builtin.Int.intBits
 split
 ·exact Nat.zero_le _
 ·rename_i z
  have h0:i.natAbs≠0:=fun e=>z (by rw [Int.natAbs_eq_zero.mp e]; rfl)
  have:=(Nat.log2_lt h0).mpr h
  omega
theorem zjT.ok {i j:Int} (h:zjT i j):IntMulOk i j:=by
 have h1:=zlW h.1
 have h2:=zlW h.2
 unfold IntMulOk
 have e:Builtin.Int.intTooBig ((Builtin.Int.intBits i:Int) + (Builtin.Int.intBits j:Int))=false:=by
  unfold Builtin.Int.intTooBig
  have:((bitsLine:Nat):Int)=134217728:=by decide +kernel
  exact decide_eq_false (by omega)
 rw [e]; simp
theorem zo8:OpR X (binaryOp .Mult) (rI zjT fun i j=>.int (i * j)):=opI fun _ _ _ _ _ _ _ hc q=>mul_int q hc.ok
theorem zmN:OpR X (binaryOp .FloorDiv) (rI znC fun i j=>.int (i / j)):=opI fun i j _ _ _ _ _ hc q=>by
 have h1:(0:Int) < j:=hc.1
 have h2:j.natAbs < BIG:=hc.2
 have h0:j.natAbs≠0:=by omega
 have:=(Nat.log2_lt h0).mpr h2
 exact floordiv_int (by omega) (by rw [Int.fdiv_eq_ediv_of_nonneg i (by omega)]; exact q) (.inl (PyProof.noPylong_of_log2 (by omega)))
noncomputable abbrev mulW:D->D->Option D:=zfO zjT fun a b=>.int (a * b)
noncomputable abbrev zis:D->D->Option D:=zfO znC fun a b=>.int (a / b)
section
variable {X:Cx} {g:GE} {m:List Md} {e a b c o:Expr} {es:List Expr} {f fa fb fc fo:FE} {fl:Rho->Res (List D)} {pos p apos cpos:Pos}
theorem zc1 (ha:SB X g m a fa) (hb:SB X g m b fb):SE X g m (.BinOp a .Mult b pos) (f2 fa fb mulW):=zgD zo8 (zdJ fun _ _=>.int _) ha hb
theorem zgC (ha:SB X g m a fa) (hb:SB X g m b fb):SE X g m (.BinOp a .FloorDiv b pos) (f2 fa fb zis):=zgD zmN (zdJ fun _ _=>.int _) ha hb
noncomputable def absD:List D->Option D
 | [.int i]=>some (.int (if i < 0 then -i else i))
 | _=>none
theorem zsb {K:W.Frag}:zhX K (fun xs H Q=>∃i:Int,xs=[.int i]/\Q (.int (if i < 0 then -i else i)) H) absD:=by
 intro G H vs ds d Q gk rs e q
 unfold absD at e
 split at e
 ·cases e
  cases rs with
  | cons r1 t=>
   cases t
   exact ⟨_,by rw [r1.int gk],q _ G H (Grow.refl gk) (.scl (.int _))⟩
 ·cases e
theorem zqu (hg:Gl X "abs") (hm:X.mg "abs" = none) (ha:SAB X g m (e::es) fl) (he:starEach (e::es) X.env=(false,eval e X.env)::starEach es X.env:=by rfl) (hpl:(backTo pos (starEach es X.env)).any (·.1)=false:=by rfl) :
  SE X g m (.Call (.Name "abs" p) (e::es) [] pos) (fC fl absD):=s_cb zsb (zdg znv hg hm PyProof.Rows.boot_abs ha (by decide) (by decide) he hpl)
theorem zoE {x:Str} {d:D} (hg:Gl X x) (hk:∃a,X.mg x=some (.ref a)/\KC X.K a d) (hd:(x == ("__debug__" : Str))=false:=by decide):SE X g m (.Name x pos) fun _=>.ok d:=by
 obtain ⟨a,hm,k⟩:=hk
 exact PE.imp (zo0 (v:=.ref a) hg hm rfl hd) fun σ H Q ⟨r,G,si,q⟩=>q (.ref a) G H (Grow.refl si.gok) (.kc k)
theorem zs5 {K:W.Frag} {h:Heap} {mg:Str->Option Value} {x:Str} (KX:K.In h) (G:h.Ns mainGlobals mg) {a:Addr} {i j:Int} {t u:Tok} {n:Nat} {sl:Array (Option Value)} (z:W.nsIn K mainGlobals x=some (some (.ref a)))
  (l:K.lookup a=some ⟨.type "tuple",none,.seq #[.int i t,.int j u] n,sl⟩):∃a,mg x=some (.ref a)/\KC K a (.tup [.int i,.int j]):=by
 refine ⟨a,W.mg_of KX G z,.tup (xs:=[.int i,.int j]) (.inr ⟨_,_,_,l,rfl,rfl,?_,.cons ⟨_,rfl⟩ (.cons ⟨_,rfl⟩ .nil)⟩) (.cons (.int _) (.cons (.int _) .nil)) ⟨_,l,rfl,rfl⟩⟩
 show 2<=sizeLine
 rw [sizeLine_eq]; decide
end
noncomputable def kyD:Key->D
 | .inl i=>.int i
 | .inr x=>.str x
theorem zla (k:Key):Scl (kV k) (kyD k):=by
 cases k with
 | inl i=>exact .int i
 | inr x=>exact .str x
noncomputable def zfU:D->Option (List D)
 | .dic kvs=>some (kvs.map fun kv=>kyD kv.1)
 | _=>none
noncomputable def Itd (a:Addr) (ob:Obj) (ps:List (Key × V)):It:=
 ⟨fun i H=>H a=some (.frz ob (.dK ps))/\i < ps.length,fun i H x H'=>H'=H/\∃kv,ps[i]? = some kv/\x=kV kv.1,fun i H=>H a=some (.frz ob (.dK ps))/\i=ps.length⟩
theorem zn6 {P:Program} {w:World} {k:Key} {u:Value} (h:(zbc P w).is k u=true):RelV (kV k) u:=by
 rcases keyIs_shape h with ⟨i,t,rfl,rfl⟩ | ⟨x,t,rfl,rfl⟩
 ·exact ⟨t,rfl⟩
 ·exact ⟨t,rfl⟩
section
variable {X:Cx} {pins:List (Addr × Obj)} {σ:L2.St} {H:Hp} {s:Shared} {a:Addr} {ob:Obj} {ps:List (Key × V)}
theorem ziu (I:Inv X pins σ H s) (e:H a=some (.frz ob (.dK ps))) {es:Array DictEntry} {ep:Nat} (hob:ob.data=.dict es ep):∃vs,KV ps vs/\s.heap.DictAt (zbc X.prog X.w) a vs ep/\(a == sysModules)=false:=by
 obtain ⟨h1,z,y,vs,r,o',es',ep',h2,c1,c2,c3⟩:=(show za8 X.prog X.w H s.heap a (.frz ob (.dK ps)) from I.hok a _ e)
 rw [h1] at h2
 cases h2
 rw [hob] at c2
 cases c2
 exact ⟨vs,r,⟨ob,es,h1,c1,hob,c3⟩,y⟩
theorem zpD (I:Inv X pins σ H s) (e:H a=some (.frz ob (.dK ps))):∃(es:Array DictEntry) (ep:Nat),ob.data=.dict es ep:=by
 obtain ⟨h1,z,y,vs,r,o',es',ep',h2,c1,c2,c3⟩:=(show za8 X.prog X.w H s.heap a (.frz ob (.dK ps)) from I.hok a _ e)
 rw [h1] at h2
 cases h2
 exact ⟨es',ep',c2⟩
end
theorem zj2 {P:Program} {w:World} {K:W.Frag} {tg:Expr} (a it:Addr) {ob:Obj} {ps:List (Key × V)} {es:Array DictEntry} {ep:Nat} (hob:ob.data=.dict es ep):Turn P w K tg (Itd a ob ps) [it] it (fun i h=>h.IsKeyIter it a i ps.length ep) where
 mem:=by simp
 obj:=fun i h st b hb=>by
  have e:b=it:=by simpa using hb
  subst e
  obtain ⟨o,e,c,d⟩:=st
  exact ⟨o,e,fun v z=>by rw [d] at z; cases z⟩
 keep:=fun i h h' st k=>st.at fun o e=>k it (by simp) o e
 item:=by
  intro X hP hw hK hc i pins s σ H E I hf st hg
  subst hP hw hK
  obtain ⟨he,hi⟩:=hg
  obtain ⟨vs,r,m,_⟩:=ziu I he hob
  have hl:ps.length=vs.length:=Paired.length r
  have hiv:i < vs.length:=by omega
  obtain ⟨kv,h1,h2⟩:=DL.Paired.get r (List.getElem?_eq_getElem hiv)
  obtain ⟨f0,f1,f2,f3,f4,f5⟩:=hf it (by simp)
  rw [hl] at st
  refine wpAny_pyNext_dict_item (k:=vs[i].1) (v:=vs[i].2) st m (List.getElem?_eq_getElem hiv) fun key h' hkey hit' sb=>?_
  have I1:Inv X pins σ H { s with heap:=h' }:=I.turned (t':=s.toks) (fun b o hb e=>(sb.2 b hb).trans e) f0 f1 f3 f4 f5
  obtain ⟨o,e,c,d⟩:=id hit'
  exact ⟨key,rfl,zna (s:={ s with heap:=h' }) e c d (by decide) ⟨kV kv.1,H,I1,by rw [h2.1]; exact zn6 hkey,⟨rfl,kv,h1,rfl⟩,by rw [hl]; exact hit',fun b hb=>(hf b hb).1⟩⟩
 done:=by
  intro X hP hw hK hc i pins s σ H E I hf st hg
  subst hP hw hK
  obtain ⟨he,hi⟩:=hg
  obtain ⟨vs,r,m,_⟩:=ziu I he hob
  have hl:ps.length=vs.length:=Paired.length r
  obtain ⟨f0,f1,f2,f3,f4,f5⟩:=hf it (by simp)
  rw [hl] at st
  exact wpAny_pyNext_dict_end (I.ok.hd hc) st m (by rw [List.getElem?_eq_none]; omega) fun h' eb=>⟨rfl,I.turned (t':=s.toks) (fun b o hb e=>eb b o hb e) f0 f1 f3 f4 f5⟩
 self:=fun _ _ _ _ _ st h=>wpAny_pyIter_keyiter st h
section
variable {X:Cx} {g:GE} {m m' m1 mb:List Md} {tg e a b c iter:Expr} {f fa fb:FE} {p:FQ} {pos pos':Pos} {ro:Bool} {fl:Rho->Res (List D)} {sts:List Stmt} {s1:FS}
theorem zoW {l:Expr} {tl:TE} (hl:PE X l tl):PI X tg l (fun σ H R=>tl σ H fun x H1=>∃a ob ps,x=.ref a/\H1 a=some (.frz ob (.dK ps))/\R (Itd a ob ps) H1):=by
 intro pins s σ H R I h
 refine thn (hl pins s σ H _ I h) fun v s1 ⟨x,H1,I1,r1,q1⟩=>?_
 obtain ⟨a,ob,ps,e,he,q⟩:=q1
 subst e
 cases r1
 obtain ⟨es,ep,hob⟩:=zpD I1 he
 obtain ⟨vs,r,mm,hs⟩:=ziu I1 he hob
 have hl:ps.length=vs.length:=Paired.length r
 refine wpAny_pyIter_dict hs mm ?_
 refine ⟨s1.heap.objs.size,[s1.heap.objs.size],_,_,H1,rfl,I1.kept (t':=s1.toks) fun b o e=>Heap.get?_push_of_some _ e,zj2 a _ hob,⟨_,Heap.get?_push_size _ rfl,rfl,by rw [hl]; rfl⟩,fun b hb=>?_,q⟩
 have e:b=s1.heap.objs.size:=by simpa using hb
 subst e
 exact I1.fpOk (Nat.le_refl _) (I1.hok.fresh (Nat.le_refl _))
theorem zrt {K:W.Frag} {G:GH} {ps:List (Key × V)} {kvs:List (Key × D)} (r:RKs K G ps kvs) {i:Nat} {kv:Key × V} {d:D} (h:ps[i]? = some kv) (hd:(kvs.map fun kv=>kyD kv.1)[i]? = some d):RG K G (kV kv.1) d:=by
 rw [List.getElem?_map] at hd
 cases e:kvs[i]? with
 | none=>rw [e] at hd; cases hd
 | some q=>
  rw [e] at hd
  cases hd
  obtain ⟨kv',h1,h2⟩:=DL.Paired.get r e
  rw [h] at h1
  cases h1
  rw [h2.1]
  exact .scl (zla _)
theorem RG.dicF {K:W.Frag} {G:GH} {H:Hp} {v:V} {kvs:List (Key × D)} (gk:GOk K G H) (h:RG K G v (.dic kvs)):∃a ob ps,v=.ref a/\G a=some (.dic kvs)/\H a=some (.frz ob (.dK ps))/\RKs K G ps kvs:=by
 cases h with
 | scl s=>cases s
 | ref e=>
  cases gk _ _ e with
  | dic r s=>exact ⟨_,_,_,rfl,e,r,s⟩
 | kc k=>cases k
noncomputable def addG (g:GE) (a:Addr) (d:D) (u:HO):GE:=⟨gset g.gh a d,upd g.h0 a u,g.hd⟩
theorem SI.up {r:Rho} {G:GH} {st:L2.St} {H:Hp} {a:Addr} {d:D} {u:HO} (s:SI X g m r G st H) (hG:G a=some d) (hH:H a=some u):SI X (addG g a d u) m r G st H where
 gok:=s.gok
 old:=fun b o e=>by
  by_cases hb:b=a
  ·subst hb
   have e':upd g.h0 b u b=some o:=e
   rw [zan] at e'; cases e'; exact hH
  ·have e':upd g.h0 a u b=some o:=e
   rw [zao hb] at e'; exact s.old b o e'
 ge:=fun b x e=>by
  by_cases hb:b=a
  ·subst hb
   have e':gset g.gh b d b=some x:=e
   rw [zap] at e'; cases e'; exact hG
  ·have e':gset g.gh a d b=some x:=e
   rw [zaM hb] at e'; exact s.ge b x e'
 gf:=fun b h=>by
  show G b=gset g.gh a d b
  by_cases hb:b=a
  ·subst hb; rw [zap]; exact hG
  ·rw [zaM hb]
   exact s.gf b fun z=>h (show upd g.h0 a u b=none by rw [zao hb]; exact z)
 lm:=s.lm
 lr:=s.lr
 sh:=s.sh
 ow:=fun i x h1 h2=>by
  obtain ⟨c,q1,q2,q3⟩:=s.ow i x h1 h2
  refine ⟨c,q1,q2,?_⟩
  have hc:c≠a:=by rintro rfl; rw [q2.un] at hG; cases hG
  show upd g.h0 a u c=none
  rw [zao hc]; exact q3
 bw:=fun i x h1 h2=>by
  obtain ⟨v,q1,q2⟩:=s.bw i x h1 h2
  refine ⟨v,q1,?_⟩
  rcases q2 with q2 | ⟨c,e,q2,q3⟩
  ·exact .inl q2
  ·refine .inr ⟨c,e,q2,?_⟩
   have hc:c≠a:=by rintro rfl; rw [q2.un] at hG; cases hG
   show upd g.h0 a u c≠none
   rw [zao hc]; exact q3
 dis:=s.dis
 lk:=s.lk
structure Had (g:GE) (a:Addr) (d:D) (u:HO):Prop where
 h0:∀o,g.h0 a=some o->o=u
 gh:∀x,g.gh a=some x->x=d
 gf:g.h0 a≠none->g.gh a=some d
theorem SI.had {r:Rho} {G:GH} {st:L2.St} {H:Hp} {a:Addr} {d:D} {u:HO} (s:SI X g m r G st H) (hG:G a=some d) (hH:H a=some u):Had g a d u:=
 ⟨fun o e=>by have:=s.old a o e; rw [hH] at this; cases this; rfl,fun x e=>by have:=s.ge a x e; rw [hG] at this; cases this; rfl,fun h=>by rw [<-s.gf a h]; exact hG⟩
theorem SI.down {r:Rho} {G:GH} {st:L2.St} {H:Hp} {a:Addr} {d:D} {u:HO} (hd:Had g a d u) (s:SI X (addG g a d u) m r G st H):SI X g m r G st H:=by
 have hH:H a=some u:=s.old a u zan
 have hG:G a=some d:=s.ge a d zap
 exact {
  gok:=s.gok
  old:=fun b o e=>by
   by_cases hb:b=a
   ·subst hb; rw [hd.h0 o e]; exact hH
   ·exact s.old b o (show upd g.h0 a u b=some o by rw [zao hb]; exact e)
  ge:=fun b x e=>by
   by_cases hb:b=a
   ·subst hb; rw [hd.gh x e]; exact hG
   ·exact s.ge b x (show gset g.gh a d b=some x by rw [zaM hb]; exact e)
  gf:=fun b h=>by
   by_cases hb:b=a
   ·subst hb; rw [hG,hd.gf h]
   ·have:=s.gf b (show upd g.h0 a u b≠none by rw [zao hb]; exact h)
    rw [this]
    exact zaM hb
  lm:=s.lm
  lr:=s.lr
  sh:=s.sh
  ow:=fun i x h1 h2=>by
   obtain ⟨c,q1,q2,q3⟩:=s.ow i x h1 h2
   have hc:c≠a:=by rintro rfl; rw [q2.un] at hG; cases hG
   refine ⟨c,q1,q2,?_⟩
   have q3':upd g.h0 a u c=none:=q3
   rw [zao hc] at q3'; exact q3'
  bw:=fun i x h1 h2=>by
   obtain ⟨v,q1,q2⟩:=s.bw i x h1 h2
   refine ⟨v,q1,?_⟩
   rcases q2 with q2 | ⟨c,e,q2,q3⟩
   ·exact .inl q2
   ·have hc:c≠a:=by rintro rfl; rw [q2.un] at hG; cases hG
    refine .inr ⟨c,e,q2,?_⟩
    have q3':upd g.h0 a u c≠none:=q3
    rw [zao hc] at q3'; exact q3'
  dis:=s.dis
  lk:=s.lk }
theorem Grow.down {K:W.Frag} {G':GH} {H':Hp} {a:Addr} {d:D} {u:HO} (hd:Had g a d u) (w:Grow K (addG g a d u).gh (addG g a d u).h0 G' H'):Grow K g.gh g.h0 G' H':=
 ⟨w.ok,fun b o e=>by
  by_cases hb:b=a
  ·subst hb; rw [hd.h0 o e]; exact w.he b u zan
  ·exact w.he b o (show upd g.h0 a u b=some o by rw [zao hb]; exact e),fun b x e=>by
  by_cases hb:b=a
  ·subst hb; rw [hd.gh x e]; exact w.ge b d zap
  ·exact w.ge b x (show gset g.gh a d b=some x by rw [zaM hb]; exact e),fun b h=>by
  by_cases hb:b=a
  ·subst hb; rw [hd.gf h]; exact w.ge b d zap
  ·have:=w.gf b (show upd g.h0 a u b≠none by rw [zao hb]; exact h)
   rw [this]; exact zaM hb⟩
noncomputable def tID (X:Cx) (g:GE) (m:List Md) (f:FE):TI:=fun σ H R=>∃r G,SI X g m r G σ H/\fin (f r) (fun d=>∀a ob ps kvs G' H',d=.dic kvs->Grow X.K G H G' H'->G' a=some (.dic kvs)->H' a=some (.frz ob (.dK ps))->RKs X.K G' ps kvs->R (Itd a ob ps) H') (XW X σ G H)
theorem zrL (h:SE X g m e f) (hd:∀r d,f r=.ok d->∃kvs,d=.dic kvs):PI X tg e (tID X g m f):=by
 refine PI.imp (zoW h) fun σ H R ⟨r,G,si,q⟩=>⟨r,G,si,?_⟩
 cases er:f r with
 | ok d=>
  rw [er] at q
  intro v G' H' w rv
  obtain ⟨kvs,rfl⟩:=hd r d er
  obtain ⟨a,ob,ps,rfl,hG,he,rs⟩:=RG.dicF w.ok rv
  exact ⟨a,ob,ps,rfl,he,q a ob ps kvs G' H' rfl w hG he rs⟩
 | exc x=>rw [er] at q; exact q
 | stuck=>rw [er] at q; exact q
noncomputable def zkQ (f:FE):FE:=fun r=>(f r).bind fun d=>match d with
 | .dic kvs=>.ok (.dic kvs)
 | _=>.stuck
theorem zoB (h:SE X g m e f):SE X g m e (zkQ f):=PE.imp h fun σ H Q ⟨r,G,si,q⟩=>⟨r,G,si,by
 refine zai (zah q) fun d q v G' H' w rv=>?_
 cases d with
 | dic kvs=>exact q v G' H' w rv
 | _=>exact q.elim⟩
theorem zkP (f:FE):∀r d,zkQ f r=.ok d->∃kvs,d=.dic kvs:=by
 intro r d e
 unfold zkQ at e
 cases er:f r with
 | ok x=>
  rw [er,bind_ok] at e
  cases x with
  | dic kvs=>cases e; exact ⟨kvs,rfl⟩
  | _=>cases e
 | exc x=>rw [er] at e; cases e
 | stuck=>rw [er] at e; cases e
theorem zlB {r:Rho} {q:List D->Prop} {x:D->Prop} (h:fin (fSeq zfU f r) q x):fin (zkQ f r) (fun d=>∀kvs,d=.dic kvs->q (kvs.map fun kv=>kyD kv.1)) x:=by
 unfold fSeq at h
 unfold zkQ
 cases er:f r with
 | ok d=>
  rw [er] at h
  cases d with
  | dic kvs=>intro kvs' e; cases e; exact h
  | _=>exact h
 | exc y=>rw [er] at h; exact h
 | stuck=>rw [er] at h; exact h
theorem znP (hp:PassesOwn (model X.prog X.w) X.A X.env X.xe) (hc:X.calm=true) {ft:FT} (hi:SE X g m iter f) (hg:∀g',SG X g' m tg ft m) (hb:∀g',SSs X g' ro m m sts s1 m)
  (hs:∀x,foldedSetIterable iter X.env x=pure x:=by intro _; rfl):SS X g ro mb m (.For tg iter sts [] pos) (zbL m (fSeq zfU f) ft s1) m:=by
 have hgA:PG X tg (fun v σ H Q=>∃g',tG X g' m m ft v σ H Q):=fun pins s σ H v u Q I r ⟨g',q⟩=>(hg g').2 pins s σ H v u Q I r q
 have hbA:PSs X sts (fun D σ H=>∃g',tS X g' ro m m m s1 D σ H):=fun pins s σ H D I ⟨g',q⟩=>(hb g').2 pins s σ H D I q
 refine ⟨rfl,PS.imp (zht hp hc (zrL (zoB hi) (zkP f)) hgA hbA hs) fun D σ H ⟨r,G,si,q⟩=>⟨r,G,si,zai (zlB (zbU si rfl q)) fun d q a ob ps kvs G0 H0 ed w0 hG0 hH0 rs0=>?_⟩⟩
 replace q:=q kvs ed
 have si0:=si.grow w0
 have hl:ps.length=kvs.length:=Paired.length rs0
 have had:=si0.had hG0 hH0
 generalize hds:(kvs.map fun kv=>kyD kv.1)=ds at q
 have hdl:ds.length=ps.length:=by rw [<-hds,List.length_map]; omega
 refine ⟨fun i n σ H=>∃r G,SI X (addG g a (.dic kvs) (.frz ob (.dK ps))) m r G σ H/\Gle G0 G/\i<=ds.length/\n=ds.length - i/\oTo X g ro m mb G D (forF ft s1 (ds.drop i) r),⟨ds.length,r,G0,si0.up hG0 hH0,Gle.refl G0,Nat.zero_le _,rfl,oTo.gle q w0.ge⟩,?_⟩
 rintro i n σ1 H1 ⟨r1,G1,si1,le1,hi,rfl,q1⟩
 have hH1:H1 a=some (.frz ob (.dK ps)):=si1.old a _ zan
 by_cases hlt:i < ds.length
 ·have hd:ds.drop i=ds[i]::ds.drop (i + 1):=List.drop_eq_getElem_cons hlt
  rw [hd] at q1
  unfold forF at q1
  refine .inr ⟨⟨hH1,by omega⟩,fun σ' H'=>∃r G,SI X (addG g a (.dic kvs) (.frz ob (.dK ps))) m r G σ' H'/\Gle G0 G/\oTo X g ro m mb G D (forF ft s1 (ds.drop (i + 1)) r),fun σ' H' ⟨r',G',si',le',q'⟩=>⟨ds.length - (i + 1),by omega,r',G',si',le',hlt,rfl,q'⟩,fun x H' y=>?_⟩
  obtain ⟨rfl,kv,hk1,rfl⟩:=y
  have rv:RG X.K G1 (kV kv.1) ds[i]:=zrt (RKs.mono rs0 le1) hk1 (by rw [hds]; exact List.getElem?_eq_getElem hlt)
  cases eft:ft ds[i] r1 with
  | none=>simp only [eft] at q1; exact q1.elim
  | some r2=>
   simp only [eft] at q1
   refine ⟨addG g a (.dic kvs) (.frz ob (.dK ps)),r1,G1,ds[i],si1,rv,r2,eft,fun σ2 si2=>⟨addG g a (.dic kvs) (.frz ob (.dK ps)),r2,G1,si2,?_⟩⟩
   cases eb:s1 r2 with
   | nx r'=>simp only [eb] at q1; exact fun σ3 G3 H3 le3 si3=>⟨r',G3,si3,le1.trans le3,oTo.gle q1 le3⟩
   | ct r'=>simp only [eb] at q1; exact fun σ3 G3 H3 le3 si3=>⟨r',G3,si3,le1.trans le3,oTo.gle q1 le3⟩
   | bk r'=>simp only [eb] at q1; exact fun σ3 G3 H3 le3 si3=>q1 σ3 G3 H3 le3 (si3.down had)
   | rt d=>
    simp only [eb] at q1
    intro v G2 H2 wr rv2
    refine q1 v G2 H2 (wr.down had) ?_
    cases ro with
    | false=>exact rv2
    | true=>
     rcases rv2 with ⟨c,e1,e2,e3⟩ | z
     ·refine .inl ⟨c,e1,?_,e3⟩
      have hca:c≠a:=by
       rintro rfl
       have:=wr.ge c _ zap
       rw [e3.un] at this; cases this
      have e2':upd g.h0 a (.frz ob (.dK ps)) c=none:=e2
      rw [zao hca] at e2'; exact e2'
     ·exact .inr z
   | exc x r'=>simp only [eb] at q1; exact fun pins e s' σ3 G3 H3 le3 si3=>q1 pins e s' σ3 G3 H3 le3 (si3.down had)
   | stuck=>simp only [eb] at q1; exact q1
 ·have e:i=ds.length:=by omega
  subst e
  rw [List.drop_length] at q1
  exact .inl ⟨⟨hH1,by omega⟩,q1 σ1 G1 H1 (Gle.refl _) (si1.down had)⟩
noncomputable def repD:D->D->Option D
 | .lst ds,.int k=>if -(2 ^ 62)<=k/\k < 2 ^ 62/\ds.length * k.toNat<=sizeLine then some (.lst ((List.replicate k.toNat ds).flatten)) else none
 | _,_=>none
theorem zqD {K:W.Frag} {G:GH} {xs:List V} {ds:List D} (r:RGs K G xs ds):∀n:Nat,RGs K G (List.replicate n xs).flatten (List.replicate n ds).flatten
 | 0=>.nil
 | n + 1=>by
  rw [List.replicate_succ,List.replicate_succ,List.flatten_cons,List.flatten_cons]
  exact DL.Paired.app r (zqD r n)
theorem zsY (ha:SO X g m a fa) (hb:SB X g m b fb):SO X g m (.BinOp a .Mult b pos) (f2 fa fb repD):=by
 refine PE.imp (zoZ zq1 ha hb) fun σ H Q ⟨r,G,si,q⟩=>⟨r,G,si,zai (zah q) fun d1 q1 p1 G1 H1 w1 hn1 o1=>⟨r,G1,si.grow w1,zaF (zah q1) w1 fun d2 q2 v2 G2 H2 w2 r2=>?_⟩⟩
 obtain ⟨d,e,q3⟩:=zaB q2
 have o2:=o1.mono w2
 unfold repD at e
 split at e
 ·split at e
  ·rename_i ds k hk
   cases e
   cases o2.ob with
   | @lst xs _ hx rs=>
    have hl:=Paired.length rs
    refine ⟨p1,k,xs,rfl,r2.int w2.ok,hx,by omega,by omega,by rw [hl]; exact hk.2.2,fun p hp=>?_⟩
    have w3:=Grow.new w2.ok hp (.lst (List.replicate k.toNat xs).flatten)
    refine q3 p G2 _ ((w1.trans w2).trans w3) ?_ ⟨w2.ok.isN hp,.lst zan (zqD rs _)⟩
    cases e:H p with
    | none=>rfl
    | some o=>rw [(w1.trans w2).he _ _ e] at hp; cases hp
  ·cases e
 ·cases e
end
section
variable {X:Cx} {g:GE} {m:List Md} {e o:Expr} {es:List Expr} {fo:FE} {fl:Rho->Res (List D)} {pos p pos':Pos}
theorem zlS (hc:X.calm=true):zc9 X (.builtin "sum") (fun xs H Q=>∃(p:Addr) (ks:List Int),xs=[.ref p]/\SqL X.K H p (ks.map V.int)/\Q (.int ks.sum) H):=by
 intro pins s σ H xs us Q I r h
 obtain ⟨p,ks,rfl,hq,q⟩:=h
 obtain ⟨u,rfl,rx⟩:=zeI r
 cases rx
 obtain ⟨its,rv,pl,hz⟩:=I.list hq
 obtain ⟨mF,F⟩:=I.fr
 exact PyProof.Rows.LSm.sum_ints F (ziX (g:=X.base) (h:=s.heap) (L:=X.env.locals)) (I.ok.hd hc) pl.isList (zjK rv) fun h' tk t' F' N'=>⟨.int ks.sum,_,Inv.keptF I F F' N' tk,⟨_,rfl⟩,q⟩
noncomputable def sumD:List D->Option D
 | [.lst ds]=>(zeE ds).map fun ks=>.int ks.sum
 | _=>none
theorem zp8 {K:W.Frag}:zhX K (fun xs H Q=>∃(p:Addr) (ks:List Int),xs=[.ref p]/\SqL K H p (ks.map V.int)/\Q (.int ks.sum) H) sumD:=by
 intro G H vs ds d Q gk rs e q
 unfold sumD at e
 split at e
 ·rename_i zs
  cases ek:zeE zs with
  | none=>rw [ek] at e; cases e
  | some ks=>
   rw [ek] at e; cases e
   cases rs with
   | cons r1 t=>
    cases t
    obtain ⟨b,xs,rfl,s,r⟩:=r1.lst gk
    have ex:=zny gk r ek
    subst ex
    exact ⟨b,ks,rfl,s,q _ G H (Grow.refl gk) (.scl (.int _))⟩
 ·cases e
theorem zsC (hc:X.calm=true) (hg:Gl X "sum") (hm:X.mg "sum" = none) (ha:SAB X g m (e::es) fl) (he:starEach (e::es) X.env=(false,eval e X.env)::starEach es X.env:=by rfl) (hpl:(backTo pos (starEach es X.env)).any (·.1)=false:=by rfl) :
  SE X g m (.Call (.Name "sum" p) (e::es) [] pos) (fC fl sumD):=s_cb zp8 (zdg (zlS hc) hg hm PyProof.Rows.boot_sum ha (by decide) (by decide) he hpl)
theorem zgb (hc:X.calm=true):zc9 X (.type "list") (fun xs H Q=>∃d kvs,xs=[.ref d]/\Rd H d (.dK kvs)/\∀l,H l=none->Q (.ref l) (upd H l (.lst (kvs.map fun kv=>kV kv.1)))):=by
 intro pins s σ H xs us Q I r h
 obtain ⟨d,kvs,rfl,hd,q⟩:=h
 obtain ⟨u,rfl,rx⟩:=zeI r
 cases rx
 obtain ⟨z1,ns1,vs1,r1,dd1⟩:=(show za8 X.prog X.w H s.heap d (.dK kvs) from hd.ok I.hok)
 obtain ⟨ep,hat⟩:=dd1.dictAt
 have l1:=Paired.length r1
 refine W.kdl_call (W.kdl_dict (knd:=zbc X.prog X.w) (kvs:=vs1) (ep:=ep) ns1) (I.ok.hd hc) hat (by omega) fun h' tk acc c' kp hS hacc=>?_
 have hvals:Vals (kvs.map fun kv=>kV kv.1) acc.toList:=by
  refine zdb (by have h1:=hacc.1; have h2:acc.toList.length=acc.size:=Array.length_toList; rw [List.length_map]; omega) fun j v u e1 e2=>?_
  obtain ⟨k,x,hk,hi⟩:=hacc.2 j u (by rw [<-Array.getElem?_toList]; exact e2)
  rw [List.getElem?_map] at e1
  cases e3:kvs[j]? with
  | none=>rw [e3] at e1; cases e1
  | some kv=>
   rw [e3] at e1
   cases e1
   obtain ⟨kv',e4,e5⟩:=DL.Paired.get r1 hk
   rw [e3] at e4
   cases e4
   have e6:kv.1=k:=e5.1
   show L2.RelV (kV kv.1) u
   rw [e6]
   exact zn6 hi
 refine ⟨.ref s.heap.objs.size,_,I.laid (t':=tk) kp (Nat.le_refl _) (show za8 X.prog X.w _ h' _ (.lst (kvs.map fun kv=>kV kv.1)) from ⟨by rw [List.length_map]; exact z1,acc.toList,c',hvals,by rw [Array.toArray_toList]; exact hS⟩),rfl,q _ (I.hok.fresh (Nat.le_refl _))⟩
noncomputable def zle:D->Option D
 | .dic kvs=>some (.lst (kvs.map fun kv=>kyD kv.1))
 | _=>none
theorem zru {K:W.Frag} {G:GH}:∀{ps:List (Key × V)} {kvs:List (Key × D)},RKs K G ps kvs->RGs K G (ps.map fun kv=>kV kv.1) (kvs.map fun kv=>kyD kv.1)
 | _,_,.nil=>.nil
 | p::_,q::_,.cons r t=>.cons (show RG K G (kV p.1) (kyD q.1) by rw [r.1]; exact .scl (zla _)) (zru t)
theorem zrd (hc:X.calm=true) (hg:Gl X "list") (hm:X.mg "list" = none) (ho:SB X g m o fo) (hs2:starEach [o] X.env=(false,eval o X.env)::starEach [] X.env:=by rfl) :
  SO X g m (.Call (.Name "list" pos') [o] [] pos) (f1 fo zle):=by
 refine PE.imp (zdv (zgb hc) hg hm rfl (zcq ho ze4 hs2) (by decide) (by decide) hs2 rfl) fun σ H Q ⟨r,G,si,q⟩=>⟨r,G,si,zai (zah q) fun d q1 v G1 H1 w1 r1=>?_⟩
 obtain ⟨d',e,q2⟩:=zaB q1
 cases d with
 | dic kvs=>
  cases e
  obtain ⟨a,ps,rfl,hs,rs⟩:=r1.dic w1.ok
  refine ⟨a,ps,rfl,hs,fun l hl=>?_⟩
  have w3:=Grow.new w1.ok hl (.lst (ps.map fun kv=>kV kv.1))
  exact q2 l G1 _ (w1.trans w3) (by
   cases q:H l with
   | none=>rfl
   | some u=>rw [w1.he _ _ q] at hl; cases hl) ⟨w1.ok.isN hl,.lst zan (zru rs)⟩
 | _=>cases e
end
noncomputable def zdr {α:Type} (xs:List α) (lo hi st:Option Int):List α:=(sliceRange (sliceBounds lo hi st xs.length).1 (sliceBounds lo hi st xs.length).2.1 (sliceBounds lo hi st xs.length).2.2).filterMap (xs[·]?)
theorem zkE {α β:Type} {F:α->β->Prop} {xs:List α} {ds:List β} (r:Paired F xs ds):∀is:List Nat,Paired F (is.filterMap (xs[·]?)) (is.filterMap (ds[·]?))
 | []=>.nil
 | i::is=>by
  have ih:=zkE r is
  have hl:=Paired.length r
  cases e:ds[i]? with
  | none=>
   have e2:xs[i]? = none:=by
    rw [List.getElem?_eq_none_iff] at e ⊢; omega
   rw [List.filterMap_cons,List.filterMap_cons,e,e2]; exact ih
  | some d=>
   obtain ⟨v,e2,hv⟩:=Paired.get r e
   rw [List.filterMap_cons,List.filterMap_cons,e,e2]; exact .cons hv ih
theorem znV {α β:Type} {F:α->β->Prop} {xs:List α} {ds:List β} (r:Paired F xs ds) (lo hi st:Option Int):Paired F (zdr xs lo hi st) (zdr ds lo hi st):=by
 unfold zdr
 rw [Paired.length r]
 exact zkE r _
noncomputable def SlS (X:Cx) (r:V->Option Int->Option Int->Option Int->Hp->VK->Prop):Prop:=
 ∀(pins:List (Addr × Obj)) (s:Shared) (σ:L2.St) (H:Hp) (x:V) (v vl vu vs:Value) (lo hi st:Option Int) (sl:Addr) (Q:VK),Inv X pins σ H s->RelV x v->s.heap.IsSliceOf sl vl vu vs->IsPart vl lo->IsPart vu hi->IsPart vs st->r x lo hi st H Q ->
  ∃T id,typeLookup (.type T) "__getitem__" = pure (some (.builtin id))/\s.TypeIs v T/\wpAny (model X.prog X.w) X.A (getItem v (.ref sl)) (EP X pins σ Q) X.xe s
noncomputable def rSlS (K:W.Frag):V->Option Int->Option Int->Option Int->Hp->VK->Prop:=fun x lo hi st H Q=>∃a xs,x=.ref a/\SqL K H a xs/\st≠some 0/\∀p,H p=none->Q (.ref p) (upd H p (.lst (zdr xs lo hi st)))
theorem zj0 {xs:List V} {us:List Value} (r:Vals xs us):Paired RelV xs us:=by
 induction r with
 | nil=>exact .nil
 | cons a _ ih=>exact .cons a ih
theorem zkI {xs:List V} {us:List Value} (r:Paired RelV xs us):Vals xs us:=by
 induction r with
 | nil=>exact .nil
 | cons a _ ih=>exact .cons a ih
section
variable {X:Cx} {g:GE} {m:List Md} {e st:Expr} {f fa:FE} {pos p2:Pos} {lo hi:Option Expr} {te:TE} {tl th ts:TO}
theorem zmn:SlS X (rSlS X.K):=by
 intro pins s σ H x v vl vu vs lo hi st sl Q I rx hs pl pu ps h
 obtain ⟨a,xs,rfl,hx,h0,q⟩:=h
 cases rx
 obtain ⟨its,r,ht,hz⟩:=I.list hx
 have hlen:=r.length
 refine ⟨"list",_,slot_list_getitem.lookup,ht.isList.typeIs,?_⟩
 refine wpAny_getItem_list_slice ht.isList hs pl pu ps h0 ?_ (by rw [List.size_toArray] <;> omega)
 have e:slicePick its.toArray lo hi st=(zdr its lo hi st).toArray:=by
  unfold slicePick zdr
  rw [List.size_toArray]
  congr 1
  simp only [List.getElem?_toArray]
 have pp:=znV (zj0 r) lo hi st
 have hsz:(zdr xs lo hi st).length<=sizeLine:=by
  have h1:=slicePick_size_le its.toArray lo hi st
  rw [e,List.size_toArray,List.size_toArray] at h1
  have h2:=Paired.length pp
  omega
 rw [e]
 refine ⟨.ref s.heap.objs.size,_,I.laid (t':=s.toks) (o:=.lst (zdr xs lo hi st)) (fun b ob q=>Heap.get?_push_of_some _ q) (Nat.le_refl _) ?_,rfl,q _ (I.hok.fresh (Nat.le_refl _))⟩
 exact ⟨hsz,_,0,zkI pp,Heap.get?_push_size _ rfl⟩
noncomputable def tSlS (r:V->Option Int->Option Int->Option Int->Hp->VK->Prop) (te:TE) (tl th ts:TO):TE:=fun σ H Q=>te σ H fun x H1=>tl σ H1 fun l H2=>th σ H2 fun u H3=>ts σ H3 fun t H4=>r x l u t H4 Q
theorem zkH {r:V->Option Int->Option Int->Option Int->Hp->VK->Prop} (hr:SlS X r) (he:PE X e te) (hl:PO X lo tl) (hu:PO X hi th) (hst:PO X (some st) ts):PE X (.Subscript e (.Slice lo hi (some st) p2) pos) (tSlS r te tl th ts):=by
 intro pins s σ H Q I h
 refine Subscript_ (thn (he pins s σ H _ I h) fun v s1 ⟨x,H1,I1,r1,q1⟩=>?_)
 refine wpAny_Slice (thn (hl pins s1 σ H1 _ I1 q1) fun vl s2 ⟨l,H2,I2,pl,q2⟩=>thn (hu pins s2 σ H2 _ I2 q2) fun vu s3 ⟨u,H3,I3,pu,q3⟩=>thn (hst pins s3 σ H3 _ I3 q3) fun vt s4 ⟨t,H4,I4,pt,q4⟩=>?_)
 have I5:Inv X pins σ H4 { s4 with heap:=s4.heap.push { cls:=.type "slice",data:=.fields #[vl,vu,vt] } }:=I4.kept (t':=s4.toks) fun b ob q=>Heap.get?_push_of_some _ q
 obtain ⟨T,id,hT,ht,hg⟩:=hr pins { s4 with heap:=s4.heap.push { cls:=.type "slice",data:=.fields #[vl,vu,vt] } } σ H4 x v vl vu vt l u t s4.heap.objs.size Q I5 r1 (Heap.IsSliceOf.new ..) pl pu pt q4
 show wpAny (model X.prog X.w) X.A (subscriptTail e (.Slice lo hi (some st) p2) v (.ref s4.heap.objs.size)) (EP X pins σ Q) X.xe { s4 with heap:=s4.heap.push { cls:=.type "slice",data:=.fields #[vl,vu,vt] } }
 first
  | exact tail_any (ops:=[v,.ref s4.heap.objs.size]) ht hT hg (by with_unfolding_all rfl)
  | exact tail_any (ops:=[.ref s4.heap.objs.size,v]) ht hT hg (by with_unfolding_all rfl)
noncomputable def slS (d:D) (lo hi st:Option Int):Option D:=match d with
 | .lst ds=>if st=some 0 then none else some (.lst (zdr ds lo hi st))
 | _=>none
noncomputable def fSlS (fa:FE) (fl fh fs:FP):FE:=fun r=>(fa r).bind fun d=>(fl r).bind fun lo=>(fh r).bind fun hi=>(fs r).bind fun st=>opt (slS d lo hi st)
theorem zsE {fl fh fs:FP} (he:SB X g m e f) (hl:SP1 X g m lo fl) (hu:SP1 X g m hi fh) (hs:SP1 X g m (some st) fs):SE X g m (.Subscript e (.Slice lo hi (some st) p2) pos) (fSlS f fl fh fs):=by
 refine PE.imp (zkH zmn he hl hu hs) fun σ H Q ⟨r,G,si,q⟩=>?_
 refine ⟨r,G,si,zai (zah q) fun d h1 v G1 H1 w1 r1=>⟨r,G1,si.grow w1,zaF (zah h1) w1 fun lo h2 G2 H2 w2=>⟨r,G2,(si.grow w1).grow w2,?_⟩⟩⟩
 refine zaF (zah h2) (w1.trans w2) fun hi h3 G3 H3 w3=>⟨r,G3,((si.grow w1).grow w2).grow w3,?_⟩
 refine zaF (zah h3) ((w1.trans w2).trans w3) fun st h4 G4 H4 w4=>?_
 obtain ⟨d',e,q2⟩:=zaB h4
 have w:=((w1.trans w2).trans w3).trans w4
 have rb:=((r1.mono w2).mono w3).mono w4
 cases d with
 | lst ds=>
  have e':(if st=some 0 then none else some (D.lst (zdr ds lo hi st)))=some d':=e
  by_cases h0:st=some 0
  ·rw [if_pos h0] at e'; cases e'
  rw [if_neg h0] at e'
  cases e'
  obtain ⟨a,xs,rfl,s,r⟩:=rb.lst w.ok
  exact ⟨a,xs,rfl,s,h0,fun p hp=>q2 _ _ _ (w.trans (Grow.newF w.ok hp (.lst (.inl zan) (znV r lo hi st)))) (.ref zap)⟩
 | _=>cases e
end
noncomputable def zcr (g:GE) (H:Hp) (fp:List Addr) (i:Nat) (p:Addr):GE:=
 ⟨g.gh,fun b=>if b∈fp then H b else g.h0 b,fun j=>if j=i then some (some (V.ref p),none) else g.hd j⟩
theorem zfn {g:GE} {H H':Hp} {fp:List Addr} {i:Nat} {p:Addr} (h:∀b∈fp,H' b=H b):zcr g H' fp i p=zcr g H fp i p:=by
 unfold zcr
 congr 1
 funext b
 by_cases hb:b∈fp
 ·rw [if_pos hb,if_pos hb,h b hb]
 ·rw [if_neg hb,if_neg hb]
noncomputable def RowR (K:W.Frag) (G:GH) (H:Hp) (b:Addr) (ds:List D):Prop:=∃xs,H b=some (.lst xs)/\RGs K G xs ds
structure LRw (K:W.Frag) (G:GH) (H:Hp) (p:Addr) (as:List Addr) (w:List (List D)):Prop where
 out:H p=some (.lst (as.map V.ref))
 nd:(p::as).Nodup
 un:∀b∈p::as,G b=none
 rw:Paired (RowR K G H) as w
theorem RowR.mono {K:W.Frag} {G G':GH} {H H':Hp} {b:Addr} {ds:List D} (h:RowR K G H b ds) (ge:Gle G G') (he:H' b=H b):RowR K G' H' b ds:=by
 obtain ⟨xs,h1,h2⟩:=h
 exact ⟨xs,by rw [he]; exact h1,h2.mono ge⟩
theorem zgI {α β:Type} {F F':α->β->Prop} {l:List α} {r:List β} (h:Paired F l r) (f:∀a∈l,∀b,F a b->F' a b):Paired F' l r:=by
 induction h with
 | nil=>exact .nil
 | cons h _ ih=>exact .cons (f _ List.mem_cons_self _ h) (ih fun a ha=>f a (List.mem_cons_of_mem _ ha))
theorem LRw.isS {K:W.Frag} {G:GH} {H:Hp} {p:Addr} {as:List Addr} {w:List (List D)} (h:LRw K G H p as w) {b:Addr} (hb:b∈p::as):H b≠none:=by
 rcases List.mem_cons.mp hb with rfl | hb
 ·rw [h.out]; simp
 ·have:∀{as:List Addr} {w:List (List D)},Paired (RowR K G H) as w->b∈as->H b≠none:=fun {as w} q hb=>by
   induction q with
   | nil=>cases hb
   | cons r _ ih=>
    rcases List.mem_cons.mp hb with rfl | hb
    ·obtain ⟨xs,e,_⟩:=r; rw [e]; simp
    ·exact ih hb
  exact this h.rw hb
theorem LRw.mono {K:W.Frag} {G G':GH} {H H':Hp} {p:Addr} {as:List Addr} {w:List (List D)} (h:LRw K G H p as w) (ge:Gle G G') (he:∀b∈p::as,H' b=H b) (un:∀b∈p::as,G' b=none):LRw K G' H' p as w:=
 ⟨by rw [he p List.mem_cons_self]; exact h.out,h.nd,un,zgI h.rw fun b hb ds r=>r.mono ge (he b (List.mem_cons_of_mem _ hb))⟩
noncomputable def SI2 (X:Cx) (g:GE) (i:Nat) (m:List Md) (r:Rho) (w:List (List D)) (G:GH) (st:L2.St) (H:Hp):Prop:=
 ∃p as,LRw X.K G H p as w/\(∀b∈p::as,g.h0 b=none)/\SI X (zcr g H (p::as) i p) m r G st H/\m[i]? = some .bw
section
variable {X:Cx} {g:GE} {i:Nat} {m m' m1:List Md} {r r':Rho} {w:List (List D)} {G G':GH} {σ σ':L2.St} {H H':Hp}
theorem zeS {p:Addr} {as:List Addr} (R:LRw X.K G H p as w) (h0:∀b∈p::as,g.h0 b=none) (si:SI X (zcr g H (p::as) i p) m r G σ H) (le:Gle G G') (si':SI X (zcr g H (p::as) i p) m' r' G' σ' H') (hm:m'[i]? = some .bw):SI2 X g i m' r' w G' σ' H':=by
 have he:∀b∈p::as,H' b=H b:=fun b hb=>by
  have hs:=R.isS hb
  cases e:H b with
  | none=>exact absurd e hs
  | some o=>
   have:(zcr g H (p::as) i p).h0 b=some o:=by show (if b∈p::as then H b else g.h0 b)=_; rw [if_pos hb]; exact e
   rw [si'.old b o this]
 have un:∀b∈p::as,G' b=none:=fun b hb=>by
  have h:(zcr g H (p::as) i p).h0 b≠none:=by show (if b∈p::as then H b else g.h0 b)≠_; rw [if_pos hb]; exact R.isS hb
  have e1:=si'.gf b h
  have e2:=si.gf b h
  rw [e1,<-e2]; exact R.un b hb
 exact ⟨p,as,R.mono le he un,h0,by rw [zfn he]; exact si',hm⟩
noncomputable abbrev FS2:=Rho->List (List D)->Option (Rho × List (List D))
noncomputable def tS2 (X:Cx) (g:GE) (i:Nat) (m m':List Md) (f:FS2):TS:=fun D σ H=>∃r w G,SI2 X g i m r w G σ H/\∃r' w',f r w=some (r',w')/\∀σ' G' H',Gle G G'->SI2 X g i m' r' w' G' σ' H'->D.nx σ' H'
noncomputable def SS2 (X:Cx) (g:GE) (i:Nat) (m:List Md) (st:Stmt) (f:FS2) (m':List Md):Prop:=PS X st (tS2 X g i m m' f)
noncomputable def SSs2 (X:Cx) (g:GE) (i:Nat) (m:List Md) (st:List Stmt) (f:FS2) (m':List Md):Prop:=PSs X st (tS2 X g i m m' f)
variable {st:Stmt} {sts:List Stmt} {ro:Bool} {mb:List Md} {s1:FS} {f1 f2:FS2} {tg iter:Expr} {pos:Pos}
noncomputable def zf9 (ft:FT) (body:FS2):List D->FS2
 | [],r,w=>some (r,w)
 | d::ds,r,w=>(ft d r).bind fun r1=>(body r1 w).bind fun p=>zf9 ft body ds p.1 p.2
noncomputable def zhz (fi:FI) (ft:FT) (body:FS2):FS2:=fun r w=>match fi r with
 | .ok ds=>zf9 ft body ds r w
 | _=>none
theorem zqw (hp:PassesOwn (model X.prog X.w) X.A X.env X.xe) (hc:X.calm=true) {ft:FT} {fi:FI} (hi:∀g',SIt X g' m tg iter fi) (hg:∀g',SG X g' m tg ft m) (hb:SSs2 X g i m sts f1 m) (hm:m[i]? = some .bw)
  (hs:∀x,foldedSetIterable iter X.env x=pure x:=by intro _; rfl):SS2 X g i m (.For tg iter sts [] pos) (zhz fi ft f1) m:=by
 have hiA:PI X tg iter (fun σ H R=>∃g',tI X g' m fi σ H R):=fun pins s σ H R I ⟨g',q⟩=>hi g' pins s σ H R I q
 have hgA:PG X tg (fun v σ H Q=>∃g',tG X g' m m ft v σ H Q):=fun pins s σ H v u Q I r ⟨g',q⟩=>(hg g').2 pins s σ H v u Q I r q
 refine PS.imp (zht hp hc hiA hgA hb hs) fun D σ H ⟨r,w,G,⟨p,as,R,h0,si,_⟩,r',w',e,k⟩=>⟨_,r,G,si,?_⟩
 unfold zhz at e
 cases q:fi r with
 | exc x=>rw [q] at e; cases e
 | stuck=>rw [q] at e; cases e
 | ok ds=>
  rw [q] at e
  intro J G0 H0 w0 Y
  refine ⟨fun j n σ1 H1=>∃r1 w1 G1,SI2 X g i m r1 w1 G1 σ1 H1/\Gle G0 G1/\j<=ds.length/\n=ds.length - j/\zf9 ft f1 (ds.drop j) r1 w1=some (r',w'),⟨ds.length,r,w,G0,zeS R h0 si w0.ge (si.grow w0) hm,Gle.refl _,Nat.zero_le _,rfl,e⟩,?_⟩
  rintro j n σ1 H1 ⟨r1,w1,G1,S1,le1,hj,rfl,e1⟩
  have S1':=S1
  obtain ⟨p1,as1,R1,h01,si1,_⟩:=S1'
  by_cases hlt:j < ds.length
  ·have hd:ds.drop j=ds[j]::ds.drop (j + 1):=List.drop_eq_getElem_cons hlt
   rw [hd] at e1
   unfold zf9 at e1
   refine .inr ⟨Y.go G1 H1 j le1 si1.gok hlt,fun σ' H'=>∃r2 w2 G2,SI2 X g i m r2 w2 G2 σ' H'/\Gle G0 G2/\zf9 ft f1 (ds.drop (j + 1)) r2 w2=some (r',w'),fun σ' H' ⟨r2,w2,G2,S2,le2,q2⟩=>⟨ds.length - (j + 1),by omega,r2,w2,G2,S2,le2,hlt,rfl,q2⟩,fun x H' y=>?_⟩
   obtain ⟨G',wg,rv⟩:=Y.yld G1 H1 j x H' ds[j] le1 si1.gok y (List.getElem?_eq_getElem hlt)
   cases eft:ft ds[j] r1 with
   | none=>rw [eft] at e1; cases e1
   | some r2=>
    rw [eft] at e1
    simp only [Option.bind_some] at e1
    cases eb:f1 r2 w1 with
    | none=>rw [eb] at e1; cases e1
    | some z=>
     rw [eb] at e1
     refine ⟨_,r1,G',ds[j],si1.grow wg,rv,r2,eft,fun σ2 si2=>⟨r2,w1,G',zeS R1 h01 si1 wg.ge si2 hm,z.1,z.2,eb,fun σ3 G3 H3 le3 S3=>⟨z.1,z.2,G3,S3,(le1.trans wg.ge).trans le3,e1⟩⟩⟩
  ·have ej:j=ds.length:=by omega
   subst ej
   rw [List.drop_length] at e1
   cases e1
   exact .inl ⟨Y.stop G1 H1 le1 si1.gok,k σ1 G1 H1 (Gle.trans w0.ge le1) S1⟩
theorem zlu {K:W.Frag} {H:Hp}:∀{as:List Addr} {w:List (List D)} {G:GH},GOk K G H->Paired (RowR K G H) as w->as.Nodup->(∀b∈as,G b=none)->∃G',Gle G G'/\(∀b,b∉as->G' b=G b)/\GOk K G' H/\Paired (fun b ds=>G' b=some (.lst ds)) as w:=by
 intro as
 induction as with
 | nil=>
  intro w G gk h _ _
  cases h
  exact ⟨G,Gle.refl G,fun _ _=>rfl,gk,.nil⟩
 | cons b as ih=>
  intro w G gk h nd un
  cases h with
  | @cons _ ds _ w r t=>
   rw [List.nodup_cons] at nd
   have hb:=un b List.mem_cons_self
   obtain ⟨xs,e,rs⟩:=r
   have g1:GOk K (gset G b (.lst ds)) H:=gk.gset hb (.lst (.inl e) rs)
   obtain ⟨G',l,o,g,q⟩:=ih g1 (zgI t fun c hc ds r=>r.mono (zaX hb) rfl) nd.2 fun c hc=>by
    rw [zaM (by rintro rfl; exact nd.1 hc)]; exact un c (List.mem_cons_of_mem _ hc)
   refine ⟨G',Gle.trans (zaX hb) l,fun c hc=>?_,g,.cons (l _ _ zap) q⟩
   rw [o c fun z=>hc (List.mem_cons_of_mem _ z),zaM (by rintro rfl; exact hc List.mem_cons_self)]
theorem zhu {G:GH} {as:List Addr} {w:List (List D)} {b:Addr} (hb:b∈as) (q:Paired (fun b ds=>G b=some (.lst ds)) as w):∃ds,G b=some (.lst ds):=by
 induction q with
 | nil=>cases hb
 | cons h _ ih=>
  rcases List.mem_cons.mp hb with rfl | hb
  ·exact ⟨_,h⟩
  ·exact ih hb
theorem zgS {fp:List Addr} {p:Addr} {d0:D} (si:SI X (zcr g H fp i p) m r G σ H) (hm:m[i]? = some .bw) (h0:∀b∈fp,g.h0 b=none) (hS:∀b∈fp,H b≠none) (hb:∀j,j≠i->m[j]?≠some .bw) (le:Gle G G') (g2:GOk X.K G' H) (out:∀b,b∉fp->G' b=G b) (hd:G' p=some d0) :
  SI X g (m.set i .sh) (r.set i (some d0)) G' σ H:=by
 have hlt:i < m.length:=(List.getElem?_eq_some_iff.mp hm).1
 have hst:σ[i]? = some (some (V.ref p)):=(si.lk i (some (V.ref p),none) (by show (if i=i then _ else _)=_; rw [if_pos rfl]) hm).1
 have h0':∀b,b∉fp->(zcr g H (fp) i p).h0 b=g.h0 b:=fun b hb=>by show (if b∈fp then H b else g.h0 b)=_; rw [if_neg hb]
 have h0i:∀b,b∈fp->(zcr g H (fp) i p).h0 b≠none:=fun b hb=>by show (if b∈fp then H b else g.h0 b)≠_; rw [if_pos hb]; exact hS b hb
 have nin:∀b,g.h0 b≠none->b∉fp:=fun b h z=>h (h0 b z)
 have mne:∀{j x},i≠j->(m.set i .sh)[j]? = some x->m[j]? = some x:=fun hij h=>by rw [List.getElem?_set_ne hij] at h; exact h
 refine ⟨g2,fun a o e=>?_,fun a d e=>le a d (si.ge a d e),fun a h=>?_,by simpa using si.lm,by simpa using si.lr,fun j d h1 h2=>?_,fun j d h1 h2=>?_,fun j d h1 h2=>?_,fun j k a d e hjk h1 h2 m1 m2 z1 z2=>?_,fun j o hj hm'=>?_⟩
 ·exact si.old a o (by rw [h0' a (nin a (by rw [e]; simp))]; exact e)
 ·have hn:=nin a h
  rw [out a hn]
  exact si.gf a (by rw [h0' a hn]; exact h)
 ·by_cases hij:i=j
  ·subst hij
   rw [List.getElem?_set_self (by rw [si.lr,<-si.lm]; exact hlt)] at h1
   cases h1
   exact ⟨_,hst,.ref hd⟩
  ·rw [List.getElem?_set_ne hij] at h1
   obtain ⟨v,y1,y2⟩:=si.sh j d h1 (mne hij h2)
   exact ⟨v,y1,y2.mono le⟩
 ·by_cases hij:i=j
  ·subst hij; rw [List.getElem?_set_self hlt] at h2; cases h2
  ·rw [List.getElem?_set_ne hij] at h1
   obtain ⟨a,y1,y2,y3⟩:=si.ow j d h1 (mne hij h2)
   have hn:a∉fp:=fun z=>h0i a z y3
   exact ⟨a,y1,⟨by rw [out a hn]; exact y2.un,y2.ob.mono le fun _ z=>z⟩,by rw [<-h0' a hn]; exact y3⟩
 ·by_cases hij:i=j
  ·subst hij; rw [List.getElem?_set_self hlt] at h2; cases h2
  ·exact absurd (mne hij h2) (hb j (Ne.symm hij))
 ·have hij:i≠j:=by rintro rfl; rw [List.getElem?_set_self hlt] at m1; cases m1
  have hik:i≠k:=by rintro rfl; rw [List.getElem?_set_self hlt] at m2; cases m2
  rw [List.getElem?_set_ne hij] at h1
  rw [List.getElem?_set_ne hik] at h2
  exact si.dis j k a d e hjk h1 h2 (mne hij m1) (mne hik m2) z1 z2
 ·by_cases hij:i=j
  ·subst hij; rw [List.getElem?_set_self hlt] at hm'; cases hm'
  ·exact absurd (mne hij hm') (hb j (Ne.symm hij))
theorem SI2.frz (s:SI2 X g i m r w G σ H) (hb:∀j,j≠i->m[j]?≠some .bw):∃G',Gle G G'/\(∀b d,G b=none->G' b=some d->∃ds,d=.lst ds)/\SI X g (m.set i .sh) (r.set i (some (.lst (w.map D.lst)))) G' σ H:=by
 obtain ⟨p,as,R,h0,si,hm⟩:=s
 have nd:=List.nodup_cons.mp R.nd
 obtain ⟨G1,l1,o1,g1,q1⟩:=zlu si.gok R.rw nd.2 fun b hb=>R.un b (List.mem_cons_of_mem _ hb)
 have hp1:G1 p=none:=by rw [o1 p nd.1]; exact R.un p List.mem_cons_self
 have rs:RGs X.K G1 (as.map V.ref) (w.map D.lst):=by
  have:∀{as:List Addr} {w:List (List D)},Paired (fun b ds=>G1 b=some (.lst ds)) as w->RGs X.K G1 (as.map V.ref) (w.map D.lst):=fun {as w} q=>by
   induction q with
   | nil=>exact .nil
   | cons h _ ih=>exact .cons (.ref h) ih
  exact this q1
 have g2:GOk X.K (gset G1 p (.lst (w.map D.lst))) H:=g1.gset hp1 (.lst (.inl R.out) rs)
 have le:Gle G (gset G1 p (.lst (w.map D.lst))):=Gle.trans l1 (zaX hp1)
 have out:∀b,b∉p::as->gset G1 p (.lst (w.map D.lst)) b=G b:=fun b hb=>by
  rw [zaM (by rintro rfl; exact hb List.mem_cons_self),o1 b fun z=>hb (List.mem_cons_of_mem _ z)]
 refine ⟨_,le,fun b d hn e=>?_,zgS si hm h0 (fun b hb=>R.isS hb) hb le g2 out zap⟩
 by_cases hbp:b=p
 ·subst hbp; rw [zap] at e; cases e; exact ⟨_,rfl⟩
 ·rw [zaM hbp] at e
  by_cases hba:b∈as
  ·obtain ⟨ds,e1⟩:=zhu hba q1
   rw [e1] at e; cases e; exact ⟨_,rfl⟩
  ·rw [o1 b hba,hn] at e; cases e
theorem SI.hold (s:SI X g m r G σ H) (wg:Grow X.K G H G' H') (hlt:i < m.length) {p:Addr} {fp:List Addr} (un:∀b∈fp,G' b=none) (hS:∀b∈fp,H' b≠none) (hn:∀b∈fp,H b=none):SI X (zcr g H' fp i p) (m.set i .bw) (r.set i none) G' (σ.set i (some (V.ref p))) H':=by
 have s':=s.grow wg
 have h0':∀b,b∉fp->(zcr g H' (fp) i p).h0 b=g.h0 b:=fun b hb=>by show (if b∈fp then H' b else g.h0 b)=_; rw [if_neg hb]
 have h0i:∀b,b∈fp->(zcr g H' (fp) i p).h0 b=H' b:=fun b hb=>by show (if b∈fp then H' b else g.h0 b)=_; rw [if_pos hb]
 have mne:∀{j x},i≠j->(m.set i .bw)[j]? = some x->m[j]? = some x:=fun hij h=>by rw [List.getElem?_set_ne hij] at h; exact h
 have rne:∀{j d},(r.set i none)[j]? = some (some d)->i≠j/\r[j]? = some (some d):=fun {j d} h=>by
  by_cases hij:i=j
  ·subst hij
   rw [List.getElem?_set_self (by rw [s.lr,<-s.lm]; exact hlt)] at h; cases h
  ·rw [List.getElem?_set_ne hij] at h; exact ⟨hij,h⟩
 refine ⟨wg.ok,fun a o e=>?_,s'.ge,fun a h=>?_,by simpa using s.lm,by simpa using s.lr,fun j d h1 h2=>?_,fun j d h1 h2=>?_,fun j d h1 h2=>?_,fun j k a d e hjk h1 h2 m1 m2 z1 z2=>?_,fun j o hj hm'=>?_⟩
 ·by_cases ha:a∈fp
  ·rw [h0i a ha] at e; exact e
  ·rw [h0' a ha] at e; exact s'.old a o e
 ·by_cases ha:a∈fp
  ·rw [un a ha]
   show none=g.gh a
   cases e:g.gh a with
   | none=>rfl
   | some d=>exact absurd (hn a ha) (s.gok a d (s.ge a d e)).isS
  ·rw [h0' a ha] at h; exact s'.gf a h
 ·obtain ⟨hij,h1⟩:=rne h1
  rw [List.getElem?_set_ne hij]
  exact s'.sh j d h1 (mne hij h2)
 ·obtain ⟨hij,h1⟩:=rne h1
  rw [List.getElem?_set_ne hij]
  obtain ⟨a,y1,y2,y3⟩:=s.ow j d h1 (mne hij h2)
  have ha:a∉fp:=fun z=>y2.ob.isS (hn a z)
  exact ⟨a,y1,y2.mono wg,by rw [h0' a ha]; exact y3⟩
 ·obtain ⟨hij,h1⟩:=rne h1
  rw [List.getElem?_set_ne hij]
  obtain ⟨v,y1,y2⟩:=s'.bw j d h1 (mne hij h2)
  refine ⟨v,y1,?_⟩
  rcases y2 with y2 | ⟨a,ea,y2,y3⟩
  ·exact .inl y2
  ·refine .inr ⟨a,ea,y2,?_⟩
   by_cases ha:a∈fp
   ·rw [h0i a ha]; exact hS a ha
   ·rw [h0' a ha]; exact y3
 ·obtain ⟨hij,h1⟩:=rne h1
  obtain ⟨hik,h2⟩:=rne h2
  rw [List.getElem?_set_ne hij] at z1
  rw [List.getElem?_set_ne hik] at z2
  exact s.dis j k a d e hjk h1 h2 (mne hij m1) (mne hik m2) z1 z2
 ·by_cases hij:i=j
  ·subst hij
   have hj':(if i=i then some (some (V.ref p),none) else g.hd i)=some o:=hj
   rw [if_pos rfl] at hj'
   cases hj'
   exact ⟨by rw [List.getElem?_set_self (by rw [<-s.lm]; exact hlt)],fun d h=>absurd rfl (rne h).1⟩
  ·have hj':(if j=i then some (some (V.ref p),none) else g.hd j)=some o:=hj
   rw [if_neg (Ne.symm hij)] at hj'
   have:=s.lk j o hj' (mne hij hm')
   exact ⟨by rw [List.getElem?_set_ne hij]; exact this.1,fun d h=>this.2 d (by rw [List.getElem?_set_ne hij] at h; exact h)⟩
theorem SI.new2 (s:SI X g m r G σ H) (wg:Grow X.K G H G' H') (hlt:i < m.length) {p:Addr} {as:List Addr} (R:LRw X.K G' H' p as w) (hn:∀b∈p::as,H b=none):SI2 X g i (m.set i .bw) (r.set i none) w G' (σ.set i (some (V.ref p))) H':=
 ⟨p,as,R,fun b hb=>s.new (hn b hb),s.hold wg hlt R.un (fun b hb=>R.isS hb) hn,by rw [List.getElem?_set_self hlt]⟩
noncomputable def SSM (X:Cx) (g:GE) (ro:Bool) (mb:List Md) (i:Nat) (m:List Md) (sts:List Stmt) (F:Rho->List (List D)->Out) (m':List Md):Prop:=
 m'.length=m.length/\PSs X sts (fun D σ H=>∃r w G,SI2 X g i m r w G σ H/\oTo X g ro m' mb G D (F r w))
noncomputable def zr1 (i:Nat) (s:FS):Rho->List (List D)->Out:=fun r w=>s (r.set i (some (.lst (w.map D.lst))))
theorem zos (h:SSs X g ro mb (m.set i .sh) sts s1 m') (hb:∀j,j≠i->m[j]?≠some .bw):SSM X g ro mb i m sts (zr1 i s1) m':=
 ⟨by simpa using h.1,PSs.imp h.2 fun D σ H ⟨r,w,G,s,q⟩=>by
  obtain ⟨G',le,_,si⟩:=s.frz hb
  exact ⟨_,G',si,oTo.gle q le⟩⟩
noncomputable def zl1 (f1:FS2) (F:Rho->List (List D)->Out):Rho->List (List D)->Out:=fun r w=>match f1 r w with
 | some p=>F p.1 p.2
 | none=>.stuck
theorem zml {F:Rho->List (List D)->Out} (hl:m1.length=m.length) (h1:SS2 X g i m st f1 m1) (h2:SSM X g ro mb i m1 sts F m'):SSM X g ro mb i m (st::sts) (zl1 f1 F) m':=by
 refine ⟨h2.1.trans hl,PSs.imp (zez h1 h2.2) fun D σ H ⟨r,w,G,si,q⟩=>⟨r,w,G,si,?_⟩⟩
 unfold zl1 at q
 cases e:f1 r w with
 | none=>rw [e] at q; exact q.elim
 | some z=>
  rw [e] at q
  exact ⟨z.1,z.2,rfl,fun σ' G' H' le si'=>⟨z.1,z.2,G',si',oTo.gle q le⟩⟩
noncomputable def tNew (X:Cx) (g:GE) (i:Nat) (m m1:List Md) (f:Rho->Option (Rho × List (List D))):TS:=fun D σ H=>∃r G,SI X g m r G σ H/\∃r' w',f r=some (r',w')/\∀σ' G' H',Gle G G'->SI2 X g i m1 r' w' G' σ' H'->D.nx σ' H'
noncomputable def zkU (f:Rho->Option (Rho × List (List D))) (F:Rho->List (List D)->Out):FS:=fun r=>match f r with
 | some p=>F p.1 p.2
 | none=>.stuck
theorem zqd {F:Rho->List (List D)->Out} {f:Rho->Option (Rho × List (List D))} (hl:m1.length=m.length) (h1:PS X st (tNew X g i m m1 f)) (h2:SSM X g ro mb i m1 sts F m'):SSs X g ro mb m (st::sts) (zkU f F) m':=by
 refine ⟨h2.1.trans hl,PSs.imp (zez h1 h2.2) fun D σ H ⟨r,G,si,q⟩=>⟨r,G,si,?_⟩⟩
 unfold zkU at q
 cases e:f r with
 | none=>rw [e] at q; exact q.elim
 | some z=>
  rw [e] at q
  exact ⟨z.1,z.2,rfl,fun σ' G' H' le si'=>⟨z.1,z.2,G',si',oTo.gle q le⟩⟩
end
noncomputable def RO (K:W.Frag) (H2:Hp) (p:Addr) (G:GH) (H:Hp) (ws:List V) (ds:List D):Prop:=Paired (fun v d=>∃b,v=V.ref b/\H2 b=none/\b≠p/\Own K G H b d) ws ds/\ws.Nodup
section
variable {K:W.Frag} {H2:Hp} {p:Addr} {G G':GH} {H H':Hp} {ws:List V} {ds:List D}
theorem RO.grow (h:RO K H2 p G H ws ds) (w:Grow K G H G' H'):RO K H2 p G' H' ws ds:=
 ⟨Paired.mono (fun v d ⟨b,e,h1,h2,h3⟩=>⟨b,e,h1,h2,h3.mono w⟩) h.1,h.2⟩
theorem RO.upd {o:HO} (h:RO K H2 p G H ws ds):RO K H2 p G (L2.upd H p o) ws ds:=
 ⟨Paired.mono (fun v d ⟨b,e,h1,h2,h3⟩=>⟨b,e,h1,h2,h3.un,h3.ob.mono (fun _ _ z=>z) fun _ z=>by rw [zao h2]; exact z⟩) h.1,h.2⟩
theorem RO.add (h:RO K H2 p G H ws ds) {a:Addr} {d:D} (w:Grow K G H G' H') (hn:H a=none) (h2:H2 a=none) (hp:a≠p) (ho:Own K G' H' a d):RO K H2 p G' H' (ws++[V.ref a]) (ds++[d]):=by
 refine ⟨Paired.snoc (h.grow w).1 ⟨a,rfl,h2,hp,ho⟩,?_⟩
 rw [List.nodup_append]
 refine ⟨h.2,by simp,?_⟩
 intro x hx y hy e
 rw [List.mem_singleton] at hy
 subst hy
 subst e
 have:∀{ws:List V} {ds:List D},Paired (fun v d=>∃b,v=V.ref b/\H2 b=none/\b≠p/\Own K G H b d) ws ds->V.ref a∈ws->False:=fun {ws ds} q hx=>by
  induction q with
  | nil=>cases hx
  | cons r _ ih=>
   rcases List.mem_cons.mp hx with e | hx
   ·obtain ⟨b,e1,_,_,h3⟩:=r
    rw [<-e] at e1
    cases e1
    exact h3.ob.isS hn
   ·exact ih hx
 exact this h.1 hx
end
section
variable {X:Cx} {pins:List (Addr × Obj)} {σ:L2.St} {H2:Hp} {s2:Shared} {scope:Scope} {N':List Str} {nl:Nat} {cap:List Nat} {cl:List (Str × Addr)} {fp:List Addr} {g:GE} {G2:GH} {m:List Md} {r:Rho} {elt tg iter:Expr} {ifs:List Expr} {pos:Pos}
theorem zjP (hN:X.N.Nodup) (hcalm:X.calm=true) (sc:CompSc X scope N' nl cap) (h1:∀x c,cl.lookup x=some c->X.env.cells.lookup x=some c) (h2:∀x,(x,NameKind.free)∈scope.names->∃c,cl.lookup x=some c)
  (I2:Inv X pins σ H2 s2) (si:SI X g m r G2 σ H2) (T:Turn X.prog X.w X.K tg J fp it tn) (st:tn 0 s2.heap) (hf:∀b∈fp,FpOk X pins H2 b) (Y:YieldsC X.K J ds G2 H2) (hsz:ds.length<=sizeLine)
  (hg:∀C,SG (cxC X s2 H2 N' scope cl C fp) ⟨G2,H2,fun _=>none⟩ (capM nl cap m) tg ft (capM nl cap m)) (hft:FtOk ft nl) (hq:∀C,SQs (cxC X s2 H2 N' scope cl C fp) ⟨G2,H2,fun _=>none⟩ (capM nl cap m) ifs q) (he:∀C,SO (cxC X s2 H2 N' scope cl C fp) ⟨G2,H2,fun _=>none⟩ (capM nl cap m) elt fe)
  (hres:zcv ft q fe (capR nl cap r) ds=.ok vs) {RR:Value->Addr->Result->Shared->Prop}
  (hRR:∀(p C:Addr) (s':Shared) (H':Hp) (G':GH),Inv X pins σ H' s'->(∃mm,s'.heap.Ns C mm)->H' C=none->C≠X.env.locals->X.s₀.heap.objs.size<=C->(∀x c,X.env.cells.lookup x=some c->c≠C)->(∀z∈X.pn++pins,z.1≠C) ->
   Grow X.K G2 H2 G' H'->H2 p=none->(∃ws,H' p=some (.lst ws)/\G' p=none/\RO X.K H2 p G' H' ws vs)->RR (.ref p) C (.ok .next) s') :
  wpAny (model X.prog X.w) X.A (newList []) (fun acc s3=>wpAny (model X.prog X.w) X.A (newFunctionEnv scope X.env.globals cl [] X.env.qual none .none (some X.env)) (fun cenv s4=>
   codeAny (model X.prog X.w) X.A (.compStart (.ListComp elt [⟨tg,iter,ifs,0⟩] scope pos) 0 (.ref it) acc { cenv with scope:=relabel scope X.env }) (RR acc cenv.locals) s4) E s3) E s2:=by
 refine wpAny_newObj_type (wpAny_newFunctionEnv sc.nocell (by intro y hy; simp at hy) (fun h₁ hns₁ hsb₁=>?_) sc.kind)
 dsimp only at hns₁ hsb₁ ⊢
 generalize hH2:s2.heap.push { cls:=.type "list",dict:=none,data:=.seq ([]:List Value).toArray }=HH at hns₁ hsb₁ ⊢
 have hC:HH.objs.size=s2.heap.objs.size + 1:=by rw [<-hH2,Heap.size_push]
 have hDC:s2.heap.objs.size≠HH.objs.size:=by rw [hC]; exact Nat.ne_of_lt (Nat.lt_succ_self _)
 have hCle:s2.heap.objs.size<=HH.objs.size:=by rw [hC]; exact Nat.le_succ _
 have below:∀b,b < s2.heap.objs.size->b≠HH.objs.size/\b≠s2.heap.objs.size:=fun b hb=>⟨by rw [hC]; exact Nat.ne_of_lt (Nat.lt_succ_of_lt hb),Nat.ne_of_lt hb⟩
 have old:∀b o,s2.heap.get? b=some o->h₁.get? b=some o:=fun b o e=>hsb₁.extBut b o (below b (Heap.lt_size e)).1 (Heap.get?_push_of_some _ (hH2 ▸ Heap.get?_push_of_some _ e))
 have hacc:h₁.get? s2.heap.objs.size=some { cls:=.type "list",dict:=none,data:=.seq ([]:List Value).toArray }:=hsb₁.extBut _ _ hDC (Heap.get?_push_of_some _ (hH2 ▸ Heap.get?_push_size _ rfl))
 have hp2:H2 s2.heap.objs.size=none:=I2.hok.fresh (Nat.le_refl _)
 have hflt:∀b∈fp,FpOk X pins H2 b/\b < s2.heap.objs.size:=fun b hb=>⟨hf b hb,by
  obtain ⟨o,e,_⟩:=T.obj 0 s2.heap st b hb
  exact Heap.lt_size e⟩
 have ok:=zoh (fp:=fp) I2 sc h1 h2 hflt hCle
 generalize hXX:cxC X s2 H2 N' scope cl HH.objs.size fp=XX at ok
 have hG2p:G2 s2.heap.objs.size=none:=si.gok.isN hp2
 have w0:Grow X.K G2 H2 G2 (upd H2 s2.heap.objs.size (.lst [])):=Grow.new si.gok hp2 _
 have hok4:HOk X.prog X.w (upd H2 s2.heap.objs.size (.lst [])) h₁:=I2.hok.laid old (Nat.le_refl _) ⟨Nat.zero_le _,[],0,.nil,hacc⟩
 have IC:Inv XX [] (capS nl cap σ) (upd H2 s2.heap.objs.size (.lst [])) { s2 with heap:=h₁,toks:=s2.toks + ([]:List (Str × Value)).length }:=by
  subst hXX
  refine zol I2 ok sc h1 h2 hN rfl I2.bare old hns₁ hCle ?_ (fun b hb hlt=>?_) (Un.laid old (Nat.le_refl _) hp2) hok4
  ·rw [zao (Ne.symm hDC)]; exact I2.hok.fresh hCle
  ·rw [zao (below b hlt).2]; exact hb
 have SC:SI XX ⟨G2,H2,fun _=>none⟩ (capM nl cap m) (capR nl cap r) G2 (capS nl cap σ) (upd H2 s2.heap.objs.size (.lst [])):=by
  subst hXX
  exact zr6 si w0
 have hst₁:tn 0 h₁:=T.keep _ _ _ st fun b _ o e=>old b o e
 have hfX:∀(H':Hp),(∀b∈fp,H' b=none)->∀b∈fp,FpOk XX [] H' b:=fun H' hn b hb=>by
  obtain ⟨z0,z1,z2,z3,z4,z5⟩:=hf b hb
  refine ⟨hn b hb,?_,?_,?_,?_,?_⟩
  ·subst hXX; exact (below b (hflt b hb).2).1
  ·subst hXX
   intro hfs
   rcases List.mem_cons.mp (I2.stkSub b hfs) with z | z
   ·exact z1 z
   ·exact z2 z
  ·subst hXX; exact .inl hb
  ·subst hXX; exact fun x c e=>z4 x c (h1 x c e)
  ·subst hXX; intro p hp; exact absurd (show p∈([]:List (Addr × Obj)) from hp) (by simp)
 have eA:XX.A=X.A:=by subst hXX; rfl
 have eP:XX.prog=X.prog:=by subst hXX; rfl
 have eW:XX.w=X.w:=by subst hXX; rfl
 have eK:XX.K=X.K:=by subst hXX; rfl
 have eX:XX.xe=fun _ _=>False:=by subst hXX; rfl
 have eE:XX.env=compEnvC scope cl HH.objs.size X.env:=by subst hXX; rfl
 have eC:XX.calm=true:=by subst hXX; exact hcalm
 have eH:XX.H₀ = H2:=by subst hXX; rfl
 have hg':PG XX tg (tG XX ⟨G2,H2,fun _=>none⟩ (capM nl cap m) (capM nl cap m) ft):=by subst hXX; exact (hg _).2
 have hq':SQs XX ⟨G2,H2,fun _=>none⟩ (capM nl cap m) ifs q:=by subst hXX; exact hq _
 have he':SO XX ⟨G2,H2,fun _=>none⟩ (capM nl cap m) elt fe:=by subst hXX; exact he _
 have fin':∀{H':Hp} {s':Shared} {σ':L2.St} {G':GH} {ws:List V},Inv XX [] σ' H' s'->Grow X.K G2 H2 G' H'->H' s2.heap.objs.size=some (.lst ws)->G' s2.heap.objs.size=none->RO X.K H2 s2.heap.objs.size G' H' ws vs->RR (.ref s2.heap.objs.size) HH.objs.size (.ok .next) s':=fun {H' s' σ' G' ws} J1 wg hpp hgp rs=>by
  subst hXX
  have un:=J1.base
  refine hRR _ _ s' H' G' ?_ (let ⟨mm,hn,_⟩:=J1.loc; ⟨mm,hn⟩) J1.free (Nat.ne_of_gt (Nat.lt_of_lt_of_le I2.lt hCle)) (Nat.le_trans I2.sz hCle) (fun x c e z=>?_) (fun z hz e=>?_) wg hp2 ⟨_,hpp,hgp,rs⟩
  ·refine I2.call' J1.os un J1.hok J1.bare fun b hb=>?_
   obtain ⟨z0,z1,z2,z3,z4,z5⟩:=hf b hb
   exact ⟨z3,z1,z4,z5⟩
  ·obtain ⟨v,o,ho,_⟩:=I2.cell x c e
   exact absurd (Nat.lt_of_lt_of_le (Heap.lt_size ho) hCle) (by rw [z]; exact Nat.lt_irrefl _)
  ·have:=(I2.pin z hz).1
   exact absurd (Nat.lt_of_lt_of_le (Heap.lt_size this) hCle) (by rw [e]; exact Nat.lt_irrefl _)
 have loop:codeAny (model X.prog X.w) X.A (.compLoop (.ListComp elt [⟨tg,iter,ifs,0⟩] scope pos) 0 (.ref it) (.ref s2.heap.objs.size) (compEnvC scope cl HH.objs.size X.env)) (RR (.ref s2.heap.objs.size) HH.objs.size)
   { s2 with heap:=h₁,toks:=s2.toks + ([]:List (Str × Value)).length }:=by
  refine zlQ (fun n s'=>∃(i:Nat) (σ':L2.St) (H':Hp) (G':GH) (ws:List V) (done rest:List D),Inv XX [] σ' H' s'/\SI XX ⟨G2,H2,fun _=>none⟩ (capM nl cap m) (capR nl cap r) G' σ' H'/\tn i s'.heap/\(∀b∈fp,H' b=none)/\Grow X.K G2 H2 G' H' /\
    H' s2.heap.objs.size=some (.lst ws)/\G' s2.heap.objs.size=none/\RO X.K H2 s2.heap.objs.size G' H' ws done/\zcv ft q fe (capR nl cap r) (ds.drop i)=.ok rest/\vs=done++rest/\done.length<=i/\i<=ds.length/\n=ds.length - i) ?_ ds.length
   ⟨0,_,_,G2,[],[],vs,IC,SC,hst₁,fun b hb=>?_,w0,zan,hG2p,⟨.nil,List.nodup_nil⟩,hres,rfl,Nat.le_refl _,Nat.zero_le _,rfl⟩
  rotate_left
  ·rw [zao (below b (hflt b hb).2).2]; exact (hf b hb).1
  rintro n s3 ⟨i,σ3,H3,G3,ws,done,rest,I3,S3,st3,fr3,w3,hp3,hg3,rs3,hr3,hv3,hd3,hi3,rfl⟩
  have weaken:∀{α:Type} {t:Sem α} {Q:α->Shared->Prop} {s':Shared} {E':Value->Shared->Prop},wpAny (model XX.prog XX.w) XX.A t Q XX.xe s'->wpAny (model X.prog X.w) X.A t Q E' s':=fun h=>by
   rw [eP,eW,eA,eX] at h
   exact wpAny_mono h (fun _ _ z=>z) fun _ _ z=>z.elim
  by_cases hlt:i < ds.length
  ·have hd:ds.drop i=ds[i]::ds.drop (i + 1):=List.drop_eq_getElem_cons hlt
   rw [hd] at hr3
   unfold zcv at hr3
   have it3:=T.item XX eP eW eK eC i [] s3 σ3 H3 (notedBy (model X.prog X.w) X.A (compEnvC scope cl HH.objs.size X.env) fun e s'=>RR (.ref s2.heap.objs.size) HH.objs.size (.error e) s') I3 (hfX H3 fr3) st3 (Y.go G3 H3 i w3 hlt)
   rw [eA] at it3
   refine thn it3 fun rr s4 ⟨u,hr,h4⟩=>?_
   subst hr
   refine thn h4 fun _ s5 ⟨x,H5,I5,r5,y5,st5,fr5⟩=>?_
   obtain ⟨G5,w5,rv5⟩:=Y.yld G3 H3 i x H5 ds[i] w3 y5 (List.getElem?_eq_getElem hlt)
   have w25:=w3.trans w5
   cases eft:ft ds[i] (capR nl cap r) with
   | none=>rw [eft] at hr3; cases hr3
   | some r1=>
    rw [eft] at hr3
    simp only [opt_some,bind_ok] at hr3
    have I5':=I5.pinned (hfX H5 fr5) (T.obj _ _ st5)
    have S5:SI XX ⟨G2,H2,fun _=>none⟩ (capM nl cap m) (capR nl cap r) G5 σ3 H5:=S3.grow (by rw [eK]; exact w5)
    have rv5':RG XX.K G5 x ds[i]:=by rw [eK]; exact rv5
    have as5:=hg' _ s5 σ3 H5 x u (fun σ6 H6=>H6=H5/\SI XX ⟨G2,H2,fun _=>none⟩ (capM nl cap m) r1 G5 σ6 H5) I5' r5 ⟨capR nl cap r,G5,ds[i],S5,rv5',r1,eft,fun σ6 si6=>⟨rfl,si6⟩⟩
    rw [eE] at as5
    refine thn (weaken as5) fun _ s6 ⟨σ6,H6,I6,e6,S6⟩=>?_
    subst e6
    obtain ⟨fl1,fl2⟩:=hft _ _ _ eft
    cases eq1:q r1 with
    | stuck=>rw [eq1] at hr3; cases hr3
    | exc xx=>rw [eq1] at hr3; cases hr3
    | ok b1=>
     rw [eq1] at hr3
     simp only [bind_ok] at hr3
     have te6:=hq' _ s6 σ6 H6 (fun b H7=>b=b1/\∃G7,Grow X.K G5 H6 G7 H7) I6 ⟨r1,G5,S6,by rw [eq1]; exact fun G7 H7 w7=>⟨rfl,G7,by rw [eK] at w7; exact w7⟩⟩
     rw [eE] at te6
     refine thn (weaken te6) fun b s7 ⟨H7,I7,eb,G7,w7⟩=>?_
     subst eb
     have S7:SI XX ⟨G2,H2,fun _=>none⟩ (capM nl cap m) r1 G7 σ6 H7:=S6.grow (by rw [eK]; exact w7)
     have w27:=w25.trans w7
     have hp7:H7 s2.heap.objs.size=some (.lst ws):=w7.he _ _ (w5.he _ _ hp3)
     have hg7:G7 s2.heap.objs.size=none:=by
      rw [w7.gf _ (by rw [w5.he _ _ hp3]; simp),w5.gf _ (by rw [hp3]; simp)]; exact hg3
     have back:∀{σ8:L2.St} {H8:Hp} {G8:GH} {s8:Shared},Inv XX ([]++zgi fp s5.heap) σ8 H8 s8->Inv XX [] σ8 H8 s8/\tn (i + 1) s8.heap/\∀b∈fp,H8 b=none:=fun {σ8 H8 G8 s8} I8=>by
      refine ⟨I8.unpinned,T.keep _ _ _ st5 fun b hb o e=>(I8.pin (b,o) (List.mem_append_right _ (List.mem_append_right _ (zcj hb e)))).1,fun b hb=>?_⟩
      obtain ⟨o,e,_⟩:=T.obj _ _ st5 b hb
      exact (I8.pin (b,o) (List.mem_append_right _ (List.mem_append_right _ (zcj hb e)))).2.1
     have less:∀{σ8:L2.St} {H8:Hp} {G8:GH},SI XX ⟨G2,H2,fun _=>none⟩ (capM nl cap m) r1 G8 σ8 H8->SI XX ⟨G2,H2,fun _=>none⟩ (capM nl cap m) (capR nl cap r) G8 σ8 H8:=fun h=>h.less fl1.symm fun j d hj=>by
      by_cases hjn:j < nl
      ·exact absurd hj (zhL hjn d)
      ·rw [fl2 j (by omega)]; exact hj
     cases b with
     | false=>
      rw [if_neg Bool.false_ne_true] at hr3 ⊢
      obtain ⟨I7',t7,f7⟩:=back (G8:=G7) I7
      exact ⟨ds.length - (i + 1),by omega,i + 1,σ6,H7,G7,ws,done,rest,I7',less S7,t7,f7,w27,hp7,hg7,rs3.grow (w5.trans w7),hr3,hv3,by omega,hlt,rfl⟩
     | true=>
      rw [if_pos rfl] at hr3 ⊢
      cases ee1:fe r1 with
      | stuck=>rw [ee1] at hr3; cases hr3
      | exc xx=>rw [ee1] at hr3; cases hr3
      | ok d1=>
       rw [ee1] at hr3
       simp only [bind_ok] at hr3
       cases er:zcv ft q fe (capR nl cap r) (ds.drop (i + 1)) with
       | stuck=>rw [er] at hr3; cases hr3
       | exc xx=>rw [er] at hr3; cases hr3
       | ok rest'=>
        rw [er] at hr3
        simp only [bind_ok] at hr3
        cases hr3
        have el7:=he' _ s7 σ6 H7 (fun v H8=>∃a8 G8,v=V.ref a8/\Grow X.K G7 H7 G8 H8/\H7 a8=none/\Own X.K G8 H8 a8 d1) I7 ⟨r1,G7,S7,by rw [ee1]; exact fun a8 G8 H8 w8 hn ho=>⟨a8,G8,rfl,by rw [eK] at w8; exact w8,hn,by rw [eK] at ho; exact ho⟩⟩
        rw [eE] at el7
        refine thn (weaken el7) fun u8 s8 ⟨v8,H8,I8,r8,a8,G8,ev8,w8,hn8,ho8⟩=>?_
        have hp8:H8 s2.heap.objs.size=some (.lst ws):=w8.he _ _ hp7
        have hg8:G8 s2.heap.objs.size=none:=by rw [w8.gf _ (by rw [hp7]; simp)]; exact hg7
        have S8:SI XX ⟨G2,H2,fun _=>none⟩ (capM nl cap m) r1 G8 σ6 H8:=S7.grow (by rw [eK]; exact w8)
        have hlen:=Paired.length rs3.1
        have ap8:=zb5 (X:=XX) _ s8 σ6 H8 (.ref s2.heap.objs.size) [v8] (.ref s2.heap.objs.size) [u8] (fun v H9=>H9=upd H8 s2.heap.objs.size (.lst (ws++[v8]))) I8 rfl (.cons r8 .nil) ⟨_,ws,v8,rfl,rfl,hp8,by omega,rfl⟩
        refine thn (weaken ap8) fun u9 s9 ⟨v9,H9,I9,r9,e9⟩=>?_
        subst e9
        obtain ⟨I9',t9,f9⟩:=back (G8:=G8) I9
        have rsn:RO X.K H2 s2.heap.objs.size G8 (upd H8 s2.heap.objs.size (.lst (ws++[v8]))) (ws++[v8]) (done++[d1]):=by
         have:=((rs3.grow (w5.trans w7)).add w8 hn8 (w27.back hn8) (by rintro rfl; rw [hp7] at hn8; cases hn8) ho8).upd (o:=.lst (ws++[v8]))
         rw [<-ev8] at this
         exact this
        have w28:=w27.trans w8
        refine ⟨ds.length - (i + 1),by omega,i + 1,σ6,_,G8,ws++[v8],done++[d1],rest',I9',less (S8.other hg8 hp2 zlR _),t9,f9,?_,zan,hg8,rsn,er,by rw [hv3,List.append_assoc]; rfl,by rw [List.length_append,List.length_singleton]; omega,hlt,rfl⟩
        refine ⟨fun b e hb=>(w28.ok b e hb).mono (fun _ _ z=>z) fun o z=>?_,fun b o hb=>?_,w28.ge,w28.gf⟩
        ·rw [zao (by rintro rfl; rw [hg8] at hb; cases hb)]; exact z
        ·rw [zao (by rintro rfl; rw [hp2] at hb; cases hb)]; exact w28.he b o hb
  ·have e:i=ds.length:=by omega
   subst e
   rw [List.drop_length] at hr3
   cases hr3
   rw [List.append_nil] at hv3
   subst hv3
   have dn:=T.done XX eP eW eK eC ds.length [] s3 σ3 H3 (notedBy (model X.prog X.w) X.A (compEnvC scope cl HH.objs.size X.env) fun e s'=>RR (.ref s2.heap.objs.size) HH.objs.size (.error e) s') I3 (hfX H3 fr3) st3 (Y.stop G3 H3 w3)
   rw [eA] at dn
   refine thn dn fun rr s4 ⟨hr,I4⟩=>?_
   subst hr
   exact fin' I4 w3 hp3 hg3 rs3
 exact codeAny_compStart_list loop (T.self X.A 0 _ _ _ hst₁ loop)
end
noncomputable def zeD:List D->Option (List (List D))
 | []=>some []
 | .lst ds::r=>(zeD r).map (ds::·)
 | _=>none
theorem zlX {vs:List D} {w:List (List D)} (h:zeD vs=some w):vs=w.map D.lst:=by
 induction vs generalizing w with
 | nil=>cases h; rfl
 | cons v vs ih=>
  cases v with
  | lst ds=>
   have h':(zeD vs).map (ds::·)=some w:=h
   cases e:zeD vs with
   | none=>rw [e] at h'; cases h'
   | some w'=>rw [e] at h'; cases h'; rw [ih e]; rfl
  | _=>cases h
theorem zjR (w:List (List D)):zeD (w.map D.lst)=some w:=by
 induction w with
 | nil=>rfl
 | cons a w ih=>show (zeD (w.map D.lst)).map (a::·)=_; rw [ih]; rfl
theorem zoJ {K:W.Frag} {H2:Hp} {p:Addr} {G:GH} {H:Hp} {w:List (List D)} {ws:List V} (h:Paired (fun v d=>∃b,v=V.ref b/\H2 b=none/\b≠p/\Own K G H b d) ws (w.map D.lst)) :
  ∃as,ws=as.map V.ref/\Paired (RowR K G H) as w/\∀b∈as,H2 b=none/\b≠p/\G b=none:=by
 induction w generalizing ws with
 | nil=>cases h; exact ⟨[],rfl,.nil,fun _ z=>nomatch z⟩
 | cons ds w ih=>
  cases h with
  | cons r t=>
   obtain ⟨b,rfl,h1,h2,h3⟩:=r
   obtain ⟨as,rfl,q1,q2⟩:=ih t
   refine ⟨b::as,rfl,.cons ?_ q1,fun c hc=>?_⟩
   ·cases h3.ob with
    | lst e rs=>exact ⟨_,e,rs⟩
   ·rcases List.mem_cons.mp hc with rfl | hc
    ·exact ⟨h1,h2,h3.un⟩
    ·exact q2 c hc
theorem zqA {K:W.Frag} {H2:Hp} {p:Addr} {G:GH} {H:Hp} {w:List (List D)} {ws:List V} (h:RO K H2 p G H ws (w.map D.lst)) (hp:H p=some (.lst ws)) (hg:G p=none) (hn:H2 p=none) :
  ∃as,LRw K G H p as w/\∀b∈p::as,H2 b=none:=by
 obtain ⟨as,rfl,q1,q2⟩:=zoJ h.1
 refine ⟨as,⟨hp,List.nodup_cons.mpr ⟨fun z=>(q2 p z).2.1 rfl,List.Pairwise.of_map V.ref (fun a b h z=>h (by rw [z])) h.2⟩,fun b hb=>?_,q1⟩,fun b hb=>?_⟩
 ·rcases List.mem_cons.mp hb with rfl | hb
  ·exact hg
  ·exact (q2 b hb).2.2
 ·rcases List.mem_cons.mp hb with rfl | hb
  ·exact hn
  ·exact (q2 b hb).1
noncomputable def zks (i:Nat) (f:FE):Rho->Option (Rho × List (List D)):=fun r=>match f r with
 | .ok (.lst vs)=>(zeD vs).map fun w=>(r.set i none,w)
 | _=>none
section
variable {X:Cx} {g:GE} {m mb:List Md} {scope:Scope} {N':List Str} {nl:Nat} {cap:List Nat} {elt tg iter:Expr} {ifs:List Expr} {pos pos' spos:Pos} {fi:FI} {ft:FT} {q:FQ} {fe:FE} {ro:Bool}
theorem zju (i:Nat) {y:Str} (hlt:i < m.length) (hN:X.N.Nodup) (hcalm:X.calm=true) (hy:X.N[i]? = some y) (hyl:X.env.scope.names.lookup y=some .local) (sc:CompSc X scope N' nl cap) (hi:SItC X g m tg iter fi) (hg:∀s0 H0 cl C fp g',SG (cxC X s0 H0 N' scope cl C fp) g' (capM nl cap m) tg ft (capM nl cap m)) (hft:FtOk ft nl)
  (hq:∀s0 H0 cl C fp g',SQs (cxC X s0 H0 N' scope cl C fp) g' (capM nl cap m) ifs q) (he:∀s0 H0 cl C fp g',SO (cxC X s0 H0 N' scope cl C fp) g' (capM nl cap m) elt fe)
  (hsw:swapsWith (.ListComp elt [⟨tg,iter,ifs,0⟩] scope pos) (some (.Name y pos')) spos.line X.env=pure true:=by rfl) (hs:∀x,foldedSetIterable iter X.env x=pure x:=by intro _; rfl) :
  PS X (.Assign [.Name y pos'] (.ListComp elt [⟨tg,iter,ifs,0⟩] scope pos) spos) (tNew X g i m (m.set i .bw) (zks i (zca nl cap fi ft q fe))):=by
 intro pins s σ H D0 I h
 obtain ⟨r,G,si,r',w',ef,k⟩:=h
 obtain ⟨cl,hcl,h1,h2⟩:=sc.clo (pins:=pins) (σ:=σ) (H:=H) (s:=s) I.ok
 have k1:fin (fi r) (fun ds=>∃vs,ds.length<=sizeLine/\zcv ft q fe (capR nl cap r) ds=.ok vs/\vs=w'.map D.lst/\r'=r.set i none) (XW X σ G H):=by
  unfold zks at ef
  cases e:zca nl cap fi ft q fe r with
  | ok d=>
   rw [e] at ef
   cases d with
   | lst vs=>
    have ef':(zeD vs).map (fun w=>(r.set i none,w))=some (r',w'):=ef
    cases ea:zeD vs with
    | none=>rw [ea] at ef'; cases ef'
    | some w1=>
     rw [ea] at ef'
     cases ef'
     obtain ⟨ds,vs',z1,z2,z3,z4⟩:=zne e
     cases z4
     rw [z1]
     exact ⟨vs,z2,z3,zlX ea,rfl⟩
   | _=>cases ef
  | exc x=>rw [e] at ef; cases ef
  | stuck=>rw [e] at ef; cases ef
 rw [exec_Assign_Name_used _ _ _ _ hsw]
 refine wpAny_bind (wpAny_standAt (wpAny_bind ?_))
 show wpAny _ X.A (do let _ <-comprehension (.ListComp elt [⟨tg,iter,ifs,0⟩] scope pos) scope X.env _ (newList []) false (eval iter X.env) (some (assign (.Name y pos') X.env))) _ _ s
 refine wpAny_bind (wpAny_mono (wpAny_comprehension_free (use:=some (assign (.Name y pos') X.env)) (Q:=fun _ s'=>SP X pins D0 .next s') rfl hs hcl sc.kind sc.names (thn (hi pins s σ H (fun J H'=>∃G' ds vs,Grow X.K G H G' H'/\YieldsC X.K J ds G' H'/\ds.length<=sizeLine/\zcv ft q fe (capR nl cap r) ds=.ok vs /\
  vs=w'.map D.lst/\r'=r.set i none) I ⟨r,G,si,zai k1 fun ds ⟨vs,z1,z2,z3,z4⟩ J G' H' w y=>⟨G',ds,vs,w,y,z1,z2,z3,z4⟩⟩) fun v s1 hv=>thn hv fun itv s2 hv2=>?_)) (fun _ s' hq=>wpAny_pure (wpAny_pure hq)) fun _ _ e=>e)
 obtain ⟨it,fp,tn,J,H2,rfl,I2,T,st,hf,G2,ds,vs,w2,Y,hsz,hres,hvs,hr'⟩:=hv2
 refine zjP (RR:=fun acc C=>compPost (model X.prog X.w) X.A X.xe (some (assign (.Name y pos') X.env)) (fun _ s'=>SP X pins D0 .next s') acc C) hN hcalm sc h1 h2 I2 (si.grow w2) T st hf Y hsz (fun C=>hg _ _ _ _ _ _) hft (fun C=>hq _ _ _ _ _ _) (fun C=>he _ _ _ _ _ _) hres ?_
 intro p C s' H' G' I' hns hC1 hC2 hC3 hC4 hC5 w' hp ho
 obtain ⟨mm,hn⟩:=hns
 show wpAny _ X.A (assign (.Name y pos') X.env (.ref p)) _ _ s'
 refine wpAny_assign_Name (zfu I' hN hy (.inl hyl) (v:=.ref p) rfl (fun s'' I'' ⟨a,hsb,ha⟩=>?_) (.inr hyl))
 have hCa:C≠a:=by
  rcases ha with z | z
  ·rw [z]; exact hC2
  ·exact (hC4 y a z).symm
 refine ⟨mm,hn.sameBut hsb hCa,fun h' hsb'=>?_⟩
 refine ⟨_,H',I''.turned (it:=C) (t':=s''.toks) (fun b o hb e=>hsb'.extBut b o hb e) hC1 hC2 (.inr hC3) hC4 hC5,?_⟩
 obtain ⟨ws,o1,o2,o3⟩:=ho
 subst hvs
 obtain ⟨as,R,fr⟩:=zqA o3 o1 o2 hp
 subst hr'
 exact k _ G' H' (w2.trans w').ge (si.new2 (w2.trans w') hlt R fun b hb=>w2.back (fr b hb))
end
theorem zmL {α β:Type} {F F':α->β->Prop} {l:List α} {w:List β} (h:Paired F l w) {j:Nat} {a:α} {y:β} (nd:l.Nodup) (ha:l[j]? = some a) (hy:F' a y) (ho:∀b x,b≠a->F b x->F' b x):Paired F' l (w.set j y):=by
 induction h generalizing j with
 | nil=>cases ha
 | @cons b x l w r t ih=>
  rw [List.nodup_cons] at nd
  cases j with
  | zero=>
   cases ha
   exact .cons hy (zgI t fun c hc x q=>ho c x (by rintro rfl; exact nd.1 hc) q)
  | succ j=>
   have ha':l[j]? = some a:=by simpa using ha
   refine .cons (ho b x ?_ r) (ih nd.2 ha')
   rintro rfl
   exact nd.1 (List.mem_of_getElem? ha')
theorem zpl {m:List Md} {i:Nat} (h:((List.range m.length).all fun j=>j == i || decide (m[j]?≠some Md.bw))=true):∀j,j≠i->m[j]?≠some .bw:=fun j hj e=>by
 have hlt:j < m.length:=(List.getElem?_eq_some_iff.mp e).1
 have:=List.all_eq_true.mp h j (List.mem_range.mpr hlt)
 rw [Bool.or_eq_true,beq_iff_eq,decide_eq_true_iff] at this
 exact this.elim hj fun z=>z e
section
variable {X:Cx} {g:GE} {i:Nat} {m m' m1:List Md} {r r':Rho} {w:List (List D)} {G G':GH} {σ σ':L2.St} {H H':Hp}
theorem SI.row {p:Addr} {as:List Addr} (R:LRw X.K G H p as w) (si:SI X (zcr g H (p::as) i p) m r G σ H) (hm:m[i]? = some .bw) (hb:∀j,j≠i->m[j]?≠some .bw) {b:Addr} (hbm:b∈p::as) (o:HO):SI X (zcr g (upd H b o) (p::as) i p) m r G σ (upd H b o):=by
 have un:=R.un b hbm
 have h0':∀c,c∉p::as->(zcr g H (p::as) i p).h0 c=g.h0 c:=fun c hc=>by show (if c∈p::as then H c else g.h0 c)=_; rw [if_neg hc]
 have h0i:∀c,c∈p::as->(zcr g H (p::as) i p).h0 c=H c:=fun c hc=>by show (if c∈p::as then H c else g.h0 c)=_; rw [if_pos hc]
 have k0':∀c,c∉p::as->(zcr g (upd H b o) (p::as) i p).h0 c=g.h0 c:=fun c hc=>by show (if c∈p::as then _ else g.h0 c)=_; rw [if_neg hc]
 have k0i:∀c,c∈p::as->(zcr g (upd H b o) (p::as) i p).h0 c=upd H b o c:=fun c hc=>by show (if c∈p::as then upd H b o c else g.h0 c)=_; rw [if_pos hc]
 refine ⟨fun c d e=>?_,fun c u e=>?_,si.ge,fun c h=>?_,si.lm,si.lr,si.sh,fun j d h1 h2=>?_,fun j d h1 h2=>?_,si.dis,si.lk⟩
 ·have hc:c≠b:=by rintro rfl; rw [un] at e; cases e
  exact (si.gok c d e).mono (fun _ _ z=>z) fun u z=>by rw [zao hc]; exact z
 ·by_cases hc:c∈p::as
  ·rw [k0i c hc] at e; exact e
  ·rw [k0' c hc] at e
   have hcb:c≠b:=by rintro rfl; exact hc hbm
   rw [zao hcb]
   exact si.old c u (by rw [h0' c hc]; exact e)
 ·by_cases hc:c∈p::as
  ·exact si.gf c (by rw [h0i c hc]; exact R.isS hc)
  ·rw [k0' c hc] at h
   exact si.gf c (by rw [h0' c hc]; exact h)
 ·obtain ⟨a,q1,q2,q3⟩:=si.ow j d h1 h2
  have ha:a∉p::as:=fun z=>by rw [h0i a z] at q3; exact R.isS z q3
  have hab:a≠b:=by rintro rfl; exact ha hbm
  rw [h0' a ha] at q3
  exact ⟨a,q1,⟨q2.un,q2.ob.mono (fun _ _ z=>z) fun u z=>by rw [zao hab]; exact z⟩,by rw [k0' a ha]; exact q3⟩
 ·by_cases hj:j=i
  ·subst hj
   have:=(si.lk j (some (V.ref p),none) (by show (if j=j then _ else _)=_; rw [if_pos rfl]) hm).2 d h1
   cases this
  ·exact absurd h2 (hb j hj)
variable {ro:Bool} {mb:List Md} {pos p1 p2 p3 p4 p5 p6 p7 p8 p9 p10 p11:Pos} {x xa xb:Str} {jc:Nat}
end
noncomputable def lessA (H:Hp) (a:Addr):Hp:=fun b=>if b=a then none else H b
theorem zm1 {H:Hp} {a b:Addr} (h:b≠a):lessA H a b=H b:=if_neg h
theorem Grow.lessA {K:W.Frag} {G G' G2:GH} {H H' H2:Hp} {a:Addr} (w:Grow K G H G' H') (ha:H a=none) (w2:Grow K G' (lessA H' a) G2 H2):Grow K G H G2 H2:=by
 have ne:∀b,H b≠none->b≠a:=fun b h=>by rintro rfl; exact h ha
 have he:∀b o,H b=some o->DL.lessA H' a b=some o:=fun b o e=>by rw [zm1 (ne b (by rw [e]; simp))]; exact w.he b o e
 refine ⟨w2.ok,fun b o e=>w2.he b o (he b o e),fun b d e=>w2.ge b d (w.ge b d e),fun b h=>?_⟩
 rw [w2.gf b ?_,w.gf b h]
 cases e:H b with
 | none=>exact absurd e h
 | some o=>rw [he b o e]; simp
noncomputable def spV (K:W.Frag) (ro:Bool) (ms:List Md) (F:List D->Res D):Sp:=fun vs H Q _=>∃G us a ds d,GOk K G H/\vs=us++[V.ref a]/\ArgsOk K G H ms us ds/\Own K G H a d /\
 fin (F (ds++[d])) (fun d'=>∀v G' H',Grow K G (lessA H a) G' H'->RV ro K (lessA H a) G' H' v d'->Q v H') fun _=>False
section
variable {K:W.Frag} {G:GH} {H:Hp}
theorem ArgsOk.snoc {ms:List Md} {us:List V} {ds:List D} {v:V} {d:D} (h:ArgsOk K G H ms us ds) (r:RB K G H v d):ArgsOk K G H (ms++[.bw]) (us++[v]) (ds++[d]):=by
 induction h with
 | nil=>exact .bw r .nil
 | sh h _ ih=>exact .sh h ih
 | bw h _ ih=>exact .bw h ih
end
section
variable {P:Program} {w:World} {K:W.Frag} {mg:Str->Option Value} {base:Heap}
structure CalleeV (P:Program) (w:World) (K:W.Frag) (mg:Str->Option Value) (base:Heap) (x:Str) (ps:List Str) (k:Nat) (ro:Bool) (ms:List Md) (F:List D->Res D):Prop where
 ex:∃f fd,mg x=some (.ref f)/\W.keepIn K (.ref f)=true/\zgc K fd ps []/\FnOk P w K mg base CX0 k f fd ps (spV K ro ms F)
end
theorem LRw.grow {K:W.Frag} {G G':GH} {H H':Hp} {p:Addr} {as:List Addr} {w:List (List D)} (R:LRw K G H p as w) (wg:Grow K G H G' H'):LRw K G' H' p as w:=by
 refine R.mono wg.ge (fun b hb=>?_) fun b hb=>by rw [wg.gf b (R.isS hb)]; exact R.un b hb
 cases e:H b with
 | none=>exact absurd e (R.isS hb)
 | some o=>rw [wg.he b o e]
inductive Cln:D->Prop where
 | non:Cln .non
 | bl (b:Bool):Cln (.bl b)
 | int (i:Int):Cln (.int i)
 | str (x:Str):Cln (.str x)
 | tup {ds:List D}:(∀d∈ds,Cln d)->Cln (.tup ds)
theorem Cln.lst {ds:List D} (h:Cln (.lst ds)):False:=nomatch h
theorem Cln.dic {ds:List (Key × D)} (h:Cln (.dic ds)):False:=nomatch h
theorem Cln.get {ds:List D} (h:Cln (.tup ds)):∀d∈ds,Cln d:=by
 cases h with
 | tup h=>exact h
theorem cln2 (a b:Int):Cln (.tup [.int a,.int b]):=.tup fun d hd=>by
 rcases List.mem_cons.mp hd with rfl | hd
 ·exact .int a
 ·rw [List.mem_singleton.mp hd]; exact .int b
open Classical in
theorem zsm {K:W.Frag} {G G1 G':GH} {H H':Hp} (gk:GOk K G H) (le:Gle G G1) (hx:∀b d,G b=none->G1 b=some d->¬ Cln d) (w:Grow K G1 H G' H') :
  ∃G2,Grow K G H G2 H'/\∀v d,Cln d->RG K G' v d->RG K G2 v d:=by
 have key:∀v d,Cln d->RG K G' v d->RG K (fun b=>if G b≠none then G b else if H b≠none then none else if ∃d,G' b=some d/\Cln d then G' b else none) v d:=fun v d hc h=>by
  cases h with
  | scl s=>exact .scl s
  | kc k=>exact .kc k
  | @ref a _ e=>
   refine .ref ?_
   show (if G a≠none then G a else _)=some d
   by_cases h1:G a=none
   ·rw [if_neg (fun z=>z h1)]
    by_cases h2:H a=none
    ·rw [if_neg (fun z=>z h2),if_pos ⟨d,e,hc⟩]; exact e
    ·rw [w.gf a h2] at e
     exact absurd hc (hx a d h1 e)
   ·rw [if_pos h1]
    cases q:G a with
    | none=>exact absurd q h1
    | some d'=>rw [w.ge a d' (le a d' q)] at e; exact e
 have keys:∀vs ds,(∀d∈ds,Cln d)->RGs K G' vs ds->RGs K (fun b=>if G b≠none then G b else if H b≠none then none else if ∃d,G' b=some d/\Cln d then G' b else none) vs ds:=fun vs ds hc h=>by
  induction h with
  | nil=>exact .nil
  | cons r _ ih=>exact .cons (key _ _ (hc _ List.mem_cons_self) r) (ih fun d hd=>hc d (List.mem_cons_of_mem _ hd))
 have ge:Gle G fun b=>if G b≠none then G b else if H b≠none then none else if ∃d,G' b=some d/\Cln d then G' b else none:=fun a d e=>by
  show (if G a≠none then G a else _)=some d
  rw [if_pos (by rw [e]; simp)]; exact e
 refine ⟨_,⟨fun a d e=>?_,w.he,ge,fun a h=>?_⟩,key⟩
 ·have e':(if G a≠none then G a else if H a≠none then none else if ∃d,G' a=some d/\Cln d then G' a else none)=some d:=e
  by_cases h1:G a=none
  ·rw [if_neg (fun z=>z h1)] at e'
   by_cases h2:H a=none
   ·rw [if_neg (fun z=>z h2)] at e'
    by_cases h3:∃d,G' a=some d/\Cln d
    ·rw [if_pos h3] at e'
     obtain ⟨d',q1,q2⟩:=h3
     rw [q1] at e'; cases e'
     have ob:=w.ok a d q1
     cases ob with
     | lst _ _=>exact q2.lst.elim
     | dic _ _=>exact q2.dic.elim
     | exc _ _ _=>exact absurd q2 (by intro z; cases z)
     | fld _ _=>exact absurd q2 (by intro z; cases z)
     | tup r s=>exact .tup r (keys _ _ q2.get s)
    ·rw [if_neg h3] at e'; cases e'
   ·rw [if_pos h2] at e'; cases e'
  ·rw [if_pos h1] at e'
   exact (gk a d e').mono ge fun o z=>w.he a o z
 ·show (if G a≠none then G a else _)=G a
  by_cases h1:G a=none
  ·rw [if_neg (fun z=>z h1),if_pos h,h1]
  ·rw [if_pos h1]
section
variable {X:Cx} {g:GE} {i:Nat} {m m' m1:List Md} {r r':Rho} {w:List (List D)} {G G':GH} {σ σ':L2.St} {H H':Hp} {e:Expr} {f:FE} {st:Stmt} {pos p1 p2 p3 p4 p5 p6 p7 p8 p9 p10:Pos} {x xa xb y:Str}
theorem SI2.after (s:SI2 X g i m r w G σ H) (wg:Grow X.K G H G' H'):SI2 X g i m r w G' σ H':=by
 obtain ⟨p,as,R,h0,si,hm⟩:=s
 exact zeS R h0 si wg.ge (si.grow wg) hm
noncomputable abbrev lent (i:Nat) (r:Rho) (w:List (List D)):Rho:=r.set i (some (.lst (w.map D.lst)))
end
structure TL (K:W.Frag) (G:GH) (H:Hp) (p a:Addr) (d1:D) (ds:List D):Prop where
 tp:∃x xs,H p=some (.tup [x,.ref a])/\RG K G x d1/\H a=some (.lst xs)/\RGs K G xs ds
 un:∀b∈[p,a],G b=none
 ne:p≠a
theorem TL.isS {K:W.Frag} {G:GH} {H:Hp} {p a:Addr} {d1:D} {ds:List D} (t:TL K G H p a d1 ds):∀b∈[p,a],H b≠none:=fun b hb=>by
 obtain ⟨x,xs,h1,_,h2,_⟩:=t.tp
 rcases List.mem_cons.mp hb with rfl | hb
 ·rw [h1]; simp
 ·rw [List.mem_singleton.mp hb,h2]; simp
theorem TL.grow {K:W.Frag} {G G':GH} {H H':Hp} {p a:Addr} {d1:D} {ds:List D} (t:TL K G H p a d1 ds) (w:Grow K G H G' H'):TL K G' H' p a d1 ds:=by
 obtain ⟨x,xs,h1,h2,h3,h4⟩:=t.tp
 exact ⟨⟨x,xs,w.he _ _ h1,h2.mono w.ge,w.he _ _ h3,h4.mono w.ge⟩,fun b hb=>by rw [w.gf b (t.isS b hb)]; exact t.un b hb,t.ne⟩
noncomputable def RW (K:W.Frag) (H0:Hp) (G:GH) (H:Hp) (v:V) (d:D):Prop:=∃p a d1 ds,v=.ref p/\d=.tup [d1,.lst ds]/\(∀b∈[p,a],H0 b=none)/\TL K G H p a d1 ds
noncomputable def spW (K:W.Frag) (ms:List Md) (F:List D->Res D):Sp:=fun vs H Q _=>∃G ds,GOk K G H/\ArgsOk K G H ms vs ds/\fin (F ds) (fun d=>∀v G' H',Grow K G H G' H'->RW K H G' H' v d->Q v H') fun _=>False
noncomputable abbrev FW:=Rho->Res D
section
variable {P:Program} {w:World} {K:W.Frag} {mg:Str->Option Value} {base:Heap}
structure CalleeW (P:Program) (w:World) (K:W.Frag) (mg:Str->Option Value) (base:Heap) (x:Str) (ps:List Str) (k:Nat) (ms:List Md) (F:List D->Res D):Prop where
 ex:∃f fd,mg x=some (.ref f)/\W.keepIn K (.ref f)=true/\zgc K fd ps []/\FnOk P w K mg base CX0 k f fd ps (spW K ms F)
end
section
variable {X:Cx} {g:GE} {ro:Bool} {i:Nat} {m m' m1 mb ms:List Md} {r r':Rho} {G G':GH} {σ σ':L2.St} {H H':Hp} {e c:Expr} {es:List Expr} {q:FQ} {st:Stmt} {sts sts1:List Stmt} {fl:Rho->Res (List D)} {F:List D->Res D} {k:Nat} {ps:List Str} {pos p1 p2 p3 p4 apos cpos:Pos} {x y:Str} {d1:D} {ds:List D}
noncomputable def SI3 (X:Cx) (g:GE) (i:Nat) (m:List Md) (r:Rho) (d1:D) (ds:List D) (G:GH) (st:L2.St) (H:Hp):Prop:=
 ∃p a,TL X.K G H p a d1 ds/\(∀b∈[p,a],g.h0 b=none)/\SI X (zcr g H [p,a] i p) m r G st H/\m[i]? = some .bw
theorem SI3.after (s:SI3 X g i m r d1 ds G σ H) (wg:Grow X.K G H G' H'):SI3 X g i m r d1 ds G' σ H':=by
 obtain ⟨p,a,t,h0,si,hm⟩:=s
 refine ⟨p,a,t.grow wg,h0,?_,hm⟩
 rw [zfn (H:=H) fun b hb=>?_]
 ·exact si.grow wg
 ·cases e:H b with
  | none=>exact absurd e (t.isS b hb)
  | some o=>rw [wg.he b o e]
theorem SI3.frz (s:SI3 X g i m r d1 ds G σ H) (hb:∀j,j≠i->m[j]?≠some .bw):∃G',Gle G G'/\(∀b d,G b=none->G' b=some d->¬ Cln d)/\SI X g (m.set i .sh) (r.set i (some (.tup [d1,.lst ds]))) G' σ H:=by
 obtain ⟨p,a,t,h0,si,hm⟩:=s
 obtain ⟨x,xs,h1,h2,h3,h4⟩:=t.tp
 have ua:=t.un a (List.mem_cons_of_mem _ List.mem_cons_self)
 have up:=t.un p List.mem_cons_self
 have g1:GOk X.K (gset G a (.lst ds)) H:=si.gok.gset ua (.lst (.inl h3) h4)
 have up1:gset G a (.lst ds) p=none:=by rw [zaM t.ne]; exact up
 have g2:GOk X.K (gset (gset G a (.lst ds)) p (.tup [d1,.lst ds])) H:=g1.gset up1 (.tup (.inl h1) (.cons (h2.mono (zaX ua)) (.cons (.ref zap) .nil)))
 refine ⟨_,Gle.trans (zaX ua) (zaX up1),fun b d hn e hc=>?_,zgS si hm h0 t.isS hb (Gle.trans (zaX ua) (zaX up1)) g2 (fun b hb=>?_) zap⟩
 ·by_cases hbp:b=p
  ·subst hbp; rw [zap] at e; cases e
   exact (hc.get _ (List.mem_cons_of_mem _ List.mem_cons_self)).lst
  ·rw [zaM hbp] at e
   by_cases hba:b=a
   ·subst hba; rw [zap] at e; cases e; exact hc.lst
   ·rw [zaM hba,hn] at e; cases e
 ·rw [zaM (by rintro rfl; exact hb List.mem_cons_self),zaM (by rintro rfl; exact hb (List.mem_cons_of_mem _ List.mem_cons_self))]
end
end DL
section
namespace DL
section
open PySem PyProof.Rows PySem.W PySem.Calls
variable {prog:Program} {w:World} {A:Around} {E:Value->Shared->Prop} {s:Shared} {l:Addr} {vs:List Value} {ns:List Int}
end
open PySem PySem.Spec PyProof.Rows L2
end DL
end
section
namespace DL
section
open PySem PyProof.Rows
variable {prog:Program} {w:World} {A:Around} {R:Result->Shared->Prop} {I S:Addr} {fp wr:List Addr} {n:Nat} {P:Nat->Value->Prop} {St:Nat->Heap->Prop} {TP:Heap->Prop} {bt:Nat->Nat->Bool}
noncomputable def zjk (wr:List Addr) (S:Addr) (h h':Heap):Prop:=∀b o,b∉wr->b≠S->h.get? b=some o->h'.get? b=some o
theorem zjk.trans {h h1 h2:Heap} (a:zjk wr S h h1) (b:zjk wr S h1 h2):zjk wr S h h2:=fun c o hc hs e=>b c o hc hs (a c o hc hs e)
end
end DL
end
namespace DL
open PySem PySem.Spec PyProof.Rows L2
theorem znM {α:Type} {l:List α} {j:Nat} {a:α} (h:l[j]? = some a):l.set j a=l:=by
 refine List.ext_getElem? fun n=>?_
 by_cases hn:j=n
 ·subst hn; rw [List.getElem?_set_self (List.getElem?_eq_some_iff.mp h).1,h]
 ·rw [List.getElem?_set_ne hn]
noncomputable def SI2a (X:Cx) (g:GE) (i jr:Nat) (m:List Md) (r:Rho) (w:List (List D)) (k:Nat) (G:GH) (st:L2.St) (H:Hp):Prop:=
 ∃p as q,LRw X.K G H p as w/\(∀b∈p::as,g.h0 b=none)/\SI X (zcr g H (p::as) i p) m r G st H/\as[k]? = some q/\st[jr]? = some (some (V.ref q))/\m[i]? = some .bw/\m[jr]? = some .sh/\r[jr]? = some none
noncomputable abbrev zk8 (i jr:Nat) (r:Rho) (w:List (List D)) (k:Nat):Rho:=(lent i r w).set jr (some (.lst (w.getD k [])))
section
variable {X:Cx} {g:GE} {i jr k:Nat} {m m' m1:List Md} {r r':Rho} {w:List (List D)} {G G':GH} {σ σ':L2.St} {H H':Hp} {e ie:Expr} {f fi:FE} {st:Stmt} {sts:List Stmt} {pos p1 p2 p3 p4 p5 p6 p7 p8 p9 p10:Pos} {x y:Str}
theorem SI.slot {v:V} (s:SI X g m r G σ H) (hm:m[i]? = some .sh):SI X g m (r.set i none) G (σ.set i (some v)) H:=by
 have key:∀{j:Nat} {d:D},(r.set i none)[j]? = some (some d)->i≠j/\r[j]? = some (some d):=fun {j d} h=>by
  have hij:i≠j:=by
   rintro rfl
   rw [List.getElem?_set,if_pos rfl] at h
   split at h <;> cases h
  rw [List.getElem?_set_ne hij] at h
  exact ⟨hij,h⟩
 refine ⟨s.gok,s.old,s.ge,s.gf,by rw [List.length_set]; exact s.lm,by rw [List.length_set,List.length_set]; exact s.lr,fun j d h hj=>?_,fun j d h hj=>?_,fun j d h hj=>?_,fun j k a d e hjk h1 h2 m1 m2 q1 q2=>?_,fun j o h hj=>?_⟩
 ·obtain ⟨hij,h⟩:=key h
  rw [List.getElem?_set_ne hij]; exact s.sh j d h hj
 ·obtain ⟨hij,h⟩:=key h
  rw [List.getElem?_set_ne hij]; exact s.ow j d h hj
 ·obtain ⟨hij,h⟩:=key h
  rw [List.getElem?_set_ne hij]; exact s.bw j d h hj
 ·obtain ⟨z1,h1⟩:=key h1
  obtain ⟨z2,h2⟩:=key h2
  rw [List.getElem?_set_ne z1] at q1
  rw [List.getElem?_set_ne z2] at q2
  exact s.dis j k a d e hjk h1 h2 m1 m2 q1 q2
 ·have hij:i≠j:=by rintro rfl; rw [hm] at hj; cases hj
  obtain ⟨q1,q2⟩:=s.lk j o h hj
  exact ⟨by rw [List.getElem?_set_ne hij]; exact q1,fun d hd=>q2 d (by rw [List.getElem?_set_ne hij] at hd; exact hd)⟩
theorem SI2a.after (s:SI2a X g i jr m r w k G σ H) (wg:Grow X.K G H G' H'):SI2a X g i jr m r w k G' σ H':=by
 obtain ⟨p,as,q,R,h0,si,h1,h2,h3,h4,h5⟩:=s
 have he:∀b∈p::as,H' b=H b:=fun b hb=>by
  cases e:H b with
  | none=>exact absurd e (R.isS hb)
  | some o=>rw [wg.he b o e]
 exact ⟨p,as,q,R.grow wg,h0,by rw [zfn he]; exact si.grow wg,h1,h2,h3,h4,h5⟩
theorem SI2a.frz (s:SI2a X g i jr m r w k G σ H) (hb:∀j,j≠i->m[j]?≠some .bw):∃G',Gle G G'/\(∀b d,G b=none->G' b=some d->∃ds,d=.lst ds)/\SI X g (m.set i .sh) (zk8 i jr r w k) G' σ H:=by
 obtain ⟨p,as,q,R,h0,si,ha,hs,hm,hmj,hr⟩:=s
 have nd:=List.nodup_cons.mp R.nd
 obtain ⟨G1,l1,o1,g1,q1⟩:=zlu si.gok R.rw nd.2 fun b hb=>R.un b (List.mem_cons_of_mem _ hb)
 have hp1:G1 p=none:=by rw [o1 p nd.1]; exact R.un p List.mem_cons_self
 have rs:RGs X.K G1 (as.map V.ref) (w.map D.lst):=by
  have:∀{as:List Addr} {w:List (List D)},Paired (fun b ds=>G1 b=some (.lst ds)) as w->RGs X.K G1 (as.map V.ref) (w.map D.lst):=fun {as w} q=>by
   induction q with
   | nil=>exact .nil
   | cons h _ ih=>exact .cons (.ref h) ih
  exact this q1
 have g2:GOk X.K (gset G1 p (.lst (w.map D.lst))) H:=g1.gset hp1 (.lst (.inl R.out) rs)
 have le:Gle G (gset G1 p (.lst (w.map D.lst))):=Gle.trans l1 (zaX hp1)
 have out:∀b,b∉p::as->gset G1 p (.lst (w.map D.lst)) b=G b:=fun b hb=>by
  rw [zaM (by rintro rfl; exact hb List.mem_cons_self),o1 b fun z=>hb (List.mem_cons_of_mem _ z)]
 have hk:k < w.length:=by rw [<-Paired.length q1]; exact (List.getElem?_eq_some_iff.mp ha).1
 have hw:w[k]? = some (w.getD k []):=by rw [List.getD_eq_getElem?_getD,List.getElem?_eq_getElem hk]; rfl
 obtain ⟨q',hq',hg'⟩:=Paired.get q1 hw
 rw [ha] at hq'
 cases hq'
 have S:=zgS si hm h0 (fun b hb=>R.isS hb) hb le g2 out zap
 have S2:=S.set jr (v:=.ref q) (.ref (zaX hp1 _ _ hg'))
 have hji:i≠jr:=by rintro rfl; rw [hm] at hmj; cases hmj
 rw [znM (by rw [List.getElem?_set_ne hji]; exact hmj),znM hs] at S2
 refine ⟨_,le,fun b d hn e=>?_,S2⟩
 by_cases hbp:b=p
 ·subst hbp; rw [zap] at e; cases e; exact ⟨_,rfl⟩
 ·rw [zaM hbp] at e
  by_cases hba:b∈as
  ·obtain ⟨ds,e1⟩:=zhu hba q1
   rw [e1] at e; cases e; exact ⟨_,rfl⟩
  ·rw [o1 b hba,hn] at e; cases e
noncomputable def tRoA (X:Cx) (g:GE) (i jr:Nat) (m:List Md) (f:FE):TE:=fun σ H Q=>∃r w k G,SI2a X g i jr m r w k G σ H/\∃d,f (zk8 i jr r w k)=.ok d/\Cln d/\∀v G' H',Grow X.K G H G' H'->RG X.K G' v d->Q v H'
theorem zmJ (hb:∀j,j≠i->m[j]?≠some .bw) (h:∀g',SE X g' (m.set i .sh) e f):PE X e (tRoA X g i jr m f):=by
 refine PE.imp (h g) fun σ H Q ⟨r,w,k,G,s,d,e,hc,kk⟩=>?_
 have gk:GOk X.K G H:=by obtain ⟨p,as,q,R,h0,si,hm⟩:=s; exact si.gok
 obtain ⟨G1,le,hx,si⟩:=s.frz hb
 refine ⟨_,G1,si,?_⟩
 rw [e]
 intro v G' H' wg rv
 obtain ⟨G2,w2,q⟩:=zsm gk le (fun b d h1 h2 hc=>by obtain ⟨ds,rfl⟩:=hx b d h1 h2; exact hc.lst) wg
 exact kk v G2 H' w2 (q v d hc rv)
noncomputable abbrev FA:=Rho->List (List D)->Nat->Option (List (List D))
noncomputable def tA1 (X:Cx) (g:GE) (i jr:Nat) (m:List Md) (f:FA):TS:=fun D σ H=>∃r w k G,SI2a X g i jr m r w k G σ H/\∃w',f r w k=some w'/\∀σ' G' H',Gle G G'->SI2a X g i jr m r w' k G' σ' H'->D.nx σ' H'
noncomputable def tAs (X:Cx) (g:GE) (i jr:Nat) (m:List Md) (f:FA):TS:=fun D σ H=>∃r w k G,SI2a X g i jr m r w k G σ H/\∃w',f r w k=some w'/\∀σ' G' H',Gle G G'->SI2 X g i m r w' G' σ' H'->D.nx σ' H'
noncomputable def SSsA (X:Cx) (g:GE) (i jr:Nat) (m:List Md) (sts:List Stmt) (f:FA):Prop:=PSs X sts (tAs X g i jr m f)
noncomputable def nilA:FA:=fun _ w _=>some w
noncomputable def zhI (f1 f2:FA):FA:=fun r w k=>(f1 r w k).bind fun w1=>f2 r w1 k
open Classical in
noncomputable def putA (i jr:Nat) (f fi:FE):FA:=fun r w k=>match f (zk8 i jr r w k),fi r with
 | .ok d,.ok (.int y)=>if Cln d then (ixN (w.getD k []).length y).map fun k1=>w.set k ((w.getD k []).set k1 d) else none
 | _,_=>none
theorem zoQ {w':List (List D)} (h:putA i jr f fi r w k=some w'):∃d y k1,f (zk8 i jr r w k)=.ok d/\fi r=.ok (.int y)/\Cln d/\ixN (w.getD k []).length y=some k1/\w'=w.set k ((w.getD k []).set k1 d):=by
 unfold putA at h
 split at h
 ·rename_i d y e1 e2
  by_cases hc:Cln d
  ·rw [if_pos hc] at h
   cases e4:ixN (w.getD k []).length y with
   | none=>rw [e4] at h; cases h
   | some k1=>rw [e4] at h; cases h; exact ⟨d,y,k1,e1,e2,hc,e4,rfl⟩
  ·rw [if_neg hc] at h; cases h
 ·cases h
theorem zqm:SSsA X g i jr m [] nilA:=PSs.imp zkz fun D σ H ⟨r,w,k,G,⟨p,as,q,R,h0,si,h1,h2,h3,h4,h5⟩,w',e,kk⟩=>by
 cases e
 exact kk σ G H (Gle.refl G) ⟨p,as,R,h0,si,h3⟩
theorem zkh {f1 f2:FA} (h1:PS X st (tA1 X g i jr m f1)) (h2:SSsA X g i jr m sts f2):SSsA X g i jr m (st::sts) (zhI f1 f2):=by
 refine PSs.imp (zez h1 h2) fun D σ H ⟨r,w,k,G,si,w',e,kk⟩=>⟨r,w,k,G,si,?_⟩
 unfold zhI at e
 cases q:f1 r w k with
 | none=>rw [q] at e; cases e
 | some z=>
  rw [q] at e
  exact ⟨z,rfl,fun σ' G' H' le si'=>⟨r,z,k,G',si',w',e,fun σ2 G2 H2 le2 si2=>kk σ2 G2 H2 (le.trans le2) si2⟩⟩
theorem znO (hb:∀j,j≠i->m[j]?≠some .bw) (hN:X.N[jr]? = some y) (hv:Vis X.env.scope y) (h:∀g',SE X g' (m.set i .sh) e f) (hi:∀g',SE X g' m ie fi)
  (hd:(y == ("__debug__" : Str))=false:=by decide) (hcd:(y == ("__classdict__" : Str))=false:=by decide)
  (ha:∀v,assign (.Subscript (.Name y p6) ie p10) X.env v=(do
   let ov <-holding [v] (eval (.Name y p6) X.env)
   let iv <-holding [v,ov] (eval ie X.env)
   standAt p10
   holding [v,ov,iv] (setItem ov iv v)
   release [v,ov,iv] []):=by intro _; rfl)
  (hs:swapsWithSole [.Subscript (.Name y p6) ie p10] e pos.line X.env=pure false:=by rfl)
  (hw:swappedStores [.Subscript (.Name y p6) ie p10] e X.env=pure none:=by rfl)
  (h1:(assignEach [.Subscript (.Name y p6) ie p10] X.env).map (·.2)=[assign (.Subscript (.Name y p6) ie p10) X.env]:=by rfl) :
  PS X (.Assign [.Subscript (.Name y p6) ie p10] e pos) (tA1 X g i jr m (putA i jr f fi)):=by
 have hiA:PE X ie (fun σ H Q=>∃g',tE X g' m fi σ H Q):=fun pins s σ H Q I ⟨g',k⟩=>hi g' pins s σ H Q I k
 refine PS.imp (znU (zmJ (g:=g) (jr:=jr) hb h) (znW (zfG hN hv hd hcd) hiA ziL ha) hs hw h1) fun D0 σ H ⟨r,w,k,G,s,w',e,kk⟩=>?_
 obtain ⟨d,vb,k1,ef,ei,hc,ek,rfl⟩:=zoQ e
 refine ⟨r,w,k,G,s,d,ef,hc,fun v G1 H1 wg1 rv=>?_⟩
 have s1:=s.after wg1
 have s1':=s1
 obtain ⟨p,as,q,R,h0,si,hq,hst,hm,hmj,hr⟩:=s1'
 refine ⟨_,hst,_,r,G1,si,?_⟩
 rw [ei]
 intro vi G2 H2 wg2 ri
 have gk2:GOk X.K G2 H2:=wg2.ok
 have ri:=ri.int gk2
 subst ri
 obtain ⟨p,as,q,R,h0,si,hq,hst',hm,hmj,hr⟩:=s1.after wg2
 rw [hst'] at hst
 cases hst
 have hk:k < w.length:=by rw [<-Paired.length R.rw]; exact (List.getElem?_eq_some_iff.mp hq).1
 have hw:w[k]? = some (w.getD k []):=by rw [List.getD_eq_getElem?_getD,List.getElem?_eq_getElem hk]; rfl
 obtain ⟨q',hq',xs,hx,rs⟩:=Paired.get R.rw hw
 rw [hq] at hq'
 cases hq'
 have hlx:=Paired.length rs
 have hqm:q∈as:=List.mem_of_getElem? hq
 have nd:=List.nodup_cons.mp R.nd
 have hqp:q≠p:=by rintro rfl; exact nd.1 hqm
 refine ⟨q,xs,vb,k1,rfl,rfl,hx,by rw [hlx]; exact ek,?_⟩
 refine kk σ G2 _ (wg1.trans wg2).ge ⟨p,as,q,⟨by rw [zao (Ne.symm hqp)]; exact R.out,R.nd,R.un,?_⟩,h0,SI.row R si hm hb (List.mem_cons_of_mem _ hqm) _,hq,hst',hm,hmj,hr⟩
 exact zmL R.rw nd.2 hq ⟨_,zan,Paired.st (rv.mono wg2.ge) _ rs⟩ fun b' x' hne ⟨xs',e1,e2⟩=>⟨xs',by rw [zao hne]; exact e1,e2⟩
noncomputable def aliF (jr:Nat) (fi:FE) (fA:FA):FS2:=fun r w=>match fi r with
 | .ok (.int x)=>(ixN w.length x).bind fun k=>(fA (r.set jr none) w k).map fun w'=>(r.set jr none,w')
 | _=>none
theorem zot {fA:FA} (hm:m[i]? = some .bw) (hmj:m[jr]? = some .sh) (hN:X.N.Nodup) (hNi:X.N[i]? = some x) (hvx:Vis X.env.scope x) (hNj:X.N[jr]? = some y) (hy:Loc X.env.scope y) (hi:∀g',SE X g' m ie fi) (h2:SSsA X g i jr m sts fA)
  (hd:(x == ("__debug__" : Str))=false:=by decide) (hcd:(x == ("__classdict__" : Str))=false:=by decide) (hpl:ziy ie:=by intro _ _; rfl)
  (hs:swapsWith (.Subscript (.Name x p2) ie p3) (some (.Name y p1)) pos.line X.env=pure false:=by rfl)
  (hf:X.fn y=true\/X.env.scope.names.lookup y=some .local:=by first | exact .inl rfl | exact .inr rfl | assumption) :
  SSs2 X g i m (.Assign [.Name y p1] (.Subscript (.Name x p2) ie p3) pos::sts) (aliF jr fi fA) m:=by
 have hiA:PE X ie (fun σ H Q=>∃g',tE X g' m fi σ H Q):=fun pins s σ H Q I ⟨g',k⟩=>hi g' pins s σ H Q I k
 refine PSs.imp (zez (zkA hN hNj hy (zqW zlj (zfG hNi hvx hd hcd) hiA hpl) hs hf) h2) fun D0 σ H ⟨r,w,G,s,r',w',e,kk⟩=>?_
 obtain ⟨p,as,R,h0,si,_⟩:=s
 have hst:σ[i]? = some (some (V.ref p)):=(si.lk i (some (V.ref p),none) (by show (if i=i then _ else _)=_; rw [if_pos rfl]) hm).1
 unfold aliF at e
 cases ei:fi r with
 | exc x=>rw [ei] at e; cases e
 | stuck=>rw [ei] at e; cases e
 | ok d=>
  rw [ei] at e
  cases d with
  | int vx=>
   simp only [] at e
   cases ex:ixN w.length vx with
   | none=>rw [ex] at e; cases e
   | some k=>
    rw [ex] at e
    simp only [Option.bind_some] at e
    cases eA:fA (r.set jr none) w k with
    | none=>rw [eA] at e; cases e
    | some w1=>
     rw [eA] at e
     cases e
     refine ⟨_,hst,_,r,G,si,?_⟩
     rw [ei]
     intro v G1 H1 wg rv
     have rv:=rv.int wg.ok
     subst rv
     have he:∀b∈p::as,H1 b=H b:=fun b hb=>by
      cases e:H b with
      | none=>exact absurd e (R.isS hb)
      | some o=>rw [wg.he b o e]
     have R1:=R.grow wg
     have hk:k < w.length:=(zim ex).2.1
     have hw:w[k]? = some (w.getD k []):=by rw [List.getD_eq_getElem?_getD,List.getElem?_eq_getElem hk]; rfl
     obtain ⟨q,hq,_⟩:=Paired.get R1.rw hw
     have hl:(as.map V.ref).length=w.length:=by rw [List.length_map]; exact Paired.length R.rw
     have at1:atI (as.map V.ref) vx=some (V.ref q):=by
      unfold atI
      rw [hl,ex]
      show (as.map V.ref)[k]? = _
      rw [List.getElem?_map,hq]; rfl
     refine ⟨p,_,vx,_,rfl,rfl,SqL.of R1.out,at1,?_⟩
     have si1:SI X (zcr g H1 (p::as) i p) m r G1 σ H1:=by rw [zfn he]; exact si.grow wg
     have hlt:jr < m.length:=(List.getElem?_eq_some_iff.mp hmj).1
     exact ⟨r.set jr none,w,k,G1,⟨p,as,q,R1,h0,si1.slot hmj,hq,by rw [List.getElem?_set_self (by rw [<-si1.lm]; exact hlt)],hm,hmj,by rw [List.getElem?_set_self (by rw [si1.lr,<-si1.lm]; exact hlt)]⟩,_,eA,fun σ' G' H' le s'=>kk σ' G' H' (Gle.trans wg.ge le) s'⟩
  | _=>cases e
end
end DL
namespace DL
open PySem PySem.Spec PyProof.Rows L2 PySem.W PySem.Calls
noncomputable def spX (K:W.Frag) (ro:Bool) (ms:List Md) (F:List D->Res D):Sp:=fun vs H Q E=>∃G ds,GOk K G H/\ArgsOk K G H ms vs ds /\
 fin (F ds) (fun d=>∀v G' H',Grow K G H G' H'->RV ro K H G' H' v d->Q v H') fun x=>∀C od nm fs G' H',x=xD nm fs->XN K nm C->XF G' od fs->Grow K G H G' H'->E (.ref C) od H'
section
variable {P:Program} {w:World} {K:W.Frag} {mg:Str->Option Value} {base:Heap}
structure CalleeX (P:Program) (w:World) (K:W.Frag) (mg:Str->Option Value) (base:Heap) (x:Str) (ps:List Str) (ds:List Value) (k:Nat) (ro:Bool) (ms:List Md) (F:List D->Res D):Prop where
 ex:∃f fd,mg x=some (.ref f)/\W.keepIn K (.ref f)=true/\zgc K fd ps ds/\FnOk P w K mg base (CXR P w) k f fd ps (spX K ro ms F)
end
noncomputable def XO (K:W.Frag) (C:Addr) (bm:List Value):Prop:=∃N nm q bs hdct sn sub ab col dd k0 k1 k2 k3 k5 newId,K.lookup C=some (excClassObj nm q C N bs bm hdct sn sub ab col dd k0 k1 k2 k3 k5 newId)
noncomputable abbrev _root_.L2.Cx.held (X:Cx) (v:Value):Cx:={ X with A:=X.A.mark (some v),calm:=false,xe:=fun _ _=>False }
section
variable {X:Cx} {pins:List (Addr × Obj)} {σ:L2.St} {H H':Hp} {s s':Shared} {a C:Addr} {od:Option Addr}
theorem Inv.held (I:Inv X pins σ H s) (v:Value):Inv (X.held v) pins σ H s:=
 ⟨⟨I.ok.mod,I.ok.kind,I.ok.glob,I.ok.blt,I.ok.above,I.ok.inj,I.ok.has,I.ok.cab,(fun h=>nomatch h),I.ok.frames,I.ok.stk,I.ok.exf,I.ok.bs,I.ok.bsz,I.ok.noex,I.ok.exfs,I.ok.funs,I.ok.frf⟩,I.os,I.bare,I.base,I.loc,I.cell,I.free,I.freeC,I.pin,I.hok,I.len⟩
end
noncomputable abbrev _root_.L2.Cx.tr (X:Cx) (ps:List (Addr × Obj)) (E:Value->Shared->Prop):Cx:={ X with pn:=ps,xe:=E }
section
variable {X:Cx} {pins pins':List (Addr × Obj)} {σ:L2.St} {H:Hp} {s:Shared} {E:Value->Shared->Prop}
theorem Inv.tr (I:Inv X pins σ H s) (E:Value->Shared->Prop):Inv (X.tr (X.pn++pins) E) [] σ H s:=
 ⟨⟨I.ok.mod,I.ok.kind,I.ok.glob,I.ok.blt,I.ok.above,I.ok.inj,I.ok.has,I.ok.cab,I.ok.hd,I.ok.frames,I.ok.stk,I.ok.exf,I.ok.bs,I.ok.bsz,I.ok.noex,I.ok.exfs,I.ok.funs,I.ok.frf⟩,I.os,I.bare,I.base,I.loc,I.cell,I.free,I.freeC,fun p hp=>I.pin p (by rw [List.append_nil] at hp; exact hp),I.hok,I.len⟩
theorem Inv.untr (I:Inv (X.tr (X.pn++pins) E) pins' σ H s):Inv X pins σ H s:=
 ⟨⟨I.ok.mod,I.ok.kind,I.ok.glob,I.ok.blt,I.ok.above,I.ok.inj,I.ok.has,I.ok.cab,I.ok.hd,I.ok.frames,I.ok.stk,I.ok.exf,I.ok.bs,I.ok.bsz,I.ok.noex,I.ok.exfs,I.ok.funs,I.ok.frf⟩,I.os,I.bare,I.base,I.loc,I.cell,I.free,I.freeC,fun p hp=>I.pin p (List.mem_append_left _ hp),I.hok,I.len⟩
theorem SP.untr {D:Ends} {f:Flow} (h:SP (X.tr (X.pn++pins) E) [] D f s):SP X pins D f s:=by
 cases f with
 | next=>obtain ⟨σ',H',I,q⟩:=h; exact ⟨σ',H',Inv.untr I,q⟩
 | brk=>obtain ⟨σ',H',I,q⟩:=h; exact ⟨σ',H',Inv.untr I,q⟩
 | cont=>obtain ⟨σ',H',I,q⟩:=h; exact ⟨σ',H',Inv.untr I,q⟩
 | ret u=>obtain ⟨v,σ',H',I,r,q⟩:=h; exact ⟨v,σ',H',Inv.untr I,r,q⟩
end
structure XA (K:W.Frag) (C:Addr) (bm:List Value):Prop where
 ob:XO K C bm
 be:bm.contains (Value.type "BaseException")=true
 bo:bm.contains (Value.type "object")=true
 ga:findIn K (.ref C) "__getattribute__" = some (some (.builtin "BaseException.__getattribute__"))
 gn:findIn K (.ref C) "__getattr__" = some none
 gc:findIn K (.ref C) "__class__" = some (some (.builtin "object.__class__"))
 gg:specialIn K (.builtin "object.__class__") "__get__" = some (some (.builtin "getset_descriptor.__get__"))
 gt:takesIn K (.builtin "object.__class__")=some true
structure IsxOk (K:W.Frag) (c:Value) (tab:Str->Option Bool):Prop where
 no:kitOne K (.type "NoneType") c=some false
 ex:∀nm b C,tab nm=some b->XN K nm C->∃bm,XA K C bm/\kitOne K (.ref C) c=some b
section
variable {X:Cx} {g:GE} {m:List Md} {e:Expr} {f:FE} {pos p p2:Pos}
theorem RB.exc {K:W.Frag} {G:GH} {H:Hp} {v:V} {k:Str} {nm:Str} {ds:List (Str × D)} (gk:GOk K G H) (h:RB K G H v (.obj 0 ((k,.str nm)::ds))):∃a C od,v=.ref a/\H a=some (.ext (XcO a C od))/\XN K nm C:=by
 rcases h with h | ⟨a,rfl,h⟩
 ·cases h with
  | scl s=>cases s
  | ref e=>
   cases gk _ _ e with
   | exc r n f=>exact ⟨_,_,_,rfl,r,n⟩
  | kc k=>cases k
 ·cases h.ob
end
theorem XN.uniq {K:W.Frag} {nm:Str} {C c:Addr} (h:XN K nm C) (k:(K.all fun e=>match e.2.data with | .cls cd=>cd.name != nm || e.1 == c | _=>true)=true):C=c:=by
 obtain ⟨o,cd,h1,h2,h3⟩:=h
 have hm:(C,o)∈(K:List (Addr × Obj)):=by
  have key:∀l:List (Addr × Obj),l.lookup C=some o->(C,o)∈l:=by
   intro l
   induction l with
   | nil=>intro h; cases h
   | cons q l ih=>
    intro h
    rw [List.lookup] at h
    split at h
    ·rename_i hb
     have:=eq_of_beq hb
     cases h
     rw [this]; exact List.mem_cons_self
    ·exact List.mem_cons_of_mem _ (ih h)
  exact key K h1
 have:=List.all_eq_true.mp k _ hm
 simp only [h2] at this
 rw [h3] at this
 simpa using this
noncomputable def unIn (K:W.Frag) (nm:Str) (c:Addr):Bool:=K.all fun e=>match e.2.data with
 | .cls cd=>cd.name != nm || e.1 == c
 | _=>true
structure CF (K:W.Frag) (nm:Str) (c:Addr) (bm:List Value):Prop where
 xa:XA K c bm
 xn:XN K nm c
 un:unIn K nm c=true
theorem CF.eq {K:W.Frag} {nm:Str} {c C:Addr} {bm:List Value} (f:CF K nm c bm) (h:XN K nm C):C=c:=XN.uniq h f.un
end DL
namespace DL
open PySem PySem.Spec PyProof.Rows L2 PySem.W PySem.Calls PySem.Builtin PySem.Builtin.Str
end DL
section
namespace Rg
theorem zgN {α:Type} [DecidableEq α]:∀{l m:List α},l.Nodup->(∀x∈l,x∈m)->l.length<=m.length
 | [],_,_,_=>Nat.zero_le _
 | a::l,m,hn,hs=>by
  have hn':=List.nodup_cons.mp hn
  have h1:=zgN (l:=l) (m:=m.erase a) hn'.2 fun x hx=>by
   have hxa:x≠a:=by rintro rfl; exact hn'.1 hx
   exact (List.mem_erase_of_ne hxa).mpr (hs x (List.mem_cons_of_mem _ hx))
  have ha:a∈m:=hs a List.mem_cons_self
  rw [List.length_erase_of_mem ha] at h1
  have:=List.length_pos_of_mem ha
  simp only [List.length_cons]; omega
theorem zn3 {α:Type} {p:α->Bool} {l:List α} (h:l.Nodup):(l.filter p).Nodup:=List.Pairwise.filter p h
structure S where
 line:List Nat
 things:List Nat
section
variable (W:Nat->List Nat) (O:Nat->Option Nat)
noncomputable def best (row things:List Nat):Nat:=(row.find? fun x=>decide (x∈things)).getD 0
noncomputable def tgt (s:S) (h:Nat):Nat:=best (W h) s.things
noncomputable def pt (s:S) (x:Nat):Nat:=(s.line.find? fun h=>decide (O h=some x)).getD (s.line.headD 0)
noncomputable def nxt (s:S) (h:Nat):Nat:=pt O s (tgt W s h)
noncomputable def minus (s:S) (C:List Nat):S:=⟨s.line.filter fun h=>decide (h∉C),s.things.filter fun x=>decide (x∉C.map (tgt W s))⟩
noncomputable def it {α:Type} (f:α->α):Nat->α->α
 | 0,x=>x
 | n + 1,x=>it f n (f x)
structure Ok (s:S):Prop where
 nl:s.line.Nodup
 nt:s.things.Nodup
 le:s.line.length<=s.things.length
 row:∀h∈s.line,∀x∈s.things,x∈W h
 inj:∀h k x,O h=some x->O k=some x->h=k
 own:∀h∈s.line,∀x,O h=some x->x∈s.things
structure Cyc (s:S) (C:List Nat):Prop where
 sub:∀h∈C,h∈s.line
 cl:∀h∈C,nxt W O s h∈C
 per:∀h∈C,∃k,it (nxt W O s) (k + 1) h=h
variable {W O}
theorem znx {row things:List Nat} (h:∃x∈row,x∈things):best row things∈things:=by
 unfold best
 cases e:row.find? fun x=>decide (x∈things) with
 | none=>
  obtain ⟨x,h1,h2⟩:=h
  have:=List.find?_eq_none.mp e x h1
  simp [h2] at this
 | some x=>have:=List.find?_some e; simpa using this
variable {s:S}
theorem Cyc.it_mem {C:List Nat} (c:Cyc W O s C) {h:Nat} (hh:h∈C):∀n,it (nxt W O s) n h∈C:=by
 intro n
 induction n generalizing h with
 | zero=>exact hh
 | succ n ih=>exact ih (c.cl h hh)
theorem Cyc.out {C E:List Nat} (c:Cyc W O s C) (e:Cyc W O s E) {h:Nat} (hc:h∈C) (he:h∉E):nxt W O s h∉E:=by
 intro z
 obtain ⟨k,hk⟩:=c.per h hc
 exact he (by rw [<-hk]; exact e.it_mem z k)
noncomputable def less (E C:List Nat):List Nat:=E.filter fun h=>decide (h∉C)
inductive TTC (W:Nat->List Nat) (O:Nat->Option Nat) (a:Nat->Nat):S->Prop where
 | nil {s:S}:s.line=[]->TTC W O a s
 | step {s:S} (C:List Nat):Cyc W O s C->(∀h∈C,a h=tgt W s h)->TTC W O a (minus W s C)->TTC W O a s
end
end Rg
end
section
namespace Rg
section
variable {W:Nat->List Nat} {O:Nat->Option Nat} {s:S} {a:Nat->Nat}
theorem least {P:Nat->Prop}:(∃n,P n)->∃n,P n/\∀k,k < n->¬ P k:=by
 rintro ⟨n,hn⟩
 induction n using Nat.strongRecOn with
 | _ n ih=>
  by_cases h:∃k,k < n/\P k
  ·obtain ⟨k,h1,h2⟩:=h; exact ih k h1 h2
  ·exact ⟨n,hn,fun k hk hp=>h ⟨k,hk,hp⟩⟩
end
end Rg
end
section
namespace Rg
end Rg
end
section
namespace Rg
end Rg
end
section
namespace Fq
theorem zi7 (a:Int) (b:Nat):Int.gcd a b=Int.gcd b (a % (b:Int)):=by
 refine Nat.dvd_antisymm (Int.dvd_gcd (Int.gcd_dvd_right _ _) ?_) (Int.dvd_gcd ?_ (Int.gcd_dvd_left _ _))
 ·rw [Int.emod_def]
  exact Int.dvd_sub (Int.gcd_dvd_left _ _) (Int.dvd_trans (Int.gcd_dvd_right a b) (Int.dvd_mul_right _ _))
 ·have h:=Int.mul_ediv_add_emod a b
  rw [<-h]
  exact Int.dvd_add (Int.dvd_trans (Int.gcd_dvd_left (b:Int) _) (Int.dvd_mul_right _ _)) (by rw [h]; exact Int.gcd_dvd_right _ _)
theorem zgU (t:Int) {b:Nat} (h:0 < b):0 < Int.gcd t b:=Nat.pos_of_ne_zero fun z=>by
 have:=Int.gcd_eq_zero_iff.mp z
 omega
noncomputable def low (t:Int) (b:Nat):Int × Nat:=(t / (Int.gcd t b:Int),b / Int.gcd t b)
noncomputable def zcU (a b:Int × Nat):Int × Nat:=low (a.1 * b.2 + b.1 * a.2) (a.2 * b.2)
noncomputable def Same (a b:Int × Nat):Prop:=a.1 * (b.2:Int)=b.1 * (a.2:Int)
theorem zii (t:Int) {b:Nat} (h:0 < b):Int.gcd (low t b).1 ((low t b).2:Nat)=1:=by
 have:=Int.gcd_ediv_gcd_ediv_gcd (zgU t h)
 unfold low
 rw [Int.natCast_ediv]
 exact this
theorem zb9 (t:Int) {b:Nat} (h:0 < b):0 < (low t b).2:=by
 have h1:Int.gcd t b ∣ b:=Int.natCast_dvd_natCast.mp (Int.gcd_dvd_right t b)
 exact Nat.div_pos (Nat.le_of_dvd h h1) (zgU t h)
theorem zrp (t:Int) (b:Nat):(low t b).2<=b:=Nat.div_le_self _ _
theorem zpo (t:Int) (b:Nat):(low t b).1.natAbs<=t.natAbs:=Int.natAbs_ediv_le_natAbs _ _
theorem zbu (t:Int) (b:Nat):Same (low t b) (t,b):=by
 unfold Same low
 have h1:(Int.gcd t b:Int) ∣ t:=Int.gcd_dvd_left t b
 have h2:(Int.gcd t b:Int) ∣ (b:Int):=Int.gcd_dvd_right t b
 obtain ⟨x,hx⟩:=h1
 obtain ⟨y,hy⟩:=h2
 generalize hg:(Int.gcd t b:Int)=g at hx hy
 show t / g * (b:Int)=t * ((b / Int.gcd t b:Nat):Int)
 rw [Int.natCast_ediv,hg]
 by_cases z:g=0
 ·subst z
  rw [Int.zero_mul] at hx hy
  rw [hx,hy]; simp
 ·rw [hx,hy,Int.mul_ediv_cancel_left _ z,Int.mul_ediv_cancel_left _ z]
  rw [<-Int.mul_assoc,Int.mul_comm x g]
structure Bd (k:Nat) (a:Int × Nat):Prop where
 pos:0 < a.2
 bot:a.2 < 2 ^ k
 top:a.1.natAbs < 2 ^ k
theorem Bd.mono {k l:Nat} {a:Int × Nat} (h:Bd k a) (hl:k<=l):Bd l a:=
 ⟨h.pos,Nat.lt_of_lt_of_le h.bot (Nat.pow_le_pow_right (by omega) hl),Nat.lt_of_lt_of_le h.top (Nat.pow_le_pow_right (by omega) hl)⟩
theorem Bd.low {k:Nat} {t:Int} {b:Nat} (h:0 < b) (h1:b < 2 ^ k) (h2:t.natAbs < 2 ^ k):Bd k (low t b):=
 ⟨zb9 t h,Nat.lt_of_le_of_lt (zrp t b) h1,Nat.lt_of_le_of_lt (zpo t b) h2⟩
theorem zeR {a b k l:Nat} (h1:a < 2 ^ k) (h2:b < 2 ^ l):a * b < 2 ^ (k + l):=by
 rw [Nat.pow_add]
 exact Nat.mul_lt_mul'' h1 h2
theorem zdf {k l:Nat} {a b:Int × Nat} (ha:Bd k a) (hb:Bd l b):0 < a.2 * b.2/\a.2 * b.2 < 2 ^ (k + l):=⟨Nat.mul_pos ha.pos hb.pos,zeR ha.bot hb.bot⟩
theorem zmF {k l:Nat} {a b:Int × Nat} (ha:Bd k a) (hb:Bd l b):(a.1 * b.2 + b.1 * a.2).natAbs < 2 ^ (k + l + 1):=by
 have h1:(a.1 * (b.2:Int)).natAbs < 2 ^ (k + l):=by rw [Int.natAbs_mul,Int.natAbs_natCast]; exact zeR ha.top hb.bot
 have h2:(b.1 * (a.2:Int)).natAbs < 2 ^ (k + l):=by rw [Int.natAbs_mul,Int.natAbs_natCast,Nat.add_comm k l]; exact zeR hb.top ha.bot
 have h3:=Int.natAbs_add_le (a.1 * (b.2:Int)) (b.1 * (a.2:Int))
 rw [Nat.pow_succ]
 omega
theorem Bd.plus {k l:Nat} {a b:Int × Nat} (ha:Bd k a) (hb:Bd l b):Bd (k + l + 1) (zcU a b):=by
 obtain ⟨h1,h2⟩:=zdf ha hb
 exact Bd.low h1 (Nat.lt_of_lt_of_le h2 (Nat.pow_le_pow_right (by omega) (by omega))) (zmF ha hb)
noncomputable def zgM (a b:Int × Nat):Bool:=decide (a.1 * (b.2:Int) < b.1 * (a.2:Int))
noncomputable def zdk (sh:Nat->Int × Nat):Int × Nat->List Nat->List (Int × Nat)
 | _,[]=>[]
 | acc,x::row=>zcU acc (sh x)::zdk sh (zcU acc (sh x)) row
theorem zhR (sh:Nat->Int × Nat):∀(row:List Nat) (acc:Int × Nat),(zdk sh acc row).length=row.length
 | [],_=>rfl
 | x::row,acc=>by unfold zdk; rw [List.length_cons,zhR sh row,List.length_cons]
end Fq
end
section
namespace Rg
end Rg
namespace Fq
noncomputable def W (N:Nat) (a:Int × Nat) (S:Nat):Prop:=0 < a.2/\a.1 * (N:Int)=(S:Int) * (a.2:Int)
theorem W.low {N c:Nat} (hN:0 < N):W N (low c N) c:=by
 have:=zbu (c:Int) N
 exact ⟨zb9 _ hN,this⟩
theorem W.plus {N S c:Nat} {a b:Int × Nat} (ha:W N a S) (hb:W N b c):W N (zcU a b) (S + c):=by
 have hp:0 < a.2 * b.2:=Nat.mul_pos ha.1 hb.1
 refine ⟨zb9 _ hp,?_⟩
 have h:=zbu (a.1 * (b.2:Int) + b.1 * (a.2:Int)) (a.2 * b.2)
 unfold Same at h
 unfold zcU
 generalize Fq.low (a.1 * (b.2:Int) + b.1 * (a.2:Int)) (a.2 * b.2)=p at h ⊢
 have h1:=ha.2
 have h2:=hb.2
 have hq:((a.2 * b.2:Nat):Int)≠0:=by omega
 refine Int.eq_of_mul_eq_mul_right hq ?_
 have e1:p.1 * (N:Int) * ((a.2 * b.2:Nat):Int)=(p.1 * ((a.2 * b.2:Nat):Int)) * (N:Int):=by
  rw [Int.mul_assoc,Int.mul_comm (N:Int),<-Int.mul_assoc]
 rw [e1,h]
 show (a.1 * (b.2:Int) + b.1 * (a.2:Int)) * (p.2:Int) * (N:Int)=(((S + c:Nat):Int)) * (p.2:Int) * ((a.2 * b.2:Nat):Int)
 have e2:(a.1 * (b.2:Int) + b.1 * (a.2:Int)) * (p.2:Int) * (N:Int)=((a.1 * (N:Int)) * (b.2:Int) + (b.1 * (N:Int)) * (a.2:Int)) * (p.2:Int):=by
  rw [Int.add_mul,Int.add_mul,Int.add_mul]
  congr 1
  ·simp only [Int.mul_assoc,Int.mul_comm,Int.mul_left_comm]
  ·simp only [Int.mul_assoc,Int.mul_comm,Int.mul_left_comm]
 rw [e2,h1,h2,Int.natCast_add,Int.natCast_mul]
 simp only [Int.add_mul]
 congr 1 <;> simp only [Int.mul_assoc,Int.mul_comm,Int.mul_left_comm]
theorem W.ge {N S S':Nat} {a b:Int × Nat} (hN:0 < N) (ha:W N a S) (hb:W N b S') (h:S'<=S):zgM a b=false:=by
 refine decide_eq_false fun hlt=>?_
 have h1:=Int.mul_lt_mul_of_pos_right hlt (show (0:Int) < (N:Int) by omega)
 have e1:a.1 * (b.2:Int) * (N:Int)=(S:Int) * ((a.2:Int) * (b.2:Int)):=by
  rw [Int.mul_assoc,Int.mul_comm (b.2:Int),<-Int.mul_assoc,ha.2,Int.mul_assoc]
 have e2:b.1 * (a.2:Int) * (N:Int)=(S':Int) * ((a.2:Int) * (b.2:Int)):=by
  rw [Int.mul_assoc,Int.mul_comm (a.2:Int),<-Int.mul_assoc,hb.2,Int.mul_assoc,Int.mul_comm (b.2:Int)]
 rw [e1,e2] at h1
 have hp:(0:Int)<=(a.2:Int) * (b.2:Int):=by
  rw [<-Int.natCast_mul]; exact Int.natCast_nonneg _
 have:=Int.lt_of_mul_lt_mul_right h1 hp
 omega
theorem zjh {N:Nat} (hN:0 < N) {sa sb:Nat->Int × Nat} {ca cb:Nat->Nat}:∀(row:List Nat) (a b:Int × Nat) (S S':Nat),W N a S->W N b S'->(∀x∈row,W N (sa x) (ca x))->(∀x∈row,W N (sb x) (cb x)) ->
  (∀k,S' + ((row.take k).map cb).sum<=S + ((row.take k).map ca).sum)->((zdk sa a row).zip (zdk sb b row)).any (fun p=>zgM p.1 p.2)=false
 | [],_,_,_,_,_,_,_,_,_=>rfl
 | x::row,a,b,S,S',ha,hb,h1,h2,hk=>by
  have pa:=ha.plus (h1 x List.mem_cons_self)
  have pb:=hb.plus (h2 x List.mem_cons_self)
  unfold zdk
  rw [List.zip_cons_cons,List.any_cons]
  have hd:=hk 1
  simp at hd
  rw [W.ge hN pa pb hd,Bool.false_or]
  refine zjh hN row _ _ _ _ pa pb (fun y hy=>h1 y (List.mem_cons_of_mem _ hy)) (fun y hy=>h2 y (List.mem_cons_of_mem _ hy)) fun k=>?_
  have:=hk (k + 1)
  rw [List.take_succ_cons,List.map_cons,List.map_cons,List.sum_cons,List.sum_cons] at this
  omega
end Fq
end
section
namespace Fq
theorem zdK {t u:Int} {b d:Nat} (hb:0 < b) (hd:0 < d) (h:t * (d:Int)=u * (b:Int)):low t b=low u d:=by
 have s1:(low t b).1 * (b:Int)=t * ((low t b).2:Int):=zbu t b
 have s2:(low u d).1 * (d:Int)=u * ((low u d).2:Int):=zbu u d
 have c1:=zii t hb
 have c2:=zii u hd
 have p1:=zb9 t hb
 have p2:=zb9 u hd
 generalize low t b=p at *
 generalize low u d=q at *
 have hx:p.1 * (q.2:Int)=q.1 * (p.2:Int):=by
  have hne:((b * d:Nat):Int)≠0:=by have:=Nat.mul_pos hb hd; omega
  refine Int.eq_of_mul_eq_mul_right hne ?_
  rw [Int.natCast_mul]
  have e1:p.1 * (q.2:Int) * ((b:Int) * (d:Int))=(p.1 * (b:Int)) * ((d:Int) * (q.2:Int)):=by simp only [Int.mul_assoc,Int.mul_comm,Int.mul_left_comm]
  have e2:q.1 * (p.2:Int) * ((b:Int) * (d:Int))=(q.1 * (d:Int)) * ((b:Int) * (p.2:Int)):=by simp only [Int.mul_assoc,Int.mul_comm,Int.mul_left_comm]
  rw [e1,e2,s1,s2]
  have e3:t * (p.2:Int) * ((d:Int) * (q.2:Int))=(t * (d:Int)) * ((p.2:Int) * (q.2:Int)):=by simp only [Int.mul_assoc,Int.mul_comm,Int.mul_left_comm]
  have e4:u * (q.2:Int) * ((b:Int) * (p.2:Int))=(u * (b:Int)) * ((p.2:Int) * (q.2:Int)):=by simp only [Int.mul_assoc,Int.mul_comm,Int.mul_left_comm]
  rw [e3,e4,h]
 have hab:p.1.natAbs * q.2=q.1.natAbs * p.2:=by
  have:=congrArg Int.natAbs hx
  rw [Int.natAbs_mul,Int.natAbs_mul,Int.natAbs_natCast,Int.natAbs_natCast] at this
  exact this
 have k1:Nat.Coprime p.2 p.1.natAbs:=by
  have:Nat.gcd p.1.natAbs p.2=1:=c1
  rw [Nat.gcd_comm] at this; exact this
 have k2:Nat.Coprime q.2 q.1.natAbs:=by
  have:Nat.gcd q.1.natAbs q.2=1:=c2
  rw [Nat.gcd_comm] at this; exact this
 have d1:p.2 ∣ q.2:=k1.dvd_of_dvd_mul_left (by rw [hab]; exact Nat.dvd_mul_left _ _)
 have d2:q.2 ∣ p.2:=k2.dvd_of_dvd_mul_left (by rw [<-hab]; exact Nat.dvd_mul_left _ _)
 have e:p.2=q.2:=Nat.dvd_antisymm d1 d2
 have e':p.1=q.1:=by
  rw [e] at hx
  exact Int.eq_of_mul_eq_mul_right (by omega) hx
 exact Prod.ext e' e
noncomputable def DD:Nat:=420 ^ 7
theorem DD_pos:0 < DD:=by decide
noncomputable def zn4 (a b:Int × Nat):Int × Nat:=low (a.1 * b.2 - b.1 * a.2) (a.2 * b.2)
theorem low1 (t:Int):low t 1=(t,1):=by
 unfold low
 have:Int.gcd t (1:Nat)=1:=by show Int.gcd t 1=1; simp
 rw [this]; simp
end Fq
namespace Et
open Rg
noncomputable def leastN:List Nat->Nat
 | []=>0
 | x::l=>l.foldl (fun m y=>if y < m then y else m) x
theorem ziq:∀(l:List Nat) (m:Nat),l.foldl (fun m y=>if y < m then y else m) m<=m/\(∀y∈l,l.foldl (fun m y=>if y < m then y else m) m<=y)/\(l.foldl (fun m y=>if y < m then y else m) m=m\/l.foldl (fun m y=>if y < m then y else m) m∈l)
 | [],m=>⟨Nat.le_refl _,fun _ h=>(nomatch h),.inl rfl⟩
 | y::l,m=>by
  rw [List.foldl_cons]
  obtain ⟨h1,h2,h3⟩:=ziq l (if y < m then y else m)
  have hm:(if y < m then y else m)<=m/\(if y < m then y else m)<=y:=by split <;> omega
  refine ⟨Nat.le_trans h1 hm.1,fun z hz=>?_,?_⟩
  ·rcases List.mem_cons.mp hz with rfl | hz
   ·exact Nat.le_trans h1 hm.2
   ·exact h2 z hz
  ·rcases h3 with h3 | h3
   ·rw [h3]
    by_cases hy:y < m
    ·rw [if_pos hy]; exact .inr List.mem_cons_self
    ·rw [if_neg hy]; exact .inl rfl
   ·exact .inr (List.mem_cons_of_mem _ h3)
theorem least_le {l:List Nat} {y:Nat} (h:y∈l):leastN l<=y:=by
 cases l with
 | nil=>cases h
 | cons x l=>
  obtain ⟨h1,h2,_⟩:=ziq l x
  rcases List.mem_cons.mp h with rfl | h
  ·exact h1
  ·exact h2 y h
theorem least_mem {l:List Nat} (h:l≠[]):leastN l∈l:=by
 cases l with
 | nil=>exact absurd rfl h
 | cons x l=>
  obtain ⟨_,_,h3⟩:=ziq l x
  rcases h3 with h3 | h3
  ·show l.foldl (fun m y=>if y < m then y else m) x∈_
   rw [h3]; exact List.mem_cons_self
  ·exact List.mem_cons_of_mem _ h3
variable (W:Nat->List Nat) (n:Nat)
noncomputable def tgs (T:List Nat):List Nat:=(List.range n).map fun h=>best (W h) T
noncomputable def spn (T:List Nat) (a:Nat->Nat):Nat:=leastN ((tgs W n T).map fun x=>a x / (tgs W n T).count x)
noncomputable def aft (T:List Nat) (a:Nat->Nat) (x:Nat):Nat:=a x - (tgs W n T).count x * spn W n T a
noncomputable def lft (T:List Nat) (a:Nat->Nat):List Nat:=T.filter fun x=>decide (aft W n T a x≠0)
structure Ok (T:List Nat) (a:Nat->Nat):Prop where
 nd:T.Nodup
 lt:∀x∈T,x < n
 pos:∀x∈T,0 < a x
 dv:∀x∈T,420 ^ T.length ∣ a x
variable {W n}
variable {T:List Nat} {a:Nat->Nat}
structure Rw (W:Nat->List Nat) (n:Nat):Prop where
 n1:1<=n
 n7:n<=7
 has:∀h x,h < n->x < n->x∈W h
theorem zp4 (R:Rw W n) (S:Ok n T a) (hT:T≠[]) {h:Nat} (hh:h < n):best (W h) T∈T:=by
 have hp:=List.length_pos_iff.mpr hT
 exact znx ⟨T[0],R.has h _ hh (S.lt _ (List.getElem_mem _)),List.getElem_mem _⟩
theorem zj3:(tgs W n T).length=n:=by unfold tgs; simp
theorem zh2 (R:Rw W n) (S:Ok n T a) (hT:T≠[]) {x:Nat} (h:x∈tgs W n T):x∈T:=by
 obtain ⟨k,hk,rfl⟩:=List.mem_map.mp h
 exact zp4 R S hT (List.mem_range.mp hk)
theorem zok (x:Nat):(tgs W n T).count x<=n:=by
 have:=List.count_le_length (a:=x) (l:=tgs W n T)
 rw [zj3] at this; exact this
theorem zof {c:Nat} (h1:1<=c) (h7:c<=7):c ∣ 420:=by
 match c,h1,h7 with
 | 1,_,_=>decide
 | 2,_,_=>decide
 | 3,_,_=>decide
 | 4,_,_=>decide
 | 5,_,_=>decide
 | 6,_,_=>decide
 | 7,_,_=>decide
theorem zlO (R:Rw W n) (S:Ok n T a) (hT:T≠[]) {x:Nat} (hx:x∈tgs W n T):(tgs W n T).count x ∣ a x/\0 < (tgs W n T).count x:=by
 have h1:0 < (tgs W n T).count x:=List.count_pos_iff.mpr hx
 have h2:=zok (W:=W) (n:=n) (T:=T) x
 have hp:=List.length_pos_iff.mpr hT
 have hd:=S.dv x (zh2 R S hT hx)
 obtain ⟨k,hk⟩:∃k,T.length=k + 1:=⟨T.length - 1,by omega⟩
 rw [hk,Nat.pow_succ] at hd
 exact ⟨Nat.dvd_trans (zof h1 (by have:=R.n7; omega)) (Nat.dvd_trans (Nat.dvd_mul_left _ _) hd),h1⟩
theorem znK (R:Rw W n):∃x∈tgs W n T,spn W n T a=a x / (tgs W n T).count x:=by
 have hne:(tgs W n T).map (fun x=>a x / (tgs W n T).count x)≠[]:=by
  intro e
  have h1:=congrArg List.length e
  rw [List.length_map,zj3] at h1
  have h2:=R.n1
  rw [List.length_nil] at h1; omega
 obtain ⟨x,h1,h2⟩:=List.mem_map.mp (least_mem hne)
 exact ⟨x,h1,h2.symm⟩
theorem zqe (R:Rw W n) (S:Ok n T a) (hT:T≠[]):420 ^ (T.length - 1) ∣ spn W n T a:=by
 obtain ⟨x,h1,h2⟩:=znK (T:=T) (a:=a) R
 have hp:=List.length_pos_iff.mpr hT
 have hd:=S.dv x (zh2 R S hT h1)
 obtain ⟨hc,hc0⟩:=zlO R S hT h1
 have hc7:=zof (c:=(tgs W n T).count x) hc0 (by have:=zok (W:=W) (n:=n) (T:=T) x; have:=R.n7; omega)
 obtain ⟨k,hk⟩:∃k,T.length=k + 1:=⟨T.length - 1,by omega⟩
 rw [hk,Nat.pow_succ] at hd
 obtain ⟨q,hq⟩:=hd
 obtain ⟨m,hm⟩:=hc7
 rw [h2,hk,Nat.add_sub_cancel,hq]
 generalize (tgs W n T).count x=c at *
 refine ⟨m * q,?_⟩
 rw [hm]
 have:420 ^ k * (c * m) * q=c * (420 ^ k * (m * q)):=by simp only [Nat.mul_assoc,Nat.mul_comm,Nat.mul_left_comm]
 rw [<-hm] at this ⊢
 rw [hm] at this ⊢
 rw [this,Nat.mul_div_cancel_left _ hc0]
theorem zrr (R:Rw W n) (S:Ok n T a) (hT:T≠[]):(lft W n T a).length < T.length:=by
 obtain ⟨x,h1,h2⟩:=znK (T:=T) (a:=a) R
 obtain ⟨hc,hc0⟩:=zlO R S hT h1
 have hx:=zh2 R S hT h1
 have h0:aft W n T a x=0:=by
  unfold aft
  rw [h2,Nat.mul_div_cancel' hc,Nat.sub_self]
 unfold lft
 refine Nat.lt_of_le_of_ne (List.length_filter_le _ _) fun e=>?_
 have:=List.length_filter_eq_length_iff.mp e x hx
 simp [h0] at this
theorem Ok.next (R:Rw W n) (S:Ok n T a) (hT:T≠[]):Ok n (lft W n T a) (aft W n T a) where
 nd:=S.nd.sublist List.filter_sublist
 lt:=fun x hx=>S.lt x (List.mem_filter.mp hx).1
 pos:=fun x hx=>Nat.pos_of_ne_zero (by simpa using (List.mem_filter.mp hx).2)
 dv:=fun x hx=>by
  have hx':=(List.mem_filter.mp hx).1
  have hlt:=zrr R S hT
  have h1:420 ^ (T.length - 1) ∣ a x:=Nat.dvd_trans (Nat.pow_dvd_pow 420 (by omega)) (S.dv x hx')
  have h2:420 ^ (T.length - 1) ∣ (tgs W n T).count x * spn W n T a:=Nat.dvd_trans (zqe R S hT) (Nat.dvd_mul_left _ _)
  exact Nat.dvd_trans (Nat.pow_dvd_pow 420 (by omega)) (Nat.dvd_sub h1 h2)
theorem sum_add {α:Type} (f g:α->Nat):∀l:List α,(l.map fun x=>f x + g x).sum=(l.map f).sum + (l.map g).sum
 | []=>rfl
 | x::l=>by rw [List.map_cons,List.map_cons,List.map_cons,List.sum_cons,List.sum_cons,List.sum_cons,sum_add f g l]; omega
theorem sum_ite (s:Nat) (p:Nat->Nat) (x:Nat):∀l:List Nat,(l.map fun h=>if p h=x then s else 0).sum=(l.map p).count x * s
 | []=>by simp
 | h::l=>by
  rw [List.map_cons,List.sum_cons,sum_ite s p x l,List.map_cons,List.count_cons]
  by_cases e:p h=x
  ·rw [if_pos e,if_pos (by simpa using e),Nat.add_mul]; omega
  ·rw [if_neg e,if_neg (by simpa using e),Nat.add_zero,Nat.zero_add]
theorem sum_zero {α:Type}:∀l:List α,(l.map fun _=>0).sum=0
 | []=>rfl
 | _::l=>by rw [List.map_cons,List.sum_cons,sum_zero l]
theorem Ok.init (R:Rw W n):Ok n (List.range n) fun _=>Fq.DD:=
 ⟨List.nodup_range,fun x hx=>List.mem_range.mp hx,fun _ _=>Fq.DD_pos,fun _ _=>by
  rw [List.length_range]
  exact Nat.pow_dvd_pow 420 R.n7⟩
end Et
end
section
namespace Fq
theorem zeA {N:Nat} (hN:0 < N) (a b:Int):zcU (low a N) (low b N)=low (a + b) N:=by
 have h1:(low a N).1 * (N:Int)=a * ((low a N).2:Int):=zbu a N
 have h2:(low b N).1 * (N:Int)=b * ((low b N).2:Int):=zbu b N
 have p1:=zb9 a hN
 have p2:=zb9 b hN
 refine zdK (Nat.mul_pos p1 p2) hN ?_
 generalize low a N=p at *
 generalize low b N=q at *
 rw [Int.natCast_mul,Int.add_mul,Int.add_mul]
 have e1:p.1 * (q.2:Int) * (N:Int)=(p.1 * (N:Int)) * (q.2:Int):=by simp only [Int.mul_assoc,Int.mul_comm,Int.mul_left_comm]
 have e2:q.1 * (p.2:Int) * (N:Int)=(q.1 * (N:Int)) * (p.2:Int):=by simp only [Int.mul_assoc,Int.mul_comm,Int.mul_left_comm]
 rw [e1,e2,h1,h2]
 simp only [Int.mul_assoc,Int.mul_comm,Int.mul_left_comm]
theorem zmX {N M:Nat} (hN:0 < N) (hM:0 < M) (a b:Int):zgM (low a N) (low b M)=decide (a * (M:Int) < b * (N:Int)):=by
 have h1:(low a N).1 * (N:Int)=a * ((low a N).2:Int):=zbu a N
 have h2:(low b M).1 * (M:Int)=b * ((low b M).2:Int):=zbu b M
 have p1:=zb9 a hN
 have p2:=zb9 b hM
 unfold zgM
 generalize low a N=p at *
 generalize low b M=q at *
 have hp:(0:Int) < (p.2:Int) * (q.2:Int):=by rw [<-Int.natCast_mul]; have:=Nat.mul_pos p1 p2; omega
 have hD:(0:Int) < (N:Int) * (M:Int):=by rw [<-Int.natCast_mul]; have:=Nat.mul_pos hN hM; omega
 rw [Bool.eq_iff_iff,decide_eq_true_iff,decide_eq_true_iff]
 have e1:p.1 * (q.2:Int) * ((N:Int) * (M:Int))=(a * (M:Int)) * ((p.2:Int) * (q.2:Int)):=by
  have:p.1 * (q.2:Int) * ((N:Int) * (M:Int))=(p.1 * (N:Int)) * ((M:Int) * (q.2:Int)):=by simp only [Int.mul_assoc,Int.mul_comm,Int.mul_left_comm]
  rw [this,h1]; simp only [Int.mul_assoc,Int.mul_comm,Int.mul_left_comm]
 have e2:q.1 * (p.2:Int) * ((N:Int) * (M:Int))=(b * (N:Int)) * ((p.2:Int) * (q.2:Int)):=by
  have:q.1 * (p.2:Int) * ((N:Int) * (M:Int))=(q.1 * (M:Int)) * ((N:Int) * (p.2:Int)):=by simp only [Int.mul_assoc,Int.mul_comm,Int.mul_left_comm]
  rw [this,h2]; simp only [Int.mul_assoc,Int.mul_comm,Int.mul_left_comm]
 constructor
 ·intro h
  have:=Int.mul_lt_mul_of_pos_right h hD
  rw [e1,e2] at this
  exact Int.lt_of_mul_lt_mul_right this (Int.le_of_lt hp)
 ·intro h
  have:=Int.mul_lt_mul_of_pos_right h hp
  rw [<-e1,<-e2] at this
  exact Int.lt_of_mul_lt_mul_right this (Int.le_of_lt hD)
theorem zi1 {N:Nat} (hN:0 < N):∀(l:List Nat) (A:Nat),(l.map fun c:Nat=>low (c:Int) N).foldl zcU (low (A:Int) N)=low ((A + l.sum:Nat):Int) N
 | [],A=>by simp
 | c::l,A=>by
  rw [List.map_cons,List.foldl_cons,zeA hN,<-Int.natCast_add,zi1 hN l,List.sum_cons,Nat.add_assoc]
theorem zk7 {N:Nat} (hN:0 < N):low ((0:Nat):Int) N=(0,1):=by
 rw [<-low1 0]; exact zdK hN (by decide) (by simp)
end Fq
namespace Et
open Rg
variable {W:Nat->List Nat} {n:Nat}
theorem idx_take {l:List Nat} {b k:Nat} (h:b∈l.take k):l.idxOf b < k:=by
 have e:l=l.take k++l.drop k:=(List.take_append_drop k l).symm
 have h1:l.idxOf b=(l.take k).idxOf b:=by
  conv=>lhs; rw [e]
  rw [List.idxOf_append,if_pos h]
 have h2:=List.idxOf_lt_length_of_mem h
 rw [List.length_take] at h2
 omega
end Et
end
section
namespace Gr
variable (E:Nat->List Nat) (n:Nat)
noncomputable def elim (S:List Nat):List Nat:=S.filter fun x=>(E x).any fun y=>decide (y∈S)
noncomputable def core:Nat->List Nat->List Nat
 | 0,S=>S
 | k + 1,S=>if (elim E S).length=S.length then S else core k (elim E S)
variable {E n}
theorem elim_len (S:List Nat):(elim E S).length<=S.length:=List.length_filter_le _ _
theorem zpC {S:List Nat} (h:(elim E S).length=S.length):∀x∈S,∃y∈E x,y∈S:=fun x hx=>by
 have:=List.length_filter_eq_length_iff.mp h x hx
 obtain ⟨y,h1,h2⟩:=List.any_eq_true.mp this
 exact ⟨y,h1,by simpa using h2⟩
theorem core_sub:∀(k:Nat) (S:List Nat),∀x∈core E k S,x∈S
 | 0,S,x,h=>h
 | k + 1,S,x,h=>by
  unfold core at h
  by_cases e:(elim E S).length=S.length
  ·rw [if_pos e] at h; exact h
  ·rw [if_neg e] at h
   exact (List.mem_filter.mp (core_sub k _ x h)).1
theorem core_nd:∀(k:Nat) (S:List Nat),S.Nodup->(core E k S).Nodup
 | 0,S,h=>h
 | k + 1,S,h=>by
  unfold core
  by_cases e:(elim E S).length=S.length
  ·rw [if_pos e]; exact h
  ·rw [if_neg e]; exact core_nd k _ (h.sublist List.filter_sublist)
theorem core_go:∀(k:Nat) (S:List Nat),S.length < k->∀x∈core E k S,∃y∈E x,y∈core E k S
 | 0,S,h=>absurd h (by omega)
 | k + 1,S,h=>by
  unfold core
  by_cases e:(elim E S).length=S.length
  ·rw [if_pos e]; exact zpC e
  ·rw [if_neg e]
   have:=elim_len (E:=E) S
   exact core_go k _ (by omega)
theorem rank:∀(k:Nat) (S:List Nat),S.length < k->core E k S=[]->∃d:Nat->Nat,∀x∈S,∀y∈E x,y∈S->d y < d x
 | 0,S,h,_=>absurd h (by omega)
 | k + 1,S,h,hc=>by
  unfold core at hc
  by_cases e:(elim E S).length=S.length
  ·rw [if_pos e] at hc
   subst hc
   exact ⟨fun _=>0,fun x hx=>by cases hx⟩
  ·rw [if_neg e] at hc
   have:=elim_len (E:=E) S
   obtain ⟨d,hd⟩:=rank k (elim E S) (by omega) hc
   refine ⟨fun x=>if x∈elim E S then d x + 1 else 0,fun x hx y hy hyS=>?_⟩
   have hx':x∈elim E S:=List.mem_filter.mpr ⟨hx,List.any_eq_true.mpr ⟨y,hy,by simpa using hyS⟩⟩
   show (if y∈elim E S then d y + 1 else 0) < (if x∈elim E S then d x + 1 else 0)
   rw [if_pos hx']
   by_cases hy':y∈elim E S
   ·rw [if_pos hy']; have:=hd x hx' y hy hy'; omega
   ·rw [if_neg hy']; omega
noncomputable def zp9 (L:List Nat) (x:Nat):List Nat:=if ((E x).map fun y=>decide (y∈L)).any id=true then L else L.erase x
variable (E) in
noncomputable def turn (l L:List Nat):List Nat:=l.foldl (zp9 (E:=E)) L
variable (E) in
noncomputable def rel1 (t:Nat->Nat) (x y:Nat):Nat->Nat:=fun z=>if z=y then max (t y) (t x + 1) else t z
variable (E) in
noncomputable def relx (t:Nat->Nat) (x:Nat):Nat->Nat:=(E x).foldl (fun t y=>rel1 t x y) t
variable (E) in
noncomputable def rnd (l:List Nat) (t:Nat->Nat):Nat->Nat:=l.foldl (relx E) t
variable (E) (n) in
noncomputable def rnds:Nat->(Nat->Nat)->Nat->Nat
 | 0,t=>t
 | k + 1,t=>rnds k (rnd E (List.range n) t)
theorem zgF (t:Nat->Nat) (x y z:Nat):t z<=rel1 t x y z:=by
 unfold rel1
 by_cases h:z=y
 ·rw [if_pos h,h]; omega
 ·rw [if_neg h]; exact Nat.le_refl _
structure Va (E:Nat->List Nat) (n:Nat) (b:Nat->Nat) (k:Nat) (done:List (Nat × Nat)) (t:Nat->Nat):Prop where
 v:∀x,x < n->∀y∈E x,b y < k->t x + 1<=t y
 w:∀e∈done,b e.2=k->t e.1 + 1<=t e.2
 g:∀y,t y=0\/∃x,x < n/\y∈E x/\t y<=t x + 1
theorem Va.step {b:Nat->Nat} {k:Nat} {done:List (Nat × Nat)} {t:Nat->Nat} (hb:∀x,x < n->∀y∈E x,b x < b y) (hdn:∀e∈done,e.1 < n/\e.2∈E e.1) (h:Va E n b k done t) {x y:Nat} (hx:x < n) (hy:y∈E x):Va E n b k ((x,y)::done) (rel1 t x y):=by
 have hxy:x≠y:=by rintro rfl; have:=hb x hx x hy; omega
 have low:∀z,b z < k->rel1 t x y z=t z:=fun z hz=>by
  unfold rel1
  by_cases e:z=y
  ·subst e
   rw [if_pos rfl]
   have:=h.v x hx z hy hz
   omega
  ·rw [if_neg e]
 refine ⟨fun u hu v hv hk=>?_,fun e he hk=>?_,fun z=>?_⟩
 ·have h1:=hb u hu v hv
  rw [low v hk,low u (by omega)]
  exact h.v u hu v hv hk
 ·rcases List.mem_cons.mp he with rfl | he
  ·have h1:=hb x hx y hy
   rw [low x (by simp only at hk; omega)]
   show t x + 1<=rel1 t x y y
   unfold rel1
   rw [if_pos rfl]; omega
  ·obtain ⟨h2,h3⟩:=hdn e he
   have h1:=hb e.1 h2 e.2 h3
   rw [low e.1 (by omega)]
   exact Nat.le_trans (h.w e he hk) (zgF t x y e.2)
 ·by_cases e:z=y
  ·subst e
   have e1:rel1 t x z z=max (t z) (t x + 1):=by unfold rel1; rw [if_pos rfl]
   by_cases hm:t z<=t x + 1
   ·right
    refine ⟨x,hx,hy,?_⟩
    have:=zgF t x z x
    omega
   ·rcases h.g z with g | ⟨u,g1,g2,g3⟩
    ·omega
    ·right
     refine ⟨u,g1,g2,?_⟩
     have:=zgF t x z u
     omega
  ·have e1:rel1 t x y z=t z:=by unfold rel1; rw [if_neg e]
   rw [e1]
   rcases h.g z with g | ⟨u,g1,g2,g3⟩
   ·exact .inl g
   ·exact .inr ⟨u,g1,g2,Nat.le_trans g3 (Nat.add_le_add_right (zgF t x y u) 1)⟩
theorem Va.relx {b:Nat->Nat} {k:Nat} (hb:∀x,x < n->∀y∈E x,b x < b y) {x:Nat} (hx:x < n):∀(l:List Nat) (done:List (Nat × Nat)) (t:Nat->Nat),(∀y∈l,y∈E x)->(∀e∈done,e.1 < n/\e.2∈E e.1)->Va E n b k done t ->
  ∃done',(∀e∈done',e.1 < n/\e.2∈E e.1)/\(∀e∈done,e∈done')/\(∀y∈l,(x,y)∈done')/\Va E n b k done' (l.foldl (fun t y=>rel1 t x y) t)
 | [],done,t,_,hd,h=>⟨done,hd,fun _ z=>z,fun _ z=>(by cases z),h⟩
 | y::l,done,t,hl,hd,h=>by
  obtain ⟨done',h1,h2,h3,h4⟩:=Va.relx hb hx l ((x,y)::done) (rel1 t x y) (fun z hz=>hl z (List.mem_cons_of_mem _ hz)) (fun e he=>by
   rcases List.mem_cons.mp he with rfl | he
   ·exact ⟨hx,hl y List.mem_cons_self⟩
   ·exact hd e he) (h.step hb hd hx (hl y List.mem_cons_self))
  refine ⟨done',h1,fun e he=>h2 e (List.mem_cons_of_mem _ he),fun z hz=>?_,h4⟩
  rcases List.mem_cons.mp hz with rfl | hz
  ·exact h2 _ List.mem_cons_self
  ·exact h3 z hz
theorem Va.rnd {b:Nat->Nat} {k:Nat} (hb:∀x,x < n->∀y∈E x,b x < b y):∀(l:List Nat) (done:List (Nat × Nat)) (t:Nat->Nat),(∀x∈l,x < n)->(∀e∈done,e.1 < n/\e.2∈E e.1)->Va E n b k done t ->
  ∃done',(∀e∈done',e.1 < n/\e.2∈E e.1)/\(∀e∈done,e∈done')/\(∀x∈l,∀y∈E x,(x,y)∈done')/\Va E n b k done' (rnd E l t)
 | [],done,t,_,hd,h=>⟨done,hd,fun _ z=>z,fun _ z=>(by cases z),h⟩
 | x::l,done,t,hl,hd,h=>by
  obtain ⟨d1,a1,a2,a3,a4⟩:=Va.relx hb (hl x List.mem_cons_self) (E x) done t (fun _ z=>z) hd h
  obtain ⟨d2,b1,b2,b3,b4⟩:=Va.rnd hb l d1 _ (fun z hz=>hl z (List.mem_cons_of_mem _ hz)) a1 a4
  refine ⟨d2,b1,fun e he=>b2 e (a2 e he),fun z hz y hy=>?_,b4⟩
  rcases List.mem_cons.mp hz with rfl | hz
  ·exact b2 _ (a3 y hy)
  ·exact b3 z hz y hy
theorem Va.next {b:Nat->Nat} {k:Nat} {t:Nat->Nat} (hb:∀x,x < n->∀y∈E x,b x < b y) (h:Va E n b k [] t):Va E n b (k + 1) [] (Gr.rnd E (List.range n) t):=by
 obtain ⟨d,h1,_,h3,h4⟩:=Va.rnd hb (List.range n) [] t (fun x hx=>List.mem_range.mp hx) (fun _ z=>by cases z) h
 refine ⟨fun x hx y hy hk=>?_,fun _ z=>by (cases z),h4.g⟩
 by_cases e:b y=k
 ·exact h4.w (x,y) (h3 x (List.mem_range.mpr hx) y hy) e
 ·exact h4.v x hx y hy (by omega)
theorem Va.all {b:Nat->Nat} (hb:∀x,x < n->∀y∈E x,b x < b y):∀(j k:Nat) (t:Nat->Nat),Va E n b k [] t->Va E n b (k + j) [] (rnds E n j t)
 | 0,k,t,h=>h
 | j + 1,k,t,h=>by
  have:=Va.all hb j (k + 1) _ (h.next hb)
  rw [show k + (j + 1)=k + 1 + j by omega]
  exact this
theorem order_of {d:Nat->Nat} (hlt:∀x,x < n->∀y∈E x,y < n) (hd:∀x,x < n->∀y∈E x,d y < d x):∃b:Nat->Nat,(∀x,x < n->∀y∈E x,b x < b y)/\∀x,x < n->b x < n:=by
 refine ⟨fun x=>((List.range n).filter fun z=>decide (d x < d z)).length,fun x hx y hy=>?_,fun x hx=>?_⟩
 ·have h:=hd x hx y hy
  have hsub:((List.range n).filter fun z=>decide (d x < d z)).length + 1<=((List.range n).filter fun z=>decide (d y < d z)).length:=by
   have:=Rg.zgN (l:=x::(List.range n).filter fun z=>decide (d x < d z)) (m:=(List.range n).filter fun z=>decide (d y < d z)) (List.nodup_cons.mpr ⟨fun z=>by
    have:=(List.mem_filter.mp z).2
    simp at this,Rg.zn3 List.nodup_range⟩) fun z hz=>by
    rcases List.mem_cons.mp hz with rfl | hz
    ·exact List.mem_filter.mpr ⟨List.mem_range.mpr hx,by simpa using h⟩
    ·have h1:=List.mem_filter.mp hz
     refine List.mem_filter.mpr ⟨h1.1,?_⟩
     have:=h1.2
     simp at this ⊢
     omega
   simpa using this
  exact hsub
 ·have:=Rg.zgN (l:=x::(List.range n).filter fun z=>decide (d x < d z)) (m:=List.range n) (List.nodup_cons.mpr ⟨fun z=>by
   have:=(List.mem_filter.mp z).2
   simp at this,Rg.zn3 List.nodup_range⟩) fun z hz=>by
    rcases List.mem_cons.mp hz with rfl | hz
    ·exact List.mem_range.mpr hx
    ·exact (List.mem_filter.mp hz).1
  simp at this
  show ((List.range n).filter fun z=>decide (d x < d z)).length < n
  omega
end Gr
end
section
namespace Hd
theorem zj4 {f:Nat->Nat} {a v:Nat}:∀{l:List Nat},l.Nodup->(l.map fun y=>if y=a then f y + v else f y).sum=(l.map f).sum + if a∈l then v else 0
 | [],_=>by simp
 | b::l,h=>by
  have h':=List.nodup_cons.mp h
  have ih:=zj4 (f:=f) (a:=a) (v:=v) h'.2
  rw [List.map_cons,List.sum_cons,ih,List.map_cons,List.sum_cons]
  by_cases e:b=a
  ·subst e
   rw [if_pos rfl,if_neg h'.1,if_pos List.mem_cons_self]; omega
  ·rw [if_neg e]
   by_cases m:a∈l
   ·rw [if_pos m,if_pos (List.mem_cons_of_mem _ m)]; omega
   ·rw [if_neg m,if_neg (fun z=>(List.mem_cons.mp z).elim (fun q=>e q.symm) m)]; omega
theorem zj6 {f:Nat->Nat} {a v:Nat} (hv:v<=f a):∀{l:List Nat},l.Nodup->(l.map fun y=>if y=a then f y - v else f y).sum + (if a∈l then v else 0)=(l.map f).sum
 | [],_=>by simp
 | b::l,h=>by
  have h':=List.nodup_cons.mp h
  have ih:=zj6 hv h'.2
  rw [List.map_cons,List.sum_cons,List.map_cons,List.sum_cons]
  by_cases e:b=a
  ·subst e
   rw [if_neg h'.1] at ih
   rw [if_pos rfl,if_pos List.mem_cons_self]; omega
  ·rw [if_neg e]
   by_cases m:a∈l
   ·rw [if_pos m] at ih
    rw [if_pos (List.mem_cons_of_mem _ m)]; omega
   ·rw [if_neg m] at ih
    rw [if_neg (fun z=>(List.mem_cons.mp z).elim (fun q=>e q.symm) m)]; omega
noncomputable def put (c:Nat->Nat->Nat) (h t z:Nat):Nat->Nat->Nat:=fun g x=>if g=h then (if x=t then z else c g x) else c g x
noncomputable def dn (v:Nat) (c:Nat->Nat->Nat) (h t:Nat):Nat->Nat->Nat:=put c h t (c h t - v)
noncomputable def up (v:Nat) (c:Nat->Nat->Nat) (h u:Nat):Nat->Nat->Nat:=put c h u (c h u + v)
noncomputable abbrev St:=Nat × Nat × Nat
noncomputable def mv (v:Nat) (c:Nat->Nat->Nat) (s:St):Nat->Nat->Nat:=up v (dn v c s.1 s.2.1) s.1 s.2.2
variable {v n:Nat} {c:Nat->Nat->Nat}
theorem zog {h t g:Nat} (hv:v<=c h t) {l:List Nat} (nd:l.Nodup):(l.map (dn v c h t g)).sum + (if g=h then if t∈l then v else 0 else 0)=(l.map (c g)).sum:=by
 by_cases e:g=h
 ·subst e
  rw [if_pos rfl,<-zj6 (f:=c g) hv nd]
  congr 2
  refine List.map_congr_left fun x _=>?_
  show (if g=g then (if x=t then c g t - v else c g x) else c g x)=_
  rw [if_pos rfl]
  by_cases q:x=t
  ·rw [if_pos q,if_pos q,q]
  ·rw [if_neg q,if_neg q]
 ·rw [if_neg e,Nat.add_zero]
  congr 1
  refine List.map_congr_left fun x _=>?_
  show (if g=h then _ else c g x)=_
  rw [if_neg e]
theorem znI {h u g:Nat} {l:List Nat} (nd:l.Nodup):(l.map (up v c h u g)).sum=(l.map (c g)).sum + if g=h then if u∈l then v else 0 else 0:=by
 by_cases e:g=h
 ·subst e
  rw [if_pos rfl,<-zj4 (f:=c g) nd]
  congr 1
  refine List.map_congr_left fun x _=>?_
  show (if g=g then (if x=u then c g u + v else c g x) else c g x)=_
  rw [if_pos rfl]
  by_cases q:x=u
  ·rw [if_pos q,if_pos q,q]
  ·rw [if_neg q,if_neg q]
 ·rw [if_neg e,Nat.add_zero]
  congr 1
  refine List.map_congr_left fun x _=>?_
  show (if g=h then _ else c g x)=_
  rw [if_neg e]
theorem zr3 {h t x:Nat} (hv:v<=c h t) (hh:h < n):((List.range n).map fun g=>dn v c h t g x).sum + (if x=t then v else 0)=((List.range n).map fun g=>c g x).sum:=by
 by_cases e:x=t
 ·subst e
  have:=zj6 (f:=fun g=>c g x) (a:=h) hv (List.nodup_range (n:=n))
  rw [if_pos (List.mem_range.mpr hh)] at this
  rw [if_pos rfl,<-this]
  congr 2
  refine List.map_congr_left fun g _=>?_
  show (if g=h then (if x=x then c h x - v else c g x) else c g x)=_
  by_cases q:g=h
  ·rw [if_pos q,if_pos rfl,if_pos q,q]
  ·rw [if_neg q,if_neg q]
 ·rw [if_neg e,Nat.add_zero]
  congr 1
  refine List.map_congr_left fun g _=>?_
  show (if g=h then (if x=t then _ else c g x) else c g x)=_
  rw [if_neg e]; split <;> rfl
theorem zpV {h u x:Nat} (hh:h < n):((List.range n).map fun g=>up v c h u g x).sum=((List.range n).map fun g=>c g x).sum + if x=u then v else 0:=by
 by_cases e:x=u
 ·subst e
  have:=zj4 (f:=fun g=>c g x) (a:=h) (v:=v) (List.nodup_range (n:=n))
  rw [if_pos (List.mem_range.mpr hh)] at this
  rw [if_pos rfl,<-this]
  congr 1
  refine List.map_congr_left fun g _=>?_
  show (if g=h then (if x=x then c h x + v else c g x) else c g x)=_
  by_cases q:g=h
  ·rw [if_pos q,if_pos rfl,if_pos q,q]
  ·rw [if_neg q,if_neg q]
 ·rw [if_neg e,Nat.add_zero]
  congr 1
  refine List.map_congr_left fun g _=>?_
  show (if g=h then (if x=u then _ else c g x) else c g x)=_
  rw [if_neg e]; split <;> rfl
theorem dn_le (h t g x:Nat):dn v c h t g x<=c g x:=by
 show (if g=h then (if x=t then c h t - v else c g x) else c g x)<=_
 split
 ·rename_i e
  split
  ·rename_i q; subst e q; omega
  ·omega
 ·omega
theorem up_le (h u g x:Nat):up v c h u g x<=c g x + v/\c g x<=up v c h u g x:=by
 show (if g=h then (if x=u then c h u + v else c g x) else c g x)<=_/\_<=(if g=h then (if x=u then c h u + v else c g x) else c g x)
 split
 ·rename_i e
  split
  ·rename_i q; subst e q; omega
  ·omega
 ·omega
theorem mv_le (s:St) (g x:Nat):mv v c s g x<=c g x + v:=by
 have h1:=(up_le (v:=v) (c:=dn v c s.1 s.2.1) s.1 s.2.2 g x).1
 have h2:=dn_le (v:=v) (c:=c) s.1 s.2.1 g x
 show up v (dn v c s.1 s.2.1) s.1 s.2.2 g x<=_
 omega
theorem zs2 {s:St} {g x:Nat} (hx:x≠s.2.1):c g x<=mv v c s g x:=by
 have h1:=(up_le (v:=v) (c:=dn v c s.1 s.2.1) s.1 s.2.2 g x).2
 have h2:dn v c s.1 s.2.1 g x=c g x:=by
  show (if g=s.1 then (if x=s.2.1 then _ else c g x) else c g x)=_
  rw [if_neg hx]; split <;> rfl
 rw [h2] at h1; exact h1
structure Ok (W:Nat->List Nat) (n v:Nat) (c:Nat->Nat->Nat) (ss:List St):Prop where
 lt:∀s∈ss,s.1 < n
 ne:∀s∈ss,(W s.1).idxOf s.2.2 < (W s.1).idxOf s.2.1
 nd:(ss.map fun s=>s.2.1).Nodup
 ge:∀s∈ss,v<=c s.1 s.2.1
variable {W:Nat->List Nat}
theorem Ok.next {s:St} {ss:List St} (h:Ok W n v c (s::ss)):Ok W n v (mv v c s) ss:=by
 have hn:=h.nd
 rw [List.map_cons] at hn
 have hn':=List.nodup_cons.mp hn
 refine ⟨fun z hz=>h.lt z (List.mem_cons_of_mem _ hz),fun z hz=>h.ne z (List.mem_cons_of_mem _ hz),hn'.2,fun z hz=>?_⟩
 refine Nat.le_trans (h.ge z (List.mem_cons_of_mem _ hz)) (zs2 ?_)
 intro e
 exact hn'.1 (by rw [<-e]; exact List.mem_map.mpr ⟨z,hz,rfl⟩)
noncomputable def all (v:Nat) (c:Nat->Nat->Nat) (ss:List St):Nat->Nat->Nat:=ss.foldl (mv v) c
theorem all_col (x:Nat):∀(ss:List St) (c:Nat->Nat->Nat),Ok W n v c ss->((List.range n).map fun g=>all v c ss g x).sum + (ss.map fun s=>s.2.1).count x * v=((List.range n).map fun g=>c g x).sum + (ss.map fun s=>s.2.2).count x * v
 | [],c,_=>by simp [all]
 | s::ss,c,h=>by
  have ih:=all_col x ss (mv v c s) h.next
  have h1:=zr3 (c:=c) (v:=v) (n:=n) (x:=x) (h.ge s List.mem_cons_self) (h.lt s List.mem_cons_self)
  have h2:=zpV (c:=dn v c s.1 s.2.1) (v:=v) (n:=n) (h:=s.1) (u:=s.2.2) (x:=x) (h.lt s List.mem_cons_self)
  have e1:((s::ss).map fun s=>s.2.1).count x * v=(ss.map fun s=>s.2.1).count x * v + if x=s.2.1 then v else 0:=by
   rw [List.map_cons,List.count_cons,Nat.add_mul]
   congr 1
   by_cases q:x=s.2.1
   ·rw [if_pos (by simp [q]),if_pos q,Nat.one_mul]
   ·rw [if_neg (by simp; exact fun z=>q z.symm),if_neg q,Nat.zero_mul]
  have e2:((s::ss).map fun s=>s.2.2).count x * v=(ss.map fun s=>s.2.2).count x * v + if x=s.2.2 then v else 0:=by
   rw [List.map_cons,List.count_cons,Nat.add_mul]
   congr 1
   by_cases q:x=s.2.2
   ·rw [if_pos (by simp [q]),if_pos q,Nat.one_mul]
   ·rw [if_neg (by simp; exact fun z=>q z.symm),if_neg q,Nat.zero_mul]
  rw [e1,e2]
  show ((List.range n).map fun g=>all v (mv v c s) ss g x).sum + _=_
  have e3:((List.range n).map fun g=>mv v c s g x).sum=((List.range n).map fun g=>up v (dn v c s.1 s.2.1) s.1 s.2.2 g x).sum:=rfl
  rw [e3,h2] at ih
  omega
theorem zmi {l:List Nat} {t u k:Nat} (h:l.idxOf u < l.idxOf t) (ht:t∈l.take k):u∈l.take k:=by
 have h1:l.idxOf t < k:=by
  have e:(l.take k).idxOf t < (l.take k).length:=List.idxOf_lt_length_of_mem ht
  have e2:l.idxOf t=(l.take k).idxOf t:=by
   conv=>lhs; rw [<-List.take_append_drop k l]
   rw [List.idxOf_append,if_pos ht]
  rw [e2]
  have:=List.length_take_le k l
  omega
 have hlen:l.idxOf u < l.length:=Nat.lt_of_lt_of_le h (List.idxOf_le_length)
 have hm:=List.getElem_idxOf hlen
 exact List.mem_take_iff_getElem.mpr ⟨l.idxOf u,by omega,hm⟩
theorem zrk {s:St} {ss:List St} (h:Ok W n v c (s::ss)) (g k:Nat) (nd:(W g).Nodup):(((W g).take k).map (c g)).sum<=(((W g).take k).map (mv v c s g)).sum:=by
 have hs:s∈s::ss:=List.mem_cons_self
 have ndk:((W g).take k).Nodup:=nd.sublist (List.take_sublist _ _)
 have h1:=zog (c:=c) (g:=g) (h.ge s hs) ndk
 have h2:=znI (v:=v) (c:=dn v c s.1 s.2.1) (h:=s.1) (u:=s.2.2) (g:=g) ndk
 show _<=(((W g).take k).map (up v (dn v c s.1 s.2.1) s.1 s.2.2 g)).sum
 rw [h2,<-h1]
 by_cases e:g=s.1
 ·rw [if_pos e,if_pos e]
  by_cases m:s.2.1∈(W g).take k
  ·have hu:s.2.2∈(W g).take k:=zmi (by rw [e]; exact h.ne s hs) m
   rw [if_pos m,if_pos hu]
   exact Nat.le_refl _
  ·rw [if_neg m]; omega
 ·rw [if_neg e,if_neg e]; omega
theorem all_pre (g k:Nat) (nd:(W g).Nodup):∀(ss:List St) (c:Nat->Nat->Nat),Ok W n v c ss->(((W g).take k).map (c g)).sum<=(((W g).take k).map (all v c ss g)).sum
 | [],c,_=>Nat.le_refl _
 | s::ss,c,h=>Nat.le_trans (zrk h g k nd) (all_pre g k nd ss (mv v c s) h.next)
theorem all_more {s:St} {ss:List St} (h:Ok W n v c (s::ss)) (nd:(W s.1).Nodup):∃k,(((W s.1).take k).map (c s.1)).sum + v<=(((W s.1).take k).map (all v c (s::ss) s.1)).sum:=by
 have hs:s∈s::ss:=List.mem_cons_self
 refine ⟨(W s.1).idxOf s.2.2 + 1,?_⟩
 have ndk:((W s.1).take ((W s.1).idxOf s.2.2 + 1)).Nodup:=nd.sublist (List.take_sublist _ _)
 have h1:=zog (c:=c) (g:=s.1) (h.ge s hs) ndk
 have h2:=znI (v:=v) (c:=dn v c s.1 s.2.1) (h:=s.1) (u:=s.2.2) (g:=s.1) ndk
 have hlt:=h.ne s hs
 have hlen:(W s.1).idxOf s.2.2 < (W s.1).length:=Nat.lt_of_lt_of_le hlt List.idxOf_le_length
 have hu:s.2.2∈(W s.1).take ((W s.1).idxOf s.2.2 + 1):=by
  have hm:=List.getElem_idxOf hlen
  exact List.mem_take_iff_getElem.mpr ⟨(W s.1).idxOf s.2.2,by omega,hm⟩
 have ht:s.2.1∉(W s.1).take ((W s.1).idxOf s.2.2 + 1):=by
  intro z
  have e:((W s.1).take ((W s.1).idxOf s.2.2 + 1)).idxOf s.2.1 < _:=List.idxOf_lt_length_of_mem z
  have e2:(W s.1).idxOf s.2.1=((W s.1).take ((W s.1).idxOf s.2.2 + 1)).idxOf s.2.1:=by
   conv=>lhs; rw [<-List.take_append_drop ((W s.1).idxOf s.2.2 + 1) (W s.1)]
   rw [List.idxOf_append,if_pos z]
  have:=List.length_take_le ((W s.1).idxOf s.2.2 + 1) (W s.1)
  omega
 rw [if_pos rfl,if_neg ht] at h1
 rw [if_pos rfl,if_pos hu] at h2
 have h3:=all_pre s.1 ((W s.1).idxOf s.2.2 + 1) nd ss (mv v c s) h.next
 have h4:(((W s.1).take ((W s.1).idxOf s.2.2 + 1)).map (mv v c s s.1)).sum=(((W s.1).take ((W s.1).idxOf s.2.2 + 1)).map (up v (dn v c s.1 s.2.1) s.1 s.2.2 s.1)).sum:=rfl
 rw [h4,h2] at h3
 show _<=(((W s.1).take ((W s.1).idxOf s.2.2 + 1)).map (all v (mv v c s) ss s.1)).sum
 omega
end Hd
end
namespace Law
open PySem PySem.Spec PyProof.Rows L2 DL
noncomputable abbrev gv (i:Nat):DL.FE:=fun r=>DL.getV r i
noncomputable abbrev ci (i:Int):DL.FE:=fun _=>.ok (.int i)
noncomputable abbrev q0:List DL.Md:=[.bw,.bw]
noncomputable abbrev q101:List DL.Md:=[.sh,.sh,.sh]
noncomputable abbrev q102:List DL.Md:=[.sh,.ow,.sh,.sh,.sh,.sh,.sh,.sh]
noncomputable abbrev q103:List DL.Md:=[.sh,.sh,.sh,.sh,.sh,.sh,.sh,.sh,.sh,.sh]
noncomputable abbrev q104:List DL.Md:=[.bw,.bw,.sh,.sh,.sh]
noncomputable abbrev q105:List DL.Md:=[.bw,.sh,.sh]
noncomputable abbrev q106:List DL.Md:=[.bw,.bw,.sh,.sh]
noncomputable abbrev q107:List DL.Md:=[.sh,.sh]
noncomputable abbrev q108:List DL.Md:=[.bw,.bw,.ow,.sh,.sh,.sh,.sh]
noncomputable abbrev q109:List DL.Md:=[.bw,.bw,.bw]
noncomputable abbrev q110:List DL.Md:=[.sh,.bw,.bw,.sh,.sh,.sh,.sh,.sh]
noncomputable abbrev q111:List DL.Md:=[.bw,.bw,.bw,.bw]
noncomputable abbrev q112:List DL.Md:=[.bw,.sh,.ow,.sh]
noncomputable abbrev q113:List DL.Md:=[.bw,.sh]
noncomputable abbrev q114:List DL.Md:=[.bw,.bw,.bw,.sh]
noncomputable abbrev q115:List DL.Md:=[.sh,.bw,.ow,.sh]
noncomputable abbrev q116:List DL.Md:=[.bw,.bw,.bw,.bw,.sh]
noncomputable abbrev q117:List DL.Md:=[.bw,.bw,.ow,.sh,.ow,.sh,.sh]
noncomputable abbrev q118:List DL.Md:=[.bw,.bw,.sh,.sh,.sh,.sh,.sh]
noncomputable abbrev q119:List DL.Md:=[.bw,.bw,.bw,.bw,.ow,.sh,.sh,.sh]
noncomputable abbrev q120:List DL.Md:=[.bw,.sh,.sh,.sh]
noncomputable abbrev q121:List DL.Md:=[.bw,.bw,.sh,.ow,.sh,.sh]
noncomputable abbrev q122:List DL.Md:=[.bw,.bw,.sh,.sh,.sh,.sh]
noncomputable abbrev q123:List DL.Md:=[.bw,.bw,.ow,.sh,.sh]
noncomputable abbrev q124:List DL.Md:=[.bw,.bw,.bw,.sh,.sh]
noncomputable abbrev q125:List DL.Md:=[.sh,.bw,.ow,.sh,.sh]
noncomputable abbrev q126:List DL.Md:=[.sh,.bw,.sh,.sh,.sh]
noncomputable abbrev q127:List DL.Md:=[.sh,.sh,.sh,.sh,.sh,.sh,.sh]
noncomputable abbrev q128:List DL.Md:=[.bw,.bw,.bw,.bw,.ow,.sh,.ow,.sh]
noncomputable abbrev q129:List DL.Md:=[.bw,.bw,.bw,.bw,.sh,.sh,.sh,.sh]
theorem zjH {α:Type} (us:List α) (h:us.length=1):∃a0,us=[a0]:=by
 match us,h with
 | [_],_=>exact ⟨_,rfl⟩
theorem zdj {α:Type} (us:List α) (h:us.length=2):∃a0 a1,us=[a0,a1]:=by
 match us,h with
 | [_,_],_=>exact ⟨_,_,rfl⟩
theorem zjG {α:Type} (us:List α) (h:us.length=3):∃a0 a1 a2,us=[a0,a1,a2]:=by
 match us,h with
 | [_,_,_],_=>exact ⟨_,_,_,rfl⟩
theorem zps {α:Type} (us:List α) (h:us.length=4):∃a0 a1 a2 a3,us=[a0,a1,a2,a3]:=by
 match us,h with
 | [_,_,_,_],_=>exact ⟨_,_,_,_,rfl⟩
noncomputable def top (i:Nat):Stmt:=PySem.Challenge.pw_ringtrade_k35_whole_heights_or_ring.main.body.getD i (.Pass ⟨0,0,0,0⟩)
structure Txt (K:W.Frag) (mg:Str->Option Value):Prop where
 b_abs:mg "abs" = none
 b_range:mg "range" = none
 b_tuple:mg "tuple" = none
 b_enumerate:mg "enumerate" = none
 b_len:mg "len" = none
 b_sum:mg "sum" = none
 b_list:mg "list" = none
 b_max:mg "max" = none
 b_zip:mg "zip" = none
 b_isinstance:mg "isinstance" = none
 b_bool:mg "bool" = none
 b_int:mg "int" = none
 b_all:mg "all" = none
 b_any:mg "any" = none
 k_NOUGHT:∃a,mg "NOUGHT" = some (.ref a)/\KC K a (.tup [.int 0,.int 1])
noncomputable abbrev zd6:Stmt:=top 31
noncomputable abbrev zeH:List Str:=["_law_one","_law_other","_law_rest"]
noncomputable abbrev zch:List Str:=["_law_one","_law_other"]
theorem zbX:FnScope zeH zch (zac zd6):=⟨rfl,rfl,rfl,by decide +kernel,rfl,by decide +kernel,by decide +kernel⟩
noncomputable abbrev zbg:FQ:=
 (zaU (f2 (gv 1) (ci 0) neD))
noncomputable abbrev zbi:FS:=
 (seqF (setF q101 2 (f2 (gv 0) (gv 1) modI)) (seqF (setF q101 0 (gv 1)) (seqF (setF q101 1 (gv 2)) zal)))
noncomputable def zci:FS:=
 (seqF (zbr q101 zbg zbi 1000) (seqF (retF q101 (fC (zab (gv 0) lNil) absD)) zal))
noncomputable def zbn:List D->Res D:=fun ds=>outR false (zci (zat zeH.length ds))
theorem zme {P:Program} {w:World} {K:W.Frag} {mg:Str->Option Value} {base:Heap} (T:Txt K mg) (A:DefAt K mg "_law_common" zd6):Callee P w K mg base "_law_common" zch [] 1 false q107 zbn:=by
 refine zaI (k:=0) (fs:=zci) (m':=q101) A zbX rfl (fun _ _ _ _ _ _ us hl=>by obtain ⟨u0,u1,rfl⟩:=zdj us hl; kernel_rfl) fun f cdv A outer s H g E hr=>?_
 have hu1:=zbd hr
 have hu64:=hr.units
 exact (zaa (zgB 1000 PassesOwn.never (q_ne hu64 (vb_ 1) (SE.toB zam)) (zaa (zaT 2 zbX.nd (by rfl) (by first | exact Or.inl rfl | exact Or.inr rfl) (zeL (vb_ 0) (vb_ 1)))
   (zaa (zaT 0 zbX.nd (by rfl) (by first | exact Or.inl rfl | exact Or.inr rfl) (v_ 1))
   (zaa (zaT 1 zbX.nd (by rfl) (by first | exact Or.inl rfl | exact Or.inr rfl) (v_ 2))
   zag))))
   (zaa (zaJ (zqu (by rfl) T.b_abs (zay (vb_ 0) zaV)))
   zag))
noncomputable abbrev zfz:Stmt:=top 32
noncomputable abbrev zgs:List Str:=["_law_top","_law_bottom","_law_by"]
noncomputable abbrev zdP:List Str:=["_law_top","_law_bottom"]
theorem zfC:FnScope zgs zdP (zac zfz):=⟨rfl,rfl,rfl,by decide +kernel,rfl,by decide +kernel,by decide +kernel⟩
noncomputable def zdZ:FS:=
 (seqF (setF q101 2 (zas (zab (gv 0) (zab (gv 1) lNil)) [] zbn)) (seqF (retF q101 (mkT (zab (f2 (gv 0) (gv 2) zis) (zab (f2 (gv 1) (gv 2) zis) lNil)))) zal))
noncomputable def zcl:List D->Res D:=fun ds=>outR false (zdZ (zat zgs.length ds))
theorem zpg {P:Program} {w:World} {K:W.Frag} {mg:Str->Option Value} {base:Heap} (T:Txt K mg) (A:DefAt K mg "_law_low" zfz) (c__law_common:Callee P w K mg base "_law_common" zch [] 1 false q107 zbn):Callee P w K mg base "_law_low" zdP [] 2 false q107 zcl:=by
 refine zaI (k:=1) (fs:=zdZ) (m':=q101) A zfC rfl (fun _ _ _ _ _ _ us hl=>by obtain ⟨u0,u1,rfl⟩:=zdj us hl; kernel_rfl) fun f cdv A outer s H g E hr=>?_
 have hu1:=zbd hr
 have hu64:=hr.units
 exact (zaa (zaT 2 zfC.nd (by rfl) (by first | exact Or.inl rfl | exact Or.inr rfl) (zar (dds:=[]) c__law_common (hr.mono (by decide)) (m_sh (v_ 0) (m_sh (v_ 1) zaG))))
   (zaa (zaJ (zhn (za0 (zgC (vb_ 0) (vb_ 2)) (za0 (zgC (vb_ 1) (vb_ 2)) zcb))))
   zag))
noncomputable abbrev zeY:Stmt:=top 33
noncomputable abbrev zfY:List Str:=["_law_a","_law_b"]
noncomputable abbrev zcw:List Str:=["_law_a","_law_b"]
theorem zhl:FnScope zfY zcw (zac zeY):=⟨rfl,rfl,rfl,by decide +kernel,rfl,by decide +kernel,by decide +kernel⟩
noncomputable def zdm:FS:=
 (seqF (retF q0 (zas (zab (f2 (f2 (f2 (gv 0) (ci 0) ixA) (f2 (gv 1) (ci 1) ixA) mulW) (f2 (f2 (gv 1) (ci 0) ixA) (f2 (gv 0) (ci 1) ixA) mulW) addA) (zab (f2 (f2 (gv 0) (ci 1) ixA) (f2 (gv 1) (ci 1) ixA) mulW) lNil)) [] zcl)) zal)
noncomputable def zbj:List D->Res D:=fun ds=>outR false (zdm (zat zfY.length ds))
theorem znZ {P:Program} {w:World} {K:W.Frag} {mg:Str->Option Value} {base:Heap} (T:Txt K mg) (A:DefAt K mg "_law_plus" zeY) (c__law_low:Callee P w K mg base "_law_low" zdP [] 2 false q107 zcl):Callee P w K mg base "_law_plus" zcw [] 3 false q0 zbj:=by
 refine zaI (k:=2) (fs:=zdm) (m':=q0) A zhl rfl (fun _ _ _ _ _ _ us hl=>by obtain ⟨u0,u1,rfl⟩:=zdj us hl; kernel_rfl) fun f cdv A outer s H g E hr=>?_
 have hu1:=zbd hr
 have hu64:=hr.units
 exact (zaa (zaJ (zar (dds:=[]) c__law_low (hr.mono (by decide)) (m_sh (zbK (SE.toB (zc1 (SE.toB (zax hu1 (vb_ 0) (SE.toB zam))) (SE.toB (zax hu1 (vb_ 1) (SE.toB zam))))) (SE.toB (zc1 (SE.toB (zax hu1 (vb_ 1) (SE.toB zam))) (SE.toB (zax hu1 (vb_ 0) (SE.toB zam)))))) (m_sh (zc1 (SE.toB (zax hu1 (vb_ 0) (SE.toB zam))) (SE.toB (zax hu1 (vb_ 1) (SE.toB zam)))) zaG))))
   zag)
noncomputable abbrev zcf:Stmt:=top 40
noncomputable abbrev zcG:List Str:=["_law_parts_here","_law_n","_law_rows","_law_hand","_law_row_here","_law_part","_law_got"]
noncomputable abbrev zdF:List Str:=["_law_parts_here","_law_n"]
theorem zbl:FnScope zcG zdF (zac zcf):=⟨rfl,rfl,rfl,by decide +kernel,rfl,by decide +kernel,by decide +kernel⟩
noncomputable abbrev zej:FS:=
 (seqF (putF q117 4 (f2 (gv 6) (gv 3) ixA) (zas (zab (f2 (gv 4) (f2 (gv 6) (gv 3) ixA) ixA) (zab (gv 5) lNil)) [] zbj)) zal)
noncomputable abbrev zei:FS:=
 (seqF (setF q108 4 (zca 1 [] (fRng rng1 (zab (gv 1) lNil)) (ftN 0) (fun _=>Res.ok true) (mkT (zab (ci 0) (zab (ci 1) lNil))))) (seqF (zbL q117 (fSeq zbf (gv 0)) (ftT (zaC (ftN 5) (zaC (ftN 6) zc3))) zej) (seqF (mutF "list" q117 2 (zab (fC (zab (gv 4) lNil) tupD) lNil) appD) zal)))
noncomputable def zcR:FS:=
 (seqF (setF q118 2 (mkL lNil)) (seqF (zbL q108 (fRng rng1 (zab (gv 1) lNil)) (ftN 3) zei) (seqF (retF q108 (fC (zab (gv 2) lNil) tupD)) zal)))
noncomputable def zcN:List D->Res D:=fun ds=>outR false (zcR (zat zcG.length ds))
theorem zmR {P:Program} {w:World} {K:W.Frag} {mg:Str->Option Value} {base:Heap} (T:Txt K mg) (A:DefAt K mg "_law_mixed" zcf) (c__law_plus:Callee P w K mg base "_law_plus" zcw [] 3 false q0 zbj):Callee P w K mg base "_law_mixed" zdF [] 4 false q0 zcN:=by
 refine zaI (k:=3) (fs:=zcR) (m':=q108) A zbl rfl (fun _ _ _ _ _ _ us hl=>by obtain ⟨u0,u1,rfl⟩:=zdj us hl; kernel_rfl) fun f cdv A outer s H g E hr=>?_
 have hu1:=zbd hr
 have hu64:=hr.units
 exact (zaa (zd8 2 zbl.nd (by rfl) (by first | exact Or.inl rfl | exact Or.inr rfl) (zf8 zcb))
   (zaa (zen PassesOwn.never rfl (zbY (by rfl) T.b_range (zay (vb_ 1) zaV)) (zaw 3 zbl.nd (by rfl) (by first | exact Or.inl rfl | exact Or.inr rfl)) (zhi (m':=q117) 4 (zaa (zex 4 (X:=(cxOf CX0 P w K mg base zcG "_law_mixed" (zac zcf) f cdv A outer s H E).nox) (m:=q108) (N':=["_law_thing"]) (nl:=1) (cap:=[]) zbl.nd rfl (by rfl) (by rfl) (zaY (osc:=(zac zcf)) (ON:=zcG) rfl rfl (by decide +kernel)) (SIt.toC (zbY (by rfl) T.b_range (zay (vb_ 1) zaV))) (fun _ _ _ _ _ _=>(zaw 0 (show List.Nodup (["_law_thing"]:List Str) by decide +kernel) (by rfl) (by first | exact Or.inl rfl | exact Or.inr rfl))) (zcs (by decide)) (fun _ _ _ _ _ _=>ze3) (fun _ _ _ _ _ _=>(zhn (za0 zam (za0 zam zcb)))))
   (zaa (znQ PassesOwn.never rfl (zn8 (vw_ 0)) (zgV rfl (zbT (zaw 5 zbl.nd (by rfl) (by first | exact Or.inl rfl | exact Or.inr rfl)) (zbT (zaw 6 zbl.nd (by rfl) (by first | exact Or.inl rfl | exact Or.inr rfl)) zgW))) (zaa (zmq 4 hu1 rfl (by rfl) (by first | exact Or.inl rfl | exact Or.inr (Or.inl rfl) | exact Or.inr (Or.inr rfl)) (SE.toB (zax hu1 (vb_ 6) (vb_ 3))) (zar (dds:=[]) c__law_plus (hr.mono (by decide)) (m_bw (SE.toB (zax hu1 (vb_ 4) (SE.toB (zax hu1 (vb_ 6) (vb_ 3))))) (m_bw (vb_ 5) zaG))))
   zag))
   (zaa (zh5 2 rfl PySem.F.plainAttrs_list PySem.F.slot_list_append PySem.F.type_list_append zb5 zgo (by rfl) (by first | exact Or.inl rfl | exact Or.inr (Or.inl rfl) | exact Or.inr (Or.inr rfl)) (za0 (zdt (by rfl) T.b_tuple (zay (vb_ 4) zaV)) zcb))
   zag))) rfl))
   (zaa (zaJ (zdt (by rfl) T.b_tuple (zay (vb_ 2) zaV)))
   zag)))
noncomputable abbrev zfA:Stmt:=top 41
noncomputable abbrev zgt:List Str:=["_law_script","_law_many","_law_found","_law_k","_law_total","_law_j","_law_part"]
noncomputable abbrev zeX:List Str:=["_law_script","_law_many"]
theorem zbx:FnScope zgt zeX (zac zfA):=⟨rfl,rfl,rfl,by decide +kernel,rfl,by decide +kernel,by decide +kernel⟩
noncomputable abbrev zfd:FS:=
 (seqF (setF q108 4 (f2 (gv 4) (f2 (f2 (gv 5) (ci 1) addA) (f2 (gv 6) (f2 (ci 10) (ci 30) powI) modI) mulI) addA)) zal)
noncomputable abbrev zfc:FS:=
 (seqF (setF q108 4 (ci 0)) (seqF (zbL q108 (fEnu (fSlS (gv 0) (zga (f2 (ci 1) (gv 3) addA)) (zga (ci 64)) (zga (gv 1)))) (ftT (zaC (ftN 5) (zaC (ftN 6) zc3))) zfd) (seqF (mutF "list" q108 2 (zab (gv 4) lNil) appD) zal)))
noncomputable def zd0:FS:=
 (seqF (setF q118 2 (mkL lNil)) (seqF (zbL q108 (fRng rng1 (zab (gv 1) lNil)) (ftN 3) zfc) (seqF (retF q118 (gv 2)) zal)))
noncomputable def zdU:List D->Res D:=fun ds=>outR false (zd0 (zat zgt.length ds))
theorem zph {P:Program} {w:World} {K:W.Frag} {mg:Str->Option Value} {base:Heap} (T:Txt K mg) (A:DefAt K mg "_law_all" zfA):Callee P w K mg base "_law_all" zeX [] 1 false q0 zdU:=by
 refine zaI (k:=0) (fs:=zd0) (m':=q118) A zbx rfl (fun _ _ _ _ _ _ us hl=>by obtain ⟨u0,u1,rfl⟩:=zdj us hl; kernel_rfl) fun f cdv A outer s H g E hr=>?_
 have hu1:=zbd hr
 have hu64:=hr.units
 exact (zaa (zd8 2 zbx.nd (by rfl) (by first | exact Or.inl rfl | exact Or.inr rfl) (zf8 zcb))
   (zaa (zen PassesOwn.never rfl (zbY (by rfl) T.b_range (zay (vb_ 1) zaV)) (zaw 3 zbx.nd (by rfl) (by first | exact Or.inl rfl | exact Or.inr rfl)) (zaa (zaT 4 zbx.nd (by rfl) (by first | exact Or.inl rfl | exact Or.inr rfl) zam)
   (zaa (zen PassesOwn.never rfl (zi6 (by rfl) T.b_enumerate (zsE (vb_ 0) (zfH (SE.toB (zbK (SE.toB zam) (vb_ 3)))) (zfH (SE.toB zam)) (zfH (vb_ 1)))) (zgV rfl (zbT (zaw 5 zbx.nd (by rfl) (by first | exact Or.inl rfl | exact Or.inr rfl)) (zbT (zaw 6 zbx.nd (by rfl) (by first | exact Or.inl rfl | exact Or.inr rfl)) zgW))) (zaa (zaT 4 zbx.nd (by rfl) (by first | exact Or.inl rfl | exact Or.inr rfl) (zbK (vb_ 4) (SE.toB (zf4 (SE.toB (zbK (vb_ 5) (SE.toB zam))) (SE.toB (zeL (vb_ 6) (SE.toB (zqo (SE.toB zam) (SE.toB zam)))))))))
   zag))
   (zaa (zh5 2 rfl PySem.F.plainAttrs_list PySem.F.slot_list_append PySem.F.type_list_append zb5 zgo (by rfl) (by first | exact Or.inl rfl | exact Or.inr (Or.inl rfl) | exact Or.inr (Or.inr rfl)) (za0 (v_ 4) zcb))
   zag))))
   (zaa (zki 2 rfl (zaJ (v_ 2)))
   zag)))
noncomputable abbrev ze0:Stmt:=top 29
noncomputable abbrev zf0:List Str:=["_law_script","_law_k","_law_cell_here","_law_stirred"]
noncomputable abbrev zdl:List Str:=["_law_script","_law_k"]
theorem zcB:FnScope zf0 zdl (zac ze0):=⟨rfl,rfl,rfl,by decide +kernel,rfl,by decide +kernel,by decide +kernel⟩
noncomputable def zcz:FS:=
 (seqF (setF q106 2 (ci 0)) (seqF (ifF q106 (zaU (f2 (gv 1) (fC (zab (gv 0) lNil) lenD) ltI)) (seqF (setF q106 2 (f2 (f2 (gv 0) (gv 1) ixA) (f2 (ci 10) (ci 60) powI) modI)) zal) zal) (seqF (ifF q106 (fAnd (zaU (f2 (fC (zab (gv 0) lNil) lenD) (ci 0) gtI)) (zaU (f2 (f2 (f2 (gv 0) (ci 0) ixA) (ci 2) modI) (ci 0) eqD))) (seqF (retF q106 (gv 2)) zal) zal) (seqF (setF q106 3 (f2 (f2 (f2 (f2 (f2 (f2 (f2 (gv 2) (f2 (f2 (ci 7) (gv 1) mulI) (gv 1) mulI) addA) (f2 (ci 13) (gv 1) mulI) addA) (ci 5) addA) (ci 48271) mulI) (ci 2147483647) modI) (ci 69621) mulI) (ci 1000000007) modI)) (seqF (retF q106 (f2 (f2 (f2 (f2 (f2 (gv 3) (ci 1) addA) (ci 40692) mulI) (ci 2147483629) modI) (ci 39373) mulI) (ci 999999937) modI)) zal)))))
noncomputable def zaE:List D->Res D:=fun ds=>outR false (zcz (zat zf0.length ds))
theorem zn1 {P:Program} {w:World} {K:W.Frag} {mg:Str->Option Value} {base:Heap} (T:Txt K mg) (A:DefAt K mg "_law_cell" ze0):Callee P w K mg base "_law_cell" zdl [] 1 false q0 zaE:=by
 refine zaI (k:=0) (fs:=zcz) (m':=q106) A zcB rfl (fun _ _ _ _ _ _ us hl=>by obtain ⟨u0,u1,rfl⟩:=zdj us hl; kernel_rfl) fun f cdv A outer s H g E hr=>?_
 have hu1:=zbd hr
 have hu64:=hr.units
 exact (zaa (zaT 2 zcB.nd (by rfl) (by first | exact Or.inl rfl | exact Or.inr rfl) zam)
   (zaa (s_if (q_lt (vb_ 1) (SE.toB (zeM (by rfl) T.b_len (zay (vb_ 0) zaV)))) (zaa (zaT 2 zcB.nd (by rfl) (by first | exact Or.inl rfl | exact Or.inr rfl) (zeL (SE.toB (zax hu1 (vb_ 0) (vb_ 1))) (SE.toB (zqo (SE.toB zam) (SE.toB zam)))))
   zag)
   zag)
   (zaa (s_if (SW.toQ (zsN (q_gt (SE.toB (zeM (by rfl) T.b_len (zay (vb_ 0) zaV))) (SE.toB zam)) (zqI (q_eq hu64 (SE.toB (zeL (SE.toB (zax hu1 (vb_ 0) (SE.toB zam))) (SE.toB zam))) (SE.toB zam))))) (zaa (zaJ (v_ 2))
   zag)
   zag)
   (zaa (zaT 3 zcB.nd (by rfl) (by first | exact Or.inl rfl | exact Or.inr rfl) (zeL (SE.toB (zf4 (SE.toB (zeL (SE.toB (zf4 (SE.toB (zbK (SE.toB (zbK (SE.toB (zbK (vb_ 2) (SE.toB (zf4 (SE.toB (zf4 (SE.toB zam) (vb_ 1))) (vb_ 1))))) (SE.toB (zf4 (SE.toB zam) (vb_ 1))))) (SE.toB zam))) (SE.toB zam))) (SE.toB zam))) (SE.toB zam))) (SE.toB zam)))
   (zaa (zaJ (zeL (SE.toB (zf4 (SE.toB (zeL (SE.toB (zf4 (SE.toB (zbK (vb_ 3) (SE.toB zam))) (SE.toB zam))) (SE.toB zam))) (SE.toB zam))) (SE.toB zam)))
   zag)))))
noncomputable abbrev zfy:Stmt:=top 30
noncomputable abbrev zgr:List Str:=["_law_cell_here","_law_m","_law_row_here","_law_thing"]
noncomputable abbrev zdO:List Str:=["_law_cell_here","_law_m"]
theorem zde:FnScope zgr zdO (zac zfy):=⟨rfl,rfl,rfl,by decide +kernel,rfl,by decide +kernel,by decide +kernel⟩
noncomputable abbrev zfb:FS:=
 (seqF (mutF "list" q115 2 (zab (f2 (gv 0) (f2 (gv 3) (ci 1) addA) modI) (zab (gv 3) lNil)) insD) (seqF (setF q115 0 (f2 (gv 0) (f2 (gv 3) (ci 1) addA) zjL)) zal))
noncomputable def zdY:FS:=
 (seqF (setF [.sh,.bw,.sh,.sh] 2 (mkL lNil)) (seqF (zbL q115 (fRng rng1 (zab (gv 1) lNil)) (ftN 3) zfb) (seqF (retF q115 (fC (zab (gv 2) lNil) tupD)) zal)))
noncomputable def zbB:List D->Res D:=fun ds=>outR false (zdY (zat zgr.length ds))
theorem zpf {P:Program} {w:World} {K:W.Frag} {mg:Str->Option Value} {base:Heap} (T:Txt K mg) (A:DefAt K mg "_law_row" zfy):Callee P w K mg base "_law_row" zdO [] 1 false [.sh,.bw] zbB:=by
 refine zaI (k:=0) (fs:=zdY) (m':=q115) A zde rfl (fun _ _ _ _ _ _ us hl=>by obtain ⟨u0,u1,rfl⟩:=zdj us hl; kernel_rfl) fun f cdv A outer s H g E hr=>?_
 have hu1:=zbd hr
 have hu64:=hr.units
 exact (zaa (zd8 2 zde.nd (by rfl) (by first | exact Or.inl rfl | exact Or.inr rfl) (zf8 zcb))
   (zaa (zen PassesOwn.never rfl (zbY (by rfl) T.b_range (zay (vb_ 1) zaV)) (zaw 3 zde.nd (by rfl) (by first | exact Or.inl rfl | exact Or.inr rfl)) (zaa (zh5 2 rfl PySem.F.plainAttrs_list PySem.F.slot_list_insert PySem.F.type_list_insert zkW zrI (by rfl) (by first | exact Or.inl rfl | exact Or.inr (Or.inl rfl) | exact Or.inr (Or.inr rfl)) (za0 (zeL (vb_ 0) (SE.toB (zbK (vb_ 3) (SE.toB zam)))) (za0 (v_ 3) zcb)))
   (zaa (zaT 0 zde.nd (by rfl) (by first | exact Or.inl rfl | exact Or.inr rfl) (znR (vb_ 0) (SE.toB (zbK (vb_ 3) (SE.toB zam)))))
   zag)))
   (zaa (zaJ (zdt (by rfl) T.b_tuple (zay (vb_ 2) zaV)))
   zag)))
noncomputable abbrev zce:Stmt:=top 39
noncomputable abbrev zcF:List Str:=["_law_script","_law_at","_law_n","_law_many","_law_weights","_law_whole","_law_found","_law_k"]
noncomputable abbrev zdE:List Str:=["_law_script","_law_at","_law_n","_law_many"]
theorem zbH:FnScope zcF zdE (zac zce):=⟨rfl,rfl,rfl,by decide +kernel,rfl,by decide +kernel,by decide +kernel⟩
noncomputable abbrev zeh:FS:=
 (seqF (mutF "list" q128 6 (zab (mkT (zab (zas (zab (f2 (gv 4) (gv 7) ixA) (zab (gv 5) lNil)) [] zcl) (zab (zas (zab (zas (zab (gv 0) (zab (f2 (f2 (gv 1) (f2 (ci 2) (gv 7) mulI) addA) (ci 1) addA) lNil)) [] zaE) (zab (gv 2) lNil)) [] zbB) lNil))) lNil) appD) zal)
noncomputable def zcQ:FS:=
 (seqF (setF q129 4 (zca 1 [0,1] (fRng rng1 (zab (gv 3) lNil)) (ftN 0) (fun _=>Res.ok true) (f2 (ci 1) (f2 (zas (zab (gv 1) (zab (f2 (gv 2) (f2 (ci 2) (gv 0) mulI) addA) lNil)) [] zaE) (ci 60) modI) addA))) (seqF (setF q119 5 (fC (zab (gv 4) lNil) sumD)) (seqF (setF q119 6 (mkL lNil)) (seqF (zbL q128 (fRng rng1 (zab (gv 3) lNil)) (ftN 7) zeh) (seqF (retF q119 (gv 6)) zal)))))
noncomputable def zcM:List D->Res D:=fun ds=>outR false (zcQ (zat zcF.length ds))
theorem zmQ {P:Program} {w:World} {K:W.Frag} {mg:Str->Option Value} {base:Heap} (T:Txt K mg) (A:DefAt K mg "_law_parts" zce) (c__law_cell:Callee P w K mg base "_law_cell" zdl [] 1 false q0 zaE) (c__law_row:Callee P w K mg base "_law_row" zdO [] 1 false [.sh,.bw] zbB) (c__law_low:Callee P w K mg base "_law_low" zdP [] 2 false q107 zcl):Callee P w K mg base "_law_parts" zdE [] 3 false q111 zcM:=by
 refine zaI (k:=2) (fs:=zcQ) (m':=q119) A zbH rfl (fun _ _ _ _ _ _ us hl=>by obtain ⟨u0,u1,u2,u3,rfl⟩:=zps us hl; kernel_rfl) fun f cdv A outer s H g E hr=>?_
 have hu1:=zbd hr
 have hu64:=hr.units
 exact (zaa (zex 4 (X:=(cxOf CX0 P w K mg base zcF "_law_parts" (zac zce) f cdv A outer s H E).nox) (m:=q129) (N':=["_law_k","_law_script","_law_at"]) (nl:=1) (cap:=[0,1]) zbH.nd rfl (by rfl) (by rfl) (zaY (osc:=(zac zce)) (ON:=zcF) rfl rfl (by decide +kernel)) (SIt.toC (zbY (by rfl) T.b_range (zay (vb_ 3) zaV))) (fun _ _ _ _ _ _=>(zaw 0 (show List.Nodup (["_law_k","_law_script","_law_at"]:List Str) by decide +kernel) (by rfl) (by first | exact Or.inl rfl | exact Or.inr rfl))) (zcs (by decide)) (fun _ _ _ _ _ _=>ze3) (fun _ _ _ _ _ _=>(zbK (SE.toB zam) (SE.toB (zeL (SE.toB (zar (dds:=[]) c__law_cell (hr.mono (by decide)) (m_bw (vb_ 1) (m_bw (SE.toB (zbK (vb_ 2) (SE.toB (zf4 (SE.toB zam) (vb_ 0))))) zaG)))) (SE.toB zam))))))
   (zaa (zaT 5 zbH.nd (by rfl) (by first | exact Or.inl rfl | exact Or.inr rfl) (zsC rfl (by rfl) T.b_sum (zay (vb_ 4) zaV)))
   (zaa (zd8 6 zbH.nd (by rfl) (by first | exact Or.inl rfl | exact Or.inr rfl) (zf8 zcb))
   (zaa (zen PassesOwn.never rfl (zbY (by rfl) T.b_range (zay (vb_ 3) zaV)) (zaw 7 zbH.nd (by rfl) (by first | exact Or.inl rfl | exact Or.inr rfl)) (zaa (zh5 6 rfl PySem.F.plainAttrs_list PySem.F.slot_list_append PySem.F.type_list_append zb5 zgo (by rfl) (by first | exact Or.inl rfl | exact Or.inr (Or.inl rfl) | exact Or.inr (Or.inr rfl)) (za0 (zhn (za0 (zar (dds:=[]) c__law_low (hr.mono (by decide)) (m_sh (zax hu1 (vb_ 4) (vb_ 7)) (m_sh (v_ 5) zaG))) (za0 (zar (dds:=[]) c__law_row (hr.mono (by decide)) (m_sh (zar (dds:=[]) c__law_cell (hr.mono (by decide)) (m_bw (vb_ 0) (m_bw (SE.toB (zbK (SE.toB (zbK (vb_ 1) (SE.toB (zf4 (SE.toB zam) (vb_ 7))))) (SE.toB zam))) zaG))) (m_bw (vb_ 2) zaG))) zcb))) zcb))
   zag))
   (zaa (zki 6 rfl (zaJ (v_ 6)))
   zag)))))
noncomputable abbrev zka:Stmt:=top 14
noncomputable abbrev zon:List Str:=["a","b"]
noncomputable abbrev zji:List Str:=["a","b"]
theorem zoy:FnScope zon zji (zac zka):=⟨rfl,rfl,rfl,by decide +kernel,rfl,by decide +kernel,by decide +kernel⟩
noncomputable def zjm:FS:=
 (seqF (retF q0 (f2 (f2 (f2 (gv 0) (ci 0) ixA) (f2 (gv 1) (ci 1) ixA) mulW) (f2 (f2 (gv 1) (ci 0) ixA) (f2 (gv 0) (ci 1) ixA) mulW) ltI)) zal)
noncomputable def zfe:List D->Res D:=fun ds=>outR false (zjm (zat zon.length ds))
theorem zsX {P:Program} {w:World} {K:W.Frag} {mg:Str->Option Value} {base:Heap} (T:Txt K mg) (A:DefAt K mg "less" zka):Callee P w K mg base "less" zji [] 1 false q0 zfe:=by
 refine zaI (k:=0) (fs:=zjm) (m':=q0) A zoy rfl (fun _ _ _ _ _ _ us hl=>by obtain ⟨u0,u1,rfl⟩:=zdj us hl; kernel_rfl) fun f cdv A outer s H g E hr=>?_
 have hu1:=zbd hr
 have hu64:=hr.units
 exact (zaa (zaJ (s_lt (SE.toB (zc1 (SE.toB (zax hu1 (vb_ 0) (SE.toB zam))) (SE.toB (zax hu1 (vb_ 1) (SE.toB zam))))) (SE.toB (zc1 (SE.toB (zax hu1 (vb_ 1) (SE.toB zam))) (SE.toB (zax hu1 (vb_ 0) (SE.toB zam)))))))
   zag)
noncomputable abbrev ziI:Stmt:=top 5
noncomputable abbrev zmb:List Str:=["wishes","hand","one","other","row"]
noncomputable abbrev ziA:List Str:=["wishes","hand","one","other"]
theorem ziN:FnScope zmb ziA (zac ziI):=⟨rfl,rfl,rfl,by decide +kernel,rfl,by decide +kernel,by decide +kernel⟩
noncomputable def zhe:FS:=
 (seqF (setF q116 4 (f2 (gv 0) (gv 1) ixA)) (seqF (retF q116 (f2 (fM "tuple" (gv 4) (zab (gv 2) lNil) zgR) (fM "tuple" (gv 4) (zab (gv 3) lNil) zgR) ltI)) zal))
noncomputable def zhb:List D->Res D:=fun ds=>outR false (zhe (zat zmb.length ds))
theorem zsj {P:Program} {w:World} {K:W.Frag} {mg:Str->Option Value} {base:Heap} (T:Txt K mg) (A:DefAt K mg "likes" ziI):Callee P w K mg base "likes" ziA [] 1 false q111 zhb:=by
 refine zaI (k:=0) (fs:=zhe) (m':=q116) A ziN rfl (fun _ _ _ _ _ _ us hl=>by obtain ⟨u0,u1,u2,u3,rfl⟩:=zps us hl; kernel_rfl) fun f cdv A outer s H g E hr=>?_
 have hu1:=zbd hr
 have hu64:=hr.units
 exact (zaa (zaT 4 ziN.nd (by rfl) (by first | exact Or.inl rfl | exact Or.inr rfl) (zax hu1 (vb_ 0) (vb_ 1)))
   (zaa (zaJ (s_lt (SE.toB (s_bm PySem.F.plainAttrs_tuple PySem.F.slot_tuple_index PySem.F.type_tuple_index zhy zhC (vb_ 4) (zay (vb_ 2) zaV))) (SE.toB (s_bm PySem.F.plainAttrs_tuple PySem.F.slot_tuple_index PySem.F.type_tuple_index zhy zhC (vb_ 4) (zay (vb_ 3) zaV)))))
   zag))
noncomputable abbrev zaH:Stmt:=top 21
noncomputable abbrev zaO:List Str:=["wishes","table","thing","other","having"]
noncomputable abbrev zbm:List Str:=["wishes","table","thing","other"]
theorem zbG:FnScope zaO zbm (zac zaH):=⟨rfl,rfl,rfl,by decide +kernel,rfl,by decide +kernel,by decide +kernel⟩
noncomputable def zbp:FS:=
 (seqF (setF q116 4 (zca 1 [2,1] (fRng rng1 (zab (fC (zab (gv 0) lNil) lenD) lNil)) (ftN 0) (fTru (zas (zab (fun _=>Res.ok (D.tup [D.int 0,D.int 1])) (zab (f2 (f2 (gv 2) (gv 0) ixA) (gv 1) ixA) lNil)) [] zfe)) (gv 0))) (seqF (retF [.bw,.bw,.bw,.bw,.ow] (zca 1 [0,3,2] (fSeq zbf (gv 4)) (ftN 0) (fTru (zas (zab (gv 1) (zab (gv 0) (zab (gv 2) (zab (gv 3) lNil)))) [] zhb)) (gv 0))) zal))
noncomputable def zaP:List D->Res D:=fun ds=>outR false (zbp (zat zaO.length ds))
theorem ziV {P:Program} {w:World} {K:W.Frag} {mg:Str->Option Value} {base:Heap} (T:Txt K mg) (A:DefAt K mg "hands_that_rise" zaH) (c_less:Callee P w K mg base "less" zji [] 1 false q0 zfe) (c_likes:Callee P w K mg base "likes" ziA [] 1 false q111 zhb):Callee P w K mg base "hands_that_rise" zbm [] 2 false q111 zaP:=by
 refine zaI (k:=1) (fs:=zbp) (m':=[.bw,.bw,.bw,.bw,.ow]) A zbG rfl (fun _ _ _ _ _ _ us hl=>by obtain ⟨u0,u1,u2,u3,rfl⟩:=zps us hl; kernel_rfl) fun f cdv A outer s H g E hr=>?_
 have hu1:=zbd hr
 have hu64:=hr.units
 exact (zaa (zex 4 (X:=(cxOf CX0 P w K mg base zaO "hands_that_rise" (zac zaH) f cdv A outer s H E).nox) (m:=q116) (N':=["hand","thing","table"]) (nl:=1) (cap:=[2,1]) zbG.nd rfl (by rfl) (by rfl) (zaY (osc:=(zac zaH)) (ON:=zaO) rfl rfl (by decide +kernel)) (SIt.toC (zbY (by rfl) T.b_range (zay (SE.toB (zeM (by rfl) T.b_len (zay (vb_ 0) zaV))) zaV))) (fun _ _ _ _ _ _=>(zaw 0 (show List.Nodup (["hand","thing","table"]:List Str) by decide +kernel) (by rfl) (by first | exact Or.inl rfl | exact Or.inr rfl))) (zcs (by decide)) (fun _ _ _ _ _ _=>(zhs (zd1 (SE.toB (zar (dds:=[]) c_less (hr.mono (by decide)) (m_bw (SE.toB (zoE (by rfl) T.k_NOUGHT)) (m_bw (SE.toB (zax hu1 (SE.toB (zax hu1 (vb_ 2) (vb_ 0))) (vb_ 1))) zaG))))))) (fun _ _ _ _ _ _=>(v_ 0)))
   (zaa (zaJ (SO.toE (ze5 (X:=(cxOf CX0 P w K mg base zaO "hands_that_rise" (zac zaH) f cdv A outer s H E).nox) (N':=["hand","wishes","other","thing"]) (nl:=1) (cap:=[0,3,2]) zbG.nd rfl (zaY (osc:=(zac zaH)) (ON:=zaO) rfl rfl (by decide +kernel)) (zdz (vb_ 4)) (fun _ _ _ _ _ _=>(zaw 0 (show List.Nodup (["hand","wishes","other","thing"]:List Str) by decide +kernel) (by rfl) (by first | exact Or.inl rfl | exact Or.inr rfl))) (zcs (by decide)) (fun _ _ _ _ _ _=>(zhs (zd1 (SE.toB (zar (dds:=[]) c_likes (hr.mono (by decide)) (m_bw (vb_ 1) (m_bw (vb_ 0) (m_bw (vb_ 2) (m_bw (vb_ 3) zaG))))))))) (fun _ _ _ _ _ _=>(v_ 0)))))
   zag))
noncomputable abbrev zdc:Stmt:=top 22
noncomputable abbrev zdQ:List Str:=["wishes","table","things","steps","thing"]
noncomputable abbrev zdM:List Str:=["wishes","table"]
theorem zco:FnScope zdQ zdM (zac zdc):=⟨rfl,rfl,rfl,by decide +kernel,rfl,by decide +kernel,by decide +kernel⟩
noncomputable abbrev zfa:FS:=
 (seqF (putF [.bw,.bw,.sh,.ow,.sh] 3 (gv 4) (zca 1 [0,1,4] (fSeq zbf (gv 2)) (ftN 0) (fTru (zas (zab (gv 1) (zab (gv 2) (zab (gv 3) (zab (gv 0) lNil)))) [] zaP)) (gv 0))) zal)
noncomputable def zdV:FS:=
 (seqF (setF q104 2 (fC (zab (fC (zab (gv 1) lNil) lenD) lNil) zk5)) (seqF (setF q104 3 (fun _=>Res.ok (D.dic []))) (seqF (zbL [.bw,.bw,.sh,.ow,.sh] (fSeq zbf (gv 2)) (ftN 4) zfa) (seqF (retF q104 (gv 3)) zal))))
noncomputable def zbz:List D->Res D:=fun ds=>outR false (zdV (zat zdQ.length ds))
theorem zpb {P:Program} {w:World} {K:W.Frag} {mg:Str->Option Value} {base:Heap} (T:Txt K mg) (A:DefAt K mg "steps_up" zdc) (c_hands_that_rise:Callee P w K mg base "hands_that_rise" zbm [] 2 false q111 zaP):Callee P w K mg base "steps_up" zdM [] 3 false q0 zbz:=by
 refine zaI (k:=2) (fs:=zdV) (m':=q104) A zco rfl (fun _ _ _ _ _ _ us hl=>by obtain ⟨u0,u1,rfl⟩:=zdj us hl; kernel_rfl) fun f cdv A outer s H g E hr=>?_
 have hu1:=zbd hr
 have hu64:=hr.units
 exact (zaa (zaT 2 zco.nd (by rfl) (by first | exact Or.inl rfl | exact Or.inr rfl) (SO.toE (zpj rfl (by rfl) T.b_list (by rfl) T.b_range (zay (SE.toB (zeM (by rfl) T.b_len (zay (vb_ 1) zaV))) zaV))))
   (zaa (zd8 3 zco.nd (by rfl) (by first | exact Or.inl rfl | exact Or.inr rfl) zre)
   (zaa (zen PassesOwn.never rfl (zm8 (v_ 2)) (zaw 4 zco.nd (by rfl) (by first | exact Or.inl rfl | exact Or.inr rfl)) (zaa (zmq 3 hu1 rfl (by rfl) (by first | exact Or.inl rfl | exact Or.inr (Or.inl rfl) | exact Or.inr (Or.inr rfl)) (vb_ 4) (SO.toE (ze5 (X:=(cxOf CX0 P w K mg base zdQ "steps_up" (zac zdc) f cdv A outer s H E).nox) (N':=["other","wishes","table","thing"]) (nl:=1) (cap:=[0,1,4]) zco.nd rfl (zaY (osc:=(zac zdc)) (ON:=zdQ) rfl rfl (by decide +kernel)) (zdz (vb_ 2)) (fun _ _ _ _ _ _=>(zaw 0 (show List.Nodup (["other","wishes","table","thing"]:List Str) by decide +kernel) (by rfl) (by first | exact Or.inl rfl | exact Or.inr rfl))) (zcs (by decide)) (fun _ _ _ _ _ _=>(zhs (zd1 (SE.toB (zar (dds:=[]) c_hands_that_rise (hr.mono (by decide)) (m_bw (vb_ 1) (m_bw (vb_ 2) (m_bw (vb_ 3) (m_bw (vb_ 0) zaG))))))))) (fun _ _ _ _ _ _=>(v_ 0)))))
   zag))
   (zaa (zki 3 rfl (zaJ (v_ 3)))
   zag))))
noncomputable abbrev zbD:Stmt:=top 18
noncomputable abbrev zb0:List Str:=["steps","place","places"]
noncomputable abbrev zbZ:List Str:=["steps","place","places"]
theorem zds:FnScope zb0 zbZ (zac zbD):=⟨rfl,rfl,rfl,by decide +kernel,rfl,by decide +kernel,by decide +kernel⟩
noncomputable def zb3:FS:=
 (seqF (retF q109 (zca 1 [2] (fSeq zbf (f2 (gv 0) (gv 1) ixA)) (ftN 0) (zaU (f2 (gv 0) (gv 1) inD)) (gv 0))) zal)
noncomputable def za6:List D->Res D:=fun ds=>outR false (zb3 (zat zb0.length ds))
theorem zkR {P:Program} {w:World} {K:W.Frag} {mg:Str->Option Value} {base:Heap} (T:Txt K mg) (A:DefAt K mg "steps_within" zbD):Callee P w K mg base "steps_within" zbZ [] 1 false q109 za6:=by
 refine zaI (k:=0) (fs:=zb3) (m':=q109) A zds rfl (fun _ _ _ _ _ _ us hl=>by obtain ⟨u0,u1,u2,rfl⟩:=zjG us hl; kernel_rfl) fun f cdv A outer s H g E hr=>?_
 have hu1:=zbd hr
 have hu64:=hr.units
 exact (zaa (zaJ (SO.toE (ze5 (X:=(cxOf CX0 P w K mg base zb0 "steps_within" (zac zbD) f cdv A outer s H E).nox) (N':=["other","places"]) (nl:=1) (cap:=[2]) zds.nd rfl (zaY (osc:=(zac zbD)) (ON:=zb0) rfl rfl (by decide +kernel)) (zdz (SE.toB (zax hu1 (vb_ 0) (vb_ 1)))) (fun _ _ _ _ _ _=>(zaw 0 (show List.Nodup (["other","places"]:List Str) by decide +kernel) (by rfl) (by first | exact Or.inl rfl | exact Or.inr rfl))) (zcs (by decide)) (fun _ _ _ _ _ _=>(zhs (q_in hu1 (vb_ 0) (vb_ 1)))) (fun _ _ _ _ _ _=>(v_ 0)))))
   zag)
noncomputable abbrev zaW:Stmt:=top 17
noncomputable abbrev za2:List Str:=["steps","places","staying"]
noncomputable abbrev zby:List Str:=["steps"]
theorem zaK:FnScope za2 zby (zac zaW):=⟨rfl,rfl,rfl,by decide +kernel,rfl,by decide +kernel,by decide +kernel⟩
noncomputable abbrev zb6:FQ:=
 (zaU (f2 (fC (zab (gv 2) lNil) lenD) (fC (zab (gv 1) lNil) lenD) neD))
noncomputable abbrev zbh:FS:=
 (seqF (setF q105 1 (gv 2)) (seqF (setF q105 2 (zca 1 [0,1] (fSeq zbf (gv 1)) (ftN 0) (fTru (zas (zab (gv 1) (zab (gv 0) (zab (gv 2) lNil))) [] za6)) (gv 0))) zal))
noncomputable def za4:FS:=
 (seqF (setF q105 1 (mkL lNil)) (seqF (setF q105 2 (f1 (gv 0) zle)) (seqF (zbr q105 zb6 zbh 64) (seqF (retF q105 (gv 1)) zal))))
noncomputable def za3:List D->Res D:=fun ds=>outR false (za4 (zat za2.length ds))
theorem zhY {P:Program} {w:World} {K:W.Frag} {mg:Str->Option Value} {base:Heap} (T:Txt K mg) (A:DefAt K mg "places_that_go_on" zaW) (c_steps_within:Callee P w K mg base "steps_within" zbZ [] 1 false q109 za6):Callee P w K mg base "places_that_go_on" zby [] 2 false [Md.bw] za3:=by
 refine zaI (k:=1) (fs:=za4) (m':=q105) A zaK rfl (fun _ _ _ _ _ _ us hl=>by obtain ⟨u0,rfl⟩:=zjH us hl; kernel_rfl) fun f cdv A outer s H g E hr=>?_
 have hu1:=zbd hr
 have hu64:=hr.units
 exact (zaa (zaT 1 zaK.nd (by rfl) (by first | exact Or.inl rfl | exact Or.inr rfl) (SO.toE (zf8 zcb)))
   (zaa (zaT 2 zaK.nd (by rfl) (by first | exact Or.inl rfl | exact Or.inr rfl) (SO.toE (zrd rfl (by rfl) T.b_list (vb_ 0))))
   (zaa (zgB 64 PassesOwn.never (q_ne hu64 (SE.toB (zeM (by rfl) T.b_len (zay (vb_ 2) zaV))) (SE.toB (zeM (by rfl) T.b_len (zay (vb_ 1) zaV)))) (zhi (m':=[.bw,.sh,.ow]) 2 (zaa (zaT 1 zaK.nd (by rfl) (by first | exact Or.inl rfl | exact Or.inr rfl) (v_ 2))
   (zaa (zex 2 (X:=(cxOf CX0 P w K mg base za2 "places_that_go_on" (zac zaW) f cdv A outer s H E).nox) (m:=q105) (N':=["place","steps","places"]) (nl:=1) (cap:=[0,1]) zaK.nd rfl (by rfl) (by rfl) (zaY (osc:=(zac zaW)) (ON:=za2) rfl rfl (by decide +kernel)) (zdz (vb_ 1)) (fun _ _ _ _ _ _=>(zaw 0 (show List.Nodup (["place","steps","places"]:List Str) by decide +kernel) (by rfl) (by first | exact Or.inl rfl | exact Or.inr rfl))) (zcs (by decide)) (fun _ _ _ _ _ _=>(zhs (zd1 (SE.toB (zar (dds:=[]) c_steps_within (hr.mono (by decide)) (m_bw (vb_ 1) (m_bw (vb_ 0) (m_bw (vb_ 2) zaG)))))))) (fun _ _ _ _ _ _=>(v_ 0)))
   zag)) rfl))
   (zaa (zaJ (v_ 1))
   zag))))
noncomputable abbrev zdo:Stmt:=top 19
noncomputable abbrev zdH:List Str:=["steps","places","walk","place"]
noncomputable abbrev zbN:List Str:=["steps"]
theorem za5:FnScope zdH zbN (zac zdo):=⟨rfl,rfl,rfl,by decide +kernel,rfl,by decide +kernel,by decide +kernel⟩
noncomputable abbrev zc5:FQ:=
 (zaU (f2 (gv 3) (gv 2) ninD))
noncomputable abbrev zc6:FS:=
 (seqF (mutF "list" q112 2 (zab (gv 3) lNil) appD) (seqF (setF q112 3 (f2 (zas (zab (gv 0) (zab (gv 3) (zab (gv 1) lNil))) [] za6) (ci 0) ixA)) zal))
noncomputable def zaZ:FS:=
 (seqF (setF q120 1 (zas (zab (gv 0) lNil) [] za3)) (seqF (ifF q120 (fNot (fTru (gv 1))) (seqF (retF q120 (fun _=>Res.ok D.non)) zal) zal) (seqF (setF q120 2 (mkL lNil)) (seqF (setF q112 3 (f2 (gv 1) (ci 0) ixA)) (seqF (zbr q112 zc5 zc6 64) (seqF (retF q112 (fSl (gv 2) (zga (fM "list" (gv 2) (zab (gv 3) lNil) zio)) (fun _=>Res.ok none))) zal))))))
noncomputable def zaR:List D->Res D:=fun ds=>outR false (zaZ (zat zdH.length ds))
theorem zjU {P:Program} {w:World} {K:W.Frag} {mg:Str->Option Value} {base:Heap} (T:Txt K mg) (A:DefAt K mg "ring_of_steps" zdo) (c_places_that_go_on:Callee P w K mg base "places_that_go_on" zby [] 2 false [Md.bw] za3) (c_steps_within:Callee P w K mg base "steps_within" zbZ [] 1 false q109 za6):Callee P w K mg base "ring_of_steps" zbN [] 3 false [Md.bw] zaR:=by
 refine zaI (k:=2) (fs:=zaZ) (m':=q112) A za5 rfl (fun _ _ _ _ _ _ us hl=>by obtain ⟨u0,rfl⟩:=zjH us hl; kernel_rfl) fun f cdv A outer s H g E hr=>?_
 have hu1:=zbd hr
 have hu64:=hr.units
 exact (zaa (zaT 1 za5.nd (by rfl) (by first | exact Or.inl rfl | exact Or.inr rfl) (zar (dds:=[]) c_places_that_go_on (hr.mono (by decide)) (m_bw (vb_ 0) zaG)))
   (zaa (s_if (zf5 (zd1 (vb_ 1))) (zaa (zaJ zeK)
   zag)
   zag)
   (zaa (zd8 2 za5.nd (by rfl) (by first | exact Or.inl rfl | exact Or.inr rfl) (zf8 zcb))
   (zaa (zaT 3 za5.nd (by rfl) (by first | exact Or.inl rfl | exact Or.inr rfl) (zax hu1 (vb_ 1) (SE.toB zam)))
   (zaa (zgB 64 PassesOwn.never (zsL hu1 (vb_ 3) (vb_ 2)) (zaa (zh5 2 rfl PySem.F.plainAttrs_list PySem.F.slot_list_append PySem.F.type_list_append zb5 zgo (by rfl) (by first | exact Or.inl rfl | exact Or.inr (Or.inl rfl) | exact Or.inr (Or.inr rfl)) (za0 (v_ 3) zcb))
   (zaa (zaT 3 za5.nd (by rfl) (by first | exact Or.inl rfl | exact Or.inr rfl) (zax hu1 (SE.toB (zar (dds:=[]) c_steps_within (hr.mono (by decide)) (m_bw (vb_ 0) (m_bw (vb_ 3) (m_bw (vb_ 1) zaG))))) (SE.toB zam)))
   zag)))
   (zaa (zaJ (zoz (vb_ 2) (zfH (SE.toB (s_bm PySem.F.plainAttrs_list PySem.F.slot_list_index PySem.F.type_list_index zkX zlp (vb_ 2) (zay (vb_ 3) zaV)))) ziU))
   zag))))))
noncomputable abbrev zhh:Stmt:=top 23
noncomputable abbrev zjj:List Str:=["steps","so_far","told","thing","other"]
noncomputable abbrev zg8:List Str:=["steps","so_far"]
theorem zew:FnScope zjj zg8 (zac zhh):=⟨rfl,rfl,rfl,by decide +kernel,rfl,by decide +kernel,by decide +kernel⟩
noncomputable abbrev zgv:FS:=
 (seqF (putF q125 2 (gv 4) (fC (zab (f2 (gv 2) (gv 4) ixA) (zab (f2 (f2 (gv 2) (gv 3) ixA) (ci 1) addA) lNil)) maxD)) zal)
noncomputable abbrev zgu:FS:=
 (seqF (zbL q125 (fSeq zbf (f2 (gv 0) (gv 3) ixA)) (ftN 4) zgv) zal)
noncomputable def zfr:FS:=
 (seqF (setF q126 2 (fC (zab (gv 1) lNil) zik)) (seqF (zbL q125 (fSeq zfU (gv 0)) (ftN 3) zgu) (seqF (retF q126 (gv 2)) zal)))
noncomputable def zfp:List D->Res D:=fun ds=>outR false (zfr (zat zjj.length ds))
theorem zra {P:Program} {w:World} {K:W.Frag} {mg:Str->Option Value} {base:Heap} (T:Txt K mg) (A:DefAt K mg "raised" zhh):Callee P w K mg base "raised" zg8 [] 1 false [.sh,.bw] zfp:=by
 refine zaI (k:=0) (fs:=zfr) (m':=q126) A zew rfl (fun _ _ _ _ _ _ us hl=>by obtain ⟨u0,u1,rfl⟩:=zdj us hl; kernel_rfl) fun f cdv A outer s H g E hr=>?_
 have hu1:=zbd hr
 have hu64:=hr.units
 exact (zaa (zd8 2 zew.nd (by rfl) (by first | exact Or.inl rfl | exact Or.inr rfl) (zn2 (by rfl) T.b_list (zay (vb_ 1) zaV)))
   (zaa (znP PassesOwn.never rfl (v_ 0) (fun _=>(zaw 3 zew.nd (by rfl) (by first | exact Or.inl rfl | exact Or.inr rfl))) (fun _=>(zaa (zen PassesOwn.never rfl (zm8 (zax hu1 (vb_ 0) (vb_ 3))) (zaw 4 zew.nd (by rfl) (by first | exact Or.inl rfl | exact Or.inr rfl)) (zaa (zmq 2 hu1 rfl (by rfl) (by first | exact Or.inl rfl | exact Or.inr (Or.inl rfl) | exact Or.inr (Or.inr rfl)) (vb_ 4) (zsH rfl (by rfl) T.b_max (zay (SE.toB (zax hu1 (vb_ 2) (vb_ 4))) (zay (SE.toB (zbK (SE.toB (zax hu1 (vb_ 2) (vb_ 3))) (SE.toB zam))) zaV))))
   zag))
   zag)))
   (zaa (zki 2 rfl (zaJ (v_ 2)))
   zag)))
noncomputable abbrev zge:Stmt:=top 24
noncomputable abbrev zhU:List Str:=["wishes","table","steps","told","turn"]
noncomputable abbrev zfX:List Str:=["wishes","table"]
theorem zcZ:FnScope zhU zfX (zac zge):=⟨rfl,rfl,rfl,by decide +kernel,rfl,by decide +kernel,by decide +kernel⟩
noncomputable abbrev zf1:FS:=
 (seqF (setF q104 3 (zas (zab (gv 2) (zab (gv 3) lNil)) [] zfp)) zal)
noncomputable def zda:FS:=
 (seqF (setF q104 2 (zas (zab (gv 0) (zab (gv 1) lNil)) [] zbz)) (seqF (ifF q104 (zaU (f2 (zas (zab (gv 2) lNil) [] zaR) (fun _=>Res.ok D.non) isnD)) (seqF (retF q104 (fun _=>Res.ok D.non)) zal) zal) (seqF (setF q104 3 (f2 (mkL (zab (ci 0) lNil)) (fC (zab (gv 2) lNil) lenD) repD)) (seqF (zbL q104 (fSeq zfU (gv 2)) (ftN 4) zf1) (seqF (retF q104 (fC (zab (gv 3) lNil) tupD)) zal)))))
noncomputable def zdI:List D->Res D:=fun ds=>outR false (zda (zat zhU.length ds))
theorem zpO {P:Program} {w:World} {K:W.Frag} {mg:Str->Option Value} {base:Heap} (T:Txt K mg) (A:DefAt K mg "heights" zge) (c_steps_up:Callee P w K mg base "steps_up" zdM [] 3 false q0 zbz) (c_ring_of_steps:Callee P w K mg base "ring_of_steps" zbN [] 3 false [Md.bw] zaR) (c_raised:Callee P w K mg base "raised" zg8 [] 1 false [.sh,.bw] zfp):Callee P w K mg base "heights" zfX [] 4 false q0 zdI:=by
 refine zaI (k:=3) (fs:=zda) (m':=q104) A zcZ rfl (fun _ _ _ _ _ _ us hl=>by obtain ⟨u0,u1,rfl⟩:=zdj us hl; kernel_rfl) fun f cdv A outer s H g E hr=>?_
 have hu1:=zbd hr
 have hu64:=hr.units
 exact (zaa (zaT 2 zcZ.nd (by rfl) (by first | exact Or.inl rfl | exact Or.inr rfl) (zar (dds:=[]) c_steps_up (hr.mono (by decide)) (m_bw (vb_ 0) (m_bw (vb_ 1) zaG))))
   (zaa (s_if (zsM (SE.toB (zar (dds:=[]) c_ring_of_steps (hr.mono (by decide)) (m_bw (vb_ 2) zaG))) (SE.toB zeK)) (zaa (zaJ zeK)
   zag)
   zag)
   (zaa (zaT 3 zcZ.nd (by rfl) (by first | exact Or.inl rfl | exact Or.inr rfl) (SO.toE (zsY (zf8 (za0 zam zcb)) (SE.toB (zeM (by rfl) T.b_len (zay (vb_ 2) zaV))))))
   (zaa (znP PassesOwn.never rfl (v_ 2) (fun _=>(zaw 4 zcZ.nd (by rfl) (by first | exact Or.inl rfl | exact Or.inr rfl))) (fun _=>(zaa (zaT 3 zcZ.nd (by rfl) (by first | exact Or.inl rfl | exact Or.inr rfl) (zar (dds:=[]) c_raised (hr.mono (by decide)) (m_sh (v_ 2) (m_bw (vb_ 3) zaG))))
   zag)))
   (zaa (zaJ (zdt (by rfl) T.b_tuple (zay (vb_ 3) zaV)))
   zag)))))
noncomputable abbrev zd5:Stmt:=top 7
noncomputable abbrev zeG:List Str:=["hands"]
noncomputable abbrev zcg:List Str:=["hands"]
theorem zf3:FnScope zeG zcg (zac zd5):=⟨rfl,rfl,rfl,by decide +kernel,rfl,by decide +kernel,by decide +kernel⟩
noncomputable def zbo:FS:=
 (seqF (retF [Md.bw] (f2 (fSl (gv 0) (zga (ci 1)) (fun _=>Res.ok none)) (fSl (gv 0) (fun _=>Res.ok none) (zga (ci 1))) addE)) zal)
noncomputable def zaN:List D->Res D:=fun ds=>outR false (zbo (zat zeG.length ds))
theorem zmd {P:Program} {w:World} {K:W.Frag} {mg:Str->Option Value} {base:Heap} (T:Txt K mg) (A:DefAt K mg "ones_behind" zd5):Callee P w K mg base "ones_behind" zcg [] 1 false [Md.bw] zaN:=by
 refine zaI (k:=0) (fs:=zbo) (m':=[Md.bw]) A zf3 rfl (fun _ _ _ _ _ _ us hl=>by obtain ⟨u0,rfl⟩:=zjH us hl; kernel_rfl) fun f cdv A outer s H g E hr=>?_
 have hu1:=zbd hr
 have hu64:=hr.units
 exact (zaa (zaJ (zqt (SE.toB (zoz (vb_ 0) (zfH (SE.toB zam)) ziU)) (SE.toB (zoz (vb_ 0) ziU (zfH (SE.toB zam))))))
   zag)
noncomputable abbrev zes:Stmt:=top 25
noncomputable abbrev ze7:List Str:=["wishes","table","things","ring","thing","other"]
noncomputable abbrev zdC:List Str:=["wishes","table"]
theorem zbF:FnScope ze7 zdC (zac zes):=⟨rfl,rfl,rfl,by decide +kernel,rfl,by decide +kernel,by decide +kernel⟩
noncomputable abbrev zee:FS:=
 (seqF (mutF "list" q121 3 (zab (mkT (zab (f2 (zas (zab (gv 0) (zab (gv 1) (zab (gv 4) (zab (gv 5) lNil)))) [] zaP) (ci 0) ixA) (zab (gv 4) lNil))) lNil) appD) zal)
noncomputable def zbC:FS:=
 (seqF (setF q122 2 (zas (zab (zas (zab (gv 0) (zab (gv 1) lNil)) [] zbz) lNil) [] zaR)) (seqF (ifF q122 (zaU (f2 (gv 2) (fun _=>Res.ok D.non) isD)) (seqF (retF q122 (fun _=>Res.ok D.non)) zal) zal) (seqF (setF q122 3 (mkL lNil)) (seqF (zbL q121 (fZip (gv 2) (zas (zab (gv 2) lNil) [] zaN)) (ftT (zaC (ftN 4) (zaC (ftN 5) zc3))) zee) (seqF (retF q121 (fC (zab (gv 3) lNil) tupD)) zal)))))
noncomputable def zbA:List D->Res D:=fun ds=>outR false (zbC (zat ze7.length ds))
theorem zmO {P:Program} {w:World} {K:W.Frag} {mg:Str->Option Value} {base:Heap} (T:Txt K mg) (A:DefAt K mg "share_ring" zes) (c_steps_up:Callee P w K mg base "steps_up" zdM [] 3 false q0 zbz) (c_ring_of_steps:Callee P w K mg base "ring_of_steps" zbN [] 3 false [Md.bw] zaR) (c_ones_behind:Callee P w K mg base "ones_behind" zcg [] 1 false [Md.bw] zaN) (c_hands_that_rise:Callee P w K mg base "hands_that_rise" zbm [] 2 false q111 zaP):Callee P w K mg base "share_ring" zdC [] 4 false q0 zbA:=by
 refine zaI (k:=3) (fs:=zbC) (m':=q121) A zbF rfl (fun _ _ _ _ _ _ us hl=>by obtain ⟨u0,u1,rfl⟩:=zdj us hl; kernel_rfl) fun f cdv A outer s H g E hr=>?_
 have hu1:=zbd hr
 have hu64:=hr.units
 exact (zaa (zaT 2 zbF.nd (by rfl) (by first | exact Or.inl rfl | exact Or.inr rfl) (zar (dds:=[]) c_ring_of_steps (hr.mono (by decide)) (m_bw (SE.toB (zar (dds:=[]) c_steps_up (hr.mono (by decide)) (m_bw (vb_ 0) (m_bw (vb_ 1) zaG)))) zaG)))
   (zaa (s_if (q_is (vb_ 2) (SE.toB zeK)) (zaa (zaJ zeK)
   zag)
   zag)
   (zaa (zd8 3 zbF.nd (by rfl) (by first | exact Or.inl rfl | exact Or.inr rfl) (zf8 zcb))
   (zaa (zen PassesOwn.never rfl (zpw (by rfl) T.b_zip (v_ 2) (zar (dds:=[]) c_ones_behind (hr.mono (by decide)) (m_bw (vb_ 2) zaG))) (zgV rfl (zbT (zaw 4 zbF.nd (by rfl) (by first | exact Or.inl rfl | exact Or.inr rfl)) (zbT (zaw 5 zbF.nd (by rfl) (by first | exact Or.inl rfl | exact Or.inr rfl)) zgW))) (zaa (zh5 3 rfl PySem.F.plainAttrs_list PySem.F.slot_list_append PySem.F.type_list_append zb5 zgo (by rfl) (by first | exact Or.inl rfl | exact Or.inr (Or.inl rfl) | exact Or.inr (Or.inr rfl)) (za0 (zhn (za0 (zax hu1 (SE.toB (zar (dds:=[]) c_hands_that_rise (hr.mono (by decide)) (m_bw (vb_ 0) (m_bw (vb_ 1) (m_bw (vb_ 4) (m_bw (vb_ 5) zaG)))))) (SE.toB zam)) (za0 (v_ 4) zcb))) zcb))
   zag))
   (zaa (zaJ (zdt (by rfl) T.b_tuple (zay (vb_ 3) zaV)))
   zag)))))
noncomputable abbrev zcm:Stmt:=top 10
noncomputable abbrev zcE:List Str:=["one","other","rest"]
noncomputable abbrev zbO:List Str:=["one","other"]
theorem za1:FnScope zcE zbO (zac zcm):=⟨rfl,rfl,rfl,by decide +kernel,rfl,by decide +kernel,by decide +kernel⟩
noncomputable abbrev zd3:FQ:=
 (zaU (f2 (gv 1) (ci 0) neD))
noncomputable abbrev zd4:FS:=
 (seqF (setF q101 2 (f2 (gv 0) (gv 1) modI)) (seqF (setF q101 0 (gv 1)) (seqF (setF q101 1 (gv 2)) zal)))
noncomputable def zcO:FS:=
 (seqF (zbr q101 zd3 zd4 1000) (seqF (retF q101 (fC (zab (gv 0) lNil) absD)) zal))
noncomputable def za9:List D->Res D:=fun ds=>outR false (zcO (zat zcE.length ds))
theorem zid {P:Program} {w:World} {K:W.Frag} {mg:Str->Option Value} {base:Heap} (T:Txt K mg) (A:DefAt K mg "greatest_divisor" zcm):Callee P w K mg base "greatest_divisor" zbO [] 1 false q107 za9:=by
 refine zaI (k:=0) (fs:=zcO) (m':=q101) A za1 rfl (fun _ _ _ _ _ _ us hl=>by obtain ⟨u0,u1,rfl⟩:=zdj us hl; kernel_rfl) fun f cdv A outer s H g E hr=>?_
 have hu1:=zbd hr
 have hu64:=hr.units
 exact (zaa (zgB 1000 PassesOwn.never (q_ne hu64 (vb_ 1) (SE.toB zam)) (zaa (zaT 2 za1.nd (by rfl) (by first | exact Or.inl rfl | exact Or.inr rfl) (zeL (vb_ 0) (vb_ 1)))
   (zaa (zaT 0 za1.nd (by rfl) (by first | exact Or.inl rfl | exact Or.inr rfl) (v_ 1))
   (zaa (zaT 1 za1.nd (by rfl) (by first | exact Or.inl rfl | exact Or.inr rfl) (v_ 2))
   zag))))
   (zaa (zaJ (zqu (by rfl) T.b_abs (zay (vb_ 0) zaV)))
   zag))
noncomputable abbrev zfw:Stmt:=top 4
noncomputable abbrev zgp:List Str:=["value"]
noncomputable abbrev zeV:List Str:=["value"]
theorem zh4:FnScope zgp zeV (zac zfw):=⟨rfl,rfl,rfl,by decide +kernel,rfl,by decide +kernel,by decide +kernel⟩
noncomputable def zgw:FS:=
 (seqF (retF [Md.bw] (vAnd (f1 (gv 0) (isiD "int")) (vNot (f1 (gv 0) (isiD "bool"))))) zal)
noncomputable def zc8:List D->Res D:=fun ds=>outR false (zgw (zat zgp.length ds))
theorem zpc {P:Program} {w:World} {K:W.Frag} {mg:Str->Option Value} {base:Heap} (T:Txt K mg) (A:DefAt K mg "is_whole" zfw):Callee P w K mg base "is_whole" zeV [] 1 false [Md.bw] zc8:=by
 refine zaI (k:=0) (fs:=zgw) (m':=[Md.bw]) A zh4 rfl (fun _ _ _ _ _ _ us hl=>by obtain ⟨u0,rfl⟩:=zjH us hl; kernel_rfl) fun f cdv A outer s H g E hr=>?_
 have hu1:=zbd hr
 have hu64:=hr.units
 exact (zaa (zaJ (zoF (zh6 "int" "int" rfl (zlb _) (by rfl) T.b_isinstance (by rfl) T.b_int (vb_ 0)) (zoC (zqq (zh6 "bool" "bool" rfl (zi4 _) (by rfl) T.b_isinstance (by rfl) T.b_bool (vb_ 0))))))
   zag)
noncomputable abbrev zfx:Stmt:=top 11
noncomputable abbrev zgq:List Str:=["top","bottom","divisor"]
noncomputable abbrev zdN:List Str:=["top","bottom"]
theorem zem:FnScope zgq zdN (zac zfx):=⟨rfl,rfl,rfl,by decide +kernel,rfl,by decide +kernel,by decide +kernel⟩
noncomputable def zdW:FS:=
 (seqF (ifF q101 (fOr (fNot (fTru (zas (zab (gv 0) lNil) [] zc8))) (fOr (fNot (fTru (zas (zab (gv 1) lNil) [] zc8))) (zaU (f2 (gv 1) (ci 0) eqD)))) (seqF (fun _=>Out.stuck) zal) zal) (seqF (setF q101 2 (zas (zab (gv 0) (zab (gv 1) lNil)) [] za9)) (seqF (ifF q101 (zaU (f2 (gv 1) (ci 0) ltI)) (seqF (setF q101 2 (f1 (gv 2) negI)) zal) zal) (seqF (retF q101 (mkT (zab (f2 (gv 0) (gv 2) zis) (zab (f2 (gv 1) (gv 2) zis) lNil)))) zal))))
noncomputable def zck:List D->Res D:=fun ds=>outR false (zdW (zat zgq.length ds))
theorem zpd {P:Program} {w:World} {K:W.Frag} {mg:Str->Option Value} {base:Heap} (T:Txt K mg) (A:DefAt K mg "fraction" zfx) (c_is_whole:Callee P w K mg base "is_whole" zeV [] 1 false [Md.bw] zc8) (c_greatest_divisor:Callee P w K mg base "greatest_divisor" zbO [] 1 false q107 za9):Callee P w K mg base "fraction" zdN [] 2 false q107 zck:=by
 refine zaI (k:=1) (fs:=zdW) (m':=q101) A zem rfl (fun _ _ _ _ _ _ us hl=>by obtain ⟨u0,u1,rfl⟩:=zdj us hl; kernel_rfl) fun f cdv A outer s H g E hr=>?_
 have hu1:=zbd hr
 have hu64:=hr.units
 exact (zaa (s_if (SW.toQ (q_or (zf5 (zd1 (SE.toB (zar (dds:=[]) c_is_whole (hr.mono (by decide)) (m_bw (vb_ 0) zaG))))) (q_or (zf5 (zd1 (SE.toB (zar (dds:=[]) c_is_whole (hr.mono (by decide)) (m_bw (vb_ 1) zaG))))) (zjA (q_eq hu64 (vb_ 1) (SE.toB zam)))))) (zaa zoD
   zag)
   zag)
   (zaa (zaT 2 zem.nd (by rfl) (by first | exact Or.inl rfl | exact Or.inr rfl) (zar (dds:=[]) c_greatest_divisor (hr.mono (by decide)) (m_sh (v_ 0) (m_sh (v_ 1) zaG))))
   (zaa (s_if (q_lt (vb_ 1) (SE.toB zam)) (zaa (zaT 2 zem.nd (by rfl) (by first | exact Or.inl rfl | exact Or.inr rfl) (zsG (vb_ 2)))
   zag)
   zag)
   (zaa (zaJ (zhn (za0 (zgC (vb_ 0) (vb_ 2)) (za0 (zgC (vb_ 1) (vb_ 2)) zcb))))
   zag))))
noncomputable abbrev ziH:Stmt:=top 13
noncomputable abbrev zma:List Str:=["a","b"]
noncomputable abbrev ziz:List Str:=["a","b"]
theorem zmp:FnScope zma ziz (zac ziH):=⟨rfl,rfl,rfl,by decide +kernel,rfl,by decide +kernel,by decide +kernel⟩
noncomputable def zhd:FS:=
 (seqF (retF q0 (zas (zab (f2 (f2 (f2 (gv 0) (ci 0) ixA) (f2 (gv 1) (ci 1) ixA) mulW) (f2 (f2 (gv 1) (ci 0) ixA) (f2 (gv 0) (ci 1) ixA) mulW) subI) (zab (f2 (f2 (gv 0) (ci 1) ixA) (f2 (gv 1) (ci 1) ixA) mulW) lNil)) [] zck)) zal)
noncomputable def zeq:List D->Res D:=fun ds=>outR false (zhd (zat zma.length ds))
theorem zsi {P:Program} {w:World} {K:W.Frag} {mg:Str->Option Value} {base:Heap} (T:Txt K mg) (A:DefAt K mg "minus" ziH) (c_fraction:Callee P w K mg base "fraction" zdN [] 2 false q107 zck):Callee P w K mg base "minus" ziz [] 3 false q0 zeq:=by
 refine zaI (k:=2) (fs:=zhd) (m':=q0) A zmp rfl (fun _ _ _ _ _ _ us hl=>by obtain ⟨u0,u1,rfl⟩:=zdj us hl; kernel_rfl) fun f cdv A outer s H g E hr=>?_
 have hu1:=zbd hr
 have hu64:=hr.units
 exact (zaa (zaJ (zar (dds:=[]) c_fraction (hr.mono (by decide)) (m_sh (zsD (SE.toB (zc1 (SE.toB (zax hu1 (vb_ 0) (SE.toB zam))) (SE.toB (zax hu1 (vb_ 1) (SE.toB zam))))) (SE.toB (zc1 (SE.toB (zax hu1 (vb_ 1) (SE.toB zam))) (SE.toB (zax hu1 (vb_ 0) (SE.toB zam)))))) (m_sh (zc1 (SE.toB (zax hu1 (vb_ 0) (SE.toB zam))) (SE.toB (zax hu1 (vb_ 1) (SE.toB zam)))) zaG))))
   zag)
noncomputable abbrev zj9:Stmt:=top 12
noncomputable abbrev zom:List Str:=["a","b"]
noncomputable abbrev zl9:List Str:=["a","b"]
theorem zox:FnScope zom zl9 (zac zj9):=⟨rfl,rfl,rfl,by decide +kernel,rfl,by decide +kernel,by decide +kernel⟩
noncomputable def zjl:FS:=
 (seqF (retF q0 (zas (zab (f2 (f2 (f2 (gv 0) (ci 0) ixA) (f2 (gv 1) (ci 1) ixA) mulW) (f2 (f2 (gv 1) (ci 0) ixA) (f2 (gv 0) (ci 1) ixA) mulW) addA) (zab (f2 (f2 (gv 0) (ci 1) ixA) (f2 (gv 1) (ci 1) ixA) mulW) lNil)) [] zck)) zal)
noncomputable def zf2:List D->Res D:=fun ds=>outR false (zjl (zat zom.length ds))
theorem zsW {P:Program} {w:World} {K:W.Frag} {mg:Str->Option Value} {base:Heap} (T:Txt K mg) (A:DefAt K mg "plus" zj9) (c_fraction:Callee P w K mg base "fraction" zdN [] 2 false q107 zck):Callee P w K mg base "plus" zl9 [] 3 false q0 zf2:=by
 refine zaI (k:=2) (fs:=zjl) (m':=q0) A zox rfl (fun _ _ _ _ _ _ us hl=>by obtain ⟨u0,u1,rfl⟩:=zdj us hl; kernel_rfl) fun f cdv A outer s H g E hr=>?_
 have hu1:=zbd hr
 have hu64:=hr.units
 exact (zaa (zaJ (zar (dds:=[]) c_fraction (hr.mono (by decide)) (m_sh (zbK (SE.toB (zc1 (SE.toB (zax hu1 (vb_ 0) (SE.toB zam))) (SE.toB (zax hu1 (vb_ 1) (SE.toB zam))))) (SE.toB (zc1 (SE.toB (zax hu1 (vb_ 1) (SE.toB zam))) (SE.toB (zax hu1 (vb_ 0) (SE.toB zam)))))) (m_sh (zc1 (SE.toB (zax hu1 (vb_ 0) (SE.toB zam))) (SE.toB (zax hu1 (vb_ 1) (SE.toB zam)))) zaG))))
   zag)
noncomputable abbrev zcX:Stmt:=top 27
noncomputable abbrev zdR:List Str:=["table","ring","part","told","pair","behind","row"]
noncomputable abbrev zg9:List Str:=["table","ring","part"]
theorem zc0:FnScope zdR zg9 (zac zcX):=⟨rfl,rfl,rfl,by decide +kernel,rfl,by decide +kernel,by decide +kernel⟩
noncomputable def zfs:FS:=
 (zkU (zks 3 (zca 1 [] (fSeq zbf (gv 0)) (ftN 0) (fun _=>Res.ok true) (fC (zab (gv 0) lNil) zik))) (zl1 (zhz (fZip (gv 1) (zas (zab (gv 1) lNil) [] zaN)) (ftT (zaC (ftN 4) (zaC (ftN 5) zc3))) (aliF 6 (f2 (gv 4) (ci 0) ixA) (zhI (putA 3 6 (zas (zab (f2 (gv 6) (f2 (gv 4) (ci 1) ixA) ixA) (zab (gv 2) lNil)) [] zeq) (f2 (gv 4) (ci 1) ixA)) (zhI (putA 3 6 (zas (zab (f2 (gv 6) (f2 (gv 5) (ci 1) ixA) ixA) (zab (gv 2) lNil)) [] zf2) (f2 (gv 5) (ci 1) ixA)) nilA)))) (zr1 3 (seqF (retF q127 (fC (zab (zca 1 [] (fSeq zbf (gv 3)) (ftN 0) (fun _=>Res.ok true) (fC (zab (gv 0) lNil) tupD)) lNil) tupD)) zal))))
noncomputable def zfq:List D->Res D:=fun ds=>outR false (zfs (zat zdR.length ds))
theorem zrb {P:Program} {w:World} {K:W.Frag} {mg:Str->Option Value} {base:Heap} (T:Txt K mg) (A:DefAt K mg "handed" zcX) (c_ones_behind:Callee P w K mg base "ones_behind" zcg [] 1 false [Md.bw] zaN) (c_minus:Callee P w K mg base "minus" ziz [] 3 false q0 zeq) (c_plus:Callee P w K mg base "plus" zl9 [] 3 false q0 zf2):Callee P w K mg base "handed" zg9 [] 4 false q101 zfq:=by
 refine zaI (k:=3) (fs:=zfs) (m':=q127) A zc0 rfl (fun _ _ _ _ _ _ us hl=>by obtain ⟨u0,u1,u2,rfl⟩:=zjG us hl; kernel_rfl) fun f cdv A outer s H g E hr=>?_
 have hu1:=zbd hr
 have hu64:=hr.units
 exact (zqd (i:=3) (by rfl) (zju 3 (X:=(cxOf CX0 P w K mg base zdR "handed" (zac zcX) f cdv A outer s H E).nox) (m:=q127) (N':=["row"]) (nl:=1) (cap:=[]) (by decide) zc0.nd rfl (by rfl) (by rfl) (zaY (osc:=(zac zcX)) (ON:=zdR) rfl rfl (by decide +kernel)) (zdz (vb_ 0)) (fun _ _ _ _ _ _=>(zaw 0 (show List.Nodup (["row"]:List Str) by decide +kernel) (by rfl) (by first | exact Or.inl rfl | exact Or.inr rfl))) (zcs (by decide)) (fun _ _ _ _ _ _=>ze3) (fun _ _ _ _ _ _=>(zn2 (by rfl) T.b_list (zay (vb_ 0) zaV))))
   (zml (by rfl) (zqw PassesOwn.never rfl (fun _=>(zpw (by rfl) T.b_zip (v_ 1) (zar (dds:=[]) c_ones_behind (hr.mono (by decide)) (m_bw (vb_ 1) zaG)))) (fun _=>(zgV rfl (zbT (zaw 4 zc0.nd (by rfl) (by first | exact Or.inl rfl | exact Or.inr rfl)) (zbT (zaw 5 zc0.nd (by rfl) (by first | exact Or.inl rfl | exact Or.inr rfl)) zgW)))) (zot (by rfl) (by rfl) zc0.nd (by rfl) (by first | exact Or.inl rfl | exact Or.inr (Or.inl rfl) | exact Or.inr (Or.inr rfl)) (by rfl) (by first | exact Or.inl rfl | exact Or.inr rfl) (fun _=>(zax hu1 (vb_ 4) (SE.toB zam))) (zkh (znO (zpl (by decide)) (by rfl) (by first | exact Or.inl rfl | exact Or.inr (Or.inl rfl) | exact Or.inr (Or.inr rfl)) (fun _=>(zar (dds:=[]) c_minus (hr.mono (by decide)) (m_bw (SE.toB (zax hu1 (vb_ 6) (SE.toB (zax hu1 (vb_ 4) (SE.toB zam))))) (m_bw (vb_ 2) zaG)))) (fun _=>(zax hu1 (vb_ 4) (SE.toB zam)))) (zkh (znO (zpl (by decide)) (by rfl) (by first | exact Or.inl rfl | exact Or.inr (Or.inl rfl) | exact Or.inr (Or.inr rfl)) (fun _=>(zar (dds:=[]) c_plus (hr.mono (by decide)) (m_bw (SE.toB (zax hu1 (vb_ 6) (SE.toB (zax hu1 (vb_ 5) (SE.toB zam))))) (m_bw (vb_ 2) zaG)))) (fun _=>(zax hu1 (vb_ 5) (SE.toB zam)))) zqm))) (by rfl))
   (zos (zaa (zaJ (zdt (by rfl) T.b_tuple (zay (SO.toB (ze5 (X:=(cxOf CX0 P w K mg base zdR "handed" (zac zcX) f cdv A outer s H E).nox) (N':=["row"]) (nl:=1) (cap:=[]) zc0.nd rfl (zaY (osc:=(zac zcX)) (ON:=zdR) rfl rfl (by decide +kernel)) (zdz (vb_ 3)) (fun _ _ _ _ _ _=>(zaw 0 (show List.Nodup (["row"]:List Str) by decide +kernel) (by rfl) (by first | exact Or.inl rfl | exact Or.inr rfl))) (zcs (by decide)) (fun _ _ _ _ _ _=>ze3) (fun _ _ _ _ _ _=>(zdt (by rfl) T.b_tuple (zay (vb_ 0) zaV))))) zaV)))
   zag) (zpl (by decide)))))
noncomputable abbrev ziJ:Stmt:=top 15
noncomputable abbrev zmc:List Str:=["shares","told","share"]
noncomputable abbrev ziB:List Str:=["shares"]
theorem zfj:FnScope zmc ziB (zac ziJ):=⟨rfl,rfl,rfl,by decide +kernel,rfl,by decide +kernel,by decide +kernel⟩
noncomputable abbrev zhW:FS:=
 (seqF (ifF q105 (fTru (zas (zab (gv 2) (zab (gv 1) lNil)) [] zfe)) (seqF (setF q105 1 (gv 2)) zal) zal) zal)
noncomputable def zhf:FS:=
 (seqF (setF q105 1 (f2 (gv 0) (ci 0) ixA)) (seqF (zbL q105 (fSeq zbf (gv 0)) (ftN 2) zhW) (seqF (retF q105 (gv 1)) zal)))
noncomputable def zhc:List D->Res D:=fun ds=>outR false (zhf (zat zmc.length ds))
theorem zsk {P:Program} {w:World} {K:W.Frag} {mg:Str->Option Value} {base:Heap} (T:Txt K mg) (A:DefAt K mg "least" ziJ) (c_less:Callee P w K mg base "less" zji [] 1 false q0 zfe):Callee P w K mg base "least" ziB [] 2 false [Md.bw] zhc:=by
 refine zaI (k:=1) (fs:=zhf) (m':=q105) A zfj rfl (fun _ _ _ _ _ _ us hl=>by obtain ⟨u0,rfl⟩:=zjH us hl; kernel_rfl) fun f cdv A outer s H g E hr=>?_
 have hu1:=zbd hr
 have hu64:=hr.units
 exact (zaa (zaT 1 zfj.nd (by rfl) (by first | exact Or.inl rfl | exact Or.inr rfl) (zax hu1 (vb_ 0) (SE.toB zam)))
   (zaa (zkj PassesOwn.never rfl (zdz (vb_ 0)) (fun _=>(zaw 2 zfj.nd (by rfl) (by first | exact Or.inl rfl | exact Or.inr rfl))) (fun _=>(zaa (s_if (zd1 (SE.toB (zar (dds:=[]) c_less (hr.mono (by decide)) (m_bw (vb_ 2) (m_bw (vb_ 1) zaG))))) (zaa (zaT 1 zfj.nd (by rfl) (by first | exact Or.inl rfl | exact Or.inr rfl) (v_ 2))
   zag)
   zag)
   zag)))
   (zaa (zaJ (v_ 1))
   zag)))
noncomputable abbrev zdd:Stmt:=top 26
noncomputable abbrev zdS:List Str:=["table","ring"]
noncomputable abbrev zeW:List Str:=["table","ring"]
theorem zfB:FnScope zdS zeW (zac zdd):=⟨rfl,rfl,rfl,by decide +kernel,rfl,by decide +kernel,by decide +kernel⟩
noncomputable def zdX:FS:=
 (seqF (retF q0 (zas (zab (zca 2 [0] (fSeq zbf (gv 1)) (ftT (zaC (ftN 0) (zaC (ftN 1) zc3))) (fun _=>Res.ok true) (f2 (f2 (gv 2) (gv 0) ixA) (gv 1) ixA)) lNil) [] zhc)) zal)
noncomputable def zdT:List D->Res D:=fun ds=>outR false (zdX (zat zdS.length ds))
theorem zpe {P:Program} {w:World} {K:W.Frag} {mg:Str->Option Value} {base:Heap} (T:Txt K mg) (A:DefAt K mg "can_hand" zdd) (c_least:Callee P w K mg base "least" ziB [] 2 false [Md.bw] zhc):Callee P w K mg base "can_hand" zeW [] 3 false q0 zdT:=by
 refine zaI (k:=2) (fs:=zdX) (m':=q0) A zfB rfl (fun _ _ _ _ _ _ us hl=>by obtain ⟨u0,u1,rfl⟩:=zdj us hl; kernel_rfl) fun f cdv A outer s H g E hr=>?_
 have hu1:=zbd hr
 have hu64:=hr.units
 exact (zaa (zaJ (zar (dds:=[]) c_least (hr.mono (by decide)) (m_bw (SO.toB (ze5 (X:=(cxOf CX0 P w K mg base zdS "can_hand" (zac zdd) f cdv A outer s H E).nox) (N':=["hand","thing","table"]) (nl:=2) (cap:=[0]) zfB.nd rfl (zaY (osc:=(zac zdd)) (ON:=zdS) rfl rfl (by decide +kernel)) (zdz (vb_ 1)) (fun _ _ _ _ _ _=>(zgV rfl (zbT (zaw 0 (show List.Nodup (["hand","thing","table"]:List Str) by decide +kernel) (by rfl) (by first | exact Or.inl rfl | exact Or.inr rfl)) (zbT (zaw 1 (show List.Nodup (["hand","thing","table"]:List Str) by decide +kernel) (by rfl) (by first | exact Or.inl rfl | exact Or.inr rfl)) zgW)))) (zob (zeB (zcs (by decide)) (zeB (zcs (by decide)) zi8))) (fun _ _ _ _ _ _=>ze3) (fun _ _ _ _ _ _=>(zax hu1 (SE.toB (zax hu1 (vb_ 2) (vb_ 0))) (vb_ 1))))) zaG)))
   zag)
noncomputable abbrev zcn:Stmt:=top 35
noncomputable abbrev zcH:List Str:=["_law_found","_law_one"]
noncomputable abbrev zbP:List Str:=["_law_found"]
theorem zcp:FnScope zcH zbP (zac zcn):=⟨rfl,rfl,rfl,by decide +kernel,rfl,by decide +kernel,by decide +kernel⟩
noncomputable abbrev zcd:FS:=
 (seqF (ifF q113 (fOr (fNot (fTru (f1 (gv 1) (isiD "int")))) (fTru (f1 (gv 1) (isiD "bool")))) (seqF (retF q113 (fun _=>Res.ok (D.bl false))) zal) zal) zal)
noncomputable def zbb:FS:=
 (seqF (ifF q113 (fOr (fNot (fTru (f1 (gv 0) (isiD "tuple")))) (zaU (f2 (fC (zab (gv 0) lNil) lenD) (ci 2) neD))) (seqF (retF q113 (fun _=>Res.ok (D.bl false))) zal) zal) (seqF (zbL q113 (fSeq zbf (gv 0)) (ftN 1) zcd) (seqF (retF q113 (vAnd (f2 (f2 (gv 0) (ci 1) ixA) (ci 0) gtI) (f2 (zas (zab (f2 (gv 0) (ci 0) ixA) (zab (f2 (gv 0) (ci 1) ixA) lNil)) [] zbn) (ci 1) eqD))) zal)))
noncomputable def zba:List D->Res D:=fun ds=>outR false (zbb (zat zcH.length ds))
theorem zie {P:Program} {w:World} {K:W.Frag} {mg:Str->Option Value} {base:Heap} (T:Txt K mg) (A:DefAt K mg "_law_is_fraction" zcn) (c__law_common:Callee P w K mg base "_law_common" zch [] 1 false q107 zbn):Callee P w K mg base "_law_is_fraction" zbP [] 2 false [Md.bw] zba:=by
 refine zaI (k:=1) (fs:=zbb) (m':=q113) A zcp rfl (fun _ _ _ _ _ _ us hl=>by obtain ⟨u0,rfl⟩:=zjH us hl; kernel_rfl) fun f cdv A outer s H g E hr=>?_
 have hu1:=zbd hr
 have hu64:=hr.units
 exact (zaa (s_if (SW.toQ (q_or (zf5 (zd1 (SE.toB (zh6 "tuple" "tuple" rfl (zfL _) (by rfl) T.b_isinstance (by rfl) T.b_tuple (vb_ 0))))) (zjA (q_ne hu64 (SE.toB (zeM (by rfl) T.b_len (zay (vb_ 0) zaV))) (SE.toB zam))))) (zaa (zaJ s_bl)
   zag)
   zag)
   (zaa (zkj PassesOwn.never rfl (zdz (vb_ 0)) (fun _=>(zaw 1 zcp.nd (by rfl) (by first | exact Or.inl rfl | exact Or.inr rfl))) (fun _=>(zaa (s_if (SW.toQ (q_or (zf5 (zd1 (SE.toB (zh6 "int" "int" rfl (zlb _) (by rfl) T.b_isinstance (by rfl) T.b_int (vb_ 1))))) (zjA (zd1 (SE.toB (zh6 "bool" "bool" rfl (zi4 _) (by rfl) T.b_isinstance (by rfl) T.b_bool (vb_ 1))))))) (zaa (zaJ s_bl)
   zag)
   zag)
   zag)))
   (zaa (zaJ (zoF (s_gt (SE.toB (zax hu1 (vb_ 0) (SE.toB zam))) (SE.toB zam)) (zoC (s_eq hu64 (SE.toB (zar (dds:=[]) c__law_common (hr.mono (by decide)) (m_sh (zax hu1 (vb_ 0) (SE.toB zam)) (m_sh (zax hu1 (vb_ 0) (SE.toB zam)) zaG)))) (SE.toB zam)))))
   zag)))
noncomputable abbrev zbt:Stmt:=top 36
noncomputable abbrev zbQ:List Str:=["_law_found","_law_n","_law_m","_law_row_here"]
noncomputable abbrev zcx:List Str:=["_law_found","_law_n","_law_m"]
theorem zb8:FnScope zbQ zcx (zac zbt):=⟨rfl,rfl,rfl,by decide +kernel,rfl,by decide +kernel,by decide +kernel⟩
noncomputable abbrev zc7:FS:=
 (seqF (ifF q114 (fOr (fNot (fTru (f1 (gv 3) (isiD "tuple")))) (fOr (zaU (f2 (fC (zab (gv 3) lNil) lenD) (gv 2) neD)) (fNot (fTru (fC (zab (zca 1 [] (fSeq zbf (gv 3)) (ftN 0) (fun _=>Res.ok true) (zas (zab (gv 0) lNil) [] zba)) lNil) allD))))) (seqF (retF q114 (fun _=>Res.ok (D.bl false))) zal) zal) zal)
noncomputable def zbS:FS:=
 (seqF (ifF q114 (fOr (fNot (fTru (f1 (gv 0) (isiD "tuple")))) (zaU (f2 (fC (zab (gv 0) lNil) lenD) (gv 1) neD))) (seqF (retF q114 (fun _=>Res.ok (D.bl false))) zal) zal) (seqF (zbL q114 (fSeq zbf (gv 0)) (ftN 3) zc7) (seqF (retF q114 (fun _=>Res.ok (D.bl true))) zal)))
noncomputable def zbR:List D->Res D:=fun ds=>outR false (zbS (zat zbQ.length ds))
theorem zjV {P:Program} {w:World} {K:W.Frag} {mg:Str->Option Value} {base:Heap} (T:Txt K mg) (A:DefAt K mg "_law_is_table" zbt) (c__law_is_fraction:Callee P w K mg base "_law_is_fraction" zbP [] 2 false [Md.bw] zba):Callee P w K mg base "_law_is_table" zcx [] 3 false q109 zbR:=by
 refine zaI (k:=2) (fs:=zbS) (m':=q114) A zb8 rfl (fun _ _ _ _ _ _ us hl=>by obtain ⟨u0,u1,u2,rfl⟩:=zjG us hl; kernel_rfl) fun f cdv A outer s H g E hr=>?_
 have hu1:=zbd hr
 have hu64:=hr.units
 exact (zaa (s_if (SW.toQ (q_or (zf5 (zd1 (SE.toB (zh6 "tuple" "tuple" rfl (zfL _) (by rfl) T.b_isinstance (by rfl) T.b_tuple (vb_ 0))))) (zjA (q_ne hu64 (SE.toB (zeM (by rfl) T.b_len (zay (vb_ 0) zaV))) (vb_ 1))))) (zaa (zaJ s_bl)
   zag)
   zag)
   (zaa (zkj PassesOwn.never rfl (zdz (vb_ 0)) (fun _=>(zaw 3 zb8.nd (by rfl) (by first | exact Or.inl rfl | exact Or.inr rfl))) (fun _=>(zaa (s_if (SW.toQ (q_or (zf5 (zd1 (SE.toB (zh6 "tuple" "tuple" rfl (zfL _) (by rfl) T.b_isinstance (by rfl) T.b_tuple (vb_ 3))))) (q_or (q_ne hu64 (SE.toB (zeM (by rfl) T.b_len (zay (vb_ 3) zaV))) (vb_ 2)) (zjA (zf5 (zd1 (SE.toB (zsK rfl (by rfl) T.b_all (zay (SO.toB (ze5 (X:=(cxOf CX0 P w K mg base zbQ "_law_is_table" (zac zbt) f cdv A outer s H E).nox) (N':=["_law_one"]) (nl:=1) (cap:=[]) zb8.nd rfl (zaY (osc:=(zac zbt)) (ON:=zbQ) rfl rfl (by decide +kernel)) (zdz (vb_ 3)) (fun _ _ _ _ _ _=>(zaw 0 (show List.Nodup (["_law_one"]:List Str) by decide +kernel) (by rfl) (by first | exact Or.inl rfl | exact Or.inr rfl))) (zcs (by decide)) (fun _ _ _ _ _ _=>ze3) (fun _ _ _ _ _ _=>(zar (dds:=[]) c__law_is_fraction (hr.mono (by decide)) (m_bw (vb_ 0) zaG))))) zaV))))))))) (zaa (zaJ s_bl)
   zag)
   zag)
   zag)))
   (zaa (zaJ s_bl)
   zag)))
noncomputable abbrev zeu:Stmt:=top 37
noncomputable abbrev ze9:List Str:=["_law_row_here","_law_shares","_law_found","_law_total","_law_thing"]
noncomputable abbrev zdG:List Str:=["_law_row_here","_law_shares"]
theorem zbJ:FnScope ze9 zdG (zac zeu):=⟨rfl,rfl,rfl,by decide +kernel,rfl,by decide +kernel,by decide +kernel⟩
noncomputable abbrev zek:FS:=
 (seqF (setF q123 3 (zas (zab (gv 3) (zab (f2 (gv 1) (gv 4) ixA) lNil)) [] zbj)) (seqF (mutF "list" q123 2 (zab (gv 3) lNil) appD) zal))
noncomputable def zcS:FS:=
 (seqF (setF q104 2 (mkL lNil)) (seqF (setF q123 3 (mkT (zab (ci 0) (zab (ci 1) lNil)))) (seqF (zbL q123 (fSeq zbf (gv 0)) (ftN 4) zek) (seqF (retF q104 (gv 2)) zal))))
noncomputable def zb7:List D->Res D:=fun ds=>outR false (zcS (zat ze9.length ds))
theorem zmS {P:Program} {w:World} {K:W.Frag} {mg:Str->Option Value} {base:Heap} (T:Txt K mg) (A:DefAt K mg "_law_along" zeu) (c__law_plus:Callee P w K mg base "_law_plus" zcw [] 3 false q0 zbj):Callee P w K mg base "_law_along" zdG [] 4 false q0 zb7:=by
 refine zaI (k:=3) (fs:=zcS) (m':=q104) A zbJ rfl (fun _ _ _ _ _ _ us hl=>by obtain ⟨u0,u1,rfl⟩:=zdj us hl; kernel_rfl) fun f cdv A outer s H g E hr=>?_
 have hu1:=zbd hr
 have hu64:=hr.units
 exact (zaa (zd8 2 zbJ.nd (by rfl) (by first | exact Or.inl rfl | exact Or.inr rfl) (zf8 zcb))
   (zaa (zaT 3 zbJ.nd (by rfl) (by first | exact Or.inl rfl | exact Or.inr rfl) (zhn (za0 zam (za0 zam zcb))))
   (zaa (znQ PassesOwn.never rfl (zn8 (vw_ 0)) (zaw 4 zbJ.nd (by rfl) (by first | exact Or.inl rfl | exact Or.inr rfl)) (zaa (zaT 3 zbJ.nd (by rfl) (by first | exact Or.inl rfl | exact Or.inr rfl) (zar (dds:=[]) c__law_plus (hr.mono (by decide)) (m_bw (vb_ 3) (m_bw (SE.toB (zax hu1 (vb_ 1) (vb_ 4))) zaG))))
   (zaa (zh5 2 rfl PySem.F.plainAttrs_list PySem.F.slot_list_append PySem.F.type_list_append zb5 zgo (by rfl) (by first | exact Or.inl rfl | exact Or.inr (Or.inl rfl) | exact Or.inr (Or.inr rfl)) (za0 (v_ 3) zcb))
   zag)))
   (zaa (zki 2 rfl (zaJ (v_ 2)))
   zag))))
noncomputable abbrev zeZ:Stmt:=top 34
noncomputable abbrev zfZ:List Str:=["_law_a","_law_b"]
noncomputable abbrev zep:List Str:=["_law_a","_law_b"]
theorem zhm:FnScope zfZ zep (zac zeZ):=⟨rfl,rfl,rfl,by decide +kernel,rfl,by decide +kernel,by decide +kernel⟩
noncomputable def zdn:FS:=
 (seqF (retF q0 (f2 (f2 (f2 (gv 0) (ci 0) ixA) (f2 (gv 1) (ci 1) ixA) mulW) (f2 (f2 (gv 1) (ci 0) ixA) (f2 (gv 0) (ci 1) ixA) mulW) ltI)) zal)
noncomputable def zcy:List D->Res D:=fun ds=>outR false (zdn (zat zfZ.length ds))
theorem zn0 {P:Program} {w:World} {K:W.Frag} {mg:Str->Option Value} {base:Heap} (T:Txt K mg) (A:DefAt K mg "_law_less" zeZ):Callee P w K mg base "_law_less" zep [] 1 false q0 zcy:=by
 refine zaI (k:=0) (fs:=zdn) (m':=q0) A zhm rfl (fun _ _ _ _ _ _ us hl=>by obtain ⟨u0,u1,rfl⟩:=zdj us hl; kernel_rfl) fun f cdv A outer s H g E hr=>?_
 have hu1:=zbd hr
 have hu64:=hr.units
 exact (zaa (zaJ (s_lt (SE.toB (zc1 (SE.toB (zax hu1 (vb_ 0) (SE.toB zam))) (SE.toB (zax hu1 (vb_ 1) (SE.toB zam))))) (SE.toB (zc1 (SE.toB (zax hu1 (vb_ 1) (SE.toB zam))) (SE.toB (zax hu1 (vb_ 0) (SE.toB zam)))))))
   zag)
noncomputable abbrev zbE:Stmt:=top 38
noncomputable abbrev zb1:List Str:=["_law_row_here","_law_shares","_law_others","_law_ones","_law_twos"]
noncomputable abbrev zcV:List Str:=["_law_row_here","_law_shares","_law_others"]
theorem zbI:FnScope zb1 zcV (zac zbE):=⟨rfl,rfl,rfl,by decide +kernel,rfl,by decide +kernel,by decide +kernel⟩
noncomputable def zb4:FS:=
 (seqF (setF q124 3 (zas (zab (gv 0) (zab (gv 1) lNil)) [] zb7)) (seqF (setF q124 4 (zas (zab (gv 0) (zab (gv 2) lNil)) [] zb7)) (seqF (retF q124 (vNot (fC (zab (zca 2 [] (fZip (gv 3) (gv 4)) (ftT (zaC (ftN 0) (zaC (ftN 1) zc3))) (fun _=>Res.ok true) (zas (zab (gv 0) (zab (gv 1) lNil)) [] zcy)) lNil) anyD))) zal)))
noncomputable def zb2:List D->Res D:=fun ds=>outR false (zb4 (zat zb1.length ds))
theorem zkS {P:Program} {w:World} {K:W.Frag} {mg:Str->Option Value} {base:Heap} (T:Txt K mg) (A:DefAt K mg "_law_no_less" zbE) (c__law_along:Callee P w K mg base "_law_along" zdG [] 4 false q0 zb7) (c__law_less:Callee P w K mg base "_law_less" zep [] 1 false q0 zcy):Callee P w K mg base "_law_no_less" zcV [] 5 false q109 zb2:=by
 refine zaI (k:=4) (fs:=zb4) (m':=q124) A zbI rfl (fun _ _ _ _ _ _ us hl=>by obtain ⟨u0,u1,u2,rfl⟩:=zjG us hl; kernel_rfl) fun f cdv A outer s H g E hr=>?_
 have hu1:=zbd hr
 have hu64:=hr.units
 exact (zaa (zaT 3 zbI.nd (by rfl) (by first | exact Or.inl rfl | exact Or.inr rfl) (zar (dds:=[]) c__law_along (hr.mono (by decide)) (m_bw (vb_ 0) (m_bw (vb_ 1) zaG))))
   (zaa (zaT 4 zbI.nd (by rfl) (by first | exact Or.inl rfl | exact Or.inr rfl) (zar (dds:=[]) c__law_along (hr.mono (by decide)) (m_bw (vb_ 0) (m_bw (vb_ 2) zaG))))
   (zaa (zaJ (zqq (zsJ rfl (by rfl) T.b_any (zay (SO.toB (ze5 (X:=(cxOf CX0 P w K mg base zb1 "_law_no_less" (zac zbE) f cdv A outer s H E).nox) (N':=["_law_one","_law_two"]) (nl:=2) (cap:=[]) zbI.nd rfl (zaY (osc:=(zac zbE)) (ON:=zb1) rfl rfl (by decide +kernel)) (SIt.toC (zpw (by rfl) T.b_zip (v_ 3) (v_ 4))) (fun _ _ _ _ _ _=>(zgV rfl (zbT (zaw 0 (show List.Nodup (["_law_one","_law_two"]:List Str) by decide +kernel) (by rfl) (by first | exact Or.inl rfl | exact Or.inr rfl)) (zbT (zaw 1 (show List.Nodup (["_law_one","_law_two"]:List Str) by decide +kernel) (by rfl) (by first | exact Or.inl rfl | exact Or.inr rfl)) zgW)))) (zob (zeB (zcs (by decide)) (zeB (zcs (by decide)) zi8))) (fun _ _ _ _ _ _=>ze3) (fun _ _ _ _ _ _=>(zar (dds:=[]) c__law_less (hr.mono (by decide)) (m_bw (vb_ 0) (m_bw (vb_ 1) zaG)))))) zaV))))
   zag)))
noncomputable abbrev zcY:Stmt:=top 43
noncomputable abbrev zdq:List Str:=["_law_wanted","_law_table","_law_ring","_law_n","_law_found","_law_hand","_law_row_here","_law_k","_law_total","_law_shares"]
noncomputable abbrev zcc:List Str:=["_law_wanted","_law_table","_law_ring"]
theorem zau:FnScope zdq zcc (zac zcY):=⟨rfl,rfl,rfl,by decide +kernel,rfl,by decide +kernel,by decide +kernel⟩
noncomputable abbrev zcK:FS:=
 (seqF (ifF q103 (fNot (fTru (zas (zab (gv 6) (zab (f2 (gv 4) (gv 5) ixA) (zab (f2 (gv 1) (gv 5) ixA) lNil))) [] zb2))) (seqF (retF q103 (fun _=>Res.ok D.non)) zal) zal) zal)
noncomputable abbrev zcJ:FS:=
 (seqF (ifF q103 (zaU (f2 (f2 (f2 (gv 9) (gv 7) ixA) (ci 0) ixA) (ci 0) ltI)) (seqF (retF q103 (fun _=>Res.ok D.non)) zal) zal) (seqF (setF q103 8 (zas (zab (gv 8) (zab (f2 (gv 9) (gv 7) ixA) lNil)) [] zbj)) zal))
noncomputable abbrev zcI:FS:=
 (seqF (setF q103 8 (mkT (zab (ci 0) (zab (ci 1) lNil)))) (seqF (zbL q103 (fSeq zbf (gv 4)) (ftN 9) zcJ) (seqF (ifF q103 (zaU (f2 (gv 8) (mkT (zab (ci 1) (zab (ci 1) lNil))) neD)) (seqF (retF q103 (fun _=>Res.ok D.non)) zal) zal) zal)))
noncomputable def zbw:FS:=
 (seqF (setF q103 3 (fC (zab (gv 1) lNil) lenD)) (seqF (setF q103 4 (zas (zab (gv 1) (zab (gv 2) (zab (zas (zab (gv 1) (zab (gv 2) lNil)) [] zdT) lNil))) [] zfq)) (seqF (ifF q103 (fOr (fNot (fTru (zas (zab (gv 4) (zab (gv 3) (zab (gv 3) lNil))) [] zbR))) (zaU (f2 (gv 4) (gv 1) eqD))) (seqF (retF q103 (fun _=>Res.ok D.non)) zal) zal) (seqF (zbL q103 (fEnu (gv 0)) (ftT (zaC (ftN 5) (zaC (ftN 6) zc3))) zcK) (seqF (zbL q103 (fRng rng1 (zab (gv 3) lNil)) (ftN 7) zcI) (seqF (retF q103 (gv 4)) zal))))))
noncomputable def zbv:List D->Res D:=fun ds=>outR false (zbw (zat zdq.length ds))
theorem zjC {P:Program} {w:World} {K:W.Frag} {mg:Str->Option Value} {base:Heap} (T:Txt K mg) (A:DefAt K mg "_law_step_well" zcY) (c_can_hand:Callee P w K mg base "can_hand" zeW [] 3 false q0 zdT) (c_handed:Callee P w K mg base "handed" zg9 [] 4 false q101 zfq) (c__law_is_table:Callee P w K mg base "_law_is_table" zcx [] 3 false q109 zbR) (c__law_no_less:Callee P w K mg base "_law_no_less" zcV [] 5 false q109 zb2) (c__law_plus:Callee P w K mg base "_law_plus" zcw [] 3 false q0 zbj):Callee P w K mg base "_law_step_well" zcc [] 6 false q101 zbv:=by
 refine zaI (k:=5) (fs:=zbw) (m':=q103) A zau rfl (fun _ _ _ _ _ _ us hl=>by obtain ⟨u0,u1,u2,rfl⟩:=zjG us hl; kernel_rfl) fun f cdv A outer s H g E hr=>?_
 have hu1:=zbd hr
 have hu64:=hr.units
 exact (zaa (zaT 3 zau.nd (by rfl) (by first | exact Or.inl rfl | exact Or.inr rfl) (zeM (by rfl) T.b_len (zay (vb_ 1) zaV)))
   (zaa (zaT 4 zau.nd (by rfl) (by first | exact Or.inl rfl | exact Or.inr rfl) (zar (dds:=[]) c_handed (hr.mono (by decide)) (m_sh (v_ 1) (m_sh (v_ 2) (m_sh (zar (dds:=[]) c_can_hand (hr.mono (by decide)) (m_bw (vb_ 1) (m_bw (vb_ 2) zaG))) zaG)))))
   (zaa (s_if (SW.toQ (q_or (zf5 (zd1 (SE.toB (zar (dds:=[]) c__law_is_table (hr.mono (by decide)) (m_bw (vb_ 4) (m_bw (vb_ 3) (m_bw (vb_ 3) zaG))))))) (zjA (q_eq hu64 (vb_ 4) (vb_ 1))))) (zaa (zaJ zeK)
   zag)
   zag)
   (zaa (zen PassesOwn.never rfl (zi6 (by rfl) T.b_enumerate (v_ 0)) (zgV rfl (zbT (zaw 5 zau.nd (by rfl) (by first | exact Or.inl rfl | exact Or.inr rfl)) (zbT (zaw 6 zau.nd (by rfl) (by first | exact Or.inl rfl | exact Or.inr rfl)) zgW))) (zaa (s_if (zf5 (zd1 (SE.toB (zar (dds:=[]) c__law_no_less (hr.mono (by decide)) (m_bw (vb_ 6) (m_bw (SE.toB (zax hu1 (vb_ 4) (vb_ 5))) (m_bw (SE.toB (zax hu1 (vb_ 1) (vb_ 5))) zaG))))))) (zaa (zaJ zeK)
   zag)
   zag)
   zag))
   (zaa (zen PassesOwn.never rfl (zbY (by rfl) T.b_range (zay (vb_ 3) zaV)) (zaw 7 zau.nd (by rfl) (by first | exact Or.inl rfl | exact Or.inr rfl)) (zaa (zaT 8 zau.nd (by rfl) (by first | exact Or.inl rfl | exact Or.inr rfl) (zhn (za0 zam (za0 zam zcb))))
   (zaa (zen PassesOwn.never rfl (zm8 (v_ 4)) (zaw 9 zau.nd (by rfl) (by first | exact Or.inl rfl | exact Or.inr rfl)) (zaa (s_if (q_lt (SE.toB (zax hu1 (SE.toB (zax hu1 (vb_ 9) (vb_ 7))) (SE.toB zam))) (SE.toB zam)) (zaa (zaJ zeK)
   zag)
   zag)
   (zaa (zaT 8 zau.nd (by rfl) (by first | exact Or.inl rfl | exact Or.inr rfl) (zar (dds:=[]) c__law_plus (hr.mono (by decide)) (m_bw (vb_ 8) (m_bw (SE.toB (zax hu1 (vb_ 9) (vb_ 7))) zaG))))
   zag)))
   (zaa (s_if (q_ne hu64 (vb_ 8) (SE.toB (zhn (za0 zam (za0 zam zcb))))) (zaa (zaJ zeK)
   zag)
   zag)
   zag))))
   (zaa (zaJ (v_ 4))
   zag))))))
noncomputable abbrev zet:Stmt:=top 42
noncomputable abbrev ze8:List Str:=["_law_wanted","_law_table","_law_told","_law_hand","_law_row_here","_law_at","_law_thing","_law_better"]
noncomputable abbrev zdD:List Str:=["_law_wanted","_law_table","_law_told"]
theorem zbk:FnScope ze8 zdD (zac zet):=⟨rfl,rfl,rfl,by decide +kernel,rfl,by decide +kernel,by decide +kernel⟩
noncomputable abbrev zeg:FS:=
 (seqF (ifF q110 (zaU (f2 (f2 (gv 2) (gv 7) ixA) (f2 (gv 2) (gv 6) ixA) leI)) (seqF (retF q110 (fun _=>Res.ok (D.bl false))) zal) zal) zal)
noncomputable abbrev zcW:FS:=
 (seqF (ifF q110 (zaU (f2 (f2 (f2 (f2 (gv 1) (gv 3) ixA) (gv 6) ixA) (ci 0) ixA) (ci 0) gtI)) (seqF (zbL q110 (fSeq zbf (fSlA (gv 4) (fun _=>Res.ok none) (zga (gv 5)))) (ftN 7) zeg) zal) zal) zal)
noncomputable abbrev zef:FS:=
 (seqF (zbL q110 (fEnu (gv 4)) (ftT (zaC (ftN 5) (zaC (ftN 6) zc3))) zcW) zal)
noncomputable def zcP:FS:=
 (seqF (zbL q110 (fEnu (gv 0)) (ftT (zaC (ftN 3) (zaC (ftN 4) zc3))) zef) (seqF (retF q110 (fun _=>Res.ok (D.bl true))) zal))
noncomputable def zcL:List D->Res D:=fun ds=>outR false (zcP (zat ze8.length ds))
theorem zmP {P:Program} {w:World} {K:W.Frag} {mg:Str->Option Value} {base:Heap} (T:Txt K mg) (A:DefAt K mg "_law_rises" zet):Callee P w K mg base "_law_rises" zdD [] 1 false [.sh,.bw,.bw] zcL:=by
 refine zaI (k:=0) (fs:=zcP) (m':=q110) A zbk rfl (fun _ _ _ _ _ _ us hl=>by obtain ⟨u0,u1,u2,rfl⟩:=zjG us hl; kernel_rfl) fun f cdv A outer s H g E hr=>?_
 have hu1:=zbd hr
 have hu64:=hr.units
 exact (zaa (zen PassesOwn.never rfl (zi6 (by rfl) T.b_enumerate (v_ 0)) (zgV rfl (zbT (zaw 3 zbk.nd (by rfl) (by first | exact Or.inl rfl | exact Or.inr rfl)) (zbT (zaw 4 zbk.nd (by rfl) (by first | exact Or.inl rfl | exact Or.inr rfl)) zgW))) (zaa (zen PassesOwn.never rfl (zi6 (by rfl) T.b_enumerate (v_ 4)) (zgV rfl (zbT (zaw 5 zbk.nd (by rfl) (by first | exact Or.inl rfl | exact Or.inr rfl)) (zbT (zaw 6 zbk.nd (by rfl) (by first | exact Or.inl rfl | exact Or.inr rfl)) zgW))) (zaa (s_if (q_gt (SE.toB (zax hu1 (SE.toB (zax hu1 (SE.toB (zax hu1 (vb_ 1) (vb_ 3))) (vb_ 6))) (SE.toB zam))) (SE.toB zam)) (zaa (zen PassesOwn.never rfl (zm8 (zsF (vb_ 4) ziU (zfH (vb_ 5)))) (zaw 7 zbk.nd (by rfl) (by first | exact Or.inl rfl | exact Or.inr rfl)) (zaa (s_if (q_le (SE.toB (zax hu1 (vb_ 2) (vb_ 7))) (SE.toB (zax hu1 (vb_ 2) (vb_ 6)))) (zaa (zaJ s_bl)
   zag)
   zag)
   zag))
   zag)
   zag)
   zag))
   zag))
   (zaa (zaJ s_bl)
   zag))
noncomputable abbrev ziK:Stmt:=top 44
noncomputable abbrev znA:List Str:=["_law_script","_law_cells","_law_n","_law_wanted","_law_table","_law_turn","_law_told","_law_ring"]
noncomputable abbrev zsc:List Str:=["_law_script"]
theorem zd7:FnScope znA zsc (zac ziK):=⟨rfl,rfl,rfl,by decide +kernel,rfl,by decide +kernel,by decide +kernel⟩
noncomputable abbrev zha:FS:=
 (seqF (setF q102 6 (zas (zab (gv 3) (zab (gv 4) lNil)) [] zdI)) (seqF (setF q102 7 (zas (zab (gv 3) (zab (gv 4) lNil)) [] zbA)) (seqF (ifF q102 (zaU (f2 (f2 (gv 6) (fun _=>Res.ok D.non) isD) (f2 (gv 7) (fun _=>Res.ok D.non) isD) eqD)) (seqF (retF q102 (fun _=>Res.ok (D.bl false))) zal) zal) (seqF (ifF q102 (zaU (f2 (gv 7) (fun _=>Res.ok D.non) isD)) (seqF (retF q102 (vAnd (f2 (fC (zab (gv 6) lNil) lenD) (gv 2) eqD) (zas (zab (gv 3) (zab (gv 4) (zab (gv 6) lNil))) [] zcL))) zal) zal) (seqF (setF q102 4 (zas (zab (gv 3) (zab (gv 4) (zab (gv 7) lNil))) [] zbv)) (seqF (ifF q102 (zaU (f2 (gv 4) (fun _=>Res.ok D.non) isD)) (seqF (retF q102 (fun _=>Res.ok (D.bl false))) zal) zal) zal))))))
noncomputable def znD:FS:=
 (seqF (setF [.sh,.sh,.sh,.sh,.sh,.sh,.sh,.sh] 1 (f2 (mkL (zab (ci 0) lNil)) (zas (zab (gv 0) (zab (ci 20) lNil)) [] zdU) catL)) (seqF (ifF q102 (zaU (f2 (fC (zab (gv 0) lNil) lenD) (ci 0) gtI)) (seqF (putF q102 1 (ci 0) (f2 (gv 0) (ci 0) ixA)) zal) zal) (seqF (setF q102 2 (f2 (ci 1) (f2 (zas (zab (gv 1) (zab (ci 1) lNil)) [] zaE) (ci 7) modI) addA)) (seqF (setF q102 3 (fC (zab (zca 1 [2,1] (fRng rng1 (zab (gv 2) lNil)) (ftN 0) (fun _=>Res.ok true) (zas (zab (zas (zab (gv 2) (zab (f2 (ci 2) (gv 0) addA) lNil)) [] zaE) (zab (gv 1) lNil)) [] zbB)) lNil) tupD)) (seqF (setF q102 4 (zas (zab (zas (zab (gv 1) (zab (ci 9) (zab (gv 2) (zab (f2 (ci 1) (f2 (f2 (zas (zab (gv 1) (zab (ci 1) lNil)) [] zaE) (ci 7) zjL) (ci 6) modI) addA) lNil)))) [] zcM) (zab (gv 2) lNil)) [] zcN)) (seqF (zbL q102 (fRng rng1 (zab (ci 6) lNil)) (ftN 5) zha) (seqF (retF q102 (fun _=>Res.ok (D.bl true))) zal)))))))
noncomputable def zse:List D->Res D:=fun ds=>outR false (znD (zat znA.length ds))
theorem ztp {P:Program} {w:World} {K:W.Frag} {mg:Str->Option Value} {base:Heap} (T:Txt K mg) {fa:Addr} {fd:FuncData} (A:Fun K "law" "law" ziK fa fd) (c__law_all:Callee P w K mg base "_law_all" zeX [] 1 false q0 zdU) (c__law_cell:Callee P w K mg base "_law_cell" zdl [] 1 false q0 zaE) (c__law_row:Callee P w K mg base "_law_row" zdO [] 1 false [.sh,.bw] zbB) (c__law_parts:Callee P w K mg base "_law_parts" zdE [] 3 false q111 zcM) (c__law_mixed:Callee P w K mg base "_law_mixed" zdF [] 4 false q0 zcN) (c_heights:Callee P w K mg base "heights" zfX [] 4 false q0 zdI) (c_share_ring:Callee P w K mg base "share_ring" zdC [] 4 false q0 zbA) (c__law_rises:Callee P w K mg base "_law_rises" zdD [] 1 false [.sh,.bw,.bw] zcL) (c__law_step_well:Callee P w K mg base "_law_step_well" zcc [] 6 false q101 zbv):FnOk P w K mg base CX0 7 fa fd zsc (spM K false [Md.sh] zse):=by
 refine zoc (k:=6) (fs:=znD) (m':=q102) A zd7 rfl fun cdv A outer s H g E hr=>?_
 have hu1:=zbd hr
 have hu64:=hr.units
 exact (zaa (zd8 1 zd7.nd (by rfl) (by first | exact Or.inl rfl | exact Or.inr rfl) (zsZ (SO.toB (zf8 (za0 zam zcb))) (SE.toB (zar (dds:=[]) c__law_all (hr.mono (by decide)) (m_bw (vb_ 0) (m_bw (SE.toB zam) zaG))))))
   (zaa (s_if (q_gt (SE.toB (zeM (by rfl) T.b_len (zay (vb_ 0) zaV))) (SE.toB zam)) (zaa (zmq 1 hu1 rfl (by rfl) (by first | exact Or.inl rfl | exact Or.inr (Or.inl rfl) | exact Or.inr (Or.inr rfl)) (SE.toB zam) (zax hu1 (vb_ 0) (SE.toB zam)))
   zag)
   zag)
   (zaa (zaT 2 zd7.nd (by rfl) (by first | exact Or.inl rfl | exact Or.inr rfl) (zbK (SE.toB zam) (SE.toB (zeL (SE.toB (zar (dds:=[]) c__law_cell (hr.mono (by decide)) (m_bw (vb_ 1) (m_bw (SE.toB zam) zaG)))) (SE.toB zam)))))
   (zaa (zaT 3 zd7.nd (by rfl) (by first | exact Or.inl rfl | exact Or.inr rfl) (zdt (by rfl) T.b_tuple (zay (SO.toB (ze5 (X:=(cxOf CX0 P w K mg base znA "law" (zac ziK) fa cdv A outer s H E).nox) (N':=["_law_hand","_law_n","_law_cells"]) (nl:=1) (cap:=[2,1]) zd7.nd rfl (zaY (osc:=(zac ziK)) (ON:=znA) rfl rfl (by decide +kernel)) (SIt.toC (zbY (by rfl) T.b_range (zay (vb_ 2) zaV))) (fun _ _ _ _ _ _=>(zaw 0 (show List.Nodup (["_law_hand","_law_n","_law_cells"]:List Str) by decide +kernel) (by rfl) (by first | exact Or.inl rfl | exact Or.inr rfl))) (zcs (by decide)) (fun _ _ _ _ _ _=>ze3) (fun _ _ _ _ _ _=>(zar (dds:=[]) c__law_row (hr.mono (by decide)) (m_sh (zar (dds:=[]) c__law_cell (hr.mono (by decide)) (m_bw (vb_ 2) (m_bw (SE.toB (zbK (SE.toB zam) (vb_ 0))) zaG))) (m_bw (vb_ 1) zaG)))))) zaV)))
   (zaa (zaT 4 zd7.nd (by rfl) (by first | exact Or.inl rfl | exact Or.inr rfl) (zar (dds:=[]) c__law_mixed (hr.mono (by decide)) (m_bw (SE.toB (zar (dds:=[]) c__law_parts (hr.mono (by decide)) (m_bw (vb_ 1) (m_bw (SE.toB zam) (m_bw (vb_ 2) (m_bw (SE.toB (zbK (SE.toB zam) (SE.toB (zeL (SE.toB (znR (SE.toB (zar (dds:=[]) c__law_cell (hr.mono (by decide)) (m_bw (vb_ 1) (m_bw (SE.toB zam) zaG)))) (SE.toB zam))) (SE.toB zam))))) zaG)))))) (m_bw (vb_ 2) zaG))))
   (zaa (zen PassesOwn.never rfl (zbY (by rfl) T.b_range (zay (SE.toB zam) zaV)) (zaw 5 zd7.nd (by rfl) (by first | exact Or.inl rfl | exact Or.inr rfl)) (zaa (zaT 6 zd7.nd (by rfl) (by first | exact Or.inl rfl | exact Or.inr rfl) (zar (dds:=[]) c_heights (hr.mono (by decide)) (m_bw (vb_ 3) (m_bw (vb_ 4) zaG))))
   (zaa (zaT 7 zd7.nd (by rfl) (by first | exact Or.inl rfl | exact Or.inr rfl) (zar (dds:=[]) c_share_ring (hr.mono (by decide)) (m_bw (vb_ 3) (m_bw (vb_ 4) zaG))))
   (zaa (s_if (q_eq hu64 (SE.toB (s_is (vb_ 6) (SE.toB zeK))) (SE.toB (s_is (vb_ 7) (SE.toB zeK)))) (zaa (zaJ s_bl)
   zag)
   zag)
   (zaa (s_if (q_is (vb_ 7) (SE.toB zeK)) (zaa (zaJ (zoF (s_eq hu64 (SE.toB (zeM (by rfl) T.b_len (zay (vb_ 6) zaV))) (vb_ 2)) (zoC (zar (dds:=[]) c__law_rises (hr.mono (by decide)) (m_sh (v_ 3) (m_bw (vb_ 4) (m_bw (vb_ 6) zaG)))))))
   zag)
   zag)
   (zaa (zaT 4 zd7.nd (by rfl) (by first | exact Or.inl rfl | exact Or.inr rfl) (zar (dds:=[]) c__law_step_well (hr.mono (by decide)) (m_sh (v_ 3) (m_sh (v_ 4) (m_sh (v_ 7) zaG)))))
   (zaa (s_if (q_is (vb_ 4) (SE.toB zeK)) (zaa (zaJ s_bl)
   zag)
   zag)
   zag)))))))
   (zaa (zaJ s_bl)
   zag)))))))
end Law
namespace Law
open PySem L2 DL
noncomputable abbrev nD (k:Nat):D:=.int (k:Int)
noncomputable abbrev LN (l:List Nat):D:=.lst (l.map nD)
noncomputable abbrev TN (l:List Nat):D:=.tup (l.map nD)
noncomputable abbrev WD (rows:List (List Nat)):D:=.tup (rows.map TN)
theorem szOk {ds:List D} (h:ds.length<=1000):sz ds=some ds:=zsv (Nat.le_trans h (by rw [sizeLine_eq]; decide))
@[simp] theorem addA_int (a b:Int):addA (.int a) (.int b)=some (.int (a + b)):=rfl
theorem zgJ {a b:Int} (h:CMul a b):mulI (.int a) (.int b)=some (.int (a * b)):=by rw [mulI,intsC_int,if_pos h]
theorem zgK {a b:Int} (h:0 < b):modI (.int a) (.int b)=some (.int (a % b)):=by rw [modI,intsC_int,if_pos h]
theorem znd {a b:Int} (h:CDiv a b):zjL (.int a) (.int b)=some (.int (a / b)):=by rw [zjL,intsC_int,if_pos h]
theorem zae {s1 s2:FS} {r r':Rho} (h:s1 r=.nx r'):seqF s1 s2 r=s2 r':=by unfold seqF; rw [h]
theorem zav {s1 s2:FS} {r:Rho} {d:D} (h:s1 r=.rt d):seqF s1 s2 r=.rt d:=by unfold seqF; rw [h]
theorem zaq {m:List Md} {i:Nat} {f:FE} {r:Rho} {d:D} (h:f r=.ok d):setF m i f r=.nx (r.set i (some d)):=by unfold setF; rw [h]; rfl
theorem zaA {m:List Md} {f:FE} {r:Rho} {d:D} (h:f r=.ok d):retF m f r=.rt d:=by unfold retF; rw [h]; rfl
theorem zrK {m:List Md} {p:FQ} {s1 s2:FS} {r:Rho} {b:Bool} (h:p r=.ok b):ifF m p s1 s2 r=if b=true then s1 r else s2 r:=by unfold ifF; rw [h]; rfl
theorem if_t {m:List Md} {p:FQ} {s1 s2:FS} {r:Rho} (h:p r=.ok true):ifF m p s1 s2 r=s1 r:=by rw [zrK h,if_pos rfl]
theorem if_f {m:List Md} {p:FQ} {s1 s2:FS} {r:Rho} (h:p r=.ok false):ifF m p s1 s2 r=s2 r:=by rw [zrK h,if_neg Bool.false_ne_true]
theorem ze6 {fl:Rho->Res (List D)} {r:Rho} {ds:List D} (h:fl r=.ok ds) (hl:ds.length<=1000):mkT fl r=.ok (.tup ds):=by unfold mkT; rw [h,bind_ok,szOk hl]; rfl
theorem zeb {fl:Rho->Res (List D)} {r:Rho} {ds:List D} (h:fl r=.ok ds) (hl:ds.length<=1000):mkL fl r=.ok (.lst ds):=by unfold mkL; rw [h,bind_ok,szOk hl]; rfl
theorem zeU {ds:List D} {d:D} (h:ds.length<=1000):appD (.lst ds) [d]=some (.lst (ds++[d])):=by
 show (if ds.length < sizeLine then some (D.lst (ds++[d])) else none)=_
 rw [if_pos (by rw [sizeLine_eq]; omega)]
theorem zak {fl:Rho->Res (List D)} {dds zs:List D} {F:List D->Res D} {r:Rho} {d:D} (h1:fl r=.ok zs) (h2:F (zs++dds)=.ok d):zas fl dds F r=.ok d:=by unfold zas; rw [h1,bind_ok,h2]; rfl
theorem zjM {f:FE} {k:D->Option D} {r:Rho} {a d:D} (h1:f r=.ok a) (h2:k a=some d):f1 f k r=.ok d:=by unfold f1; rw [h1,bind_ok,h2]; rfl
theorem zaf {f f':FE} {k:D->D->Option D} {r:Rho} {a b d:D} (h1:f r=.ok a) (h2:f' r=.ok b) (h3:k a b=some d):f2 f f' k r=.ok d:=by unfold f2; rw [h1,bind_ok,h2,bind_ok,h3]; rfl
theorem zbs {fl:Rho->Res (List D)} {k:List D->Option D} {r:Rho} {ds:List D} {d:D} (h1:fl r=.ok ds) (h2:k ds=some d):fC fl k r=.ok d:=by unfold fC; rw [h1,bind_ok,h2]; rfl
theorem zad {f:FE} {fl:Rho->Res (List D)} {r:Rho} {d:D} {ds:List D} (h1:f r=.ok d) (h2:fl r=.ok ds):zab f fl r=.ok (d::ds):=by unfold zab; rw [h1,bind_ok,h2]; rfl
theorem zaj {r:Rho}:lNil r=.ok []:=rfl
theorem zaz {f:FE} {r:Rho} {b:Bool} (h:f r=.ok (.bl b)):zaU f r=.ok b:=by unfold zaU; rw [h]; rfl
theorem za7 {f:FE} {r:Rho} {d:D} {b:Bool} (h:f r=.ok d) (h2:truD d=some b):fTru f r=.ok b:=by unfold fTru; rw [h,bind_ok,h2]; rfl
theorem zdw {p:FQ} {r:Rho} {b:Bool} (h:p r=.ok b):fNot p r=.ok (! b):=by unfold fNot; rw [h]; rfl
theorem ztk {p q:FQ} {r:Rho} (h:p r=.ok true):fAnd p q r=q r:=by unfold fAnd; rw [h]; rfl
theorem ztl {p q:FQ} {r:Rho} (h:p r=.ok false):fAnd p q r=.ok false:=by unfold fAnd; rw [h]; rfl
theorem or_f {p q:FQ} {r:Rho} (h:p r=.ok false):fOr p q r=q r:=by unfold fOr; rw [h]; rfl
theorem znG {f f':FE} {r:Rho} (h:f r=.ok (.bl true)):vAnd f f' r=f' r:=by unfold vAnd; rw [h]; rfl
theorem zop {f:FE} {r:Rho} {b:Bool} (h:f r=.ok (.bl b)):vNot f r=.ok (.bl (! b)):=by unfold vNot; rw [h]; rfl
theorem zaQ {m:List Md} {fi:FI} {ft:FT} {b:FS} {r:Rho} {ds:List D} (h:fi r=.ok ds):zbL m fi ft b r=forF ft b ds r:=by unfold zbL; rw [h]; rfl
theorem zcA {f:FE} {r:Rho} {d:D} {ds:List D} (h:f r=.ok d) (h2:zbf d=some ds):fSeq zbf f r=.ok ds:=by unfold fSeq; rw [h,bind_ok,h2]; rfl
theorem zaS {ft:FT} {b:FS} {r:Rho}:forF ft b [] r=.nx r:=by unfold forF; rfl
theorem zbe {ft:FT} {b:FS} {r r1 r':Rho} {d:D} {ds:List D} (h1:ft d r=some r1) (h2:b r1=.nx r'):forF ft b (d::ds) r=forF ft b ds r':=by
 conv=>lhs; unfold forF
 simp only [h1,h2]
theorem zrV {ft:FT} {b:FS} {r r1:Rho} {d v:D} {ds:List D} (h1:ft d r=some r1) (h2:b r1=.rt v):forF ft b (d::ds) r=.rt v:=by
 conv=>lhs; unfold forF
 simp only [h1,h2]
theorem zh1 {m:List Md} {p:FQ} {b:FS} {n:Nat} {r:Rho} (h:p r=.ok false):zbr m p b (n + 1) r=.nx r:=by unfold zbr; rw [h]; rfl
theorem zgx {m:List Md} {p:FQ} {b:FS} {n:Nat} {r r':Rho} (h:p r=.ok true) (h2:b r=.nx r'):zbr m p b (n + 1) r=zbr m p b n r':=by
 conv=>lhs; unfold zbr
 rw [h,onE_ok,if_pos rfl,h2]
theorem zfI {T:String} {m:List Md} {i:Nat} {fl:Rho->Res (List D)} {mk:D->List D->Option D} {r:Rho} {d d':D} {ds:List D} (h1:r[i]? = some (some d)) (h2:tyB T d=true) (h3:fl r=.ok ds) (h4:mk d ds=some d'):mutF T m i fl mk r=.nx (r.set i (some d')):=by
 unfold mutF; rw [h1]; simp only [h2,if_true,h3,onE_ok,h4]
theorem ziS {m:List Md} {i:Nat} {fk fv:FE} {r:Rho} {d k v d':D} (h1:r[i]? = some (some d)) (h2:fv r=.ok v) (h3:fk r=.ok k) (h4:stoD d k v=some d'):DL.putF m i fk fv r=.nx (r.set i (some d')):=by
 unfold DL.putF; rw [h2,onE_ok]; simp only [h1,h3,onE_ok,h4]
theorem zlN {ft:FT} {q:FQ} {fe:FE} {r0:Rho}:zcv ft q fe r0 []=.ok []:=by unfold zcv; rfl
theorem zhK {ft:FT} {q:FQ} {fe:FE} {r0:Rho} {α:Type} (e:α->D) (keep:α->Bool) (g:α->D):∀(l:List α),(∀a∈l,∃r1,ft (e a) r0=some r1/\q r1=.ok (keep a)/\(keep a=true->fe r1=.ok (g a)))->zcv ft q fe r0 (l.map e)=.ok ((l.filter keep).map g)
 | [],_=>zlN
 | a::l,h=>by
  obtain ⟨r1,h1,h2,h3⟩:=h a List.mem_cons_self
  have ih:=zhK (ft:=ft) (q:=q) (fe:=fe) (r0:=r0) e keep g l fun b hb=>h b (List.mem_cons_of_mem _ hb)
  rw [List.map_cons]
  conv=>lhs; unfold zcv
  rw [h1,opt_some,bind_ok,h2,bind_ok]
  cases k:keep a with
  | true=>rw [if_pos rfl,h3 k,bind_ok,ih,bind_ok,List.filter_cons,if_pos k]; rfl
  | false=>rw [if_neg Bool.false_ne_true,ih,List.filter_cons,if_neg (by rw [k]; exact Bool.false_ne_true)]
theorem zeT {nl:Nat} {cap:List Nat} {fi:FI} {ft:FT} {q:FQ} {fe:FE} {r:Rho} {α:Type} {l:List α} (e:α->D) (keep:α->Bool) (g:α->D) (h1:fi r=.ok (l.map e)) (hl:l.length<=1000)
  (h:∀a∈l,∃r1,ft (e a) (capR nl cap r)=some r1/\q r1=.ok (keep a)/\(keep a=true->fe r1=.ok (g a))):zca nl cap fi ft q fe r=.ok (.lst ((l.filter keep).map g)):=by
 unfold zca
 rw [h1,bind_ok,szOk (by simpa using hl),opt_some,bind_ok,zhK e keep g l h,noXL_ok,bind_ok]
theorem zpm (a b:Nat):ltI (nD a) (nD b)=some (.bl (decide (a < b))):=by
 show some (D.bl (decide ((a:Int) < (b:Int))))=_
 simp only [Int.ofNat_lt]
theorem zpy (a b:Nat):gtI (nD a) (nD b)=some (.bl (decide (b < a))):=by
 show some (D.bl (decide ((b:Int) < (a:Int))))=_
 simp only [Int.ofNat_lt]
theorem znh (a b:Nat):eqD (nD a) (nD b)=some (.bl (decide (a=b))):=by
 unfold eqD
 rw [eqB_int]
 show some (D.bl ((a:Int) == (b:Int)))=_
 have:((a:Int) == (b:Int))=decide (a=b):=by rw [Bool.eq_iff_iff,beq_iff_eq,decide_eq_true_iff]; exact Int.ofNat_inj
 rw [this]
theorem zkV (a b:Nat):neD (nD a) (nD b)=some (.bl (! decide (a=b))):=by
 unfold neD
 rw [eqB_int]
 show some (D.bl (!((a:Int) == (b:Int))))=_
 have:((a:Int) == (b:Int))=decide (a=b):=by rw [Bool.eq_iff_iff,beq_iff_eq,decide_eq_true_iff]; exact Int.ofNat_inj
 rw [this]
theorem zaD {B:FS} {n:Nat} {ds:List D} {d:D} (h:B (zat n ds)=.rt d):outR false (B (zat n ds))=.ok d:=by rw [h]; rfl
noncomputable abbrev kI (k:Nat):Key:=Sum.inl (k:Int)
theorem zrO (kvs:List (Nat × D)) (k:Nat):hasK (kvs.map fun p=>(kI p.1,p.2)) (kI k)=decide (k∈kvs.map (·.1)):=by
 unfold hasK
 rw [List.any_map,Bool.eq_iff_iff,List.any_eq_true,decide_eq_true_iff,List.mem_map]
 constructor
 ·rintro ⟨p,h1,h2⟩
  refine ⟨p,h1,?_⟩
  simp only [Function.comp_apply,decide_eq_true_eq] at h2
  have:((p.1:Nat):Int)=(k:Int):=Sum.inl.inj h2
  exact Int.ofNat.inj this
 ·rintro ⟨p,h1,rfl⟩
  exact ⟨p,h1,by simp⟩
theorem zmB (kvs:List (Nat × D)) (k:Nat) (d:D) (h:k∉kvs.map (·.1)):putD (kvs.map fun p=>(kI p.1,p.2)) (kI k) d=(kvs++[(k,d)]).map fun p=>(kI p.1,p.2):=by
 unfold putD
 have e:((kvs.map fun p=>(kI p.1,p.2)).any fun kv=>decide (kv.1=kI k))=decide (k∈kvs.map (·.1)):=zrO kvs k
 rw [e,decide_eq_false h,if_neg Bool.false_ne_true,List.map_append]
 rfl
@[simp] theorem e_seq (s1 s2:FS) (r:Rho):seqF s1 s2 r=(match s1 r with | .nx r'=>s2 r' | o=>o):=rfl
@[simp] theorem e_skip (r:Rho):zal r=.nx r:=rfl
@[simp] theorem e_set (m:List Md) (i:Nat) (f:FE) (r:Rho):setF m i f r=onE m r (f r) fun d=>.nx (r.set i (some d)):=rfl
@[simp] theorem e_ret (m:List Md) (f:FE) (r:Rho):retF m f r=onE m r (f r) fun d=>.rt d:=rfl
@[simp] theorem e_if (m:List Md) (p:FQ) (s1 s2:FS) (r:Rho):ifF m p s1 s2 r=onE m r (p r) fun c=>if c=true then s1 r else s2 r:=rfl
@[simp] theorem e_getV (r:Rho) (i:Nat):getV r i=(match r[i]? with | some (some d)=>.ok d | _=>.stuck):=rfl
@[simp] theorem e_f1 (f:FE) (k:D->Option D) (r:Rho):f1 f k r=(f r).bind fun d=>opt (k d):=rfl
@[simp] theorem e_f2 (f f':FE) (k:D->D->Option D) (r:Rho):f2 f f' k r=(f r).bind fun a=>(f' r).bind fun b=>opt (k a b):=rfl
@[simp] theorem e_fC (fl:Rho->Res (List D)) (k:List D->Option D) (r:Rho):fC fl k r=(fl r).bind fun ds=>opt (k ds):=rfl
@[simp] theorem e_lN (r:Rho):lNil r=.ok []:=rfl
@[simp] theorem e_lC (f:FE) (fl:Rho->Res (List D)) (r:Rho):zab f fl r=(f r).bind fun d=>(fl r).bind fun ds=>.ok (d::ds):=rfl
@[simp] theorem e_test (f:FE) (r:Rho):zaU f r=(f r).bind fun d=>opt (asB d):=rfl
@[simp] theorem e_tru (f:FE) (r:Rho):fTru f r=(f r).bind fun d=>opt (truD d):=rfl
@[simp] theorem e_not (p:FQ) (r:Rho):fNot p r=(p r).bind fun c=>.ok (! c):=rfl
@[simp] theorem e_and (p q:FQ) (r:Rho):fAnd p q r=(p r).bind fun c=>if c=true then q r else .ok false:=rfl
@[simp] theorem e_or (p q:FQ) (r:Rho):fOr p q r=(p r).bind fun c=>if c=true then .ok true else q r:=rfl
@[simp] theorem e_vand (f f':FE) (r:Rho):vAnd f f' r=(f r).bind fun d=>(opt (asB d)).bind fun c=>if c=true then f' r else .ok (.bl false):=rfl
@[simp] theorem e_vor (f f':FE) (r:Rho):vOr f f' r=(f r).bind fun d=>(opt (asB d)).bind fun c=>if c=true then .ok (.bl true) else f' r:=rfl
@[simp] theorem e_vnot (f:FE) (r:Rho):vNot f r=(f r).bind fun d=>(opt (asB d)).bind fun c=>.ok (.bl (! c)):=rfl
@[simp] theorem e_fIf (p:FQ) (f f':FE) (r:Rho):fIf p f f' r=(p r).bind fun c=>if c=true then f r else f' r:=rfl
@[simp] theorem e_call (fl:Rho->Res (List D)) (dds:List D) (F:List D->Res D) (r:Rho):zas fl dds F r=(fl r).bind fun ds=>noX (F (ds++dds)):=rfl
@[simp] theorem e_asB (b:Bool):asB (.bl b)=some b:=rfl
@[simp] theorem e_truB (b:Bool):truD (.bl b)=some b:=rfl
@[simp] theorem e_truL (ds:List D):truD (.lst ds)=some (! ds.isEmpty):=rfl
@[simp] theorem e_loop (m:List Md) (fi:FI) (ft:FT) (b:FS) (r:Rho):zbL m fi ft b r=onE m r (fi r) fun ds=>forF ft b ds r:=rfl
@[simp] theorem e_fSeq (k:D->Option (List D)) (f:FE) (r:Rho):fSeq k f r=(f r).bind fun d=>opt (k d):=rfl
@[simp] theorem e_asL (ds:List D):zbf (.lst ds)=some ds:=rfl
@[simp] theorem e_asT (ds:List D):zbf (.tup ds)=some ds:=rfl
@[simp] theorem e_mkT (fl:Rho->Res (List D)) (r:Rho):mkT fl r=(fl r).bind fun ds=>(opt (sz ds)).bind fun ds=>.ok (.tup ds):=rfl
@[simp] theorem e_mkL (fl:Rho->Res (List D)) (r:Rho):mkL fl r=(fl r).bind fun ds=>(opt (sz ds)).bind fun ds=>.ok (.lst ds):=rfl
@[simp] theorem e_sz0:sz []=some []:=szOk (by simp)
@[simp] theorem e_sz1 (a:D):sz [a]=some [a]:=szOk (by simp)
@[simp] theorem e_sz2 (a b:D):sz [a,b]=some [a,b]:=szOk (by simp)
@[simp] theorem e_sz3 (a b c:D):sz [a,b,c]=some [a,b,c]:=szOk (by simp)
@[simp] theorem e_lenL (ds:List D):lenD [.lst ds]=some (.int ds.length):=rfl
@[simp] theorem e_lenT (ds:List D):lenD [.tup ds]=some (.int ds.length):=rfl
@[simp] theorem e_lenK (ds:List (Key × D)):lenD [.dic ds]=some (.int ds.length):=rfl
@[simp] theorem e_tupL (ds:List D):tupD [.lst ds]=some (.tup ds):=rfl
@[simp] theorem e_listL (ds:List D):zik [.lst ds]=some (.lst ds):=rfl
@[simp] theorem e_listT (ds:List D):zik [.tup ds]=some (.lst ds):=rfl
@[simp] theorem e_isNN:isD .non .non=some (.bl true):=rfl
@[simp] theorem e_isLN (ds:List D):isD (.lst ds) .non=some (.bl false):=rfl
@[simp] theorem e_isn1:isnD .non .non=some (.bl false):=rfl
@[simp] theorem e_isn2 (i:Int):isnD (.int i) .non=some (.bl true):=rfl
@[simp] theorem e_isn3 (ds:List D):isnD (.tup ds) .non=some (.bl true):=rfl
@[simp] theorem e_valsD (kvs:List (Key × D)):zsl (.dic kvs)=some (.lst (kvs.map (·.2))):=rfl
theorem zgO {ds:List D} {i:Nat} {d:D} (h:ds[i]? = some d):ixA (.tup ds) (nD i)=some d:=by
 have hl:i < ds.length:=(List.getElem?_eq_some_iff.mp h).1
 show atI ds (i:Int)=some d
 unfold atI ixN
 rw [if_pos (Int.natCast_nonneg i),if_pos (by omega)]
 simpa using h
theorem zm5 {ds:List D} {i:Nat} {d:D} (h:ds[i]? = some d):ixA (.lst ds) (nD i)=some d:=by
 have hl:i < ds.length:=(List.getElem?_eq_some_iff.mp h).1
 show atI ds (i:Int)=some d
 unfold atI ixN
 rw [if_pos (Int.natCast_nonneg i),if_pos (by omega)]
 simpa using h
@[simp] theorem ixA_L0 (d:D) (ds:List D):ixA (.lst (d::ds)) (.int 0)=some d:=zm5 (i:=0) rfl
@[simp] theorem ixA_T0 (d:D) (ds:List D):ixA (.tup (d::ds)) (.int 0)=some d:=zgO (i:=0) rfl
theorem zs6 {kvs:List (Key × D)} {k:Nat} {d:D} (h:getK kvs (kI k)=some d):ixA (.dic kvs) (nD k)=some d:=h
theorem anyE (l:List Nat) (k:Nat):(l.map nD).any (fun y=>eqs y (nD k))=decide (k∈l):=by
 rw [List.any_map,Bool.eq_iff_iff,List.any_eq_true,decide_eq_true_iff]
 constructor
 ·rintro ⟨x,h1,h2⟩
  have:(((x:Nat):Int) == (k:Int))=true:=h2
  have:=Int.ofNat_inj.mp (eq_of_beq this)
  subst this; exact h1
 ·intro h
  exact ⟨k,h,by show (((k:Nat):Int) == (k:Int))=true; simp⟩
theorem znc (l:List Nat):(l.map nD).all zbq=true:=by
 rw [List.all_eq_true]
 intro x hx
 obtain ⟨k,_,rfl⟩:=List.mem_map.mp hx
 rfl
theorem zs8 (l:List Nat) (k:Nat):inD (nD k) (LN l)=some (.bl (decide (k∈l))):=by
 show (if zbq (nD k)=true/\(l.map nD).all zbq=true then some ((l.map nD).any fun y=>eqs y (nD k)) else none).map D.bl=_
 rw [if_pos ⟨rfl,znc l⟩,anyE]; rfl
theorem zrh (l:List Nat) (k:Nat):ninD (nD k) (LN l)=some (.bl (! decide (k∈l))):=by
 show (if zbq (nD k)=true/\(l.map nD).all zbq=true then some ((l.map nD).any fun y=>eqs y (nD k)) else none).map (fun b=>D.bl (! b))=_
 rw [if_pos ⟨rfl,znc l⟩,anyE]; rfl
theorem zdL {α:Type} (f:α->D) (l:List α):lenD [.tup (l.map f)]=some (nD l.length):=by
 show some (D.int ((l.map f).length:Int))=_
 rw [List.length_map]
theorem zcC {α:Type} (f:α->D) (l:List α):lenD [.lst (l.map f)]=some (nD l.length):=by
 show some (D.int ((l.map f).length:Int))=_
 rw [List.length_map]
theorem zm2 {α:Type} (f:α->Key × D) (l:List α):lenD [.dic (l.map f)]=some (nD l.length):=by
 show some (D.int ((l.map f).length:Int))=_
 rw [List.length_map]
theorem zng (n:Nat):eqD (nD n) (nD n)=some (.bl true):=by
 have e:=znh n n
 rw [decide_eq_true rfl] at e; exact e
theorem znT (n:Nat):rngD 0 n=(List.range n).map nD:=by
 unfold rngD
 refine List.map_congr_left fun i _=>?_
 show D.int (0 + (i:Int))=D.int (i:Int)
 rw [Int.zero_add]
theorem zmW (j:Int):zk5 [.int j]=if -(2 ^ 62)<=j/\j < 2 ^ 62/\j.toNat<=sizeLine then some (.lst (rngD 0 j.toNat)) else none:=rfl
theorem zpn {n:Nat} (h:n<=1000):zk5 [nD n]=some (LN (List.range n)):=by
 have hs:(n:Int).toNat<=sizeLine:=by rw [Int.toNat_natCast,sizeLine_eq]; omega
 rw [zmW,if_pos ⟨by omega,by omega,hs⟩,Int.toNat_natCast,znT]
theorem zoK (j:Int):rng1 [.int j]=if -(2 ^ 62)<=j/\j < 2 ^ 62 then some (rngD 0 j.toNat) else none:=rfl
theorem zdu {n:Nat} (h:n<=1000):rng1 [nD n]=some ((List.range n).map nD):=by
 rw [zoK,if_pos ⟨by omega,by omega⟩,Int.toNat_natCast,znT]
theorem zct {fl:Rho->Res (List D)} {k:List D->Option (List D)} {r:Rho} {ds es:List D} (h1:fl r=.ok ds) (h2:k ds=some es):fRng k fl r=.ok es:=by unfold fRng; rw [h1,bind_ok,h2]; rfl
noncomputable def own (owns:List (Option Nat)) (h:Nat):Option Nat:=(owns[h]?).join
theorem zrz {a b:Nat} (h:kI a=kI b):a=b:=Int.ofNat_inj.mp (Sum.inl.inj h)
noncomputable def putN (kvs:List (Nat × Nat)) (k v:Nat):List (Nat × Nat):=if k∈kvs.map (·.1) then kvs.map fun p=>if p.1=k then (p.1,v) else p else kvs++[(k,v)]
theorem zkx (kvs:List (Nat × Nat)) (k v j:Nat):j∈(putN kvs k v).map (·.1)↔j∈kvs.map (·.1)\/j=k:=by
 unfold putN
 by_cases h:k∈kvs.map (·.1)
 ·rw [if_pos h,List.map_map]
  have:((fun p:Nat × Nat=>p.1) ∘ fun p=>if p.1=k then (p.1,v) else p)=fun p=>p.1:=by
   funext p
   simp only [Function.comp_apply]
   split <;> rfl
  rw [this]
  constructor
  ·exact .inl
  ·rintro (z | rfl)
   ·exact z
   ·exact h
 ·rw [if_neg h]; simp
theorem zmA {kvs:List (Nat × Nat)} {k v:Nat} {f:Nat->Nat} (h:∀p∈kvs,p.2=f p.1) (hv:v=f k):∀p∈putN kvs k v,p.2=f p.1:=by
 intro p hp
 unfold putN at hp
 split at hp
 ·obtain ⟨q,h1,rfl⟩:=List.mem_map.mp hp
  split
  ·rename_i e; simp only; rw [e]; exact hv
  ·exact h q h1
 ·rcases List.mem_append.mp hp with z | z
  ·exact h p z
  ·rw [List.mem_singleton.mp z]; exact hv
structure GI (t:Nat->Nat) (kvs:List (Nat × Nat)) (L:List Nat):Prop where
 nd:(kvs.map (·.1)).Nodup
 val:∀p∈kvs,p.2=t p.1
 key:∀h,h∈kvs.map (·.1)↔h∈L
theorem zoP {kvs:List (Nat × Nat)} {k v:Nat} (h:(kvs.map (·.1)).Nodup):((putN kvs k v).map (·.1)).Nodup:=by
 unfold putN
 split
 ·rw [List.map_map]
  have:((fun p:Nat × Nat=>p.1) ∘ fun p=>if p.1=k then (p.1,v) else p)=fun p=>p.1:=by
   funext p
   simp only [Function.comp_apply]
   split <;> rfl
  rw [this]; exact h
 ·rename_i hk
  rw [List.map_append]
  refine List.nodup_append.mpr ⟨h,by simp,fun a ha b hb=>?_⟩
  simp at hb
  rintro rfl
  exact hk (hb ▸ ha)
theorem GI.put {t:Nat->Nat} {kvs:List (Nat × Nat)} {L:List Nat} (g:GI t kvs L) (k:Nat):GI t (putN kvs k (t k)) (L++[k]):=
 ⟨zoP g.nd,zmA g.val rfl,fun h=>by rw [zkx,g.key]; simp⟩
theorem GI.len {t:Nat->Nat} {kvs:List (Nat × Nat)} {L line:List Nat} (g:GI t kvs L) (hs:∀h∈L,h∈line):kvs.length<=line.length:=by
 have:=Rg.zgN (m:=line) g.nd fun h hh=>hs h ((g.key h).mp hh)
 simpa using this
theorem GI.congr {t t':Nat->Nat} {kvs:List (Nat × Nat)} {L:List Nat} (g:GI t kvs L) (h:∀x∈L,t' x=t x):GI t' kvs L:=
 ⟨g.nd,fun p hp=>by rw [g.val p hp,h p.1 ((g.key _).mp (List.mem_map.mpr ⟨p,hp,rfl⟩))],g.key⟩
theorem GI.mem {t:Nat->Nat} {kvs:List (Nat × Nat)} {L M:List Nat} (g:GI t kvs L) (h:∀x,x∈L↔x∈M):GI t kvs M:=⟨g.nd,g.val,fun x=>(g.key x).trans (h x)⟩
theorem GI.nil (t:Nat->Nat):GI t [] []:=⟨by simp,fun _ hp=>(nomatch hp),fun h=>by simp⟩
theorem zlz {α:Type} (l:List α):l.filter (fun _=>true)=l:=List.filter_eq_self.mpr fun _ _=>rfl
noncomputable def Wr (rows:List (List Nat)) (h:Nat):List Nat:=(rows[h]?).getD []
theorem zqz {rows:List (List Nat)} {h:Nat} (hh:h < rows.length):(rows.map TN)[h]? = some (TN (Wr rows h)):=by
 rw [List.getElem?_map]
 unfold Wr
 rw [List.getElem?_eq_getElem hh]; rfl
theorem ziY {a b:Nat} (h:0 < b):modI (nD a) (nD b)=some (nD (a % b)):=by
 rw [zgK (by omega:(0:Int) < (b:Int))]
 show some (D.int _)=some (D.int _)
 rw [Int.natCast_emod]
theorem zlA {a b:Nat} (h:0 < b) (h2:b < 1000):zjL (nD a) (nD b)=some (nD (a / b)):=by
 rw [znd (⟨by omega,by omega⟩:CDiv (a:Int) (b:Int))]
 show some (D.int _)=some (D.int _)
 rw [Int.natCast_ediv]
theorem zed (a b:Nat):addA (nD a) (nD b)=some (nD (a + b)):=by
 rw [addA_int]
 show some (D.int _)=some (D.int _)
 rw [Int.natCast_add]
section
variable {f f':FE} {r:Rho}
theorem zjN {b:Int} (h:∃i:Int,f r=.ok (.int i)) (h':f' r=.ok (.int b)) (hb:0 < b):∃c:Nat,f2 f f' modI r=.ok (nD c):=by
 obtain ⟨i,hi⟩:=h
 refine ⟨(i % b).toNat,zaf hi h' ?_⟩
 rw [zgK hb]
 show some (D.int _)=some (D.int _)
 rw [Int.toNat_of_nonneg (Int.emod_nonneg _ (by omega))]
theorem exN (h:∃c:Nat,f r=.ok (nD c)):∃i:Int,f r=.ok (.int i):=let ⟨c,e⟩:=h; ⟨c,e⟩
theorem zfQ {b:Int} (h:∃i:Int,f r=.ok (.int i)) (h':f' r=.ok (.int b)) (hb : -(2 ^ 64) < b/\b < 2 ^ 64):∃i:Int,f2 f f' mulI r=.ok (.int i):=by
 obtain ⟨i,hi⟩:=h
 exact ⟨i * b,zaf hi h' (zgJ (.inr hb))⟩
theorem znf (h:∃i:Int,f r=.ok (.int i)) (h':∃i:Int,f' r=.ok (.int i)):∃i:Int,f2 f f' addA r=.ok (.int i):=by
 obtain ⟨i,hi⟩:=h
 obtain ⟨j,hj⟩:=h'
 exact ⟨i + j,zaf hi hj rfl⟩
end
theorem zrX {m:List Md} {i:Nat} {f:FE} {s2:FS} {r:Rho} (h:∃c:Nat,f r=.ok (nD c)) (k:∀c:Nat,∃d:Nat,s2 (r.set i (some (nD c)))=.rt (nD d)):∃d:Nat,seqF (setF m i f) s2 r=.rt (nD d):=by
 obtain ⟨c,hc⟩:=h
 obtain ⟨d,hd⟩:=k c
 exact ⟨d,(zae (zaq hc)).trans hd⟩
noncomputable abbrev IN (ns:List Int):D:=.lst (ns.map .int)
theorem zfk (ns:List Int) (k:Nat) (hk:k<=1000):∃c:Nat,zaE [IN ns,nD k]=.ok (nD c):=by
 suffices h:∃c:Nat,zcz (zat 4 [IN ns,nD k])=.rt (nD c) by
  obtain ⟨c,hc⟩:=h
  exact ⟨c,zaD (B:=zcz) (n:=4) hc⟩
 unfold zcz
 have st:seqF (setF q106 2 (ci 0))=seqF (setF q106 2 (fun _=>Res.ok (nD 0))):=rfl
 rw [st]
 refine zrX ⟨0,rfl⟩ fun c1=>?_
 show ∃d:Nat,seqF _ _ [some (IN ns),some (nD k),some (nD c1),none]=_
 have key:∃c2:Nat,(ifF q106 (zaU (f2 (gv 1) (fC (zab (gv 0) lNil) lenD) ltI)) (seqF (setF q106 2 (f2 (f2 (gv 0) (gv 1) ixA) (f2 (ci 10) (ci 60) powI) modI)) zal) zal) [some (IN ns),some (nD k),some (nD c1),none]=.nx [some (IN ns),some (nD k),some (nD c2),none]:=by
  have t:=zaz (zaf (f:=gv 1) (r:=[some (IN ns),some (nD k),some (nD c1),none]) (a:=nD k) rfl (zbs (zad (f:=gv 0) (d:=IN ns) rfl zaj) (zcC _ _)) (zpm k ns.length))
  by_cases hlt:k < ns.length
  ·rw [decide_eq_true hlt] at t
   have hx:(ns.map D.int)[k]? = some (.int ns[k]):=by rw [List.getElem?_map,List.getElem?_eq_getElem hlt]; rfl
   have hp:powI (.int 10) (.int 60)=some (.int (10 ^ 60)):=by
    show zfO CPow _ _ _=_
    rw [intsC_int,if_pos (by unfold CPow; decide)]
    rfl
   obtain ⟨c2,h2⟩:=zjN (f:=f2 (gv 0) (gv 1) ixA) (f':=f2 (ci 10) (ci 60) powI) (r:=[some (IN ns),some (nD k),some (nD c1),none]) ⟨ns[k],zaf (a:=IN ns) (b:=nD k) rfl rfl (zm5 hx)⟩ (zaf rfl rfl hp) (by decide)
   exact ⟨c2,(if_t t).trans ((zae (zaq h2)).trans rfl)⟩
  ·rw [decide_eq_false hlt] at t
   exact ⟨c1,(if_f t).trans rfl⟩
 obtain ⟨c2,h2⟩:=key
 rw [zae h2]
 have kq:∃b,(fAnd (zaU (f2 (fC (zab (gv 0) lNil) lenD) (ci 0) gtI)) (zaU (f2 (f2 (f2 (gv 0) (ci 0) ixA) (ci 2) modI) (ci 0) eqD))) [some (IN ns),some (nD k),some (nD c2),none]=.ok b:=by
  have t:=zaz (zaf (f:=fC (zab (gv 0) lNil) lenD) (f':=fun _=>Res.ok (D.int 0)) (r:=[some (IN ns),some (nD k),some (nD c2),none]) (b:=nD 0) (zbs (zad (d:=IN ns) rfl zaj) (zcC _ _)) rfl (zpy ns.length 0))
  cases ns with
  | nil=>exact ⟨false,ztl t⟩
  | cons a ns=>
   rw [decide_eq_true (by simp)] at t
   obtain ⟨c3,h3⟩:=zjN (f:=f2 (gv 0) (ci 0) ixA) (f':=fun _=>Res.ok (D.int 2)) (r:=[some (IN (a::ns)),some (nD k),some (nD c2),none]) ⟨a,zaf (a:=IN (a::ns)) (b:=.int 0) rfl rfl (ixA_L0 _ _)⟩ rfl (by decide)
   exact ⟨_,(ztk t).trans (zaz (zaf h3 (b:=nD 0) rfl (znh c3 0)))⟩
 obtain ⟨b,hb⟩:=kq
 cases b with
 | true=>exact ⟨c2,zav ((if_t hb).trans (zav (zaA (d:=nD c2) rfl)))⟩
 | false=>
  rw [zae ((if_f (s2:=zal) hb).trans (e_skip _))]
  refine zrX (zjN (zfQ (exN (zjN (zfQ (znf (znf (znf ⟨(c2:Int),rfl⟩ (zfQ (b:=(k:Int)) (zfQ (b:=(k:Int)) ⟨7,rfl⟩ rfl (by omega)) rfl (by omega))) (zfQ (b:=(k:Int)) ⟨13,rfl⟩ rfl (by omega))) ⟨5,rfl⟩) rfl (by decide)) rfl (by decide))) rfl (by decide)) rfl (by decide)) fun c3=>?_
  obtain ⟨c4,h4⟩:=zjN (f:=(f2 (f2 (f2 (f2 (gv 3) (ci 1) addA) (ci 40692) mulI) (ci 2147483629) modI) (ci 39373) mulI)) (f':=fun _=>Res.ok (D.int 999999937)) (r:=[some (IN ns),some (nD k),some (nD c2),some (nD c3)]) (zfQ (exN (zjN (zfQ (znf ⟨(c3:Int),rfl⟩ ⟨1,rfl⟩) rfl (by decide)) rfl (by decide))) rfl (by decide)) rfl (by decide)
  exact ⟨c4,zav (zaA h4)⟩
theorem zm6 {row:List Nat} {i:Int} {x:Nat}:insL (row.map nD) i (nD x)=(insL row i x).map nD:=by
 unfold insL
 rw [List.length_map,List.map_append,List.map_cons,List.map_take,List.map_drop]
theorem zlo {row:List Nat} {i:Int} {x:Nat}:(insL row i x).Perm (x::row):=by
 unfold insL
 refine List.perm_middle.trans ?_
 rw [List.take_append_drop]
theorem ziP (m:Nat):∀(j i c:Nat) (row:List Nat) (x:Option D),row.Perm (List.range i)->i + j<=60 ->
  ∃(c':Nat) (row':List Nat) (x':Option D),row'.Perm (List.range (i + j))/\forF (ftN 3) zfb ((List.range' i j).map nD) [some (nD c),some (nD m),some (LN row),x]=.nx [some (nD c'),some (nD m),some (LN row'),x']
 | 0,i,c,row,x,hp,_=>⟨c,row,x,hp,zaS⟩
 | j + 1,i,c,row,x,hp,hl=>by
  have hlen:row.length=i:=by rw [hp.length_eq]; simp
  obtain ⟨c',row',x',h1,h2⟩:=ziP m j (i + 1) (c / (i + 1)) (insL row ((c % (i + 1):Nat):Int) i) (some (nD i)) (by
   refine zlo.trans ?_
   rw [List.range_succ]
   exact (List.Perm.cons i hp).trans (List.perm_append_singleton i _).symm) (by omega)
  refine ⟨c',row',x',by rw [show i + (j + 1)=i + 1 + j by omega]; exact h1,?_⟩
  rw [<-h2]
  have hmod:c % (i + 1) < i + 1:=Nat.mod_lt _ (by omega)
  refine zbe (r1:=[some (nD c),some (nD m),some (LN row),some (nD i)]) rfl ?_
  refine (zae (zfI (d:=LN row) (ds:=[nD (c % (i + 1)),nD i]) (d':=LN (insL row ((c % (i + 1):Nat):Int) i)) rfl rfl (zad (zaf (a:=nD c) (b:=nD (i + 1)) rfl (zaf (a:=nD i) (b:=nD 1) rfl rfl (zed i 1)) (ziY (by omega))) (zad (d:=nD i) rfl zaj)) ?_)).trans ?_
  ·show (if _ then some (D.lst (insL _ _ _)) else none)=_
   rw [if_pos ⟨by rw [List.length_map,sizeLine_eq]; omega,by omega,by omega⟩,zm6]
  ·exact zae (zaq (d:=nD (c / (i + 1))) (zaf (a:=nD c) (b:=nD (i + 1)) rfl (zaf (a:=nD i) (b:=nD 1) rfl rfl (zed i 1)) (zlA (by omega) (by omega))))
theorem zkk (c m:Nat) (hm:m<=60):∃row:List Nat,row.Perm (List.range m)/\zbB [nD c,nD m]=.ok (TN row):=by
 obtain ⟨c',row',x',h1,h2⟩:=ziP m m 0 c [] none (by simp) (by omega)
 rw [Nat.zero_add] at h1
 rw [<-List.range_eq_range'] at h2
 refine ⟨row',h1,zaD (B:=zdY) (n:=4) ?_⟩
 unfold zdY
 refine (zae (zaq (d:=LN []) (zeb zaj (by simp)))).trans ?_
 refine (zae ((zaQ (ds:=(List.range m).map nD) (zct (zad (d:=nD m) rfl zaj) (zdu (by omega)))).trans h2)).trans ?_
 exact zav (zaA (zbs (zad (d:=LN row') rfl zaj) rfl))
end Law
namespace Law
open PySem PyProof.Rows L2 DL
theorem ztd (a b:Nat):eqs (nD a) (nD b)=decide (a=b):=by
 show (((a:Nat):Int) == (b:Int))=_
 rw [Bool.eq_iff_iff,beq_iff_eq,decide_eq_true_iff]; exact Int.ofNat_inj
theorem zir (k:Nat):∀l:List Nat,k∈l->zfP (nD k) (l.map nD)=some (l.idxOf k)
 | [],h=>by cases h
 | a::l,h=>by
  show (if eqs (nD a) (nD k)=true then some 0 else (zfP (nD k) (l.map nD)).map (· + 1))=_
  rw [ztd]
  by_cases e:a=k
  ·rw [if_pos (by simpa using e)]; subst e; simp
  ·rw [if_neg (by simpa using e),zir k l ((List.mem_cons.mp h).resolve_left fun z=>e z.symm)]
   have hf:(a == k)=false:=by simpa using e
   rw [List.idxOf_cons,hf]; rfl
theorem zi5 {k:Nat} {l:List Nat} (h:k∈l):zgR (TN l) [nD k]=some (nD (l.idxOf k)):=by
 show (if zbq (nD k)=true/\(l.map nD).all zbq=true then (zfP (nD k) (l.map nD)).map fun j=>D.int j else none)=_
 rw [if_pos ⟨rfl,znc l⟩,zir k l h]; rfl
theorem zpA {T:String} {fo:FE} {fl:Rho->Res (List D)} {k:D->List D->Option D} {r:Rho} {d d':D} {ds:List D} (h1:fo r=.ok d) (ht:tyM T d=true) (h2:fl r=.ok ds) (h3:k d ds=some d'):fM T fo fl k r=.ok d':=by
 unfold fM; rw [h1,bind_ok,if_pos ht,h2,bind_ok,h3]; rfl
theorem zm7 {k:Nat} {l:List Nat} (h:k∈l):zio (LN l) [nD k]=some (nD (l.idxOf k)):=by
 show (if zbq (nD k)=true/\(l.map nD).all zbq=true then (zfP (nD k) (l.map nD)).map fun j=>D.int j else none)=_
 rw [if_pos ⟨rfl,znc l⟩,zir k l h]; rfl
theorem zou {l:List Nat} {i:Nat} (h:i<=l.length):slD (LN l) (some (i:Int)) none=some (LN (l.drop i)):=by
 show some (D.lst (cutL (l.map nD) (some (i:Int)) none))=_
 unfold cutL
 rw [HT.sIx_nat,HT.sIx_none,List.length_map,Nat.min_eq_left h]
 rw [List.take_of_length_le (by simp)]
 show some (D.lst _)=some (D.lst ((l.drop i).map nD))
 rw [List.map_drop]
theorem zdh {f:FE} {r:Rho} {i:Int} (h:f r=.ok (.int i)):zga f r=.ok (some i):=by unfold zga; rw [h]; rfl
theorem zkd {fa:FE} {fl fh:FP} {r:Rho} {d d':D} {lo hi:Option Int} (h1:fa r=.ok d) (h2:fl r=.ok lo) (h3:fh r=.ok hi) (h4:slD d lo hi=some d'):fSl fa fl fh r=.ok d':=by
 unfold fSl; rw [h1,bind_ok,h2,bind_ok,h3,bind_ok,h4]; rfl
theorem znN {ds:List D} {i:Nat} {v:D} (h:i < ds.length):stoD (.lst ds) (nD i) v=some (.lst (ds.set i v)):=by
 show (ixN ds.length (i:Int)).map _=_
 unfold ixN
 rw [if_pos (Int.natCast_nonneg i),if_pos (by omega)]
 simp
theorem zcD {nl:Nat} {cap:List Nat} {fi:FI} {ft:FT} {fe:FE} {r:Rho} {α:Type} {l:List α} (e:α->D) (g:α->D) (h1:fi r=.ok (l.map e)) (hl:l.length<=1000)
  (h:∀a∈l,∃r1,ft (e a) (capR nl cap r)=some r1/\fe r1=.ok (g a)):zca nl cap fi ft (fun _=>Res.ok true) fe r=.ok (.lst (l.map g)):=by
 have:=zeT (q:=fun _=>Res.ok true) e (fun _=>true) g h1 hl fun a ha=>by
  obtain ⟨r1,q1,q2⟩:=h a ha
  exact ⟨r1,q1,rfl,fun _=>q2⟩
 rw [this,zlz]
end Law
section
set_option exponentiation.threshold 3000
namespace Law
open PySem PyProof.Rows L2 DL Fq
noncomputable abbrev FR (x:Int × Nat):D:=.tup [.int x.1,nD x.2]
noncomputable abbrev LF (l:List (Int × Nat)):D:=.lst (l.map FR)
noncomputable abbrev TF (l:List (Int × Nat)):D:=.tup (l.map FR)
theorem zpJ:BIG=2 ^ 2000:=rfl
theorem zk4 {a k:Nat} (h:a < 2 ^ k) (hk:k<=2000):a < BIG:=by
 rw [zpJ]; exact Nat.lt_of_lt_of_le h (Nat.pow_le_pow_right (by omega) hk)
theorem zbW {a b:Int} {k l:Nat} (h1:a.natAbs < 2 ^ k) (h2:b.natAbs < 2 ^ l) (hk:k<=2000) (hl:l<=2000):mulW (.int a) (.int b)=some (.int (a * b)):=by
 rw [mulW,intsC_int,if_pos ⟨zk4 h1 hk,zk4 h2 hl⟩]
theorem zfo {a:Int} {b k:Nat} (h0:0 < b) (h1:b < 2 ^ k) (hk:k<=2000):zis (.int a) (nD b)=some (.int (a / (b:Int))):=by
 rw [zis,intsC_int,if_pos ⟨by omega,by rw [Int.natAbs_natCast]; exact zk4 h1 hk⟩]
theorem zrj (b:Nat):neD (nD b) (.int 0)=some (.bl (! decide (b=0))):=zkV b 0
theorem znb {m:List Md}:∀(k n:Nat) (a:Int) (b:Nat) (x:Option D),b < 2 ^ k->2 * k + 1<=n ->
  ∃(a':Int) (y:Option D),zbr m zbg zbi n [some (.int a),some (nD b),x]=.nx [some (.int a'),some (nD 0),y]/\a'.natAbs=Int.gcd a b:=by
 have z0:∀(n:Nat) (a:Int) (x:Option D),1<=n->∃(a':Int) (y:Option D),zbr m zbg zbi n [some (.int a),some (nD 0),x]=.nx [some (.int a'),some (nD 0),y]/\a'.natAbs=Int.gcd a 0:=by
  intro n a x hn
  obtain ⟨n,rfl⟩:∃k,n=k + 1:=⟨n - 1,by omega⟩
  exact ⟨a,x,zh1 (zaz (zaf (a:=nD 0) (b:=.int 0) rfl rfl (zrj 0))),by simp⟩
 have st:∀(n:Nat) (a:Int) (b:Nat) (x:Option D),0 < b->zbr m zbg zbi (n + 1) [some (.int a),some (nD b),x]=zbr m zbg zbi n [some (nD b),some (nD (a % (b:Int)).toNat),some (nD (a % (b:Int)).toNat)]:=by
  intro n a b x hb
  have hne:=zrj b
  rw [decide_eq_false (by omega)] at hne
  refine zgx (zaz (zaf (a:=nD b) (b:=.int 0) rfl rfl hne)) ?_
  refine (zae (zaq (d:=nD (a % (b:Int)).toNat) (zaf (a:=.int a) (b:=nD b) rfl rfl ?_))).trans ?_
  ·rw [zgK (by omega)]
   show some (D.int _)=some (D.int _)
   rw [Int.toNat_of_nonneg (Int.emod_nonneg _ (by omega))]
  refine (zae (zaq (d:=nD b) rfl)).trans ?_
  exact zae (zaq (d:=nD (a % (b:Int)).toNat) rfl)
 have hr:∀(a:Int) (b:Nat),0 < b->(((a % (b:Int)).toNat:Nat):Int)=a % (b:Int)/\(a % (b:Int)).toNat < b:=by
  intro a b hb
  have h1:=Int.emod_nonneg a (show (b:Int)≠0 by omega)
  have h2:=Int.emod_lt_of_pos a (show (0:Int) < b by omega)
  exact ⟨Int.toNat_of_nonneg h1,by omega⟩
 intro k
 induction k with
 | zero=>
  intro n a b x hb hn
  have:b=0:=by
   have:(2:Nat) ^ 0=1:=rfl
   omega
  subst this
  exact z0 n a x (by omega)
 | succ k ih=>
  intro n a b x hb hn
  by_cases h0:b=0
  ·subst h0; exact z0 n a x (by omega)
  ·have hbp:0 < b:=by omega
   obtain ⟨n,rfl⟩:∃j,n=j + 2:=⟨n - 2,by omega⟩
   obtain ⟨r1,r2⟩:=hr a b hbp
   have e1:=st (n + 1) a b x hbp
   generalize (a % (b:Int)).toNat=r at r1 r2 e1
   rw [e1,zi7 a b,<-r1]
   by_cases hz:r=0
   ·subst hz
    exact z0 (n + 1) b _ (by omega)
   ·obtain ⟨s1,s2⟩:=hr (b:Int) r (by omega)
    have e2:=st n (b:Int) r (some (nD r)) (by omega)
    have hs:((b:Int) % (r:Int)).toNat=b % r:=by omega
    rw [hs] at s1 s2 e2
    rw [e2,zi7 (b:Int) r,<-s1]
    refine ih n (r:Int) (b % r) _ ?_ (by omega)
    have h3:b % r < r:=Nat.mod_lt _ (by omega)
    have h4:b % r<=b - r:=by
     have:=Nat.mod_eq_sub_mod (show r<=b by omega)
     rw [this]; exact Nat.mod_le _ _
    rw [Nat.pow_succ] at hb
    omega
theorem zeN {a:Int} {b k:Nat} (hb:b < 2 ^ k) (hk:k<=499):zbn [.int a,nD b]=.ok (nD (Int.gcd a b)):=by
 obtain ⟨a',y,h1,h2⟩:=znb (m:=q101) k 1000 a b none hb (by omega)
 refine zaD (B:=zci) (n:=3) ?_
 unfold zci
 refine (zae h1).trans (zav (zaA (zbs (zad (d:=.int a') rfl zaj) ?_)))
 show some (D.int (if a' < 0 then -a' else a'))=some (D.int _)
 rw [<-h2]
 split <;> congr 2 <;> omega
theorem zko {t:Int} {b k:Nat} (h0:0 < b) (hb:b < 2 ^ k) (hk:k<=499):zcl [.int t,nD b]=.ok (FR (low t b)):=by
 refine zaD (B:=zdZ) (n:=3) ?_
 unfold zdZ
 have hg:=zgU t h0
 have hgb:Int.gcd t b < 2 ^ k:=by
  have h1:Int.gcd t b ∣ b:=Int.natCast_dvd_natCast.mp (Int.gcd_dvd_right t b)
  have:=Nat.le_of_dvd h0 h1
  omega
 refine (zae (zaq (zak (zad (d:=.int t) rfl (zad (d:=nD b) rfl zaj)) (zeN hb hk)))).trans ?_
 refine zav (zaA (ze6 (zad (zaf (a:=.int t) (b:=nD (Int.gcd t b)) rfl rfl (zfo hg hgb (by omega))) (zad (zaf (a:=nD b) (b:=nD (Int.gcd t b)) rfl rfl (zfo hg hgb (by omega))) zaj)) (by simp)))
theorem zc2 (x:Int × Nat):ixA (FR x) (.int 0)=some (.int x.1):=rfl
theorem zdp (x:Int × Nat):ixA (FR x) (.int 1)=some (nD x.2):=zgO (i:=1) rfl
section
variable {k l:Nat} {a b:Int × Nat}
theorem zfE (ha:Bd k a) (hb:Bd l b) (hl:k + l<=498):zbj [FR a,FR b]=.ok (FR (zcU a b)):=by
 refine zaD (B:=zdm) (n:=2) ?_
 unfold zdm
 have i0:=zc2 a
 have i1:=zdp a
 have j0:=zc2 b
 have j1:=zdp b
 refine zav (zaA (zak (zad (zaf (zaf (zaf (a:=FR a) rfl rfl i0) (zaf (a:=FR b) rfl rfl j1) (zbW ha.top (by rw [Int.natAbs_natCast]; exact hb.bot) (by omega) (by omega))) (zaf (zaf (a:=FR b) rfl rfl j0) (zaf (a:=FR a) rfl rfl i1) (zbW hb.top (by rw [Int.natAbs_natCast]; exact ha.bot) (by omega) (by omega))) rfl)
  (zad (d:=nD (a.2 * b.2)) (zaf (zaf (a:=FR a) rfl rfl i1) (zaf (a:=FR b) rfl rfl j1) ?_) zaj)) ?_))
 ·rw [zbW (k:=k) (l:=l) (by rw [Int.natAbs_natCast]; exact ha.bot) (by rw [Int.natAbs_natCast]; exact hb.bot) (by omega) (by omega)]
  show some (D.int _)=some (D.int _)
  rw [Int.natCast_mul]
 ·exact zko (zdf ha hb).1 (zdf ha hb).2 (by omega)
theorem zhp (ha:Bd k a) (hb:Bd l b) (hk:k<=2000) (hl:l<=2000):zcy [FR a,FR b]=.ok (.bl (zgM a b)):=by
 refine zaD (B:=zdn) (n:=2) ?_
 unfold zdn
 have i0:=zc2 a
 have i1:=zdp a
 have j0:=zc2 b
 have j1:=zdp b
 exact zav (zaA (zaf (zaf (zaf (a:=FR a) rfl rfl i0) (zaf (a:=FR b) rfl rfl j1) (zbW ha.top (by rw [Int.natAbs_natCast]; exact hb.bot) (by omega) (by omega))) (zaf (zaf (a:=FR b) rfl rfl j0) (zaf (a:=FR a) rfl rfl i1) (zbW hb.top (by rw [Int.natAbs_natCast]; exact ha.bot) (by omega) (by omega))) rfl))
theorem zmv (ha:Bd k a) (hc:Int.gcd a.1 (a.2:Nat)=1) (hk:k<=499):zba [FR a]=.ok (.bl true):=by
 refine zaD (B:=zbb) (n:=2) ?_
 unfold zbb
 refine (zae ((if_f ?_).trans (e_skip _))).trans ?_
 ·rw [or_f (zdw (b:=true) (za7 (zjM (a:=FR a) (d:=.bl true) rfl rfl) rfl))]
  exact zaz (zaf (a:=nD 2) (b:=nD 2) (zbs (zad (d:=FR a) rfl zaj) rfl) rfl (zkV 2 2))
 have stp:∀(i:Int),zcd [some (FR a),some (.int i)]=.nx [some (FR a),some (.int i)]:=by
  intro i
  refine zae ((if_f ?_).trans (e_skip _))
  rw [or_f (zdw (b:=true) (za7 (zjM (a:=.int i) (d:=.bl true) rfl rfl) rfl))]
  exact za7 (zjM (a:=.int i) (d:=.bl false) rfl rfl) rfl
 refine (zae ((zaQ (zcA (d:=FR a) rfl rfl)).trans ((zbe (r1:=[some (FR a),some (.int a.1)]) rfl (stp a.1)).trans ((zbe (r1:=[some (FR a),some (nD a.2)]) rfl (stp a.2)).trans zaS)))).trans ?_
 have hp:=ha.pos
 have hg:=zpy a.2 0
 rw [decide_eq_true hp] at hg
 refine zav (zaA ?_)
 rw [znG (zaf (zaf (a:=FR a) rfl rfl (zdp a)) (b:=nD 0) rfl hg)]
 refine zaf (a:=nD 1) (b:=nD 1) (zak (zad (zaf (a:=FR a) rfl rfl (zc2 a)) (zad (zaf (a:=FR a) rfl rfl (zdp a)) zaj)) ?_) rfl (zng 1)
 have:=zeN (a:=a.1) ha.bot hk
 rw [hc] at this
 exact this
end
theorem zsz {l:List (Int × Nat)} {k:Nat}:∀d∈l.map FR,Shp (k + 1) d:=by
 intro d hd
 obtain ⟨x,_,rfl⟩:=List.mem_map.mp hd
 refine zel.mpr ?_
 intro e he
 simp at he
 rcases he with rfl | rfl <;> (cases k <;> trivial)
noncomputable def shOf (l:List (Int × Nat)) (x:Nat):Int × Nat:=(l[x]?).getD (0,1)
theorem zsA {l:List (Int × Nat)} {x:Nat} (h:x < l.length):ixA (TF l) (nD x)=some (FR (shOf l x)):=by
 refine zgO ?_
 rw [List.getElem?_map,List.getElem?_eq_getElem h]
 unfold shOf
 rw [List.getElem?_eq_getElem h]; rfl
theorem bd01:Bd 1 ((0:Int),1):=⟨by decide,by decide,by decide⟩
end Law
end
section
set_option exponentiation.threshold 3000
namespace Law
open PySem PyProof.Rows L2 DL Fq
theorem zpz {fa fb:FE} {r:Rho} {d e:D} {ds es:List D} (h1:fa r=.ok d) (h2:fb r=.ok e) (h3:zbf d=some ds) (h4:zbf e=some es):fZip fa fb r=.ok (List.zipWith (fun a b=>D.tup [a,b]) ds es):=by
 unfold fZip; rw [h1,bind_ok,h2,bind_ok,h3,opt_some,bind_ok,h4,opt_some,bind_ok]
theorem zipF (l l':List (Int × Nat)):List.zipWith (fun a b=>D.tup [a,b]) (l.map FR) (l'.map FR)=(l.zip l').map fun p=>D.tup [FR p.1,FR p.2]:=by
 rw [List.zipWith_map,List.zip,List.map_zipWith]
theorem zpI {α:Type} (p:α->Bool):∀l:List α,zfh (l.map fun x=>D.bl (p x))=some (l.map p)
 | []=>rfl
 | x::l=>by
  show (zfh (l.map fun x=>D.bl (p x))).map _=_
  rw [zpI p l]; rfl
theorem ztj {α:Type} (p:α->Bool) (l:List α):anyD [.lst (l.map fun x=>D.bl (p x))]=some (.bl (l.any p)):=by
 show (zfh (l.map fun x=>D.bl (p x))).map _=_
 rw [zpI]
 show some (D.bl ((l.map p).any id))=_
 rw [List.any_map]; rfl
theorem ztm {α:Type} (p:α->Bool) (l:List α):allD [.lst (l.map fun x=>D.bl (p x))]=some (.bl (l.all p)):=by
 show (zfh (l.map fun x=>D.bl (p x))).map _=_
 rw [zpI]
 show some (D.bl ((l.map p).all id))=_
 rw [List.all_map]; rfl
noncomputable def zl0 (l l':List (Int × Nat)):Bool:=(l.zip l').any fun p=>zgM p.1 p.2
theorem zlL {F:List D->Res D} {fa fb:FE} {r:Rho} {l l':List (Int × Nat)} (h1:fa r=.ok (LF l)) (h2:fb r=.ok (LF l')) (hl:l.length<=1000) (hF:∀a∈l,∀b∈l',F [FR a,FR b]=.ok (.bl (zgM a b))) :
  vNot (fC (zab (zca 2 [] (fZip fa fb) (ftT (zaC (ftN 0) (zaC (ftN 1) zc3))) (fun _=>Res.ok true) (zas (zab (gv 0) (zab (gv 1) lNil)) [] F)) lNil) anyD) r=.ok (.bl (! zl0 l l')):=by
 refine zop (zbs (zad (zcD (l:=l.zip l') (fun p=>D.tup [FR p.1,FR p.2]) (fun p=>.bl (zgM p.1 p.2)) (by rw [zpz h1 h2 rfl rfl,zipF]) (by rw [List.length_zip]; omega) fun p hp=>⟨[some (FR p.1),some (FR p.2)],rfl,?_⟩) zaj) (ztj _ _))
 have:=List.of_mem_zip hp
 exact zak (zad (d:=FR p.1) rfl (zad (d:=FR p.2) rfl zaj)) (hF p.1 this.1 p.2 this.2)
theorem zho (i:Int):zc8 [.int i]=.ok (.bl true):=rfl
theorem zqx {a:Int} {b k:Nat} (hb:b < 2 ^ k) (hk:k<=499):za9 [.int a,nD b]=.ok (nD (Int.gcd a b)):=zeN hb hk
theorem ze2 {t:Int} {b k:Nat} (h0:0 < b) (hb:b < 2 ^ k) (hk:k<=499):zck [.int t,nD b]=.ok (FR (low t b)):=by
 refine zaD (B:=zdW) (n:=3) ?_
 unfold zdW
 have hg:=zgU t h0
 have hgb:Int.gcd t b < 2 ^ k:=by
  have h1:Int.gcd t b ∣ b:=Int.natCast_dvd_natCast.mp (Int.gcd_dvd_right t b)
  have:=Nat.le_of_dvd h0 h1
  omega
 refine (zae ((if_f ?_).trans (e_skip _))).trans ?_
 ·rw [or_f (zdw (b:=true) (za7 (zak (zad (d:=.int t) rfl zaj) (zho t)) rfl)),or_f (zdw (b:=true) (za7 (zak (zad (d:=nD b) rfl zaj) (zho b)) rfl))]
  have:=znh b 0
  rw [decide_eq_false (by omega)] at this
  exact zaz (zaf (a:=nD b) (b:=nD 0) rfl rfl this)
 refine (zae (zaq (zak (zad (d:=.int t) rfl (zad (d:=nD b) rfl zaj)) (zqx hb hk)))).trans ?_
 refine (zae ((if_f ?_).trans (e_skip _))).trans ?_
 ·have:=zpm b 0
  rw [decide_eq_false (by omega)] at this
  exact zaz (zaf (a:=nD b) (b:=nD 0) rfl rfl this)
 refine zav (zaA (ze6 (zad (zaf (a:=.int t) (b:=nD (Int.gcd t b)) rfl rfl (zfo hg hgb (by omega))) (zad (zaf (a:=nD b) (b:=nD (Int.gcd t b)) rfl rfl (zfo hg hgb (by omega))) zaj)) (by simp)))
end Law
end
section
set_option exponentiation.threshold 3000
namespace Law
open PySem PyProof.Rows L2 DL Fq
section
variable {k l:Nat} {a b:Int × Nat}
theorem zmt (ha:Bd k a) (hb:Bd l b) (hl:k + l<=498):zf2 [FR a,FR b]=.ok (FR (zcU a b)):=by
 refine zaD (B:=zjl) (n:=2) ?_
 unfold zjl
 have i0:=zc2 a
 have i1:=zdp a
 have j0:=zc2 b
 have j1:=zdp b
 refine zav (zaA (zak (zad (zaf (zaf (zaf (a:=FR a) rfl rfl i0) (zaf (a:=FR b) rfl rfl j1) (zbW ha.top (by rw [Int.natAbs_natCast]; exact hb.bot) (by omega) (by omega))) (zaf (zaf (a:=FR b) rfl rfl j0) (zaf (a:=FR a) rfl rfl i1) (zbW hb.top (by rw [Int.natAbs_natCast]; exact ha.bot) (by omega) (by omega))) rfl)
  (zad (d:=nD (a.2 * b.2)) (zaf (zaf (a:=FR a) rfl rfl i1) (zaf (a:=FR b) rfl rfl j1) ?_) zaj)) ?_))
 ·rw [zbW (k:=k) (l:=l) (by rw [Int.natAbs_natCast]; exact ha.bot) (by rw [Int.natAbs_natCast]; exact hb.bot) (by omega) (by omega)]
  show some (D.int _)=some (D.int _)
  rw [Int.natCast_mul]
 ·exact ze2 (zdf ha hb).1 (zdf ha hb).2 (by omega)
theorem zkn (ha:Bd k a) (hb:Bd l b) (hl:k + l<=498):zeq [FR a,FR b]=.ok (FR (zn4 a b)):=by
 refine zaD (B:=zhd) (n:=2) ?_
 unfold zhd
 have i0:=zc2 a
 have i1:=zdp a
 have j0:=zc2 b
 have j1:=zdp b
 refine zav (zaA (zak (zad (zaf (zaf (zaf (a:=FR a) rfl rfl i0) (zaf (a:=FR b) rfl rfl j1) (zbW ha.top (by rw [Int.natAbs_natCast]; exact hb.bot) (by omega) (by omega))) (zaf (zaf (a:=FR b) rfl rfl j0) (zaf (a:=FR a) rfl rfl i1) (zbW hb.top (by rw [Int.natAbs_natCast]; exact ha.bot) (by omega) (by omega))) rfl)
  (zad (d:=nD (a.2 * b.2)) (zaf (zaf (a:=FR a) rfl rfl i1) (zaf (a:=FR b) rfl rfl j1) ?_) zaj)) ?_))
 ·rw [zbW (k:=k) (l:=l) (by rw [Int.natAbs_natCast]; exact ha.bot) (by rw [Int.natAbs_natCast]; exact hb.bot) (by omega) (by omega)]
  show some (D.int _)=some (D.int _)
  rw [Int.natCast_mul]
 ·exact ze2 (zdf ha hb).1 (zdf ha hb).2 (by omega)
theorem zmu (ha:Bd k a) (hb:Bd l b) (hk:k<=2000) (hl:l<=2000):zfe [FR a,FR b]=.ok (.bl (zgM a b)):=zhp ha hb hk hl
end
theorem zoa (f:Nat->D):∀{T:List Nat} {x:Nat},x∈T->getK (T.map fun x=>(kI x,f x)) (kI x)=some (f x)
 | [],_,h=>by cases h
 | y::T,x,h=>by
  by_cases e:y=x
  ·subst e; simp [getK,List.find?_cons]
  ·have hne:¬ kI y=kI x:=fun z=>e (zrz z)
   have ih:=zoa f (T:=T) (x:=x) ((List.mem_cons.mp h).resolve_left fun z=>e z.symm)
   have e1:getK ((y::T).map fun x=>(kI x,f x)) (kI x)=getK (T.map fun x=>(kI x,f x)) (kI x):=by
    simp only [getK,List.map_cons,List.find?_cons]
    rw [decide_eq_false hne]
   rw [e1]; exact ih
theorem zld (T:List Nat) (f:Nat->D):zfU (.dic (T.map fun x=>(kI x,f x)))=some (T.map nD):=by
 show some ((T.map fun x=>(kI x,f x)).map fun kv=>kyD kv.1)=_
 rw [List.map_map]; rfl
theorem zlc {f:FE} {r:Rho} {d:D} {ds:List D} (h:f r=.ok d) (h2:zfU d=some ds):fSeq zfU f r=.ok ds:=by unfold fSeq; rw [h,bind_ok,h2]; rfl
theorem zqc {T:List Nat} {f:Nat->D} {x:Nat} (h:x∉T) (hl:T.length<=1000):stoD (.dic (T.map fun x=>(kI x,f x))) (nD x) (f x)=some (.dic ((T++[x]).map fun x=>(kI x,f x))):=by
 show (if (T.map fun x=>(kI x,f x)).length < sizeLine then some (D.dic (putD _ (kI x) (f x))) else none)=_
 rw [if_pos (by rw [List.length_map,sizeLine_eq]; omega)]
 have:=zmB (T.map fun y=>(y,f y)) x (f x) (by rw [List.map_map]; simpa [Function.comp_def] using h)
 rw [List.map_map] at this
 show some (D.dic (putD (T.map fun x=>(kI x,f x)) (kI x) (f x)))=_
 have e:putD (T.map fun x=>(kI x,f x)) (kI x) (f x)=(T++[x]).map fun x=>(kI x,f x):=by
  refine Eq.trans this ?_
  rw [List.map_append,List.map_map,List.map_append]; rfl
 rw [e]
theorem zoe (p q:Int × Nat):eqB (FR p) (FR q)=some (decide (p=q)):=by
 have sh:∀x:Int × Nat,Shp 60 (FR x):=fun x=>zel.mpr fun e he=>by
  simp at he
  rcases he with rfl | rfl <;> trivial
 rw [zgZ rfl (sh p) (sh q)]
 unfold eqb
 simp only [toPy,zcT,PyData.eqv,PyData.eqvAll]
 congr 1
 rw [Bool.eq_iff_iff]
 simp
 constructor
 ·rintro ⟨h1,h2⟩
  exact Prod.ext h1 (by omega)
 ·rintro rfl
  exact ⟨rfl,rfl⟩
theorem zri (p q:Int × Nat):neD (FR p) (FR q)=some (.bl (! decide (p=q))):=by unfold neD; rw [zoe]; rfl
structure Sq (rows:List (List Nat)) (n:Nat):Prop where
 n1:1<=n
 n7:n<=7
 rl:rows.length=n
 rp:∀row∈rows,row.Perm (List.range n)
section
variable {rows:List (List Nat)} {n:Nat}
theorem Sq.row (R:Sq rows n) {h:Nat} (hh:h < n):(Wr rows h).Perm (List.range n):=by
 unfold Wr
 rw [List.getElem?_eq_getElem (by rw [R.rl]; exact hh)]
 exact R.rp _ (List.getElem_mem _)
theorem Sq.len (R:Sq rows n):lenD [WD rows]=some (nD n):=by rw [zdL,R.rl]
theorem Sq.at (R:Sq rows n) {h:Nat} (hh:h < n):ixA (WD rows) (nD h)=some (TN (Wr rows h)):=zgO (zqz (by rw [R.rl]; exact hh))
theorem Sq.map (R:Sq rows n):rows=(List.range n).map (Wr rows):=by
 refine List.ext_getElem? fun i=>?_
 rw [List.getElem?_map]
 by_cases hi:i < n
 ·rw [List.getElem?_range hi,List.getElem?_eq_getElem (by rw [R.rl]; exact hi)]
  unfold Wr
  rw [Option.map_some,List.getElem?_eq_getElem (by rw [R.rl]; exact hi)]; rfl
 ·rw [List.getElem?_eq_none (by rw [R.rl]; omega),List.getElem?_eq_none (by simp; omega)]; rfl
end
section
variable {rows:List (List Nat)} {n:Nat}
theorem zoM (ds:List D) (k:Int):repD (.lst ds) (.int k)=if -(2 ^ 62)<=k/\k < 2 ^ 62/\ds.length * k.toNat<=sizeLine then some (.lst ((List.replicate k.toNat ds).flatten)) else none:=rfl
noncomputable abbrev TTF (l:List (List (Int × Nat))):D:=.tup (l.map TF)
theorem zj5 {f:Nat->Nat}:∀{l:List Nat} {x:Nat},x∈l->f x<=(l.map f).sum
 | [],_,h=>by cases h
 | y::l,x,h=>by
  rw [List.map_cons,List.sum_cons]
  rcases List.mem_cons.mp h with rfl | h
  ·omega
  ·have:=zj5 (f:=f) h; omega
end
noncomputable abbrev HL (n:Nat) (t:Nat->Nat):D:=.lst ((List.range n).map fun x=>nD (t x))
theorem ix_R {n x:Nat} {f:Nat->D} (h:x < n):ixA (.lst ((List.range n).map f)) (nD x)=some (f x):=by
 refine zm5 ?_
 rw [List.getElem?_map,List.getElem?_range h]; rfl
theorem zil {n x:Nat} {f:Nat->D} (h:x < n):ixA (.tup ((List.range n).map f)) (nD x)=some (f x):=by
 refine zgO ?_
 rw [List.getElem?_map,List.getElem?_range h]; rfl
theorem zqb {n x:Nat} {v:D} {f:Nat->D} (h:x < n):stoD (.lst ((List.range n).map f)) (nD x) v=some (.lst ((List.range n).map fun y=>if y=x then v else f y)):=by
 rw [znN (by simpa using h)]
 show some (D.lst _)=some (D.lst _)
 congr 2
 refine List.ext_getElem? fun i=>?_
 by_cases hi:i < n
 ·by_cases e:x=i
  ·subst e
   rw [List.getElem?_set_self (by simpa using h),List.getElem?_map,List.getElem?_range h]
   simp
  ·rw [List.getElem?_set_ne e,List.getElem?_map,List.getElem?_map,List.getElem?_range hi]
   simp [Ne.symm e]
 ·rw [List.getElem?_eq_none (by simp; omega),List.getElem?_eq_none (by simp; omega)]
theorem zro (a b:Nat):maxD [nD a,nD b]=some (nD (max a b)):=by
 show some (D.int (if (b:Int) > (a:Int) then (b:Int) else (a:Int)))=some (D.int ((max a b:Nat):Int))
 by_cases h:a < b
 ·rw [if_pos (by omega),Nat.max_eq_right (by omega)]
 ·rw [if_neg (by omega),Nat.max_eq_left (by omega)]
noncomputable abbrev SD (E:Nat->List Nat) (n:Nat):D:=.dic ((List.range n).map fun x=>(kI x,LN (E x)))
structure Gf (E:Nat->List Nat) (n:Nat):Prop where
 n1:1<=n
 n7:n<=7
 lt:∀x,x < n->∀y∈E x,y < n
 few:∀x,x < n->(E x).length<=60
section
variable {E:Nat->List Nat} {n:Nat}
theorem zql {x:Nat} (h:x < n):ixA (SD E n) (nD x)=some (LN (E x)):=zs6 (zoa (fun x=>LN (E x)) (List.mem_range.mpr h))
theorem zgg (g:Gf E n) {x:Nat} (hx:x < n) (S:List Nat):za6 [SD E n,nD x,LN S]=.ok (LN ((E x).filter fun y=>decide (y∈S))):=by
 refine zaD (B:=zb3) (n:=3) ?_
 unfold zb3
 refine zav (zaA (zeT (l:=E x) nD (fun y=>decide (y∈S)) nD (zcA (zaf (a:=SD E n) (b:=nD x) rfl rfl (zql hx)) rfl) (by have:=g.few x hx; omega) fun y hy=>⟨[some (nD y),some (LN S)],rfl,?_,fun _=>rfl⟩))
 exact zaz (zaf (a:=nD y) (b:=LN S) rfl rfl (zs8 S y))
theorem zjn (x:Nat) (S:List Nat):truD (LN ((E x).filter fun y=>decide (y∈S)))=some ((E x).any fun y=>decide (y∈S)):=by
 show some (!(((E x).filter fun y=>decide (y∈S)).map nD).isEmpty)=_
 rw [List.isEmpty_map]
 congr 1
 rw [Bool.eq_iff_iff,List.any_eq_true]
 constructor
 ·intro h
  cases e:(E x).filter fun y=>decide (y∈S) with
  | nil=>rw [e] at h; simp at h
  | cons y l=>
   have:y∈(E x).filter fun y=>decide (y∈S):=by rw [e]; exact List.mem_cons_self
   exact ⟨y,(List.mem_filter.mp this).1,(List.mem_filter.mp this).2⟩
 ·rintro ⟨y,h1,h2⟩
  have:y∈(E x).filter fun y=>decide (y∈S):=List.mem_filter.mpr ⟨h1,h2⟩
  cases e:(E x).filter fun y=>decide (y∈S) with
  | nil=>rw [e] at this; cases this
  | cons y l=>rfl
theorem zkD (g:Gf E n) {S:List Nat} (hS:∀x∈S,x < n) (hl:S.length<=60) (y1:Option D):zbh [some (SD E n),y1,some (LN S)]=.nx [some (SD E n),some (LN S),some (LN (Gr.elim E S))]:=by
 refine (zae (zaq (d:=LN S) rfl)).trans ?_
 refine zae (zaq (d:=LN (Gr.elim E S)) (zeT (l:=S) nD (fun x=>(E x).any fun y=>decide (y∈S)) nD rfl (by omega) fun x hx=>⟨[some (nD x),some (SD E n),some (LN S)],rfl,?_,fun _=>rfl⟩))
 exact za7 (zak (zad (d:=SD E n) rfl (zad (d:=nD x) rfl (zad (d:=LN S) rfl zaj))) (zgg g (hS x hx) S)) (zjn x S)
theorem zkC (g:Gf E n):∀(k:Nat) (S:List Nat),S.length < k->(∀x∈S,x < n)->S.length<=60->∃z,zbr q105 zb6 zbh k [some (SD E n),some (LN S),some (LN (Gr.elim E S))]=.nx [some (SD E n),some (LN (Gr.core E k S)),z]
 | 0,S,h,_,_=>absurd h (by omega)
 | k + 1,S,h,hS,hl=>by
  have t:=zaz (zaf (f:=fC (zab (gv 2) lNil) lenD) (f':=fC (zab (gv 1) lNil) lenD) (r:=[some (SD E n),some (LN S),some (LN (Gr.elim E S))]) (zbs (zad (d:=LN (Gr.elim E S)) rfl zaj) (zcC _ _)) (zbs (zad (d:=LN S) rfl zaj) (zcC _ _)) (zkV (Gr.elim E S).length S.length))
  by_cases e:(Gr.elim E S).length=S.length
  ·rw [decide_eq_true e] at t
   have ec:Gr.core E (k + 1) S=S:=by show (if _ then _ else _)=_; rw [if_pos e]
   rw [ec]
   exact ⟨_,zh1 t⟩
  ·rw [decide_eq_false e] at t
   have hle:=Gr.elim_len (E:=E) S
   have ec:Gr.core E (k + 1) S=Gr.core E k (Gr.elim E S):=by show (if _ then _ else _)=_; rw [if_neg e]
   rw [ec]
   have hS':∀x∈Gr.elim E S,x < n:=fun x hx=>hS x (List.mem_filter.mp hx).1
   obtain ⟨z,ih⟩:=zkC g k (Gr.elim E S) (by omega) hS' (by omega)
   exact ⟨z,(zgx t (zkD g hS' (by omega) _)).trans ih⟩
noncomputable abbrev Co (E:Nat->List Nat) (n:Nat):List Nat:=Gr.core E 63 (List.range n)
theorem zs4 (g:Gf E n):zle (SD E n)=some (LN (List.range n)):=by
 show some (D.lst (((List.range n).map fun x=>(kI x,LN (E x))).map fun kv=>kyD kv.1))=_
 rw [List.map_map]; rfl
theorem zgh (g:Gf E n):za3 [SD E n]=.ok (LN (Co E n)):=by
 have hn1:=g.n1
 have hn7:=g.n7
 obtain ⟨z,h⟩:=zkC g 63 (List.range n) (by simp; omega) (fun x hx=>List.mem_range.mp hx) (by simp; omega)
 refine zaD (B:=za4) (n:=3) ?_
 unfold za4
 refine (zae (zaq (d:=LN []) (zeb zaj (by simp)))).trans ?_
 refine (zae (zaq (d:=LN (List.range n)) (zjM (a:=SD E n) rfl (zs4 g)))).trans ?_
 have t:=zaz (zaf (f:=fC (zab (gv 2) lNil) lenD) (f':=fC (zab (gv 1) lNil) lenD) (r:=[some (SD E n),some (LN []),some (LN (List.range n))]) (zbs (zad (d:=LN (List.range n)) rfl zaj) (zcC _ _)) (zbs (zad (d:=LN []) rfl zaj) (zcC _ _)) (zkV (List.range n).length ([]:List Nat).length))
 rw [decide_eq_false (by simp; omega)] at t
 refine (zae ((zgx t (zkD g (fun x hx=>List.mem_range.mp hx) (by simp; omega) _)).trans h)).trans ?_
 exact zav (zaA (d:=LN (Co E n)) rfl)
theorem zsf:∀x∈Co E n,x < n:=fun x hx=>List.mem_range.mp (Gr.core_sub 63 _ x hx)
theorem zsg (g:Gf E n):(Co E n).length<=n:=by
 have:=Rg.zgN (m:=List.range n) (Gr.core_nd (E:=E) 63 (List.range n) List.nodup_range) fun x hx=>Gr.core_sub 63 _ x hx
 simpa using this
theorem zto (g:Gf E n):∀x∈Co E n,∃y∈E x,y∈Co E n:=Gr.core_go 63 (List.range n) (by have:=g.n7; simp; omega)
theorem ze1 (g:Gf E n) (h:Co E n=[]):zaR [SD E n]=.ok .non:=by
 refine zaD (B:=zaZ) (n:=4) ?_
 unfold zaZ
 refine (zae (zaq (zak (zad (d:=SD E n) rfl zaj) (zgh g)))).trans ?_
 rw [h]
 exact zav ((if_t (zdw (b:=false) (za7 (d:=LN []) rfl rfl))).trans (zav (zaA (d:=.non) rfl)))
theorem zsd (t:Nat->Nat) (x y:Nat):((List.range n).map fun z=>if z=y then nD (max (t y) (t x + 1)) else nD (t z))=(List.range n).map fun z=>nD (Gr.rel1 t x y z):=by
 refine List.map_congr_left fun z _=>?_
 unfold Gr.rel1
 by_cases e:z=y
 ·rw [if_pos e,if_pos e]
 ·rw [if_neg e,if_neg e]
theorem ziR {d0 d1:D} {x:Nat} (hx:x < n):∀(l:List Nat) (t:Nat->Nat) (z:Option D),(∀y∈l,y < n)->∃z',forF (ftN 4) zgv (l.map nD) [some d0,some d1,some (HL n t),some (nD x),z]=.nx [some d0,some d1,some (HL n (l.foldl (fun t y=>Gr.rel1 t x y) t)),some (nD x),z']
 | [],t,z,_=>⟨z,zaS⟩
 | y::l,t,z,h=>by
  have hy:=h y List.mem_cons_self
  obtain ⟨z',ih⟩:=ziR (d0:=d0) (d1:=d1) hx l (Gr.rel1 t x y) (some (nD y)) fun w hw=>h w (List.mem_cons_of_mem _ hw)
  refine ⟨z',?_⟩
  rw [List.map_cons,List.foldl_cons,<-ih]
  refine zbe (r1:=[some d0,some d1,some (HL n t),some (nD x),some (nD y)]) rfl ?_
  have es:=zqb (n:=n) (f:=fun x=>nD (t x)) (v:=nD (max (t y) (t x + 1))) hy
  rw [zsd] at es
  exact zae (ziS (d:=HL n t) (k:=nD y) rfl (zbs (zad (zaf (a:=HL n t) (b:=nD y) rfl rfl (ix_R hy)) (zad (zaf (b:=nD 1) (zaf (a:=HL n t) (b:=nD x) rfl rfl (ix_R hx)) rfl (zed _ 1)) zaj)) (zro _ _)) rfl es)
theorem ziQ (g:Gf E n) {d1:D}:∀(l:List Nat) (t:Nat->Nat) (y z:Option D),(∀x∈l,x < n)->∃y' z',forF (ftN 3) zgu (l.map nD) [some (SD E n),some d1,some (HL n t),y,z]=.nx [some (SD E n),some d1,some (HL n (Gr.rnd E l t)),y',z']
 | [],t,y,z,_=>⟨y,z,zaS⟩
 | x::l,t,y,z,h=>by
  have hx:=h x List.mem_cons_self
  obtain ⟨z1,h1⟩:=ziR (d0:=SD E n) (d1:=d1) hx (E x) t z (g.lt x hx)
  obtain ⟨y',z',ih⟩:=ziQ g (d1:=d1) l (Gr.relx E t x) (some (nD x)) z1 fun w hw=>h w (List.mem_cons_of_mem _ hw)
  refine ⟨y',z',?_⟩
  have er:Gr.rnd E (x::l) t=Gr.rnd E l (Gr.relx E t x):=rfl
  rw [List.map_cons,er,<-ih]
  refine zbe (r1:=[some (SD E n),some d1,some (HL n t),some (nD x),z]) rfl ?_
  exact zae ((zaQ (zcA (zaf (a:=SD E n) (b:=nD x) rfl rfl (zql hx)) rfl)).trans h1)
theorem zjw (g:Gf E n) (t:Nat->Nat):zfp [SD E n,HL n t]=.ok (HL n (Gr.rnd E (List.range n) t)):=by
 obtain ⟨y',z',h⟩:=ziQ g (d1:=HL n t) (List.range n) t none none fun x hx=>List.mem_range.mp hx
 refine zaD (B:=zfr) (n:=5) ?_
 unfold zfr
 refine (zae (zaq (d:=HL n t) (zbs (zad (d:=HL n t) rfl zaj) rfl))).trans ?_
 refine (zae ((zaQ (zlc (d:=SD E n) rfl (zld _ _))).trans h)).trans ?_
 exact zav (zaA (d:=HL n (Gr.rnd E (List.range n) t)) rfl)
theorem zls (g:Gf E n) {d0 d1:D}:∀(l:List Nat) (t:Nat->Nat) (z:Option D),∃z',forF (ftN 4) zf1 (l.map nD) [some d0,some d1,some (SD E n),some (HL n t),z]=.nx [some d0,some d1,some (SD E n),some (HL n (Gr.rnds E n l.length t)),z']
 | [],t,z=>⟨z,zaS⟩
 | x::l,t,z=>by
  obtain ⟨z',ih⟩:=zls g (d0:=d0) (d1:=d1) l (Gr.rnd E (List.range n) t) (some (nD x))
  refine ⟨z',?_⟩
  have er:Gr.rnds E n (x::l).length t=Gr.rnds E n l.length (Gr.rnd E (List.range n) t):=rfl
  rw [List.map_cons,er,<-ih]
  refine zbe (r1:=[some d0,some d1,some (SD E n),some (HL n t),some (nD x)]) rfl ?_
  exact zae (zaq (zak (zad (d:=SD E n) rfl (zad (d:=HL n t) rfl zaj)) (zjw g t)))
theorem zqC (n:Nat):(List.replicate n [nD 0]).flatten=(List.range n).map fun _=>nD 0:=by
 induction n with
 | zero=>rfl
 | succ n ih=>rw [List.replicate_succ',List.flatten_append,ih,List.range_succ,List.map_append]; rfl
noncomputable abbrev hts (E:Nat->List Nat) (n:Nat):Nat->Nat:=Gr.rnds E n n fun _=>0
theorem zfF (g:Gf E n) {d0 d1:D} (hs:zbz [d0,d1]=.ok (SD E n)) (h:Co E n=[]):zdI [d0,d1]=.ok (.tup ((List.range n).map fun x=>nD (hts E n x))):=by
 have hn7:=g.n7
 obtain ⟨z',hl⟩:=zls g (d0:=d0) (d1:=d1) (List.range n) (fun _=>0) none
 rw [List.length_range] at hl
 refine zaD (B:=zda) (n:=5) ?_
 unfold zda
 refine (zae (zaq (zak (zad (d:=d0) rfl (zad (d:=d1) rfl zaj)) hs))).trans ?_
 refine (zae ((if_f (zaz (zaf (a:=.non) (b:=.non) (zak (zad (d:=SD E n) rfl zaj) (ze1 g h)) rfl rfl))).trans (e_skip _))).trans ?_
 refine (zae (zaq (d:=HL n fun _=>0) (zaf (a:=.lst [nD 0]) (b:=nD n) (zeb (zad (d:=nD 0) rfl zaj) (by simp)) (zbs (zad (d:=SD E n) rfl zaj) (by rw [zm2,List.length_range])) ?_))).trans ?_
 ·rw [zoM,if_pos ⟨by omega,by omega,by rw [sizeLine_eq,Int.toNat_natCast,List.length_singleton]; omega⟩,Int.toNat_natCast,zqC]
 refine (zae ((zaQ (zlc (d:=SD E n) rfl (zld _ _))).trans hl)).trans ?_
 exact zav (zaA (zbs (zad (d:=HL n (hts E n)) rfl zaj) rfl))
end
end Law
end
section
set_option exponentiation.threshold 3000
namespace Law
open PySem PyProof.Rows L2 DL Fq
noncomputable abbrev TB (tb:Nat->Nat->Int × Nat) (n:Nat):D:=.tup ((List.range n).map fun h=>TF ((List.range n).map (tb h)))
noncomputable def Tok (tb:Nat->Nat->Int × Nat) (n:Nat):Prop:=∀h,h < n->∀x,x < n->Bd 80 (tb h x)
section
variable {rows:List (List Nat)} {n:Nat} {tb:Nat->Nat->Int × Nat}
theorem Sq.has (R:Sq rows n) {h x:Nat} (hh:h < n) (hx:x < n):x∈Wr rows h:=(R.row hh).mem_iff.mpr (List.mem_range.mpr hx)
theorem zgz {h x:Nat} (hx:x < n):ixA (TF ((List.range n).map (tb h))) (nD x)=some (FR (tb h x)):=by
 refine zgO ?_
 rw [List.getElem?_map,List.getElem?_map,List.getElem?_range hx]; rfl
theorem zkp (R:Sq rows n) {h x y:Nat} (hh:h < n) (hx:x < n) (hy:y < n):zhb [WD rows,nD h,nD x,nD y]=.ok (.bl (decide ((Wr rows h).idxOf x < (Wr rows h).idxOf y))):=by
 refine zaD (B:=zhe) (n:=5) ?_
 unfold zhe
 refine (zae (zaq (zaf (a:=WD rows) (b:=nD h) rfl rfl (R.at hh)))).trans ?_
 exact zav (zaA (zaf (zpA (d:=TN (Wr rows h)) rfl rfl (zad (d:=nD x) rfl zaj) (zi5 (R.has hh hx))) (zpA (d:=TN (Wr rows h)) rfl rfl (zad (d:=nD y) rfl zaj) (zi5 (R.has hh hy))) (zpm _ _)))
theorem zkq {q:Int × Nat} {k:Nat} (hq:Bd k q) (hk:k<=2000):zfe [.tup [.int 0,.int 1],FR q]=.ok (.bl (decide (0 < q.1))):=by
 refine zaD (B:=zjm) (n:=2) ?_
 unfold zjm
 have i0:=zc2 (0,1)
 have i1:=zdp (0,1)
 have j0:=zc2 q
 have j1:=zdp q
 refine zav (zaA (zaf (zaf (zaf (a:=FR (0,1)) rfl rfl i0) (zaf (a:=FR q) rfl rfl j1) (zbW (k:=1) (by decide) (by rw [Int.natAbs_natCast]; exact hq.bot) (by omega) hk)) (zaf (zaf (a:=FR q) rfl rfl j0) (zaf (a:=FR (0,1)) rfl rfl i1) (zbW (l:=1) hq.top (by decide) hk (by omega))) ?_))
 show some (D.bl (decide (((0,1):Int × Nat).1 * (q.2:Int) < q.1 * ((((0,1):Int × Nat).2:Nat):Int))))=_
 congr 2
 show decide ((0:Int) * (q.2:Int) < q.1 * ((1:Nat):Int))=_
 rw [Int.zero_mul,show ((1:Nat):Int)=1 from rfl,Int.mul_one]
variable (rows) (tb) in
noncomputable def lkb (h o t:Nat):Bool:=decide ((Wr rows h).idxOf o < (Wr rows h).idxOf t)
noncomputable def psb (tb:Nat->Nat->Int × Nat) (h t:Nat):Bool:=decide (0 < (tb h t).1)
noncomputable def ris (rows:List (List Nat)) (tb:Nat->Nat->Int × Nat) (n t o:Nat):List Nat:=((List.range n).filter fun h=>psb tb h t).filter fun h=>lkb rows h o t
noncomputable def Eg (rows:List (List Nat)) (tb:Nat->Nat->Int × Nat) (n t:Nat):List Nat:=(List.range n).filter fun o=>!(ris rows tb n t o).isEmpty
theorem zkZ {t o:Nat}:o∈Eg rows tb n t↔o < n/\∃h,h < n/\0 < (tb h t).1/\(Wr rows h).idxOf o < (Wr rows h).idxOf t:=by
 unfold Eg
 rw [List.mem_filter,List.mem_range]
 refine and_congr_right fun _=>?_
 constructor
 ·intro h
  cases e:ris rows tb n t o with
  | nil=>rw [e] at h; simp at h
  | cons q l=>
   have hq:q∈ris rows tb n t o:=by rw [e]; exact List.mem_cons_self
   unfold ris at hq
   have h1:=List.mem_filter.mp hq
   have h2:=List.mem_filter.mp h1.1
   exact ⟨q,List.mem_range.mp h2.1,by simpa [psb] using h2.2,by simpa [lkb] using h1.2⟩
 ·rintro ⟨q,h1,h2,h3⟩
  have hq:q∈ris rows tb n t o:=List.mem_filter.mpr ⟨List.mem_filter.mpr ⟨List.mem_range.mpr h1,by simpa [psb] using h2⟩,by simpa [lkb] using h3⟩
  cases e:ris rows tb n t o with
  | nil=>rw [e] at hq; cases hq
  | cons q l=>rfl
theorem zpN (R:Sq rows n):Gf (Eg rows tb n) n:=⟨R.n1,R.n7,fun x _ y hy=>(zkZ.mp hy).1,fun x _=>by
 have:(Eg rows tb n x).length<=n:=by
  unfold Eg
  have:=List.length_filter_le (fun o=>!(ris rows tb n x o).isEmpty) (List.range n)
  simpa using this
 have:=R.n7
 omega⟩
theorem ziO (R:Sq rows n) (T:Tok tb n) {t o:Nat} (ht:t < n) (ho:o < n):zaP [WD rows,TB tb n,nD t,nD o]=.ok (LN (ris rows tb n t o)):=by
 have hn7:=R.n7
 refine zaD (B:=zbp) (n:=5) ?_
 unfold zbp
 refine (zae (zaq (d:=LN ((List.range n).filter fun h=>psb tb h t)) (zeT (l:=List.range n) nD (fun h=>psb tb h t) nD (zct (zad (zbs (zad (d:=WD rows) rfl zaj) R.len) zaj) (zdu (by omega))) (by simp; omega) fun h hh=>⟨[some (nD h),some (nD t),some (TB tb n)],rfl,?_,fun _=>rfl⟩))).trans ?_
 ·have hh':=List.mem_range.mp hh
  exact za7 (zak (zad (d:=.tup [.int 0,.int 1]) rfl (zad (zaf (b:=nD t) (zaf (a:=TB tb n) (b:=nD h) rfl rfl (zil hh')) rfl (zgz ht)) zaj)) (zkq (T h hh' t ht) (by omega))) rfl
 refine zav (zaA (zeT (l:=(List.range n).filter fun h=>psb tb h t) nD (fun h=>lkb rows h o t) nD rfl (by
  have:=List.length_filter_le (fun h=>psb tb h t) (List.range n)
  simp at this; omega) fun h hh=>⟨[some (nD h),some (WD rows),some (nD o),some (nD t)],rfl,?_,fun _=>rfl⟩))
 have hh':=List.mem_range.mp (List.mem_filter.mp hh).1
 exact za7 (zak (zad (d:=WD rows) rfl (zad (d:=nD h) rfl (zad (d:=nD o) rfl (zad (d:=nD t) rfl zaj)))) (zkp R hh' ho ht)) rfl
theorem zj8 (R:Sq rows n) (T:Tok tb n):∀(l done:List Nat) (x:Option D),done++l=List.range n->∃y,forF (ftN 4) zfa (l.map nD) [some (WD rows),some (TB tb n),some (LN (List.range n)),some (.dic (done.map fun x=>(kI x,LN (Eg rows tb n x)))),x]=.nx [some (WD rows),some (TB tb n),some (LN (List.range n)),some (SD (Eg rows tb n) n),y]
 | [],done,x,h=>⟨x,by rw [List.append_nil] at h; subst h; exact zaS⟩
 | t::l,done,x,h=>by
  have hn7:=R.n7
  obtain ⟨y,ih⟩:=zj8 R T l (done++[t]) (some (nD t)) (by rw [<-h]; simp)
  refine ⟨y,?_⟩
  have ht:t < n:=List.mem_range.mp (by rw [<-h]; simp)
  have hnd:(done++t::l).Nodup:=by rw [h]; exact List.nodup_range
  have htd:t∉done:=fun z=>(List.nodup_append.mp hnd).2.2 t z t List.mem_cons_self rfl
  have hlen:done.length + l.length + 1=n:=by
   have:=congrArg List.length h
   simp at this; omega
  rw [List.map_cons,<-ih]
  refine zbe (r1:=[some (WD rows),some (TB tb n),some (LN (List.range n)),some (.dic (done.map fun x=>(kI x,LN (Eg rows tb n x)))),some (nD t)]) rfl ?_
  refine zae (ziS (d:=.dic (done.map fun x=>(kI x,LN (Eg rows tb n x)))) (k:=nD t) (v:=LN (Eg rows tb n t)) rfl (zeT (l:=List.range n) nD (fun o=>!(ris rows tb n t o).isEmpty) nD rfl (by simp; omega) fun o ho=>⟨[some (nD o),some (WD rows),some (TB tb n),some (nD t)],rfl,?_,fun _=>rfl⟩) rfl (zqc (f:=fun x=>LN (Eg rows tb n x)) htd (by omega)))
  refine za7 (zak (zad (d:=WD rows) rfl (zad (d:=TB tb n) rfl (zad (d:=nD t) rfl (zad (d:=nD o) rfl zaj)))) (ziO R T ht (List.mem_range.mp ho))) ?_
  show some (!((ris rows tb n t o).map nD).isEmpty)=_
  rw [List.isEmpty_map]
theorem zfD (R:Sq rows n) (T:Tok tb n):zbz [WD rows,TB tb n]=.ok (SD (Eg rows tb n) n):=by
 have hn7:=R.n7
 obtain ⟨y,h⟩:=zj8 R T (List.range n) [] none rfl
 refine zaD (B:=zdV) (n:=5) ?_
 unfold zdV
 refine (zae (zaq (d:=LN (List.range n)) (zbs (zad (zbs (zad (d:=TB tb n) rfl zaj) (by rw [zdL,List.length_range])) zaj) (zpn (by omega))))).trans ?_
 refine (zae (zaq (d:=.dic []) rfl)).trans ?_
 refine (zae ((zaQ (zcA (d:=LN (List.range n)) rfl rfl)).trans h)).trans ?_
 exact zav (zaA (d:=SD (Eg rows tb n) n) rfl)
end
noncomputable abbrev TQ (N:Nat) (f:Nat->Nat->Nat) (n:Nat):D:=TB (fun h x=>low ((f h x:Nat):Int) N) n
theorem sh_q {N n:Nat} {f:Nat->Nat} {x:Nat} (hx:x < n):shOf ((List.range n).map fun x=>low ((f x:Nat):Int) N) x=low ((f x:Nat):Int) N:=by
 unfold shOf
 rw [List.getElem?_map,List.getElem?_range hx]; rfl
theorem bdN {N c k:Nat} (hN:0 < N) (hk:N < 2 ^ k) (hc:c < 2 ^ k):Bd k (low ((c:Nat):Int) N):=Bd.low hN hk (by rw [Int.natAbs_natCast]; exact hc)
theorem zl4 {d0:D} {N:Nat} {f:Nat->Nat} {sh:List (Int × Nat)} (hN:0 < N) (hN2:N < 2 ^ 80) (hsh:∀x,x < sh.length->shOf sh x=low ((f x:Nat):Int) N):∀(row:List Nat) (A:Nat) (found:List (Int × Nat)) (x:Option D),(∀t∈row,t < sh.length)->A + (row.map f).sum < 2 ^ 80->found.length + row.length<=1000 ->
  ∃(a':Int × Nat) (y:Option D),forF (ftN 4) zek (row.map nD) [some d0,some (TF sh),some (LF found),some (FR (low ((A:Nat):Int) N)),x]=.nx [some d0,some (TF sh),some (LF (found++zdk (shOf sh) (low ((A:Nat):Int) N) row)),some (FR a'),y]
 | [],A,found,x,_,_,_=>⟨_,x,by rw [show zdk (shOf sh) (low ((A:Nat):Int) N) []=[] from rfl,List.append_nil]; exact zaS⟩
 | t::row,A,found,x,h1,h2,h5=>by
  rw [List.map_cons,List.sum_cons] at h2
  rw [List.length_cons] at h5
  have ht:=h1 t List.mem_cons_self
  have e1:zcU (low ((A:Nat):Int) N) (shOf sh t)=low ((A + f t:Nat):Int) N:=by rw [hsh t ht,zeA hN,<-Int.natCast_add]
  obtain ⟨a',y,ih⟩:=zl4 (d0:=d0) hN hN2 hsh row (A + f t) (found++[low ((A + f t:Nat):Int) N]) (some (nD t)) (fun z hz=>h1 z (List.mem_cons_of_mem _ hz)) (by omega) (by rw [List.length_append,List.length_singleton]; omega)
  refine ⟨a',y,?_⟩
  have e:zdk (shOf sh) (low ((A:Nat):Int) N) (t::row)=low ((A + f t:Nat):Int) N::zdk (shOf sh) (low ((A + f t:Nat):Int) N) row:=by
   show zcU _ _::zdk _ (zcU _ _) row=_
   rw [e1]
  rw [List.append_assoc,List.singleton_append,<-e] at ih
  rw [List.map_cons,<-ih]
  refine zbe (r1:=[some d0,some (TF sh),some (LF found),some (FR (low ((A:Nat):Int) N)),some (nD t)]) rfl ?_
  have hp:=zfE (a:=low ((A:Nat):Int) N) (b:=shOf sh t) (k:=80) (l:=80) (bdN hN hN2 (by omega)) (by rw [hsh t ht]; exact bdN hN hN2 (by omega)) (by omega)
  rw [e1] at hp
  refine (zae (zaq (zak (zad (d:=FR (low ((A:Nat):Int) N)) rfl (zad (zaf (a:=TF sh) (b:=nD t) rfl rfl (zsA ht)) zaj)) hp))).trans ?_
  refine zae ((zfI (d:=LF found) (ds:=[FR (low ((A + f t:Nat):Int) N)]) rfl rfl (zad (d:=FR (low ((A + f t:Nat):Int) N)) rfl zaj) (zeU (by simp; omega))).trans ?_)
  show Out.nx [some d0,some (TF sh),some (D.lst (found.map FR++[FR (low ((A + f t:Nat):Int) N)])),_,_]=Out.nx [some d0,some (TF sh),some (D.lst ((found++[low ((A + f t:Nat):Int) N]).map FR)),_,_]
  rw [List.map_append]; rfl
theorem znS {N:Nat} {f:Nat->Nat} {sh:List (Int × Nat)} {row:List Nat} (hN:0 < N) (hN2:N < 2 ^ 80) (hsh:∀x,x < sh.length->shOf sh x=low ((f x:Nat):Int) N) (h1:∀t∈row,t < sh.length) (h2:(row.map f).sum < 2 ^ 80) (h5:row.length<=1000):zb7 [TN row,TF sh]=.ok (LF (zdk (shOf sh) (low ((0:Nat):Int) N) row)):=by
 obtain ⟨a',y,h⟩:=zl4 (d0:=TN row) hN hN2 hsh row 0 [] none h1 (by omega) (by simpa using h5)
 rw [List.nil_append,zk7 hN] at h
 refine zaD (B:=zcS) (n:=5) ?_
 unfold zcS
 refine (zae (zaq (d:=LF []) (zeb zaj (by simp)))).trans ?_
 refine (zae (zaq (d:=FR (0,1)) (ze6 (zad (d:=.int 0) rfl (zad (d:=.int 1) rfl zaj)) (by simp)))).trans ?_
 refine (zae ((zaQ (zcA (d:=TN row) rfl rfl)).trans h)).trans ?_
 rw [zk7 hN]
 exact zav (zaA (d:=LF (zdk (shOf sh) (0,1) row)) rfl)
theorem zl3 {N:Nat} {f:Nat->Nat} {sh:Nat->Int × Nat} (hN:0 < N):∀(row:List Nat) (A:Nat),(∀t∈row,sh t=low ((f t:Nat):Int) N)->∀q∈zdk sh (low ((A:Nat):Int) N) row,∃s:Nat,q=low ((s:Nat):Int) N/\s<=A + (row.map f).sum
 | [],A,_,q,hq=>by cases hq
 | t::row,A,h,q,hq=>by
  have e1:zcU (low ((A:Nat):Int) N) (sh t)=low ((A + f t:Nat):Int) N:=by rw [h t List.mem_cons_self,zeA hN,<-Int.natCast_add]
  unfold zdk at hq
  rw [e1] at hq
  rw [List.map_cons,List.sum_cons]
  rcases List.mem_cons.mp hq with rfl | hq
  ·exact ⟨A + f t,rfl,by omega⟩
  ·obtain ⟨s,e,hs⟩:=zl3 hN row (A + f t) (fun z hz=>h z (List.mem_cons_of_mem _ hz)) q hq
   exact ⟨s,e,by omega⟩
theorem zlC (f:Nat->D) (n:Nat):enuD 0 ((List.range n).map f)=(List.range n).map fun i=>D.tup [nD i,f i]:=by
 refine List.ext_getElem? fun j=>?_
 rw [zg1,List.getElem?_map,List.getElem?_map]
 by_cases h:j < n
 ·rw [List.getElem?_range h]
  simp only [Option.map_some,Nat.zero_add]
 ·rw [List.getElem?_eq_none (by simp; omega)]; rfl
theorem zjd {f:FE} {r:Rho} {d:D} {ds:List D} (h:f r=.ok d) (h2:zbf d=some ds):fEnu f r=.ok (enuD 0 ds):=by unfold fEnu; rw [h,bind_ok,h2]; rfl
section
variable {rows:List (List Nat)} {n:Nat}
theorem zjc (R:Sq rows n):enuD 0 (rows.map TN)=(List.range n).map fun h=>D.tup [nD h,TN (Wr rows h)]:=by
 have e:rows.map TN=(List.range n).map fun h=>TN (Wr rows h):=by
  conv=>lhs; rw [R.map]
  rw [List.map_map]; rfl
 rw [e,zlC]
theorem zeJ {f:Nat->Nat} {N:Nat}:∀{l:List Nat},(∀x∈l,f x<=N)->(l.map f).sum<=l.length * N
 | [],_=>by simp
 | a::l,h=>by
  rw [List.map_cons,List.sum_cons,List.length_cons,Nat.add_mul]
  have:=h a List.mem_cons_self
  have:=zeJ (l:=l) fun x hx=>h x (List.mem_cons_of_mem _ hx)
  omega
end
section
variable {rows:List (List Nat)} {n:Nat}
noncomputable abbrev TT' (n:Nat) (t:Nat->Nat):D:=.tup ((List.range n).map fun x=>nD (t x))
theorem zs3 (a b:Nat):leI (nD a) (nD b)=some (.bl (decide (a<=b))):=by
 show some (D.bl (decide ((a:Int)<=(b:Int))))=_
 simp only [Int.ofNat_le]
theorem zqj {fa:FE} {fl fh:FP} {r:Rho} {d d':D} {lo hi:Option Int} (h1:fa r=.ok d) (h2:fl r=.ok lo) (h3:fh r=.ok hi) (h4:slA d lo hi=some d'):fSlA fa fl fh r=.ok d':=by
 unfold fSlA; rw [h1,bind_ok,h2,bind_ok,h3,bind_ok,h4]; rfl
theorem zmo (l:List Nat) (k:Nat):slA (TN l) none (some (k:Int))=some (TN (l.take k)):=by
 show some (D.tup (cutL (l.map nD) none (some (k:Int))))=_
 unfold cutL
 rw [HT.sIx_nat,HT.sIx_none,List.length_map,List.drop_zero,Nat.sub_zero,<-List.map_take]
 by_cases h:k<=l.length
 ·rw [Nat.min_eq_left h]
 ·rw [Nat.min_eq_right (by omega),List.take_of_length_le (Nat.le_refl _),List.take_of_length_le (by omega)]
theorem ri_0 {t:Nat->Nat} {d0 d1:D} (x3 x4 x5:Option D) {x:Nat} (hx:x < n):∀(l:List Nat) (y:Option D),(∀b∈l,b < n/\t x + 1<=t b)->∃y',forF (ftN 7) zeg (l.map nD) [some d0,some d1,some (TT' n t),x3,x4,x5,some (nD x),y]=.nx [some d0,some d1,some (TT' n t),x3,x4,x5,some (nD x),y']
 | [],y,_=>⟨y,zaS⟩
 | b::l,y,h=>by
  obtain ⟨y',ih⟩:=ri_0 (d0:=d0) (d1:=d1) x3 x4 x5 hx l (some (nD b)) fun z hz=>h z (List.mem_cons_of_mem _ hz)
  refine ⟨y',?_⟩
  obtain ⟨hb,hlt⟩:=h b List.mem_cons_self
  rw [List.map_cons,<-ih]
  refine zbe (r1:=[some d0,some d1,some (TT' n t),x3,x4,x5,some (nD x),some (nD b)]) rfl ?_
  have hle:=zs3 (t b) (t x)
  rw [decide_eq_false (by omega)] at hle
  exact zae ((if_f (zaz (zaf (zaf (a:=TT' n t) (b:=nD b) rfl rfl (zil (f:=fun x=>nD (t x)) hb)) (zaf (a:=TT' n t) (b:=nD x) rfl rfl (zil (f:=fun x=>nD (t x)) hx)) hle))).trans (e_skip _))
end
end Law
end
section
set_option exponentiation.threshold 3000
namespace Law
open PySem PyProof.Rows L2 DL Fq
noncomputable abbrev pD (p:(Int × Nat) × List Nat):D:=.tup [FR p.1,TN p.2]
theorem zjg:∀l:List Nat,zeE (l.map nD)=some (l.map fun k:Nat=>(k:Int))
 | []=>rfl
 | k::l=>by
  show (zeE (l.map nD)).map _=_
  rw [zjg l]; rfl
theorem ziF:∀l:List Nat,(l.map fun k:Nat=>(k:Int)).sum=((l.sum:Nat):Int)
 | []=>rfl
 | k::l=>by rw [List.map_cons,List.sum_cons,ziF l,List.sum_cons,Int.natCast_add]
theorem zsw (l:List Nat):sumD [LN l]=some (nD l.sum):=by
 show (zeE (l.map nD)).map _=_
 rw [zjg]
 show some (D.int _)=_
 rw [ziF]
theorem zj7:∀l:List Nat,(∀x∈l,1<=x/\x<=60)->l.sum<=60 * l.length/\l.length<=l.sum
 | [],_=>by simp
 | x::l,h=>by
  have h1:=h x List.mem_cons_self
  have:=zj7 l fun y hy=>h y (List.mem_cons_of_mem _ hy)
  rw [List.sum_cons,List.length_cons]; omega
noncomputable def Pp (n:Nat) (p:(Int × Nat) × List Nat):Prop:=Bd 10 p.1/\p.2.Perm (List.range n)
noncomputable def dA (d:List Nat) (h:Nat):Nat:=(d[h]?).getD 0
theorem zti {d:List Nat} {h:Nat} (hh:h < d.length):ixA (TN d) (nD h)=some (nD (dA d h)):=by
 refine zgO ?_
 rw [List.getElem?_map,List.getElem?_eq_getElem hh]
 unfold dA
 rw [List.getElem?_eq_getElem hh]; rfl
theorem zth {d:List Nat} {h n:Nat} (hp:d.Perm (List.range n)) (hh:h < n):h < d.length/\dA d h < n:=by
 have hl:h < d.length:=by rw [hp.length_eq]; simpa using hh
 refine ⟨hl,?_⟩
 unfold dA
 rw [List.getElem?_eq_getElem hl]
 exact List.mem_range.mp (hp.mem_iff.mp (List.getElem_mem _))
noncomputable def sel (ps:List ((Int × Nat) × List Nat)) (h x:Nat):List (Int × Nat):=(ps.filter fun p=>decide (dA p.2 h=x)).map (·.1)
noncomputable def mixF (ps:List ((Int × Nat) × List Nat)) (h x:Nat) (q:Int × Nat):Int × Nat:=(sel ps h x).foldl zcU q
noncomputable abbrev mixT (ps:List ((Int × Nat) × List Nat)):Nat->Nat->Int × Nat:=fun h x=>mixF ps h x (0,1)
theorem zkY (p:(Int × Nat) × List Nat) (ps:List ((Int × Nat) × List Nat)) (h x:Nat) (q:Int × Nat):mixF (p::ps) h x q=mixF ps h x (if x=dA p.2 h then zcU q p.1 else q):=by
 unfold mixF sel
 rw [List.filter_cons]
 by_cases e:x=dA p.2 h
 ·rw [if_pos (by simpa using e.symm),if_pos e]; rfl
 ·rw [if_neg (by simpa using fun z=>e z.symm),if_neg e]
structure Pts (n:Nat) (ps:List ((Int × Nat) × List Nat)):Prop where
 n1:1<=n
 n7:n<=7
 p1:1<=ps.length
 p12:ps.length<=12
 ok:∀p∈ps,Pp n p
noncomputable abbrev LP (ps:List ((Int × Nat) × List Nat)):D:=.lst (ps.map pD)
noncomputable abbrev RL (n:Nat) (q:Nat->Int × Nat):D:=.lst ((List.range n).map fun x=>FR (q x))
theorem zi0 {d0 d1 d2:D} {n h:Nat} (hh:h < n):∀(ps:List ((Int × Nat) × List Nat)) (k:Nat) (q:Nat->Int × Nat) (x5 x6:Option D),(∀p∈ps,Pp n p)->(∀x,Bd k (q x))->k + 11 * ps.length<=498 ->
  ∃(y5 y6:Option D),forF (ftT (zaC (ftN 5) (zaC (ftN 6) zc3))) zej (ps.map pD) [some d0,some d1,some d2,some (nD h),some (RL n q),x5,x6]=.nx [some d0,some d1,some d2,some (nD h),some (RL n fun x=>mixF ps h x (q x)),y5,y6]
 | [],k,q,x5,x6,_,hq,hk=>⟨x5,x6,zaS⟩
 | p::ps,k,q,x5,x6,hp,hq,hk=>by
  rw [List.length_cons] at hk
  obtain ⟨b1,b2⟩:=hp p List.mem_cons_self
  obtain ⟨hhl,hg⟩:=zth b2 hh
  have hix:=zti hhl
  obtain ⟨y5,y6,e2⟩:=zi0 (d0:=d0) (d1:=d1) (d2:=d2) hh ps (k + 11) (fun y=>if y=dA p.2 h then zcU (q y) p.1 else q y) (some (FR p.1)) (some (TN p.2)) (fun r hr=>hp r (List.mem_cons_of_mem _ hr)) (fun x=>by
   show Bd (k + 11) (if x=dA p.2 h then _ else _)
   by_cases e:x=dA p.2 h
   ·rw [if_pos e]; exact ((hq _).plus b1).mono (by omega)
   ·rw [if_neg e]; exact (hq x).mono (by omega)) (by omega)
  refine ⟨y5,y6,?_⟩
  have er:(fun x=>mixF (p::ps) h x (q x))=fun x=>mixF ps h x (if x=dA p.2 h then zcU (q x) p.1 else q x):=by
   funext x; exact zkY p ps h x (q x)
  rw [List.map_cons,er,<-e2]
  refine zbe (r1:=[some d0,some d1,some d2,some (nD h),some (RL n q),some (FR p.1),some (TN p.2)]) rfl ?_
  have es:=zqb (n:=n) (f:=fun x=>FR (q x)) (v:=FR (zcU (q (dA p.2 h)) p.1)) hg
  have ef:((List.range n).map fun y=>if y=dA p.2 h then FR (zcU (q (dA p.2 h)) p.1) else FR (q y))=(List.range n).map fun y=>FR (if y=dA p.2 h then zcU (q y) p.1 else q y):=by
   refine List.map_congr_left fun y _=>?_
   by_cases e:y=dA p.2 h
   ·rw [if_pos e,if_pos e,e]
   ·rw [if_neg e,if_neg e]
  rw [ef] at es
  exact zae (ziS (d:=RL n q) (k:=nD (dA p.2 h)) rfl (zak (zad (zaf (a:=RL n q) rfl (zaf (a:=TN p.2) (b:=nD h) rfl rfl hix) (ix_R hg)) (zad (d:=FR p.1) rfl zaj)) (zfE (hq _) b1 (by omega))) (zaf (a:=TN p.2) (b:=nD h) rfl rfl hix) es)
theorem ziZ {n:Nat} {ps:List ((Int × Nat) × List Nat)} (P:Pts n ps):∀(j i:Nat) (x3 x4 x5 x6:Option D),i + j=n ->
  ∃(y3 y4 y5 y6:Option D),forF (ftN 3) zei ((List.range' i j).map nD) [some (LP ps),some (nD n),some (.lst ((List.range i).map fun h=>TF ((List.range n).map (mixT ps h)))),x3,x4,x5,x6]=.nx [some (LP ps),some (nD n),some (.lst ((List.range n).map fun h=>TF ((List.range n).map (mixT ps h)))),y3,y4,y5,y6]
 | 0,i,x3,x4,x5,x6,h=>by
  have:i=n:=by omega
  subst this
  exact ⟨x3,x4,x5,x6,zaS⟩
 | j + 1,i,x3,x4,x5,x6,h=>by
  have hi:i < n:=by omega
  have hn:=P.n7
  have h12:=P.p12
  obtain ⟨y5,y6,e2⟩:=zi0 (d0:=LP ps) (d1:=nD n) (d2:=.lst ((List.range i).map fun h=>TF ((List.range n).map (mixT ps h)))) hi ps 1 (fun _=>(0,1)) x5 x6 P.ok (fun _=>bd01) (by omega)
  obtain ⟨z3,z4,z5,z6,i2⟩:=ziZ P j (i + 1) (some (nD i)) (some (RL n (mixT ps i))) y5 y6 (by omega)
  refine ⟨z3,z4,z5,z6,?_⟩
  rw [<-i2,List.range'_succ,List.map_cons]
  refine zbe (r1:=[some (LP ps),some (nD n),some (.lst ((List.range i).map fun h=>TF ((List.range n).map (mixT ps h)))),some (nD i),x4,x5,x6]) rfl ?_
  refine (zae (zaq (d:=RL n fun _=>(0,1)) (zcD (l:=List.range n) nD (fun _=>FR (0,1)) (zct (zad (d:=nD n) rfl zaj) (zdu (by omega))) (by simp; omega) fun x _=>⟨[some (nD x)],rfl,ze6 (zad (d:=.int 0) rfl (zad (d:=.int 1) rfl zaj)) (by simp)⟩))).trans ?_
  refine (zae ((zaQ (zcA (d:=LP ps) rfl rfl)).trans e2)).trans ?_
  rw [show (List.range (i + 1)).map (fun h=>TF ((List.range n).map (mixT ps h)))=(List.range i).map (fun h=>TF ((List.range n).map (mixT ps h)))++[TF ((List.range n).map (mixT ps i))] by rw [List.range_succ,List.map_append]; rfl]
  refine zae (zfI (d:=.lst ((List.range i).map fun h=>TF ((List.range n).map (mixT ps h)))) (ds:=[TF ((List.range n).map (mixT ps i))]) rfl rfl (zad (zbs (zad (d:=RL n (mixT ps i)) rfl zaj) ?_) zaj) (zeU (by simp; omega)))
  rw [e_tupL]
  show some (D.tup _)=some (D.tup (List.map FR _))
  rw [List.map_map]; rfl
theorem zjx {n:Nat} {ps:List ((Int × Nat) × List Nat)} (P:Pts n ps):zcN [LP ps,nD n]=.ok (TB (mixT ps) n):=by
 have hn:=P.n7
 obtain ⟨y3,y4,y5,y6,e2⟩:=ziZ P n 0 none none none none (by omega)
 rw [<-List.range_eq_range'] at e2
 refine zaD (B:=zcR) (n:=7) ?_
 unfold zcR
 refine (zae (zaq (d:=.lst []) (zeb zaj (by simp)))).trans ?_
 refine (zae ((zaQ (zct (zad (d:=nD n) rfl zaj) (zdu (by omega)))).trans e2)).trans ?_
 exact zav (zaA (zbs (zad (d:=.lst ((List.range n).map fun h=>TF ((List.range n).map (mixT ps h)))) rfl zaj) rfl))
noncomputable def wt (S:Nat) (q:Nat × List Nat):(Int × Nat) × List Nat:=(low (q.1:Int) S,q.2)
theorem zkK (ns:List Int) (at' n many:Nat) {ws:List Nat} (hw:ws.length=many) (hb:∀x∈ws,1<=x/\x<=60) (hs0:0 < ws.sum) (hs:ws.sum<=720) (hat:at'<=60) (hn:n<=60):∀(j i:Nat) (qs:List (Nat × List Nat)) (x:Option D),i + j=many->many<=12->qs.map (·.1)=ws.take i->(∀q∈qs,q.2.Perm (List.range n)) ->
  ∃(qs':List (Nat × List Nat)) (y:Option D),qs'.map (·.1)=ws/\(∀q∈qs',q.2.Perm (List.range n))/\forF (ftN 7) zeh ((List.range' i j).map nD) [some (IN ns),some (nD at'),some (nD n),some (nD many),some (LN ws),some (nD ws.sum),some (LP (qs.map (wt ws.sum))),x]=.nx [some (IN ns),some (nD at'),some (nD n),some (nD many),some (LN ws),some (nD ws.sum),some (LP (qs'.map (wt ws.sum))),y]
 | 0,i,qs,x,h,_,hl,hp=>⟨qs,x,by rw [hl,List.take_of_length_le (by omega)],hp,zaS⟩
 | j + 1,i,qs,x,h,h12,hl,hp=>by
  have hi:i < ws.length:=by omega
  have hwi:=hb ws[i] (List.getElem_mem _)
  have hql:qs.length=i:=by
   have:=congrArg List.length hl
   rw [List.length_map,List.length_take] at this; omega
  obtain ⟨c,hc⟩:=zfk ns (at' + 2 * i + 1) (by omega)
  obtain ⟨row,r1,r2⟩:=zkk c n hn
  obtain ⟨qs',y,e1,e2,e3⟩:=zkK ns at' n many hw hb hs0 hs hat hn j (i + 1) (qs++[(ws[i],row)]) (some (nD i)) (by omega) h12 (by rw [List.map_append,hl,List.take_succ_eq_append_getElem hi]; rfl) (fun q hq=>by
   rcases List.mem_append.mp hq with z | z
   ·exact hp q z
   ·rw [List.mem_singleton.mp z]; exact r1)
  refine ⟨qs',y,e1,e2,?_⟩
  rw [<-e3,List.range'_succ,List.map_cons]
  refine zbe (r1:=[some (IN ns),some (nD at'),some (nD n),some (nD many),some (LN ws),some (nD ws.sum),some (LP (qs.map (wt ws.sum))),some (nD i)]) rfl ?_
  have em:LP ((qs++[(ws[i],row)]).map (wt ws.sum))=D.lst ((qs.map (wt ws.sum)).map pD++[pD (low (ws[i]:Int) ws.sum,row)]):=by
   show D.lst (List.map pD _)=_
   rw [List.map_append,List.map_append]; rfl
  rw [em]
  have m2:mulI (.int 2) (nD i)=some (nD (2 * i)):=by
   rw [zgJ (.inl ⟨by decide,by decide⟩)]
   show some (D.int _)=some (D.int _)
   rw [Int.natCast_mul]; rfl
  have hix:ixA (LN ws) (nD i)=some (.int (ws[i]:Int)):=zm5 (by rw [List.getElem?_map,List.getElem?_eq_getElem hi]; rfl)
  exact zae (zfI (d:=LP (qs.map (wt ws.sum))) (ds:=[pD (low (ws[i]:Int) ws.sum,row)]) rfl rfl (zad (ze6 (zad (zak (zad (zaf (a:=LN ws) (b:=nD i) rfl rfl hix) (zad (d:=nD ws.sum) rfl zaj)) (zko (k:=10) hs0 (by show ws.sum < 1024; omega) (by omega))) (zad (zak (zad (zak (zad (d:=IN ns) rfl (zad (zaf (b:=nD 1) (zaf (a:=nD at') rfl (zaf (b:=nD i) rfl rfl m2) (zed _ _)) rfl (zed _ 1)) zaj)) hc) (zad (d:=nD n) rfl zaj)) r2) zaj)) (by simp)) zaj) (zeU (by simp; omega)))
theorem zkm (ns:List Int) (at' n many:Nat) (hat:at'<=60) (hn:n<=60) (h1:1<=many) (h12:many<=12):∃qs:List (Nat × List Nat),qs.length=many/\(∀q∈qs,(1<=q.1/\q.1<=60)/\q.2.Perm (List.range n))/\zcM [IN ns,nD at',nD n,nD many]=.ok (LP (qs.map (wt (qs.map (·.1)).sum))):=by
 have hc:∀k:Nat,∃c:Nat,k<=60->zaE [IN ns,nD (at' + 2 * k)]=.ok (nD c):=by
  intro k
  by_cases hk:k<=60
  ·obtain ⟨c,hc⟩:=zfk ns (at' + 2 * k) (by omega)
   exact ⟨c,fun _=>hc⟩
  ·exact ⟨0,fun z=>absurd z hk⟩
 obtain ⟨g,hg⟩:=Classical.axiomOfChoice hc
 have hb:∀x∈(List.range many).map (fun k=>1 + g k % 60),1<=x/\x<=60:=fun x hx=>by
  obtain ⟨k,_,rfl⟩:=List.mem_map.mp hx
  have:=Nat.mod_lt (g k) (show 60 > 0 by omega)
  omega
 have hsum:=zj7 _ hb
 have hlen:((List.range many).map fun k=>1 + g k % 60).length=many:=by simp
 rw [hlen] at hsum
 obtain ⟨qs,y,e1,e2,e3⟩:=zkK ns at' n many hlen hb (by omega) (by omega) hat hn many 0 [] none (by omega) h12 rfl (fun _ h=>by cases h)
 rw [<-List.range_eq_range'] at e3
 refine ⟨qs,by have:=congrArg List.length e1; rwa [List.length_map,hlen] at this,fun q hq=>⟨hb q.1 (by rw [<-e1]; exact List.mem_map.mpr ⟨q,hq,rfl⟩),e2 q hq⟩,zaD (B:=zcQ) (n:=8) ?_⟩
 rw [e1]
 unfold zcQ
 refine (zae (zaq (d:=LN ((List.range many).map fun k=>1 + g k % 60)) ?_)).trans ?_
 ·have hcc:=zcD (nl:=1) (cap:=[0,1]) (fi:=fRng rng1 (zab (gv 3) lNil)) (ft:=ftN 0) (fe:=f2 (ci 1) (f2 (zas (zab (gv 1) (zab (f2 (gv 2) (f2 (ci 2) (gv 0) mulI) addA) lNil)) [] zaE) (ci 60) modI) addA) (r:=[some (IN ns),some (nD at'),some (nD n),some (nD many),none,none,none,none]) (l:=List.range many) nD (fun k=>nD (1 + g k % 60)) (zct (zad (d:=nD many) rfl zaj) (zdu (by omega))) (by simp; omega) fun k hk=>⟨[some (nD k),some (IN ns),some (nD at')],rfl,?_⟩
  ·refine hcc.trans ?_
   show Res.ok (D.lst _)=Res.ok (D.lst _)
   rw [List.map_map]; rfl
  ·have hk':=List.mem_range.mp hk
   have m2:mulI (.int 2) (nD k)=some (nD (2 * k)):=by
    rw [zgJ (.inl ⟨by decide,by decide⟩)]
    show some (D.int _)=some (D.int _)
    rw [Int.natCast_mul]; rfl
   exact zaf (a:=nD 1) rfl (zaf (b:=nD 60) (zak (zad (d:=IN ns) rfl (zad (zaf (a:=nD at') rfl (zaf (b:=nD k) rfl rfl m2) (zed _ _)) zaj)) (hg k (by omega))) rfl (ziY (by omega))) (zed 1 _)
 refine (zae (zaq (zbs (zad (d:=LN ((List.range many).map fun k=>1 + g k % 60)) rfl zaj) (zsw _)))).trans ?_
 refine (zae (zaq (d:=.lst []) (zeb zaj (by simp)))).trans ?_
 refine (zae ((zaQ (zct (zad (d:=nD many) rfl zaj) (zdu (by omega)))).trans e3)).trans ?_
 exact zav (zaA (d:=LP (qs.map (wt ((List.range many).map fun k=>1 + g k % 60).sum))) rfl)
noncomputable def cq (qs:List (Nat × List Nat)) (h x:Nat):Nat:=((qs.filter fun q=>decide (dA q.2 h=x)).map (·.1)).sum
theorem zpF (q:Nat × List Nat) (qs:List (Nat × List Nat)) (h x:Nat):cq (q::qs) h x=(if dA q.2 h=x then q.1 else 0) + cq qs h x:=by
 unfold cq
 rw [List.filter_cons]
 by_cases e:dA q.2 h=x
 ·rw [if_pos (by simpa using e),if_pos e,List.map_cons,List.sum_cons]
 ·rw [if_neg (by simpa using e),if_neg e,Nat.zero_add]
theorem zr5 {d:List Nat} {n:Nat} (h:d.length=n):(List.range n).map (dA d)=d:=by
 refine List.ext_getElem? fun i=>?_
 rw [List.getElem?_map]
 by_cases hi:i < n
 ·rw [List.getElem?_range hi]
  show some (dA d i)=d[i]?
  unfold dA
  rw [List.getElem?_eq_getElem (by omega)]; rfl
 ·rw [List.getElem?_eq_none (by simp; omega),List.getElem?_eq_none (by omega)]; rfl
theorem zoj {n:Nat} {x:Nat} (hx:x < n):∀(qs:List (Nat × List Nat)),(∀q∈qs,q.2.Perm (List.range n))->((List.range n).map fun h=>cq qs h x).sum=(qs.map (·.1)).sum
 | [],_=>by
  have:(fun h=>cq [] h x)=fun _=>0:=by funext h; simp [cq]
  rw [this,Et.sum_zero]; rfl
 | q::qs,hq=>by
  have hp:=hq q List.mem_cons_self
  have e:((List.range n).map fun h=>cq (q::qs) h x)=(List.range n).map fun h=>(if dA q.2 h=x then q.1 else 0) + cq qs h x:=List.map_congr_left fun h _=>zpF q qs h x
  rw [e,Et.sum_add,Et.sum_ite,zr5 (by rw [hp.length_eq]; simp),zoj hx qs fun z hz=>hq z (List.mem_cons_of_mem _ hz),List.map_cons,List.sum_cons]
  have:q.2.count x=1:=by
   rw [hp.count_eq]
   have h1:=List.nodup_iff_count.mp (List.nodup_range (n:=n)) x
   have h2:=List.count_pos_iff.mpr (List.mem_range.mpr hx)
   omega
  rw [this,Nat.one_mul]
theorem zrl {S:Nat} (hS:0 < S) (qs:List (Nat × List Nat)) (h x:Nat):mixT (qs.map (wt S)) h x=low ((cq qs h x:Nat):Int) S:=by
 show (sel (qs.map (wt S)) h x).foldl zcU (0,1)=_
 have e:sel (qs.map (wt S)) h x=((qs.filter fun q=>decide (dA q.2 h=x)).map (·.1)).map fun c:Nat=>low (c:Int) S:=by
  unfold sel
  rw [List.filter_map,List.map_map,List.map_map]; rfl
 rw [e,<-zk7 hS,zi1 hS,Nat.zero_add]; rfl
theorem zrm {S n:Nat} (hS:0 < S) (qs:List (Nat × List Nat)):TB (mixT (qs.map (wt S))) n=TQ S (cq qs) n:=by
 show D.tup _=D.tup _
 congr 1
 refine List.map_congr_left fun h _=>?_
 show D.tup _=D.tup _
 congr 2
 exact List.map_congr_left fun x _=>zrl hS qs h x
theorem zmG {α β:Type} (f:α->β) (l:List α) (lo hi st:Option Int):zdr (l.map f) lo hi st=(zdr l lo hi st).map f:=by
 unfold zdr
 rw [List.length_map,List.map_filterMap]
 congr 1
 funext i
 rw [List.getElem?_map]
theorem zqN (ns:List Int) {a:Int} (ha:0<=a):(zdr ns (some a) (some 64) (some 20)).length<=100:=by
 unfold zdr
 refine Nat.le_trans (List.length_filterMap_le _ _) ?_
 have h1:0<=(sliceBounds (some a) (some 64) (some 20) ns.length).1:=by
  simp only [sliceBounds,Option.getD_some]
  split <;> omega
 have h2:(sliceBounds (some a) (some 64) (some 20) ns.length).2.1<=64:=by
  simp only [sliceBounds,Option.getD_some]
  split <;> omega
 have h3:(sliceBounds (some a) (some 64) (some 20) ns.length).2.2=20:=rfl
 generalize sliceBounds (some a) (some 64) (some 20) ns.length=p at h1 h2 h3
 obtain ⟨p1,p2,p3⟩:=p
 simp only at h1 h2 h3
 subst h3
 unfold sliceRange
 simp only [List.length_map,List.length_range]
 split <;> split <;> omega
theorem zqi {fa:FE} {fl fh fs:FP} {r:Rho} {d d':D} {lo hi st:Option Int} (h1:fa r=.ok d) (h2:fl r=.ok lo) (h3:fh r=.ok hi) (h4:fs r=.ok st) (h5:slS d lo hi st=some d'):fSlS fa fl fh fs r=.ok d':=by
 unfold fSlS; rw [h1,bind_ok,h2,bind_ok,h3,bind_ok,h4,bind_ok,h5]; rfl
theorem catP {a b:List D} (h:a.length + b.length<=1000):catL (.lst a) (.lst b)=some (.lst (a++b)):=by
 show (if a.length + b.length<=sizeLine then some (D.lst (a++b)) else none)=_
 rw [if_pos (by rw [sizeLine_eq]; omega)]
theorem zhT {d0 d1 d2 d3:D}:∀(ps:List Int) (i:Nat) (t:Int) (x5 x6:Option D),i + ps.length<=1000 ->
  ∃(t':Int) (y5 y6:Option D),forF (ftT (zaC (ftN 5) (zaC (ftN 6) zc3))) zfd (enuD i (ps.map D.int)) [some d0,some d1,some d2,some d3,some (.int t),x5,x6]=.nx [some d0,some d1,some d2,some d3,some (.int t'),y5,y6]
 | [],i,t,x5,x6,_=>⟨t,x5,x6,zaS⟩
 | p::ps,i,t,x5,x6,h=>by
  rw [List.length_cons] at h
  have hp:powI (.int 10) (.int 30)=some (.int (10 ^ 30)):=by
   show zfO CPow _ _ _=_
   rw [intsC_int,if_pos (by unfold CPow; decide)]
   rfl
  obtain ⟨t',y5,y6,ih⟩:=zhT (d0:=d0) (d1:=d1) (d2:=d2) (d3:=d3) ps (i + 1) (t + ((i:Int) + 1) * (p % (10 ^ 30))) (some (.int i)) (some (.int p)) (by omega)
  refine ⟨t',y5,y6,?_⟩
  rw [List.map_cons,show enuD i (D.int p::ps.map D.int)=D.tup [.int i,.int p]::enuD (i + 1) (ps.map D.int) from rfl,<-ih]
  refine zbe (r1:=[some d0,some d1,some d2,some d3,some (.int t),some (.int i),some (.int p)]) rfl ?_
  exact zae (zaq (d:=.int (t + ((i:Int) + 1) * (p % (10 ^ 30)))) (zaf (a:=.int t) rfl (zaf (zaf (a:=.int i) (b:=.int 1) rfl rfl rfl) (zaf (a:=.int p) rfl (zaf (a:=.int 10) (b:=.int 30) rfl rfl hp) (zgK (by decide))) (zgJ (.inl ⟨by omega,by omega⟩))) rfl))
theorem zhS (ns:List Int):∀(j i:Nat) (found:List Int) (x3 x4 x5 x6:Option D),found.length + j<=100->i + j<=100 ->
  ∃(found':List Int) (y3 y4 y5 y6:Option D),found'.length=found.length + j/\forF (ftN 3) zfc ((List.range' i j).map nD) [some (IN ns),some (nD 20),some (IN found),x3,x4,x5,x6]=.nx [some (IN ns),some (nD 20),some (IN found'),y3,y4,y5,y6]
 | 0,i,found,x3,x4,x5,x6,_,_=>⟨found,x3,x4,x5,x6,rfl,zaS⟩
 | j + 1,i,found,x3,x4,x5,x6,hf,hi=>by
  have hl:=zqN ns (a:=1 + (i:Int)) (by omega)
  obtain ⟨t,y5,y6,e1⟩:=zhT (d0:=IN ns) (d1:=nD 20) (d2:=IN found) (d3:=nD i) (zdr ns (some (1 + (i:Int))) (some 64) (some 20)) 0 0 x5 x6 (by omega)
  obtain ⟨found',z3,z4,z5,z6,l,e2⟩:=zhS ns j (i + 1) (found++[t]) (some (nD i)) (some (.int t)) y5 y6 (by simp; omega) (by omega)
  refine ⟨found',z3,z4,z5,z6,by rw [l]; simp; omega,?_⟩
  rw [List.range'_succ,List.map_cons,<-e2]
  refine zbe (r1:=[some (IN ns),some (nD 20),some (IN found),some (nD i),x4,x5,x6]) rfl ?_
  refine (zae (zaq (d:=.int 0) rfl)).trans ?_
  have es:slS (IN ns) (some (1 + (i:Int))) (some 64) (some 20)=some (IN (zdr ns (some (1 + (i:Int))) (some 64) (some 20))):=by
   show (if (some 20:Option Int)=some 0 then none else some (D.lst (zdr (ns.map D.int) (some (1 + (i:Int))) (some 64) (some 20))))=_
   rw [if_neg (by decide),zmG]
  refine (zae ((zaQ (zjd (zqi (d:=IN ns) rfl (zdh (i:=1 + (i:Int)) rfl) (zdh (i:=64) rfl) (zdh (i:=20) rfl) es) rfl)).trans e1)).trans ?_
  have ef:IN (found++[t])=D.lst (found.map D.int++[D.int t]):=by
   show D.lst ((found++[t]).map D.int)=_
   rw [List.map_append]; rfl
  rw [ef]
  exact zae (zfI (d:=IN found) (ds:=[.int t]) rfl rfl (zad (d:=.int t) rfl zaj) (zeU (by simp; omega)))
theorem zkr (ns:List Int):∃cs:List Int,cs.length=20/\zdU [IN ns,nD 20]=.ok (IN cs):=by
 obtain ⟨cs,y3,y4,y5,y6,l,e⟩:=zhS ns 20 0 [] none none none none (by simp) (by omega)
 rw [<-List.range_eq_range'] at e
 refine ⟨cs,by simpa using l,zaD (B:=zd0) (n:=7) ?_⟩
 unfold zd0
 refine (zae (zaq (d:=IN []) (zeb zaj (by simp)))).trans ?_
 refine (zae ((zaQ (zct (zad (d:=nD 20) rfl zaj) (zdu (by omega)))).trans e)).trans ?_
 exact zav (zaA (d:=IN cs) rfl)
theorem zrY (p q:Int × Nat):PyData.eqv (toPy (FR p)) (toPy (FR q))=decide (p=q):=by
 have sh:∀p:Int × Nat,Shp 60 (FR p):=fun p=>zel.mpr fun e he=>by
  simp at he
  rcases he with rfl | rfl <;> trivial
 have h:=zoe p q
 rw [zgZ rfl (sh p) (sh q)] at h
 exact Option.some.inj h
theorem zhH:∀l l':List (Int × Nat),PyData.eqvAll (zcT (l.map FR)) (zcT (l'.map FR))=decide (l=l')
 | [],[]=>by simp [zcT,PyData.eqvAll]
 | [],p::l=>by simp [zcT,PyData.eqvAll]
 | p::l,[]=>by simp [zcT,PyData.eqvAll]
 | p::l,q::l'=>by
  have h1:=zrY p q
  have ih:=zhH l l'
  simp only [List.map_cons,zcT,PyData.eqvAll]
  rw [h1,ih,Bool.eq_iff_iff]
  simp
theorem zhG:∀t t':List (List (Int × Nat)),PyData.eqvAll (zcT (t.map TF)) (zcT (t'.map TF))=decide (t=t')
 | [],[]=>by simp [zcT,PyData.eqvAll]
 | [],p::l=>by simp [zcT,PyData.eqvAll]
 | p::l,[]=>by simp [zcT,PyData.eqvAll]
 | p::l,q::l'=>by
  have h1:PyData.eqv (toPy (TF p)) (toPy (TF q))=decide (p=q):=by
   simp only [toPy,PyData.eqv]; exact zhH p q
  have ih:=zhG l l'
  simp only [List.map_cons,zcT,PyData.eqvAll]
  rw [h1,ih,Bool.eq_iff_iff]
  simp
theorem zpB (t t':List (List (Int × Nat))):eqD (TTF t) (TTF t')=some (.bl (decide (t=t'))):=by
 have sh:∀t:List (List (Int × Nat)),Shp 60 (TTF t):=fun t=>zel.mpr fun d hd=>by
  obtain ⟨l,_,rfl⟩:=List.mem_map.mp hd
  exact zel.mpr zsz
 unfold eqD
 rw [zgZ rfl (sh t) (sh t')]
 unfold eqb
 simp only [toPy,PyData.eqv,zhG]
 rfl
noncomputable def tl (N:Nat) (f:Nat->Nat->Nat) (n:Nat):List (List (Int × Nat)):=(List.range n).map fun h=>(List.range n).map fun x=>low ((f h x:Nat):Int) N
theorem zp3 (N:Nat) (f:Nat->Nat->Nat) (n:Nat):TQ N f n=TTF (tl N f n):=by
 show D.tup _=D.tup _
 unfold tl
 rw [List.map_map]; rfl
end Law
end
section
set_option exponentiation.threshold 3000
namespace Law
open PySem PyProof.Rows L2 DL Fq
theorem zk6 {N:Nat} (hN:0 < N) (a b:Int):zn4 (low a N) (low b N)=low (a - b) N:=by
 have h1:(low a N).1 * (N:Int)=a * ((low a N).2:Int):=zbu a N
 have h2:(low b N).1 * (N:Int)=b * ((low b N).2:Int):=zbu b N
 have p1:=zb9 a hN
 have p2:=zb9 b hN
 refine zdK (Nat.mul_pos p1 p2) hN ?_
 generalize low a N=p at *
 generalize low b N=q at *
 rw [Int.natCast_mul,Int.sub_mul,Int.sub_mul]
 have e1:p.1 * (q.2:Int) * (N:Int)=(p.1 * (N:Int)) * (q.2:Int):=by simp only [Int.mul_assoc,Int.mul_comm,Int.mul_left_comm]
 have e2:q.1 * (p.2:Int) * (N:Int)=(q.1 * (N:Int)) * (p.2:Int):=by simp only [Int.mul_assoc,Int.mul_comm,Int.mul_left_comm]
 rw [e1,e2,h1,h2]
 simp only [Int.mul_assoc,Int.mul_comm,Int.mul_left_comm]
noncomputable abbrev rt1 {α:Type} (l:List α):List α:=l.drop 1++l.take 1
section
variable {E:Nat->List Nat} {n:Nat}
noncomputable def Ch (E:Nat->List Nat) (l:List Nat):Prop:=∀(i a b:Nat),l[i]? = some a->l[i + 1]? = some b->b∈E a
theorem Ch.snoc {l:List Nat} {p q:Nat} (h:Ch E (l++[p])) (hq:q∈E p):Ch E (l++[p]++[q]):=fun i a b ha hb=>by
 by_cases hi:i + 1 < (l++[p]).length
 ·rw [List.getElem?_append_left hi] at hb
  rw [List.getElem?_append_left (by omega)] at ha
  exact h i a b ha hb
 ·have hlt:i + 1 < (l++[p]++[q]).length:=(List.getElem?_eq_some_iff.mp hb).1
  have hi2:i=l.length:=by simp at hi hlt; omega
  subst hi2
  have ea:(l++[p]++[q])[l.length]? = some p:=by simp
  have eb:(l++[p]++[q])[l.length + 1]? = some q:=by simp
  rw [ea] at ha
  rw [eb] at hb
  cases ha
  cases hb
  exact hq
theorem zjZ (g:Gf E n) {C:List Nat} (hC:∀x∈C,x < n) (hg:∀x∈C,∃y∈E x,y∈C) (hl:C.length<=60):∀(j:Nat) (walk:List Nat) (p:Nat),walk.Nodup->(∀x∈walk,x∈C)->p∈C->C.length - walk.length < j->walk.length<=C.length->Ch E (walk++[p]) ->
  ∃(walk':List Nat) (p':Nat),p'∈walk'/\walk'.Nodup/\(∀x∈walk',x∈C)/\Ch E (walk'++[p'])/\walk'.length<=C.length/\zbr q112 zc5 zc6 j [some (SD E n),some (LN C),some (LN walk),some (nD p)]=.nx [some (SD E n),some (LN C),some (LN walk'),some (nD p')]
 | 0,walk,p,_,_,_,h,_,_=>absurd h (by omega)
 | j + 1,walk,p,hn,hw,hp,h,hlw,hch=>by
  have t:=zaz (zaf (f:=gv 3) (f':=gv 2) (r:=[some (SD E n),some (LN C),some (LN walk),some (nD p)]) (a:=nD p) (b:=LN walk) rfl rfl (zrh walk p))
  by_cases e:p∈walk
  ·rw [decide_eq_true e] at t
   exact ⟨walk,p,e,hn,hw,hch,hlw,zh1 t⟩
  ·rw [decide_eq_false e] at t
   obtain ⟨y,h1,h2⟩:=hg p hp
   have hf:∃q l,(E p).filter (fun y=>decide (y∈C))=q::l:=by
    have:y∈(E p).filter fun y=>decide (y∈C):=List.mem_filter.mpr ⟨h1,by simpa using h2⟩
    cases e:(E p).filter fun y=>decide (y∈C) with
    | nil=>rw [e] at this; cases this
    | cons q l=>exact ⟨q,l,rfl⟩
   obtain ⟨q,l,hq⟩:=hf
   have hqm:q∈(E p).filter fun y=>decide (y∈C):=by rw [hq]; exact List.mem_cons_self
   have hqC:q∈C:=by simpa using (List.mem_filter.mp hqm).2
   have hn2:(walk++[p]).Nodup:=List.nodup_append.mpr ⟨hn,by simp,fun a ha b hb=>by simp at hb; rintro rfl; exact e (hb ▸ ha)⟩
   have hsub:∀x∈walk++[p],x∈C:=fun x hx=>by
    rcases List.mem_append.mp hx with z | z
    ·exact hw x z
    ·rw [List.mem_singleton.mp z]; exact hp
   have hlen:=Rg.zgN hn2 hsub
   obtain ⟨walk',p',i1,i2,i3,i4,i6,i5⟩:=zjZ g hC hg hl j (walk++[p]) q hn2 hsub hqC (by simp at hlen ⊢; omega) hlen (hch.snoc (List.mem_filter.mp hqm).1)
   refine ⟨walk',p',i1,i2,i3,i4,i6,Eq.trans (zgx t ?_) i5⟩
   refine (zae (zfI (d:=LN walk) (ds:=[nD p]) (d':=LN (walk++[p])) rfl rfl (zad (d:=nD p) rfl zaj) ?_)).trans ?_
   ·rw [zeU (by simp; omega)]
    show some (D.lst _)=some (D.lst _)
    rw [List.map_append]; rfl
   refine zae (zaq (d:=nD q) (zaf (b:=.int 0) (zak (zad (d:=SD E n) rfl (zad (d:=nD p) rfl (zad (d:=LN C) rfl zaj))) (zgg g (hC p hp) C)) rfl ?_))
   rw [hq]; exact ixA_L0 _ _
theorem rt1_at {α:Type} {l:List α} {i:Nat} {b:α} (h:(rt1 l)[i]? = some b):l[i + 1]? = some b\/(i + 1=l.length/\l[0]? = some b):=by
 cases l with
 | nil=>cases h
 | cons a l=>
  have h':(l++[a])[i]? = some b:=h
  by_cases hi:i < l.length
  ·rw [List.getElem?_append_left hi] at h'
   exact .inl (by rw [List.getElem?_cons_succ]; exact h')
  ·have hlt:i < (l++[a]).length:=(List.getElem?_eq_some_iff.mp h').1
   have e:i=l.length:=by simp at hlt; omega
   subst e
   rw [List.getElem?_append_right (Nat.le_refl _),Nat.sub_self] at h'
   cases h'
   exact .inr ⟨by simp,rfl⟩
theorem zey (g:Gf E n) (h:Co E n≠[]):∃l:List Nat,l≠[]/\l.Nodup/\(∀x∈l,x < n)/\(∀z∈l.zip (rt1 l),z.2∈E z.1)/\zaR [SD E n]=.ok (LN l):=by
 have hn7:=g.n7
 have hl:=zsg g
 obtain ⟨c,C',hc⟩:∃c C',Co E n=c::C':=by
  cases e:Co E n with
  | nil=>exact absurd e h
  | cons c C'=>exact ⟨c,C',rfl⟩
 have hcm:c∈Co E n:=by rw [hc]; exact List.mem_cons_self
 obtain ⟨walk,p,h1,w1,w2,w3,w4,h2⟩:=zjZ g zsf (zto g) (by omega) 64 [] c (by simp) (fun _ z=>by cases z) hcm (by simp; omega) (by simp) (fun i a b _ hb=>by rw [List.nil_append,List.getElem?_cons_succ] at hb; cases hb)
 have hi:walk.idxOf p < walk.length:=List.idxOf_lt_length_of_mem h1
 refine ⟨walk.drop (walk.idxOf p),?_,w1.sublist (List.drop_sublist _ _),fun x hx=>zsf x (w2 x (List.mem_of_mem_drop hx)),fun z hz=>?_,zaD (B:=zaZ) (n:=4) ?_⟩
 ·intro e
  have:=congrArg List.length e
  rw [List.length_drop,List.length_nil] at this
  omega
 ·obtain ⟨i,hz⟩:=List.mem_iff_getElem?.mp hz
  obtain ⟨z1,z2⟩:=List.getElem?_zip_eq_some.mp hz
  rw [List.getElem?_drop] at z1
  have hlt:walk.idxOf p + i < walk.length:=(List.getElem?_eq_some_iff.mp z1).1
  have z1':(walk++[p])[walk.idxOf p + i]? = some z.1:=by rw [List.getElem?_append_left hlt]; exact z1
  refine w3 _ _ _ z1' ?_
  rcases rt1_at z2 with q | ⟨q1,q2⟩
  ·rw [List.getElem?_drop] at q
   have hlt2:walk.idxOf p + (i + 1) < walk.length:=(List.getElem?_eq_some_iff.mp q).1
   rw [List.getElem?_append_left (by omega)]; exact q
  ·rw [List.length_drop] at q1
   rw [List.getElem?_drop,Nat.add_zero,List.getElem?_eq_getElem hi,List.getElem_idxOf hi] at q2
   rw [show walk.idxOf p + i + 1=walk.length by omega,List.getElem?_append_right (Nat.le_refl _),Nat.sub_self]
   exact q2
 unfold zaZ
 refine (zae (zaq (zak (zad (d:=SD E n) rfl zaj) (zgh g)))).trans ?_
 refine (zae ((if_f (zdw (b:=true) (za7 (d:=LN (Co E n)) rfl (by rw [hc]; rfl)))).trans (e_skip _))).trans ?_
 refine (zae (zaq (d:=LN []) (zeb zaj (by simp)))).trans ?_
 refine (zae (zaq (d:=nD c) (zaf (a:=LN (Co E n)) (b:=.int 0) rfl rfl (by rw [hc]; exact ixA_L0 _ _)))).trans ?_
 refine (zae h2).trans ?_
 exact zav (zaA (zkd (d:=LN walk) rfl (zdh (i:=((walk.idxOf p:Nat):Int)) (zpA (d:=LN walk) rfl rfl (zad (d:=nD p) rfl zaj) (zm7 h1))) rfl (zou (by omega))))
theorem zff (g:Gf E n) {d0 d1:D} (hs:zbz [d0,d1]=.ok (SD E n)) (h:Co E n≠[]):zdI [d0,d1]=.ok .non:=by
 obtain ⟨l,_,_,_,_,hl⟩:=zey g h
 refine zaD (B:=zda) (n:=5) ?_
 unfold zda
 refine (zae (zaq (zak (zad (d:=d0) rfl (zad (d:=d1) rfl zaj)) hs))).trans ?_
 exact zav ((if_t (zaz (zaf (a:=LN l) (b:=.non) (zak (zad (d:=SD E n) rfl zaj) hl) rfl rfl))).trans (zav (zaA (d:=.non) rfl)))
end
noncomputable abbrev prD (p:Nat × Nat):D:=.tup [nD p.1,nD p.2]
theorem zsx (l:List D) (i:Nat):slD (.lst l) none (some (i:Int))=some (.lst (l.take i)):=by
 show some (D.lst (cutL l none (some (i:Int))))=_
 unfold cutL
 rw [HT.sIx_nat,HT.sIx_none,List.drop_zero,Nat.sub_zero]
 rw [List.take_eq_take_iff.mpr (by omega:min (min i l.length) l.length=min i l.length)]
theorem zsy (l:List D):slD (.lst l) (some 1) none=some (.lst (l.drop 1)):=by
 show some (D.lst (cutL l (some ((1:Nat):Int)) none))=_
 unfold cutL
 rw [HT.sIx_nat,HT.sIx_none]
 cases l with
 | nil=>rfl
 | cons a l=>
  rw [List.length_cons,Nat.min_eq_left (by omega)]
  show some (D.lst (l.take _))=some (D.lst l)
  rw [List.take_of_length_le (by omega)]
theorem zqg {l:List D} (h:2<=l.length):slD (.tup l) none (some 1)=some (.tup (l.take 1)):=by
 show (if _ then none else some (D.tup (cutL l none (some ((1:Nat):Int)))))=_
 rw [if_neg (by show ¬ (_/\_); rw [show (some (1:Int))=some ((1:Nat):Int) from rfl,HT.sIx_nat]; omega)]
 unfold cutL
 rw [HT.sIx_nat,HT.sIx_none,List.drop_zero,Nat.sub_zero,Nat.min_eq_left (by omega)]
theorem zqh {l:List D} (h:2<=l.length):slD (.tup l) (some 1) none=some (.tup (l.drop 1)):=by
 show (if _ then none else some (D.tup (cutL l (some ((1:Nat):Int)) none)))=_
 rw [if_neg (by show ¬ (_/\_); rw [show (some (1:Int))=some ((1:Nat):Int) from rfl,HT.sIx_nat]; omega)]
 unfold cutL
 rw [HT.sIx_nat,HT.sIx_none,Nat.min_eq_left (by omega),List.take_of_length_le (by rw [List.length_drop]; omega)]
theorem zpM {a b:List D} (h:a.length + b.length<=1000):addE (.tup a) (.tup b)=some (.tup (a++b)):=by
 cases a with
 | nil=>rfl
 | cons x a=>
  show (if (x::a).length + b.length<=sizeLine then some (DL.D.tup ((x::a)++b)) else none)=_
  rw [if_pos (by rw [sizeLine_eq]; omega)]
theorem zia {l:List D} (hl:l.length<=900):zaN [.lst l]=.ok (.lst (rt1 l)):=by
 refine zaD (B:=zbo) (n:=1) ?_
 unfold zbo
 refine zav (zaA (zaf (zkd (d:=.lst l) rfl (zdh (i:=1) rfl) rfl (zsy l)) (zkd (d:=.lst l) rfl rfl (zdh (i:=((1:Nat):Int)) rfl) (zsx l 1)) ?_))
 show (if (l.drop 1).length + (l.take 1).length<=sizeLine then some (D.lst (l.drop 1++l.take 1)) else none)=_
 rw [if_pos (by rw [List.length_drop,List.length_take,sizeLine_eq]; omega)]
theorem zh9 {l:List D} (h2:2<=l.length) (hl:l.length<=900):zaN [.tup l]=.ok (.tup (rt1 l)):=by
 refine zaD (B:=zbo) (n:=1) ?_
 unfold zbo
 refine zav (zaA (zaf (zkd (d:=.tup l) rfl (zdh (i:=1) rfl) rfl (zqh h2)) (zkd (d:=.tup l) rfl rfl (zdh (i:=1) rfl) (zqg h2)) ?_))
 exact zpM (by rw [List.length_drop,List.length_take]; omega)
end Law
end
section
set_option exponentiation.threshold 3000
namespace Law
open PySem PyProof.Rows L2 DL Fq
theorem znE {α β γ δ:Type} (f:α->D) (g:β->D) (l:List α) (r:List β):List.zipWith (fun a b=>D.tup [a,b]) (l.map f) (r.map g)=(l.zip r).map fun z=>D.tup [f z.1,g z.2]:=by
 induction l generalizing r with
 | nil=>rfl
 | cons a l ih=>
  cases r with
  | nil=>rfl
  | cons b r=>rw [List.map_cons,List.map_cons,List.zipWith_cons_cons,List.zip_cons_cons,List.map_cons,ih]
theorem znF {fa fb:FE} {r:Rho} {d e:D} {ds es:List D} (h1:fa r=.ok d) (h2:fb r=.ok e) (h3:zbf d=some ds) (h4:zbf e=some es):fZip fa fb r=.ok (List.zipWith (fun a b=>D.tup [a,b]) ds es):=by
 unfold fZip; rw [h1,bind_ok,h2,bind_ok,h3]; show (opt (some ds)).bind _=_; rw [h4]; rfl
theorem zgE {α β:Type} (f:α->β) (l:List α):rt1 (l.map f)=(rt1 l).map f:=by
 show (l.map f).drop 1++(l.map f).take 1=(l.drop 1++l.take 1).map f
 rw [List.map_append,List.map_drop,List.map_take]
theorem zeo {α:Type} (l:List α):(rt1 l).length=l.length:=by
 show (l.drop 1++l.take 1).length=_
 rw [List.length_append,List.length_drop,List.length_take]; omega
theorem zmw (l:List Nat):(rt1 l).Perm l:=by
 cases l with
 | nil=>exact .nil
 | cons a l=>exact List.perm_append_comm
section
variable {rows:List (List Nat)} {n:Nat} {tb:Nat->Nat->Int × Nat}
noncomputable def hdR (rows:List (List Nat)) (tb:Nat->Nat->Int × Nat) (n:Nat) (z:Nat × Nat):Nat:=(ris rows tb n z.1 z.2).headD 0
theorem zn9 {z:Nat × Nat} (h:z.2∈Eg rows tb n z.1):∃l,ris rows tb n z.1 z.2=hdR rows tb n z::l:=by
 have hne:=(List.mem_filter.mp h).2
 unfold hdR
 cases e:ris rows tb n z.1 z.2 with
 | nil=>rw [e] at hne; cases hne
 | cons q l=>exact ⟨l,rfl⟩
theorem zhD {z:Nat × Nat} (h:z.2∈Eg rows tb n z.1):hdR rows tb n z < n/\0 < (tb (hdR rows tb n z) z.1).1/\(Wr rows (hdR rows tb n z)).idxOf z.2 < (Wr rows (hdR rows tb n z)).idxOf z.1:=by
 obtain ⟨l,e⟩:=zn9 h
 have hq:hdR rows tb n z∈ris rows tb n z.1 z.2:=by rw [e]; exact List.mem_cons_self
 have h1:=List.mem_filter.mp hq
 have h2:=List.mem_filter.mp h1.1
 exact ⟨List.mem_range.mp h2.1,by simpa [psb] using h2.2,by simpa [lkb] using h1.2⟩
noncomputable abbrev toP (rows:List (List Nat)) (tb:Nat->Nat->Int × Nat) (n:Nat) (z:Nat × Nat):Nat × Nat:=(hdR rows tb n z,z.1)
theorem zkb (R:Sq rows n) (T:Tok tb n) {d2:D}:∀(zs done:List (Nat × Nat)) (x4 x5:Option D),(∀z∈zs,z.1 < n/\z.2∈Eg rows tb n z.1)->done.length + zs.length<=60 ->
  ∃y4 y5,forF (ftT (zaC (ftN 4) (zaC (ftN 5) zc3))) zee (zs.map prD) [some (WD rows),some (TB tb n),some d2,some (.lst (done.map prD)),x4,x5]=.nx [some (WD rows),some (TB tb n),some d2,some (.lst ((done++zs.map (toP rows tb n)).map prD)),y4,y5]
 | [],done,x4,x5,_,_=>⟨x4,x5,by rw [List.map_nil,List.map_nil,List.append_nil]; exact zaS⟩
 | z::zs,done,x4,x5,h,hl=>by
  obtain ⟨h1,h2⟩:=h z List.mem_cons_self
  rw [List.length_cons] at hl
  obtain ⟨y4,y5,ih⟩:=zkb R T (d2:=d2) zs (done++[toP rows tb n z]) (some (nD z.1)) (some (nD z.2)) (fun w hw=>h w (List.mem_cons_of_mem _ hw)) (by rw [List.length_append,List.length_singleton]; omega)
  refine ⟨y4,y5,?_⟩
  rw [List.map_cons,List.map_cons (f:=toP rows tb n),List.append_cons,<-ih]
  refine zbe (r1:=[some (WD rows),some (TB tb n),some d2,some (.lst (done.map prD)),some (nD z.1),some (nD z.2)]) rfl ?_
  obtain ⟨l,e⟩:=zn9 h2
  have hr:=ziO R T h1 (zkZ.mp h2).1
  rw [e] at hr
  rw [List.map_append]
  exact zae (zfI (d:=.lst (done.map prD)) (ds:=[prD (toP rows tb n z)]) rfl rfl (zad (ze6 (zad (zaf (b:=.int 0) (zak (zad (d:=WD rows) rfl (zad (d:=TB tb n) rfl (zad (d:=nD z.1) rfl (zad (d:=nD z.2) rfl zaj)))) hr) rfl (ixA_L0 _ _)) (zad (d:=nD z.1) rfl zaj)) (by simp)) zaj) (zeU (by rw [List.length_map]; omega)))
theorem zjv (R:Sq rows n) (T:Tok tb n) (h:Co (Eg rows tb n) n=[]):zbA [WD rows,TB tb n]=.ok .non:=by
 refine zaD (B:=zbC) (n:=6) ?_
 unfold zbC
 refine (zae (zaq (d:=.non) (zak (zad (zak (zad (d:=WD rows) rfl (zad (d:=TB tb n) rfl zaj)) (zfD R T)) zaj) (ze1 (zpN R) h)))).trans ?_
 exact zav ((if_t (zaz (zaf (a:=.non) (b:=.non) rfl rfl rfl))).trans (zav (zaA (d:=.non) rfl)))
theorem zhZ {l r:List Nat} (h:l.length=r.length):(l.zip r).map (·.1)=l/\(l.zip r).map (·.2)=r:=⟨List.map_fst_zip (by omega),List.map_snd_zip (by omega)⟩
theorem zh8 (R:Sq rows n) (T:Tok tb n) (h:Co (Eg rows tb n) n≠[]):∃l:List Nat,l≠[]/\l.Nodup/\(∀x∈l,x < n)/\(∀z∈l.zip (rt1 l),z.2∈Eg rows tb n z.1)/\zbA [WD rows,TB tb n]=.ok (.tup (((l.zip (rt1 l)).map (toP rows tb n)).map prD)):=by
 have hn7:=R.n7
 obtain ⟨l,l1,l2,l3,l4,l5⟩:=zey (zpN (tb:=tb) R) h
 have hlen:l.length<=n:=by
  have:=Rg.zgN (m:=List.range n) l2 fun x hx=>List.mem_range.mpr (l3 x hx)
  simpa using this
 have hzl:(l.zip (rt1 l)).length=l.length:=by rw [List.length_zip,zeo,Nat.min_self]
 obtain ⟨y4,y5,e⟩:=zkb R T (d2:=LN l) (l.zip (rt1 l)) [] none none (fun z hz=>⟨l3 z.1 (List.of_mem_zip hz).1,l4 z hz⟩) (by rw [hzl,List.length_nil]; omega)
 refine ⟨l,l1,l2,l3,l4,zaD (B:=zbC) (n:=6) ?_⟩
 unfold zbC
 refine (zae (zaq (d:=LN l) (zak (zad (zak (zad (d:=WD rows) rfl (zad (d:=TB tb n) rfl zaj)) (zfD R T)) zaj) l5))).trans ?_
 refine (zae ((if_f (zaz (zaf (a:=LN l) (b:=.non) rfl rfl rfl))).trans (e_skip _))).trans ?_
 refine (zae (zaq (d:=.lst []) (zeb zaj (by simp)))).trans ?_
 have hb:=zia (l:=l.map nD) (by rw [List.length_map]; omega)
 rw [zgE] at hb
 have hz:=znF (fa:=gv 2) (fb:=zas (zab (gv 2) lNil) [] zaN) (r:=[some (WD rows),some (TB tb n),some (LN l),some (.lst []),none,none]) (d:=LN l) rfl (zak (zad (d:=LN l) rfl zaj) hb) rfl rfl
 rw [znE (γ:=Nat) (δ:=Nat)] at hz
 refine (zae ((zaQ hz).trans e)).trans ?_
 exact zav (zaA (zbs (zad (d:=.lst (([]++(l.zip (rt1 l)).map (toP rows tb n)).map prD)) rfl zaj) rfl))
end
noncomputable abbrev QS (S:Nat) (z:Nat):D:=FR (low (z:Int) S)
theorem rls {S a b:Nat} (hS:0 < S) (hS2:S < 2 ^ 40) (ha:a < 2 ^ 40) (hb:b < 2 ^ 40):zfe [QS S a,QS S b]=.ok (.bl (decide (a < b))):=by
 have:=zmu (k:=40) (l:=40) (bdN hS hS2 ha) (bdN hS hS2 hb) (by omega) (by omega)
 rw [this,zmX hS hS]
 congr 2
 rw [Bool.eq_iff_iff,decide_eq_true_iff,decide_eq_true_iff]
 constructor
 ·intro h
  have:=Int.lt_of_mul_lt_mul_right h (by omega)
  omega
 ·intro h
  exact Int.mul_lt_mul_of_pos_right (by omega) (by omega)
theorem zi3 {d0:D} {S:Nat} (hS:0 < S) (hS2:S < 2 ^ 40):∀(l:List Nat) (m:Nat) (x:Option D),m < 2 ^ 40->(∀y∈l,y < 2 ^ 40)->∃x',forF (ftN 2) zhW (l.map (QS S)) [some d0,some (QS S m),x]=.nx [some d0,some (QS S (l.foldl (fun m y=>if y < m then y else m) m)),x']
 | [],m,x,_,_=>⟨x,zaS⟩
 | y::l,m,x,hm,hl=>by
  have hy:=hl y List.mem_cons_self
  obtain ⟨x',ih⟩:=zi3 (d0:=d0) hS hS2 l (if y < m then y else m) (some (QS S y)) (by split <;> assumption) (fun z hz=>hl z (List.mem_cons_of_mem _ hz))
  refine ⟨x',?_⟩
  rw [List.map_cons,List.foldl_cons,<-ih]
  refine zbe (r1:=[some d0,some (QS S m),some (QS S y)]) rfl ?_
  have t:=rls hS hS2 hy hm
  by_cases h:y < m
  ·rw [decide_eq_true h] at t
   rw [if_pos h]
   exact zae ((if_t (za7 (zak (zad (d:=QS S y) rfl (zad (d:=QS S m) rfl zaj)) t) rfl)).trans (zae (zaq (d:=QS S y) rfl)))
  ·rw [decide_eq_false h] at t
   rw [if_neg h]
   exact zae ((if_f (za7 (zak (zad (d:=QS S y) rfl (zad (d:=QS S m) rfl zaj)) t) rfl)).trans (e_skip _))
theorem zoH {S:Nat} (hS:0 < S) (hS2:S < 2 ^ 40) {l:List Nat} (h:l≠[]) (hl:∀y∈l,y < 2 ^ 40):zhc [.lst (l.map (QS S))]=.ok (QS S (Et.leastN l)):=by
 cases l with
 | nil=>exact absurd rfl h
 | cons x l=>
  obtain ⟨x',e⟩:=zi3 (d0:=.lst ((x::l).map (QS S))) hS hS2 (x::l) x none (hl x List.mem_cons_self) hl
  rw [List.foldl_cons,if_neg (Nat.lt_irrefl x)] at e
  refine zaD (B:=zhf) (n:=3) ?_
  unfold zhf
  refine (zae (zaq (d:=QS S x) (zaf (a:=.lst ((x::l).map (QS S))) (b:=.int 0) rfl rfl (ixA_L0 _ _)))).trans ?_
  refine (zae ((zaQ (zcA (d:=.lst ((x::l).map (QS S))) rfl rfl)).trans e)).trans ?_
  exact zav (zaA (d:=QS S (Et.leastN (x::l))) rfl)
theorem zoI {S n:Nat} {c:Nat->Nat->Nat} (hS:0 < S) (hS2:S < 2 ^ 40) (hc:∀h x,c h x < 2 ^ 40) {ring:List (Nat × Nat)} (hr:ring≠[]) (hl:ring.length<=60) (hlt:∀p∈ring,p.1 < n/\p.2 < n):zdT [TQ S c n,.tup (ring.map prD)]=.ok (QS S (Et.leastN (ring.map fun p=>c p.1 p.2))):=by
 refine zaD (B:=zdX) (n:=2) ?_
 unfold zdX
 have hcomp:=zcD (nl:=2) (cap:=[0]) (fi:=fSeq zbf (gv 1)) (ft:=ftT (zaC (ftN 0) (zaC (ftN 1) zc3))) (fe:=f2 (f2 (gv 2) (gv 0) ixA) (gv 1) ixA) (r:=[some (TQ S c n),some (.tup (ring.map prD))]) (l:=ring) prD (fun p=>QS S (c p.1 p.2)) (zcA (d:=.tup (ring.map prD)) rfl rfl) (by omega) fun p hp=>⟨[some (nD p.1),some (nD p.2),some (TQ S c n)],rfl,zaf (b:=nD p.2) (zaf (a:=TQ S c n) (b:=nD p.1) rfl rfl (zil (hlt p hp).1)) rfl (zgz (tb:=fun h x=>low ((c h x:Nat):Int) S) (hlt p hp).2)⟩
 have hle:=zoH hS hS2 (l:=ring.map fun p=>c p.1 p.2) (by simpa using hr) (fun y hy=>by
  obtain ⟨p,_,rfl⟩:=List.mem_map.mp hy
  exact hc _ _)
 rw [List.map_map] at hle
 exact zav (zaA (zak (zad hcomp zaj) hle))
end Law
end
section
set_option exponentiation.threshold 3000
namespace Law
open PySem PyProof.Rows L2 DL Fq
theorem zpK {f1:FS2} {F:Rho->List (List D)->Out} {r r':Rho} {w w':List (List D)} (h:f1 r w=some (r',w')):zl1 f1 F r w=F r' w':=by unfold zl1; rw [h]
theorem zlw {ft:FT} {b:FS2} {r r1 r':Rho} {w w':List (List D)} {d:D} {ds:List D} (h1:ft d r=some r1) (h2:b r1 w=some (r',w')):zf9 ft b (d::ds) r w=zf9 ft b ds r' w':=by
 show ((ft d r).bind fun r1=>(b r1 w).bind fun p=>zf9 ft b ds p.1 p.2)=_
 rw [h1,Option.bind_some,h2]; rfl
theorem zmZ {fi:FI} {ft:FT} {b:FS2} {r:Rho} {w:List (List D)} {ds:List D} (h:fi r=.ok ds):zhz fi ft b r w=zf9 ft b ds r w:=by unfold zhz; rw [h]
theorem zmU {i:Nat} {f:FE} {F:Rho->List (List D)->Out} {r:Rho} {w:List (List D)} (h:f r=.ok (.lst (w.map D.lst))):zkU (zks i f) F r=F (r.set i none) w:=by
 unfold zkU zks
 rw [h]
 simp only []
 rw [zjR]; rfl
theorem zrE {m h:Nat} (hh:h < m):ixN m (h:Int)=some h:=by
 unfold ixN
 rw [if_pos (by omega),if_pos (by omega),Int.toNat_natCast]
theorem zsa {jr h:Nat} {fi:FE} {fA:FA} {r:Rho} {w w':List (List D)} (h1:fi r=.ok (nD h)) (h2:h < w.length) (h3:fA (r.set jr none) w h=some w'):aliF jr fi fA r w=some (r.set jr none,w'):=by
 unfold aliF
 rw [h1]
 show (ixN w.length (h:Int)).bind _=_
 rw [zrE h2,Option.bind_some,h3]; rfl
open Classical in
theorem zky {i jr k y:Nat} {f fi:FE} {r:Rho} {w:List (List D)} {d:D} (h1:f (zk8 i jr r w k)=.ok d) (h2:fi r=.ok (nD y)) (hc:Cln d) (hy:y < (w.getD k []).length):putA i jr f fi r w k=some (w.set k ((w.getD k []).set y d)):=by
 unfold putA
 rw [h1,h2]
 show (if Cln d then (ixN (w.getD k []).length (y:Int)).map _ else none)=_
 rw [if_pos hc,zrE hy]; rfl
noncomputable abbrev MR (S:Nat) (c:Nat->Nat->Nat) (n:Nat):List (List D):=(List.range n).map fun h=>(List.range n).map fun x=>QS S (c h x)
section
variable {S n v:Nat} {c:Nat->Nat->Nat}
theorem zhV {h:Nat} (hh:h < n):(MR S c n).getD h []=(List.range n).map fun x=>QS S (c h x):=by
 rw [List.getD_eq_getElem?_getD,List.getElem?_map,List.getElem?_range hh]; rfl
theorem zoo {h t:Nat} (hh:h < n) (ht:t < n) (z:Nat):(MR S c n).set h (((MR S c n).getD h []).set t (QS S z))=MR S (Hd.put c h t z) n:=by
 rw [zhV hh]
 refine List.ext_getElem? fun g=>?_
 by_cases hg:g < n
 ·have e2:(MR S (Hd.put c h t z) n)[g]? = some ((List.range n).map fun x=>QS S (Hd.put c h t z g x)):=by rw [List.getElem?_map,List.getElem?_range hg]; rfl
  rw [e2]
  by_cases e:h=g
  ·subst e
   rw [List.getElem?_set_self (by simpa using hh)]
   congr 1
   refine List.ext_getElem? fun x=>?_
   by_cases hx:x < n
   ·have e3:((List.range n).map fun x=>QS S (Hd.put c h t z h x))[x]? = some (QS S (Hd.put c h t z h x)):=by rw [List.getElem?_map,List.getElem?_range hx]; rfl
    have e4:Hd.put c h t z h x=if x=t then z else c h x:=by show (if h=h then _ else _)=_; rw [if_pos rfl]
    rw [e3,e4]
    by_cases q:t=x
    ·subst q
     rw [List.getElem?_set_self (by simpa using ht),if_pos rfl]
    ·rw [List.getElem?_set_ne q,if_neg (fun z=>q z.symm),List.getElem?_map,List.getElem?_range hx]; rfl
   ·rw [List.getElem?_eq_none (by simp; omega),List.getElem?_eq_none (by simp; omega)]
  ·rw [List.getElem?_set_ne e,List.getElem?_map,List.getElem?_range hg]
   show some _=some _
   congr 1
   refine List.map_congr_left fun x _=>?_
   show _=QS S (if g=h then _ else c g x)
   rw [if_neg (fun z=>e z.symm)]
 ·rw [List.getElem?_eq_none (by simp; omega),List.getElem?_eq_none (by simp; omega)]
noncomputable abbrev aB:FS2:=(aliF 6 (f2 (gv 4) (ci 0) ixA) (zhI (putA 3 6 (zas (zab (f2 (gv 6) (f2 (gv 4) (ci 1) ixA) ixA) (zab (gv 2) lNil)) [] zeq) (f2 (gv 4) (ci 1) ixA)) (zhI (putA 3 6 (zas (zab (f2 (gv 6) (f2 (gv 5) (ci 1) ixA) ixA) (zab (gv 2) lNil)) [] zf2) (f2 (gv 5) (ci 1) ixA)) nilA)))
theorem rms {a b:Nat} (hS:0 < S) (hS2:S < 2 ^ 40) (ha:a < 2 ^ 40) (hb:b<=a):zeq [QS S a,QS S b]=.ok (QS S (a - b)):=by
 have:=zkn (k:=40) (l:=40) (bdN hS hS2 ha) (bdN hS hS2 (by omega:b < 2 ^ 40)) (by omega)
 rw [zk6 hS] at this
 rw [this]
 show Res.ok (FR (low _ S))=Res.ok (FR (low _ S))
 rw [Int.ofNat_sub hb]
theorem rps {a b:Nat} (hS:0 < S) (hS2:S < 2 ^ 40) (ha:a < 2 ^ 40) (hb:b < 2 ^ 40):zf2 [QS S a,QS S b]=.ok (QS S (a + b)):=by
 have:=zmt (k:=40) (l:=40) (bdN hS hS2 ha) (bdN hS hS2 hb) (by omega)
 rw [zeA hS,<-Int.natCast_add] at this
 exact this
theorem clnQ (z:Nat):Cln (QS S z):=cln2 _ _
theorem pr0 (p:Nat × Nat):ixA (prD p) (.int 0)=some (nD p.1):=zgO (i:=0) rfl
theorem pr1 (p:Nat × Nat):ixA (prD p) (.int 1)=some (nD p.2):=zgO (i:=1) rfl
theorem zpx (hS:0 < S) (hS2:S < 2 ^ 40) {d0 d1 x6:Option D} {p q:Nat × Nat} (h1:p.1 < n) (h2:p.2 < n) (h3:q.2 < n) (hv:v<=c p.1 p.2) (hb:∀g x,c g x + v < 2 ^ 40) :
  aB [d0,d1,some (QS S v),none,some (prD p),some (prD q),x6] (MR S c n)=some ([d0,d1,some (QS S v),none,some (prD p),some (prD q),none],MR S (Hd.mv v c (p.1,p.2,q.2)) n):=by
 refine zsa (h:=p.1) (zaf (a:=prD p) (b:=.int 0) rfl rfl (pr0 p)) (by simpa using h1) ?_
 show zhI _ _ [d0,d1,some (QS S v),none,some (prD p),some (prD q),none] (MR S c n) p.1=_
 have e1:putA 3 6 (zas (zab (f2 (gv 6) (f2 (gv 4) (ci 1) ixA) ixA) (zab (gv 2) lNil)) [] zeq) (f2 (gv 4) (ci 1) ixA) [d0,d1,some (QS S v),none,some (prD p),some (prD q),none] (MR S c n) p.1=some (MR S (Hd.dn v c p.1 p.2) n):=by
  have hb1:=hb p.1 p.2
  refine (zky (y:=p.2) (d:=QS S (c p.1 p.2 - v)) (zak (zad (zaf (a:=.lst ((MR S c n).getD p.1 [])) (b:=nD p.2) rfl (zaf (a:=prD p) (b:=.int 1) rfl rfl (pr1 p)) (by rw [zhV h1]; exact ix_R h2)) (zad (d:=QS S v) rfl zaj)) (rms hS hS2 (by omega) hv)) (zaf (a:=prD p) (b:=.int 1) rfl rfl (pr1 p)) (clnQ _) (by rw [zhV h1]; simpa using h2)).trans ?_
  rw [zoo h1 h2]; rfl
 have e2:putA 3 6 (zas (zab (f2 (gv 6) (f2 (gv 5) (ci 1) ixA) ixA) (zab (gv 2) lNil)) [] zf2) (f2 (gv 5) (ci 1) ixA) [d0,d1,some (QS S v),none,some (prD p),some (prD q),none] (MR S (Hd.dn v c p.1 p.2) n) p.1=some (MR S (Hd.up v (Hd.dn v c p.1 p.2) p.1 q.2) n):=by
  have hb1:=hb p.1 q.2
  have hb2:=Hd.dn_le (v:=v) (c:=c) p.1 p.2 p.1 q.2
  refine (zky (y:=q.2) (d:=QS S (Hd.dn v c p.1 p.2 p.1 q.2 + v)) (zak (zad (zaf (a:=.lst ((MR S (Hd.dn v c p.1 p.2) n).getD p.1 [])) (b:=nD q.2) rfl (zaf (a:=prD q) (b:=.int 1) rfl rfl (pr1 q)) (by rw [zhV h1]; exact ix_R h3)) (zad (d:=QS S v) rfl zaj)) (rps hS hS2 (by omega) (by omega))) (zaf (a:=prD q) (b:=.int 1) rfl rfl (pr1 q)) (clnQ _) (by rw [zhV h1]; simpa using h3)).trans ?_
  rw [zoo h1 h3]; rfl
 unfold zhI
 rw [e1,Option.bind_some]
 show (putA 3 6 _ _ _ _ _).bind _=_
 rw [e2]; rfl
noncomputable abbrev stp (z:(Nat × Nat) × (Nat × Nat)):Hd.St:=(z.1.1,z.1.2,z.2.2)
noncomputable abbrev zzD (z:(Nat × Nat) × (Nat × Nat)):D:=.tup [prD z.1,prD z.2]
theorem zlt {W:Nat->List Nat} (hS:0 < S) (hS2:S < 2 ^ 40) {d0 d1:Option D}:∀(zs:List ((Nat × Nat) × (Nat × Nat))) (c:Nat->Nat->Nat) (x4 x5 x6:Option D),Hd.Ok W n v c (zs.map stp)->(∀z∈zs,z.1.2 < n/\z.2.2 < n)->(∀g x,c g x + zs.length * v < 2 ^ 40) ->
  ∃y4 y5 y6,zf9 (ftT (zaC (ftN 4) (zaC (ftN 5) zc3))) aB (zs.map zzD) [d0,d1,some (QS S v),none,x4,x5,x6] (MR S c n)=some ([d0,d1,some (QS S v),none,y4,y5,y6],MR S (Hd.all v c (zs.map stp)) n)
 | [],c,x4,x5,x6,_,_,_=>⟨x4,x5,x6,rfl⟩
 | z::zs,c,x4,x5,x6,ok,hlt,hb=>by
  rw [List.map_cons] at ok
  rw [List.length_cons] at hb
  obtain ⟨l1,l2⟩:=hlt z List.mem_cons_self
  have l0:=ok.lt (stp z) List.mem_cons_self
  obtain ⟨y4,y5,y6,ih⟩:=zlt hS hS2 (d0:=d0) (d1:=d1) zs (Hd.mv v c (stp z)) (some (prD z.1)) (some (prD z.2)) none ok.next (fun w hw=>hlt w (List.mem_cons_of_mem _ hw)) (fun g x=>by
   have h1:=Hd.mv_le (v:=v) (c:=c) (stp z) g x
   have h2:=hb g x
   rw [Nat.add_mul,Nat.one_mul] at h2
   omega)
  refine ⟨y4,y5,y6,?_⟩
  rw [List.map_cons,List.map_cons]
  refine (zlw (r1:=[d0,d1,some (QS S v),none,some (prD z.1),some (prD z.2),x6]) rfl (zpx hS hS2 l0 l1 l2 (ok.ge (stp z) List.mem_cons_self) fun g x=>?_)).trans ih
  have h2:=hb g x
  rw [Nat.add_mul,Nat.one_mul] at h2
  omega
theorem zjy {W:Nat->List Nat} (hS:0 < S) (hS2:S < 2 ^ 40) (hn7:n<=7) {ring:List (Nat × Nat)} (h2:2<=ring.length) (hl:ring.length<=60) (hlt:∀p∈ring,p.2 < n) (ok:Hd.Ok W n v c ((ring.zip (rt1 ring)).map stp)) (hb:∀g x,c g x + ring.length * v < 2 ^ 40) :
  zfq [TQ S c n,.tup (ring.map prD),QS S v]=.ok (TQ S (Hd.all v c ((ring.zip (rt1 ring)).map stp)) n):=by
 have hzl:(ring.zip (rt1 ring)).length=ring.length:=by rw [List.length_zip,zeo,Nat.min_self]
 have hmem:∀p∈rt1 ring,p∈ring:=fun p hp=>by
  rcases List.mem_append.mp hp with z | z
  ·exact List.mem_of_mem_drop z
  ·exact List.mem_of_mem_take z
 obtain ⟨y4,y5,y6,e⟩:=zlt hS hS2 (d0:=some (TQ S c n)) (d1:=some (.tup (ring.map prD))) (ring.zip (rt1 ring)) c none none none ok (fun z hz=>⟨hlt _ (List.of_mem_zip hz).1,hlt _ (hmem _ (List.of_mem_zip hz).2)⟩) (by rw [hzl]; exact hb)
 refine zaD (B:=zfs) (n:=7) ?_
 unfold zfs
 refine (zmU (w:=MR S c n) ?_).trans ?_
 ·rw [List.map_map]
  refine zcD (l:=List.range n) (fun h=>TF ((List.range n).map fun x=>low ((c h x:Nat):Int) S)) (fun h=>.lst ((List.range n).map fun x=>QS S (c h x))) (zcA (d:=TQ S c n) rfl rfl) (by simp; omega) fun h _=>⟨[some (TF ((List.range n).map fun x=>low ((c h x:Nat):Int) S))],rfl,zbs (zad (d:=TF ((List.range n).map fun x=>low ((c h x:Nat):Int) S)) rfl zaj) ?_⟩
  show some (D.lst (List.map FR _))=_
  rw [List.map_map]; rfl
 have hbh:=zh9 (l:=ring.map prD) (by rw [List.length_map]; exact h2) (by rw [List.length_map]; omega)
 rw [zgE] at hbh
 have hz:=znF (fa:=gv 1) (fb:=zas (zab (gv 1) lNil) [] zaN) (r:=[some (TQ S c n),some (.tup (ring.map prD)),some (QS S v),none,none,none,none]) (d:=.tup (ring.map prD)) rfl (zak (zad (d:=.tup (ring.map prD)) rfl zaj) hbh) rfl rfl
 rw [znE (γ:=Nat) (δ:=Nat)] at hz
 refine (zpK ((zmZ hz).trans e)).trans ?_
 show (seqF (retF _ _) zal) [some (TQ S c n),some (.tup (ring.map prD)),some (QS S v),some (.lst ((MR S (Hd.all v c ((ring.zip (rt1 ring)).map stp)) n).map D.lst)),y4,y5,y6]=_
 generalize Hd.all v c ((ring.zip (rt1 ring)).map stp)=c'
 have hcomp:=zcD (nl:=1) (cap:=[]) (fi:=fSeq zbf (gv 3)) (ft:=ftN 0) (fe:=fC (zab (gv 0) lNil) tupD) (r:=[some (TQ S c n),some (.tup (ring.map prD)),some (QS S v),some (.lst ((MR S c' n).map D.lst)),y4,y5,y6]) (l:=List.range n) (fun h=>.lst ((List.range n).map fun x=>QS S (c' h x))) (fun h=>TF ((List.range n).map fun x=>low ((c' h x:Nat):Int) S)) (zcA (d:=.lst ((MR S c' n).map D.lst)) rfl (by
  show some (List.map D.lst _)=_
  rw [List.map_map]; rfl)) (by simp; omega) fun h _=>⟨[some (.lst ((List.range n).map fun x=>QS S (c' h x)))],rfl,zbs (zad (d:=.lst ((List.range n).map fun x=>QS S (c' h x))) rfl zaj) (by
   rw [e_tupL]
   show _=some (D.tup (List.map FR _))
   rw [List.map_map]; rfl)⟩
 exact zav (zaA (zbs (zad hcomp zaj) rfl))
end
end Law
end
section
set_option exponentiation.threshold 3000
namespace Law
open PySem PyProof.Rows L2 DL Fq
structure Tc (S n:Nat) (c:Nat->Nat->Nat):Prop where
 pos:0 < S
 lt:S<=400
 col:∀x,x < n->((List.range n).map fun h=>c h x).sum=S
 out:∀h x,¬ (h < n/\x < n)->c h x=0
section
variable {rows:List (List Nat)} {n S v:Nat} {c:Nat->Nat->Nat}
theorem Tc.le (t:Tc S n c) (h x:Nat):c h x<=S:=by
 by_cases z:h < n/\x < n
 ·rw [<-t.col x z.2]
  exact zj5 (f:=fun h=>c h x) (List.mem_range.mpr z.1)
 ·rw [t.out h x z]; omega
theorem Tc.bd (t:Tc S n c) (h x:Nat):Bd 40 (low ((c h x:Nat):Int) S):=by
 have h1:=t.le h x
 have h2:=t.lt
 have:(400:Nat) < 2 ^ 40:=by decide
 exact bdN t.pos (by omega) (by omega)
noncomputable abbrev tc (S:Nat) (c:Nat->Nat->Nat):Nat->Nat->Int × Nat:=fun h x=>low ((c h x:Nat):Int) S
theorem Tc.tok (t:Tc S n c):Tok (tc S c) n:=fun h _ x _=>(t.bd h x).mono (by omega)
theorem zmY {z:Nat} (hS:0 < S) (h:0 < (low ((z:Nat):Int) S).1):0 < z:=by
 apply Nat.pos_of_ne_zero
 intro e
 rw [e,zk7 hS] at h
 exact absurd h (by decide)
theorem zpp {a b:Nat} (hS:0 < S) (h:low ((a:Nat):Int) S=low ((b:Nat):Int) S):a=b:=by
 have h1:(low (a:Int) S).1 * (S:Int)=(a:Int) * ((low (a:Int) S).2:Int):=zbu _ S
 have h2:(low (b:Int) S).1 * (S:Int)=(b:Int) * ((low (b:Int) S).2:Int):=zbu _ S
 have p:=zb9 (a:Int) hS
 rw [<-h] at h2
 rw [h1] at h2
 have:=Int.eq_of_mul_eq_mul_right (by omega) h2
 omega
theorem zhq (t:Tc S n c) (hn7:n<=7):zbR [TQ S c n,nD n,nD n]=.ok (.bl true):=by
 refine zaD (B:=zbS) (n:=4) ?_
 unfold zbS
 have hne:=zkV n n
 rw [decide_eq_true rfl] at hne
 refine (zae ((if_f ?_).trans (e_skip _))).trans ?_
 ·rw [or_f (zdw (b:=true) (za7 (zjM (a:=TQ S c n) (d:=.bl true) rfl rfl) rfl))]
  exact zaz (zaf (a:=nD n) (b:=nD n) (zbs (zad (d:=TQ S c n) rfl zaj) (by rw [zdL,List.length_range])) rfl hne)
 have lp:∀(l:List Nat) (x:Option D),∃y,forF (ftN 3) zc7 (l.map fun h=>TF ((List.range n).map (tc S c h))) [some (TQ S c n),some (nD n),some (nD n),x]=.nx [some (TQ S c n),some (nD n),some (nD n),y]:=by
  intro l
  induction l with
  | nil=>exact fun x=>⟨x,zaS⟩
  | cons h l ih=>
   intro x
   obtain ⟨y,hy⟩:=ih (some (TF ((List.range n).map (tc S c h))))
   refine ⟨y,?_⟩
   rw [List.map_cons,<-hy]
   refine zbe (r1:=[some (TQ S c n),some (nD n),some (nD n),some (TF ((List.range n).map (tc S c h)))]) rfl ?_
   refine zae ((if_f ?_).trans (e_skip _))
   rw [or_f (zdw (b:=true) (za7 (zjM (a:=TF ((List.range n).map (tc S c h))) (d:=.bl true) rfl rfl) rfl))]
   rw [or_f (zaz (zaf (a:=nD n) (b:=nD n) (zbs (zad (d:=TF ((List.range n).map (tc S c h))) rfl zaj) (by rw [zdL,List.length_map,List.length_range])) rfl hne))]
   refine zdw (b:=true) (za7 (d:=.bl true) (zbs (zad (zcD (l:=(List.range n).map (tc S c h)) FR (fun _=>.bl true) (zcA (d:=TF ((List.range n).map (tc S c h))) rfl rfl) (by simp; omega) fun q hq=>⟨[some (FR q)],rfl,?_⟩) zaj) ?_) rfl)
   ·obtain ⟨x,hx,rfl⟩:=List.mem_map.mp hq
    exact zak (zad (d:=FR (tc S c h x)) rfl zaj) (zmv (t.bd h x) (zii _ t.pos) (by omega))
   ·have:=ztm (fun _:Int × Nat=>true) ((List.range n).map (tc S c h))
    rw [List.all_eq_true.mpr (fun _ _=>rfl)] at this
    exact this
 obtain ⟨y,hy⟩:=lp (List.range n) none
 refine (zae ((zaQ (zcA (d:=TQ S c n) rfl rfl)).trans hy)).trans ?_
 exact zav (zaA (d:=.bl true) rfl)
theorem zoG {f f':Nat->Nat} {row:List Nat} (hS:0 < S) (hS2:S < 2 ^ 80) (hr:∀t∈row,t < n) (hl:row.length<=1000) (h1:(row.map f).sum < 2 ^ 80) (h2:(row.map f').sum < 2 ^ 80) (hk:∀k,((row.take k).map f').sum<=((row.take k).map f).sum) :
  zb2 [TN row,TF ((List.range n).map fun x=>low ((f x:Nat):Int) S),TF ((List.range n).map fun x=>low ((f' x:Nat):Int) S)]=.ok (.bl true):=by
 have s1:∀x,x < ((List.range n).map fun x=>low ((f x:Nat):Int) S).length->shOf ((List.range n).map fun x=>low ((f x:Nat):Int) S) x=low ((f x:Nat):Int) S:=fun x hx=>sh_q (by simpa using hx)
 have s2:∀x,x < ((List.range n).map fun x=>low ((f' x:Nat):Int) S).length->shOf ((List.range n).map fun x=>low ((f' x:Nat):Int) S) x=low ((f' x:Nat):Int) S:=fun x hx=>sh_q (by simpa using hx)
 have r1:=znS hS hS2 s1 (fun t ht=>by simpa using hr t ht) h1 hl
 have r2:=znS hS hS2 s2 (fun t ht=>by simpa using hr t ht) h2 hl
 generalize hsh:(List.range n).map (fun x=>low ((f x:Nat):Int) S)=sh at *
 generalize hsh':(List.range n).map (fun x=>low ((f' x:Nat):Int) S)=sh' at *
 have l1:sh.length=n:=by rw [<-hsh]; simp
 have l2:sh'.length=n:=by rw [<-hsh']; simp
 have q1:∀t∈row,shOf sh t=low ((f t:Nat):Int) S:=fun t ht=>s1 t (by rw [l1]; exact hr t ht)
 have q2:∀t∈row,shOf sh' t=low ((f' t:Nat):Int) S:=fun t ht=>s2 t (by rw [l2]; exact hr t ht)
 refine zaD (B:=zb4) (n:=5) ?_
 unfold zb4
 refine (zae (zaq (zak (zad (d:=TN row) rfl (zad (d:=TF sh) rfl zaj)) r1))).trans ?_
 refine (zae (zaq (zak (zad (d:=TN row) rfl (zad (d:=TF sh') rfl zaj)) r2))).trans ?_
 have e:zl0 (zdk (shOf sh) (low ((0:Nat):Int) S) row) (zdk (shOf sh') (low ((0:Nat):Int) S) row)=false:=
  zjh hS (ca:=f) (cb:=f') row _ _ 0 0 (W.low hS) (W.low hS) (fun x hx=>by rw [q1 x hx]; exact W.low hS) (fun x hx=>by rw [q2 x hx]; exact W.low hS) fun k=>by simpa using hk k
 have:=zlL (F:=zcy) (fa:=gv 3) (fb:=gv 4) (r:=[some (TN row),some (TF sh),some (TF sh'),some (LF (zdk (shOf sh) (low ((0:Nat):Int) S) row)),some (LF (zdk (shOf sh') (low ((0:Nat):Int) S) row))]) rfl rfl (by rw [zhR]; exact hl) fun a ha b hb=>by
  obtain ⟨s,rfl,hs⟩:=zl3 hS row 0 q1 a ha
  obtain ⟨s',rfl,hs'⟩:=zl3 hS row 0 q2 b hb
  exact zhp (k:=80) (l:=80) (bdN hS hS2 (by omega)) (bdN hS hS2 (by omega)) (by omega) (by omega)
 rw [e] at this
 exact zav (zaA this)
theorem zrM (R:Sq rows n) {E:Nat->List Nat} (g:Gf E n) (hC:Co E n=[]):∀x,x < n->∀y∈E x,hts E n x + 1<=hts E n y:=by
 have hn7:=R.n7
 obtain ⟨d,hd⟩:=Gr.rank 63 (List.range n) (by simp; omega) hC
 have hd1:∀x,x < n->∀y∈E x,d y < d x:=fun x hx y hy=>hd x (List.mem_range.mpr hx) y hy (List.mem_range.mpr (g.lt x hx y hy))
 obtain ⟨b,hb,hbn⟩:=Gr.order_of g.lt hd1
 have V:=Gr.Va.all hb n 0 (fun _=>0) ⟨fun _ _ _ _ z=>absurd z (by omega),fun _ z=>(nomatch z),fun _=>.inl rfl⟩
 rw [Nat.zero_add] at V
 exact fun x hx y hy=>V.v x hx y hy (hbn y (g.lt x hx y hy))
theorem ri_1 (R:Sq rows n) {t:Nat->Nat} (hu:∀x,x < n->∀y∈Eg rows (tc S c) n x,t x + 1<=t y) {h:Nat} (hh:h < n):∀(l pre:List Nat) (x5 x6 x7:Option D),pre++l=Wr rows h ->
  ∃y5 y6 y7,forF (ftT (zaC (ftN 5) (zaC (ftN 6) zc3))) zcW (enuD pre.length (l.map nD)) [some (WD rows),some (TQ S c n),some (TT' n t),some (nD h),some (TN (Wr rows h)),x5,x6,x7]=.nx [some (WD rows),some (TQ S c n),some (TT' n t),some (nD h),some (TN (Wr rows h)),y5,y6,y7]
 | [],pre,x5,x6,x7,_=>⟨x5,x6,x7,zaS⟩
 | x::l,pre,x5,x6,x7,e=>by
  have hlt:∀t∈Wr rows h,t < n:=fun t ht=>List.mem_range.mp ((R.row hh).mem_iff.mp ht)
  have hx:x < n:=hlt x (by rw [<-e]; simp)
  have nd:(Wr rows h).Nodup:=(R.row hh).nodup_iff.mpr List.nodup_range
  have step:∃z7,zcW [some (WD rows),some (TQ S c n),some (TT' n t),some (nD h),some (TN (Wr rows h)),some (nD pre.length),some (nD x),x7]=.nx [some (WD rows),some (TQ S c n),some (TT' n t),some (nD h),some (TN (Wr rows h)),some (nD pre.length),some (nD x),z7]:=by
   have ht:∀b:Bool,decide (0 < (tc S c h x).1)=b->(zaU (f2 (f2 (f2 (f2 (gv 1) (gv 3) ixA) (gv 6) ixA) (ci 0) ixA) (ci 0) gtI)) [some (WD rows),some (TQ S c n),some (TT' n t),some (nD h),some (TN (Wr rows h)),some (nD pre.length),some (nD x),x7]=.ok b:=fun b hb=>by
    refine zaz (zaf (b:=.int 0) (zaf (b:=.int 0) (zaf (zaf (a:=TQ S c n) (b:=nD h) rfl rfl (zil hh)) (b:=nD x) rfl (zgz (tb:=tc S c) hx)) rfl (zc2 _)) rfl ?_)
    show some (D.bl (decide ((0:Int) < (tc S c h x).1)))=_
    rw [<-hb]
   cases q:decide (0 < (tc S c h x).1) with
   | false=>exact ⟨x7,zae ((if_f (ht false q)).trans (e_skip _))⟩
   | true=>
    have hp:=of_decide_eq_true q
    have ix:(Wr rows h).idxOf x=pre.length:=by
     rw [<-e,List.idxOf_append,if_neg]
     ·simp
     ·intro z
      rw [<-e] at nd
      exact (List.nodup_append.mp nd).2.2 x z x List.mem_cons_self rfl
    obtain ⟨z7,hz⟩:=ri_0 (t:=t) (d0:=WD rows) (d1:=TQ S c n) (some (nD h)) (some (TN (Wr rows h))) (some (nD pre.length)) hx ((Wr rows h).take pre.length) x7 fun b hb=>by
     have hbn:=hlt b (List.mem_of_mem_take hb)
     refine ⟨hbn,hu x hx b (zkZ.mpr ⟨hbn,h,hh,hp,?_⟩)⟩
     rw [ix]; exact Et.idx_take hb
    exact ⟨z7,zae ((if_t (ht true q)).trans (zae ((zaQ (zcA (zqj (d:=TN (Wr rows h)) rfl rfl (zdh (i:=(pre.length:Int)) rfl) (zmo _ _)) rfl)).trans hz)))⟩
  obtain ⟨z7,hs⟩:=step
  obtain ⟨y5,y6,y7,ih⟩:=ri_1 R hu hh l (pre++[x]) (some (nD pre.length)) (some (nD x)) z7 (by rw [List.append_assoc]; exact e)
  rw [List.length_append,List.length_singleton] at ih
  refine ⟨y5,y6,y7,?_⟩
  rw [List.map_cons,show enuD pre.length (nD x::l.map nD)=D.tup [.int pre.length,nD x]::enuD (pre.length + 1) (l.map nD) from rfl,<-ih]
  exact zbe (r1:=[some (WD rows),some (TQ S c n),some (TT' n t),some (nD h),some (TN (Wr rows h)),some (nD pre.length),some (nD x),x7]) rfl hs
theorem zkl (R:Sq rows n) {t:Nat->Nat} (hu:∀x,x < n->∀y∈Eg rows (tc S c) n x,t x + 1<=t y):zcL [WD rows,TQ S c n,TT' n t]=.ok (.bl true):=by
 have lp:∀(l:List Nat) (x3 x4 x5 x6 x7:Option D),(∀h∈l,h < n)->∃y3 y4 y5 y6 y7,forF (ftT (zaC (ftN 3) (zaC (ftN 4) zc3))) zef (l.map fun h=>D.tup [nD h,TN (Wr rows h)]) [some (WD rows),some (TQ S c n),some (TT' n t),x3,x4,x5,x6,x7]=.nx [some (WD rows),some (TQ S c n),some (TT' n t),y3,y4,y5,y6,y7]:=by
  intro l
  induction l with
  | nil=>exact fun x3 x4 x5 x6 x7 _=>⟨x3,x4,x5,x6,x7,zaS⟩
  | cons h l ih=>
   intro x3 x4 x5 x6 x7 hl
   obtain ⟨z5,z6,z7,e1⟩:=ri_1 R hu (hl h List.mem_cons_self) (Wr rows h) [] x5 x6 x7 rfl
   obtain ⟨y3,y4,y5,y6,y7,e2⟩:=ih (some (nD h)) (some (TN (Wr rows h))) z5 z6 z7 fun z hz=>hl z (List.mem_cons_of_mem _ hz)
   refine ⟨y3,y4,y5,y6,y7,?_⟩
   rw [List.map_cons,<-e2]
   refine zbe (r1:=[some (WD rows),some (TQ S c n),some (TT' n t),some (nD h),some (TN (Wr rows h)),x5,x6,x7]) rfl ?_
   exact zae ((zaQ (zjd (d:=TN (Wr rows h)) rfl rfl)).trans e1)
 obtain ⟨y3,y4,y5,y6,y7,e⟩:=lp (List.range n) none none none none none fun h hh=>List.mem_range.mp hh
 refine zaD (B:=zcP) (n:=8) ?_
 unfold zcP
 refine (zae ((zaQ (by rw [<-zjc R]; exact zjd (d:=WD rows) rfl rfl)).trans e)).trans ?_
 exact zav (zaA (d:=.bl true) rfl)
end
end Law
end
section
set_option exponentiation.threshold 3000
namespace Law
open PySem PyProof.Rows L2 DL Fq
section
variable {rows:List (List Nat)} {n S v:Nat} {c:Nat->Nat->Nat}
noncomputable def cut (n:Nat) (c:Nat->Nat->Nat):Nat->Nat->Nat:=fun h x=>if h < n/\x < n then c h x else 0
theorem zje:TQ S c n=TQ S (cut n c) n:=by
 show D.tup _=D.tup _
 congr 1
 refine List.map_congr_left fun h hh=>?_
 show D.tup _=D.tup _
 congr 2
 refine List.map_congr_left fun x hx=>?_
 have:cut n c h x=c h x:=if_pos ⟨List.mem_range.mp hh,List.mem_range.mp hx⟩
 show low ((c h x:Nat):Int) S=low ((cut n c h x:Nat):Int) S
 rw [this]
theorem zoi (hS:0 < S) (h4:S<=400) (col:∀x,x < n->((List.range n).map fun h=>c h x).sum=S):Tc S n (cut n c):=⟨hS,h4,fun x hx=>by
 rw [<-col x hx]
 congr 1
 refine List.map_congr_left fun h hh=>?_
 exact if_pos ⟨List.mem_range.mp hh,hx⟩,fun h x z=>if_neg z⟩
theorem zjz {f:Nat × Nat->Nat} {l:List Nat}:((((l.zip (rt1 l)).map fun z=>(f z,z.1)).zip (rt1 ((l.zip (rt1 l)).map fun z=>(f z,z.1)))).map stp)=(l.zip (rt1 l)).map fun z=>(f z,z.1,z.2):=by
 obtain ⟨h1,h2⟩:=zhZ (l:=l) (r:=rt1 l) (zeo l).symm
 generalize hz:l.zip (rt1 l)=zs at *
 rw [zgE,List.zip_map,List.map_map]
 have e:∀zs ys:List (Nat × Nat),(zs.zip ys).map (stp ∘ Prod.map (fun z=>(f z,z.1)) fun z=>(f z,z.1))=List.zipWith (fun a t=>(f a,a.1,t)) zs (ys.map (·.1)):=by
  intro zs
  induction zs with
  | nil=>exact fun _=>rfl
  | cons a zs ih=>
   intro ys
   cases ys with
   | nil=>rfl
   | cons b ys=>rw [List.zip_cons_cons,List.map_cons,List.map_cons,List.zipWith_cons_cons,ih]; rfl
 rw [e,<-zgE,h1,<-h2,List.zipWith_map_right]
 have e2:∀zs:List (Nat × Nat),List.zipWith (fun (a:Nat × Nat) (b:Nat × Nat)=>(f a,a.1,b.2)) zs zs=zs.map fun z=>(f z,z.1,z.2):=by
  intro zs
  induction zs with
  | nil=>rfl
  | cons a zs ih=>rw [List.zipWith_cons_cons,List.map_cons,ih]
 exact e2 zs
theorem zoL (R:Sq rows n) (t:Tc S n c) {l:List Nat} (l1:l≠[]) (l2:l.Nodup) (l3:∀x∈l,x < n) (l4:∀z∈l.zip (rt1 l),z.2∈Eg rows (tc S c) n z.1) :
  2<=l.length/\l.length<=n/\∃v,0 < v/\v<=S/\v=Et.leastN (((l.zip (rt1 l)).map (toP rows (tc S c) n)).map fun p=>c p.1 p.2)/\Hd.Ok (Wr rows) n v c ((l.zip (rt1 l)).map fun z=>(hdR rows (tc S c) n z,z.1,z.2)):=by
 have hzl:(l.zip (rt1 l)).length=l.length:=by rw [List.length_zip,zeo,Nat.min_self]
 obtain ⟨h1,h2⟩:=zhZ (l:=l) (r:=rt1 l) (zeo l).symm
 refine ⟨?_,?_,_,?_,?_,rfl,?_⟩
 ·match l,l1,l4 with
  | [a],_,l4=>
   have:=(zhD (l4 (a,a) List.mem_cons_self)).2.2
   exact absurd this (Nat.lt_irrefl _)
  | a::b::l,_,_=>simp
 ·have:=Rg.zgN (m:=List.range n) l2 fun x hx=>List.mem_range.mpr (l3 x hx)
  simpa using this
 ·have hne:((l.zip (rt1 l)).map (toP rows (tc S c) n)).map (fun p=>c p.1 p.2)≠[]:=by
   intro e
   have:=congrArg List.length e
   rw [List.length_map,List.length_map,hzl] at this
   exact l1 (List.length_eq_zero_iff.mp this)
  obtain ⟨p,hp,e⟩:=List.mem_map.mp (Et.least_mem hne)
  obtain ⟨z,hz,rfl⟩:=List.mem_map.mp hp
  rw [<-e]
  exact zmY t.pos (zhD (l4 z hz)).2.1
 ·have hne:((l.zip (rt1 l)).map (toP rows (tc S c) n)).map (fun p=>c p.1 p.2)≠[]:=by
   intro e
   have:=congrArg List.length e
   rw [List.length_map,List.length_map,hzl] at this
   exact l1 (List.length_eq_zero_iff.mp this)
  obtain ⟨p,hp,e⟩:=List.mem_map.mp (Et.least_mem hne)
  rw [<-e]
  exact t.le _ _
 ·refine ⟨fun s hs=>?_,fun s hs=>?_,?_,fun s hs=>?_⟩
  ·obtain ⟨z,hz,rfl⟩:=List.mem_map.mp hs
   exact (zhD (l4 z hz)).1
  ·obtain ⟨z,hz,rfl⟩:=List.mem_map.mp hs
   exact (zhD (l4 z hz)).2.2
  ·rw [List.map_map]
   have:(l.zip (rt1 l)).map ((fun s:Hd.St=>s.2.1) ∘ fun z=>(hdR rows (tc S c) n z,z.1,z.2))=l:=h1
   rw [this]; exact l2
  ·obtain ⟨z,hz,rfl⟩:=List.mem_map.mp hs
   exact Et.least_le (List.mem_map.mpr ⟨toP rows (tc S c) n z,List.mem_map.mpr ⟨z,hz,rfl⟩,rfl⟩)
theorem zl5 (R:Sq rows n) (t:Tc S n c) {l:List Nat} {v:Nat} {f:Nat × Nat->Nat} (ok:Hd.Ok (Wr rows) n v c ((l.zip (rt1 l)).map fun z=>(f z,z.1,z.2))):∀x,x < n->((List.range n).map fun h=>Hd.all v c ((l.zip (rt1 l)).map fun z=>(f z,z.1,z.2)) h x).sum=S:=fun x hx=>by
 obtain ⟨h1,h2⟩:=zhZ (l:=l) (r:=rt1 l) (zeo l).symm
 have h:=Hd.all_col x _ c ok
 rw [List.map_map,List.map_map] at h
 have e1:(l.zip (rt1 l)).map ((fun s:Hd.St=>s.2.1) ∘ fun z=>(f z,z.1,z.2))=l:=h1
 have e2:(l.zip (rt1 l)).map ((fun s:Hd.St=>s.2.2) ∘ fun z=>(f z,z.1,z.2))=rt1 l:=h2
 rw [e1,e2,(zmw l).count_eq,t.col x hx] at h
 omega
theorem zjs (R:Sq rows n) (hc:∀h x,c h x<=S) (h4:S<=400) {h:Nat} (hh:h < n):((Wr rows h).map (c h)).sum < 2 ^ 80:=by
 have h1:=zeJ (f:=c h) (N:=S) (l:=Wr rows h) fun x _=>hc h x
 have h2:(Wr rows h).length<=7:=by rw [(R.row hh).length_eq,List.length_range]; exact R.n7
 have h3:(Wr rows h).length * S<=7 * 400:=Nat.mul_le_mul h2 h4
 have:(7 * 400:Nat) < 2 ^ 80:=by decide
 omega
theorem zrq (hS:0 < S):low ((S:Nat):Int) S=(1,1):=by rw [<-low1 1]; exact zdK hS (by decide) (by simp)
theorem sw_1 (t:Tc S n c) {d0 d1 d2 d3 d4:D} {x5 x6:Option D} {k:Nat} (hk:k < n):∀(l:List Nat) (A:Nat) (x9:Option D),A + (l.map fun h=>c h k).sum<=S ->
  ∃y9,forF (ftN 9) zcJ (l.map fun h=>TF ((List.range n).map (tc S c h))) [some d0,some d1,some d2,some d3,some d4,x5,x6,some (nD k),some (QS S A),x9]=.nx [some d0,some d1,some d2,some d3,some d4,x5,x6,some (nD k),some (QS S (A + (l.map fun h=>c h k).sum)),y9]
 | [],A,x9,_=>⟨x9,zaS⟩
 | h::l,A,x9,hA=>by
  rw [List.map_cons,List.sum_cons] at hA
  obtain ⟨y9,ih⟩:=sw_1 t (d0:=d0) (d1:=d1) (d2:=d2) (d3:=d3) (d4:=d4) (x5:=x5) (x6:=x6) hk l (A + c h k) (some (TF ((List.range n).map (tc S c h)))) (by omega)
  refine ⟨y9,?_⟩
  rw [List.map_cons,List.map_cons,List.sum_cons,<-Nat.add_assoc,<-ih]
  refine zbe (r1:=[some d0,some d1,some d2,some d3,some d4,x5,x6,some (nD k),some (QS S A),some (TF ((List.range n).map (tc S c h)))]) rfl ?_
  have hlt:ltI (.int (low ((c h k:Nat):Int) S).1) (.int 0)=some (.bl false):=by
   show some (D.bl (decide ((low ((c h k:Nat):Int) S).1 < 0)))=_
   rw [decide_eq_false (by
    have:0<=(low ((c h k:Nat):Int) S).1:=Int.ediv_nonneg (by omega) (by omega)
    omega)]
  have hix:=zgz (tb:=tc S c) (h:=h) hk
  refine (zae ((if_f (zaz (zaf (b:=.int 0) (zaf (b:=.int 0) (zaf (a:=TF ((List.range n).map (tc S c h))) (b:=nD k) rfl rfl hix) rfl (zc2 _)) rfl hlt))).trans (e_skip _))).trans ?_
  have b4:=t.lt
  have b5:(400:Nat) < 2 ^ 40:=by decide
  have hp:=zfE (a:=low ((A:Nat):Int) S) (b:=low ((c h k:Nat):Int) S) (k:=40) (l:=40) (bdN t.pos (by omega) (by omega)) (t.bd h k) (by omega)
  rw [zeA t.pos,<-Int.natCast_add] at hp
  exact zae (zaq (zak (zad (d:=QS S A) rfl (zad (zaf (a:=TF ((List.range n).map (tc S c h))) (b:=nD k) rfl rfl hix) zaj)) hp))
theorem sw_2 (t:Tc S n c) (hn7:n<=7) {d0 d1 d2 d3:D} {x5 x6:Option D}:∀(l:List Nat) (x7 x8 x9:Option D),(∀k∈l,k < n) ->
  ∃y7 y8 y9,forF (ftN 7) zcI (l.map nD) [some d0,some d1,some d2,some d3,some (TQ S c n),x5,x6,x7,x8,x9]=.nx [some d0,some d1,some d2,some d3,some (TQ S c n),x5,x6,y7,y8,y9]
 | [],x7,x8,x9,_=>⟨x7,x8,x9,zaS⟩
 | k::l,x7,x8,x9,hl=>by
  have hk:=hl k List.mem_cons_self
  obtain ⟨z9,e1⟩:=sw_1 t (d0:=d0) (d1:=d1) (d2:=d2) (d3:=d3) (d4:=TQ S c n) (x5:=x5) (x6:=x6) hk (List.range n) 0 x9 (by rw [t.col k hk]; omega)
  rw [t.col k hk,Nat.zero_add,show QS S S=FR (1,1) from congrArg FR (zrq t.pos),show QS S 0=FR (0,1) from congrArg FR (zk7 t.pos)] at e1
  obtain ⟨y7,y8,y9,e2⟩:=sw_2 t hn7 (d0:=d0) (d1:=d1) (d2:=d2) (d3:=d3) (x5:=x5) (x6:=x6) l (some (nD k)) (some (FR (1,1))) z9 fun z hz=>hl z (List.mem_cons_of_mem _ hz)
  refine ⟨y7,y8,y9,?_⟩
  rw [List.map_cons,<-e2]
  refine zbe (r1:=[some d0,some d1,some d2,some d3,some (TQ S c n),x5,x6,some (nD k),x8,x9]) rfl ?_
  refine (zae (zaq (d:=FR (0,1)) (ze6 (zad (d:=.int 0) rfl (zad (d:=.int 1) rfl zaj)) (by simp)))).trans ?_
  refine (zae ((zaQ (zcA (d:=TQ S c n) rfl rfl)).trans e1)).trans ?_
  have hne:=zri (1,1) (1,1)
  rw [decide_eq_true rfl] at hne
  exact zae ((if_f (zaz (zaf (a:=FR (1,1)) (b:=FR (1,1)) rfl (ze6 (zad (d:=.int 1) rfl (zad (d:=.int 1) rfl zaj)) (by simp)) hne))).trans (e_skip _))
theorem sw_0 {c':Nat->Nat->Nat} (R:Sq rows n) (t:Tc S n c) (hc':∀h x,h < n->x < n->c' h x<=S) (hp:∀h,h < n->∀k,(((Wr rows h).take k).map (c h)).sum<=(((Wr rows h).take k).map (c' h)).sum) {d2 d3:D} {x7 x8 x9:Option D}:∀(l:List Nat) (x5 x6:Option D),(∀h∈l,h < n) ->
  ∃y5 y6,forF (ftT (zaC (ftN 5) (zaC (ftN 6) zc3))) zcK (l.map fun h=>D.tup [nD h,TN (Wr rows h)]) [some (WD rows),some (TQ S c n),some d2,some d3,some (TQ S c' n),x5,x6,x7,x8,x9]=.nx [some (WD rows),some (TQ S c n),some d2,some d3,some (TQ S c' n),y5,y6,x7,x8,x9]
 | [],x5,x6,_=>⟨x5,x6,zaS⟩
 | h::l,x5,x6,hl=>by
  have hh:=hl h List.mem_cons_self
  obtain ⟨y5,y6,ih⟩:=sw_0 R t hc' hp (d2:=d2) (d3:=d3) (x7:=x7) (x8:=x8) (x9:=x9) l (some (nD h)) (some (TN (Wr rows h))) fun z hz=>hl z (List.mem_cons_of_mem _ hz)
  refine ⟨y5,y6,?_⟩
  rw [List.map_cons,<-ih]
  refine zbe (r1:=[some (WD rows),some (TQ S c n),some d2,some d3,some (TQ S c' n),some (nD h),some (TN (Wr rows h)),x7,x8,x9]) rfl ?_
  have b4:=t.lt
  have b5:(400:Nat) < 2 ^ 80:=by decide
  have hlt:∀t∈Wr rows h,t < n:=fun t ht=>List.mem_range.mp ((R.row hh).mem_iff.mp ht)
  have hlen:(Wr rows h).length<=7:=by rw [(R.row hh).length_eq,List.length_range]; exact R.n7
  have s1:((Wr rows h).map (c' h)).sum < 2 ^ 80:=by
   have h1:=zeJ (f:=c' h) (N:=S) (l:=Wr rows h) fun x hx=>hc' h x hh (hlt x hx)
   have h3:(Wr rows h).length * S<=7 * 400:=Nat.mul_le_mul hlen b4
   have:(7 * 400:Nat) < 2 ^ 80:=by decide
   omega
  have hnl:=zoG (n:=n) (f:=c' h) (f':=c h) (row:=Wr rows h) t.pos (by omega) hlt (by omega) s1 (zjs R t.le b4 hh) (hp h hh)
  exact zae ((if_f (zdw (b:=true) (za7 (zak (zad (d:=TN (Wr rows h)) rfl (zad (zaf (a:=TQ S c' n) (b:=nD h) rfl rfl (zil hh)) (zad (zaf (a:=TQ S c n) (b:=nD h) rfl rfl (zil hh)) zaj))) hnl) rfl))).trans (e_skip _))
theorem zms (R:Sq rows n) (t:Tc S n c) (hC:Co (Eg rows (tc S c) n) n≠[]):∃(ring:List (Nat × Nat)) (c':Nat->Nat->Nat),Tc S n c'/\zbA [WD rows,TQ S c n]=.ok (.tup (ring.map prD))/\zbv [WD rows,TQ S c n,.tup (ring.map prD)]=.ok (TQ S c' n):=by
 have hn7:=R.n7
 have b4:=t.lt
 have b5:(4000:Nat) < 2 ^ 40:=by decide
 obtain ⟨l,l1,l2,l3,l4,l5⟩:=zh8 R t.tok hC
 obtain ⟨k2,kn,v,v0,vS,ve,ok⟩:=zoL R t l1 l2 l3 l4
 have hzl:(l.zip (rt1 l)).length=l.length:=by rw [List.length_zip,zeo,Nat.min_self]
 have hrl:((l.zip (rt1 l)).map (toP rows (tc S c) n)).length=l.length:=by rw [List.length_map,hzl]
 have hrlt:∀p∈(l.zip (rt1 l)).map (toP rows (tc S c) n),p.1 < n/\p.2 < n:=fun p hp=>by
  obtain ⟨z,hz,rfl⟩:=List.mem_map.mp hp
  exact ⟨(zhD (l4 z hz)).1,l3 z.1 (List.of_mem_zip hz).1⟩
 have hcan:=zoI (n:=n) (c:=c) t.pos (by omega) (fun h x=>by have:=t.le h x; omega) (ring:=(l.zip (rt1 l)).map (toP rows (tc S c) n)) (by
  intro e
  have:=congrArg List.length e
  rw [hrl,List.length_nil] at this
  omega) (by omega) hrlt
 rw [<-ve] at hcan
 have hst:(((l.zip (rt1 l)).map (toP rows (tc S c) n)).zip (rt1 ((l.zip (rt1 l)).map (toP rows (tc S c) n)))).map stp=(l.zip (rt1 l)).map fun z=>(hdR rows (tc S c) n z,z.1,z.2):=zjz (f:=hdR rows (tc S c) n)
 have hh:=zjy (W:=Wr rows) (n:=n) (c:=c) (v:=v) t.pos (by omega) hn7 (ring:=(l.zip (rt1 l)).map (toP rows (tc S c) n)) (by omega) (by omega) (fun p hp=>(hrlt p hp).2) (by rw [hst]; exact ok) (fun g x=>by
  have h1:=t.le g x
  have h2:l.length * v<=7 * 400:=Nat.mul_le_mul (by omega) (by omega)
  rw [hrl]; omega)
 rw [hst] at hh
 have hcol:=zl5 R t ok
 generalize hss:(l.zip (rt1 l)).map (fun z=>(hdR rows (tc S c) n z,z.1,z.2))=ss at *
 generalize hc':Hd.all v c ss=c' at *
 have t':=zoi t.pos b4 hcol
 have hle:∀h x,h < n->x < n->c' h x<=S:=fun h x h1 h2=>by
  rw [<-hcol x h2]
  exact zj5 (f:=fun h=>c' h x) (List.mem_range.mpr h1)
 have hpre:∀h,h < n->∀k,(((Wr rows h).take k).map (c h)).sum<=(((Wr rows h).take k).map (c' h)).sum:=fun h hh k=>by
  rw [<-hc']
  exact Hd.all_pre h k ((R.row hh).nodup_iff.mpr List.nodup_range) ss c ok
 have hne:tl S c' n≠tl S c n:=by
  intro e
  cases ss with
  | nil=>
   have:=congrArg List.length hss
   rw [List.length_map,hzl,List.length_nil] at this
   omega
  | cons s ss=>
   have hs:=ok.lt s List.mem_cons_self
   obtain ⟨k,hk⟩:=Hd.all_more ok ((R.row hs).nodup_iff.mpr List.nodup_range)
   rw [hc'] at hk
   have:((Wr rows s.1).take k).map (c' s.1)=((Wr rows s.1).take k).map (c s.1):=by
    refine List.map_congr_left fun x hx=>?_
    have hxn:x < n:=List.mem_range.mp ((R.row hs).mem_iff.mp (List.mem_of_mem_take hx))
    have e1:=congrArg (fun z=>z[s.1]?) e
    unfold tl at e1
    simp only [List.getElem?_map,List.getElem?_range hs,Option.map_some] at e1
    have e2:=congrArg (fun z=>z[x]?) (Option.some.inj e1)
    simp only [List.getElem?_map,List.getElem?_range hxn,Option.map_some] at e2
    exact zpp t.pos (Option.some.inj e2)
   rw [this] at hk
   omega
 refine ⟨(l.zip (rt1 l)).map (toP rows (tc S c) n),cut n c',t',l5,?_⟩
 generalize (l.zip (rt1 l)).map (toP rows (tc S c) n)=ring at *
 rw [<-zje]
 obtain ⟨y5,y6,e1⟩:=sw_0 R t hle hpre (d2:=.tup (ring.map prD)) (d3:=nD n) (x7:=none) (x8:=none) (x9:=none) (List.range n) none none fun h hh=>List.mem_range.mp hh
 obtain ⟨y7,y8,y9,e2⟩:=sw_2 t' hn7 (d0:=WD rows) (d1:=TQ S c n) (d2:=.tup (ring.map prD)) (d3:=nD n) (x5:=y5) (x6:=y6) (List.range n) none none none fun k hk=>List.mem_range.mp hk
 rw [<-zje] at e2
 refine zaD (B:=zbw) (n:=10) ?_
 unfold zbw
 refine (zae (zaq (d:=nD n) (zbs (zad (d:=TQ S c n) rfl zaj) (by rw [zdL,List.length_range])))).trans ?_
 refine (zae (zaq (d:=TQ S c' n) (zak (zad (d:=TQ S c n) rfl (zad (d:=.tup (ring.map prD)) rfl (zad (zak (zad (d:=TQ S c n) rfl (zad (d:=.tup (ring.map prD)) rfl zaj)) hcan) zaj))) hh))).trans ?_
 refine (zae ((if_f ?_).trans (e_skip _))).trans ?_
 ·have ht:=zhq t' hn7
  rw [<-zje] at ht
  rw [or_f (zdw (b:=true) (za7 (zak (zad (d:=TQ S c' n) rfl (zad (d:=nD n) rfl (zad (d:=nD n) rfl zaj))) ht) rfl))]
  have heq:=zpB (tl S c' n) (tl S c n)
  rw [decide_eq_false hne,<-zp3,<-zp3] at heq
  exact zaz (zaf (a:=TQ S c' n) (b:=TQ S c n) rfl rfl heq)
 refine (zae ((zaQ (by rw [<-zjc R]; exact zjd (d:=WD rows) rfl rfl)).trans e1)).trans ?_
 refine (zae ((zaQ (zct (zad (d:=nD n) rfl zaj) (zdu (by omega)))).trans e2)).trans ?_
 exact zav (zaA (d:=TQ S c' n) rfl)
end
end Law
end
section
set_option exponentiation.threshold 3000
namespace Law
open PySem PyProof.Rows L2 DL Fq
theorem turn (d0 d1:D) {rows:List (List Nat)} {n S:Nat} (R:Sq rows n):∀(l:List Nat) (c:Nat->Nat->Nat) (x5 x6 x7:Option D),Tc S n c ->
  forF (ftN 5) zha (l.map nD) [some d0,some d1,some (nD n),some (WD rows),some (TQ S c n),x5,x6,x7]=.rt (.bl true)\/∃y4 y5 y6 y7,forF (ftN 5) zha (l.map nD) [some d0,some d1,some (nD n),some (WD rows),some (TQ S c n),x5,x6,x7]=.nx [some d0,some d1,some (nD n),some (WD rows),y4,y5,y6,y7]
 | [],c,x5,x6,x7,_=>.inr ⟨_,x5,x6,x7,zaS⟩
 | k::l,c,x5,x6,x7,t=>by
  have g:Gf (Eg rows (tc S c) n) n:=zpN R
  have hs:=zfD R t.tok
  rw [List.map_cons]
  by_cases hC:Co (Eg rows (tc S c) n) n=[]
  ·left
   refine zrV (r1:=[some d0,some d1,some (nD n),some (WD rows),some (TQ S c n),some (nD k),x6,x7]) rfl ?_
   refine (zae (zaq (d:=TT' n (hts (Eg rows (tc S c) n) n)) (zak (zad (d:=WD rows) rfl (zad (d:=TQ S c n) rfl zaj)) (zfF g hs hC)))).trans ?_
   refine (zae (zaq (d:=.non) (zak (zad (d:=WD rows) rfl (zad (d:=TQ S c n) rfl zaj)) (zjv R t.tok hC)))).trans ?_
   refine (zae ((if_f (zaz (zaf (a:=.bl false) (b:=.bl true) (zaf (a:=TT' n (hts (Eg rows (tc S c) n) n)) (b:=.non) rfl rfl rfl) (zaf (a:=.non) (b:=.non) rfl rfl rfl) rfl))).trans (e_skip _))).trans ?_
   refine zav ((if_t (zaz (zaf (a:=.non) (b:=.non) rfl rfl rfl))).trans (zav (zaA ?_)))
   have heq:=znh n n
   rw [decide_eq_true rfl] at heq
   rw [znG (zaf (a:=nD n) (b:=nD n) (zbs (zad (d:=TT' n (hts (Eg rows (tc S c) n) n)) rfl zaj) (by rw [zdL,List.length_range])) rfl heq)]
   exact zak (zad (d:=WD rows) rfl (zad (d:=TQ S c n) rfl (zad (d:=TT' n (hts (Eg rows (tc S c) n) n)) rfl zaj))) (zkl R (zrM R g hC))
  ·obtain ⟨ring,c',t',h1,h2⟩:=zms R t hC
   have e:zha [some d0,some d1,some (nD n),some (WD rows),some (TQ S c n),some (nD k),x6,x7]=.nx [some d0,some d1,some (nD n),some (WD rows),some (TQ S c' n),some (nD k),some .non,some (.tup (ring.map prD))]:=by
    refine (zae (zaq (d:=.non) (zak (zad (d:=WD rows) rfl (zad (d:=TQ S c n) rfl zaj)) (zff g hs hC)))).trans ?_
    refine (zae (zaq (d:=.tup (ring.map prD)) (zak (zad (d:=WD rows) rfl (zad (d:=TQ S c n) rfl zaj)) h1))).trans ?_
    refine (zae ((if_f (zaz (zaf (a:=.bl true) (b:=.bl false) (zaf (a:=.non) (b:=.non) rfl rfl rfl) (zaf (a:=.tup (ring.map prD)) (b:=.non) rfl rfl rfl) rfl))).trans (e_skip _))).trans ?_
    refine (zae ((if_f (zaz (zaf (a:=.tup (ring.map prD)) (b:=.non) rfl rfl rfl))).trans (e_skip _))).trans ?_
    refine (zae (zaq (d:=TQ S c' n) (zak (zad (d:=WD rows) rfl (zad (d:=TQ S c n) rfl (zad (d:=.tup (ring.map prD)) rfl zaj))) h2))).trans ?_
    exact zae ((if_f (zaz (zaf (a:=TQ S c' n) (b:=.non) rfl rfl rfl))).trans (e_skip _))
   rw [zbe (r1:=[some d0,some d1,some (nD n),some (WD rows),some (TQ S c n),some (nD k),x6,x7]) rfl e]
   exact turn d0 d1 R l c' _ _ _ t'
theorem main (ns:List Int) (_:ns.length<=63):zse [.lst (ns.map .int)]=.ok (.bl true):=by
 obtain ⟨cs,cl,ca⟩:=zkr ns
 refine zaD (B:=znD) (n:=8) ?_
 unfold znD
 refine (zae (zaq (d:=IN (0::cs)) (zaf (a:=.lst [.int 0]) (zeb (zad (d:=.int 0) rfl zaj) (by simp)) (zak (zad (d:=IN ns) rfl (zad (d:=nD 20) rfl zaj)) ca) (catP (by simp [cl]))))).trans ?_
 have hcells:∃cells:List Int,(ifF q102 (zaU (f2 (fC (zab (gv 0) lNil) lenD) (ci 0) gtI)) (seqF (putF q102 1 (ci 0) (f2 (gv 0) (ci 0) ixA)) zal) zal) [some (IN ns),some (IN (0::cs)),none,none,none,none,none,none]=.nx [some (IN ns),some (IN cells),none,none,none,none,none,none]:=by
  have hg:=zpy ns.length 0
  cases ns with
  | nil=>
   rw [decide_eq_false (by simp)] at hg
   exact ⟨0::cs,(if_f (zaz (zaf (b:=nD 0) (zbs (zad (d:=IN []) rfl zaj) (zcC _ _)) rfl hg))).trans rfl⟩
  | cons a ns=>
   rw [decide_eq_true (by simp)] at hg
   refine ⟨a::cs,(if_t (zaz (zaf (b:=nD 0) (zbs (zad (d:=IN (a::ns)) rfl zaj) (zcC _ _)) rfl hg))).trans ?_⟩
   exact zae (ziS (d:=IN (0::cs)) (k:=nD 0) (v:=.int a) rfl (zaf (a:=IN (a::ns)) (b:=.int 0) rfl rfl (ixA_L0 _ _)) rfl (znN (by simp)))
 obtain ⟨cells,hcells⟩:=hcells
 refine (zae hcells).trans ?_
 clear hcells ca cl cs
 obtain ⟨c1,hc1⟩:=zfk cells 1 (by omega)
 have hm7:c1 % 7 < 7:=Nat.mod_lt _ (by omega)
 have hm6:c1 / 7 % 6 < 6:=Nat.mod_lt _ (by omega)
 generalize hn:1 + c1 % 7=n
 have hn1:1<=n:=by omega
 have hn7:n<=7:=by omega
 refine (zae (zaq (d:=nD n) (zaf (a:=nD 1) rfl (zaf (b:=nD 7) (zak (zad (d:=IN cells) rfl (zad (d:=nD 1) rfl zaj)) hc1) rfl (ziY (by omega))) (by rw [zed,hn])))).trans ?_
 have hrow:∀h:Nat,∃row:List Nat,h<=60->row.Perm (List.range n)/\∃c:Nat,zaE [IN cells,nD (2 + h)]=.ok (nD c)/\zbB [nD c,nD n]=.ok (TN row):=by
  intro h
  by_cases hh:h<=60
  ·obtain ⟨c,hc⟩:=zfk cells (2 + h) (by omega)
   obtain ⟨row,h1,h2⟩:=zkk c n (by omega)
   exact ⟨row,fun _=>⟨h1,c,hc,h2⟩⟩
  ·exact ⟨[],fun z=>absurd z hh⟩
 obtain ⟨g,hg⟩:=Classical.axiomOfChoice hrow
 have R:Sq ((List.range n).map g) n:=⟨hn1,hn7,by simp,fun row hr=>by
  obtain ⟨i,hi,rfl⟩:=List.mem_map.mp hr
  exact (hg i (by have:=List.mem_range.mp hi; omega)).1⟩
 have hcomp:=zcD (nl:=1) (cap:=[2,1]) (fi:=fRng rng1 (zab (gv 2) lNil)) (ft:=ftN 0) (fe:=zas (zab (zas (zab (gv 2) (zab (f2 (ci 2) (gv 0) addA) lNil)) [] zaE) (zab (gv 1) lNil)) [] zbB) (r:=[some (IN ns),some (IN cells),some (nD n),none,none,none,none,none]) (l:=List.range n) nD (fun h=>TN (g h)) (zct (zad (d:=nD n) rfl zaj) (zdu (by omega))) (by simp; omega) fun h hh=>⟨[some (nD h),some (nD n),some (IN cells)],rfl,by
  obtain ⟨_,c,h1,h2⟩:=hg h (by have:=List.mem_range.mp hh; omega)
  exact zak (zad (zak (zad (d:=IN cells) rfl (zad (zaf (a:=nD 2) (b:=nD h) rfl rfl (zed 2 h)) zaj)) h1) (zad (d:=nD n) rfl zaj)) h2⟩
 have hwd:tupD [.lst ((List.range n).map fun h=>TN (g h))]=some (WD ((List.range n).map g)):=by
  rw [e_tupL]
  show some (D.tup _)=some (D.tup (List.map TN _))
  rw [List.map_map]; rfl
 refine (zae (zaq (d:=WD ((List.range n).map g)) (zbs (zad hcomp zaj) hwd))).trans ?_
 generalize (List.range n).map g=rows at R
 clear hwd hcomp hg g hrow
 obtain ⟨qs,q1,q2,q3⟩:=zkm cells 9 n (1 + c1 / 7 % 6) (by omega) (by omega) (by omega) (by omega)
 have hb:=zj7 (qs.map (·.1)) fun x hx=>by
  obtain ⟨q,hq,rfl⟩:=List.mem_map.mp hx
  exact (q2 q hq).1
 rw [List.length_map,q1] at hb
 generalize hS:(qs.map (·.1)).sum=S at *
 have hS0:0 < S:=by omega
 have hperm:∀q∈qs,q.2.Perm (List.range n):=fun q hq=>(q2 q hq).2
 have P:Pts n (qs.map (wt S)):=⟨hn1,hn7,by rw [List.length_map]; omega,by rw [List.length_map]; omega,fun p hp=>by
  obtain ⟨q,hq,rfl⟩:=List.mem_map.mp hp
  have:=(q2 q hq).1
  exact ⟨Bd.low hS0 (by show S < 1024; omega) (by rw [Int.natAbs_natCast]; show q.1 < 1024; omega),hperm q hq⟩⟩
 have hmix:=zjx P
 rw [zrm hS0,zje] at hmix
 have t:Tc S n (cut n (cq qs)):=zoi hS0 (by omega) fun x hx=>by rw [zoj hx qs hperm,hS]
 refine (zae (zaq (d:=TQ S (cut n (cq qs)) n) (zak (zad (zak (zad (d:=IN cells) rfl (zad (d:=nD 9) rfl (zad (d:=nD n) rfl (zad (d:=nD (1 + c1 / 7 % 6)) (zaf (a:=nD 1) rfl (zaf (b:=nD 6) (zaf (b:=nD 7) (zak (zad (d:=IN cells) rfl (zad (d:=nD 1) rfl zaj)) hc1) rfl (zlA (by omega) (by omega))) rfl (ziY (by omega))) (zed _ _)) zaj)))) q3) (zad (d:=nD n) rfl zaj)) hmix))).trans ?_
 rcases turn (IN ns) (IN cells) R (List.range 6) (cut n (cq qs)) none none none t with e | ⟨y4,y5,y6,y7,e⟩
 ·exact zav ((zaQ (zct (zad (d:=nD 6) rfl zaj) (zdu (by omega)))).trans e)
 ·refine (zae ((zaQ (zct (zad (d:=nD 6) rfl zaj) (zdu (by omega)))).trans e)).trans ?_
  exact zav (zaA (d:=.bl true) rfl)
end Law
end
open PySem PySem.W PyProof.Rows
set_option maxRecDepth 100000 in
set_option maxHeartbeats 0 in
theorem PySem.Challenge.cw_ringtrade_k35_whole_heights_or_ring_holds : PySem.Challenge.rw_ringtrade_k35_whole_heights_or_ring.Holds := by
 w_on; o_law; k_head; (case hw=>w_witness2)
 k_fill
 refine DL.zts (l:=PySem.Challenge.rw_ringtrade_k35_whole_heights_or_ring) (k:=7) (x := "_law_script") (F:=Law.zse) rfl rfl ⟨rfl,by decide,by decide,rfl⟩ (fun w h Y=>PySem.W.kIn_of Y) Law.main ?C
 intro w mg fa h KX G hmg
 have T:Law.Txt (L2.KOf KX) mg:=by
  dsimp only [L2.KOf]
  refine ⟨?b_abs,?b_range,?b_tuple,?b_enumerate,?b_len,?b_sum,?b_list,?b_max,?b_zip,?b_isinstance,?b_bool,?b_int,?b_all,?b_any,?k_NOUGHT⟩
  case b_abs=>(refine' PySem.W.mg_none_of KX G ?z_b_abs; k_is)
  case b_range=>(refine' PySem.W.mg_none_of KX G ?z_b_range; k_is)
  case b_tuple=>(refine' PySem.W.mg_none_of KX G ?z_b_tuple; k_is)
  case b_enumerate=>(refine' PySem.W.mg_none_of KX G ?z_b_enumerate; k_is)
  case b_len=>(refine' PySem.W.mg_none_of KX G ?z_b_len; k_is)
  case b_sum=>(refine' PySem.W.mg_none_of KX G ?z_b_sum; k_is)
  case b_list=>(refine' PySem.W.mg_none_of KX G ?z_b_list; k_is)
  case b_max=>(refine' PySem.W.mg_none_of KX G ?z_b_max; k_is)
  case b_zip=>(refine' PySem.W.mg_none_of KX G ?z_b_zip; k_is)
  case b_isinstance=>(refine' PySem.W.mg_none_of KX G ?z_b_isinstance; k_is)
  case b_bool=>(refine' PySem.W.mg_none_of KX G ?z_b_bool; k_is)
  case b_int=>(refine' PySem.W.mg_none_of KX G ?z_b_int; k_is)
  case b_all=>(refine' PySem.W.mg_none_of KX G ?z_b_all; k_is)
  case b_any=>(refine' PySem.W.mg_none_of KX G ?z_b_any; k_is)
  case k_NOUGHT=>(refine' DL.zs5 KX G ?z_k_NOUGHT ?l_k_NOUGHT; (case z_k_NOUGHT=>k_is); (case l_k_NOUGHT=>k_is))
 have A__law_common:DL.DefAt (L2.KOf KX) mg "_law_common" Law.zd6:=by
  dsimp only [L2.KOf]
  refine' DL.ztr KX G ?a ?l ?c ?k
  (case a=>k_is)
  (case l=>k_is)
  (case c=>k_is)
  (case k=>k_is)
 have A__law_low:DL.DefAt (L2.KOf KX) mg "_law_low" Law.zfz:=by
  dsimp only [L2.KOf]
  refine' DL.ztr KX G ?a ?l ?c ?k
  (case a=>k_is)
  (case l=>k_is)
  (case c=>k_is)
  (case k=>k_is)
 have A__law_plus:DL.DefAt (L2.KOf KX) mg "_law_plus" Law.zeY:=by
  dsimp only [L2.KOf]
  refine' DL.ztr KX G ?a ?l ?c ?k
  (case a=>k_is)
  (case l=>k_is)
  (case c=>k_is)
  (case k=>k_is)
 have A__law_mixed:DL.DefAt (L2.KOf KX) mg "_law_mixed" Law.zcf:=by
  dsimp only [L2.KOf]
  refine' DL.ztr KX G ?a ?l ?c ?k
  (case a=>k_is)
  (case l=>k_is)
  (case c=>k_is)
  (case k=>k_is)
 have A__law_all:DL.DefAt (L2.KOf KX) mg "_law_all" Law.zfA:=by
  dsimp only [L2.KOf]
  refine' DL.ztr KX G ?a ?l ?c ?k
  (case a=>k_is)
  (case l=>k_is)
  (case c=>k_is)
  (case k=>k_is)
 have A__law_cell:DL.DefAt (L2.KOf KX) mg "_law_cell" Law.ze0:=by
  dsimp only [L2.KOf]
  refine' DL.ztr KX G ?a ?l ?c ?k
  (case a=>k_is)
  (case l=>k_is)
  (case c=>k_is)
  (case k=>k_is)
 have A__law_row:DL.DefAt (L2.KOf KX) mg "_law_row" Law.zfy:=by
  dsimp only [L2.KOf]
  refine' DL.ztr KX G ?a ?l ?c ?k
  (case a=>k_is)
  (case l=>k_is)
  (case c=>k_is)
  (case k=>k_is)
 have A__law_parts:DL.DefAt (L2.KOf KX) mg "_law_parts" Law.zce:=by
  dsimp only [L2.KOf]
  refine' DL.ztr KX G ?a ?l ?c ?k
  (case a=>k_is)
  (case l=>k_is)
  (case c=>k_is)
  (case k=>k_is)
 have A_less:DL.DefAt (L2.KOf KX) mg "less" Law.zka:=by
  dsimp only [L2.KOf]
  refine' DL.ztr KX G ?a ?l ?c ?k
  (case a=>k_is)
  (case l=>k_is)
  (case c=>k_is)
  (case k=>k_is)
 have A_likes:DL.DefAt (L2.KOf KX) mg "likes" Law.ziI:=by
  dsimp only [L2.KOf]
  refine' DL.ztr KX G ?a ?l ?c ?k
  (case a=>k_is)
  (case l=>k_is)
  (case c=>k_is)
  (case k=>k_is)
 have A_hands_that_rise:DL.DefAt (L2.KOf KX) mg "hands_that_rise" Law.zaH:=by
  dsimp only [L2.KOf]
  refine' DL.ztr KX G ?a ?l ?c ?k
  (case a=>k_is)
  (case l=>k_is)
  (case c=>k_is)
  (case k=>k_is)
 have A_steps_up:DL.DefAt (L2.KOf KX) mg "steps_up" Law.zdc:=by
  dsimp only [L2.KOf]
  refine' DL.ztr KX G ?a ?l ?c ?k
  (case a=>k_is)
  (case l=>k_is)
  (case c=>k_is)
  (case k=>k_is)
 have A_steps_within:DL.DefAt (L2.KOf KX) mg "steps_within" Law.zbD:=by
  dsimp only [L2.KOf]
  refine' DL.ztr KX G ?a ?l ?c ?k
  (case a=>k_is)
  (case l=>k_is)
  (case c=>k_is)
  (case k=>k_is)
 have A_places_that_go_on:DL.DefAt (L2.KOf KX) mg "places_that_go_on" Law.zaW:=by
  dsimp only [L2.KOf]
  refine' DL.ztr KX G ?a ?l ?c ?k
  (case a=>k_is)
  (case l=>k_is)
  (case c=>k_is)
  (case k=>k_is)
 have A_ring_of_steps:DL.DefAt (L2.KOf KX) mg "ring_of_steps" Law.zdo:=by
  dsimp only [L2.KOf]
  refine' DL.ztr KX G ?a ?l ?c ?k
  (case a=>k_is)
  (case l=>k_is)
  (case c=>k_is)
  (case k=>k_is)
 have A_raised:DL.DefAt (L2.KOf KX) mg "raised" Law.zhh:=by
  dsimp only [L2.KOf]
  refine' DL.ztr KX G ?a ?l ?c ?k
  (case a=>k_is)
  (case l=>k_is)
  (case c=>k_is)
  (case k=>k_is)
 have A_heights:DL.DefAt (L2.KOf KX) mg "heights" Law.zge:=by
  dsimp only [L2.KOf]
  refine' DL.ztr KX G ?a ?l ?c ?k
  (case a=>k_is)
  (case l=>k_is)
  (case c=>k_is)
  (case k=>k_is)
 have A_ones_behind:DL.DefAt (L2.KOf KX) mg "ones_behind" Law.zd5:=by
  dsimp only [L2.KOf]
  refine' DL.ztr KX G ?a ?l ?c ?k
  (case a=>k_is)
  (case l=>k_is)
  (case c=>k_is)
  (case k=>k_is)
 have A_share_ring:DL.DefAt (L2.KOf KX) mg "share_ring" Law.zes:=by
  dsimp only [L2.KOf]
  refine' DL.ztr KX G ?a ?l ?c ?k
  (case a=>k_is)
  (case l=>k_is)
  (case c=>k_is)
  (case k=>k_is)
 have A_greatest_divisor:DL.DefAt (L2.KOf KX) mg "greatest_divisor" Law.zcm:=by
  dsimp only [L2.KOf]
  refine' DL.ztr KX G ?a ?l ?c ?k
  (case a=>k_is)
  (case l=>k_is)
  (case c=>k_is)
  (case k=>k_is)
 have A_is_whole:DL.DefAt (L2.KOf KX) mg "is_whole" Law.zfw:=by
  dsimp only [L2.KOf]
  refine' DL.ztr KX G ?a ?l ?c ?k
  (case a=>k_is)
  (case l=>k_is)
  (case c=>k_is)
  (case k=>k_is)
 have A_fraction:DL.DefAt (L2.KOf KX) mg "fraction" Law.zfx:=by
  dsimp only [L2.KOf]
  refine' DL.ztr KX G ?a ?l ?c ?k
  (case a=>k_is)
  (case l=>k_is)
  (case c=>k_is)
  (case k=>k_is)
 have A_minus:DL.DefAt (L2.KOf KX) mg "minus" Law.ziH:=by
  dsimp only [L2.KOf]
  refine' DL.ztr KX G ?a ?l ?c ?k
  (case a=>k_is)
  (case l=>k_is)
  (case c=>k_is)
  (case k=>k_is)
 have A_plus:DL.DefAt (L2.KOf KX) mg "plus" Law.zj9:=by
  dsimp only [L2.KOf]
  refine' DL.ztr KX G ?a ?l ?c ?k
  (case a=>k_is)
  (case l=>k_is)
  (case c=>k_is)
  (case k=>k_is)
 have A_handed:DL.DefAt (L2.KOf KX) mg "handed" Law.zcX:=by
  dsimp only [L2.KOf]
  refine' DL.ztr KX G ?a ?l ?c ?k
  (case a=>k_is)
  (case l=>k_is)
  (case c=>k_is)
  (case k=>k_is)
 have A_least:DL.DefAt (L2.KOf KX) mg "least" Law.ziJ:=by
  dsimp only [L2.KOf]
  refine' DL.ztr KX G ?a ?l ?c ?k
  (case a=>k_is)
  (case l=>k_is)
  (case c=>k_is)
  (case k=>k_is)
 have A_can_hand:DL.DefAt (L2.KOf KX) mg "can_hand" Law.zdd:=by
  dsimp only [L2.KOf]
  refine' DL.ztr KX G ?a ?l ?c ?k
  (case a=>k_is)
  (case l=>k_is)
  (case c=>k_is)
  (case k=>k_is)
 have A__law_is_fraction:DL.DefAt (L2.KOf KX) mg "_law_is_fraction" Law.zcn:=by
  dsimp only [L2.KOf]
  refine' DL.ztr KX G ?a ?l ?c ?k
  (case a=>k_is)
  (case l=>k_is)
  (case c=>k_is)
  (case k=>k_is)
 have A__law_is_table:DL.DefAt (L2.KOf KX) mg "_law_is_table" Law.zbt:=by
  dsimp only [L2.KOf]
  refine' DL.ztr KX G ?a ?l ?c ?k
  (case a=>k_is)
  (case l=>k_is)
  (case c=>k_is)
  (case k=>k_is)
 have A__law_along:DL.DefAt (L2.KOf KX) mg "_law_along" Law.zeu:=by
  dsimp only [L2.KOf]
  refine' DL.ztr KX G ?a ?l ?c ?k
  (case a=>k_is)
  (case l=>k_is)
  (case c=>k_is)
  (case k=>k_is)
 have A__law_less:DL.DefAt (L2.KOf KX) mg "_law_less" Law.zeZ:=by
  dsimp only [L2.KOf]
  refine' DL.ztr KX G ?a ?l ?c ?k
  (case a=>k_is)
  (case l=>k_is)
  (case c=>k_is)
  (case k=>k_is)
 have A__law_no_less:DL.DefAt (L2.KOf KX) mg "_law_no_less" Law.zbE:=by
  dsimp only [L2.KOf]
  refine' DL.ztr KX G ?a ?l ?c ?k
  (case a=>k_is)
  (case l=>k_is)
  (case c=>k_is)
  (case k=>k_is)
 have A__law_step_well:DL.DefAt (L2.KOf KX) mg "_law_step_well" Law.zcY:=by
  dsimp only [L2.KOf]
  refine' DL.ztr KX G ?a ?l ?c ?k
  (case a=>k_is)
  (case l=>k_is)
  (case c=>k_is)
  (case k=>k_is)
 have A__law_rises:DL.DefAt (L2.KOf KX) mg "_law_rises" Law.zet:=by
  dsimp only [L2.KOf]
  refine' DL.ztr KX G ?a ?l ?c ?k
  (case a=>k_is)
  (case l=>k_is)
  (case c=>k_is)
  (case k=>k_is)
 have A_law:DL.DefAt (L2.KOf KX) mg "law" Law.ziK:=by
  dsimp only [L2.KOf]
  refine' DL.ztr KX G ?a ?l ?c ?k
  (case a=>k_is)
  (case l=>k_is)
  (case c=>k_is)
  (case k=>k_is)
 refine DL.ztq hmg A_law (fun _ _ _ _ _ _ us hl=>match us,hl with | [_],_=>rfl) fun f fd Fn base=>?_
 have C__law_common:=Law.zme (P:=PySem.Challenge.rw_ringtrade_k35_whole_heights_or_ring.prog) (w:=w) (base:=base) T A__law_common
 have C__law_low:=Law.zpg (P:=PySem.Challenge.rw_ringtrade_k35_whole_heights_or_ring.prog) (w:=w) (base:=base) T A__law_low C__law_common
 have C__law_plus:=Law.znZ (P:=PySem.Challenge.rw_ringtrade_k35_whole_heights_or_ring.prog) (w:=w) (base:=base) T A__law_plus C__law_low
 have C__law_mixed:=Law.zmR (P:=PySem.Challenge.rw_ringtrade_k35_whole_heights_or_ring.prog) (w:=w) (base:=base) T A__law_mixed C__law_plus
 have C__law_all:=Law.zph (P:=PySem.Challenge.rw_ringtrade_k35_whole_heights_or_ring.prog) (w:=w) (base:=base) T A__law_all
 have C__law_cell:=Law.zn1 (P:=PySem.Challenge.rw_ringtrade_k35_whole_heights_or_ring.prog) (w:=w) (base:=base) T A__law_cell
 have C__law_row:=Law.zpf (P:=PySem.Challenge.rw_ringtrade_k35_whole_heights_or_ring.prog) (w:=w) (base:=base) T A__law_row
 have C__law_parts:=Law.zmQ (P:=PySem.Challenge.rw_ringtrade_k35_whole_heights_or_ring.prog) (w:=w) (base:=base) T A__law_parts C__law_cell C__law_row C__law_low
 have C_less:=Law.zsX (P:=PySem.Challenge.rw_ringtrade_k35_whole_heights_or_ring.prog) (w:=w) (base:=base) T A_less
 have C_likes:=Law.zsj (P:=PySem.Challenge.rw_ringtrade_k35_whole_heights_or_ring.prog) (w:=w) (base:=base) T A_likes
 have C_hands_that_rise:=Law.ziV (P:=PySem.Challenge.rw_ringtrade_k35_whole_heights_or_ring.prog) (w:=w) (base:=base) T A_hands_that_rise C_less C_likes
 have C_steps_up:=Law.zpb (P:=PySem.Challenge.rw_ringtrade_k35_whole_heights_or_ring.prog) (w:=w) (base:=base) T A_steps_up C_hands_that_rise
 have C_steps_within:=Law.zkR (P:=PySem.Challenge.rw_ringtrade_k35_whole_heights_or_ring.prog) (w:=w) (base:=base) T A_steps_within
 have C_places_that_go_on:=Law.zhY (P:=PySem.Challenge.rw_ringtrade_k35_whole_heights_or_ring.prog) (w:=w) (base:=base) T A_places_that_go_on C_steps_within
 have C_ring_of_steps:=Law.zjU (P:=PySem.Challenge.rw_ringtrade_k35_whole_heights_or_ring.prog) (w:=w) (base:=base) T A_ring_of_steps C_places_that_go_on C_steps_within
 have C_raised:=Law.zra (P:=PySem.Challenge.rw_ringtrade_k35_whole_heights_or_ring.prog) (w:=w) (base:=base) T A_raised
 have C_heights:=Law.zpO (P:=PySem.Challenge.rw_ringtrade_k35_whole_heights_or_ring.prog) (w:=w) (base:=base) T A_heights C_steps_up C_ring_of_steps C_raised
 have C_ones_behind:=Law.zmd (P:=PySem.Challenge.rw_ringtrade_k35_whole_heights_or_ring.prog) (w:=w) (base:=base) T A_ones_behind
 have C_share_ring:=Law.zmO (P:=PySem.Challenge.rw_ringtrade_k35_whole_heights_or_ring.prog) (w:=w) (base:=base) T A_share_ring C_steps_up C_ring_of_steps C_ones_behind C_hands_that_rise
 have C_greatest_divisor:=Law.zid (P:=PySem.Challenge.rw_ringtrade_k35_whole_heights_or_ring.prog) (w:=w) (base:=base) T A_greatest_divisor
 have C_is_whole:=Law.zpc (P:=PySem.Challenge.rw_ringtrade_k35_whole_heights_or_ring.prog) (w:=w) (base:=base) T A_is_whole
 have C_fraction:=Law.zpd (P:=PySem.Challenge.rw_ringtrade_k35_whole_heights_or_ring.prog) (w:=w) (base:=base) T A_fraction C_is_whole C_greatest_divisor
 have C_minus:=Law.zsi (P:=PySem.Challenge.rw_ringtrade_k35_whole_heights_or_ring.prog) (w:=w) (base:=base) T A_minus C_fraction
 have C_plus:=Law.zsW (P:=PySem.Challenge.rw_ringtrade_k35_whole_heights_or_ring.prog) (w:=w) (base:=base) T A_plus C_fraction
 have C_handed:=Law.zrb (P:=PySem.Challenge.rw_ringtrade_k35_whole_heights_or_ring.prog) (w:=w) (base:=base) T A_handed C_ones_behind C_minus C_plus
 have C_least:=Law.zsk (P:=PySem.Challenge.rw_ringtrade_k35_whole_heights_or_ring.prog) (w:=w) (base:=base) T A_least C_less
 have C_can_hand:=Law.zpe (P:=PySem.Challenge.rw_ringtrade_k35_whole_heights_or_ring.prog) (w:=w) (base:=base) T A_can_hand C_least
 have C__law_is_fraction:=Law.zie (P:=PySem.Challenge.rw_ringtrade_k35_whole_heights_or_ring.prog) (w:=w) (base:=base) T A__law_is_fraction C__law_common
 have C__law_is_table:=Law.zjV (P:=PySem.Challenge.rw_ringtrade_k35_whole_heights_or_ring.prog) (w:=w) (base:=base) T A__law_is_table C__law_is_fraction
 have C__law_along:=Law.zmS (P:=PySem.Challenge.rw_ringtrade_k35_whole_heights_or_ring.prog) (w:=w) (base:=base) T A__law_along C__law_plus
 have C__law_less:=Law.zn0 (P:=PySem.Challenge.rw_ringtrade_k35_whole_heights_or_ring.prog) (w:=w) (base:=base) T A__law_less
 have C__law_no_less:=Law.zkS (P:=PySem.Challenge.rw_ringtrade_k35_whole_heights_or_ring.prog) (w:=w) (base:=base) T A__law_no_less C__law_along C__law_less
 have C__law_step_well:=Law.zjC (P:=PySem.Challenge.rw_ringtrade_k35_whole_heights_or_ring.prog) (w:=w) (base:=base) T A__law_step_well C_can_hand C_handed C__law_is_table C__law_no_less C__law_plus
 have C__law_rises:=Law.zmP (P:=PySem.Challenge.rw_ringtrade_k35_whole_heights_or_ring.prog) (w:=w) (base:=base) T A__law_rises
 exact Law.ztp T Fn C__law_all C__law_cell C__law_row C__law_parts C__law_mixed C_heights C_share_ring C__law_rises C__law_step_well
end
