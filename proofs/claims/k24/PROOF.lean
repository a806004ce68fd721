import PyProof.Rows.All
import Wide.All
import OpenK.AllK
import Wide.FinOn
import Lean
import PyProof.EqAt
import PyProof.EqKinds
import PyProof.TupleCall
import PyProof.Rows.SetFrom
import KE.KSortTup
import PyProof.Draws
import PyProof.EnumMake
import PyProof.ListRange
import PyProof.Rows.EnumRows
import PyProof.SetRoads
import PyProof.Rows.MinMaxN
import PyProof.Rows.MaxTwoN
import PySem.Challenge.RW_ringtrade_k24_lots_by_ownings
noncomputable section
set_option Elab.async false
set_option linter.all false
set_option maxRecDepth 100000
set_option maxHeartbeats 4000000
section
namespace L2
open PySem PySem.Spec PyProof.Rows
abbrev Key:=Sum Int Str
def zlw:Key->Value->Bool
 | .inl k,v=>Value.isInt k v
 | .inr x,v=>Value.isStrOf x v
def keyH (w:World):Key->Int
 | .inl k=>hashInt k
 | .inr x=>hashStr w x
theorem keyIs_shape:∀{k:Key} {v:Value},zlw k v=true->(∃i t,k=Sum.inl i/\v=Value.int i t)\/(∃x t,k=Sum.inr x/\v=Value.str x t)
 | .inl i,v,h=>by
  obtain ⟨t,e⟩:=Value.isInt_shape (k:=i) (v:=v) h
  exact .inl ⟨i,t,rfl,e⟩
 | .inr x,v,h=>by
  obtain ⟨t,e⟩:=Value.isStrOf_shape (x:=x) (v:=v) h
  exact .inr ⟨x,t,rfl,e⟩
theorem zm0 (i:Int) (t:Tok):zlw (.inl i) (.int i t)=true:=by simp [zlw,Value.isInt]
theorem zmZ (x:Str) (t:Tok):zlw (.inr x) (.str x t)=true:=by simp [zlw,Value.isStrOf]
theorem zsS (a b:Int):decide ((Sum.inl a:Key)=Sum.inl b)=(a == b):=by
 by_cases e:a=b
 ·subst e; simp
 ·have h:¬ (Sum.inl a:Key)=Sum.inl b:=fun q=>e (Sum.inl.inj q)
  rw [decide_eq_false h]
  exact (beq_eq_false_iff_ne.mpr e).symm
theorem zsP (a b:Str):decide ((Sum.inr a:Key)=Sum.inr b)=decide (a=b):=by
 by_cases e:a=b
 ·subst e; simp
 ·have h:¬ (Sum.inr a:Key)=Sum.inr b:=fun q=>e (Sum.inr.inj q)
  rw [decide_eq_false h,decide_eq_false e]
theorem zsR (a:Int) (b:Str):decide ((Sum.inl a:Key)=Sum.inr b)=false:=decide_eq_false (fun q=>nomatch q)
theorem zsQ (a:Str) (b:Int):decide ((Sum.inr a:Key)=Sum.inl b)=false:=decide_eq_false (fun q=>nomatch q)
def zbl (prog:Program) (w:World):PySem.KeyKind prog w Key where
 is:=zlw
 hash:=keyH w
 inj:=fun v a b ha hb=>by
  rcases keyIs_shape ha with ⟨i,t,rfl,rfl⟩ | ⟨x,t,rfl,rfl⟩
  ·rcases keyIs_shape hb with ⟨j,u,rfl,e⟩ | ⟨y,u,rfl,e⟩
   ·injection e with e1 _; rw [e1]
   ·exact nomatch e
  ·rcases keyIs_shape hb with ⟨j,u,rfl,e⟩ | ⟨y,u,rfl,e⟩
   ·exact nomatch e
   ·injection e with e1 _; rw [e1]
 byValue:=fun k v h=>by
  rcases keyIs_shape h with ⟨i,t,rfl,rfl⟩ | ⟨x,t,rfl,rfl⟩ <;> rfl
 pyHash:=fun hv h=>by
  rcases keyIs_shape hv with ⟨i,t,rfl,rfl⟩ | ⟨x,t,rfl,rfl⟩
  ·exact wpAny_pyHash_int h
  ·exact wpAny_pyHash_str h
 eqBool:=fun hu hv h=>by
  rcases keyIs_shape hu with ⟨i,t,rfl,rfl⟩ | ⟨x,t,rfl,rfl⟩
  ·rcases keyIs_shape hv with ⟨j,u,rfl,rfl⟩ | ⟨y,u,rfl,rfl⟩
   ·rw [zsS] at h; exact wpAny_eqBool_int h
   ·rw [zsR] at h; exact SeqAt.EqAt.int_str i t y u _ _ _ _ h
  ·rcases keyIs_shape hv with ⟨j,u,rfl,rfl⟩ | ⟨y,u,rfl,rfl⟩
   ·rw [zsQ] at h; exact SeqAt.EqAt.str_int x t j u _ _ _ _ h
   ·rw [zsP] at h; exact wpAny_eqBool_str h
 «strs»:=fun k x t v h=>by
  rcases keyIs_shape h with ⟨i,u,rfl,e⟩ | ⟨y,u,rfl,e⟩
  ·exact nomatch e
  ·injection e with e1 _
   subst e1
   cases v <;> rfl
theorem zjK (prog:Program) (w:World) (i:Int) (t:Tok):(zbl prog w).is (.inl i) (.int i t)=true:=zm0 i t
theorem zjJ (prog:Program) (w:World) (x:Str) (t:Tok):(zbl prog w).is (.inr x) (.str x t)=true:=zmZ x t
inductive V where
 | non | bl (b:Bool) | int (i:Int) | str (x:Str) | byt (b:Array UInt8) | flt (b:UInt64) | ref (a:Addr) | ty (n:String)
 deriving DecidableEq
def RelV:V->Value->Prop
 | .non,u=>u=Value.none
 | .bl b,u=>u=Value.bool b
 | .int i,u=>∃t,u=Value.int i t
 | .str x,u=>∃t,u=Value.str x t
 | .byt b,u=>∃t,u=Value.bytes b t
 | .flt b,u=>∃t,u=Value.float b t
 | .ref a,u=>u=Value.ref a
 | .ty n,u=>u=Value.type n
abbrev Vals:List V->List Value->Prop:=Paired RelV
theorem Vals.length {xs:List V} {us:List Value} (r:Vals xs us):xs.length=us.length:=Paired.length r
theorem Vals.get:∀{xs:List V} {us:List Value} {i:Nat} {x:V},Vals xs us->xs[i]? = some x->∃u,us[i]? = some u/\RelV x u
 | _,_,_,_,.nil,e=>by simp at e
 | _,_,0,_,.cons r _,e=>by simp at e; subst e; exact ⟨_,rfl,r⟩
 | _,_,i + 1,x,.cons _ t,e=>by
  obtain ⟨u,h1,h2⟩:=Vals.get (i:=i) (x:=x) t (by simpa using e)
  exact ⟨u,by simpa using h1,h2⟩
theorem Vals.set {x:V} {u:Value} (r:RelV x u):∀{xs:List V} {us:List Value} (i:Nat),Vals xs us->Vals (xs.set i x) (us.set i u)
 | _,_,_,.nil=>.nil
 | _,_,0,.cons _ t=>.cons r t
 | _,_,i + 1,.cons q t=>.cons q (Vals.set r i t)
theorem Vals.append {xs ys:List V} {us ws:List Value} (h:Vals xs us) (h':Vals ys ws):Vals (xs++ys) (us++ws):=by
 induction h with
 | nil=>exact h'
 | cons r _ ih=>exact .cons r ih
theorem Vals.take:∀{xs:List V} {us:List Value} (n:Nat),Vals xs us->Vals (xs.take n) (us.take n)
 | _,_,0,_=>.nil
 | _,_,_ + 1,.nil=>.nil
 | _,_,n + 1,.cons r t=>.cons r (Vals.take n t)
theorem Vals.drop:∀{xs:List V} {us:List Value} (n:Nat),Vals xs us->Vals (xs.drop n) (us.drop n)
 | _,_,0,r=>r
 | _,_,_ + 1,.nil=>.nil
 | _,_,n + 1,.cons _ t=>Vals.drop n t
def RelO:Option V->Option Value->Prop
 | some v,some u=>RelV v u
 | none,none=>True
 | _,_=>False
def KV {κ:Type}:List (κ × V)->List (κ × Value)->Prop:=Paired fun (p:κ × V) (q:κ × Value)=>p.1=q.1/\RelV p.2 q.2
def kV:Key->V
 | .inl i=>.int i
 | .inr x=>.str x
inductive HO where
 | lst (xs:List V)
 | tup (xs:List V)
 | dK (kz:List (Key × V)) | dT (kz:List (List Key × V))
 | set (S:Int->Bool) (n:Nat)
 | ins (C dx:Addr) (fs:List (Str × V))
 | own (x:Addr)
 | xd (fs:List (Str × V))
 | met (f x:Addr)
 | rng (lo hi:Int)
 | frz (o:Obj) (u:HO)
 | tbl (ps:Array Value)
 | ext (φ:Heap->Prop)
abbrev Hp:=Addr->Option HO
def upd (H:Hp) (a:Addr) (o:HO):Hp:=fun b=>if b=a then some o else H b
theorem zam {H:Hp} {a:Addr} {o:HO}:upd H a o a=some o:=by unfold upd; rw [if_pos rfl]
theorem zaq {H:Hp} {a b:Addr} {o:HO} (h:b≠a):upd H a o b=H b:=by unfold upd; rw [if_neg h]
theorem zug {H:Hp} {a b:Addr} {o u:HO} (h:H a=some o) (h':H b=some u) (d:o≠u):a≠b:=by
 intro e; subst e; rw [h] at h'; exact d (Option.some.inj h')
theorem zbL {H:Hp} {a b:Addr} {o:HO} (h:H a=some o) (h':H b=none):a≠b:=by
 intro e; subst e; rw [h] at h'; cases h'
section
variable (P:Program) (w:World)
def za3 (H:Hp) (h:Heap) (a:Addr):HO->Prop
 | .lst xs=>xs.length<=sizeLine/\∃(its:List Value) (n:Nat),Vals xs its/\h.get? a=some { cls:=.type "list",data:=.seq its.toArray n }
 | .tup xs=>xs.length<=sizeLine/\∃its:List Value,Vals xs its/\IsTup h a its.toArray/\∃o,h.get? a=some o/\o.dict=none
 | .dK kz=>kz.length<=sizeLine/\(a == sysModules)=false/\∃vs,KV kz vs/\h.DictOf (zbl P w) a vs
 | .dT kz=>kz.length<=sizeLine/\(a == sysModules)=false/\∃xs:List (List Key × Addr × Value),
   Paired (fun (p:List Key × V) (q:List Key × Addr × Value)=>p.1=q.1/\H q.2.1=some (.tup (p.1.map kV))/\RelV p.2 q.2.2) kz xs /\
   ∃o es ep,h.get? a=some o/\o.ExactDict/\o.data=.dict es ep/\es.toList=xs.map (entryOfKey (tupleKind (zbl P w)))/\(xs.map (·.1)).Nodup
 | .set S n=>h.SetOf (intKind P w) a S n
 | .ins C dx fs=>H dx=some (.own a)/\fs.length<=1000/\dx≠a/\h.get? a=some (W.instObj C dx) /\
   ∃mA,h.Ns1 dx mA/\(∀f,RelO (fs.lookup f) (mA f))/\PySem.Within mA (fs.map (·.1))
 | .own _=>∃o,h.get? a=some o
 | .xd fs=>∃mA,h.Ns1 a mA/\∀f,RelO (fs.lookup f) (mA f)
 | .rng lo hi=>∃t u v,h.get? a=some { cls:=.type "range",data:=.fields #[.int lo t,.int hi u,.int 1 v] }
 | .frz o u=>h.get? a=some o/\za3 H h a u
 | .tbl ps=>h.get? a=some { cls:=.none,data:=.fields ps }
 | .met f x=>h.get? a=some (W.methodObj (.ref f) (.ref x))
 | .ext φ=>φ h/\(∃o,h.get? a=some o)/\∀h1 h2:Heap,φ h1->(∀o,h1.get? a=some o->h2.get? a=some o)->φ h2
def HOk (H:Hp) (h:Heap):Prop:=∀a o,H a=some o->za3 P w H h a o
end
section
variable {P:Program} {w:World} {H H':Hp} {h h':Heap} {a:Addr} {o:HO}
theorem za3.lt (x:za3 P w H h a o):a < h.objs.size:=by
 cases o with
 | lst xs=>obtain ⟨_,_,_,_,e⟩:=x; exact Heap.lt_size e
 | tup xs=>obtain ⟨_,_,_,p,_⟩:=x; exact p.lt
 | dK kz=>obtain ⟨_,_,_,_,o,_,_,e,_⟩:=x; exact Heap.lt_size e
 | dT kz=>obtain ⟨_,_,_,_,o,_,_,e,_⟩:=x; exact Heap.lt_size e
 | set S n=>obtain ⟨o,_,_,_,e,_⟩:=x; exact Heap.lt_size e
 | ins C dx fs=>obtain ⟨_,_,_,e,_⟩:=x; exact Heap.lt_size e
 | own y=>obtain ⟨_,e⟩:=x; exact Heap.lt_size e
 | xd fs=>obtain ⟨_,⟨_,_,_,e,_⟩,_⟩:=x; exact Heap.lt_size e
 | rng lo hi=>obtain ⟨_,_,_,e⟩:=x; exact Heap.lt_size e
 | frz ob u=>obtain ⟨e,_⟩:=x; exact Heap.lt_size e
 | tbl ps=>exact Heap.lt_size (show h.get? a=some _ from x)
 | met f y=>exact Heap.lt_size (show h.get? a=some _ from x)
 | ext φ=>obtain ⟨_,⟨_,e⟩,_⟩:=x; exact Heap.lt_size e
theorem Paired.mapP {α β:Type} {F G:α->β->Prop} {l₁:List α} {l₂:List β} (h:Paired F l₁ l₂) (f:∀a b,F a b->G a b):Paired G l₁ l₂:=by
 induction h with
 | nil=>exact .nil
 | cons r _ ih=>exact .cons (f _ _ r) ih
theorem za3.stay (x:za3 P w H h a o) (k:∀b u,(b=a\/H b=some (.own a))->h.get? b=some u->h'.get? b=some u)
  (ho:∀b,H b=some (.own a)->H' b=some (.own a)) (ht:∀b xs,H b=some (.tup xs)->H' b=some (.tup xs)):za3 P w H' h' a o:=by
 induction o with
 | lst xs=>obtain ⟨z,its,n,r,e⟩:=x; exact ⟨z,its,n,r,k _ _ (.inl rfl) e⟩
 | tup xs=>obtain ⟨z,its,r,⟨ob,e,c⟩,ob2,e2,c2⟩:=x; exact ⟨z,its,r,⟨ob,k _ _ (.inl rfl) e,c⟩,ob2,k _ _ (.inl rfl) e2,c2⟩
 | dK kz=>obtain ⟨z,y,vs,r,ob,es,ep,e,c⟩:=x; exact ⟨z,y,vs,r,ob,es,ep,k _ _ (.inl rfl) e,c⟩
 | dT kz=>
  obtain ⟨z,y,xs,r,ob,es,ep,e,c⟩:=x
  exact ⟨z,y,xs,Paired.mapP r fun p q z=>⟨z.1,ht _ _ z.2.1,z.2.2⟩,ob,es,ep,k _ _ (.inl rfl) e,c⟩
 | set S n=>obtain ⟨ob,es,ep,t,e,c⟩:=x; exact ⟨ob,es,ep,t,k _ _ (.inl rfl) e,c⟩
 | ins C dx fs=>
  obtain ⟨d,z,ne,e,mA,⟨od,es,ep,e2,c⟩,r⟩:=x
  exact ⟨ho _ d,z,ne,k _ _ (.inl rfl) e,mA,⟨od,es,ep,k _ _ (.inr d) e2,c⟩,r⟩
 | own y=>obtain ⟨ob,e⟩:=x; exact ⟨ob,k _ _ (.inl rfl) e⟩
 | xd fs=>obtain ⟨mA,⟨od,es,ep,e,c⟩,r⟩:=x; exact ⟨mA,⟨od,es,ep,k _ _ (.inl rfl) e,c⟩,r⟩
 | rng lo hi=>obtain ⟨t,u,v,e⟩:=x; exact ⟨t,u,v,k _ _ (.inl rfl) e⟩
 | frz ob u ih=>obtain ⟨e,q⟩:=x; exact ⟨k _ _ (.inl rfl) e,ih q⟩
 | tbl ps=>
  have e:h.get? a=some { cls:=.none,data:=.fields ps }:=x
  show h'.get? a=some { cls:=.none,data:=.fields ps }
  exact k a _ (.inl rfl) e
 | met f y=>
  have e:h.get? a=some (W.methodObj (.ref f) (.ref y)):=x
  show h'.get? a=some (W.methodObj (.ref f) (.ref y))
  exact k a _ (.inl rfl) e
 | ext φ=>obtain ⟨p,⟨o,e⟩,st⟩:=x; exact ⟨st _ _ p fun o q=>k _ _ (.inl rfl) q,⟨o,k _ _ (.inl rfl) e⟩,st⟩
theorem HOk.lt (x:HOk P w H h) (e:H a=some o):a < h.objs.size:=(x a o e).lt
theorem HOk.fresh (x:HOk P w H h) (e:h.objs.size<=a):H a=none:=by
 cases q:H a with
 | none=>rfl
 | some u=>exact absurd (Nat.lt_of_lt_of_le (x.lt q) e) (Nat.lt_irrefl _)
theorem HOk.kept (x:HOk P w H h) (k:∀b u,h.get? b=some u->h'.get? b=some u):HOk P w H h':=fun a o e=>
 (x a o e).stay (fun b u _ q=>k b u q) (fun _ q=>q) fun _ _ q=>q
theorem HOk.laid (x:HOk P w H h) (k:∀b u,h.get? b=some u->h'.get? b=some u) (hp:h.objs.size<=a) (new:za3 P w (upd H a o) h' a o):HOk P w (upd H a o) h':=fun b u e=>by
 have hn:=x.fresh hp
 by_cases hb:b=a
 ·subst hb; rw [zam] at e; cases e; exact new
 ·rw [zaq hb] at e
  exact (x b u e).stay (fun c v _ q=>k c v q) (fun c q=>by rw [zaq (zbL q hn)]; exact q) fun c xs q=>by rw [zaq (zbL q hn)]; exact q
end
def Rd (H:Hp) (a:Addr) (u:HO):Prop:=H a=some u\/∃o,H a=some (.frz o u)
theorem Rd.ok {P:Program} {w:World} {H:Hp} {h:Heap} {a:Addr} {u:HO} (r:Rd H a u) (x:HOk P w H h):za3 P w H h a u:=by
 rcases r with r | ⟨o,r⟩
 ·exact x a u r
 ·obtain ⟨_,q⟩:=x a _ r
  exact q
def Mut:Option HO->Prop
 | some (.lst _)=>True
 | some (.dK _)=>True
 | some (.dT _)=>True
 | some (.set _ _)=>True
 | some (.ins _ _ _)=>True
 | some (.ext _)=>True
 | _=>False
section
variable {P:Program} {w:World} {H:Hp} {h h':Heap} {x e:Addr} {o':HO}
theorem HOk.write (ok:HOk P w H h) (mu:Mut (H x)) (he:e=x\/H e=some (.own x)) (k:∀b u,b≠e->h.get? b=some u->h'.get? b=some u) (heo:∃u,h'.get? e=some u)
  (new:za3 P w (upd H x o') h' x o'):HOk P w (upd H x o') h':=fun b u q=>by
 have nown:∀c y,H c=some (.own y)->c≠x:=fun c y r z=>by subst z; rw [r] at mu; exact mu
 have ntup:∀c xs,H c=some (.tup xs)->c≠x:=fun c xs r z=>by subst z; rw [r] at mu; exact mu
 by_cases hb:b=x
 ·subst hb; rw [zam] at q; cases q; exact new
 ·rw [zaq hb] at q
  by_cases hbe:b=e
  ·have q':H b=some (.own x):=by
    rcases he with z | z
    ·exact absurd (hbe.trans z) hb
    ·rw [hbe]; exact z
   rw [q] at q'; cases q'
   obtain ⟨v,hv⟩:=heo
   exact ⟨v,by rw [hbe]; exact hv⟩
  ·refine (ok b u q).stay (fun c v hc r=>k c v ?_ r) (fun c r=>by rw [zaq (nown c b r)]; exact r) fun c xs r=>by rw [zaq (ntup c xs r)]; exact r
   rcases hc with rfl | hc
   ·exact hbe
   ·rintro rfl
    rcases he with z | z
    ·exact nown c b hc z
    ·rw [hc] at z; cases z; exact hb rfl
end
structure Un (fs ex:List Addr) (H H':Hp) (h h':Heap):Prop where
 keep:∀b o,h.get? b=some o->H b=none->b∉fs->b∉ex->h'.get? b=some o
 slot:∀b o,h.get? b=some o->H b=none->b∈fs->b∉ex->∃sl,h'.get? b=some { o with slots:=sl }
 free:∀b o,h.get? b=some o->H b=none->b∉ex->H' b=none
 there:∀b o,h.get? b=some o->b∉ex->∃o',h'.get? b=some o'
 tups:∀b xs,H b=some (.tup xs)->H' b=some (.tup xs)
 frzs:∀b o u,H b=some (.frz o u)->H' b=some (.frz o u)
 tbls:∀b ps,H b=some (.tbl ps)->∃more,H' b=some (.tbl (ps++more))
section
variable {fs fs' ex ex':List Addr} {H H1 H2:Hp} {h h1 h2 h':Heap} {a x e:Addr} {o:HO}
theorem Un.any (u:Un fs ex H H1 h h1) {b:Addr} {ob:Obj} (q:h.get? b=some ob) (n:H b=none) (hx:b∉ex):∃sl,h1.get? b=some { ob with slots:=sl }:=by
 by_cases hb:b∈fs
 ·exact u.slot b ob q n hb hx
 ·exact ⟨ob.slots,u.keep b ob q n hb hx⟩
theorem Un.trans (a:Un fs ex H H1 h h1) (b:Un fs ex H1 H2 h1 h2):Un fs ex H H2 h h2 where
 keep:=fun c ob q n hc hx=>b.keep c ob (a.keep c ob q n hc hx) (a.free c ob q n hx) hc hx
 slot:=fun c ob q n hc hx=>by
  obtain ⟨sl,e1⟩:=a.slot c ob q n hc hx
  obtain ⟨sl',e2⟩:=b.slot c _ e1 (a.free c ob q n hx) hc hx
  exact ⟨sl',e2⟩
 free:=fun c ob q n hx=>by
  obtain ⟨o',e1⟩:=a.there c ob q hx
  exact b.free c o' e1 (a.free c ob q n hx) hx
 there:=fun c ob q hx=>by
  obtain ⟨o',e1⟩:=a.there c ob q hx
  exact b.there c o' e1 hx
 tups:=fun c xs q=>b.tups c xs (a.tups c xs q)
 frzs:=fun c ob xs q=>b.frzs c ob xs (a.frzs c ob xs q)
 tbls:=fun c ps q=>by
  obtain ⟨m1,e1⟩:=a.tbls c ps q
  obtain ⟨m2,e2⟩:=b.tbls c _ e1
  exact ⟨m1++m2,by rw [e2,Array.append_assoc]⟩
theorem Un.kept (k:∀b u,h.get? b=some u->h'.get? b=some u):Un fs ex H H h h':=
 ⟨fun b ob q _ _ _=>k b ob q,fun b ob q _ _ _=>⟨ob.slots,k b ob q⟩,fun _ _ _ n _=>n,fun b ob q _=>⟨ob,k b ob q⟩,fun _ _ q=>q,fun _ _ _ q=>q,fun _ ps q=>⟨#[],by rw [q]; simp⟩⟩
theorem Un.refl:Un fs ex H H h h:=Un.kept fun _ _ q=>q
theorem Un.laid (k:∀b u,h.get? b=some u->h'.get? b=some u) (hp:h.objs.size<=a) (hn:H a=none):Un fs ex H (upd H a o) h h' where
 keep:=fun b u q _ _ _=>k b u q
 slot:=fun b u q _ _ _=>⟨u.slots,k b u q⟩
 free:=fun b u q n _=>by rw [zaq (Nat.ne_of_lt (Nat.lt_of_lt_of_le (Heap.lt_size q) hp))]; exact n
 there:=fun b u q _=>⟨u,k b u q⟩
 tups:=fun b xs q=>by rw [zaq (zbL q hn)]; exact q
 frzs:=fun b u xs q=>by rw [zaq (zbL q hn)]; exact q
 tbls:=fun b ps q=>⟨#[],by rw [zaq (zbL q hn),q]; simp⟩
theorem Un.write (mu:Mut (H x)) (he:e=x\/H e=some (.own x)) (k:∀b u,b≠e->h.get? b=some u->h'.get? b=some u) (heo:∃u,h'.get? e=some u):Un fs ex H (upd H x o) h h':=by
 have hx:∀b,H b=none->b≠x:=fun b n z=>by subst z; rw [n] at mu; exact mu
 have hb:∀b,H b=none->b≠e:=fun b n z=>by
  subst z
  rcases he with r | r
  ·exact hx b n r
  ·rw [n] at r; cases r
 have hm:∀b u,H b=some u->¬ Mut (some u)->b≠x:=fun b u q nm z=>by subst z; rw [q] at mu; exact nm mu
 refine ⟨fun b u q n _ _=>k b u (hb b n) q,fun b u q n _ _=>⟨u.slots,k b u (hb b n) q⟩,fun b u q n _=>by rw [zaq (hx b n)]; exact n,fun b u q _=>?_,
  fun b xs q=>by rw [zaq (hm b _ q fun z=>z)]; exact q,fun b u xs q=>by rw [zaq (hm b _ q fun z=>z)]; exact q,fun b ps q=>⟨#[],by rw [zaq (hm b _ q fun z=>z),q]; simp⟩⟩
 by_cases hbe:b=e
 ·subst hbe; exact heo
 ·exact ⟨u,k b u hbe q⟩
theorem Un.mono (u:Un fs ex H H1 h h1) (hs:∀b∈fs,b∈fs') (hx:∀b∈ex,b∈ex'):Un fs' ex' H H1 h h1:=
 ⟨fun b ob q n hb he=>u.keep b ob q n (fun z=>hb (hs b z)) fun z=>he (hx b z),fun _ _ q n _ he=>u.any q n fun z=>he (hx _ z),fun b ob q n he=>u.free b ob q n fun z=>he (hx b z),fun b ob q he=>u.there b ob q fun z=>he (hx b z),u.tups,u.frzs,u.tbls⟩
end
def trk (h:Heap) (H:Hp):List Addr:=(List.range h.objs.size).filter fun a=>(H a).isSome
def hidT (h:Heap) (H:Hp):Heap:=W.hideAll h (trk h H)
theorem znc (h:Heap) (H:Hp):(hidT h H).objs.size=h.objs.size:=W.hideAll_size _ _
theorem zoJ {h:Heap} {H:Hp} {b:Addr} {o:Obj} (e:h.get? b=some o) (n:H b=none):(hidT h H).get? b=some o:=
 W.hideAll_get _ e fun hm=>by
  have q:(H b).isSome=true:=(List.mem_filter.mp hm).2
  rw [n] at q; simp at q
theorem zqQ {h:Heap} {H:Hp} {b:Addr} {o:Obj} (e:(hidT h H).get? b=some o):h.get? b=some o/\H b=none:=by
 have e':h.get? b=some o:=W.of_hideAll (trk h H) e
 refine ⟨e',?_⟩
 cases q:H b with
 | none=>rfl
 | some x=>
  have hm:b∈trk h H:=List.mem_filter.mpr ⟨List.mem_range.mpr (Heap.lt_size e'),by simp [q]⟩
  have z:(hidT h H).get? b=none:=W.hideAll_none (trk h H) hm
  rw [z] at e; cases e
def zg1 (g h:Heap) (L:Addr):List (Addr × Obj):=(List.range h.objs.size).filterMap fun a=>if a=L\/(g.get? a).isSome=true then none else (h.get? a).map fun o=>(a,o)
theorem zgF {g h:Heap} {L a:Addr} {o:Obj} (h1:a≠L) (h2:g.get? a=none) (h3:h.get? a=some o):(a,o)∈zg1 g h L:=
 List.mem_filterMap.mpr ⟨a,List.mem_range.mpr (Heap.lt_size h3),by simp [h1,h2,h3]⟩
theorem zhe {g h:Heap} {L:Addr} {p:Addr × Obj} (hp:p∈zg1 g h L):p.1≠L/\g.get? p.1=none/\h.get? p.1=some p.2:=by
 obtain ⟨b,_,e⟩:=List.mem_filterMap.mp hp
 split at e
 ·cases e
 ·rename_i hn
  cases q:h.get? b with
  | none=>rw [q] at e; simp at e
  | some u=>
   rw [q] at e
   simp only [Option.map_some,Option.some.injEq] at e
   subst e
   refine ⟨fun z=>hn (.inl z),?_,q⟩
   show g.get? b=none
   cases r:g.get? b with
   | none=>rfl
   | some v=>exact (hn (.inr (by simp [r]))).elim
def rest (g h:Heap) (L d:Addr):List (Addr × Obj):=(zg1 g h L).filter fun p=>decide (p.1≠d)
theorem zor {g h:Heap} {L:Addr}:News g L h (zg1 g h L):=fun p hp=>let ⟨a,b,c⟩:=zhe hp; ⟨c,a,b⟩
structure Mod (K:W.Frag) (mg:Str->Option Value) (base:Heap):Prop where
 kin:K.In base
 glob:base.Ns mainGlobals mg
 blt:∃mb,base.Ns builtinsNs mb/\∀x:Str,x≠"__name__"->mb x=bootBuiltins x
 nolimit:base.NoLimit
structure Cx where
 prog:Program
 w:World
 K:W.Frag
 mg:Str->Option Value
 base:Heap
 A:Around
 N:List Str
 s₀:Shared
 H₀:Hp
 env:Env
 outer:List Env
 stack:List Env
 ex:List Addr
 fn:Str->Bool
 calm:Bool
 pn:List (Addr × Obj)
 xe:Value->Shared->Prop
def frs (l:List Env):List Addr:=l.filterMap (·.frame)
abbrev Cx.fs (X:Cx):List Addr:=frs X.outer
def Vis (sc:Scope) (x:Str):Prop:=sc.names.lookup x=some .local\/sc.names.lookup x=some .cell\/sc.names.lookup x=some .free
def Loc (sc:Scope) (x:Str):Prop:=sc.names.lookup x=some .local\/sc.names.lookup x=some .cell
theorem lc_{sc:Scope}{x:Str}(h:(match sc.names.lookup x with|some .local=>true|some .cell=>true|_=>false)=true):Loc sc x:=by
 revert h;unfold Loc;split<;>intro h
 ·exact .inl (by assumption)
 ·exact .inr (by assumption)
 ·cases h
theorem vs_{sc:Scope}{x:Str}(h:(match sc.names.lookup x with|some .local=>true|some .cell=>true|some .free=>true|_=>false)=true):Vis sc x:=by
 revert h;unfold Vis;split<;>intro h
 ·exact .inl (by assumption)
 ·exact .inr (.inl (by assumption))
 ·exact .inr (.inr (by assumption))
 ·cases h
def Look (env:Env) (h:Heap) (m:Str->Option Value) (x:Str) (u:Value):Prop:=
 (env.kindOf x=some .local/\m x=some u)\/((env.kindOf x=some .cell\/env.kindOf x=some .free)/\∃c,env.cells.lookup x=some c/\h.IsCell c (some u))
structure Cx.Ok (X:Cx):Prop where
 mod:Mod X.K X.mg X.base
 kind:X.env.scope.kind=.function
 glob:X.env.globals=mainGlobals
 blt:X.env.builtins=builtinsNs
 above:X.s₀.heap.objs.size<=X.env.locals
 inj:∀x y c,X.env.cells.lookup x=some c->X.env.cells.lookup y=some c->x=y
 has:∀x,(X.env.kindOf x=some .cell\/X.env.kindOf x=some .free)->∃c,X.env.cells.lookup x=some c
 cab:∀x c,X.fn x=true->X.env.cells.lookup x=some c->X.s₀.heap.objs.size<=c
 hd:X.calm=true->X.A.handled=none
 frames:X.A.frames=some X.stack
 stk:X.stack=X.outer\/(X.stack=X.env::X.outer/\X.env.frame=some X.env.locals)
 exf:∀b∈X.ex,b≠X.env.locals/\∀x c,X.env.cells.lookup x=some c->c≠b
 bs:∀b o,X.base.get? b=some o->X.s₀.heap.get? b=some o/\X.H₀ b=none
 bsz:X.base.objs.size<=X.s₀.heap.objs.size
 noex:∀b o,X.base.get? b=some o->b∉X.ex
 exfs:∀b∈X.ex,b∉X.fs
 funs:X.s₀.heap.FunFrames X.base X.outer
 frf:∀b∈X.fs,X.H₀ b=none
structure Inv (X:Cx) (pz:List (Addr × Obj)) (σ:List (Option V)) (H:Hp) (s:Shared):Prop where
 ok:X.Ok
 os:s.os=X.s₀.os
 bare:AllBare s.gens
 base:Un X.fs X.ex X.H₀ H X.s₀.heap s.heap
 loc:∃m,s.heap.Ns X.env.locals m/\∀(i:Nat) (x:Str) (v:V),X.N[i]? = some x->σ[i]? = some (some v)->Vis X.env.scope x->∃u,RelV v u/\Look X.env s.heap m x u
 cell:∀x c,X.env.cells.lookup x=some c->∃v,s.heap.IsCell c v
 free:H X.env.locals=none
 freeC:∀x c,X.env.cells.lookup x=some c->H c=none
 pin:∀p∈X.pn++pz,s.heap.get? p.1=some p.2/\H p.1=none/\p.1≠X.env.locals/\p.1∉X.fs/\∀v,p.2.data≠.cell v
 hok:HOk X.prog X.w H s.heap
 len:σ.length=X.N.length
section
variable {X:Cx} {pz:List (Addr × Obj)} {σ:List (Option V)} {H H':Hp} {s:Shared} {h':Heap}
theorem Cx.Ok.nofr (ok:X.Ok) {b:Addr} {o:Obj} (e:X.base.get? b=some o):b∉X.fs:=fun hb=>by
 have:=(ok.funs.mem hb).1
 rw [e] at this; cases this
theorem Inv.bs (I:Inv X pz σ H s):∀b o,X.base.get? b=some o->s.heap.get? b=some o/\H b=none:=fun b o e=>
 ⟨I.base.keep b o (I.ok.bs b o e).1 (I.ok.bs b o e).2 (I.ok.nofr e) (I.ok.noex b o e),I.base.free b o (I.ok.bs b o e).1 (I.ok.bs b o e).2 (I.ok.noex b o e)⟩
theorem Inv.bk (I:Inv X pz σ H s):∀b o,X.base.get? b=some o->s.heap.get? b=some o:=fun b o e=>(I.bs b o e).1
theorem Inv.mod (I:Inv X pz σ H s):Mod X.K X.mg X.base:=I.ok.mod
theorem Inv.kIn (I:Inv X pz σ H s):X.K.In s.heap:=I.ok.mod.kin.keeps I.bk
theorem Inv.nolimit (I:Inv X pz σ H s):s.heap.NoLimit:=I.ok.mod.nolimit.keeps I.bk
theorem Inv.fr (I:Inv X pz σ H s):∃m,Fr X.base X.env.locals s.heap m:=
 let ⟨m,hn,_⟩:=I.loc
 ⟨m,hn,I.bk,Nat.le_trans I.ok.bsz I.ok.above⟩
theorem Inv.lt (I:Inv X pz σ H s):X.env.locals < s.heap.objs.size:=let ⟨_,hn,_⟩:=I.loc; hn.lt
theorem Inv.sz (I:Inv X pz σ H s):X.s₀.heap.objs.size<=s.heap.objs.size:=Nat.le_trans I.ok.above (Nat.le_of_lt I.lt)
theorem Inv.nofs (I:Inv X pz σ H s) {a:Addr} (h:s.heap.objs.size<=a):a∉X.fs:=fun hb=>by
 obtain ⟨_,o,ho,_⟩:=I.ok.funs.mem hb
 exact absurd (Nat.lt_of_lt_of_le (Heap.lt_size ho) (Nat.le_trans I.sz h)) (Nat.lt_irrefl _)
theorem Inv.cne (I:Inv X pz σ H s):∀x c,X.env.cells.lookup x=some c->c≠X.env.locals:=fun x c e z=>by
 obtain ⟨v,o,ho,hd⟩:=I.cell x c e
 obtain ⟨m,⟨o',es,ep,ho',hd',_⟩,_⟩:=I.loc
 rw [z,ho'] at ho; cases ho; rw [hd'] at hd; cases hd
theorem Inv.funs (I:Inv X pz σ H s):s.heap.FunFrames X.base X.outer:=by
 have all:∀(l:List Env),(∀b∈frs l,b∈X.fs)->X.s₀.heap.FunFrames X.base l->s.heap.FunFrames X.base l:=by
  intro l
  induction l with
  | nil=>intro _ _; trivial
  | cons env r ih=>
   intro hs hl
   obtain ⟨hk,⟨L,o,hf,hn,ho,hd⟩,hr⟩:=hl
   have hL:L∈X.fs:=hs L (by unfold frs; rw [List.filterMap_cons,hf]; exact List.mem_cons_self)
   obtain ⟨sl,e⟩:=I.base.slot L o ho (I.ok.frf L hL) hL fun z=>I.ok.exfs L z hL
   exact ⟨hk,⟨L,_,hf,hn,e,hd⟩,ih (fun b hb=>hs b (by unfold frs; rw [List.filterMap_cons,hf]; exact List.mem_cons_of_mem _ hb)) hr⟩
 exact all X.outer (fun _ hb=>hb) I.ok.funs
theorem Inv.stack (I:Inv X pz σ H s):s.heap.FunFrames X.base X.stack:=by
 rcases I.ok.stk with e | ⟨e,hf⟩
 ·rw [e]; exact I.funs
 ·rw [e]
  obtain ⟨m,hn,_⟩:=I.loc
  refine .cons (by rw [I.ok.kind]; decide) hf hn ?_ I.funs
  exact Heap.get?_none_of_le (Nat.le_trans I.ok.bsz I.ok.above)
theorem Inv.stkSub (I:Inv X pz σ H s):∀b∈frs X.stack,b∈X.env.locals::X.fs:=fun b hb=>by
 rcases I.ok.stk with e | ⟨e,hf⟩
 ·rw [e] at hb; exact List.mem_cons_of_mem _ hb
 ·rw [e] at hb
  unfold frs at hb
  rw [List.filterMap_cons,hf] at hb
  exact hb
theorem Inv.stkFree (I:Inv X pz σ H s):∀b∈frs X.stack,H b=none:=fun b hb=>by
 rcases List.mem_cons.mp (I.stkSub b hb) with e | hb
 ·rw [e]; exact I.free
 ·obtain ⟨_,o,ho,_⟩:=I.ok.funs.mem hb
  exact I.base.free b o ho (I.ok.frf b hb) fun z=>I.ok.exfs b z hb
theorem Inv.step {g':Array GenState} {t':Nat} {d':Drawn} {ch:List Addr} (I:Inv X pz σ H s)
  (hch:∀b∈ch,(b∈X.ex\/X.s₀.heap.objs.size<=b)/\b≠X.env.locals/\(∀x c,X.env.cells.lookup x=some c->c≠b)/\∀p∈X.pn++pz,p.1≠b)
  (keep:∀b o,b≠X.env.locals->b∉X.fs->b∉ch->s.heap.get? b=some o->H b=none->h'.get? b=some o)
  (slot:∀b o,b≠X.env.locals->b∈X.fs->b∉ch->s.heap.get? b=some o->H b=none->∃sl,h'.get? b=some { o with slots:=sl }) (free:∀b o,b∉ch->s.heap.get? b=some o->H b=none->H' b=none)
  (there:∀b o,b∉ch->s.heap.get? b=some o->∃o',h'.get? b=some o')
  (tups:∀b xs,H b=some (.tup xs)->H' b=some (.tup xs)) (frzs:∀b o u,H b=some (.frz o u)->H' b=some (.frz o u)) (tbls:∀b ps,H b=some (.tbl ps)->∃more,H' b=some (.tbl (ps++more)))
  (ns:∀m,s.heap.Ns X.env.locals m->h'.Ns X.env.locals m) (hok:HOk X.prog X.w H' h') (hg:AllBare g') :
  Inv X pz σ H' { s with heap:=h',gens:=g',drawn:=d',toks:=t' }:=by
 have neL:∀b o,X.s₀.heap.get? b=some o->b≠X.env.locals:=fun b o e=>Nat.ne_of_lt (Nat.lt_of_lt_of_le (Heap.lt_size e) I.ok.above)
 have neC:∀b o,X.s₀.heap.get? b=some o->b∉X.ex->b∉ch:=fun b o e hx hb=>by
  rcases (hch b hb).1 with z | z
  ·exact hx z
  ·exact absurd (Nat.lt_of_lt_of_le (Heap.lt_size e) z) (Nat.lt_irrefl _)
 have cellK:∀x c,X.env.cells.lookup x=some c->∀v,s.heap.IsCell c v->h'.IsCell c v:=fun x c e v ⟨o,ho,hd⟩=>by
  have nch:c∉ch:=fun z=>(hch c z).2.2.1 x c e rfl
  by_cases hc:c∈X.fs
  ·obtain ⟨sl,q⟩:=slot c o (I.cne x c e) hc nch ho (I.freeC x c e)
   exact ⟨_,q,hd⟩
  ·exact ⟨o,keep c o (I.cne x c e) hc nch ho (I.freeC x c e),hd⟩
 refine ⟨I.ok,I.os,hg,⟨fun b o e n hb hx=>?_,fun b o e n hb hx=>?_,fun b o e n hx=>?_,fun b o e hx=>?_,fun b xs e=>tups b xs (I.base.tups b xs e),fun b o xs e=>frzs b o xs (I.base.frzs b o xs e),fun b ps e=>?_⟩,?_,fun x c e=>?_,?_,fun x c e=>?_,fun p hp=>?_,hok,I.len⟩
 ·exact keep b o (neL b o e) hb (neC b o e hx) (I.base.keep b o e n hb hx) (I.base.free b o e n hx)
 ·obtain ⟨sl,e1⟩:=I.base.slot b o e n hb hx
  obtain ⟨sl',e2⟩:=slot b _ (neL b o e) hb (neC b o e hx) e1 (I.base.free b o e n hx)
  exact ⟨sl',e2⟩
 ·obtain ⟨o',e1⟩:=I.base.there b o e hx
  exact free b o' (neC b o e hx) e1 (I.base.free b o e n hx)
 ·obtain ⟨o',e1⟩:=I.base.there b o e hx
  exact there b o' (neC b o e hx) e1
 ·obtain ⟨m1,e1⟩:=I.base.tbls b ps e
  obtain ⟨m2,e2⟩:=tbls b _ e1
  exact ⟨m1++m2,by rw [e2,Array.append_assoc]⟩
 ·obtain ⟨m,hn,hl⟩:=I.loc
  refine ⟨m,ns m hn,fun i x v e1 e2 e3=>?_⟩
  obtain ⟨u,r,l⟩:=hl i x v e1 e2 e3
  refine ⟨u,r,?_⟩
  rcases l with l | ⟨k,c,e,z⟩
  ·exact .inl l
  ·exact .inr ⟨k,c,e,cellK x c e _ z⟩
 ·obtain ⟨v,z⟩:=I.cell x c e
  exact ⟨v,cellK x c e v z⟩
 ·obtain ⟨m,⟨o,_,_,ho,_⟩,_⟩:=I.loc
  exact free _ o (fun z=>(hch _ z).2.1 rfl) ho I.free
 ·obtain ⟨v,o,ho,hd⟩:=I.cell x c e
  exact free c o (fun z=>(hch c z).2.2.1 x c e rfl) ho (I.freeC x c e)
 ·obtain ⟨e,n,ne,nf,d⟩:=I.pin p hp
  have nch:p.1∉ch:=fun z=>(hch p.1 z).2.2.2 p hp rfl
  exact ⟨keep p.1 p.2 ne nf nch e n,free p.1 p.2 nch e n,ne,nf,d⟩
theorem Inv.un {t':Nat} (I:Inv X pz σ H s) (u:Un X.fs [] H H' s.heap h') (hok:HOk X.prog X.w H' h'):Inv X pz σ H' { s with heap:=h',toks:=t' }:=by
 obtain ⟨m,⟨o,es,ep,ho,r⟩,_⟩:=id I.loc
 obtain ⟨sl,hL⟩:=u.any ho I.free (by simp)
 exact I.step (g':=s.gens) (d':=s.drawn) (ch:=[]) (fun _ z=>nomatch z) (fun b o _ hb _ e n=>u.keep b o e n hb (by simp)) (fun b o _ hb _ e n=>u.slot b o e n hb (by simp)) (fun b o _ e n=>u.free b o e n (by simp)) (fun b o _ e=>u.there b o e (by simp)) u.tups u.frzs u.tbls (fun m' hm=>by
  obtain ⟨o',es',ep',ho',r'⟩:=hm
  rw [ho] at ho'; cases ho'
  exact ⟨_,es',ep',hL,r'⟩) hok I.bare
theorem Inv.call {g':Array GenState} {t':Nat} {d':Drawn} {ch:List Addr} (I:Inv X pz σ H s) (u:Un (frs X.stack) ch H H' s.heap h') (hok:HOk X.prog X.w H' h') (hg:AllBare g')
  (hch:∀b∈ch,(b∈X.ex\/X.s₀.heap.objs.size<=b)/\b≠X.env.locals/\(∀x c,X.env.cells.lookup x=some c->c≠b)/\∀p∈X.pn++pz,p.1≠b) :
  Inv X pz σ H' { s with heap:=h',gens:=g',drawn:=d',toks:=t' }:=by
 obtain ⟨m,⟨o,es,ep,ho,r⟩,_⟩:=id I.loc
 obtain ⟨sl,hL⟩:=u.any ho I.free fun z=>(hch _ z).2.1 rfl
 exact I.step (ch:=ch) hch (fun b o hL hb hc e n=>u.keep b o e n (fun z=>(List.mem_cons.mp (I.stkSub b z)).elim hL hb) hc) (fun b o _ _ hc e n=>u.any e n hc) (fun b o hc e n=>u.free b o e n hc) (fun b o hc e=>u.there b o e hc) u.tups u.frzs u.tbls (fun m' hm=>by
  obtain ⟨o',es',ep',ho',r'⟩:=hm
  rw [ho] at ho'; cases ho'
  exact ⟨_,es',ep',hL,r'⟩) hok hg
theorem Inv.turned {t':Nat} {it:Addr} (I:Inv X pz σ H s) (k:∀b o,b≠it->s.heap.get? b=some o->h'.get? b=some o) (hn:H it=none) (hL:it≠X.env.locals)
  (h1:it∈X.ex\/X.s₀.heap.objs.size<=it) (h2:∀x c,X.env.cells.lookup x=some c->c≠it) (h3:∀p∈X.pn++pz,p.1≠it):Inv X pz σ H { s with heap:=h',toks:=t' }:=by
 have nit:∀b u,H b=some u->b≠it:=fun b u e z=>by rw [z,hn] at e; cases e
 refine I.step (g':=s.gens) (d':=s.drawn) (ch:=[it]) (fun b hb=>?_) (fun b o _ _ hc e _=>k b o (fun z=>hc (by simp [z])) e) (fun b o _ _ hc e _=>⟨o.slots,k b o (fun z=>hc (by simp [z])) e⟩) (fun _ _ _ _ n=>n)
  (fun b o hc e=>⟨o,k b o (fun z=>hc (by simp [z])) e⟩) (fun _ _ e=>e) (fun _ _ _ e=>e) (fun b ps e=>⟨#[],by rw [e]; simp⟩) (fun m hm=>?_) (fun b u e=>?_) I.bare
 ·have e:b=it:=by simpa using hb
  subst e
  exact ⟨h1,hL,h2,h3⟩
 ·obtain ⟨o,es,ep,ho,r⟩:=hm
  exact ⟨o,es,ep,k _ o (Ne.symm hL) ho,r⟩
 ·refine (I.hok b u e).stay (fun c v hc q=>k c v ?_ q) (fun _ q=>q) fun _ _ q=>q
  rcases hc with z | z
  ·rw [z]; exact nit b u e
  ·exact nit c _ z
theorem Inv.tok (I:Inv X pz σ H s) (t:Nat):Inv X pz σ H { s with toks:=t }:=I.un (h':=s.heap) (t':=t) Un.refl I.hok
theorem Inv.kept {t':Nat} (I:Inv X pz σ H s) (k:∀b u,s.heap.get? b=some u->h'.get? b=some u):Inv X pz σ H { s with heap:=h',toks:=t' }:=I.un (Un.kept k) (I.hok.kept k)
theorem Inv.laid {a:Addr} {o:HO} {t':Nat} (I:Inv X pz σ H s) (k:∀b u,s.heap.get? b=some u->h'.get? b=some u) (hp:s.heap.objs.size<=a) (new:za3 X.prog X.w (upd H a o) h' a o) :
  Inv X pz σ (upd H a o) { s with heap:=h',toks:=t' }:=I.un (Un.laid k hp (I.hok.fresh hp)) (I.hok.laid k hp new)
theorem Inv.write {x e:Addr} {o:HO} {t':Nat} (I:Inv X pz σ H s) (mu:Mut (H x)) (he:e=x\/H e=some (.own x)) (k:∀b u,b≠e->s.heap.get? b=some u->h'.get? b=some u) (heo:∃u,h'.get? e=some u)
  (new:za3 X.prog X.w (upd H x o) h' x o):Inv X pz σ (upd H x o) { s with heap:=h',toks:=t' }:=I.un (Un.write mu he k heo) (I.hok.write mu he k heo new)
theorem Inv.pins_of {pins':List (Addr × Obj)} (I:Inv X pz σ H s) (h:∀p∈pins',s.heap.get? p.1=some p.2/\H p.1=none/\p.1≠X.env.locals/\p.1∉X.fs/\∀v,p.2.data≠.cell v):Inv X pins' σ H s:=
 ⟨I.ok,I.os,I.bare,I.base,I.loc,I.cell,I.free,I.freeC,fun p hp=>(List.mem_append.mp hp).elim (fun z=>I.pin p (List.mem_append_left _ z)) (h p),I.hok,I.len⟩
theorem zku {N:List Str} (hN:N.Nodup) {i j:Nat} {x:Str} (a:N[i]? = some x) (b:N[j]? = some x):i=j:=by
 obtain ⟨h1,e1⟩:=List.getElem?_eq_some_iff.mp a
 obtain ⟨h2,e2⟩:=List.getElem?_eq_some_iff.mp b
 exact (List.getElem_inj hN).mp (e1.trans e2.symm)
theorem zgh {M:Model} {A:Around} {E:Value->Shared->Prop} {i:Nat} {x:Str} {v:V} {u:Value} {Q:Unit->Shared->Prop} (I:Inv X pz σ H s) (hN:X.N.Nodup) (hi:X.N[i]? = some x) (hx:Loc X.env.scope x) (r:RelV v u)
  (h:∀s',Inv X pz (σ.set i (some v)) H s'->(∃a,Heap.SameBut a s.heap s'.heap/\(a=X.env.locals\/X.env.cells.lookup x=some a))->Q () s') (hf:X.fn x=true\/X.env.scope.names.lookup x=some .local:=by first | exact .inl rfl | exact .inr rfl | assumption):wpAny M A (storeName X.env x u) Q E s:=by
 obtain ⟨m,hn,hl⟩:=id I.loc
 have hcls:(X.env.scope.kind == .class || (X.env.scope.kind == .module && X.env.locals != X.env.globals))=false:=by rw [I.ok.kind]; rfl
 have hiσ:i < σ.length:=by rw [I.len]; exact (List.getElem?_eq_some_iff.mp hi).1
 have cne:=I.cne
 have tracked:∀{a:Addr} {h':Heap},(∃o,s.heap.get? a=some o/\H a=none)->Heap.SameBut a s.heap h'->HOk X.prog X.w H h':=fun {a h'} ha hs b ob e=>by
  obtain ⟨_,_,hfree⟩:=ha
  refine (I.hok b ob e).stay (fun c w' hc q=>(hs.2 c ?_).trans q) (fun _ q=>q) fun _ _ q=>q
  rintro rfl
  rcases hc with rfl | hc
  ·rw [hfree] at e; cases e
  ·rw [hfree] at hc; cases hc
 rcases hx with hk | hk
 ·refine wpAny_storeName_local hk hn (fun h' hn' hs=>?_) hcls
  obtain ⟨oL,_,_,hoL,_⟩:=id hn
  refine h _ ⟨I.ok,I.os,I.bare,⟨fun b o e n hb hx=>?_,fun b o e n hb hx=>?_,I.base.free,fun b o e hx=>?_,I.base.tups,I.base.frzs,I.base.tbls⟩,⟨_,hn',fun j y v' e1 e2 e3=>?_⟩,fun y c e=>?_,I.free,I.freeC,fun p hp=>?_,tracked ⟨oL,hoL,I.free⟩ hs,by simpa using I.len⟩ ⟨_,hs,.inl rfl⟩
  ·exact (hs.2 b (Nat.ne_of_lt (Nat.lt_of_lt_of_le (Heap.lt_size e) I.ok.above))).trans (I.base.keep b o e n hb hx)
  ·obtain ⟨sl,e1⟩:=I.base.slot b o e n hb hx
   exact ⟨sl,(hs.2 b (Nat.ne_of_lt (Nat.lt_of_lt_of_le (Heap.lt_size e) I.ok.above))).trans e1⟩
  ·obtain ⟨o',e1⟩:=I.base.there b o e hx
   exact ⟨o',(hs.2 b (Nat.ne_of_lt (Nat.lt_of_lt_of_le (Heap.lt_size e) I.ok.above))).trans e1⟩
  ·by_cases hj:j=i
   ·subst hj
    rw [hi] at e1; cases e1
    rw [List.getElem?_set_self hiσ] at e2
    cases e2
    exact ⟨u,r,.inl ⟨hk,by simp⟩⟩
   ·rw [List.getElem?_set_ne (Ne.symm hj)] at e2
    obtain ⟨u',r',q⟩:=hl j y v' e1 e2 e3
    refine ⟨u',r',?_⟩
    rcases q with ⟨k,e⟩ | ⟨k,c,e,z⟩
    ·refine .inl ⟨k,?_⟩
     have:y≠x:=fun e=>hj (zku hN e1 (e ▸ hi))
     simp [this,e]
    ·exact .inr ⟨k,c,e,z.sameBut hs (cne y c e)⟩
  ·obtain ⟨w',z⟩:=I.cell y c e
   exact ⟨w',z.sameBut hs (cne y c e)⟩
  ·obtain ⟨e,n,ne,nf,d⟩:=I.pin p hp
   exact ⟨(hs.2 p.1 ne).trans e,n,ne,nf,d⟩
 ·have hfn:X.fn x=true:=by
   rcases hf with z | z
   ·exact z
   ·rw [z] at hk; cases hk
  obtain ⟨c,hc⟩:=I.ok.has x (.inl hk)
  obtain ⟨w',z⟩:=I.cell x c hc
  refine wpAny_storeName_cell I.ok.kind hk hc z (fun h' hc' hs=>?_)
  obtain ⟨oc,hoc,hocd⟩:=id z
  refine h { s with heap:=h' } ⟨I.ok,I.os,I.bare,⟨fun b o e n hb hx=>?_,fun b o e n hb hx=>?_,I.base.free,fun b o e hx=>?_,I.base.tups,I.base.frzs,I.base.tbls⟩,⟨m,hn.sameBut hs (Ne.symm (cne x c hc)),fun j y v' e1 e2 e3=>?_⟩,fun y c' e=>?_,I.free,I.freeC,fun p hp=>?_,tracked ⟨oc,hoc,I.freeC x c hc⟩ hs,by simpa using I.len⟩ ⟨c,hs,.inr hc⟩
  ·exact (hs.2 b (Nat.ne_of_lt (Nat.lt_of_lt_of_le (Heap.lt_size e) (I.ok.cab x c hfn hc)))).trans (I.base.keep b o e n hb hx)
  ·obtain ⟨sl,e1⟩:=I.base.slot b o e n hb hx
   exact ⟨sl,(hs.2 b (Nat.ne_of_lt (Nat.lt_of_lt_of_le (Heap.lt_size e) (I.ok.cab x c hfn hc)))).trans e1⟩
  ·obtain ⟨o',e1⟩:=I.base.there b o e hx
   exact ⟨o',(hs.2 b (Nat.ne_of_lt (Nat.lt_of_lt_of_le (Heap.lt_size e) (I.ok.cab x c hfn hc)))).trans e1⟩
  ·by_cases hj:j=i
   ·subst hj
    rw [hi] at e1; cases e1
    rw [List.getElem?_set_self hiσ] at e2
    cases e2
    exact ⟨u,r,.inr ⟨.inl hk,c,hc,hc'⟩⟩
   ·rw [List.getElem?_set_ne (Ne.symm hj)] at e2
    obtain ⟨u',r',q⟩:=hl j y v' e1 e2 e3
    refine ⟨u',r',?_⟩
    rcases q with q | ⟨k,c',e,z'⟩
    ·exact .inl q
    ·refine .inr ⟨k,c',e,z'.sameBut hs ?_⟩
     rintro rfl
     exact hj (zku hN e1 (I.ok.inj _ _ _ e hc ▸ hi))
  ·by_cases hcc:c'=c
   ·subst hcc; exact ⟨_,hc'⟩
   ·obtain ⟨w2,z2⟩:=I.cell y c' e
    exact ⟨w2,z2.sameBut hs hcc⟩
  ·obtain ⟨e,n,ne,nf,d⟩:=I.pin p hp
   refine ⟨(hs.2 p.1 ?_).trans e,n,ne,nf,d⟩
   intro q
   rw [q,hoc] at e
   have q':oc=p.2:=Option.some.inj e
   exact d w' (by rw [<-q']; exact hocd)
theorem zka {M:Model} {A:Around} {E:Value->Shared->Prop} {i:Nat} {x:Str} {v:V} {u:Value} {Q:Unit->Shared->Prop} (I:Inv X pz σ H s) (hN:X.N.Nodup) (hi:X.N[i]? = some x) (hx:Loc X.env.scope x) (r:RelV v u)
  (h:∀s',Inv X pz (σ.set i (some v)) H s'->Q () s') (hf:X.fn x=true\/X.env.scope.names.lookup x=some .local:=by first | exact .inl rfl | exact .inr rfl | assumption):wpAny M A (storeName X.env x u) Q E s:=
 zgh I hN hi hx r (fun s' I' _=>h s' I') hf
theorem Inv.call' {s':Shared} {ch:List Addr} (I:Inv X pz σ H s) (ho:s'.os=s.os) (u:Un (frs X.stack) ch H H' s.heap s'.heap) (hok:HOk X.prog X.w H' s'.heap) (hg:AllBare s'.gens)
  (hch:∀b∈ch,(b∈X.ex\/X.s₀.heap.objs.size<=b)/\b≠X.env.locals/\(∀x c,X.env.cells.lookup x=some c->c≠b)/\∀p∈X.pn++pz,p.1≠b):Inv X pz σ H' s':=by
 obtain ⟨h',g',d',t',o'⟩:=s'
 have e:o'=s.os:=ho
 subst e
 exact I.call (g':=g') (t':=t') (d':=d') u hok hg hch
end
abbrev XK:=Value->Option Addr->Hp->Prop
abbrev St:=List (Option V)
abbrev VK:=V->Hp->Prop
abbrev TE:=St->Hp->VK->Prop
abbrev TT:=St->Hp->(Bool->Hp->Prop)->Prop
abbrev TA:=St->Hp->(List V->Hp->Prop)->Prop
structure Ends where
 nx:St->Hp->Prop
 rt:VK
 bk:St->Hp->Prop:=fun _ _=>False
 ct:St->Hp->Prop:=fun _ _=>False
abbrev TS:=Ends->St->Hp->Prop
def EP (X:Cx) (pz:List (Addr × Obj)) (σ:St) (Q:VK) (u:Value) (s':Shared):Prop:=∃v H',Inv X pz σ H' s'/\RelV v u/\Q v H'
def TP (X:Cx) (pz:List (Addr × Obj)) (σ:St) (Q:Bool->Hp->Prop) (b:Bool) (s':Shared):Prop:=∃H',Inv X pz σ H' s'/\Q b H'
def AP (X:Cx) (pz:List (Addr × Obj)) (σ:St) (Q:List V->Hp->Prop) (us:List Value) (s':Shared):Prop:=∃vs H',Inv X pz σ H' s'/\Vals vs us/\Q vs H'
def SP (X:Cx) (pz:List (Addr × Obj)) (D:Ends) (f:Flow) (s':Shared):Prop:=
 match f with
 | .next=>∃σ' H',Inv X pz σ' H' s'/\D.nx σ' H'
 | .brk=>∃σ' H',Inv X pz σ' H' s'/\D.bk σ' H'
 | .cont=>∃σ' H',Inv X pz σ' H' s'/\D.ct σ' H'
 | .ret u=>∃v σ' H',Inv X pz σ' H' s'/\RelV v u/\D.rt v H'
def PE (X:Cx) (e:Expr) (t:TE):Prop:=
 ∀(pz:List (Addr × Obj)) (s:Shared) (σ:St) (H:Hp) (Q:VK),Inv X pz σ H s->t σ H Q->wpAny (model X.prog X.w) X.A (eval e X.env) (EP X pz σ Q) X.xe s
def PT (X:Cx) (e:Expr) (t:TT):Prop:=
 ∀(pz:List (Addr × Obj)) (s:Shared) (σ:St) (H:Hp) (Q:Bool->Hp->Prop),Inv X pz σ H s->t σ H Q->wpAny (model X.prog X.w) X.A (isTrue e X.env (eval e X.env)) (TP X pz σ Q) X.xe s
def PW (X:Cx) (e:Expr) (t:TT):Prop:=
 ∀(whole:Sem Value) (pz:List (Addr × Obj)) (s:Shared) (σ:St) (H:Hp) (Q:Bool->Hp->Prop),Inv X pz σ H s->t σ H Q->wpAny (model X.prog X.w) X.A (isTrue e X.env whole) (TP X pz σ Q) X.xe s
theorem PW.pt {X:Cx} {e:Expr} {t:TT} (h:PW X e t):PT X e t:=h _
def PA (X:Cx) (es:List Expr) (t:TA):Prop:=
 ∀(pos:Pos) (pz:List (Addr × Obj)) (s:Shared) (σ:St) (H:Hp) (Q:List V->Hp->Prop),Inv X pz σ H s->t σ H Q->wpAny (model X.prog X.w) X.A (spliced (backTo pos (starEach es X.env))) (AP X pz σ Q) X.xe s
def PS (X:Cx) (st:Stmt) (t:TS):Prop:=
 ∀(pz:List (Addr × Obj)) (s:Shared) (σ:St) (H:Hp) (D:Ends),Inv X pz σ H s->t D σ H->wpAny (model X.prog X.w) X.A (exec st X.env) (SP X pz D) X.xe s
def PSs (X:Cx) (st:List Stmt) (t:TS):Prop:=
 ∀(pz:List (Addr × Obj)) (s:Shared) (σ:St) (H:Hp) (D:Ends),Inv X pz σ H s->t D σ H->wpAny (model X.prog X.w) X.A (execs st X.env) (SP X pz D) X.xe s
theorem thn {α:Type} {t:Sem α} {Q Q':α->Shared->Prop} {M:Model} {A:Around} {E:Value->Shared->Prop} {s:Shared} (h:wpAny M A t Q E s) (hQ:∀a s,Q a s->Q' a s):wpAny M A t Q' E s:=wpAny_mono h hQ fun _ _ x=>x
section
variable {X:Cx}
def tVar (i:Nat):TE:=fun σ H Q=>∃v,σ[i]? = some (some v)/\Q v H
def tC (v:V):TE:=fun _ H Q=>Q v H
theorem zea {i:Nat} {x:Str} {pos:Pos} (hN:X.N[i]? = some x) (hv:Vis X.env.scope x) (hd:(x == ("__debug__" : Str))=false:=by decide) (hcd:(x == ("__classdict__" : Str))=false:=by decide):PE X (.Name x pos) (tVar i):=by
 intro pz s σ H Q I h
 obtain ⟨v,e,h⟩:=h
 obtain ⟨m,hn,hl⟩:=I.loc
 obtain ⟨u,r,l⟩:=hl i x v hN e hv
 have fin:EP X pz σ Q u s:=⟨v,H,I,r,h⟩
 rcases l with ⟨hk,hm⟩ | ⟨hk,c,hc,hcell⟩
 ·exact wpAny_Name (wpAny_loadName_local I.ok.kind hk hn hm fin) hd
 ·rcases hk with hk | hk
  ·exact wpAny_Name (wpAny_loadName_cell I.ok.kind hk hc hcell fin) hd
  ·exact wpAny_Name (wpAny_loadName_free I.ok.kind hk hc hcell fin hcd) hd
theorem zpp {i j pos}:PE X (.Constant (.int i) j pos) (tC (.int i)):=fun _ _ _ H _ I h=>wpAny_Constant_int ⟨.int i,H,I.tok _,⟨_,rfl⟩,h⟩
theorem zt7 {b j pos}:PE X (.Constant (.bool b) j pos) (tC (.bl b)):=fun _ _ _ H _ I h=>Constant_bool ⟨.bl b,H,I,rfl,h⟩
theorem zsj {j pos}:PE X (.Constant .none j pos) (tC .non):=fun _ _ _ H _ I h=>Constant_none ⟨.non,H,I,rfl,h⟩
def Gl (X:Cx) (x:Str):Prop:=X.env.kindOf x=some .globalImplicit
theorem zmT {E:Value->Shared->Prop} {pz:List (Addr × Obj)} {s:Shared} {σ:St} {H:Hp} {x:Str} {u:Value} {pos:Pos} {Q:Value->Shared->Prop} (I:Inv X pz σ H s) (hg:Gl X x) (hm:X.mg x=some u) (h:Q u s)
  (hd:(x == ("__debug__" : Str))=false:=by decide):wpAny (model X.prog X.w) X.A (eval (.Name x pos) X.env) Q E s:=
 Calls.Name_function_global I.ok.kind hg (Calls.loadGlobal_global (by rw [I.ok.glob]; exact I.mod.glob.keeps I.bk) hm h) hd
theorem ziW {E:Value->Shared->Prop} {pz:List (Addr × Obj)} {s:Shared} {σ:St} {H:Hp} {x:Str} {u:Value} {pos:Pos} {Q:Value->Shared->Prop} (I:Inv X pz σ H s) (hg:Gl X x) (hm:X.mg x=none) (hv:bootBuiltins x=some u) (h:Q u s)
  (hn:x≠"__name__" := by decide) (hd:(x == ("__debug__" : Str))=false:=by decide):wpAny (model X.prog X.w) X.A (eval (.Name x pos) X.env) Q E s:=by
 obtain ⟨mb,h1,h2⟩:=I.mod.blt
 exact Calls.Name_function_global I.ok.kind hg (Calls.loadGlobal_builtin (by rw [I.ok.glob]; exact I.mod.glob.keeps I.bk) hm (by rw [I.ok.blt]; exact h1.keeps I.bk) ((h2 x hn).trans hv) h) hd
theorem zqz {x:Str} {v:V} {u:Value} {pos:Pos} (hg:Gl X x) (hm:X.mg x=some u) (r:RelV v u) (hd:(x == ("__debug__" : Str))=false:=by decide):PE X (.Name x pos) (tC v):=
 fun _ _ _ H _ I h=>zmT I hg hm ⟨v,H,I,r,h⟩ hd
theorem zqC {x:Str} {v:V} {u:Value} {pos:Pos} (hg:Gl X x) (hm:X.mg x=none) (hv:bootBuiltins x=some u) (r:RelV v u) (hn:x≠"__name__" := by decide) (hd:(x == ("__debug__" : Str))=false:=by decide):PE X (.Name x pos) (tC v):=
 fun _ _ _ H _ I h=>ziW I hg hm hv ⟨v,H,I,r,h⟩ hn hd
variable {a b:Expr} {ta tb:TE} {pos:Pos}
variable {tA tB':TT} {rest:List Expr}
def tAnd (t u:TT):TT:=fun σ H Q=>t σ H fun c H1=>if c=true then u σ H1 Q else Q false H1
def tOr (t u:TT):TT:=fun σ H Q=>t σ H fun c H1=>if c=true then Q true H1 else u σ H1 Q
def tNot (t:TT):TT:=fun σ H Q=>t σ H fun c H1=>Q (! c) H1
theorem zqr (ha:PT X a tA):PW X (.BoolOp .And [a] pos) tA:=by
 intro wh pz s σ H Q I h
 refine isTrue_and (thn (ha pz s σ H Q I h) fun c s1 e=>?_)
 cases c with
 | true=>exact isTrue_and_nil e
 | false=>exact e
theorem zr7 (ha:PT X a tA):PW X (.BoolOp .Or [a] pos) tA:=by
 intro wh pz s σ H Q I h
 refine isTrue_or (thn (ha pz s σ H Q I h) fun c s1 e=>?_)
 cases c with
 | false=>exact isTrue_or_nil e
 | true=>exact e
theorem zr8 (ha:PT X a tA) (hb:PW X (.BoolOp .And (b::rest) pos) tB'):PW X (.BoolOp .And (a::b::rest) pos) (tAnd tA tB'):=by
 intro wh pz s σ H Q I h
 refine isTrue_and (thn (ha pz s σ H _ I h) fun c s1 ⟨H1,I1,q1⟩=>?_)
 cases c with
 | true=>exact hb wh pz s1 σ H1 Q I1 q1
 | false=>exact ⟨H1,I1,q1⟩
theorem zt4 (ha:PT X a tA) (hb:PW X (.BoolOp .Or (b::rest) pos) tB'):PW X (.BoolOp .Or (a::b::rest) pos) (tOr tA tB'):=by
 intro wh pz s σ H Q I h
 refine isTrue_or (thn (ha pz s σ H _ I h) fun c s1 ⟨H1,I1,q1⟩=>?_)
 cases c with
 | true=>exact ⟨H1,I1,q1⟩
 | false=>exact hb wh pz s1 σ H1 Q I1 q1
theorem zsb (ha:PT X a tA):PT X (.UnaryOp .Not a pos) (tNot tA):=by
 intro pz s σ H Q I h
 exact isTrue_not (ha pz s σ H (fun c H1=>Q (! c) H1) I h)
def ztS (ta tb:TE):TE:=fun σ H Q=>ta σ H fun x H1=>∃c,x=.bl c/\if c=true then tb σ H1 Q else Q (.bl false) H1
def ztN (ta:TE):TE:=fun σ H Q=>ta σ H fun x H1=>∃c,x=.bl c/\Q (.bl (! c)) H1
theorem zsh {op} {t:TE} (h:PE X a t):PE X (.BoolOp op [a] pos) t:=fun pz s σ H Q I hw=>BoolOp_one (h pz s σ H Q I hw)
theorem zsn (ha:PE X a ta) (hb:PE X (.BoolOp .And (b::rest) pos) tb):PE X (.BoolOp .And (a::b::rest) pos) (ztS ta tb):=by
 intro pz s σ H Q I h
 refine BoolOp_and (thn (ha pz s σ H _ I h) fun v s1 ⟨x,H1,I1,r1,q1⟩=>?_)
 obtain ⟨c,rfl,q1⟩:=q1
 cases r1
 refine wpAny_truthy_bool ?_
 cases c with
 | true=>exact hb pz s1 σ H1 Q I1 q1
 | false=>exact ⟨.bl false,H1,I1,rfl,q1⟩
theorem zsi (ha:PE X a ta):PE X (.UnaryOp .Not a pos) (ztN ta):=by
 intro pz s σ H Q I h
 refine UnaryOp_ (thn (ha pz s σ H _ I h) fun v s1 ⟨x,H1,I1,r1,q1⟩=>?_)
 obtain ⟨c,rfl,q1⟩:=q1
 cases r1
 exact not_of (wpAny_truthy_bool ⟨.bl (! c),H1,I1,rfl,q1⟩)
def tIf (t:TT) (ta tb:TE):TE:=fun σ H Q=>t σ H fun c H1=>if c=true then ta σ H1 Q else tb σ H1 Q
theorem zog {c:Expr} (hc:PT X c tA) (ha:PE X a ta) (hb:PE X b tb):PE X (.IfExp c a b pos) (tIf tA ta tb):=by
 intro pz s σ H Q I h
 refine wpAny_IfExp (thn (hc pz s σ H _ I h) fun d s1 ⟨H1,I1,q1⟩=>?_)
 cases d with
 | true=>exact ha pz s1 σ H1 Q I1 q1
 | false=>exact hb pz s1 σ H1 Q I1 q1
end
def SqL (K:W.Frag) (H:Hp) (a:Addr) (xs:List V):Prop:=
 Rd H a (.lst xs) \/
  ∃(o:Obj) (its:Array Value) (n:Nat),K.lookup a=some o/\o.cls=.type "list"/\o.dict=none/\o.data=.seq its n/\its.size<=sizeLine/\Vals xs its.toList
def SqT (K:W.Frag) (H:Hp) (a:Addr) (xs:List V):Prop:=
 Rd H a (.tup xs) \/
  ∃(o:Obj) (its:Array Value) (n:Nat),K.lookup a=some o/\o.cls=.type "tuple"/\o.data=.seq its n/\its.size<=sizeLine/\Vals xs its.toList
def absV:Value->Option V
 | .none=>some .non
 | .bool b=>some (.bl b)
 | .int i _=>some (.int i)
 | .str x _=>some (.str x)
 | .bytes b _=>some (.byt b)
 | .float b _=>some (.flt b)
 | .ref a=>some (.ref a)
 | .type n=>some (.ty n)
 | _=>none
theorem RelV.abs {x:V} {u:Value} (r:RelV x u):absV u=some x:=by
 cases x with
 | non=>cases r; rfl
 | bl _=>cases r; rfl
 | int _=>obtain ⟨t,rfl⟩:=r; rfl
 | str _=>obtain ⟨t,rfl⟩:=r; rfl
 | byt _=>obtain ⟨t,rfl⟩:=r; rfl
 | flt _=>obtain ⟨t,rfl⟩:=r; rfl
 | ref _=>cases r; rfl
 | ty _=>cases r; rfl
theorem RelV.inj {x y:V} {u:Value} (r:RelV x u) (q:RelV y u):x=y:=Option.some.inj (r.abs.symm.trans q.abs)
theorem Vals.inj {xs ys:List V} {us:List Value} (h:Vals xs us) (h':Vals ys us):xs=ys:=by
 induction h generalizing ys with
 | nil=>cases h'; rfl
 | cons r t ih=>
  cases h' with
  | cons r' t'=>rw [r.inj r',ih t']
section
variable {X:Cx} {pz:List (Addr × Obj)} {σ:St} {H:Hp} {s:Shared} {a:Addr} {xs ys:List V}
theorem SqL.of {K:W.Frag} (h:H a=some (.lst xs)):SqL K H a xs:=.inl (.inl h)
theorem Inv.list (I:Inv X pz σ H s) (h:SqL X.K H a xs):∃its:List Value,Vals xs its/\PlainL s.heap a its.toArray/\xs.length<=sizeLine:=by
 rcases h with h | ⟨o,its,n,hk,hc,hd,hs,hz,r⟩
 ·obtain ⟨z,its,n,r,e⟩:=h.ok I.hok
  exact ⟨its,r,⟨_,n,e,rfl,rfl,rfl⟩,z⟩
 ·refine ⟨its.toList,r,⟨o,n,I.kIn a o hk,hc,hd,by simpa using hs⟩,?_⟩
  have e:=r.length
  simp only [Array.length_toList] at e
  omega
theorem Inv.tuple (I:Inv X pz σ H s) (h:SqT X.K H a xs):∃its:List Value,Vals xs its/\IsTup s.heap a its.toArray/\xs.length<=sizeLine:=by
 rcases h with h | ⟨o,its,n,hk,hc,hs,hz,r⟩
 ·obtain ⟨z,its,r,p,_⟩:=h.ok I.hok
  exact ⟨its,r,p,z⟩
 ·refine ⟨its.toList,r,⟨o,I.kIn a o hk,hc,n,by simpa using hs⟩,?_⟩
  have e:=r.length
  simp only [Array.length_toList] at e
  omega
theorem Inv.list_inj (I:Inv X pz σ H s) (h:SqL X.K H a xs) (h':SqL X.K H a ys):xs=ys:=by
 obtain ⟨its,r,⟨o,n,e,_,_,d⟩,_⟩:=I.list h
 obtain ⟨its',r',⟨o',n',e',_,_,d'⟩,_⟩:=I.list h'
 rw [e] at e'; cases e'
 rw [d] at d'
 injection d' with d1 _
 have:its=its':=by simpa using congrArg Array.toList d1
 subst this
 exact r.inj r'
theorem Inv.tuple_inj (I:Inv X pz σ H s) (h:SqT X.K H a xs) (h':SqT X.K H a ys):xs=ys:=by
 obtain ⟨its,r,⟨o,e,_,n,d⟩,_⟩:=I.tuple h
 obtain ⟨its',r',⟨o',e',_,n',d'⟩,_⟩:=I.tuple h'
 rw [e] at e'; cases e'
 rw [d] at d'
 injection d' with d1 _
 have:its=its':=by simpa using congrArg Array.toList d1
 subst this
 exact r.inj r'
end
abbrev Cx.wish (X:Cx) (E:Value->Shared->Prop):Cx:={ X with xe:=E }
abbrev Cx.nox (X:Cx):Cx:=X.wish fun _ _=>False
theorem Cx.Ok.wish {X:Cx} (ok:X.Ok) (E:Value->Shared->Prop):(X.wish E).Ok:=
 ⟨ok.mod,ok.kind,ok.glob,ok.blt,ok.above,ok.inj,ok.has,ok.cab,ok.hd,ok.frames,ok.stk,ok.exf,ok.bs,ok.bsz,ok.noex,ok.exfs,ok.funs,ok.frf⟩
theorem Cx.Ok.unwish {X:Cx} {E:Value->Shared->Prop} (ok:(X.wish E).Ok):X.Ok:=
 ⟨ok.mod,ok.kind,ok.glob,ok.blt,ok.above,ok.inj,ok.has,ok.cab,ok.hd,ok.frames,ok.stk,ok.exf,ok.bs,ok.bsz,ok.noex,ok.exfs,ok.funs,ok.frf⟩
section
variable {X:Cx} {pz:List (Addr × Obj)} {σ:St} {H:Hp} {s:Shared} {E:Value->Shared->Prop}
theorem Inv.wish (I:Inv X pz σ H s) (E:Value->Shared->Prop):Inv (X.wish E) pz σ H s:=⟨I.ok.wish E,I.os,I.bare,I.base,I.loc,I.cell,I.free,I.freeC,I.pin,I.hok,I.len⟩
theorem Inv.unwish (I:Inv (X.wish E) pz σ H s):Inv X pz σ H s:=⟨I.ok.unwish,I.os,I.bare,I.base,I.loc,I.cell,I.free,I.freeC,I.pin,I.hok,I.len⟩
theorem SP.unwish {D:Ends} {f:Flow} {s':Shared} (h:SP (X.wish E) pz D f s'):SP X pz D f s':=by
 cases f with
 | next=>obtain ⟨σ',H',I,q⟩:=h; exact ⟨σ',H',I.unwish,q⟩
 | brk=>obtain ⟨σ',H',I,q⟩:=h; exact ⟨σ',H',I.unwish,q⟩
 | cont=>obtain ⟨σ',H',I,q⟩:=h; exact ⟨σ',H',I.unwish,q⟩
 | ret u=>obtain ⟨v,σ',H',I,r,q⟩:=h; exact ⟨v,σ',H',I.unwish,r,q⟩
theorem PSs.nox {st:List Stmt} {t:TS} (h:PSs X.nox st t):PSs X st t:=fun pz s σ H D I hw=>
 wpAny_mono (h pz s σ H D (I.wish _) hw) (fun _ _ q=>q.unwish) fun _ _ z=>False.elim z
end
section
variable {X:Cx} {st:Stmt} {rest:List Stmt} {t u:TS} {e:Expr} {te:TE} {pos:Pos}
def ztO:TS:=fun D σ H=>D.nx σ H
def tSeq (t u:TS):TS:=fun D σ H=>t { D with nx:=u D } σ H
theorem zms:PSs X [] ztO:=fun _ _ σ H _ I h=>wpAny_execs_nil ⟨σ,H,I,h⟩
theorem zf3 (h1:PS X st t) (h2:PSs X rest u):PSs X (st::rest) (tSeq t u):=by
 intro pz s σ H D I h
 refine wpAny_execs_cons (thn (h1 pz s σ H { D with nx:=u D } I h) fun f s1 q=>?_)
 cases f with
 | next=>
  obtain ⟨σ',H',I',q⟩:=q
  exact h2 pz s1 σ' H' D I' q
 | ret v=>exact q
 | brk=>exact q
 | cont=>exact q
theorem Inv.quiet {pz:List (Addr × Obj)} {σ:St} {H:Hp} {s:Shared} (I:Inv X pz σ H s):interactive X.env=false:=by simp [interactive,I.ok.kind]
def ztP (te:TE):TS:=fun D σ H=>te σ H fun _ H1=>D.nx σ H1
theorem zmt (he:PE X e te) (hs:swapsWith e none pos.line X.env=pure false:=by rfl):PS X (.Expr e pos) (ztP te):=by
 intro pz s σ H D I h
 exact wpAny_Expr_any (thn (he pz s σ H _ I h) fun v s1 ⟨x,H1,I1,r1,q1⟩=>⟨σ,H1,I1,q1⟩) I.quiet hs
def tRet (te:TE):TS:=fun D σ H=>te σ H D.rt
theorem zsc (he:PE X e te):PS X (.Return (some e) pos) (tRet te):=by
 intro pz s σ H D I h
 exact wpAny_Return_some (thn (he pz s σ H _ I h) fun v s1 ⟨x,H1,I1,r1,q1⟩=>⟨x,σ,H1,I1,r1,q1⟩)
def tIfS (c:TT) (t u:TS):TS:=fun D σ H=>c σ H fun b H1=>if b=true then t D σ H1 else u D σ H1
theorem zt5 {c:Expr} {a b:List Stmt} {tc:TT} (hc:PT X c tc) (ha:PSs X a t) (hb:PSs X b u):PS X (.If c a b pos) (tIfS tc t u):=by
 intro pz s σ H D I h
 refine wpAny_If (thn (hc pz s σ H _ I h) fun d s1 ⟨H1,I1,q1⟩=>?_)
 cases d with
 | true=>exact ha pz s1 σ H1 D I1 q1
 | false=>exact hb pz s1 σ H1 D I1 q1
def zrE:TS:=fun _ _ _=>False
theorem zob:PS X st zrE:=fun _ _ _ _ _ _ h=>h.elim
end
abbrev TG:=V->St->Hp->(St->Hp->Prop)->Prop
abbrev TGs:=List V->St->Hp->(St->Hp->Prop)->Prop
def PG (X:Cx) (target:Expr) (t:TG):Prop:=
 ∀(pz:List (Addr × Obj)) (s:Shared) (σ:St) (H:Hp) (v:V) (u:Value) (Q:St->Hp->Prop),Inv X pz σ H s->RelV v u->t v σ H Q ->
  wpAny (model X.prog X.w) X.A (assign target X.env u) (fun _ s'=>∃σ' H',Inv X pz σ' H' s'/\Q σ' H') X.xe s
def PGs (X:Cx) (ts:List Expr) (t:TGs):Prop:=
 ∀(pz:List (Addr × Obj)) (s:Shared) (σ:St) (H:Hp) (vs:List V) (us:List Value) (Q:St->Hp->Prop),Inv X pz σ H s->Vals vs us->t vs σ H Q ->
  wpAny (model X.prog X.w) X.A (assignInOrder ((assignEach ts X.env).map (·.2)) us) (fun _ s'=>∃σ' H',Inv X pz σ' H' s'/\Q σ' H') X.xe s
abbrev TSet:=V->V->V->Hp->(Hp->Prop)->Prop
def PSet (X:Cx) (t:TSet):Prop:=
 ∀(pz:List (Addr × Obj)) (s:Shared) (σ:St) (H:Hp) (o i v:V) (ov iv u:Value) (Q:Hp->Prop),Inv X pz σ H s->RelV o ov->RelV i iv->RelV v u->t o i v H Q ->
  wpAny (model X.prog X.w) X.A (setItem ov iv u) (fun _ s'=>∃H',Inv X pz σ H' s'/\Q H') X.xe s
section
variable {X:Cx} {pos:Pos}
def ztb (i:Nat):TG:=fun v σ H Q=>Q (σ.set i (some v)) H
theorem zqx {i:Nat} {x:Str} (hN:X.N.Nodup) (hi:X.N[i]? = some x) (hx:Loc X.env.scope x) (hf:X.fn x=true\/X.env.scope.names.lookup x=some .local:=by first | exact .inl rfl | exact .inr rfl | assumption):PG X (.Name x pos) (ztb i):=by
 intro pz s σ H v u Q I r h
 exact wpAny_assign_Name (zka I hN hi hx r (fun s' I'=>⟨_,H,I',h⟩) hf)
def gNil:TGs:=fun vs σ H Q=>vs=[]/\Q σ H
def zut (t:TG) (u:TGs):TGs:=fun vs σ H Q=>∃v r,vs=v::r/\t v σ H fun σ' H'=>u r σ' H' Q
theorem zqw:PGs X [] gNil:=by
 intro pz s σ H vs us Q I r h
 obtain ⟨e,h⟩:=h
 subst e
 cases r
 exact assignInOrder_nil ⟨σ,H,I,h⟩
theorem zod {e:Expr} {es:List Expr} {t:TG} {u:TGs} (h1:PG X e t) (h2:PGs X es u)
  (hs:(assignEach (e::es) X.env).map (·.2)=assign e X.env::(assignEach es X.env).map (·.2):=by rfl):PGs X (e::es) (zut t u):=by
 intro pz s σ H vs us Q I r h
 obtain ⟨v,vr,e1,h⟩:=h
 subst e1
 cases r with
 | cons r rr=>
  rw [hs]
  refine assignInOrder_cons (thn (h1 pz s σ H _ _ _ I r h) fun _ s1 ⟨σ1,H1,I1,q1⟩=>?_)
  exact h2 pz s1 σ1 H1 _ _ Q I1 rr q1
def gTup (K:W.Frag) (n:Nat) (t:TGs):TG:=fun v σ H Q=>∃a xs,v=.ref a/\SqT K H a xs/\xs.length=n/\t xs σ H Q
theorem zse {es:List Expr} {k:Nat} {t:TGs} {n:Nat} (hc:X.calm=true) (h:PGs X es t)
  (hn:(assignEach es X.env).length=n:=by rfl) (hst:(assignEach es X.env).findIdx? (·.1)=none:=by rfl):PG X (.Tuple es k pos) (gTup X.K n t):=by
 intro pz s σ H v u Q I r hw
 obtain ⟨a,xs,e1,hq,hl,hw⟩:=hw
 subst e1
 cases r
 obtain ⟨its,rv,ht,hz⟩:=I.tuple hq
 refine assign_Tuple_tuple (I.ok.hd hc) ht (by simp [hn,<-hl,rv.length]) hst fun h' hx=>?_
 have I1:Inv X pz σ H { s with heap:=h' }:=I.kept (t':=s.toks) fun b o e=>hx b o (Nat.ne_of_lt (Heap.lt_size e)) e
 exact h pz _ σ H xs _ Q I1 (by simpa using rv) hw
def gSub (to ti:TE) (t:TSet):TG:=fun v σ H Q=>to σ H fun o H1=>ti σ H1 fun i H2=>t o i v H2 fun H3=>Q σ H3
theorem zpo {o i:Expr} {to ti:TE} {t:TSet} (ho:PE X o to) (hi:PE X i ti) (hs:PSet X t)
  (ha:∀v,assign (.Subscript o i pos) X.env v=(do
   let ov <-holding [v] (eval o X.env)
   let iv <-holding [v,ov] (eval i X.env)
   standAt pos
   holding [v,ov,iv] (setItem ov iv v)
   release [v,ov,iv] []):=by intro _; rfl):PG X (.Subscript o i pos) (gSub to ti t):=by
 intro pz s σ H v u Q I r h
 rw [ha]
 refine wpAny_bind (wpAny_holding (thn (ho pz s σ H _ I h) fun ov s1 ⟨x,H1,I1,r1,q1⟩=>?_))
 refine wpAny_bind (wpAny_holding (thn (hi pz s1 σ H1 _ I1 q1) fun iv s2 ⟨y,H2,I2,r2,q2⟩=>?_))
 refine wpAny_bind (wpAny_standAt (wpAny_bind (wpAny_holding (thn (hs pz s2 σ H2 x y v ov iv u _ I2 r1 r2 r q2) fun _ s3 ⟨H3,I3,q3⟩=>?_))))
 exact wpAny_release ⟨σ,H3,I3,q3⟩
def tAsg (te:TE) (g:TG):TS:=fun D σ H=>te σ H fun x H1=>g x σ H1 D.nx
theorem zpm {tg e:Expr} {te:TE} {g:TG} (he:PE X e te) (hg:PG X tg g) (hs:swapsWithSole [tg] e pos.line X.env=pure false:=by rfl) (hw:swappedStores [tg] e X.env=pure none:=by rfl)
  (h1:(assignEach [tg] X.env).map (·.2)=[assign tg X.env]:=by rfl):PS X (.Assign [tg] e pos) (tAsg te g):=by
 intro pz s σ H D I h
 refine wpAny_Assign_stores (thn (he pz s σ H _ I h) fun v s1 ⟨x,H1,I1,r1,q1⟩=>?_) hs hw
 rw [h1]
 exact thn (hg pz s1 σ H1 x v _ I1 r1 q1) fun _ s2 q=>q
theorem zpl {i:Nat} {x:Str} {e:Expr} {te:TE} {pos':Pos} (hN:X.N.Nodup) (hi:X.N[i]? = some x) (hx:Loc X.env.scope x) (he:PE X e te) (hs:swapsWith e (some (.Name x pos')) pos.line X.env=pure false:=by rfl) (hf:X.fn x=true\/X.env.scope.names.lookup x=some .local:=by first | exact .inl rfl | exact .inr rfl | assumption) :
  PS X (.Assign [.Name x pos'] e pos) (tAsg te (ztb i)):=by
 intro pz s σ H D I h
 refine wpAny_Assign_Name (thn (he pz s σ H _ I h) fun v s1 ⟨y,H1,I1,r1,q1⟩=>?_) hs
 exact zka I1 hN hi hx r1 (fun s2 I2=>⟨_,H1,I2,q1⟩) hf
end
section
variable {X:Cx} {pos:Pos}
def zrD (c:TT) (tb:TS):TS:=fun D σ H=>∃W:Nat->St->Hp->Prop,(∃m,W m σ H)/\∀m σ H,W m σ H ->
 c σ H fun b H1=>if b=true then ∃N:St->Hp->Prop,(∀σ' H',N σ' H'->∃m',m' < m/\W m' σ' H')/\tb { D with nx:=N,ct:=N,bk:=D.nx } σ H1 else D.nx σ H1
theorem zoa {c:Expr} {body:List Stmt} {tc:TT} {tb:TS} (hp:PassesOwn (model X.prog X.w) X.A X.env X.xe) (hc:PT X c tc) (hb:PSs X body tb):PS X (.While c body [] pos) (zrD tc tb):=by
 intro pz s σ H D I h
 obtain ⟨W,⟨m0,w0⟩,turn⟩:=h
 refine wpAny_While (codeAny_whileLoop (fun n s'=>∃σ' H',Inv X pz σ' H' s'/\W n σ' H') ?_ m0 ⟨σ,H,I,w0⟩)
 rintro n s1 ⟨σ1,H1,I1,w1⟩
 refine wpAny_passesOwn hp (thn (hc pz s1 σ1 H1 _ I1 (turn n σ1 H1 w1)) fun b s2 ⟨H2,I2,q2⟩=>?_)
 cases b with
 | true=>
  obtain ⟨N,hN,q2⟩:=q2
  rw [if_pos rfl]
  refine wpAny_passesOwn hp (thn (hb pz s2 σ1 H2 _ I2 q2) fun f s3 q3=>?_)
  cases f with
  | next=>
   obtain ⟨σ3,H3,I3,n3⟩:=q3
   obtain ⟨m',hm,w3⟩:=hN σ3 H3 n3
   exact ⟨m',hm,σ3,H3,I3,w3⟩
  | cont=>
   obtain ⟨σ3,H3,I3,n3⟩:=q3
   obtain ⟨m',hm,w3⟩:=hN σ3 H3 n3
   exact ⟨m',hm,σ3,H3,I3,w3⟩
  | brk=>exact q3
  | ret v=>exact q3
 | false=>
  rw [if_neg Bool.false_ne_true]
  exact wpAny_execs_nil ⟨σ1,H2,I2,q2⟩
end
structure It where
 go:Nat->Hp->Prop
 yld:Nat->Hp->V->Hp->Prop
 stop:Nat->Hp->Prop
def FpOk (X:Cx) (pz:List (Addr × Obj)) (H:Hp) (b:Addr):Prop:=
 H b=none/\b≠X.env.locals/\b∉X.fs/\(b∈X.ex\/X.s₀.heap.objs.size<=b)/\(∀x c,X.env.cells.lookup x=some c->c≠b)/\∀p∈X.pn++pz,p.1≠b
theorem Inv.fpOk {X:Cx} {pz:List (Addr × Obj)} {σ:St} {H H':Hp} {s:Shared} {b:Addr} (I:Inv X pz σ H s) (hb:s.heap.objs.size<=b) (hn:H' b=none):FpOk X pz H' b:=by
 refine ⟨hn,Nat.ne_of_gt (Nat.lt_of_lt_of_le I.lt hb),I.nofs hb,.inr (Nat.le_trans I.sz hb),fun x c e z=>?_,fun p hp z=>?_⟩
 ·obtain ⟨v,q⟩:=I.cell x c e
  exact absurd (Nat.lt_of_lt_of_le q.lt (by rw [z]; exact hb)) (Nat.lt_irrefl _)
 ·exact absurd (Nat.lt_of_lt_of_le (Heap.lt_size (I.pin p hp).1) (by rw [z]; exact hb)) (Nat.lt_irrefl _)
structure Turn (P:Program) (w:World) (K:W.Frag) (tg:Expr) (J:It) (fp:List Addr) (it:Addr) (tn:Nat->Heap->Prop):Prop where
 mem:it∈fp
 obj:∀i h,tn i h->∀b∈fp,∃o,h.get? b=some o/\∀v,o.data≠.cell v
 keep:∀i h h',tn i h->(∀b∈fp,∀o,h.get? b=some o->h'.get? b=some o)->tn i h'
 item:∀(X:Cx),X.prog=P->X.w=w->X.K=K->X.calm=true->∀(i:Nat) (pz:List (Addr × Obj)) (s:Shared) (σ:St) (H:Hp) (E:Value->Shared->Prop),Inv X pz σ H s->(∀b∈fp,FpOk X pz H b)->tn i s.heap->J.go i H ->
  wpAny (model P w) X.A (pyNext (.ref it)) (fun r s1=>∃u,r=some u /\
   wpAny (model P w) X.A (letOwnedTupleGo tg (.ref it) u) (fun _ s2=>∃x H',Inv X pz σ H' s2/\RelV x u/\J.yld i H x H'/\tn (i + 1) s2.heap/\∀b∈fp,H' b=none) E s1) E s
 done:∀(X:Cx),X.prog=P->X.w=w->X.K=K->X.calm=true->∀(i:Nat) (pz:List (Addr × Obj)) (s:Shared) (σ:St) (H:Hp) (E:Value->Shared->Prop),Inv X pz σ H s->(∀b∈fp,FpOk X pz H b)->tn i s.heap->J.stop i H ->
  wpAny (model P w) X.A (pyNext (.ref it)) (fun r s1=>r=none/\Inv X pz σ H s1) E s
 self:∀(A:Around) (i:Nat) (s:Shared) (Q:Value->Shared->Prop) (E:Value->Shared->Prop),tn i s.heap->Q (.ref it) s->wpAny (model P w) A (pyIter (.ref it)) Q E s
abbrev TI:=St->Hp->(It->Hp->Prop)->Prop
def PIE (X:Cx) (pz:List (Addr × Obj)) (σ:St) (tg:Expr) (R:It->Hp->Prop) (itv:Value) (s2:Shared):Prop:=
 ∃(it:Addr) (fp:List Addr) (tn:Nat->Heap->Prop) (J:It) (H':Hp),itv=.ref it/\Inv X pz σ H' s2/\Turn X.prog X.w X.K tg J fp it tn/\tn 0 s2.heap/\(∀b∈fp,FpOk X pz H' b)/\R J H'
def PI (X:Cx) (tg iter:Expr) (wi:TI):Prop:=
 ∀(pz:List (Addr × Obj)) (s:Shared) (σ:St) (H:Hp) (R:It->Hp->Prop),Inv X pz σ H s->wi σ H R ->
  wpAny (model X.prog X.w) X.A (eval iter X.env) (fun v s1=>wpAny (model X.prog X.w) X.A (pyIter v) (PIE X pz σ tg R) X.xe s1) X.xe s
theorem zq4 {M:Model} {A:Around} {E:Value->Shared->Prop} {s:Shared} {tg:Expr} {it:Addr} {u:Value} {o:Obj} {n:String} {vs:Array Value} {Q:Unit->Shared->Prop} (ho:s.heap.get? it=some o) (hc:o.cls=.type n) (hd:o.data=.fields vs)
    (hn : ["enumerate","zip","dict_itemiterator","dict_reverseitemiterator","odict_iterator","itertools.zip_longest","itertools.pairwise"].contains n=false) (hQ:Q () s):wpAny M A (letOwnedTupleGo tg (.ref it) u) Q E s:=by
  unfold letOwnedTupleGo
  cases tg <;> first
    | exact wpAny_pure hQ
    | (cases u <;> first
        | exact wpAny_pure hQ
        | (refine wpAny_bind (wpAny_load ho ?_)
           rw [hc,hd]
           show wpAny M A (if (["enumerate","zip","dict_itemiterator","dict_reverseitemiterator","odict_iterator","itertools.zip_longest","itertools.pairwise"].contains n && vs[0]? == some (rawInt _))=true then _ else _) Q E s
           rw [if_neg (by intro h; rw [hn,Bool.false_and] at h; cases h)]
           exact wpAny_pure hQ))
def Itl (K:W.Frag) (a:Addr):It:=
 ⟨fun i H=>∃xs x,SqL K H a xs/\xs[i]? = some x,fun i H x H'=>H'=H/\∀xs,SqL K H a xs->xs[i]? = some x,fun i H=>∃xs,SqL K H a xs/\xs.length<=i⟩
def Itt (K:W.Frag) (a:Addr):It:=
 ⟨fun i H=>∃xs x,SqT K H a xs/\xs[i]? = some x,fun i H x H'=>H'=H/\∀xs,SqT K H a xs->xs[i]? = some x,fun i H=>∃xs,SqT K H a xs/\xs.length<=i⟩
def Itr (lo:Int) (n:Nat):It:=⟨fun i _=>i < n,fun i H x H'=>H'=H/\x=.int (lo + i),fun i _=>n<=i⟩
theorem zlT {P:Program} {w:World} {K:W.Frag} {tg:Expr} (a it:Addr):Turn P w K tg (Itl K a) [it] it (fun i h=>h.IsListIter it a i) where
 mem:=by simp
 obj:=fun i h st b hb=>by
  have e:b=it:=by simpa using hb
  subst e
  obtain ⟨o,e,c,d⟩:=st
  exact ⟨o,e,fun v z=>by rw [d] at z; cases z⟩
 keep:=fun i h h' st k=>st.at fun o e=>k it (by simp) o e
 item:=by
  intro X hP hw hK hc i pz s σ H E I hf st hg
  subst hP hw hK
  obtain ⟨xs,x,hq,hx⟩:=hg
  obtain ⟨its,rv,p,hz⟩:=I.list hq
  obtain ⟨u,hu,ru⟩:=rv.get hx
  obtain ⟨f0,f1,f2,f3,f4,f5⟩:=hf it (by simp)
  refine wpAny_pyNext_list_item st p.isList (x:=u) (by simpa using hu) fun h' st' sb=>?_
  have I1:Inv X pz σ H { s with heap:=h' }:=I.turned (t':=s.toks) (fun b o hb e=>(sb.2 b hb).trans e) f0 f1 f3 f4 f5
  obtain ⟨o,e,c,d⟩:=id st'
  exact ⟨u,rfl,zq4 (s:={ s with heap:=h' }) e c d (by decide) ⟨x,H,I1,ru,⟨rfl,fun ys hy=>by rw [I.list_inj hy hq]; exact hx⟩,st',fun b hb=>(hf b hb).1⟩⟩
 done:=by
  intro X hP hw hK hc i pz s σ H E I hf st hg
  subst hP hw hK
  obtain ⟨xs,hq,hx⟩:=hg
  obtain ⟨its,rv,p,hz⟩:=I.list hq
  obtain ⟨f0,f1,f2,f3,f4,f5⟩:=hf it (by simp)
  have hl:=rv.length
  exact wpAny_pyNext_list_end (I.ok.hd hc) st p.isList (by simp; omega) fun h' eb=>⟨rfl,I.turned (t':=s.toks) (fun b o hb e=>eb b o hb e) f0 f1 f3 f4 f5⟩
 self:=fun _ _ _ _ _ st h=>wpAny_pyIter_listiter st h
theorem zk3 {P:Program} {w:World} {K:W.Frag} {tg:Expr} (a it:Addr):Turn P w K tg (Itt K a) [it] it (fun i h=>h.IsTupleIter it a i) where
 mem:=by simp
 obj:=fun i h st b hb=>by
  have e:b=it:=by simpa using hb
  subst e
  obtain ⟨o,e,c,d⟩:=st
  exact ⟨o,e,fun v z=>by rw [d] at z; cases z⟩
 keep:=fun i h h' st k=>st.at fun o e=>k it (by simp) o e
 item:=by
  intro X hP hw hK hc i pz s σ H E I hf st hg
  subst hP hw hK
  obtain ⟨xs,x,hq,hx⟩:=hg
  obtain ⟨its,rv,p,hz⟩:=I.tuple hq
  obtain ⟨u,hu,ru⟩:=rv.get hx
  obtain ⟨f0,f1,f2,f3,f4,f5⟩:=hf it (by simp)
  refine wpAny_pyNext_tuple_item st (show s.heap.IsTuple a its.toArray from p) (x:=u) (by simpa using hu) fun h' st' sb=>?_
  have I1:Inv X pz σ H { s with heap:=h' }:=I.turned (t':=s.toks) (fun b o hb e=>(sb.2 b hb).trans e) f0 f1 f3 f4 f5
  obtain ⟨o,e,c,d⟩:=id st'
  exact ⟨u,rfl,zq4 (s:={ s with heap:=h' }) e c d (by decide) ⟨x,H,I1,ru,⟨rfl,fun ys hy=>by rw [I.tuple_inj hy hq]; exact hx⟩,st',fun b hb=>(hf b hb).1⟩⟩
 done:=by
  intro X hP hw hK hc i pz s σ H E I hf st hg
  subst hP hw hK
  obtain ⟨xs,hq,hx⟩:=hg
  obtain ⟨its,rv,p,hz⟩:=I.tuple hq
  obtain ⟨f0,f1,f2,f3,f4,f5⟩:=hf it (by simp)
  have hl:=rv.length
  exact wpAny_pyNext_tuple_end (I.ok.hd hc) st (show s.heap.IsTuple a its.toArray from p) (by simp; omega) fun h' eb=>⟨rfl,I.turned (t':=s.toks) (fun b o hb e=>eb b o hb e) f0 f1 f3 f4 f5⟩
 self:=fun _ _ _ _ _ st h=>wpAny_pyIter_tupleiter st h
theorem zk4 {P:Program} {w:World} {K:W.Frag} {tg:Expr} (it:Addr) (lo:Int) (n:Nat):Turn P w K tg (Itr lo n) [it] it (fun i h=>IsRangeIter h it (lo + (i:Nat) * 1) ((n:Int) - (i:Nat)) 1) where
 mem:=by simp
 obj:=fun i h st b hb=>by
  have e:b=it:=by simpa using hb
  subst e
  exact ⟨_,st,fun v z=>by
   have z':Data.fields _=Data.cell v:=z
   cases z'⟩
 keep:=fun i h h' st k=>k it (by simp) _ st
 item:=by
  intro X hP hw hK hc i pz s σ H E I hf st hg
  subst hP hw hK
  obtain ⟨f0,f1,f2,f3,f4,f5⟩:=hf it (by simp)
  have W:=Walks.range (prog:=X.prog) (w:=X.w) (I.ok.hd hc) it lo 1 n
  refine W.item i s _ _ hg st fun v h' tk hv st' kk=>?_
  obtain ⟨t,rfl⟩:=hv
  have I1:Inv X pz σ H { s with heap:=h',toks:=tk }:=I.turned (fun b o hb e=>kk b o (by simpa using hb) e) f0 f1 f3 f4 f5
  refine ⟨_,rfl,zq4 (s:={ s with heap:=h',toks:=tk }) (n := "range_iterator") st' rfl rfl (by decide) ⟨.int (lo + i),H,I1,⟨t,?_⟩,⟨rfl,rfl⟩,st',fun b hb=>(hf b hb).1⟩⟩
  rw [Int.mul_one]
 done:=by
  intro X hP hw hK hc i pz s σ H E I hf st hg
  subst hP hw hK
  obtain ⟨f0,f1,f2,f3,f4,f5⟩:=hf it (by simp)
  exact wpAny_pyNext_range_end (I.ok.hd hc) st (by have:n<=i:=hg; omega) fun h' eb=>⟨rfl,I.turned (t':=s.toks) (fun b o hb e=>eb b o hb e) f0 f1 f3 f4 f5⟩
 self:=fun _ _ _ _ _ st h=>wpAny_pyIter_rangeiter st h
section
variable {X:Cx} {tg:Expr}
theorem zn6 {pz:List (Addr × Obj)} {σ:St} {H:Hp} {s:Shared} {R:It->Hp->Prop} {E:Value->Shared->Prop} {lo hi:Int} {t u v:Tok} {tk:Nat} (I:Inv X pz σ H s) (h1 : -(2 ^ 62)<=lo) (h2:lo < 2 ^ 62) (h3 : -(2 ^ 62)<=hi) (h4:hi < 2 ^ 62)
  (q:R (Itr lo (hi - lo).toNat) H):wpAny (model X.prog X.w) X.A (pyIter (.ref s.heap.objs.size)) (PIE X pz σ tg R) E { s with heap:=s.heap.push { cls:=.type "range",data:=.fields #[.int lo t,.int hi u,.int 1 v] },toks:=tk }:=by
 refine wpAny_pyIter_range (IsRange.new ..) (small_one h1 h2 h3 h4) ?_
 have I1:Inv X pz σ H { s with heap:=s.heap.push { cls:=.type "range",data:=.fields #[.int lo t,.int hi u,.int 1 v] },toks:=tk }:=I.kept fun b o e=>Heap.get?_push_of_some _ e
 refine ⟨(s.heap.push { cls:=.type "range",data:=.fields #[.int lo t,.int hi u,.int 1 v] }).objs.size,[(s.heap.push { cls:=.type "range",data:=.fields #[.int lo t,.int hi u,.int 1 v] }).objs.size],_,_,H,rfl,
  I1.kept (t':=tk) fun b o e=>Heap.get?_push_of_some _ e,zk4 _ lo (hi - lo).toNat,?_,fun b hb=>?_,q⟩
 ·have e1:lo + ((0:Nat):Int) * 1=lo:=by simp
  have e2:(((hi - lo).toNat:Nat):Int) - ((0:Nat):Int)=Builtin.Range.rangeSize lo hi 1:=by rw [rangeSize_one]; split <;> omega
  show IsRangeIter _ _ (lo + ((0:Nat):Int) * 1) ((((hi - lo).toNat:Nat):Int) - ((0:Nat):Int)) 1
  rw [e1,e2]
  exact Heap.get?_push_size _ rfl
 ·have e:b=(s.heap.push { cls:=.type "range",data:=.fields #[.int lo t,.int hi u,.int 1 v] }).objs.size:=by simpa using hb
  subst e
  exact I1.fpOk (Nat.le_refl _) (I1.hok.fresh (Nat.le_refl _))
def zup (ta:TA):TI:=fun σ H R=>ta σ H fun vs H1=>∃j:Int,vs=[.int j]/\-(2 ^ 62)<=j/\j < 2 ^ 62/\R (Itr 0 j.toNat) H1
theorem zmx {a:Expr} {ta:TA} {p pos:Pos} (hg:Gl X "range") (hm:X.mg "range" = none) (ha:PA X [a] ta) (hs:starEach [a] X.env=[(false,eval a X.env)]:=by rfl):PI X tg (.Call (.Name "range" p) [a] [] pos) (zup ta):=by
 intro pz s σ H R I h
 refine Call_ (ziW I hg hm boot_range (PyProof.Rows.callWith_type1 (thn (ha pos pz s σ H _ I h) fun us s1 ⟨vs,H1,I1,r1,q1⟩=>?_) hs rfl))
 obtain ⟨j,e,q1,q2,q⟩:=q1
 subst e
 cases r1 with
 | cons r rr=>
  cases rr
  obtain ⟨t,rfl⟩:=r
  exact call_range_1 (zn6 I1 (by omega) (by omega) q1 q2 (by simpa using q))
def tFor (wi:TI) (g:TG) (tb:TS):TS:=fun D σ H=>wi σ H fun J H1=>∃W:Nat->Nat->St->Hp->Prop,(∃m,W 0 m σ H1)/\∀i m σ H,W i m σ H ->
 (J.stop i H/\D.nx σ H)\/(J.go i H/\∃N:St->Hp->Prop,(∀σ' H',N σ' H'->∃m',m' < m/\W (i + 1) m' σ' H')/\∀x H',J.yld i H x H'->g x σ H' fun σ2 H2=>tb { D with nx:=N,ct:=N,bk:=D.nx } σ2 H2)
def zhk (fp:List Addr) (h:Heap):List (Addr × Obj):=fp.filterMap fun b=>(h.get? b).map fun o=>(b,o)
theorem zcF {fp:List Addr} {h:Heap} {b:Addr} {o:Obj} (hb:b∈fp) (e:h.get? b=some o):(b,o)∈zhk fp h:=List.mem_filterMap.mpr ⟨b,hb,by rw [e]; rfl⟩
theorem zmK {fp:List Addr} {h:Heap} {p:Addr × Obj} (hp:p∈zhk fp h):p.1∈fp/\h.get? p.1=some p.2:=by
 obtain ⟨b,hb,e⟩:=List.mem_filterMap.mp hp
 cases q:h.get? b with
 | none=>rw [q] at e; cases e
 | some o=>
  rw [q] at e
  have e':(b,o)=p:=Option.some.inj e
  subst e'
  exact ⟨hb,q⟩
theorem Inv.pinned {pz:List (Addr × Obj)} {σ:St} {H:Hp} {s:Shared} {fp:List Addr} (I:Inv X pz σ H s) (hf:∀b∈fp,FpOk X pz H b) (ho:∀b∈fp,∃o,s.heap.get? b=some o/\∀v,o.data≠.cell v):Inv X (pz++zhk fp s.heap) σ H s:=
 I.pins_of fun p hp=>(List.mem_append.mp hp).elim (fun z=>I.pin p (List.mem_append_right _ z)) fun z=>by
  obtain ⟨hb,e⟩:=zmK z
  obtain ⟨f0,f1,f2,_⟩:=hf p.1 hb
  obtain ⟨o,e',d⟩:=ho p.1 hb
  rw [e] at e'; cases e'
  exact ⟨e,f0,f1,f2,d⟩
theorem Inv.unpinned {pz pl:List (Addr × Obj)} {σ:St} {H:Hp} {s:Shared} (I:Inv X (pz++pl) σ H s):Inv X pz σ H s:=I.pins_of fun p hp=>I.pin p (List.mem_append_right _ (List.mem_append_left _ hp))
theorem zkp {iter:Expr} {body:List Stmt} {wi:TI} {g:TG} {tb:TS} {pos:Pos} (hp:PassesOwn (model X.prog X.w) X.A X.env X.xe) (hc:X.calm=true) (hi:PI X tg iter wi) (hg:PG X tg g) (hb:PSs X body tb)
  (hs:∀x,foldedSetIterable iter X.env x=pure x:=by intro _; rfl):PS X (.For tg iter body [] pos) (tFor wi g tb):=by
 intro pz s σ H D I h
 refine wpAny_For (thn (hi pz s σ H _ I h) fun v s1 h1=>thn h1 fun itv s2 h2=>?_) hs
 obtain ⟨it,fp,tn,J,H2,e,I2,T,st2,f2,W,⟨m0,w0⟩,turn⟩:=h2
 subst e
 have stat:∀{H':Hp},(∀b∈fp,H' b=none)->∀b∈fp,FpOk X pz H' b:=fun hn b hb=>⟨hn b hb,(f2 b hb).2⟩
 refine codeAny_forLoop_any (fun n s'=>∃i σ' H',Inv X pz σ' H' s'/\tn i s'.heap/\(∀b∈fp,H' b=none)/\W i n σ' H') ?_ m0 ⟨0,σ,H2,I2,st2,fun b hb=>(f2 b hb).1,w0⟩
 rintro n s3 ⟨i,σ3,H3,I3,st3,fr3,w3⟩
 rcases turn i n σ3 H3 w3 with ⟨stop,qn⟩ | ⟨go,N,hN,step⟩
 ·refine wpAny_passesOwn hp (thn (T.done X rfl rfl rfl hc i pz s3 σ3 H3 X.xe I3 (stat fr3) st3 stop) fun r s4 ⟨hr,I4⟩=>?_)
  subst hr
  exact wpAny_execs_nil ⟨σ3,H3,I4,qn⟩
 ·refine wpAny_passesOwn hp (thn (T.item X rfl rfl rfl hc i pz s3 σ3 H3 X.xe I3 (stat fr3) st3 go) fun r s4 ⟨u,hr,h4⟩=>?_)
  subst hr
  refine wpAny_passesOwn hp (thn h4 fun _ s5 ⟨x,H5,I5,r5,y5,st5,fr5⟩=>?_)
  have I5':=I5.pinned (stat fr5) (T.obj _ _ st5)
  refine wpAny_passesOwn hp (thn (hg _ s5 σ3 H5 x u _ I5' r5 (step x H5 y5)) fun _ s6 ⟨σ6,H6,I6,q6⟩=>?_)
  refine wpAny_passesOwn hp (thn (hb _ s6 σ6 H6 _ I6 q6) fun f s7 q7=>?_)
  have again:∀{σ7:St} {H7:Hp},Inv X (pz++zhk fp s5.heap) σ7 H7 s7->N σ7 H7->∃m,m < n/\∃i σ' H',Inv X pz σ' H' s7/\tn i s7.heap/\(∀b∈fp,H' b=none)/\W i m σ' H':=fun {σ7 H7} I7 n7=>by
   obtain ⟨m',hm,w7⟩:=hN σ7 H7 n7
   refine ⟨m',hm,i + 1,σ7,H7,I7.unpinned,T.keep _ _ _ st5 fun b hb o e=>(I7.pin (b,o) (List.mem_append_right _ (List.mem_append_right _ (zcF hb e)))).1,fun b hb=>?_,w7⟩
   obtain ⟨o,e,d⟩:=T.obj _ _ st5 b hb
   exact (I7.pin (b,o) (List.mem_append_right _ (List.mem_append_right _ (zcF hb e)))).2.1
  cases f with
  | next=>obtain ⟨σ7,H7,I7,n7⟩:=q7; exact again I7 n7
  | cont=>obtain ⟨σ7,H7,I7,n7⟩:=q7; exact again I7 n7
  | brk=>obtain ⟨σ7,H7,I7,q7⟩:=q7; exact ⟨σ7,H7,I7.unpinned,q7⟩
  | ret v=>obtain ⟨x7,σ7,H7,I7,r7,q7⟩:=q7; exact ⟨x7,σ7,H7,I7.unpinned,r7,q7⟩
end
abbrev R2:=V->V->Hp->VK->Prop
def OpR (X:Cx) (f:Value->Value->Sem Value) (r:R2):Prop:=
 ∀(pz:List (Addr × Obj)) (s:Shared) (σ:St) (H:Hp) (x y:V) (v u:Value) (Q:VK),Inv X pz σ H s->RelV x v->RelV y u->r x y H Q ->
  wpAny (model X.prog X.w) X.A (f v u) (EP X pz σ Q) X.xe s
def UnR (X:Cx) (f:Value->Sem Value) (r:V->Hp->VK->Prop):Prop:=
 ∀(pz:List (Addr × Obj)) (s:Shared) (σ:St) (H:Hp) (x:V) (v:Value) (Q:VK),Inv X pz σ H s->RelV x v->r x H Q ->
  wpAny (model X.prog X.w) X.A (f v) (EP X pz σ Q) X.xe s
def zdV (X:Cx) (f:Value) (r:List V->Hp->VK->Prop):Prop:=
 ∀(pz:List (Addr × Obj)) (s:Shared) (σ:St) (H:Hp) (xs:List V) (us:List Value) (Q:VK),Inv X pz σ H s->Vals xs us->r xs H Q ->
  wpAny (model X.prog X.w) X.A (call f us) (EP X pz σ Q) X.xe s
def TruR (X:Cx) (r:V->Hp->(Bool->Hp->Prop)->Prop):Prop:=
 ∀(pz:List (Addr × Obj)) (s:Shared) (σ:St) (H:Hp) (x:V) (v:Value) (Q:Bool->Hp->Prop),Inv X pz σ H s->RelV x v->r x H Q ->
  wpAny (model X.prog X.w) X.A (truthy v) (TP X pz σ Q) X.xe s
def tOp (r:R2) (ta tb:TE):TE:=fun σ H Q=>ta σ H fun x H1=>tb σ H1 fun y H2=>r x y H2 Q
def tUn (r:V->Hp->VK->Prop) (ta:TE):TE:=fun σ H Q=>ta σ H fun x H1=>r x H1 Q
def rI (C:Int->Int->Prop) (g:Int->Int->V):R2:=fun x y H Q=>∃i j,x=.int i/\y=.int j/\C i j/\Q (g i j) H
def rI0 (g:Int->Int->V):R2:=fun x y H Q=>∃i j,x=.int i/\y=.int j/\Q (g i j) H
def rU (g:Int->V):V->Hp->VK->Prop:=fun x H Q=>∃i,x=.int i/\Q (g i) H
section
variable {X:Cx} {a b c:Expr} {ta tb tc:TE} {pos:Pos}
theorem binT (ha:PE X a ta) (hb:PE X b tb) {pz:List (Addr × Obj)} {s:Shared} {σ:St} {H:Hp} {R:V->V->Hp->Prop} (I:Inv X pz σ H s)
  (h:ta σ H fun x H1=>tb σ H1 fun y H2=>R x y H2) {Q:Value->Shared->Prop} {f:Value->Value->Sem Value}
  (hf:∀v u s2 x y H2,Inv X pz σ H2 s2->RelV x v->RelV y u->R x y H2->wpAny (model X.prog X.w) X.A (f v u) Q X.xe s2) :
  wpAny (model X.prog X.w) X.A (eval a X.env) (fun v s₁=>wpAny (model X.prog X.w) X.A (eval b X.env) (fun u s₂=>wpAny (model X.prog X.w) X.A (f v u) Q X.xe s₂) X.xe s₁) X.xe s:=by
 refine thn (ha pz s σ H _ I h) fun v s1 ⟨x,H1,I1,r1,q1⟩=>?_
 refine thn (hb pz s1 σ H1 _ I1 q1) fun u s2 ⟨y,H2,I2,r2,q2⟩=>?_
 exact hf v u s2 x y H2 I2 r1 r2 q2
theorem zsg {op:Operator} {r:R2} (ho:OpR X (binaryOp op) r) (ha:PE X a ta) (hb:PE X b tb):PE X (.BinOp a op b pos) (tOp r ta tb):=by
 intro pz s σ H Q I h
 exact wpAny_BinOp (binT ha hb I h fun v u s2 x y H2 I2 rx ry q=>ho pz s2 σ H2 x y v u Q I2 rx ry q)
theorem zt6 {op:UnaryOp} {r:V->Hp->VK->Prop} (ho:UnR X (unaryOp op) r) (ha:PE X a ta):PE X (.UnaryOp op a pos) (tUn r ta):=by
 intro pz s σ H Q I h
 exact UnaryOp_ (thn (ha pz s σ H _ I h) fun v s1 ⟨x,H1,I1,r1,q1⟩=>ho pz s1 σ H1 x v Q I1 r1 q1)
theorem opI {f:Value->Value->Sem Value} {C:Int->Int->Prop} {g:Int->Int->Int}
  (rule:∀(i j:Int) (t u:Tok) (s:Shared) (Q:Value->Shared->Prop) (E:Value->Shared->Prop),C i j->Q (.int (g i j) s.toks) { s with toks:=s.toks + 1 }->wpAny (model X.prog X.w) X.A (f (.int i t) (.int j u)) Q E s) :
  OpR X f (rI C fun i j=>.int (g i j)):=by
 intro pz s σ H x y v u Q I rx ry h
 obtain ⟨i,j,rfl,rfl,hc,q⟩:=h
 obtain ⟨t,rfl⟩:=rx
 obtain ⟨t',rfl⟩:=ry
 exact rule i j t t' s _ _ hc ⟨.int (g i j),H,I.tok _,⟨_,rfl⟩,q⟩
theorem opI0 {f:Value->Value->Sem Value} {g:Int->Int->Int}
  (rule:∀(i j:Int) (t u:Tok) (s:Shared) (Q:Value->Shared->Prop) (E:Value->Shared->Prop),Q (.int (g i j) s.toks) { s with toks:=s.toks + 1 }->wpAny (model X.prog X.w) X.A (f (.int i t) (.int j u)) Q E s) :
  OpR X f (rI0 fun i j=>.int (g i j)):=by
 intro pz s σ H x y v u Q I rx ry h
 obtain ⟨i,j,rfl,rfl,q⟩:=h
 obtain ⟨t,rfl⟩:=rx
 obtain ⟨t',rfl⟩:=ry
 exact rule i j t t' s _ _ ⟨.int (g i j),H,I.tok _,⟨_,rfl⟩,q⟩
theorem opB0 {f:Value->Value->Sem Value} {g:Int->Int->Bool}
  (rule:∀(i j:Int) (t u:Tok) (s:Shared) (Q:Value->Shared->Prop) (E:Value->Shared->Prop),Q (.bool (g i j)) s->wpAny (model X.prog X.w) X.A (f (.int i t) (.int j u)) Q E s) :
  OpR X f (rI0 fun i j=>.bl (g i j)):=by
 intro pz s σ H x y v u Q I rx ry h
 obtain ⟨i,j,rfl,rfl,q⟩:=h
 obtain ⟨t,rfl⟩:=rx
 obtain ⟨t',rfl⟩:=ry
 exact rule i j t t' s _ _ ⟨.bl (g i j),H,I,rfl,q⟩
def CDiv (i j:Int):Prop:=0 < j/\j < 1073741824
def CPow (i j:Int):Prop:=0<=j/\j<=1000000/\i.natAbs < 2 ^ 64
def CMul (i j:Int):Prop:=(-(2 ^ 64) < i/\i < 2 ^ 64)\/(-(2 ^ 64) < j/\j < 2 ^ 64)
theorem CMul.ok {i j:Int} (h:CMul i j):IntMulOk i j:=by
 rcases h with ⟨h1,h2⟩ | ⟨h1,h2⟩
 ·exact .of_left (intBits_le_64 h1 h2)
 ·exact .of_right (intBits_le_64 h1 h2)
theorem zmJ:OpR X (binaryOp .Add) (rI0 fun i j=>.int (i + j)):=opI0 fun _ _ _ _ _ _ _ q=>add_int q
theorem zsr:OpR X (binaryOp .Mult) (rI CMul fun i j=>.int (i * j)):=opI fun _ _ _ _ _ _ _ hc q=>mul_int q hc.ok
theorem zqH:OpR X (binaryOp .FloorDiv) (rI CDiv fun i j=>.int (i / j)):=opI fun i j _ _ _ _ _ hc q=>by
 have h1:(0:Int) < j:=hc.1
 have h2:j < 1073741824:=hc.2
 exact floordiv_int (by omega) (by rw [Int.fdiv_eq_ediv_of_nonneg i (by omega)]; exact q) (.inl (PyProof.noPylong_small (by omega)))
theorem zss:OpR X (binaryOp .Mod) (rI (fun _ j=>0 < j) fun i j=>.int (i % j)):=opI fun i j _ _ _ _ _ hc q=>by
 have h1:(0:Int) < j:=hc
 exact mod_int' (by omega) (by rw [Int.fmod_eq_emod_of_nonneg i (by omega)]; exact q)
theorem zsq:OpR X (binaryOp .Pow) (rI CPow fun i j=>.int (i ^ j.toNat)):=opI fun _ _ _ _ _ _ _ hc q=>pow_int_small hc.1 hc.2.1 hc.2.2 q
theorem unI {f:Value->Sem Value} {g:Int->Int}
  (rule:∀(i:Int) (t:Tok) (s:Shared) (Q:Value->Shared->Prop) (E:Value->Shared->Prop),Q (.int (g i) s.toks) { s with toks:=s.toks + 1 }->wpAny (model X.prog X.w) X.A (f (.int i t)) Q E s) :
  UnR X f (rU fun i=>.int (g i)):=by
 intro pz s σ H x v Q I rx h
 obtain ⟨i,rfl,q⟩:=h
 obtain ⟨t,rfl⟩:=rx
 exact rule i t s _ _ ⟨.int (g i),H,I.tok _,⟨_,rfl⟩,q⟩
theorem zrv:UnR X (unaryOp .USub) (rU fun i=>.int (-i)):=unI fun _ _ _ _ _ q=>neg_int q
end
def scal:V->V->Bool
 | .non,.non=>true | .non,.int _=>true | .int _,.non=>true | .non,.bl _=>true | .bl _,.non=>true | .non,.str _=>true | .str _,.non=>true
 | .int _,.int _=>true | .bl _,.bl _=>true | .str _,.str _=>true | .byt _,.byt _=>true
 | .int _,.str _=>true | .str _,.int _=>true | .bl _,.str _=>true | .str _,.bl _=>true
 | _,_=>false
def rEq:R2:=fun x y H Q=>scal x y=true/\Q (.bl (decide (x=y))) H
def rNe:R2:=fun x y H Q=>scal x y=true/\Q (.bl (! decide (x=y))) H
theorem zj0 {i j:Int}:decide (V.int i=V.int j)=(i == j):=by
 rw [Bool.eq_iff_iff]
 simp
theorem znt {i j:Bool}:decide (V.bl i=V.bl j)=(i == j):=by
 rw [Bool.eq_iff_iff]
 simp
theorem zjZ {i j:Str}:decide (V.str i=V.str j)=(i == j):=by
 rw [Bool.eq_iff_iff]
 simp
theorem zns {i j:Array UInt8}:decide (V.byt i=V.byt j)=(i.toList == j.toList):=by
 rw [Bool.eq_iff_iff]
 cases i
 cases j
 simp
section
variable {X:Cx} {a b c:Expr} {ta tb tc:TE} {pos:Pos}
theorem zaG {pz:List (Addr × Obj)} {σ:St} {H:Hp} {s:Shared} {Q:VK} {k k':Bool} (I:Inv X pz σ H s) (q:Q (.bl k) H) (e:k=k'):EP X pz σ Q (.bool k') s:=by
 subst e
 exact ⟨.bl k,H,I,rfl,q⟩
theorem zsy:OpR X (compareOp .Eq) rEq:=by
 intro pz s σ H x y v u Q I rx ry h
 obtain ⟨hs,q⟩:=h
 cases x with
 | non=>
  cases rx
  cases y with
  | non=>cases ry; exact PySem.EqNone.eq_none_none (zaG I q (by simp))
  | bl j=>cases ry; exact PySem.EqNone.eq_none_bool (zaG I q (by simp))
  | int j=>obtain ⟨t',rfl⟩:=ry; exact PySem.EqNone.eq_none_int (zaG I q (by simp))
  | str j=>obtain ⟨t',rfl⟩:=ry; exact PySem.EqNone.eq_none_str (zaG I q (by simp))
  | _=>exact absurd (show false=true from hs) Bool.false_ne_true
 | bl i=>
  cases rx
  cases y with
  | non=>cases ry; exact PySem.EqNone.eq_bool_none (zaG I q (by simp))
  | bl j=>cases ry; exact eq_bool (zaG I q znt)
  | str j=>obtain ⟨t',rfl⟩:=ry; exact PySem.EqMixed.eq_bool_str (zaG I q (by simp))
  | _=>exact absurd (show false=true from hs) Bool.false_ne_true
 | int i=>
  obtain ⟨t,rfl⟩:=rx
  cases y with
  | non=>cases ry; exact PySem.EqNone.eq_int_none (zaG I q (by simp))
  | int j=>obtain ⟨t',rfl⟩:=ry; exact eq_int (zaG I q zj0)
  | str j=>obtain ⟨t',rfl⟩:=ry; exact PySem.EqMixed.eq_int_str (zaG I q (by simp))
  | _=>exact absurd (show false=true from hs) Bool.false_ne_true
 | str i=>
  obtain ⟨t,rfl⟩:=rx
  cases y with
  | non=>cases ry; exact PySem.EqNone.eq_str_none (zaG I q (by simp))
  | bl j=>cases ry; exact PySem.EqMixed.eq_str_bool (zaG I q (by simp))
  | int j=>obtain ⟨t',rfl⟩:=ry; exact PySem.EqMixed.eq_str_int (zaG I q (by simp))
  | str j=>obtain ⟨t',rfl⟩:=ry; exact eq_str (zaG I q zjZ)
  | _=>exact absurd (show false=true from hs) Bool.false_ne_true
 | byt i=>
  obtain ⟨t,rfl⟩:=rx
  cases y with
  | byt j=>obtain ⟨t',rfl⟩:=ry; exact W.eq_bytes (zaG I q zns)
  | _=>exact absurd (show false=true from hs) Bool.false_ne_true
 | _=>cases y <;> exact absurd (show false=true from hs) Bool.false_ne_true
theorem zt9:OpR X (compareOp .NotEq) rNe:=by
 intro pz s σ H x y v u Q I rx ry h
 obtain ⟨hs,q⟩:=h
 cases x with
 | non=>
  cases rx
  cases y with
  | non=>cases ry; exact PySem.EqNone.ne_none_none (zaG I q (by simp))
  | bl j=>cases ry; exact PySem.EqNone.ne_none_bool (zaG I q (by simp))
  | int j=>obtain ⟨t',rfl⟩:=ry; exact PySem.EqNone.ne_none_int (zaG I q (by simp))
  | str j=>obtain ⟨t',rfl⟩:=ry; exact PySem.EqNone.ne_none_str (zaG I q (by simp))
  | _=>exact absurd (show false=true from hs) Bool.false_ne_true
 | bl i=>
  cases rx
  cases y with
  | non=>cases ry; exact PySem.EqNone.ne_bool_none (zaG I q (by simp))
  | bl j=>cases ry; exact ne_bool (zaG I q (congrArg not znt))
  | str j=>obtain ⟨t',rfl⟩:=ry; exact PySem.EqMixed.ne_bool_str (zaG I q (by simp))
  | _=>exact absurd (show false=true from hs) Bool.false_ne_true
 | int i=>
  obtain ⟨t,rfl⟩:=rx
  cases y with
  | non=>cases ry; exact PySem.EqNone.ne_int_none (zaG I q (by simp))
  | int j=>obtain ⟨t',rfl⟩:=ry; exact ne_int (zaG I q (congrArg not zj0))
  | str j=>obtain ⟨t',rfl⟩:=ry; exact PySem.EqMixed.ne_int_str (zaG I q (by simp))
  | _=>exact absurd (show false=true from hs) Bool.false_ne_true
 | str i=>
  obtain ⟨t,rfl⟩:=rx
  cases y with
  | non=>cases ry; exact PySem.EqNone.ne_str_none (zaG I q (by simp))
  | bl j=>cases ry; exact PySem.EqMixed.ne_str_bool (zaG I q (by simp))
  | int j=>obtain ⟨t',rfl⟩:=ry; exact PySem.EqMixed.ne_str_int (zaG I q (by simp))
  | str j=>obtain ⟨t',rfl⟩:=ry; exact ne_str (zaG I q (congrArg not zjZ))
  | _=>exact absurd (show false=true from hs) Bool.false_ne_true
 | byt i=>
  obtain ⟨t,rfl⟩:=rx
  cases y with
  | byt j=>obtain ⟨t',rfl⟩:=ry; exact W.ne_bytes (zaG I q (congrArg not zns))
  | _=>exact absurd (show false=true from hs) Bool.false_ne_true
 | _=>cases y <;> exact absurd (show false=true from hs) Bool.false_ne_true
theorem zst:OpR X (compareOp .Lt) (rI0 fun i j=>.bl (decide (i < j))):=opB0 fun _ _ _ _ _ _ _ q=>lt_int q
theorem zua:OpR X (compareOp .LtE) (rI0 fun i j=>.bl (decide (i<=j))):=opB0 fun _ _ _ _ _ _ _ q=>le_int q
theorem zsx:OpR X (compareOp .Gt) (rI0 fun i j=>.bl (decide (j < i))):=opB0 fun _ _ _ _ _ _ _ q=>gt_int q
theorem zmF:OpR X (compareOp .In) (fun x y H Q=>∃i j,x=.str i/\y=.str j/\Q (.bl (!(Builtin.Str.occurrences j i 0 j.length 1).isEmpty)) H):=by
 intro pz s σ H x y v u Q I rx ry h
 obtain ⟨i,j,rfl,rfl,q⟩:=h
 obtain ⟨t,rfl⟩:=rx
 obtain ⟨t',rfl⟩:=ry
 exact in_str (zaG I q rfl)
theorem zsu:OpR X (compareOp .Is) (fun x y H Q=>y=.non/\Q (.bl (decide (x=.non))) H):=by
 intro pz s σ H x y v u Q I rx ry h
 obtain ⟨rfl,q⟩:=h
 cases ry
 refine is_none_gen (zaG I q ?_)
 cases x <;> first
  | (cases rx; rfl)
  | (obtain ⟨t,rfl⟩:=rx; rfl)
theorem zqE:OpR X (compareOp .IsNot) (fun x y H Q=>y=.non/\Q (.bl (! decide (x=.non))) H):=by
 intro pz s σ H x y v u Q I rx ry h
 obtain ⟨rfl,q⟩:=h
 cases ry
 refine isnot_none_gen (zaG I q ?_)
 cases x <;> first
  | (cases rx; rfl)
  | (obtain ⟨t,rfl⟩:=rx; rfl)
theorem OpR.or {f:Value->Value->Sem Value} {r r':R2} (h:OpR X f r) (h':OpR X f r'):OpR X f (fun x y H Q=>r x y H Q\/r' x y H Q):=by
 intro pz s σ H x y v u Q I rx ry q
 rcases q with q | q
 ·exact h pz s σ H x y v u Q I rx ry q
 ·exact h' pz s σ H x y v u Q I rx ry q
theorem zfL (b:Expr) {op:CmpOp} (h:op≠.In:=by decide) (h2:op≠.NotIn:=by decide):behindInMarks op b=false:=by
 have e1:(op == CmpOp.In)=false:=by cases op <;> first | rfl | exact absurd rfl h
 have e2:(op == CmpOp.NotIn)=false:=by cases op <;> first | rfl | exact absurd rfl h2
 cases b <;> simp [behindInMarks,e1,e2]
theorem zqA {op:CmpOp} {r:R2} (ho:OpR X (compareOp op) r) (ha:PE X a ta) (hb:PE X b tb) (hm:behindInMarks op b=false):PE X (.Compare a [op] [b] pos) (tOp r ta tb):=by
 intro pz s σ H Q I h
 exact wpAny_Compare1 (binT ha hb I h fun v u s2 x y H2 I2 rx ry q=>ho pz s2 σ H2 x y v u Q I2 rx ry q) hm
def ztL (t:TE):TT:=fun σ H Q=>t σ H fun x H'=>∃k,x=.bl k/\Q k H'
theorem zqt {op:CmpOp} {r:R2} (ho:OpR X (compareOp op) r) (ha:PE X a ta) (hb:PE X b tb) (hm:behindInMarks op b=false):PT X (.Compare a [op] [b] pos) (ztL (tOp r ta tb)):=by
 intro pz s σ H Q I h
 refine wpAny_isTrue_Compare1 (thn (ha pz s σ H _ I h) fun v s1 ⟨x,H1,I1,r1,q1⟩=>thn (hb pz s1 σ H1 _ I1 q1) fun u s2 ⟨y,H2,I2,r2,q2⟩=>
  thn (ho pz s2 σ H2 x y v u _ I2 r1 r2 q2) fun c s3 ⟨z,H3,I3,r3,k,e,q3⟩=>?_) hm
 subst e
 cases r3
 exact wpAny_truthy_bool ⟨H3,I3,q3⟩
def zpa (r r':R2) (ta tb tc:TE):TE:=fun σ H Q=>ta σ H fun x H1=>tb σ H1 fun y H2=>r x y H2 fun z H3=>∃k,z=.bl k /\
 (if k=true then tc σ H3 fun w' H4=>r' y w' H4 Q else Q (.bl false) H3)
theorem zoi {op op':CmpOp} {r r':R2} (ho:OpR X (compareOp op) r) (ho':OpR X (compareOp op') r') (ha:PE X a ta) (hb:PE X b tb) (hc:PE X c tc)
  (hm:lastMarks [op,op'] [b,c]=false:=by with_unfolding_all rfl):PE X (.Compare a [op,op'] [b,c] pos) (zpa r r' ta tb tc):=by
 intro pz s σ H Q I h
 refine Compare_chain (thn (ha pz s σ H _ I h) fun v s1 ⟨x,H1,I1,r1,q1⟩=>chain_link (thn (hb pz s1 σ H1 _ I1 q1) fun u s2 ⟨y,H2,I2,r2,q2⟩=>
  thn (ho pz s2 σ H2 x y v u _ I2 r1 r2 q2) fun d s3 ⟨z,H3,I3,r3,k,e,q3⟩=>?_)) hm
 subst e
 cases r3
 refine wpAny_truthy_bool ?_
 cases k with
 | false=>exact ite_ff ⟨.bl false,H3,I3,rfl,q3⟩
 | true=>exact ite_tt (chain_last (thn (hc pz s3 σ H3 _ I3 q3) fun w' s4 ⟨z',H4,I4,r4,q4⟩=>ho' pz s4 σ H4 y z' u w' Q I4 r2 r4 q4))
def TruV (K:W.Frag) (x:V) (H:Hp) (k:Bool):Prop:=
 match x with
 | .non=>k=false
 | .bl b=>k=b
 | .int i=>k=(i != 0)
 | .str y=>y.length<=sizeLine/\k=((y.length:Int) != 0)
 | .byt y=>y.size<=sizeLine/\k=((y.size:Int) != 0)
 | .ref p=>(∃xs,SqL K H p xs/\k = ! xs.isEmpty)\/(∃xs,SqT K H p xs/\k = ! xs.isEmpty)\/∃kz,Rd H p (.dK kz)/\k = ! kz.isEmpty
 | _=>False
theorem zlx {κ:Type} {kz:List (κ × V)} {vs:List (κ × Value)} (r:KV kz vs):(! vs.isEmpty) = ! kz.isEmpty:=by
 cases r <;> rfl
theorem zht {xs:List V} {its:List Value} (r:Vals xs its):(! its.toArray.isEmpty) = ! xs.isEmpty:=by
 cases r <;> simp
theorem zhp:(sizeLine:Nat) < 2 ^ 63:=by rw [sizeLine_eq]; decide
theorem zrA:TruR X (fun x H Q=>∃k,TruV X.K x H k/\Q k H):=by
 intro pz s σ H x v Q I rx h
 obtain ⟨k,e,q⟩:=h
 have hl:=zhp
 have hs:sizeLine=16777216:=sizeLine_eq
 cases x with
 | non=>
  cases rx
  have e':k=false:=e
  subst e'
  exact truthy_none ⟨H,I,q⟩
 | bl b=>
  cases rx
  have e':k=b:=e
  subst e'
  exact wpAny_truthy_bool ⟨H,I,q⟩
 | int i=>
  obtain ⟨t,rfl⟩:=rx
  have e':k=(i != 0):=e
  subst e'
  exact PySem.P.truthy_int ⟨H,I,q⟩
 | str y=>
  obtain ⟨t,rfl⟩:=rx
  obtain ⟨hy,e'⟩:y.length<=sizeLine/\k=((y.length:Int) != 0):=e
  subst e'
  exact PySem.P.truthy_str (by omega) ⟨H,I.tok _,q⟩
 | byt y=>
  obtain ⟨t,rfl⟩:=rx
  obtain ⟨hy,e'⟩:y.size<=sizeLine/\k=((y.size:Int) != 0):=e
  subst e'
  exact W.truthy_bytes (by omega) ⟨H,I.tok _,q⟩
 | ref p=>
  cases rx
  have e':(∃xs,SqL X.K H p xs/\k = ! xs.isEmpty)\/(∃xs,SqT X.K H p xs/\k = ! xs.isEmpty)\/∃kz,Rd H p (.dK kz)/\k = ! kz.isEmpty:=e
  rcases e' with ⟨xs,hx,e'⟩ | ⟨xs,hx,e'⟩ | ⟨kz,hx,e'⟩
  ·subst e'
   obtain ⟨its,r,pl,hz⟩:=I.list hx
   have hlen:=r.length
   exact wpAny_truthy_list pl.isList (by simp only [List.size_toArray]; omega) ⟨H,I.tok _,by rw [zht r]; exact q⟩
  ·subst e'
   obtain ⟨its,r,pl,hz⟩:=I.tuple hx
   have hlen:=r.length
   exact truthy_tuple pl (by simp only [List.size_toArray]; omega) ⟨H,I.tok _,by rw [zht r]; exact q⟩
  ·subst e'
   obtain ⟨hz,hS,vs,r,m⟩:kz.length<=sizeLine/\(p == sysModules)=false/\∃vs,KV kz vs/\s.heap.DictOf (zbl X.prog X.w) p vs:=hx.ok I.hok
   have hlen:kz.length=vs.length:=Paired.length r
   exact wpAny_truthy_dict hS m (by omega) ⟨H,I.tok _,by rw [zlx r]; exact q⟩
 | _=>exact (show False from e).elim
theorem zn9 (ha:PE X a ta) (he:∀whole,isTrue a X.env whole=(do let v <-whole; standAt a.pos; holding [v] (truthy v))) :
  PT X a (fun σ H Q=>ta σ H fun x H'=>∃k,TruV X.K x H' k/\Q k H'):=by
 intro pz s σ H Q I h
 exact isTrue_plain (thn (ha pz s σ H _ I h) fun v s1 ⟨x,H1,I1,r1,q1⟩=>zrA pz s1 σ H1 x v Q I1 r1 q1) (he _)
theorem zhn:OpR X (binaryOp .Add) (fun x y H Q=>∃i j,x=.str i/\y=.str j/\i.length + j.length<=sizeLine/\Q (.str (i++j)) H):=by
 intro pz s σ H x y v u Q I rx ry h
 obtain ⟨i,j,rfl,rfl,hz,q⟩:=h
 obtain ⟨t,rfl⟩:=rx
 obtain ⟨t',rfl⟩:=ry
 exact add_str (fun t' tk=>⟨.str (i++j),H,I.tok _,⟨_,rfl⟩,q⟩) hz
theorem zeK {x:V} {us:List Value} (r:Vals [x] us):∃u,us=[u]/\RelV x u:=by
 cases r with
 | cons r1 r2=>cases r2; exact ⟨_,rfl,r1⟩
theorem zrs {x y:V} {us:List Value} (r:Vals [x,y] us):∃u w',us=[u,w']/\RelV x u/\RelV y w':=by
 cases r with
 | cons r1 r2=>
  cases r2 with
  | cons r3 r4=>cases r4; exact ⟨_,_,rfl,r1,r3⟩
theorem zoY:zdV X (.builtin "abs") (fun xs H Q=>∃i,xs=[.int i]/\Q (.int (if i < 0 then -i else i)) H):=by
 intro pz s σ H xs us Q I r h
 obtain ⟨i,rfl,q⟩:=h
 obtain ⟨u,rfl,t,rfl⟩:=zeK r
 exact call_abs_int fun u tk=>⟨.int (if i < 0 then -i else i),H,I.tok _,⟨_,rfl⟩,q⟩
def LenV (K:W.Frag) (x:V) (H:Hp) (n:Nat):Prop:=
 match x with
 | .str y=>y.length<=sizeLine/\n=y.length
 | .byt y=>y.size<=sizeLine/\n=y.size
 | .ref p=>(∃xs,SqL K H p xs/\n=xs.length)\/∃xs,SqT K H p xs/\n=xs.length
 | _=>False
theorem zoV:zdV X (.builtin "len") (fun xs H Q=>∃x n,xs=[x]/\LenV X.K x H n/\Q (.int n) H):=by
 intro pz s σ H xs us Q I r h
 obtain ⟨x,n,rfl,e,q⟩:=h
 obtain ⟨u,rfl,rx⟩:=zeK r
 have hl:=zhp
 have hs:sizeLine=16777216:=sizeLine_eq
 cases x with
 | str y=>
  obtain ⟨t,rfl⟩:=rx
  obtain ⟨hy,e'⟩:y.length<=sizeLine/\n=y.length:=e
  subst e'
  exact len_str (by omega) ⟨.int _,H,I.tok _,⟨_,rfl⟩,q⟩
 | byt y=>
  obtain ⟨t,rfl⟩:=rx
  obtain ⟨hy,e'⟩:y.size<=sizeLine/\n=y.size:=e
  subst e'
  exact W.len_bytes (by omega) ⟨.int _,H,I.tok _,⟨_,rfl⟩,q⟩
 | ref p=>
  cases rx
  have e':(∃xs,SqL X.K H p xs/\n=xs.length)\/∃xs,SqT X.K H p xs/\n=xs.length:=e
  rcases e' with ⟨xs,hx,e'⟩ | ⟨xs,hx,e'⟩
  ·subst e'
   obtain ⟨its,r',pl,hz⟩:=I.list hx
   have hlen:=r'.length
   exact Calls.call_len_list pl.isList (by simp only [List.size_toArray]; omega) ⟨.int xs.length,H,I.tok _,⟨_,by simp only [List.size_toArray]; rw [hlen]⟩,q⟩
  ·subst e'
   obtain ⟨its,r',pl,hz⟩:=I.tuple hx
   have hlen:=r'.length
   exact len_tuple pl (by simp only [List.size_toArray]; omega) ⟨.int xs.length,H,I.tok _,⟨_,by simp only [List.size_toArray]; rw [hlen]⟩,q⟩
 | _=>exact (show False from e).elim
end
structure ObjM (h:Heap) (x dx C:Addr) (mA:Str->Option Value):Prop where
 obj:h.get? x=some (W.instObj C dx)
 ns:h.Ns1 dx mA
 ne:dx≠x
theorem RelO.some_of {v:V} {o:Option Value} (r:RelO (some v) o):∃u,o=some u/\RelV v u:=by
 cases o with
 | none=>exact (show False from r).elim
 | some u=>exact ⟨u,rfl,r⟩
structure Cls (K:W.Frag) (C:Addr):Prop where
 pg:W.plainGet K C Str.empty=true
 hd:W.hasDictIn K C=true
 po:W.plainOver K C=true
 sa:W.findIn K (.ref C) "__setattr__" = some (some (.builtin "object.__setattr__"))
theorem Cls.get {K:W.Frag} {C:Addr} (c:Cls K C) (f:Str):W.plainGet K C f=true:=c.pg
structure Con (K:W.Frag) (C:Addr) (f:Str) (v:V) (u:Value):Prop where
 at_:W.findIn K (.ref C) f=some (some u)
 rel:RelV v u
 get:W.specialIn K u "__get__" = some none
 cp:W.copiedNames.contains f=false
structure Meth (K:W.Frag) (C:Addr) (m:Str) (f:Addr):Prop where
 at_:W.findIn K (.ref C) m=some (some (.ref f))
 fn:W.isFn K (.ref f)=true
 kp:W.keepIn K (.ref f)=true
section
variable {X:Cx} {pz:List (Addr × Obj)} {σ:St} {H:Hp} {s:Shared} {A:Around} {E:Value->Shared->Prop} {Q:Value->Shared->Prop} {c:Value} {b:Bool}
inductive TyOf (K:W.Frag) (H:Hp):V->Value->Prop where
 | non:TyOf K H .non (.type "NoneType")
 | bl (x:Bool):TyOf K H (.bl x) (.type "bool")
 | int (i:Int):TyOf K H (.int i) (.type "int")
 | str (x:Str):TyOf K H (.str x) (.type "str")
 | flt (x:UInt64):TyOf K H (.flt x) (.type "float")
 | lst {a:Addr} {xs:List V} (e:H a=some (.lst xs)):TyOf K H (.ref a) (.type "list")
 | frz {a:Addr} {o:Obj} {xs:List V} (e:H a=some (.frz o (.lst xs))):TyOf K H (.ref a) (.type "list")
 | tup {a:Addr} {xs:List V} (e:H a=some (.tup xs)):TyOf K H (.ref a) (.type "tuple")
 | dK {a:Addr} {kz:List (Key × V)} (e:H a=some (.dK kz)):TyOf K H (.ref a) (.type "dict")
 | dT {a:Addr} {kz:List (List Key × V)} (e:H a=some (.dT kz)):TyOf K H (.ref a) (.type "dict")
 | ins {a C dx:Addr} {fs:List (Str × V)} (e:H a=some (.ins C dx fs)) (cl:Cls K C) (ha:W.findIn K (.ref C) "__class__" = some (some (.builtin "object.__class__")))
   (hn:W.specialIn K (.builtin "object.__class__") "__get__" = some (some (.builtin "getset_descriptor.__get__"))) (htk:W.takesIn K (.builtin "object.__class__")=some true)
   (hm:W.mroIn K C (.type "object")=some true):TyOf K H (.ref a) (.ref C)
end
structure Room (k:Nat) (A:Around):Prop where
 hd:A.handled=none
 dp:A.depth + 3 * k + 5 < recursionLimit
 un:A.units + 16 * k + 200 < cLine
 gd:A.guards=some []
theorem Room.mono {j k:Nat} {A:Around} (r:Room k A) (h:j<=k):Room j A:=⟨r.hd,by have:=r.dp; omega,by have:=r.un; omega,r.gd⟩
theorem Room.deeper {k:Nat} {A:Around} (r:Room (k + 1) A) (env:Env):Room k (A.deeper env):=
 ⟨r.hd,by have:=r.dp; show A.depth + 1 + 3 * k + 5 < _; omega,by have:=r.un; show A.units + 3 + 16 * k + 200 < _; omega,r.gd⟩
theorem Room.depth {k:Nat} {A:Around} (r:Room k A):A.depth < recursionLimit:=by have:=r.dp; omega
theorem Room.units {k:Nat} {A:Around} (r:Room k A):A.units + 64 < cLine:=by have:=r.un; omega
def tNil:TA:=fun _ H Q=>Q [] H
def ztQ (ta:TE) (tr:TA):TA:=fun σ H Q=>ta σ H fun x H1=>tr σ H1 fun xs H2=>Q (x::xs) H2
section
variable {X:Cx} {e:Expr} {es:List Expr} {te:TE} {t:TA} {pos:Pos}
theorem zgz:PA X [] tNil:=fun _ _ _ _ H Q I h=>Calls.spliced_nil ⟨[],H,I,.nil,h⟩
theorem zdI (ha:PE X e te) (hr:PA X es t) (hs:starEach (e::es) X.env=(false,eval e X.env)::starEach es X.env:=by rfl):PA X (e::es) (ztQ te t):=by
 intro pos pz s σ H Q I h
 rw [hs]
 show wpAny _ _ (spliced ((false,eval e X.env)::backTo pos (starEach es X.env))) _ _ s
 refine Calls.spliced_cons (thn (ha pz s σ H _ I h) fun u s1 ⟨x,H1,I1,r1,q1⟩=>?_)
 exact thn (hr pos pz s1 σ H1 _ I1 q1) fun us s2 ⟨xs,H2,I2,r2,q2⟩=>⟨x::xs,H2,I2,.cons r1 r2,q2⟩
def tTup (t:TA):TE:=fun σ H Q=>t σ H fun xs H1=>xs.length<=sizeLine/\∀p,H1 p=none->Q (.ref p) (upd H1 p (.tup xs))
def tLst (t:TA):TE:=fun σ H Q=>t σ H fun xs H1=>xs.length<=sizeLine/\∀p,H1 p=none->Q (.ref p) (upd H1 p (.lst xs))
theorem zsf {x1} (h:PA X es t):PE X (.Tuple es x1 pos) (tTup t):=by
 intro pz s σ H Q I hq
 refine wpAny_Tuple_spliced (thn (h pos pz s σ H _ I hq) fun us s1 ⟨xs,H1,I1,r,z,q⟩=>⟨by rw [<-r.length]; exact z,?_⟩)
 have hf:H1 s1.heap.objs.size=none:=I1.hok.fresh (Nat.le_refl _)
 refine ⟨.ref s1.heap.objs.size,upd H1 s1.heap.objs.size (.tup xs),I1.laid (t':=s1.toks) (fun b u e=>Heap.get?_push_of_some _ e) (Nat.le_refl _) ?_,rfl,q _ hf⟩
 exact ⟨z,us,r,⟨_,Heap.get?_push_size _ rfl,rfl,_,rfl⟩,_,Heap.get?_push_size _ rfl,rfl⟩
theorem zsk (h:PA X es t):PE X (.List es pos) (tLst t):=by
 intro pz s σ H Q I hq
 refine wpAny_List_spliced (thn (h pos pz s σ H _ I hq) fun us s1 ⟨xs,H1,I1,r,z,q⟩=>⟨by rw [<-r.length]; exact z,?_⟩)
 have hf:H1 s1.heap.objs.size=none:=I1.hok.fresh (Nat.le_refl _)
 refine ⟨.ref s1.heap.objs.size,upd H1 s1.heap.objs.size (.lst xs),I1.laid (t':=s1.toks) (fun b u e=>Heap.get?_push_of_some _ e) (Nat.le_refl _) ?_,rfl,q _ hf⟩
 exact ⟨z,us,0,r,Heap.get?_push_size _ rfl⟩
end
abbrev Sp:=List V->Hp->VK->XK->Prop
abbrev CXT:=List Env->Hp->Shared->XK->Value->Shared->Prop
structure Env0 (P:Program) (w:World) (K:W.Frag) (mg:Str->Option Value) (base:Heap) (A:Around) (outer:List Env) (s:Shared) (H:Hp):Prop where
 frames:A.frames=some outer
 mod:Mod K mg base
 bs:∀b o,base.get? b=some o->s.heap.get? b=some o/\H b=none
 bsz:base.objs.size<=s.heap.objs.size
 funs:s.heap.FunFrames base outer
 frf:∀b∈frs outer,H b=none
 hok:HOk P w H s.heap
 bare:AllBare s.gens
def CE (outer:List Env) (P:Program) (w:World) (H:Hp) (s:Shared) (Q:VK) (u:Value) (s':Shared):Prop:=
 ∃v H',s'.os=s.os/\AllBare s'.gens/\Un (frs outer) [] H H' s.heap s'.heap/\HOk P w H' s'.heap/\RelV v u/\Q v H'
def CR (CX:CXT) (outer:List Env) (P:Program) (w:World) (H:Hp) (s:Shared) (Q:VK) (E:XK) (r:Result) (s':Shared):Prop:=
 match r with
 | .ok (.ret u)=>CE outer P w H s Q u s'
 | .ok _=>False
 | .error e=>CX outer H s E e s'
structure FnOk (P:Program) (w:World) (K:W.Frag) (mg:Str->Option Value) (base:Heap) (CX:CXT) (k:Nat) (f:Addr) (fd:FuncData) (ps:List Str) (sp:Sp):Prop where
 len:∀vs H Q E,sp vs H Q E->vs.length=ps.length
 run:∀(A:Around) (outer:List Env) (s:Shared) (H:Hp) (args:Args) (us:List Value) (vs:List V) (Q:VK) (E:XK),Room k A->Env0 P w K mg base A outer s H->BindsTo s fd args (ps.zip us)->Vals vs us->sp vs H Q E ->
  codeAny (model P w) A (.call (.ref f) args) (CR CX outer P w H s Q E) s
theorem FnOk.mono {P:Program} {w:World} {K:W.Frag} {mg:Str->Option Value} {base:Heap} {CX:CXT} {j k:Nat} {f:Addr} {fd:FuncData} {ps:List Str} {sp:Sp} (F:FnOk P w K mg base CX j f fd ps sp) (h:j<=k) :
  FnOk P w K mg base CX k f fd ps sp:=⟨F.len,fun A outer s H args us vs Q E hr=>F.run A outer s H args us vs Q E (hr.mono h)⟩
section
variable {X:Cx} {pz:List (Addr × Obj)} {σ:St} {H:Hp} {s s':Shared}
theorem Inv.env0 (I:Inv X pz σ H s):Env0 X.prog X.w X.K X.mg X.base X.A X.stack s H:=
 ⟨I.ok.frames,I.ok.mod,I.bs,Nat.le_trans I.ok.bsz I.sz,I.stack,I.stkFree,I.hok,I.bare⟩
theorem Inv.after {Q:VK} {u:Value} (I:Inv X pz σ H s) (h:CE X.stack X.prog X.w H s Q u s'):EP X pz σ Q u s':=by
 obtain ⟨v,H',os,bare,un,hok,r,q⟩:=h
 obtain ⟨hh,g,d,t,os'⟩:=s'
 obtain rfl:os'=s.os:=os
 exact ⟨v,H',I.call (h':=hh) (g':=g) (d':=d) (t':=t) (ch:=[]) un hok bare (fun b z=>absurd z (by simp)),r,q⟩
end
def ztR (sp:Sp) (dvs:List V) (E:XK) (t:TA):TE:=fun σ H Q=>t σ H fun vs H1=>sp (vs++dvs) H1 Q E
def zhh (K:W.Frag) (fd:FuncData) (ps:List Str) (ds:List Value):Prop:=
 ∀(s:Shared) (us:List Value),K.In s.heap->(us++ds).length=ps.length->BindsTo s fd ⟨us,[]⟩ (ps.zip (us++ds))
theorem zhh.all {K:W.Frag} {fd:FuncData} {ps:List Str} (h:∀us:List Value,us.length=ps.length->bindArgs fd ⟨us,[]⟩=pure (ps.zip us)):zhh K fd ps []:=fun s us _ hl=>by
 rw [List.append_nil] at hl ⊢
 exact .of_eq (h us hl)
def znM (CX:CXT) (X:Cx) (E:XK):Prop:=∀(pz:List (Addr × Obj)) (σ:St) (H:Hp) (s:Shared) (e:Value) (s':Shared),Inv X pz σ H s->CX X.stack H s E e s'->X.xe e s'
section
variable {X:Cx} {CX:CXT} {k:Nat} {f C:Addr} {fd:FuncData} {ps:List Str} {sp:Sp} {dvs:List V} {ds:List Value} {E:XK} {x m:Str} {p pos apos:Pos} {e o:Expr} {es:List Expr} {ta:TE} {t:TA}
theorem zrY {pz:List (Addr × Obj)} {σ:St} {H:Hp} {s:Shared} {Q:VK} {us:List Value} {vs:List V} (F:FnOk X.prog X.w X.K X.mg X.base CX k f fd ps sp) (hr:Room k X.A) (hb:zhh X.K fd ps ds) (hd:Vals dvs ds) (hx:znM CX X E)
  (I:Inv X pz σ H s) (r:Vals vs us) (h:sp (vs++dvs) H Q E):wpAny (model X.prog X.w) X.A (call (.ref f) us) (EP X pz σ Q) X.xe s:=by
 have r2:Vals (vs++dvs) (us++ds):=r.append hd
 have hl:(us++ds).length=ps.length:=by rw [<-r2.length]; exact F.len _ _ _ _ h
 refine wpAny_call (codeAny_mono (F.run X.A X.stack s H ⟨us,[]⟩ (us++ds) (vs++dvs) Q E hr I.env0 (hb s us I.kIn hl) r2 h) fun r s' hq=>?_)
 cases r with
 | error e=>exact hx pz σ H s e s' I hq
 | ok fl=>
  cases fl with
  | ret u=>exact I.after hq
  | next=>exact False.elim hq
  | brk=>exact False.elim hq
  | cont=>exact False.elim hq
theorem zqB (F:FnOk X.prog X.w X.K X.mg X.base CX k f fd ps sp) (hr:Room k X.A) (hg:Gl X x) (hm:X.mg x=some (.ref f)) (hk:W.keepIn X.K (.ref f)=true) (hb:zhh X.K fd ps ds) (hd:Vals dvs ds) (hx:znM CX X E)
  (ha:PA X (e::es) t) (hdb:(x == ("__debug__" : Str))=false:=by decide) (he:starEach (e::es) X.env=(false,eval e X.env)::starEach es X.env:=by rfl) (hpl:(backTo pos (starEach es X.env)).any (·.1)=false:=by rfl) :
  PE X (.Call (.Name x p) (e::es) [] pos) (ztR sp dvs E t):=by
 intro pz s σ H Q I h
 refine wpAny_Call_Name_kw (zmT I hg hm ?_ hdb)
 refine W.callWith_K (h₀:=X.base) I.ok.mod.kin hk (thn (ha pos pz s σ H _ I h) fun us s1 ⟨vs,H1,I1,r,q⟩=>⟨I1.kIn,?_⟩) he hpl
 exact zrY F hr hb hd hx I1 r q
structure Mk (K:W.Frag) (C f:Addr):Prop where
 makes:W.makesIn K C=true
 init:W.findIn K (.ref C) "__init__" = some (some (.ref f))
 fn:W.isFn K (.ref f)=true
 kp:W.keepIn K (.ref C)=true
end
section
variable {X:Cx} {CX:CXT} {k:Nat} {f C:Addr} {fd:FuncData} {ps ks:List Str} {sp:Sp} {E:XK} {x m:Str} {p pos apos kpos:Pos} {e o:Expr} {es:List Expr} {kws:List Keyword} {te ta:TE} {t tk:TA} {nm:Option Str}
structure KBinds (K:W.Frag) (fd:FuncData) (ps ks:List Str) (g:List Value->List Value->List Value) (gV:List V->List V->List V):Prop where
 to:∀(s:Shared) (us ws:List Value),K.In s.heap->(g us ws).length=ps.length->BindsTo s fd ⟨us,ks.zip ws⟩ (ps.zip (g us ws))
 rel:∀{vs:List V} {us:List Value} {zs:List V} {ws:List Value},Vals vs us->Vals zs ws->Vals (gV vs zs) (g us ws)
variable {g:List Value->List Value->List Value} {gV:List V->List V->List V}
end
structure FnScope (N P:List Str) (sc:Scope):Prop where
 kind:sc.kind=.function
 co:sc.isCoroutine=false
 gen:sc.isGenerator=false
 nd:N.Nodup
 pre:N.take P.length=P
 par:∀x∈P,sc.names.lookup x=some .local\/sc.names.lookup x=some .cell
 nofree:∀y∈sc.names,y.2≠.free
theorem zjf {kindOf:Str->Option NameKind} {x:Str}:∀{binds:List (Str × Value)} {m:Str->Option Value},(∀v,(x,v)∉binds)->bindL kindOf binds m x=m x
 | [],_,_=>rfl
 | (n,v)::r,m,h=>by
  unfold bindL
  rw [zjf fun w hw=>h w (List.mem_cons_of_mem _ hw)]
  split
  ·have:x≠n:=by rintro rfl; exact h v List.mem_cons_self
   simp [this]
  ·rfl
theorem zjh {kindOf:Str->Option NameKind} {x:Str}:∀{binds:List (Str × Value)} {m:Str->Option Value},(∀v,(x,v)∉binds)->bindC kindOf binds m x=m x
 | [],_,_=>rfl
 | (n,v)::r,m,h=>by
  unfold bindC
  rw [zjh fun w hw=>h w (List.mem_cons_of_mem _ hw)]
  split
  ·rfl
  ·have:x≠n:=by rintro rfl; exact h v List.mem_cons_self
   simp [this]
theorem zjg {kindOf:Str->Option NameKind} {x:Str} {v:Value}:∀{P:List Str} {vs:List Value} {i:Nat} {m:Str->Option Value},P.Nodup->P[i]? = some x->vs[i]? = some v->kindOf x=some .local ->
  bindL kindOf (P.zip vs) m x=some v
 | [],_,_,_,_,h,_,_=>by simp at h
 | _::_,[],_,_,_,_,h,_=>by simp at h
 | p::P,w::vs,0,m,nd,h1,h2,hk=>by
  simp at h1 h2; subst h1; subst h2
  show bindL kindOf ((p,w)::P.zip vs) m p=_
  unfold bindL
  rw [zjf fun v hv=>(List.nodup_cons.mp nd).1 (List.of_mem_zip hv).1,if_pos hk]
  simp
 | p::P,w::vs,i + 1,m,nd,h1,h2,hk=>by
  show bindL kindOf ((p,w)::P.zip vs) m x=_
  unfold bindL
  exact zjg (i:=i) (List.nodup_cons.mp nd).2 (by simpa using h1) (by simpa using h2) hk
theorem zji {kindOf:Str->Option NameKind} {x:Str} {v:Value}:∀{P:List Str} {vs:List Value} {i:Nat} {m:Str->Option Value},P.Nodup->P[i]? = some x->vs[i]? = some v->kindOf x≠some .local ->
  bindC kindOf (P.zip vs) m x=some v
 | [],_,_,_,_,h,_,_=>by simp at h
 | _::_,[],_,_,_,_,h,_=>by simp at h
 | p::P,w::vs,0,m,nd,h1,h2,hk=>by
  simp at h1 h2; subst h1; subst h2
  show bindC kindOf ((p,w)::P.zip vs) m p=_
  unfold bindC
  rw [zjh fun v hv=>(List.nodup_cons.mp nd).1 (List.of_mem_zip hv).1,if_neg hk]
  simp
 | p::P,w::vs,i + 1,m,nd,h1,h2,hk=>by
  show bindC kindOf ((p,w)::P.zip vs) m x=_
  unfold bindC
  exact zji (i:=i) (List.nodup_cons.mp nd).2 (by simpa using h1) (by simpa using h2) hk
def start (N:List Str) (vs:List V):St:=vs.map some++List.replicate (N.length - vs.length) none
def cxOf (CX:CXT) (P:Program) (w:World) (K:W.Frag) (mg:Str->Option Value) (base:Heap) (N:List Str) (qual:Str) (scope:Scope) (f:Addr) (cd:Value) (A:Around) (outer:List Env) (s:Shared) (H:Hp) (E:XK):Cx where
 prog:=P
 w:=w
 K:=K
 mg:=mg
 base:=base
 A:=A.deeper (envOfC qual scope s.heap.objs.size f cd)
 N:=N
 s₀:=s
 H₀:=H
 env:=envOfC qual scope s.heap.objs.size f cd
 outer:=outer
 stack:=envOfC qual scope s.heap.objs.size f cd::outer
 ex:=[]
 calm:=true
 fn:=fun _=>true
 pn:=[]
 xe:=fun e s'=>wpAny (model P w) (A.deeper (envOfC qual scope s.heap.objs.size f cd)) (leaving (envOfC qual scope s.heap.objs.size f cd) e) (fun _ s''=>CX outer H s E e s'') (fun e' s''=>CX outer H s E e' s'') s'
theorem zkS {sc:Scope} {n:Nat} {x:Str} (h:sc.names.lookup x=some .cell):∃c,(cellsFrom n sc.names []).lookup x=some c:=by
 have q:=W.cellsFrom_some sc.names n [] (.inl h)
 exact Option.isSome_iff_exists.mp q
theorem zm7 {CX:CXT} {P:Program} {w:World} {K:W.Frag} {mg:Str->Option Value} {base:Heap} {N ps:List Str} {qual:Str} {scope:Scope} {f:Addr} {cd:Value} {A:Around} {outer:List Env} {s s1:Shared} {H:Hp} {E:XK} {us:List Value} {vs:List V}
  (S:FnScope N ps scope) (hd:A.handled=none) (e0:Env0 P w K mg base A outer s H) (hl:vs.length=ps.length) (r:Vals vs us)
  (x:InCallC s s.heap.objs.size (bindL (envOfC qual scope s.heap.objs.size f cd).kindOf (ps.zip us) fun _=>none) (cellsFrom (s.heap.objs.size + 1) scope.names []) (bindC (envOfC qual scope s.heap.objs.size f cd).kindOf (ps.zip us) fun _=>none) s1) :
  Inv (cxOf CX P w K mg base N qual scope f cd A outer s H E) [] (start N vs) H s1:=by
 have hpl:ps.length<=N.length:=by have:=congrArg List.length S.pre; rw [List.length_take] at this; omega
 obtain ⟨h1,tk,rfl,hk⟩:=x.done
 have noA:∀b:Addr,b∉(cxOf CX P w K mg base N qual scope f cd A outer s H E).ex:=fun b z=>absurd (show b∈([]:List Addr) from z) (by simp)
 refine ⟨⟨e0.mod,S.kind,rfl,rfl,Nat.le_refl _,fun y z c h1 h2=>?_,fun y hy=>?_,fun y c _ h=>?_,fun _=>hd,Around.frames_deeper e0.frames,.inr ⟨rfl,rfl⟩,fun b z=>absurd z (noA b),e0.bs,e0.bsz,fun b _ _=>noA b,fun b z=>absurd z (noA b),e0.funs,e0.frf⟩,
  rfl,e0.bare,Un.kept hk,⟨_,x.toInCall.ns,fun i y v h1 h2 h3=>?_⟩,fun y c h=>⟨_,x.cell y c h⟩,e0.hok.fresh (Nat.le_refl _),fun y c h=>?_,fun p hp=>absurd (show p∈([]:List (Addr × Obj)) from hp) (by simp),e0.hok.kept hk,?_⟩
 ·exact name_of_addr x.apart (PySem.mem_of_lookup h1) (PySem.mem_of_lookup h2)
 ·have hy:scope.names.lookup y=some .cell\/scope.names.lookup y=some .free:=hy
  rcases hy with hy | hy
  ·exact zkS hy
  ·exact absurd rfl (S.nofree _ (PySem.mem_of_lookup hy))
 ·exact Nat.le_of_lt (x.above y c (PySem.mem_of_lookup h))
 ·have hi:i < vs.length:=by
   unfold start at h2
   by_cases hi:i < vs.length
   ·exact hi
   ·rw [List.getElem?_append_right (by simpa using hi)] at h2
    rw [List.getElem?_replicate] at h2
    split at h2 <;> cases h2
  have ha:vs[i]? = some v:=by
   unfold start at h2
   rw [List.getElem?_append_left (by simpa using hi),List.getElem?_map] at h2
   cases e:vs[i]? with
   | none=>rw [e] at h2; cases h2
   | some a=>rw [e] at h2; cases h2; rfl
  obtain ⟨u,hu,rv⟩:=r.get ha
  have hp:ps[i]? = some y:=by
   rw [<-S.pre,List.getElem?_take_of_lt (by omega)]; exact h1
  have ndP:ps.Nodup:=by rw [<-S.pre]; exact S.nd.sublist (List.take_sublist _ _)
  refine ⟨u,rv,?_⟩
  rcases S.par y (List.mem_of_getElem? hp) with k | k
  ·exact .inl ⟨k,zjg ndP hp hu k⟩
  ·obtain ⟨c,e⟩:=zkS (n:=s.heap.objs.size + 1) k
   refine .inr ⟨.inl k,c,e,?_⟩
   have q:=x.cell y c e
   rw [zji ndP hp hu (by show scope.names.lookup y≠_; rw [k]; decide)] at q
   exact q
 ·exact e0.hok.fresh (Nat.le_of_lt (x.above y c (PySem.mem_of_lookup h)))
 ·unfold start
  show _=N.length
  rw [List.length_append,List.length_map,List.length_replicate]
  omega
theorem ztf {CX:CXT} {P:Program} {w:World} {K:W.Frag} {mg:Str->Option Value} {base:Heap} {k:Nat} {f:Addr} {name qual:Str} {params:Arguments} {body:List Stmt} {scope:Scope} {dV kV doc pm cdv ct oc:Value} {an od:Option Addr}
  {osl:Array (Option Value)} {N ps:List Str} {sp:Sp} (lk:K.lookup f=some ⟨oc,od,.func (W.fnOf name qual params body scope dV kV doc pm an cdv ct),osl⟩) (hcd:W.codeIn K cdv qual=true) (S:FnScope N ps scope)
  (len:∀vs H Q E,sp vs H Q E->vs.length=ps.length)
  (hbody:∀(A:Around) (outer:List Env) (s:Shared) (H:Hp) (vs:List V) (Q:VK) (E:XK),Room k (A.deeper (envOfC qual scope s.heap.objs.size f cdv))->sp vs H Q E ->
   ∃t,PSs (cxOf CX P w K mg base N qual scope f cdv A outer s H E) body t/\t { nx:=fun _ H'=>Q .non H',rt:=Q } (start N vs) H) :
  FnOk P w K mg base CX (k + 1) f (W.fnOf name qual params body scope dV kV doc pm an cdv ct) ps sp:=by
 refine ⟨len,fun A outer s H args us vs Q E hr e0 hb r hsp=>?_⟩
 have hl:=len _ _ _ _ hsp
 have KX:K.In s.heap:=e0.mod.kin.keeps fun b o e=>(e0.bs b o e).1
 have lim:s.heap.NoLimit:=e0.mod.nolimit.keeps fun b o e=>(e0.bs b o e).1
 have hkind:∀y∈ps.zip us,scope.names.lookup y.1=some .local\/(scope.names.lookup y.1=some .cell/\((cellsFrom (s.heap.objs.size + 1) scope.names []).lookup y.1).isSome=true):=fun ⟨n,v⟩ hy=>by
  rcases S.par n (List.of_mem_zip hy).1 with q | q
  ·exact .inl q
  ·exact .inr ⟨q,W.cellsFrom_some _ _ _ (.inl q)⟩
 refine codeAny_call_function hr.depth (KX _ _ lk) rfl S.co S.gen rfl (W.codeRec_of KX hcd) (hb _ _ _ _ ?_)
 refine wpAny_newFunctionEnv_cells S.kind hkind fun env he s1 x=>?_
 subst he
 refine ⟨lim.keeps x.toInCall.keep,codeAny_func ?_⟩
 obtain ⟨t,ht,hq⟩:=hbody A outer s H vs Q E (hr.deeper _) hsp
 have I:Inv (cxOf CX P w K mg base N qual scope f cdv A outer s H E) [] (start N vs) H s1:=zm7 S hr.hd e0 hl r x
 refine wpAny_mono (ht [] s1 (start N vs) H _ I hq) (fun fl s' hs=>?_) fun e s' hs=>hs
 have fin:∀{σ':St} {H':Hp} {v:V} {u:Value},Inv (cxOf CX P w K mg base N qual scope f cdv A outer s H E) [] σ' H' s'->RelV v u->Q v H'->CE outer P w H s Q u s':=
  fun {σ' H' v u} J rv q=>⟨v,H',J.os,J.bare,J.base,J.hok,rv,q⟩
 cases fl with
 | ret u=>
  obtain ⟨v,σ',H',J,rv,q⟩:=hs
  exact fin J rv q
 | next=>
  obtain ⟨σ',H',J,q⟩:=hs
  exact fin (v:=V.non) (u:=Value.none) J rfl q
 | brk=>
  obtain ⟨_,_,_,q⟩:=hs
  exact False.elim q
 | cont=>
  obtain ⟨_,_,_,q⟩:=hs
  exact False.elim q
section
variable {X:Cx} {x:Str} {p pos:Pos} {e:Expr} {es:List Expr} {t:TA} {id T:String} {r:List V->Hp->VK->Prop}
def tCB (r:List V->Hp->VK->Prop) (t:TA):TE:=fun σ H Q=>t σ H fun vs H1=>r vs H1 Q
theorem zel (hc:zdV X (.builtin id) r) (hg:Gl X x) (hm:X.mg x=none) (hv:bootBuiltins x=some (.builtin id)) (ha:PA X (e::es) t) (hn:x≠"__name__" := by decide) (hdb:(x == ("__debug__" : Str))=false:=by decide)
  (he:starEach (e::es) X.env=(false,eval e X.env)::starEach es X.env:=by rfl) (hpl:(backTo pos (starEach es X.env)).any (·.1)=false:=by rfl):PE X (.Call (.Name x p) (e::es) [] pos) (tCB r t):=by
 intro pz s σ H Q I h
 refine wpAny_Call_Name_kw (ziW I hg hm hv ?_ hn hdb)
 exact PyProof.Rows.callWith_builtin1 (thn (ha pos pz s σ H _ I h) fun us s1 ⟨vs,H1,I1,r1,q1⟩=>hc pz s1 σ H1 vs us Q I1 r1 q1) he hpl
theorem zeb (hc:zdV X (.type T) r) (hg:Gl X x) (hm:X.mg x=none) (hv:bootBuiltins x=some (.type T)) (ha:PA X (e::es) t) (hn:x≠"__name__" := by decide) (hdb:(x == ("__debug__" : Str))=false:=by decide)
  (he:starEach (e::es) X.env=(false,eval e X.env)::starEach es X.env:=by rfl) (hpl:(backTo pos (starEach es X.env)).any (·.1)=false:=by rfl):PE X (.Call (.Name x p) (e::es) [] pos) (tCB r t):=by
 intro pz s σ H Q I h
 refine wpAny_Call_Name_kw (ziW I hg hm hv ?_ hn hdb)
 exact PyProof.Rows.callWith_type1 (thn (ha pos pz s σ H _ I h) fun us s1 ⟨vs,H1,I1,r1,q1⟩=>hc pz s1 σ H1 vs us Q I1 r1 q1) he hpl
end
end L2
namespace HT
open PySem PyProof.Rows
def lexLt:List Int->List Int->Bool
 | [],[]=>false
 | [],_::_=>true
 | _::_,[]=>false
 | x::xs,y::ys=>if x=y then lexLt xs ys else decide (x < y)
theorem lexLt_cons (x y:Int) (xs ys:List Int):lexLt (x::xs) (y::ys)=if x=y then lexLt xs ys else decide (x < y):=rfl
theorem lexLt_nil_nil:lexLt [] []=false:=rfl
theorem lexLt_nil_cons (y:Int) (ys:List Int):lexLt [] (y::ys)=true:=rfl
theorem lexLt_cons_nil (x:Int) (xs:List Int):lexLt (x::xs) []=false:=rfl
theorem eqAt_int (A:Around) (s:Shared) (a:Int) (t:Tok) (c:Int) (u:Tok):∃e,SeqAt.EqAt A s (.int a t) (.int c u) e/\(e=true↔a=c):=
 ⟨(a == c),SeqAt.EqAt.int_int a t c u,by simp⟩
theorem rcLt_int (A:Around) (s:Shared) (a:Int) (t:Tok) (c:Int) (u:Tok) (prog:Program) (w:World) (E:Value->Shared->Prop) (Q:Value->Shared->Prop) (h:Q (.bool (decide (a < c))) s) :
  wpAny (model prog w) A (richCompare .Lt (.int a t) (.int c u)) Q E s:=
 (PyProof.Rows.lt_int h:wpAny (model prog w) A (compareOp .Lt (.int a t) (.int c u)) Q E s)
section
open PySem.SeqAt
open PySem.AutoSeq1 (wpAny_loadPart')
open PySem.MeetsSeq PySem.MeetsSeq2 PySem.MeetsSeq3
theorem zhO (l b:Addr) (items items2:Array Value) (n n2:Nat) (dd dd2:Option Addr) (sl sl2:Array (Option Value)) (ns ms:List Int) (hi:IntsAre items.toList ns) (hj:IntsAre items2.toList ms) :
  Meets (Builtin.«tuple.__lt__» ⟨[.ref l,.ref b],[]⟩)
   (fun _ R s=>s.heap.get? l=some { cls:=.type "tuple",dict:=dd,data:=.seq items n,slots:=sl }/\s.heap.get? b=some { cls:=.type "tuple",dict:=dd2,data:=.seq items2 n2,slots:=sl2 } /\
    R (.ok (.ret (.bool (lexLt ns ms)))) s):=
 .of_wp fun prog w A R s h=>by
  obtain ⟨hp,g,d,tk,os⟩:=s; obtain ⟨hl,hb,h⟩:=h
  have f2:=AutoSeq1.sub_tuple_tuple
  have z1:items.size=ns.length:=by rw [<-hi.length]; simp
  have z2:items2.size=ms.length:=by rw [<-hj.length]; simp
  wp_walk using wpAny_loadPart' hl,wpAny_loadPart' hb,wpAny_forIn_list _ (fun rest b s'=>b.1=none/\s'=⟨hp,g,d,tk,os⟩/\∃(vs ws:List Value) (ns' ms':List Int),rest=vs.zip ws /\
   IntsAre vs ns'/\IntsAre ws ms'/\ns'.length + items2.size=ms'.length + items.size/\R (.ok (.ret (.bool (lexLt ns' ms')))) ⟨hp,g,d,tk,os⟩) _
  case turn=>
   rintro ⟨y,x⟩ rest b s' ⟨hb',rfl,vs,ws,ns',ms',hz,hvi,hwi,hlen,hR⟩
   cases hvi with
   | nil=>rw [List.zip_nil_left] at hz; cases hz
   | cons a t hvi'=>
    cases hwi with
    | nil=>rw [List.zip_nil_right] at hz; cases hz
    | cons c u hwi'=>
     rw [List.zip_cons_cons] at hz
     injection hz with hyx hrest
     injection hyx with hy hx
     subst hy hx
     rw [lexLt_cons] at hR
     simp only [List.length_cons] at hlen
     obtain ⟨e,he,hiff⟩:=eqAt_int A.in1 ⟨hp,g,d,tk,os⟩ a t c u
     refine wpAny_bind (he prog w _ _ ?_)
     cases e with
     | true=>
      rw [if_pos (hiff.mp rfl)] at hR
      wp_walk
      exact ⟨rfl,rfl,_,_,_,_,hrest,hvi',hwi',by omega,hR⟩
     | false=>
      rw [if_neg (fun q=>absurd (hiff.mpr q) Bool.false_ne_true)] at hR
      have hri:=rcLt_int A.in1 ⟨hp,g,d,tk,os⟩ a t c u prog w
      wp_walk using hri
      exact ⟨_,rfl,by simpa using hR⟩
  case fin=>
   rintro ⟨b1,b2⟩ s' ⟨hb',rfl,vs,ws,ns',ms',hz,hvi,hwi,hlen,hR⟩
   simp only at hb'
   subst hb'
   have hv:lexLt ns' ms'=decide (items.size < items2.size):=by
    cases hvi with
    | nil=>
     cases hwi with
     | nil=>
      simp only [List.length_nil] at hlen
      rw [lexLt_nil_nil]
      exact (decide_eq_false (by omega)).symm
     | cons c u hw=>
      simp only [List.length_nil,List.length_cons] at hlen
      rw [lexLt_nil_cons]
      exact (decide_eq_true (by omega)).symm
    | cons a t hv=>
     cases hwi with
     | nil=>
      simp only [List.length_nil,List.length_cons] at hlen
      rw [lexLt_cons_nil]
      exact (decide_eq_false (by omega)).symm
     | cons c u hw=>
      rw [List.zip_cons_cons] at hz
      cases hz
   rw [hv] at hR
   wp_walk
   exact ⟨_,rfl,by simpa [Builtin.Tuple.tupleCompareSizes] using hR⟩
  case h=>
   exact ⟨rfl,rfl,items.toList,items2.toList,ns,ms,rfl,hi,hj,by omega,h⟩
end
section
variable {prog:Program} {w:World} {A:Around} {E:Value->Shared->Prop} {s:Shared}
theorem lt_tupInts {l b:Addr} {items items2:Array Value} {ns ms:List Int} {Q:Value->Shared->Prop} (hl:IsTup s.heap l items) (hb:IsTup s.heap b items2) (hi:IntsAre items.toList ns) (hj:IntsAre items2.toList ms)
  (hu:A.units < cLine) (h:Q (.bool (lexLt ns ms)) s):wpAny (model prog w) A (compareOp .Lt (.ref l) (.ref b)) Q E s:=by
 obtain ⟨⟨cls,dd,data,sl⟩,ho,hc,n,hd⟩:=id hl
 obtain ⟨⟨cls2,dd2,data2,sl2⟩,ho2,hc2,n2,hd2⟩:=id hb
 simp only at hc hd hc2 hd2
 subst hc hd hc2 hd2
 exact richCompare_meets_room (op:=.Lt) ⟨_,ho,rfl⟩ ⟨_,ho2,rfl⟩ PySem.F.slot_tuple_lt PySem.F.entry_tuple_lt (PySem.F.args_tuple_lt_2 _ _) (zhO l b items items2 n n2 dd dd2 sl sl2 ns ms hi hj)
  ⟨ho,ho2,show Value.bool (lexLt ns ms)≠Value.notImplemented/\Q (.bool (lexLt ns ms)) s from ⟨(fun x=>nomatch x),h⟩⟩ hu
theorem cat_tup {t b:Addr} {vs ws:List Value} {Q:Value->Shared->Prop} (ht:IsTup s.heap t vs.toArray) (hb:IsTup s.heap b ws.toArray) (hv:vs≠[])
  (h1:ws=[]->Q (.ref t) s) (h2:ws≠[]->Q (.ref s.heap.objs.size) { s with heap:=s.heap.push { cls:=.type "tuple",data:=.seq (vs++ws).toArray } })
  (hsz:vs.length + ws.length<=sizeLine):wpAny (model prog w) A (binaryOp .Add (.ref t) (.ref b)) Q E s:=by
 obtain ⟨⟨cls,dd,data,sl⟩,ho,hc,n,hd⟩:=id ht
 obtain ⟨⟨cls2,dd2,data2,sl2⟩,ho2,hc2,n2,hd2⟩:=id hb
 simp only at hc hd hc2 hd2
 subst hc hd hc2 hd2
 have e:vs.toArray++ws.toArray=(vs++ws).toArray:=by simp
 by_cases hw:ws=[]
 ·exact concat_meets ⟨_,ho,rfl⟩ ⟨_,ho2,rfl⟩ noFill_tuple_add seq_tuple_add PySem.F.slot_tuple_add PySem.F.entry_tuple_add (PySem.F.args_tuple_add_2 _ _)
   (tuple_addW1 t b vs.toArray ws.toArray n n2 dd dd2 sl sl2 (by simpa using hv) (by simp [hw])) ⟨ho,ho2,h1 hw⟩
 ·refine concat_meets ⟨_,ho,rfl⟩ ⟨_,ho2,rfl⟩ noFill_tuple_add seq_tuple_add PySem.F.slot_tuple_add PySem.F.entry_tuple_add (PySem.F.args_tuple_add_2 _ _)
   (tuple_addW2 t b vs.toArray ws.toArray n n2 dd dd2 sl sl2 (by simpa using hv) (by simpa using hw) (by rw [List.size_toArray,List.size_toArray]; exact hsz)) ⟨ho,ho2,?_⟩
  rw [e]
  exact h2 hw
def sIx (n d:Nat):Option Int->Nat
 | none=>d
 | some v=>if v < 0 then (v + (n:Int)).toNat else min v.toNat n
theorem sIx_none (n d:Nat):sIx n d none=d:=rfl
theorem sIx_nat (n d k:Nat):sIx n d (some (k:Int))=min k n:=by
 show (if (k:Int) < 0 then ((k:Int) + (n:Int)).toNat else min (k:Int).toNat n)=min k n
 rw [if_neg (by omega),Int.toNat_natCast]
theorem zrT (n d:Nat) (hd:d<=n) (o:Option Int):sIx n d o<=n:=by
 cases o with
 | none=>exact hd
 | some v=>
  show (if v < 0 then (v + (n:Int)).toNat else min v.toNat n)<=n
  by_cases hv:v < 0
  ·rw [if_pos hv]; omega
  ·rw [if_neg hv]; exact Nat.min_le_right _ _
theorem znA (v:Int) (n d:Nat):(if v < 0 then max (v + (n:Int)) 0 else min v (n:Int))=((sIx n d (some v):Nat):Int):=by
 show (if v < 0 then max (v + (n:Int)) 0 else min v (n:Int))=(((if v < 0 then (v + (n:Int)).toNat else min v.toNat n):Nat):Int)
 by_cases hv:v < 0
 ·simp only [if_pos hv]; omega
 ·simp only [if_neg hv]; omega
theorem zlL (lo hi:Option Int) (n:Nat):Builtin.Slice.sliceAdjust lo hi 1 (n:Int)=(((sIx n 0 lo:Nat):Int),((sIx n n hi:Nat):Int)):=by
 have h1:¬ ((1:Int) < 0):=by omega
 unfold Builtin.Slice.sliceAdjust
 simp only [h1,if_false]
 refine Prod.ext ?_ ?_
 ·cases lo with
  | none=>rfl
  | some v=>exact znA v n 0
 ·cases hi with
  | none=>rfl
  | some v=>exact znA v n n
theorem zln (i j:Nat):Builtin.Slice.slicePlaces (i:Int) (j:Int) 1=j - i:=by
 unfold Builtin.Slice.slicePlaces
 have h1:(1:Int) > 0:=by omega
 simp only [h1,if_true,Int.ediv_one]
 split <;> omega
theorem zhi {v:Value} {o:Option Int} {Q:Option Int->Shared->Prop} (p:IsPart v o) (h:Q o s):wpAny (model prog w) A (Builtin.Slice.slicePartIndex v) Q E s:=by
 cases p with
 | none=>exact slicePart_none h
 | int i t=>exact slicePart_int h
theorem zfW {sl:Addr} {vl vu:Value} {lo hi:Option Int} {n:Nat} {Q:Int × Int × Nat->Shared->Prop} (hs:s.heap.IsSliceOf sl vl vu .none) (pl:IsPart vl lo) (pu:IsPart vu hi)
  (h:Q (((sIx n 0 lo:Nat):Int),1,sIx n n hi - sIx n 0 lo) s):wpAny (model prog w) A (Builtin.Slice.sliceApplied (.ref sl) (pure (n:Int))) Q E s:=by
 obtain ⟨os,hos,hcs,hds⟩:=id hs
 unfold Builtin.Slice.sliceApplied Builtin.Slice.sliceFields
 refine wpAny_bind (wpAny_bind (wpAny_field hos hds (x:=vl) rfl (wpAny_bind (wpAny_field hos hds (x:=vu) rfl (wpAny_bind (wpAny_field hos hds (x:=.none) rfl (wpAny_pure ?_)))))))
 refine wpAny_bind (slicePart_none ?_)
 show wpAny _ _ (if ((1:Int) == 0)=true then _ else _) _ _ s
 rw [if_neg (by decide)]
 refine wpAny_bind (zhi pl (wpAny_bind (zhi pu (wpAny_bind (wpAny_pure ?_)))))
 show wpAny _ _ (match Builtin.Slice.sliceAdjust lo hi 1 (n:Int) with | (lo,hi)=>pure (lo,(1:Int),Builtin.Slice.slicePlaces lo hi 1)) _ _ s
 rw [zlL lo hi n]
 show wpAny _ _ (pure (((sIx n 0 lo:Nat):Int),(1:Int),Builtin.Slice.slicePlaces ((sIx n 0 lo:Nat):Int) ((sIx n n hi:Nat):Int) 1)) _ _ s
 rw [zln]
 exact wpAny_pure h
theorem zoc (xs:Array Value) (i k:Nat):((List.range k).filterMap fun (m:Nat)=>xs[((i:Int) + (m:Int) * 1).toNat]?).toArray=((xs.toList.drop i).take k).toArray:=by
 have e:(fun (m:Nat)=>xs[((i:Int) + (m:Int) * 1).toNat]?)=fun m=>xs[i + m]?:=by
  funext m
  have:((i:Int) + (m:Int) * 1).toNat=i + m:=by omega
  rw [this]
 rw [e]
 have:=pick_run xs i k
 rw [List.filterMap_map] at this
 have e2:((fun x=>xs[x]?) ∘ fun x=>i + x)=fun m=>xs[i + m]?:=rfl
 rw [e2] at this
 rw [this]
theorem getItem_tuple_cut {t sl:Addr} {items:Array Value} {vl vu:Value} {lo hi:Option Int} {Q:Value->Shared->Prop} (ht:IsTup s.heap t items) (hs:s.heap.IsSliceOf sl vl vu .none) (pl:IsPart vl lo) (pu:IsPart vu hi)
  (hw:¬ (sIx items.size 0 lo=0/\sIx items.size items.size hi=items.size))
  (h:Q (.ref s.heap.objs.size) { s with heap:=s.heap.push { cls:=.type "tuple",data:=.seq ((items.toList.drop (sIx items.size 0 lo)).take (sIx items.size items.size hi - sIx items.size 0 lo)).toArray } })
  (hsz:items.size<=sizeLine):wpAny (model prog w) A (getItem (.ref t) (.ref sl)) Q E s:=by
 have htake:sizeOk (.seq ((items.toList.drop (sIx items.size 0 lo)).take (sIx items.size items.size hi - sIx items.size 0 lo)).toArray):=by
  show ((items.toList.drop (sIx items.size 0 lo)).take (sIx items.size items.size hi - sIx items.size 0 lo)).toArray.size<=sizeLine
  rw [List.size_toArray,List.length_take,List.length_drop,Array.length_toList]
  omega
 have hj:sIx items.size items.size hi<=items.size:=zrT _ _ (Nat.le_refl _) hi
 obtain ⟨os,hos,hcs,hds⟩:=id hs
 have hTs:s.TypeIs (.ref sl) "slice" := ⟨os,hos,hcs⟩
 unfold getItem
 try with_reducible refine wpAny_holding ?_
 first | refine wpAny_bind (wpAny_pure ?_) | skip
 refine wpAny_bind (wpAny_sequenceKey ht.typeIs (by decide) ?_)
 refine wpAny_bind (wpAny_callSpecial?_slot (name:=Str.ofString "__getitem__") ht.typeIs PyProof.Rows.slot_tuple_getitem
  (wpAny_call_entry PyProof.Rows.slot_tuple_getitem ht.typeIs entry_tuple_getitem ?_ (args_tuple_getitem _ _)))
 show wpAny _ _ (Builtin.Tuple.tupleItemsOf (.ref t) >>= _) _ _ s
 refine wpAny_bind (tupleItemsOf_ ht ?_)
 refine wpAny_bind (wpAny_typeOf hTs ?_)
 rw [if_pos (by decide)]
 refine wpAny_bind (zfW hs pl pu ?_)
 have hno:¬ ((((sIx items.size 0 lo:Nat):Int) == 0 && (1:Int) == 1 && (sIx items.size items.size hi - sIx items.size 0 lo) == items.size)=true):=by
  intro q
  rw [Bool.and_eq_true,Bool.and_eq_true] at q
  have q1:((sIx items.size 0 lo:Nat):Int)=0:=eq_of_beq q.1.1
  have q2:sIx items.size items.size hi - sIx items.size 0 lo=items.size:=eq_of_beq q.2
  exact hw ⟨by omega,by omega⟩
 show wpAny _ _ (if (((sIx items.size 0 lo:Nat):Int) == 0 && (1:Int) == 1 && (sIx items.size items.size hi - sIx items.size 0 lo) == items.size)=true then _ else _) _ _ s
 rw [if_neg hno,zoc]
 first
  | exact wpAny_bind (m:=Builtin.Tuple.tupleExact _) (wpAny_newObj_type (wpAny_pure ⟨_,rfl,wpAny_pure h⟩) htake)
  | exact wpAny_bind (m:=Builtin.Tuple.tupleExact _) (wpAny_newObj_type (wpAny_bind (wpAny_pure (wpAny_pure ⟨_,rfl,wpAny_pure h⟩))) htake)
  | exact wpAny_bind (wpAny_bind (m:=Builtin.Tuple.tupleExact _) (wpAny_newObj_type (wpAny_pure (wpAny_pure ⟨_,rfl,wpAny_pure h⟩)) htake))
  | exact wpAny_bind (wpAny_bind (m:=Builtin.Tuple.tupleExact _) (wpAny_newObj_type (wpAny_pure ⟨_,rfl,wpAny_pure h⟩) htake))
end
end HT
namespace L2
open PySem PySem.Spec PyProof.Rows
abbrev TO:=St->Hp->(Option Int->Hp->Prop)->Prop
def PO (X:Cx) (e:Option Expr) (t:TO):Prop:=
 ∀(pz:List (Addr × Obj)) (s:Shared) (σ:St) (H:Hp) (Q:Option Int->Hp->Prop),Inv X pz σ H s->t σ H Q ->
  wpAny (model X.prog X.w) X.A (evalPart e X.env) (fun u s'=>∃o H',Inv X pz σ H' s'/\IsPart u o/\Q o H') X.xe s
def zp6:TO:=fun _ H Q=>Q none H
def ztM (t:TE):TO:=fun σ H Q=>t σ H fun x H1=>∃i,x=.int i/\Q (some i) H1
theorem zhu {ns:List Int}:∀{us:List Value},Vals (ns.map V.int) us->IntsAre us ns:=by
 induction ns with
 | nil=>intro us r; rw [List.map_nil] at r; cases r; exact .nil
 | cons n ns ih=>
  intro us r
  rw [List.map_cons] at r
  cases r with
  | cons r1 r2=>
   obtain ⟨t,e⟩:=r1
   subst e
   exact .cons n t (ih r2)
section
variable {X:Cx} {e:Expr} {te:TE} {lo hi:Option Expr} {tl th:TO} {pos p2:Pos}
theorem zqv:PO X none zp6:=by
 intro pz s σ H Q I h
 rw [evalPart_none]
 exact wpAny_pure ⟨none,H,I,.none,h⟩
theorem zqu (h:PE X e te):PO X (some e) (ztM te):=by
 intro pz s σ H Q I hw
 rw [evalPart_some]
 refine thn (h pz s σ H _ I hw) fun u s1 ⟨x,H1,I1,r1,q1⟩=>?_
 obtain ⟨i,rfl,q⟩:=q1
 obtain ⟨t,rfl⟩:=r1
 exact ⟨some i,H1,I1,.int i t,q⟩
def SlR (X:Cx) (r:V->Option Int->Option Int->Hp->VK->Prop):Prop:=
 ∀(pz:List (Addr × Obj)) (s:Shared) (σ:St) (H:Hp) (x:V) (v vl vu:Value) (lo hi:Option Int) (sl:Addr) (Q:VK),Inv X pz σ H s->RelV x v->s.heap.IsSliceOf sl vl vu .none->IsPart vl lo->IsPart vu hi->r x lo hi H Q ->
  ∃T id,typeLookup (.type T) "__getitem__" = pure (some (.builtin id))/\s.TypeIs v T/\wpAny (model X.prog X.w) X.A (getItem v (.ref sl)) (EP X pz σ Q) X.xe s
theorem SlR.or {r r':V->Option Int->Option Int->Hp->VK->Prop} (h:SlR X r) (h':SlR X r'):SlR X (fun x lo hi H Q=>r x lo hi H Q\/r' x lo hi H Q):=by
 intro pz s σ H x v vl vu lo hi sl Q I rx hs pl pu q
 rcases q with q | q
 ·exact h pz s σ H x v vl vu lo hi sl Q I rx hs pl pu q
 ·exact h' pz s σ H x v vl vu lo hi sl Q I rx hs pl pu q
def tSl (r:V->Option Int->Option Int->Hp->VK->Prop) (te:TE) (tl th:TO):TE:=fun σ H Q=>te σ H fun x H1=>tl σ H1 fun l H2=>th σ H2 fun u H3=>r x l u H3 Q
theorem zoe {r:V->Option Int->Option Int->Hp->VK->Prop} (hr:SlR X r) (he:PE X e te) (hl:PO X lo tl) (hu:PO X hi th):PE X (.Subscript e (.Slice lo hi none p2) pos) (tSl r te tl th):=by
 intro pz s σ H Q I h
 refine Subscript_ (thn (he pz s σ H _ I h) fun v s1 ⟨x,H1,I1,r1,q1⟩=>?_)
 refine wpAny_Slice (thn (hl pz s1 σ H1 _ I1 q1) fun vl s2 ⟨l,H2,I2,pl,q2⟩=>thn (hu pz s2 σ H2 _ I2 q2) fun vu s3 ⟨u,H3,I3,pu,q3⟩=>?_)
 rw [evalPart_none]
 refine wpAny_pure ?_
 have I4:Inv X pz σ H3 { s3 with heap:=s3.heap.push { cls:=.type "slice",data:=.fields #[vl,vu,.none] } }:=I3.kept (t':=s3.toks) fun b ob q=>Heap.get?_push_of_some _ q
 obtain ⟨T,id,hT,ht,hg⟩:=hr pz { s3 with heap:=s3.heap.push { cls:=.type "slice",data:=.fields #[vl,vu,.none] } } σ H3 x v vl vu l u s3.heap.objs.size Q I4 r1 (Heap.IsSliceOf.new ..) pl pu q3
 show wpAny (model X.prog X.w) X.A (subscriptTail e (.Slice lo hi none p2) v (.ref s3.heap.objs.size)) (EP X pz σ Q) X.xe { s3 with heap:=s3.heap.push { cls:=.type "slice",data:=.fields #[vl,vu,.none] } }
 exact tail_any (ops:=[.ref s3.heap.objs.size,v]) ht hT hg (by with_unfolding_all rfl)
def cutV (xs:List V) (lo hi:Option Int):List V:=(xs.drop (HT.sIx xs.length 0 lo)).take (HT.sIx xs.length xs.length hi - HT.sIx xs.length 0 lo)
theorem zgX (xs:List V) (lo hi:Option Int):(cutV xs lo hi).length<=xs.length:=by
 unfold cutV
 rw [List.length_take,List.length_drop]
 omega
def rSlT (K:W.Frag):V->Option Int->Option Int->Hp->VK->Prop:=fun x lo hi H Q=>∃a xs,x=.ref a/\SqT K H a xs /\
 ¬ (HT.sIx xs.length 0 lo=0/\HT.sIx xs.length xs.length hi=xs.length)/\∀p,H p=none->Q (.ref p) (upd H p (.tup (cutV xs lo hi)))
theorem zrI:SlR X (rSlT X.K):=by
 intro pz s σ H x v vl vu lo hi sl Q I rx hs pl pu h
 obtain ⟨a,xs,rfl,hx,hw,q⟩:=h
 cases rx
 obtain ⟨its,r,ht,hz⟩:=I.tuple hx
 have hlen:its.toArray.size=xs.length:=by rw [List.size_toArray]; exact r.length.symm
 refine ⟨"tuple",_,PyProof.Rows.slot_tuple_getitem.lookup,ht.typeIs,?_⟩
 refine HT.getItem_tuple_cut ht hs pl pu (by rw [hlen]; exact hw) ?_ (by rw [hlen]; exact hz)
 rw [hlen]
 refine ⟨.ref s.heap.objs.size,_,I.laid (t':=s.toks) (o:=.tup (cutV xs lo hi)) (fun b ob q=>Heap.get?_push_of_some _ q) (Nat.le_refl _) ?_,rfl,q _ (I.hok.fresh (Nat.le_refl _))⟩
 exact ⟨Nat.le_trans (zgX xs lo hi) hz,_,(r.drop (HT.sIx xs.length 0 lo)).take (HT.sIx xs.length xs.length hi - HT.sIx xs.length 0 lo),IsTup.new _ _,_,Heap.get?_push_size _ rfl,rfl⟩
def zqn (K:W.Frag):R2:=fun x y H Q=>∃a b xs ys,x=.ref a/\y=.ref b/\SqT K H a xs/\SqT K H b ys/\xs≠[]/\xs.length + ys.length<=sizeLine /\
 (ys=[]->Q (.ref a) H)/\(ys≠[]->∀p,H p=none->Q (.ref p) (upd H p (.tup (xs++ys))))
theorem Vals.nil_iff {xs:List V} {us:List Value} (r:Vals xs us):us=[]↔xs=[]:=by
 cases r with
 | nil=>simp
 | cons _ _=>simp
theorem zmH:OpR X (binaryOp .Add) (zqn X.K):=by
 intro pz s σ H x y v u Q I rx ry h
 obtain ⟨a,b,xs,ys,rfl,rfl,ha,hb,hx,hz,q1,q2⟩:=h
 cases rx
 cases ry
 obtain ⟨its,r1,p1,_⟩:=I.tuple ha
 obtain ⟨its2,r2,p2,_⟩:=I.tuple hb
 refine HT.cat_tup p1 p2 (fun z=>hx (r1.nil_iff.mp z)) (fun z=>⟨.ref a,H,I,rfl,q1 (r2.nil_iff.mp z)⟩) (fun z=>?_) (by rw [<-r1.length,<-r2.length]; exact hz)
 refine ⟨.ref s.heap.objs.size,_,I.laid (t':=s.toks) (o:=.tup (xs++ys)) (fun b ob q=>Heap.get?_push_of_some _ q) (Nat.le_refl _) ?_,rfl,q2 (fun w=>z (r2.nil_iff.mpr w)) _ (I.hok.fresh (Nat.le_refl _))⟩
 exact ⟨by rw [List.length_append]; exact hz,_,r1.append r2,IsTup.new _ _,_,Heap.get?_push_size _ rfl,rfl⟩
end
def ixN (n:Nat) (i:Int):Option Nat:=if 0<=i then (if i < n then some i.toNat else none) else if -(n:Int)<=i then some (i + n).toNat else none
def atI {α:Type} (xs:List α) (i:Int):Option α:=(ixN xs.length i).bind fun j=>xs[j]?
theorem zm5 {n:Nat} {i:Int} {j:Nat} (h:ixN n i=some j):seqIndex? i n=some j/\j < n/\-(n:Int)<=i/\i < n:=by
 unfold ixN at h
 by_cases h0:0<=i
 ·rw [if_pos h0] at h
  by_cases h1:i < n
  ·rw [if_pos h1] at h
   have e:i.toNat=j:=Option.some.inj h
   exact ⟨by rw [seqIndex_of h0 h1,e],by omega,by omega,h1⟩
  ·rw [if_neg h1] at h; cases h
 ·rw [if_neg h0] at h
  by_cases h1 : -(n:Int)<=i
  ·rw [if_pos h1] at h
   have e:(i + n).toNat=j:=Option.some.inj h
   exact ⟨by rw [seqIndex_neg (by omega) h1,e],by omega,h1,by omega⟩
  ·rw [if_neg h1] at h; cases h
theorem zj3 {α:Type} {xs:List α} {i:Int} {v:α} (h:atI xs i=some v):∃j,seqIndex? i xs.length=some j/\xs[j]? = some v/\j < xs.length/\-(xs.length:Int)<=i/\i < xs.length:=by
 unfold atI at h
 cases e:ixN xs.length i with
 | none=>rw [e] at h; cases h
 | some j=>
  rw [e] at h
  obtain ⟨h1,h2,h3,h4⟩:=zm5 e
  exact ⟨j,h1,h,h2,h3,h4⟩
def zg2 (b:Expr):Prop:=∀o i,subscripted b false o i=operate [o,i] (getItem o i)
def IxR (X:Cx) (r:R2):Prop:=
 ∀(value slice:Expr) (pz:List (Addr × Obj)) (s:Shared) (σ:St) (H:Hp) (x y:V) (v u:Value) (Q:VK),Inv X pz σ H s->RelV x v->RelV y u->r x y H Q ->
  subscripted slice false v u=operate [v,u] (getItem v u)->wpAny (model X.prog X.w) X.A (subscriptTail value slice v u) (EP X pz σ Q) X.xe s
def MtR (X:Cx) (id:String) (r:V->List V->Hp->VK->Prop):Prop:=
 ∀(pz:List (Addr × Obj)) (s:Shared) (σ:St) (H:Hp) (x:V) (xs:List V) (v:Value) (us:List Value) (Q:VK),Inv X pz σ H s->RelV x v->Vals xs us->r x xs H Q ->
  wpAny (model X.prog X.w) X.A (call (.builtin id) (v::us)) (EP X pz σ Q) X.xe s
section
variable {X:Cx} {a b:Expr} {ta tb:TE} {pos:Pos}
theorem IxR.or {r r':R2} (h:IxR X r) (h':IxR X r'):IxR X (fun x y H Q=>r x y H Q\/r' x y H Q):=by
 intro value slice pz s σ H x y v u Q I rx ry q hs
 rcases q with q | q
 ·exact h value slice pz s σ H x y v u Q I rx ry q hs
 ·exact h' value slice pz s σ H x y v u Q I rx ry q hs
theorem zof {r:R2} (hr:IxR X r) (ha:PE X a ta) (hb:PE X b tb) (hs:zg2 b):PE X (.Subscript a b pos) (tOp r ta tb):=by
 intro pz s σ H Q I h
 exact Subscript_ (binT ha hb I h fun v u s2 x y H2 I2 rx ry q=>hr a b pz s2 σ H2 x y v u Q I2 rx ry q (hs _ _))
def rIxL (K:W.Frag):R2:=fun x y H Q=>∃p xs i v,x=.ref p/\y=.int i/\SqL K H p xs/\atI xs i=some v/\Q v H
def rIxT (K:W.Frag):R2:=fun x y H Q=>∃p xs i v,x=.ref p/\y=.int i/\SqT K H p xs/\atI xs i=some v/\Q v H
def rIxS:R2:=fun x y H Q=>∃z i c,x=.str z/\y=.int i/\z.length<=sizeLine/\atI z.cps.toList i=some c/\Q (.str ⟨#[c]⟩) H
theorem zh8:IxR X (rIxL X.K):=by
 intro value slice pz s σ H x y v u Q I rx ry h hs
 obtain ⟨p,xs,i,z,rfl,rfl,hq,he,q⟩:=h
 cases rx
 obtain ⟨t,rfl⟩:=ry
 obtain ⟨its,r,pl,hz⟩:=I.list hq
 obtain ⟨j,h1,h2,h3,h4,h5⟩:=zj3 he
 obtain ⟨w,ew,rw'⟩:=r.get h2
 have hl:=r.length
 have hn:=zhp
 have fin:EP X pz σ Q w s:=⟨z,H,I,rw',q⟩
 by_cases h0:0<=i
 ·have hj:i.toNat=j:=by
   rw [seqIndex_of h0 h5] at h1
   exact Option.some.inj h1
  exact item_listR pl.isList h0 (by omega) (by rw [hj]; simpa using ew) fin hs
 ·have hj:(i + (its.toArray.size:Int)).toNat=j:=by
   rw [seqIndex_neg (by omega) h4] at h1
   rw [List.size_toArray,<-hl]
   exact Option.some.inj h1
  exact subscriptTail_builtinR (x:=w) pl.isList.typeIs slot_list_getitem.lookup
   (wpAny_getItem_list_neg (Q:=fun r s'=>r=w/\EP X pz σ Q r s') pl.isList (by omega) (by rw [List.size_toArray] <;> omega) (by omega) (by rw [hj]; simpa using ew) ⟨rfl,fin⟩) hs
theorem zsT:IxR X (rIxT X.K):=by
 intro value slice pz s σ H x y v u Q I rx ry h hs
 obtain ⟨p,xs,i,z,rfl,rfl,hq,he,q⟩:=h
 cases rx
 obtain ⟨t,rfl⟩:=ry
 obtain ⟨its,r,pl,hz⟩:=I.tuple hq
 obtain ⟨j,h1,h2,h3,h4,h5⟩:=zj3 he
 obtain ⟨w,ew,rw'⟩:=r.get h2
 have hl:=r.length
 have hn:=zhp
 have fin:EP X pz σ Q w s:=⟨z,H,I,rw',q⟩
 exact subscriptTail_builtinR (x:=w) pl.typeIs slot_tuple_getitem.lookup
  (getItem_tuple (j:=j) (Q:=fun r s'=>r=w/\EP X pz σ Q r s') pl (by omega) (by omega) (by rw [List.size_toArray,<-hl]; exact h1) (by simpa using ew) ⟨rfl,fin⟩) hs
theorem zsU:IxR X rIxS:=by
 intro value slice pz s σ H x y v u Q I rx ry h hs
 obtain ⟨z,i,c,rfl,rfl,hz,he,q⟩:=h
 obtain ⟨t,rfl⟩:=rx
 obtain ⟨t',rfl⟩:=ry
 obtain ⟨j,h1,h2,h3,h4,h5⟩:=zj3 he
 have hl:z.cps.toList.length=z.length:=by simp [Str.length]
 rw [hl] at h1 h4 h5
 have hn:=zhp
 exact tail_any (typeIs_str s z t) slot_str_getitem.lookup (getItem_str (c:=c) (by
  have e1:decide (i < -(2 ^ 63:Int))=false:=decide_eq_false (by omega)
  have e2:decide (i >= 2 ^ 63)=false:=decide_eq_false (by omega)
  rw [e1,e2,Bool.or_false]) (by rw [h1]; simpa using h2) ⟨.str ⟨#[c]⟩,H,I.tok _,⟨_,rfl⟩,q⟩) hs
def rIx (K:W.Frag):R2:=fun x y H Q=>rIxL K x y H Q\/rIxT K x y H Q\/rIxS x y H Q
theorem zsV:IxR X (rIx X.K):=zh8.or (zsT.or zsU)
theorem zls (its:List Value) (n j:Nat) (u:Value):Obj.mapSeq (·.setIfInBounds j u) { cls:=.type "list",data:=.seq its.toArray n }={ cls:=.type "list",data:=.seq (its.set j u).toArray n }:=by
 simp [Obj.mapSeq]
theorem Inv.lst {pz:List (Addr × Obj)} {σ:St} {H:Hp} {s:Shared} {p:Addr} {xs:List V} (I:Inv X pz σ H s) (h:H p=some (.lst xs)) :
  ∃(its:List Value) (n:Nat),Vals xs its/\s.heap.get? p=some { cls:=.type "list",data:=.seq its.toArray n }/\xs.length<=sizeLine:=by
 obtain ⟨z,its,n,r,e⟩:=I.hok p _ h
 exact ⟨its,n,r,e,z⟩
theorem Inv.lstUpd {pz:List (Addr × Obj)} {σ:St} {H:Hp} {s:Shared} {p:Addr} {xs ys:List V} {its its':List Value} {n n':Nat} {f:Obj->Obj} (I:Inv X pz σ H s) (h:H p=some (.lst xs))
  (ho:s.heap.get? p=some { cls:=.type "list",data:=.seq its.toArray n }) (hf:f { cls:=.type "list",data:=.seq its.toArray n }={ cls:=.type "list",data:=.seq its'.toArray n' }) (r:Vals ys its') (hz:ys.length<=sizeLine) (t:Nat) :
  Inv X pz σ (upd H p (.lst ys)) { s with heap:=s.heap.update p f,toks:=t }:=by
 have e:(s.heap.update p f).get? p=some { cls:=.type "list",data:=.seq its'.toArray n' }:=by
  rw [Heap.get?_update_self f ho (by rw [hf] <;> rfl),hf]
 refine I.write (x:=p) (e:=p) (by rw [h]; trivial) (.inl rfl) (fun b u hb q=>(Heap.get?_update_other _ _ (Ne.symm hb)).trans q) ⟨_,e⟩ ?_
 exact ⟨hz,its',n',r,e⟩
def zr2:V->V->V->Hp->(Hp->Prop)->Prop:=fun o i v H Q=>∃p xs k j,o=.ref p/\i=.int k/\H p=some (.lst xs)/\ixN xs.length k=some j/\Q (upd H p (.lst (xs.set j v)))
theorem zkg:PSet X zr2:=by
 intro pz s σ H o i v ov iv u Q I ro ri rv h
 obtain ⟨p,xs,k,j,rfl,rfl,hp,hj,q⟩:=h
 cases ro
 obtain ⟨t,rfl⟩:=ri
 obtain ⟨its,n,r,ho,hz⟩:=I.lst hp
 obtain ⟨h1,h2,h3,h4⟩:=zm5 hj
 have hl:=r.length
 have hn:=zhp
 have I':Inv X pz σ (upd H p (.lst (xs.set j v))) { s with heap:=s.heap.update p (Obj.mapSeq (·.setIfInBounds j u)) }:=
  I.lstUpd hp ho (zls its n j u) (r.set rv j) (by rw [List.length_set]; exact hz) s.toks
 by_cases h0:0<=k
 ·have hk:k.toNat=j:=by
   rw [seqIndex_of h0 h4] at h1
   exact Option.some.inj h1
  exact W.ki_setAt ho h0 (by omega) (by rw [List.size_toArray,<-hl]; exact h4) (by rw [hk]; exact ⟨_,I',q⟩)
 ·have hk:(k + (its.toArray.size:Int)).toNat=j:=by
   rw [seqIndex_neg (by omega) h3] at h1
   rw [List.size_toArray,<-hl]
   exact Option.some.inj h1
  exact W.ki_setBack ho (by omega) (by rw [List.size_toArray,<-hl]; exact h3) (by omega) (by rw [hk]; exact ⟨_,I',q⟩)
theorem zir (lo hi:Option Int) (n:Nat):(sliceBounds lo hi none n).1=((HT.sIx n 0 lo:Nat):Int)/\(sliceBounds lo hi none n).2.1=((HT.sIx n n hi:Nat):Int)/\(sliceBounds lo hi none n).2.2=1:=by
 refine ⟨?_,?_,rfl⟩
 ·cases lo with
  | none=>simp [sliceBounds,HT.sIx]
  | some i=>
   simp only [sliceBounds,HT.sIx,Option.getD_none,show (1:Int) > 0 by decide,if_true]
   by_cases h:i < 0
   ·simp only [h,if_true] <;> omega
   ·simp only [h,if_false] <;> omega
 ·cases hi with
  | none=>simp [sliceBounds,HT.sIx]
  | some i=>
   simp only [sliceBounds,HT.sIx,Option.getD_none,show (1:Int) > 0 by decide,if_true]
   by_cases h:i < 0
   ·simp only [h,if_true] <;> omega
   ·simp only [h,if_false] <;> omega
theorem zhP (its:List Value) (lo hi:Option Int):slicePick its.toArray lo hi none=((its.drop (HT.sIx its.length 0 lo)).take (HT.sIx its.length its.length hi - HT.sIx its.length 0 lo)).toArray:=by
 obtain ⟨h1,h2,h3⟩:=zir lo hi its.toArray.size
 unfold slicePick
 rw [h1,h2,h3]
 simp only [sliceRange_one,pick_run,List.size_toArray] <;> rfl
def rSlL (K:W.Frag):V->Option Int->Option Int->Hp->VK->Prop:=fun x lo hi H Q=>∃a xs,x=.ref a/\SqL K H a xs/\∀p,H p=none->Q (.ref p) (upd H p (.lst (cutV xs lo hi)))
theorem zp8:SlR X (rSlL X.K):=by
 intro pz s σ H x v vl vu lo hi sl Q I rx hs pl pu h
 obtain ⟨a,xs,rfl,hx,q⟩:=h
 cases rx
 obtain ⟨its,r,ht,hz⟩:=I.list hx
 have hlen:=r.length
 refine ⟨"list",_,slot_list_getitem.lookup,ht.isList.typeIs,?_⟩
 refine wpAny_getItem_list_slice ht.isList hs pl pu .none (by simp) ?_ (by rw [List.size_toArray] <;> omega)
 rw [zhP,<-hlen]
 refine ⟨.ref s.heap.objs.size,_,I.laid (t':=s.toks) (o:=.lst (cutV xs lo hi)) (fun b ob q=>Heap.get?_push_of_some _ q) (Nat.le_refl _) ?_,rfl,q _ (I.hok.fresh (Nat.le_refl _))⟩
 exact ⟨Nat.le_trans (zgX xs lo hi) hz,_,0,(r.drop (HT.sIx xs.length 0 lo)).take (HT.sIx xs.length xs.length hi - HT.sIx xs.length 0 lo),Heap.get?_push_size _ rfl⟩
def zdK:V->Bool
 | .non=>true
 | .bl _=>true
 | .int _=>true
 | .str _=>true
 | _=>false
def eqV:V->V->Bool
 | .non,.non=>true
 | .bl a,.bl b=>a == b
 | .bl a,.int b=>(if a then 1 else 0) == b
 | .int a,.bl b=>a == (if b then 1 else 0)
 | .int a,.int b=>a == b
 | .str a,.str b=>a == b
 | _,_=>false
theorem zto {A:Around} {s:Shared} {y x:V} {u v:Value} (ry:RelV y u) (rx:RelV x v) (fy:zdK y=true) (fx:zdK x=true):SeqAt.EqAt A s u v (eqV y x):=by
 cases y with
 | non=>
  cases ry
  cases x with
  | non=>cases rx; exact SeqAt.EqAt.same _
  | bl b=>cases rx; exact SeqAt.EqAt.none_bool b
  | int b=>obtain ⟨t,rfl⟩:=rx; exact SeqAt.EqAt.none_int b t
  | str b=>obtain ⟨t,rfl⟩:=rx; exact SeqAt.EqAt.none_str b t
  | _=>exact absurd (show false=true from fx) Bool.false_ne_true
 | bl a=>
  cases ry
  cases x with
  | non=>cases rx; exact SeqAt.EqAt.bool_none a
  | bl b=>cases rx; exact SeqAt.EqAt.bool_bool a b
  | int b=>obtain ⟨t,rfl⟩:=rx; exact SeqAt.EqAt.bool_int a b t
  | str b=>obtain ⟨t,rfl⟩:=rx; exact SeqAt.EqAt.bool_str a b t
  | _=>exact absurd (show false=true from fx) Bool.false_ne_true
 | int a=>
  obtain ⟨t',rfl⟩:=ry
  cases x with
  | non=>cases rx; exact SeqAt.EqAt.int_none a t'
  | bl b=>cases rx; exact SeqAt.EqAt.int_bool a t' b
  | int b=>obtain ⟨t,rfl⟩:=rx; exact SeqAt.EqAt.int_int a t' b t
  | str b=>obtain ⟨t,rfl⟩:=rx; exact SeqAt.EqAt.int_str a t' b t
  | _=>exact absurd (show false=true from fx) Bool.false_ne_true
 | str a=>
  obtain ⟨t',rfl⟩:=ry
  cases x with
  | non=>cases rx; exact SeqAt.EqAt.str_none a t'
  | bl b=>cases rx; exact SeqAt.EqAt.str_bool a t' b
  | int b=>obtain ⟨t,rfl⟩:=rx; exact SeqAt.EqAt.str_int a t' b t
  | str b=>obtain ⟨t,rfl⟩:=rx; exact SeqAt.EqAt.str_str a t' b t
  | _=>exact absurd (show false=true from fx) Bool.false_ne_true
 | _=>exact absurd (show false=true from fy) Bool.false_ne_true
def eqU (x:V) (u:Value):Bool:=match u with
 | .none=>eqV .non x
 | .bool b=>eqV (.bl b) x
 | .int i _=>eqV (.int i) x
 | .str z _=>eqV (.str z) x
 | _=>false
theorem zi8 {x y:V} {u:Value} (r:RelV y u) (f:zdK y=true):eqU x u=eqV y x:=by
 cases y with
 | non=>cases r; rfl
 | bl b=>cases r; rfl
 | int i=>obtain ⟨t,rfl⟩:=r; rfl
 | str z=>obtain ⟨t,rfl⟩:=r; rfl
 | _=>exact absurd (show false=true from f) Bool.false_ne_true
theorem zg0 {x:V}:∀{xs:List V} {us:List Value},Vals xs us->xs.all zdK=true->us.any (eqU x)=xs.any fun y=>eqV y x
 | _,_,.nil,_=>rfl
 | y::xs,u::us,.cons r t,f=>by
  rw [List.all_cons,Bool.and_eq_true] at f
  rw [List.any_cons,List.any_cons,zi8 r f.1,zg0 t f.2]
theorem zdJ {A:Around} {s:Shared} {x:V} {v:Value} (rx:RelV x v) (fx:zdK x=true):∀{xs:List V} {us:List Value},Vals xs us->xs.all zdK=true->∀u∈us,SeqAt.EqAt A s u v (eqU x u)
 | _,_,.nil,_=>fun u hu=>by cases hu
 | y::xs,u::us,.cons r t,f=>fun u' hu=>by
  rw [List.all_cons,Bool.and_eq_true] at f
  rcases List.mem_cons.mp hu with rfl | hu
  ·rw [zi8 r f.1]; exact zto r rx f.1 fx
  ·exact zdJ rx fx t f.2 u' hu
def inV (x:V) (xs:List V):Bool:=xs.any fun y=>eqV y x
def rIn (K:W.Frag) (neg:Bool):R2:=fun x y H Q=>∃p xs,y=.ref p/\(SqL K H p xs\/SqT K H p xs)/\zdK x=true/\xs.all zdK=true/\Q (.bl (if neg then ! inV x xs else inV x xs)) H
theorem zmG:OpR X (compareOp .In) (rIn X.K false):=by
 intro pz s σ H x y v u Q I rx ry h
 obtain ⟨p,xs,rfl,hq,fx,fs,q⟩:=h
 cases ry
 rcases hq with hq | hq
 ·obtain ⟨its,r,pl,hz⟩:=I.list hq
  refine SeqAt.in_listAt (eqU x) pl.isList (fun w hw=>zdJ rx fx r fs w (by simpa using hw)) ⟨.bl _,H,I,rfl,?_⟩
  rw [show its.toArray.any (eqU x)=its.any (eqU x) by simp,zg0 r fs]
  exact q
 ·obtain ⟨its,r,pl,hz⟩:=I.tuple hq
  refine SeqAt.in_tupleAt (eqU x) pl (fun w hw=>zdJ rx fx r fs w (by simpa using hw)) ⟨.bl _,H,I,rfl,?_⟩
  rw [show its.toArray.any (eqU x)=its.any (eqU x) by simp,zg0 r fs]
  exact q
theorem ziO:OpR X (compareOp .NotIn) (rIn X.K true):=by
 intro pz s σ H x y v u Q I rx ry h
 obtain ⟨p,xs,rfl,hq,fx,fs,q⟩:=h
 cases ry
 rcases hq with hq | hq
 ·obtain ⟨its,r,pl,hz⟩:=I.list hq
  refine SeqAt.notIn_listAt (eqU x) pl.isList (fun w hw=>zdJ rx fx r fs w (by simpa using hw)) ⟨.bl _,H,I,rfl,?_⟩
  rw [show its.toArray.any (eqU x)=its.any (eqU x) by simp,zg0 r fs]
  exact q
 ·obtain ⟨its,r,pl,hz⟩:=I.tuple hq
  refine SeqAt.notIn_tupleAt (eqU x) pl (fun w hw=>zdJ rx fx r fs w (by simpa using hw)) ⟨.bl _,H,I,rfl,?_⟩
  rw [show its.toArray.any (eqU x)=its.any (eqU x) by simp,zg0 r fs]
  exact q
theorem ziN:OpR X (compareOp .NotIn) (fun x y H Q=>∃i j,x=.str i/\y=.str j/\Q (.bl (!(!(Builtin.Str.occurrences j i 0 j.length 1).isEmpty))) H):=by
 intro pz s σ H x y v u Q I rx ry h
 obtain ⟨i,j,rfl,rfl,q⟩:=h
 obtain ⟨t,rfl⟩:=rx
 obtain ⟨t',rfl⟩:=ry
 exact notIn_str ⟨.bl _,H,I,rfl,q⟩
theorem zdV.or {f:Value} {r r':List V->Hp->VK->Prop} (h:zdV X f r) (h':zdV X f r'):zdV X f (fun xs H Q=>r xs H Q\/r' xs H Q):=by
 intro pz s σ H xs us Q I rs q
 rcases q with q | q
 ·exact h pz s σ H xs us Q I rs q
 ·exact h' pz s σ H xs us Q I rs q
theorem zje:zdV X (.type "list") (fun xs H Q=>∃p ys,xs=[.ref p]/\(SqL X.K H p ys\/SqT X.K H p ys)/\∀l,H l=none->Q (.ref l) (upd H l (.lst ys))):=by
 intro pz s σ H xs us Q I r h
 obtain ⟨p,ys,rfl,hq,q⟩:=h
 obtain ⟨u,rfl,rx⟩:=zeK r
 cases rx
 have fin:∀(its:List Value),Vals ys its->ys.length<=sizeLine->∀(h':Heap) (c':Nat),(∀b o',s.heap.get? b=some o'->h'.get? b=some o') ->
   h'.get? s.heap.objs.size=some { cls:=.type "list",dict:=none,data:=.seq its.toArray c',slots:=#[] }->EP X pz σ Q (.ref s.heap.objs.size) { s with heap:=h' }:=fun its r' hz h' c' kp e=>
  ⟨.ref s.heap.objs.size,_,I.laid (t':=s.toks) kp (Nat.le_refl _) (show za3 X.prog X.w _ h' _ (.lst ys) from ⟨hz,its,c',r',e⟩),rfl,q _ (I.hok.fresh (Nat.le_refl _))⟩
 rcases hq with hq | hq
 ·obtain ⟨its,r',pl,hz⟩:=I.list hq
  have hlen:=r'.length
  obtain ⟨o,ho,hc,n,hd⟩:=pl.isList
  exact call_list_seq p (.inl rfl) ho hc hd (fun h' c' kp e=>fin its r' hz h' c' kp e) (by simp only [List.size_toArray] <;> omega)
 ·obtain ⟨its,r',pl,hz⟩:=I.tuple hq
  have hlen:=r'.length
  obtain ⟨o,ho,hc,n,hd⟩:=pl
  exact call_list_seq p (.inr rfl) ho hc hd (fun h' c' kp e=>fin its r' hz h' c' kp e) (by simp only [List.size_toArray] <;> omega)
theorem zij:zdV X (.type "tuple") (fun xs H Q=>∃p ys,xs=[.ref p]/\((SqL X.K H p ys/\∀l,H l=none->Q (.ref l) (upd H l (.tup ys)))\/(SqT X.K H p ys/\Q (.ref p) H))):=by
 intro pz s σ H xs us Q I r h
 obtain ⟨p,ys,rfl,h⟩:=h
 obtain ⟨u,rfl,rx⟩:=zeK r
 cases rx
 rcases h with ⟨hq,q⟩ | ⟨hq,q⟩
 ·obtain ⟨its,r',pl,hz⟩:=I.list hq
  have hlen:=r'.length
  refine call_tuple_list pl.isList (fun h' kp=>?_) (by simp only [List.size_toArray] <;> omega)
  have I1:Inv X pz σ H { s with heap:=h' }:=I.kept (t':=s.toks) kp
  have I2:Inv X pz σ (upd H h'.objs.size (.tup ys)) { s with heap:=h'.push { cls:=.type "tuple",data:=.seq its.toArray } }:=
   I1.laid (t':=s.toks) (fun b o e=>Heap.get?_push_of_some _ e) (Nat.le_refl _) (show za3 X.prog X.w _ _ _ (.tup ys) from ⟨hz,its,r',IsTup.new _ _,_,Heap.get?_push_size _ rfl,rfl⟩)
  exact ⟨.ref h'.objs.size,_,I2,rfl,q _ (I1.hok.fresh (Nat.le_refl _))⟩
 ·obtain ⟨its,r',pl,hz⟩:=I.tuple hq
  exact call_tuple_same pl ⟨.ref p,H,I,rfl,q⟩
def tyV (K:W.Frag) (T:String) (x:V) (H:Hp):Prop:=match x with
 | .str _=>T = "str"
 | .int _=>T = "int"
 | .ref p=>(T = "list"/\∃xs,SqL K H p xs)\/(T = "tuple"/\((∃o,K.lookup p=some o/\o.cls=.type "tuple"/\o.dict=none)\/∃xs,Rd H p (.tup xs))) \/
   (T = "dict"/\((∃kz,Rd H p (.dK kz))\/∃kz,H p=some (.dT kz)))\/(T = "set"/\∃S n,H p=some (.set S n))
 | _=>False
theorem zo9 {pz:List (Addr × Obj)} {σ:St} {H:Hp} {s:Shared} {T:String} {x:V} {v:Value} (I:Inv X pz σ H s) (r:RelV x v) (ty:tyV X.K T x H) :
  s.TypeIs v T/\∀a,v=.ref a->∃ob,s.heap.get? a=some ob/\ob.dict=none:=by
 cases x with
 | str z=>
  obtain ⟨t,rfl⟩:=r
  cases (show T = "str" from ty)
  exact ⟨typeIs_str s z t,fun _ e=>nomatch e⟩
 | int i=>
  obtain ⟨t,rfl⟩:=r
  cases (show T = "int" from ty)
  exact ⟨typeIs_int s i t,fun _ e=>nomatch e⟩
 | ref p=>
  cases r
  rcases ty with ⟨rfl,xs,hq⟩ | ⟨rfl,⟨o,hk,hc,hd⟩ | ⟨xs,hq⟩⟩ | ⟨rfl,hk⟩ | ⟨rfl,S,n,hk⟩
  ·obtain ⟨its,_,pl,_⟩:=I.list hq
   refine ⟨pl.isList.typeIs,fun a e=>?_⟩
   cases e
   obtain ⟨o,n,e,c,hd,_⟩:=pl
   exact ⟨o,e,hd⟩
  ·refine ⟨⟨o,I.kIn p o hk,hc⟩,fun a e=>?_⟩
   cases e
   exact ⟨o,I.kIn _ o hk,hd⟩
  ·obtain ⟨_,its,_,⟨o,ho,hc,_⟩,o2,ho2,hd2⟩:=hq.ok I.hok
   refine ⟨⟨o,ho,hc⟩,fun a e=>?_⟩
   cases e
   exact ⟨o2,ho2,hd2⟩
  ·have z:∃o,s.heap.get? p=some o/\o.ExactDict:=by
    rcases hk with ⟨kz,hk⟩ | ⟨kz,hk⟩
    ·obtain ⟨_,_,_,_,o,_,_,e,ex,_⟩:=(show za3 X.prog X.w H s.heap p (.dK kz) from hk.ok I.hok)
     exact ⟨o,e,ex⟩
    ·obtain ⟨_,_,_,_,o,_,_,e,ex,_⟩:=I.hok p _ hk
     exact ⟨o,e,ex⟩
   obtain ⟨o,e,ex⟩:=z
   refine ⟨⟨o,e,ex.1⟩,fun a e2=>?_⟩
   cases e2
   exact ⟨o,e,ex.2.1⟩
  ·obtain ⟨o,_,_,_,e,ex,_⟩:=I.hok p _ hk
   refine ⟨⟨o,e,ex.1⟩,fun a e2=>?_⟩
   cases e2
   exact ⟨o,e,ex.2.1⟩
 | _=>exact False.elim ty
def tBM0 (K:W.Frag) (T:String) (r:V->List V->Hp->VK->Prop) (to:TE):TE:=fun σ H Q=>to σ H fun x H1=>tyV K T x H1/\r x [] H1 Q
def tBM (K:W.Frag) (T:String) (r:V->List V->Hp->VK->Prop) (to:TE) (t:TA):TE:=fun σ H Q=>to σ H fun x H1=>tyV K T x H1/\t σ H1 fun xs H2=>r x xs H2 Q
variable {o e:Expr} {es:List Expr} {to:TE} {t:TA} {name:Str} {apos cpos:Pos} {T id:String} {r:V->List V->Hp->VK->Prop}
theorem zsl (pa:PlainAttrs T) (slot:Slot T name id) (hty:typeOf (.builtin id)=pure (.type "method_descriptor")) (hm:MtR X id r) (ho:PE X o to)
  (hbase:attributeBase o name X.env (eval o X.env)=eval o X.env:=by rfl) (hline:(apos.endLine == cpos.line)=true:=by rfl):PE X (.Call (.Attribute o name apos) [] [] cpos) (tBM0 X.K T r to):=by
 intro pz s σ H Q I h
 refine wpAny_Call_method0_late hbase hline (thn (ho pz s σ H _ I h) fun v s1 ⟨x,H1,I1,r1,ty,q1⟩=>?_)
 obtain ⟨h1,h2⟩:=zo9 I1 r1 ty
 exact ⟨T,id,pa,slot,hty,h1,h2,Calls.callWith_builtin rfl (PySem.evalArgs_none (hm pz s1 σ H1 x [] v [] Q I1 r1 .nil q1))⟩
theorem zsm (pa:PlainAttrs T) (slot:Slot T name id) (hty:typeOf (.builtin id)=pure (.type "method_descriptor")) (hm:MtR X id r) (ho:PE X o to) (ha:PA X (e::es) t)
  (hbase:attributeBase o name X.env (eval o X.env)=eval o X.env:=by rfl)
  (hfew:((backTo cpos (starEach (e::es) X.env)).all (fun x=>! x.1) && (backToKw cpos (keywordEach [] X.env)).all (fun x=>x.1.isSome)
   && decide ((e::es).length + ([]:List Keyword).length + (if ([]:List Keyword).isEmpty then 0 else 1) < 30))=true:=by rfl)
  (hline:(apos.endLine == cpos.line)=true:=by rfl) (hs:starEach (e::es) X.env=(false,eval e X.env)::starEach es X.env:=by rfl) (hplain:(backTo cpos (starEach es X.env)).any (·.1)=false:=by rfl) :
  PE X (.Call (.Attribute o name apos) (e::es) [] cpos) (tBM X.K T r to t):=by
 intro pz s σ H Q I h
 refine wpAny_Call_method_late hbase hfew hline rfl (thn (ho pz s σ H _ I h) fun v s1 ⟨x,H1,I1,r1,ty,q1⟩=>?_)
 obtain ⟨h1,h2⟩:=zo9 I1 r1 ty
 refine ⟨T,id,pa,slot,hty,h1,h2,?_⟩
 have hA:=ha cpos pz s1 σ H1 _ I1 q1
 rw [hs] at hA ⊢
 refine Calls.callWith_builtin (by show (false || (backTo cpos (starEach es X.env)).any (·.1))=false; rw [hplain] <;> rfl) (Calls.evalArgs_plain ?_)
 exact thn hA fun us s2 ⟨vs,H2,I2,r2,q2⟩=>hm pz s2 σ H2 x vs v us Q I2 r1 r2 q2
end
def MtM (X:Cx) (id:String) (r:V->List V->Hp->VK->Prop):Prop:=
 ∀(pz:List (Addr × Obj)) (s:Shared) (σ:St) (H:Hp) (x:V) (xs:List V) (v:Value) (us:List Value) (Q:VK),Inv X pz σ H s->RelV x v->Vals xs us->r x xs H Q ->
  wpAny (model X.prog X.w) X.A (call (.builtin id) (v::us)) (EP X pz σ Q) X.xe s
theorem Vals.one {x:V} {us:List Value} (h:Vals [x] us):∃u,us=[u]/\RelV x u:=by
 cases h with
 | cons r t=>cases t; exact ⟨_,rfl,r⟩
theorem Vals.eraseIdx:∀{xs:List V} {us:List Value} (i:Nat),Vals xs us->Vals (xs.eraseIdx i) (us.eraseIdx i)
 | _,_,_,.nil=>.nil
 | _,_,0,.cons _ t=>t
 | _,_,i + 1,.cons r t=>.cons r (Vals.eraseIdx i t)
theorem Vals.reverse {xs:List V} {us:List Value} (h:Vals xs us):Vals xs.reverse us.reverse:=by
 induction h with
 | nil=>exact .nil
 | cons r t ih=>rw [List.reverse_cons,List.reverse_cons]; exact Vals.append ih (.cons r .nil)
section
variable {X:Cx} {pz:List (Addr × Obj)} {σ:St} {H:Hp} {s:Shared} {l b:Addr} {xs ys zs:List V}
theorem Inv.lset {its its':List Value} {n:Nat} {f:Array Value->Array Value} {t':Nat} (I:Inv X pz σ H s) (hH:H l=some (.lst xs))
  (e:s.heap.get? l=some { cls:=.type "list",data:=.seq its.toArray n }) (hf:f its.toArray=its'.toArray) (hv:Vals ys its') (hz:ys.length<=sizeLine) :
  Inv X pz σ (upd H l (.lst ys)) { s with heap:=s.heap.update l (Obj.mapSeq f),toks:=t' }:=by
 have q:=PySem.IsL.update e f
 rw [hf] at q
 refine I.write (x:=l) (e:=l) (by rw [hH]; exact trivial) (.inl rfl) (fun b' u hb hu=>(Heap.get?_update_other s.heap (Obj.mapSeq f) (Ne.symm hb)).trans hu) ⟨_,q⟩ ?_
 exact ⟨hz,its',_,hv,q⟩
theorem Inv.lnew {its:List Value} {t':Nat} (I:Inv X pz σ H s) (hv:Vals ys its) (hz:ys.length<=sizeLine) :
  Inv X pz σ (upd H s.heap.objs.size (.lst ys)) { s with heap:=s.heap.push { cls:=.type "list",data:=.seq its.toArray },toks:=t' }:=
 I.laid (fun _ _ q=>Heap.get?_push_of_some _ q) (Nat.le_refl _) ⟨hz,its,0,hv,Heap.get?_push_size _ rfl⟩
theorem Inv.fresh (I:Inv X pz σ H s):H s.heap.objs.size=none:=I.hok.fresh (Nat.le_refl _)
theorem Inv.lstM (I:Inv X pz σ H s) (hH:H l=some (.lst xs)):xs.length<=sizeLine/\∃(its:List Value) (n:Nat),Vals xs its/\xs.length=its.length/\s.heap.get? l=some { cls:=.type "list",data:=.seq its.toArray n }:=by
 obtain ⟨z,its,n,r,e⟩:=I.hok l _ hH
 exact ⟨z,its,n,r,r.length,e⟩
end
section
variable {X:Cx}
def zmq:V->List V->Hp->VK->Prop:=fun x vs H Q=>∃l xs y,x=.ref l/\vs=[y]/\H l=some (.lst xs)/\xs.length < sizeLine/\Q .non (upd H l (.lst (xs++[y])))
theorem zcg:MtM X "list.append" zmq:=by
 intro pz s σ H x vs v us Q I rx rv h
 obtain ⟨l,xs,y,rfl,rfl,hH,hz,q⟩:=h
 cases rx
 obtain ⟨u,rfl,ru⟩:=rv.one
 obtain ⟨z,its,n,r,hl,e⟩:=I.lstM hH
 refine call_meets F.slot_list_append ⟨_,e,rfl⟩ F.entry_list_append (F.args_list_append_2 _ _) (PySem.list_append l its.toArray n u (by rw [List.size_toArray]; omega)) ⟨e,?_⟩
 refine ⟨.non,_,I.lset (its':=its++[u]) hH e (by simp) (r.append (.cons ru .nil)) ?_,rfl,q⟩
 rw [List.length_append,List.length_singleton]
 omega
end
section
variable {κ:Type} [DecidableEq κ]
def valV (kz:List (κ × V)) (k:κ):Option V:=(kz.find? fun kv=>decide (kv.1=k)).map (·.2)
def putK (kz:List (κ × V)) (k:κ) (v:V):List (κ × V):=
 if (kz.any fun kv=>decide (kv.1=k))=true then kz.map (fun kv=>if kv.1=k then (kv.1,v) else kv) else kz++[(k,v)]
def ztt (kz:List (κ × V)) (k:κ):List (κ × V):=kz.filter fun kv=>decide (kv.1≠k)
theorem zf1 {p:κ × V} {r:List (κ × V)} {k:κ} (e:p.1=k):valV (p::r) k=some p.2:=by simp [valV,List.find?_cons,e]
theorem zeX {p:κ × V} {r:List (κ × V)} {k:κ} (e:¬ p.1=k):valV (p::r) k=valV r k:=by simp [valV,List.find?_cons,e]
theorem zj7 (k:κ):∀kz:List (κ × V),(kz.any fun kv=>decide (kv.1=k))=(valV kz k).isSome
 | []=>rfl
 | p::r=>by
  rw [List.any_cons]
  by_cases e:p.1=k
  ·simp only [zf1 e,decide_eq_true e,Bool.true_or,Option.isSome_some]
  ·rw [zeX e,decide_eq_false e,Bool.false_or]; exact zj7 k r
theorem zeP (kz:List (κ × V)) (k:κ) (v:V):(putK kz k v).length<=kz.length + 1:=by
 unfold putK
 split
 ·rw [List.length_map]; omega
 ·rw [List.length_append,List.length_cons,List.length_nil]; omega
theorem RelO.isSome_eq {o:Option V} {u:Option Value} (r:RelO o u):o.isSome=u.isSome:=by
 cases o with
 | none=>cases u with
  | none=>rfl
  | some _=>exact (show False from r).elim
 | some _=>cases u with
  | none=>exact (show False from r).elim
  | some _=>rfl
theorem RelO.getD {o:Option V} {u:Option Value} {d:V} {d':Value} (r:RelO o u) (rd:RelV d d'):RelV (o.getD d) (u.getD d'):=by
 cases o with
 | none=>cases u with
  | none=>exact rd
  | some _=>exact (show False from r).elim
 | some _=>cases u with
  | none=>exact (show False from r).elim
  | some _=>exact r
theorem KV.val {kz:List (κ × V)} {vs:List (κ × Value)} (r:KV kz vs) (k:κ):RelO (valV kz k) (valueAt vs k):=by
 unfold KV at r
 induction r with
 | nil=>exact True.intro
 | @cons p q ps qs h t ih=>
  obtain ⟨h1,h2⟩:=h
  by_cases e:p.1=k
  ·have e':q.1=k:=h1.symm.trans e
   have b:valueAt (q::qs) k=some q.2:=by simp [valueAt,List.find?_cons,e']
   rw [zf1 e,b]; exact h2
  ·have e':¬ q.1=k:=fun z=>e (h1.trans z)
   have b:valueAt (q::qs) k=valueAt qs k:=by simp [valueAt,List.find?_cons,e']
   rw [zeX e,b]; exact ih
theorem KV.any {kz:List (κ × V)} {vs:List (κ × Value)} (r:KV kz vs) (k:κ):(kz.any fun kv=>decide (kv.1=k))=vs.any fun kv=>decide (kv.1=k):=by
 unfold KV at r
 induction r with
 | nil=>rfl
 | cons h t ih=>rw [List.any_cons,List.any_cons,ih,h.1]
theorem KV.repl {kz:List (κ × V)} {vs:List (κ × Value)} (r:KV kz vs) (k:κ) {y:V} {u:Value} (ry:RelV y u) :
  KV (kz.map fun kv=>if kv.1=k then (kv.1,y) else kv) (vs.map fun kv=>if kv.1=k then (kv.1,u) else kv):=by
 unfold KV at r ⊢
 induction r with
 | nil=>exact .nil
 | @cons p q ps qs h t ih=>
  rw [List.map_cons,List.map_cons]
  refine .cons ?_ ih
  obtain ⟨h1,h2⟩:=h
  by_cases e:p.1=k
  ·rw [if_pos e,if_pos (h1.symm.trans e)]; exact ⟨h1,ry⟩
  ·rw [if_neg e,if_neg (fun z=>e (h1.trans z))]; exact ⟨h1,h2⟩
theorem KV.put {kz:List (κ × V)} {vs:List (κ × Value)} (r:KV kz vs) (k:κ) {y:V} {u:Value} (ry:RelV y u):KV (putK kz k y) (stored vs k u):=by
 unfold putK stored
 rw [r.any k]
 by_cases e:(vs.any fun kv=>decide (kv.1=k))=true
 ·rw [if_pos e,if_pos e]; exact r.repl k ry
 ·rw [if_neg e,if_neg e]; exact Paired.snoc r ⟨rfl,ry⟩
theorem KV.drop {kz:List (κ × V)} {vs:List (κ × Value)} (r:KV kz vs) (k:κ):KV (ztt kz k) (without vs k):=by
 unfold KV at r ⊢
 unfold ztt without
 induction r with
 | nil=>exact .nil
 | @cons p q ps qs h t ih=>
  obtain ⟨h1,h2⟩:=h
  rw [List.filter_cons,List.filter_cons]
  by_cases e:p.1=k
  ·have a:¬ decide (p.1≠k)=true:=by simp [e]
   have b:¬ decide (q.1≠k)=true:=by simp [h1.symm.trans e]
   rw [if_neg a,if_neg b]; exact ih
  ·have e':¬ q.1=k:=fun z=>e (h1.trans z)
   have a:decide (p.1≠k)=true:=by simp [e]
   have b:decide (q.1≠k)=true:=by simp [e']
   rw [if_pos a,if_pos b]; exact .cons ⟨h1,h2⟩ ih
theorem KV.length {kz:List (κ × V)} {vs:List (κ × Value)} (r:KV kz vs):kz.length=vs.length:=Paired.length r
end
theorem zm3 {P:Program} {w:World} {k:Key} {u:Value} (r:RelV (kV k) u):(zbl P w).is k u=true:=by
 cases k with
 | inl i=>obtain ⟨t,e⟩:=(show ∃t,u=Value.int i t from r); subst e; exact zjK P w i t
 | inr x=>obtain ⟨t,e⟩:=(show ∃t,u=Value.str x t from r); subst e; exact zjJ P w x t
theorem ziZ {P:Program} {w:World}:∀{ks:List Key} {us:List Value},Vals (ks.map kV) us->ItemsAre (zbl P w) ks us
 | [],_,r=>by rw [List.map_nil] at r; cases r; exact .nil
 | k::ks,_,r=>by
  rw [List.map_cons] at r
  cases r with
  | cons h t=>exact .cons (zm3 h) (ziZ t)
abbrev KT (H:Hp):List (List Key × V)->List (List Key × Addr × Value)->Prop:=Paired fun p q=>p.1=q.1/\H q.2.1=some (.tup (p.1.map kV))/\RelV p.2 q.2.2
theorem KT.val {H:Hp} {kz:List (List Key × V)} {xs:List (List Key × Addr × Value)} (r:KT H kz xs) (k:List Key):RelO (valV kz k) ((atKey xs k).map (·.2)):=by
 induction r with
 | nil=>exact True.intro
 | @cons p q ps qs h t ih=>
  obtain ⟨h1,_,h2⟩:=h
  by_cases e:p.1=k
  ·have e':q.1=k:=h1.symm.trans e
   have b:atKey (q::qs) k=some q.2:=by simp [atKey,List.find?_cons,e']
   rw [zf1 e,b]; exact h2
  ·have e':¬ q.1=k:=fun z=>e (h1.trans z)
   have b:atKey (q::qs) k=atKey qs k:=by simp [atKey,List.find?_cons,e']
   rw [zeX e,b]; exact ih
theorem KT.repl {H:Hp} {kz:List (List Key × V)} {xs:List (List Key × Addr × Value)} (r:KT H kz xs) (k:List Key) {y:V} {u:Value} (ry:RelV y u) :
  KT H (kz.map fun kv=>if kv.1=k then (kv.1,y) else kv) (xs.map (putAt k u)):=by
 induction r with
 | nil=>exact .nil
 | @cons p q ps qs h t ih=>
  rw [List.map_cons,List.map_cons]
  refine .cons ?_ ih
  obtain ⟨h1,h2,h3⟩:=h
  unfold putAt
  by_cases e:p.1=k
  ·rw [if_pos e,if_pos (h1.symm.trans e)]; exact ⟨h1,h2,ry⟩
  ·rw [if_neg e,if_neg (fun z=>e (h1.trans z))]; exact ⟨h1,h2,h3⟩
theorem KT.put {H:Hp} {kz:List (List Key × V)} {xs:List (List Key × Addr × Value)} (r:KT H kz xs) (k:List Key) {b:Addr} {y:V} {u:Value} (hb:H b=some (.tup (k.map kV))) (ry:RelV y u) :
  KT H (putK kz k y) (storedH xs k b u):=by
 have e:(kz.any fun kv=>decide (kv.1=k))=(atKey xs k).isSome:=by
  rw [zj7,(r.val k).isSome_eq,Option.isSome_map]
 unfold putK storedH
 rw [e]
 by_cases q:(atKey xs k).isSome=true
 ·rw [if_pos q,if_pos q]; exact r.repl k ry
 ·rw [if_neg q,if_neg q]; exact Paired.snoc r ⟨rfl,hb,ry⟩
theorem KT.keeps {H H':Hp} {kz:List (List Key × V)} {xs:List (List Key × Addr × Value)} (r:KT H kz xs) (ht:∀b ys,H b=some (.tup ys)->H' b=some (.tup ys)):KT H' kz xs:=
 Paired.mapP r fun _ _ z=>⟨z.1,ht _ _ z.2.1,z.2.2⟩
section
variable {P:Program} {w:World} {H:Hp} {h:Heap} {a:Addr}
theorem zr1 {u:HO} (ok:HOk P w H h) (e:Rd H a u):za3 P w H h a u:=e.ok ok
theorem zlE {kz:List (Key × V)} (ok:HOk P w H h) (e:Rd H a (.dK kz)):kz.length<=sizeLine/\(a == sysModules)=false/\∃vs,KV kz vs/\h.DictOf (zbl P w) a vs:=
 show za3 P w H h a (.dK kz) from zr1 ok e
theorem zuw {kz:List (Key × V)} (ok:HOk P w H h) (e:H a=some (.dK kz)):kz.length<=sizeLine/\(a == sysModules)=false/\∃vs,KV kz vs/\h.DictOf (zbl P w) a vs:=zlE ok (.inl e)
theorem ziX {ks:List Key} (ok:HOk P w H h) (e:H a=some (.tup (ks.map kV))):(tupleKind (zbl P w)).is h ks a:=by
 obtain ⟨_,its,r,⟨o,h1,h2,n,h3⟩,_⟩:=(show za3 P w H h a (.tup (ks.map kV)) from ok a _ e)
 exact ⟨o,its.toArray,n,h1,h2,h3,by simpa using ziZ r⟩
theorem zno {kz:List (List Key × V)} (ok:HOk P w H h) (e:Rd H a (.dT kz)):kz.length<=sizeLine/\(a == sysModules)=false /\
  ∃xs,KT H kz xs/\h.DictOfH (tupleKind (zbl P w)) a xs:=by
 obtain ⟨z,y,xs,r,o,es,ep,h1,h2,h3,h4,h5⟩:=(show za3 P w H h a (.dT kz) from zr1 ok e)
 refine ⟨z,y,xs,r,o,es,ep,h1,h2,h3,h4,fun x hx=>?_,h5⟩
 have all:∀{l:List (List Key × V)} {m:List (List Key × Addr × Value)},KT H l m->∀x∈m,(tupleKind (zbl P w)).is h x.1 x.2.1:=by
  intro l m q
  induction q with
  | nil=>intro x hx; exact nomatch hx
  | @cons p q ps qs hq t ih=>
   intro x hx
   rcases List.mem_cons.mp hx with e | hx
   ·subst e
    exact ziX ok (by rw [<-hq.1]; exact hq.2.1)
   ·exact ih x hx
 exact all r x hx
theorem zuv {kz:List (List Key × V)} (ok:HOk P w H h) (e:H a=some (.dT kz)):kz.length<=sizeLine/\(a == sysModules)=false /\
  ∃xs,KT H kz xs/\h.DictOfH (tupleKind (zbl P w)) a xs:=zno ok (.inl e)
end
def DGet (H:Hp) (a:Addr) (y:V) (r:Option V):Prop:=
 (∃kz k,Rd H a (.dK kz)/\y=kV k/\r=valV kz k)\/∃kz k b,Rd H a (.dT kz)/\y=.ref b/\H b=some (.tup (k.map kV))/\r=valV kz k
def DPut (H:Hp) (a:Addr) (y v:V) (H':Hp):Prop:=
 (∃kz k,H a=some (.dK kz)/\y=kV k/\kz.length < sizeLine/\H'=upd H a (.dK (putK kz k v))) \/
 ∃kz k b,H a=some (.dT kz)/\y=.ref b/\H b=some (.tup (k.map kV))/\kz.length < sizeLine/\H'=upd H a (.dT (putK kz k v))
theorem DGet.k {H:Hp} {a:Addr} {kz:List (Key × V)} {k:Key} (e:H a=some (.dK kz)):DGet H a (kV k) (valV kz k):=.inl ⟨kz,k,.inl e,rfl,rfl⟩
theorem DGet.t {H:Hp} {a b:Addr} {kz:List (List Key × V)} {k:List Key} (e:H a=some (.dT kz)) (eb:H b=some (.tup (k.map kV))):DGet H a (.ref b) (valV kz k):=.inr ⟨kz,k,b,.inl e,rfl,eb,rfl⟩
theorem DPut.k {H:Hp} {a:Addr} {kz:List (Key × V)} {k:Key} {v:V} (e:H a=some (.dK kz)) (hl:kz.length < sizeLine):DPut H a (kV k) v (upd H a (.dK (putK kz k v))):=.inl ⟨kz,k,e,rfl,hl,rfl⟩
theorem DPut.t {H:Hp} {a b:Addr} {kz:List (List Key × V)} {k:List Key} {v:V} (e:H a=some (.dT kz)) (eb:H b=some (.tup (k.map kV))) (hl:kz.length < sizeLine) :
  DPut H a (.ref b) v (upd H a (.dT (putK kz k v))):=.inr ⟨kz,k,b,e,rfl,eb,hl,rfl⟩
section
variable {X:Cx} {pz:List (Addr × Obj)} {σ:St} {H:Hp} {s:Shared} {a:Addr} {y v:V} {u r:Value} {o:Option V} {A:Around} {E:Value->Shared->Prop}
theorem Inv.big (I:Inv X pz σ H s):sysModules < s.heap.objs.size:=by
 have h:mainGlobals < s.heap.objs.size:=(I.mod.glob.keeps I.bk).lt
 exact Nat.lt_trans (by decide) h
theorem znw {Q:Value->Shared->Prop} (hu:A.units + 1 < cLine) (I:Inv X pz σ H s) (g:DGet H a y (some v)) (ry:RelV y u) (h:∀w' s',Inv X pz σ H s'->RelV v w'->Q w' s') :
  wpAny (model X.prog X.w) A (getItem (.ref a) u) Q E s:=by
 rcases g with ⟨kz,k,e,ey,l⟩ | ⟨kz,k,b,e,ey,eb,l⟩
 ·subst ey
  obtain ⟨z,hd,vs,rel,dd⟩:=zlE I.hok e
  obtain ⟨w',hw,rw'⟩:=RelO.some_of (v:=v) (o:=valueAt vs k) (by rw [l]; exact rel.val k)
  exact wpAny_getItem_of (zm3 ry) dd.mapOf hw (h w' _ (I.tok _) rw')
 ·subst ey
  cases (show u=Value.ref b from ry)
  obtain ⟨z,hd,xs,rel,dd⟩:=zno I.hok e
  obtain ⟨w',hw,rw'⟩:=RelO.some_of (v:=v) (o:=(atKey xs k).map (·.2)) (by rw [l]; exact rel.val k)
  obtain ⟨p,hp,hp2⟩:=Option.map_eq_some_iff.mp hw
  refine wpAny_getItem_heap (tupleKind_room_in1 hu) (ziX I.hok eb) dd hp ?_
  rw [hp2]
  exact h w' _ (I.tok _) rw'
theorem d_in {Q:Value->Shared->Prop} (hu:A.units + 1 < cLine) (I:Inv X pz σ H s) (g:DGet H a y o) (ry:RelV y u) (h:∀s',Inv X pz σ H s'->Q (.bool o.isSome) s') :
  wpAny (model X.prog X.w) A (compareOp .In u (.ref a)) Q E s:=by
 rcases g with ⟨kz,k,e,ey,l⟩ | ⟨kz,k,b,e,ey,eb,l⟩
 ·subst ey
  obtain ⟨z,hd,vs,rel,dd⟩:=zlE I.hok e
  refine wpAny_in_of (zm3 ry) hd dd.mapOf ?_
  rw [<-(rel.val k).isSome_eq,<-l]
  exact h _ (I.tok _)
 ·subst ey
  cases (show u=Value.ref b from ry)
  obtain ⟨z,hd,xs,rel,dd⟩:=zno I.hok e
  refine wpAny_in_heap (tupleKind_room_in1 hu) (ziX I.hok eb) hd dd ?_
  have q:=(rel.val k).isSome_eq
  rw [Option.isSome_map] at q
  rw [<-q,<-l]
  exact h _ (I.tok _)
theorem zrc {Q:Value->Shared->Prop} (hu:A.units + 1 < cLine) (I:Inv X pz σ H s) (g:DGet H a y o) (ry:RelV y u) (h:∀s',Inv X pz σ H s'->Q (.bool (! o.isSome)) s') :
  wpAny (model X.prog X.w) A (compareOp .NotIn u (.ref a)) Q E s:=by
 rcases g with ⟨kz,k,e,ey,l⟩ | ⟨kz,k,b,e,ey,eb,l⟩
 ·subst ey
  obtain ⟨z,hd,vs,rel,dd⟩:=zlE I.hok e
  refine wpAny_notIn_of (zm3 ry) hd dd.mapOf ?_
  rw [<-(rel.val k).isSome_eq,<-l]
  exact h _ (I.tok _)
 ·subst ey
  cases (show u=Value.ref b from ry)
  obtain ⟨z,hd,xs,rel,dd⟩:=zno I.hok e
  refine wpAny_notIn_heap (tupleKind_room_in1 hu) (ziX I.hok eb) hd dd ?_
  have q:=(rel.val k).isSome_eq
  rw [Option.isSome_map] at q
  rw [<-q,<-l]
  exact h _ (I.tok _)
theorem znu {h':Heap} {t':Nat} {ob:HO} (I:Inv X pz σ H s) (mu:Mut (H a)) (hs:Heap.SameBut a s.heap h') (he:∃q,h'.get? a=some q) (new:za3 X.prog X.w (upd H a ob) h' a ob) :
  Inv X pz σ (upd H a ob) { s with heap:=h',toks:=t' }:=
 I.write (x:=a) (e:=a) mu (.inl rfl) (fun b q hb z=>(hs.2 b hb).trans z) he new
theorem ztu {P:Program} {w:World} {H':Hp} {h':Heap} {kz:List (Key × V)} {vs:List (Key × Value)} (z:kz.length<=sizeLine) (hd:(a == sysModules)=false) (rel:KV kz vs) (dd:h'.DictOf (zbl P w) a vs) :
  za3 P w H' h' a (.dK kz):=⟨z,hd,vs,rel,dd⟩
theorem znv {H':Hp} {Q:Unit->Shared->Prop} (hu:A.units + 1 < cLine) (I:Inv X pz σ H s) (g:DPut H a y v H') (ry:RelV y u) (rv:RelV v r) (h:∀s',Inv X pz σ H' s'->Q () s') :
  wpAny (model X.prog X.w) A (setItem (.ref a) u r) Q E s:=by
 rcases g with ⟨kz,k,e,ey,l,eH⟩ | ⟨kz,k,b,e,ey,eb,l,eH⟩
 ·subst ey eH
  obtain ⟨z,hd,vs,rel,dd⟩:=zuw I.hok e
  have hz:vs.length<=sizeLine:=by rw [<-rel.length]; exact z
  have hl:(putK kz k v).length<=sizeLine:=by have:=zeP kz k v; omega
  refine wpAny_setItem_pairs (hsz:=hz) (zm3 ry) dd fun h' dd' hs=>h _ ?_
  have he:∃q,h'.get? a=some q:=let ⟨q,_,_,hq,_⟩:=dd'; ⟨q,hq⟩
  exact znu I (by rw [e]; exact True.intro) hs he (ztu hl hd (rel.put k rv) dd')
 ·subst ey eH
  cases (show u=Value.ref b from ry)
  obtain ⟨z,hd,xs,rel,dd⟩:=zuv I.hok e
  have hz:xs.length<=sizeLine:=by rw [<-Paired.length rel]; exact z
  have hl:(putK kz k v).length<=sizeLine:=by have:=zeP kz k v; omega
  refine wpAny_setItem_heap (hsz:=hz) (tupleKind_room_in1 hu) (ziX I.hok eb) dd fun h' dd' hs=>h _ ?_
  obtain ⟨q,es,ep,hq,h2,h3,h4,_,h5⟩:=dd'
  refine znu I (by rw [e]; exact True.intro) hs ⟨q,hq⟩ ⟨hl,hd,_,(rel.put k eb rv).keeps fun c ys ec=>?_,q,es,ep,hq,h2,h3,h4,h5⟩
  rw [zaq (zug ec e (fun z=>nomatch z))]
  exact ec
end
section
variable {X:Cx} {pz:List (Addr × Obj)} {σ:St} {H:Hp} {s:Shared} {a:Addr} {kz:List (Key × V)} {k:Key} {u:Value} {A:Around} {E:Value->Shared->Prop}
theorem zuy {Q:Value->Shared->Prop} (I:Inv X pz σ H s) (e:Rd H a (.dK kz)) (h:∀t s',Inv X pz σ H s'->Q (.int kz.length t) s'):wpAny (model X.prog X.w) A (call (.builtin "len") [.ref a]) Q E s:=by
 obtain ⟨z,hd,vs,rel,dd⟩:=zlE I.hok e
 refine call_len_dict hd dd (by rw [<-rel.length]; rw [sizeLine_eq] at z; omega) ?_
 rw [<-rel.length]
 exact h _ _ (I.tok _)
end
theorem zjY {X:Cx} {pz:List (Addr × Obj)} {σ:St} {H:Hp} {s:Shared} {a:Addr} {y:V} {o:Option V} (I:Inv X pz σ H s) (g:DGet H a y o):s.TypeIs (.ref a) "dict" := by
 rcases g with ⟨kz,k,e,_,_⟩ | ⟨kz,k,b,e,_,_,_⟩
 ·obtain ⟨_,_,vs,_,dd⟩:=zlE I.hok e
  exact dd.typeIs
 ·obtain ⟨_,_,xs,_,dd⟩:=zno I.hok e
  exact dd.typeIs
theorem zoS {P:Program} {w:World} {H:Hp} (h:Heap) (hb:sysModules < h.objs.size):za3 P w H (h.push { cls:=.type "dict",data:=.dict #[] }) h.objs.size (.dK []):=
 ⟨Nat.zero_le _,beq_eq_false_iff_ne.mpr (Ne.symm (Nat.ne_of_lt hb)),[],.nil,Heap.DictOf.new h⟩
def zrF:TE:=fun _ H Q=>∀p,H p=none->Q (.ref p) (upd H p (.dK []))
section
variable {X:Cx} {pos:Pos}
theorem zoh:PE X (.Dict [] [] pos) zrF:=fun pz s σ H Q I h=>
 wpAny_Dict_empty ⟨.ref s.heap.objs.size,_,I.laid (a:=s.heap.objs.size) (o:=.dK []) (t':=s.toks) (fun _ _ q=>Heap.get?_push_of_some _ q) (Nat.le_refl _) (zoS s.heap I.big),rfl,h _ (I.hok.fresh (Nat.le_refl _))⟩
end
def zfM (kz more:List (Key × V)):List (Key × V):=more.foldl (fun acc kv=>putK acc kv.1 kv.2) kz
theorem KV.merge:∀{more:List (Key × V)} {rs:List (Key × Value)} {kz:List (Key × V)} {vs:List (Key × Value)},KV more rs->KV kz vs->KV (zfM kz more) (merged vs rs):=by
 intro more rs kz vs r
 unfold KV at r
 induction r generalizing kz vs with
 | nil=>intro q; exact q
 | @cons p q ps qs h t ih=>
  intro r0
  have e:KV (putK kz p.1 p.2) (stored vs q.1 q.2):=by
   have:=r0.put p.1 h.2
   rw [<-h.1]; exact this
  exact ih e
theorem ze7:∀(more kz:List (Key × V)),(zfM kz more).length<=kz.length + more.length
 | [],kz=>by show kz.length<=kz.length + 0; omega
 | p::r,kz=>by
  have h1:=ze7 r (putK kz p.1 p.2)
  have h2:=zeP kz p.1 p.2
  show (zfM (putK kz p.1 p.2) r).length<=_
  rw [List.length_cons]; omega
structure M1 (X:Cx) (o:Expr) (m:Str) (apos:Pos) (e:Expr) (cpos:Pos):Prop where
 base:attributeBase o m X.env (eval o X.env)=eval o X.env
 few:((backTo cpos (starEach [e] X.env)).all (fun x=>! x.1) && (backToKw cpos (keywordEach [] X.env)).all (fun x=>x.1.isSome)
  && decide (([e]:List Expr).length + ([]:List Keyword).length + (if ([]:List Keyword).isEmpty then 0 else 1) < 30))=true
 line:(apos.endLine == cpos.line)=true
 trees:backTo cpos (starEach [e] X.env)=[(false,eval e X.env)]
structure M2 (X:Cx) (o:Expr) (m:Str) (apos:Pos) (e f:Expr) (cpos:Pos):Prop where
 base:attributeBase o m X.env (eval o X.env)=eval o X.env
 few:((backTo cpos (starEach [e,f] X.env)).all (fun x=>! x.1) && (backToKw cpos (keywordEach [] X.env)).all (fun x=>x.1.isSome)
  && decide (([e,f]:List Expr).length + ([]:List Keyword).length + (if ([]:List Keyword).isEmpty then 0 else 1) < 30))=true
 line:(apos.endLine == cpos.line)=true
 trees:backTo cpos (starEach [e,f] X.env)=[(false,eval e X.env),(false,eval f X.env)]
end L2
namespace Att
open PySem PySem.W PySem.Calls PyProof.Rows
theorem zgO {P:Params} {h:Heap}:∀(ns:List Int) (vs:List Value),WellAll P h vs (ns.map WData.int)->IntsAre vs ns:=by
 intro ns
 induction ns with
 | nil=>
  intro vs w
  rw [List.map_nil] at w
  cases w
  exact .nil
 | cons n ns ih=>
  intro vs w
  rw [List.map_cons] at w
  cases w with
  | cons a b=>
   cases a
   exact .cons _ _ (ih _ b)
theorem zl3 {l:OpenLaw} {n:Nat} (hn:l.most=some n) {P:Params} {h:Heap} {args:List WData} {vals:List Value}
  (hpre:l.row.toRowW.claim.pre args=true) (hwl:WellAll P h vals args) :
  ∃a vs ns,vals=[Value.ref a]/\args=[WData.list (ns.map WData.int)]/\h.get? a=some { cls:=.type "list",data:=.seq vs.toArray }/\IntsAre vs ns/\ns.length<=n:=by
 have hsh:WShape.hasAll [] args [.list .int]=true:=(pre_splitW hpre).1
 have hc:l.pre.holds [] { args:=args }=true:=(pre_splitW hpre).2
 obtain ⟨d,r,rfl,h1,h2⟩:=hasAllW_cons hsh
 obtain rfl:=hasAllW_nil h2
 obtain ⟨xs,rfl,h3⟩:=hasW_list h1
 obtain ⟨ns,rfl⟩:=items_int h3
 have hlen:ns.length<=n:=by
  unfold OpenLaw.pre at hc
  have h4:(WTm.not (.lt (.lit (.int (n:Int))) (.len (.arg 0)))).holds [] { args:=[.list (ns.map .int)] }=true:=by
   have h4:=(holds_andW hc).1
   rw [hn] at h4
   exact h4
  have h5:=condW_of h4 (w_not (w_lt w_lit (w_len_list (w_arg rfl))))
  rw [List.length_map] at h5
  refine Nat.le_of_not_lt fun q=>?_
  have q':(n:Int) < ((ns.length:Nat):Int):=by omega
  first
   | (rw [decide_eq_true q'] at h5; exact absurd h5 (by decide))
   | (simp at h5; omega)
 cases hwl with
 | cons w1 w2=>
  cases w2
  cases w1 with
  | list ho hall=>exact ⟨_,_,ns,rfl,rfl,ho,zgO ns _ hall,hlen⟩
theorem zmu (l:OpenLaw) (args:List WData):l.row.toRowW.claim.post args (.bool true) args=true:=
 postW_of (r:=l.row.toRowW) (X:=(true == true))
  (show WShape.has [] (.bool true) .bool=true by first | rfl | decide | simp [WShape.has,WShape.arms,WShape.armsAll])
  (show (WTm.eq .res (.lit (.bool true))).value [] { args:=args,res:=some (.bool true),after:=args }=some (.bool (true == true)) from w_eq_bool (w_res rfl) w_lit) rfl
theorem attach_call {l:OpenLaw} {n:Nat} {q:Program} {loose:List Str} {XP:(Str->Option Value)->Heap->Prop} {YP:World->Heap->Prop} {d:DefRec}
  (hn:l.most=some n) (hdf:d.params.defaults=[])
  (call:∀(w:World) (s₀ s₁:Shared) (mg mb:Str->Option Value) (fa:Addr) (o:Obj) (pm cd doc:Value) (a:Addr) (vs:List Value) (ns:List Int),
   Ground q loose [] XP w s₀ mg mb s₁.heap->YP w s₁.heap ->
   s₁.heap.get? fa=some o->o.data=.func (docDef d.name d.params d.body d.scope pm cd doc)->s₁.heap.CodeRec cd d.name->mg d.name=some (.ref fa) ->
   s₁.heap.get? a=some { cls:=.type "list",data:=.seq vs.toArray }->IntsAre vs ns->ns.length<=n->s₁.gens = #[] ->
   codeAny (model l.prog w) callerA (.call (.ref fa) ⟨[.ref a],[]⟩) (fun r s'=>r=.ok (.ret (.bool true))/\OldK s₁.heap s'.heap/\s'.os=s₁.os/\AllBare s'.gens) s₁) :
  WalkO q loose XP YP l.row.toRowW d [] (fun f vs=>PySem.call f vs):=by
 intro w s₀ s₁ mg mb G Y fa o pm cd doc dV kV ho hd hcd hD hmg hg args vals as hpre hlay hrd hwl hlo
 obtain rfl:dV=.none:=Dflts.none hD hdf
 obtain rfl:kV=.none:=Dflts.noKw hD
 obtain ⟨a,vs,ns,rfl,rfl,hobj,hints,hlen⟩:=zl3 hn hpre hwl
 refine enter_call (codeAny_mono (call w s₀ s₁ mg mb fa o pm cd doc a vs ns G Y ho (fd_plain hd) hcd hmg hobj hints hlen hg) fun r s' hq=>?_)
 obtain ⟨rfl,h2,h3,h4⟩:=hq
 exact ⟨.inl ⟨.bool true,.bool true,[],rfl,fun _=>rfl,.bool true,zmu l _,fun _=>⟨List.Pairwise.nil,fun _ hm=>(nomatch hm)⟩⟩,h2,h3,h4⟩
end Att
namespace L2
open PySem PySem.Spec PyProof.Rows
theorem zin:∀{vs:List Value} {ns:List Int},IntsAre vs ns->Vals (ns.map V.int) vs
 | _,_,.nil=>.nil
 | _,_,.cons n t h=>.cons ⟨t,rfl⟩ (zin h)
def Only (H:Hp):Prop:=∀b,H b=none\/∃o xs,H b=some (.frz o (.lst xs))
theorem zoB {P:Program} {w:World} {K:W.Frag} {mg mb:Str->Option Value} {CX:CXT} {k:Nat} {fa a:Addr} {fd:FuncData} {x:Str} {sp:Sp} {s₁:Shared} {vs:List Value} {ns:List Int}
  (KX:K.In s₁.heap) (hns:s₁.heap.Ns mainGlobals mg) (hb:s₁.heap.Ns builtinsNs mb) (hbb:∀x:Str,x≠"__name__"->mb x=bootBuiltins x) (hlim:s₁.heap.NoLimit) (hg:s₁.gens = #[])
  (ha:s₁.heap.get? a=some { cls:=.type "list",data:=.seq vs.toArray }) (hi:IntsAre vs ns) (hl:ns.length<=sizeLine) (hr:Room k callerA)
  (F:∀base:Heap,K.In base->base.Ns mainGlobals mg->FnOk P w K mg base CX k fa fd [x] sp) (hbind:∀(s:Shared) (u:Value),BindsTo s fd ⟨[u],[]⟩ [(x,u)])
  (hsp:∀H:Hp,Only H->SqL K H a (ns.map V.int)->sp [.ref a] H (fun v _=>v=.bl true) fun _ _ _=>False)
  (hCX:∀H e s',CX [] H s₁ (fun _ _ _=>False) e s'->False) :
  codeAny (model P w) callerA (.call (.ref fa) ⟨[.ref a],[]⟩) (fun r s'=>r=.ok (.ret (.bool true))/\OldK s₁.heap s'.heap/\s'.os=s₁.os/\AllBare s'.gens) s₁:=by
 have rv:=zin hi
 have lenV:=hi.length
 have core:∀H:Hp,Only H->SqL K H a (ns.map V.int)->HOk P w H s₁.heap->(∀b,H b≠none->b=a)->(H a≠none->K.lookup a=none) ->
   codeAny (model P w) callerA (.call (.ref fa) ⟨[.ref a],[]⟩) (fun r s'=>r=.ok (.ret (.bool true))/\OldK s₁.heap s'.heap/\s'.os=s₁.os/\AllBare s'.gens) s₁:=by
  intro H hO hS hok hA hK
  have base_of:∀{b:Addr} {o:Obj},s₁.heap.get? b=some o->H b=none->(hidT s₁.heap H).get? b=some o:=fun e n=>zoJ e n
  have noA:∀{b:Addr} {o:Obj} {es:Array DictEntry} {ep:Nat},s₁.heap.get? b=some o->o.data=.dict es ep->H b=none:=fun {b o es ep} e d=>by
   cases q:H b with
   | none=>rfl
   | some u=>
    have e':b=a:=hA b (by rw [q]; simp)
    subst e'
    rw [ha] at e; cases e
    have d':Data.seq vs.toArray _=Data.dict es ep:=d
    cases d'
  have nsK:∀{b:Addr} {m:Str->Option Value},s₁.heap.Ns b m->(hidT s₁.heap H).Ns b m:=fun {b m} ⟨o,es,ep,e,d,r⟩=>⟨o,es,ep,base_of e (noA e d),d,r⟩
  have hKb:K.In (hidT s₁.heap H):=fun b o e=>base_of (KX b o e) (by
   cases q:H b with
   | none=>rfl
   | some u=>
    have e':b=a:=hA b (by rw [q]; simp)
    subst e'
    rw [hK (by rw [q]; simp)] at e; cases e)
  have hM:Mod K mg (hidT s₁.heap H):=⟨hKb,nsK hns,⟨mb,nsK hb,hbb⟩,let ⟨mc,h1,h2⟩:=hlim; ⟨mc,nsK h1,h2⟩⟩
  have e0:Env0 P w K mg (hidT s₁.heap H) callerA [] s₁ H:=⟨rfl,hM,fun b o e=>zqQ e,Nat.le_of_eq (znc _ _),trivial,fun b hb=>absurd (show b∈([]:List Addr) from hb) (by simp),hok,.of_eq hg⟩
  refine codeAny_mono ((F _ hKb (nsK hns)).run callerA [] s₁ H ⟨[.ref a],[]⟩ [.ref a] [.ref a] _ _ hr e0 (hbind s₁ (.ref a)) (.cons rfl .nil) (hsp H hO hS)) fun r s' h=>?_
  cases r with
  | error e=>exact (hCX H e s' h).elim
  | ok fl=>
   cases fl with
   | next=>exact False.elim h
   | brk=>exact False.elim h
   | cont=>exact False.elim h
   | ret u=>
    obtain ⟨v,H',os,bare,un,hok',r',q⟩:=h
    have q':v=.bl true:=q
    subst q'
    obtain rfl:u=Value.bool true:=r'
    refine ⟨rfl,OldK.of_keep fun b o e=>?_,os,bare⟩
    cases q:H b with
    | none=>exact un.keep b o e q (by intro z; exact absurd (show b∈([]:List Addr) from z) (by simp)) (by simp)
    | some u=>
     rcases hO b with z | ⟨ob,xs,z⟩
     ·rw [q] at z; cases z
     ·have z2:=un.frzs b ob _ z
      obtain ⟨e1,_⟩:=hok b _ z
      obtain ⟨e2,_⟩:=hok' b _ z2
      rw [e] at e1; cases e1
      exact e2
 cases hk:K.lookup a with
 | some o=>
  have e:=KX a o hk
  rw [ha] at e
  cases e
  refine core (fun _=>none) (fun _=>.inl rfl) (.inr ⟨_,vs.toArray,_,hk,rfl,rfl,rfl,by rw [List.size_toArray,lenV]; exact hl,by simpa using rv⟩) (fun b u z=>by have z':(none:Option HO)=some u:=z; cases z') (fun b z=>absurd rfl z) fun z=>absurd rfl z
 | none=>
  refine core (fun b=>if b=a then some (.frz { cls:=.type "list",data:=.seq vs.toArray } (.lst (ns.map V.int))) else none) (fun b=>?_) (.inl (.inr ⟨{ cls:=.type "list",data:=.seq vs.toArray },if_pos rfl⟩)) (fun b u z=>?_) (fun b z=>?_) fun _=>hk
  ·by_cases hb:b=a
   ·exact .inr ⟨_,_,if_pos hb⟩
   ·exact .inl (if_neg hb)
  ·by_cases hb:b=a
   ·have z':=(if_pos hb).symm.trans z
    cases z'
    subst hb
    exact ⟨ha,by rw [List.length_map]; exact hl,vs,_,rv,ha⟩
   ·have z':=(if_neg hb).symm.trans z
    cases z'
  ·by_cases hb:b=a
   ·exact hb
   ·exact absurd (if_neg hb) z
abbrev KOf {K:W.Frag} {h:Heap} (_:K.In h):W.Frag:=K
theorem walk_of {l:W.OpenLaw} {n k:Nat} {q:Program} {loose:List Str} {XP:(Str->Option Value)->Heap->Prop} {YP:World->Heap->Prop} {d:DefRec} {K:Params->W.Frag} {CX:World->CXT} {sp:World->Sp} {x:Str}
  (hn:l.most=some n) (hn2:n<=sizeLine) (hdf:d.params.defaults=[]) (hr:Room k callerA)
  (hY:∀(w:World) (h:Heap),YP w h->(K w.params).In h)
  (F:∀(w:World) (mg:Str->Option Value) (fa:Addr) (h:Heap),(K w.params).In h->h.Ns mainGlobals mg->mg d.name=some (.ref fa) ->
   ∃fd:FuncData,(∀(s:Shared) (u:Value),BindsTo s fd ⟨[u],[]⟩ [(x,u)]) /\
    ∀base:Heap,(K w.params).In base->base.Ns mainGlobals mg->FnOk l.prog w (K w.params) mg base (CX w) k fa fd [x] (sp w))
  (hsp:∀(w:World) (H:Hp) (a:Addr) (ns:List Int),ns.length<=n->Only H->SqL (K w.params) H a (ns.map V.int)->sp w [.ref a] H (fun v _=>v=.bl true) fun _ _ _=>False)
  (hCX:∀(w:World) (H:Hp) (s:Shared) (e:Value) (s':Shared),CX w [] H s (fun _ _ _=>False) e s'->False) :
  W.WalkO q loose XP YP l.row.toRowW d [] (fun f vs=>PySem.call f vs):=by
 refine Att.attach_call hn hdf fun w s₀ s₁ mg mb fa o pm cd doc a vs ns G Y ho hd hcd hmg hobj hints hlen hg=>?_
 have KX:=hY w _ Y
 obtain ⟨fd,hb,hF⟩:=F w mg fa _ KX G.T.g hmg
 exact zoB KX G.T.g G.T.b G.T.builtins G.T.nolimit hg hobj hints (Nat.le_trans hlen hn2) hr hF hb (fun H hO hS=>hsp w H a ns hlen hO hS) fun H e s'=>hCX w H s₁ e s'
def zcS (s:Stmt):Arguments:=match s with
 | .FunctionDef _ a _ _ _ _ _ _ _ _=>a
 | _=>{ posonlyargs:=[],args:=[],vararg:=none,kwonlyargs:=[],kw_defaults:=[],kwarg:=none,defaults:=[] }
def zbH (s:Stmt):List Stmt:=match s with
 | .FunctionDef _ _ b _ _ _ _ _ _ _=>b
 | _=>[]
def zab (s:Stmt):Scope:=match s with
 | .FunctionDef _ _ _ _ _ _ sc _ _ _=>sc
 | _=>{ kind:=.function,names:=[],isGenerator:=false,isCoroutine:=false }
abbrev CX0:CXT:=fun _ _ _ _ _ _=>False
abbrev E0:XK:=fun _ _ _=>False
theorem zt8 {X:Cx}:znM CX0 X E0:=fun _ _ _ _ _ _ _ h=>h.elim
structure Fun (K:W.Frag) (x qual:Str) (st:Stmt) (f:Addr) (fd:FuncData):Prop where
 ex:∃(oc:Value) (od:Option Addr) (kV doc pm:Value) (an:Option Addr) (cdv ct:Value) (osl:Array (Option Value)),
  fd=W.fnOf x qual (zcS st) (zbH st) (zab st) .none kV doc pm an cdv ct/\K.lookup f=some ⟨oc,od,.func fd,osl⟩/\W.codeIn K cdv qual=true
 kp:W.keepIn K (.ref f)=true
section
variable {P:Program} {w:World} {K:W.Frag} {mg:Str->Option Value} {base:Heap}
theorem Fun.ok {x qual:Str} {st:Stmt} {f:Addr} {fd:FuncData} {N ps:List Str} {k:Nat} {sp:Sp} (F:Fun K x qual st f fd) (S:FnScope N ps (zab st)) (len:∀vs H Q E,sp vs H Q E->vs.length=ps.length)
  (hbody:∀(cdv:Value) (A:Around) (outer:List Env) (s:Shared) (H:Hp) (vs:List V) (Q:VK) (E:XK),Room k (A.deeper (envOfC qual (zab st) s.heap.objs.size f cdv))->sp vs H Q E ->
   ∃t,PSs (cxOf CX0 P w K mg base N qual (zab st) f cdv A outer s H E).nox (zbH st) t/\t { nx:=fun _ H'=>Q .non H',rt:=Q } (start N vs) H):FnOk P w K mg base CX0 (k + 1) f fd ps sp:=by
 obtain ⟨oc,od,kV,doc,pm,an,cdv,ct,osl,rfl,lk,hcd⟩:=F.ex
 refine ztf lk hcd S len fun A outer s H vs Q E hr hsp=>?_
 obtain ⟨t,h,q⟩:=hbody cdv A outer s H vs Q E hr hsp
 exact ⟨t,h.nox,q⟩
theorem Fun.binds {x qual:Str} {st:Stmt} {f:Addr} {fd:FuncData} {ps:List Str} (F:Fun K x qual st f fd)
  (h:∀(kV doc pm:Value) (an:Option Addr) (cdv ct:Value) (us:List Value),us.length=ps.length->bindArgs (W.fnOf x qual (zcS st) (zbH st) (zab st) .none kV doc pm an cdv ct) ⟨us,[]⟩=pure (ps.zip us)):zhh K fd ps []:=by
 obtain ⟨oc,od,kV,doc,pm,an,cdv,ct,osl,rfl,lk,hcd⟩:=F.ex
 exact .all (h kV doc pm an cdv ct)
theorem zte {x qual:Str} {st:Stmt} {f:Addr} {oc:Value} {od an:Option Addr} {osl:Array (Option Value)} {kV doc pm cdv ct:Value} (l:K.lookup f=some ⟨oc,od,.func (W.fnOf x qual (zcS st) (zbH st) (zab st) .none kV doc pm an cdv ct),osl⟩)
  (c:W.codeIn K cdv qual=true) (k:W.keepIn K (.ref f)=true):Fun K x qual st f (W.fnOf x qual (zcS st) (zbH st) (zab st) .none kV doc pm an cdv ct):=⟨⟨oc,od,kV,doc,pm,an,cdv,ct,osl,rfl,l,c⟩,k⟩
end
theorem zbi {A:Around} {k:Nat} (hr:Room k A):A.units + 1 < cLine:=Nat.lt_of_le_of_lt (Nat.add_le_add_left (by decide:1<=64) _) hr.units
section
variable {X:Cx}
theorem znE:zdV X (.builtin "len") (fun xs H Q=>∃a kz,xs=[V.ref a]/\Rd H a (.dK kz)/\Q (.int kz.length) H):=by
 intro pz s σ H xs us Q I r h
 obtain ⟨a,kz,rfl,ha,q⟩:=h
 obtain ⟨u,rfl,ru⟩:=zeK r
 cases ru
 exact zuy I ha fun t s' I'=>⟨.int kz.length,H,I',⟨t,rfl⟩,q⟩
end
def Same (H H':Hp):Prop:=∀b o,H b=some o->H' b=some o
theorem Same.trans {H H1 H2:Hp} (a:Same H H1) (b:Same H1 H2):Same H H2:=fun c o h=>b c o (a c o h)
theorem Same.free {H H':Hp} (e:Same H H') {l:Addr} (h:H' l=Option.none):H l=Option.none:=by
 cases q:H l with
 | none=>rfl
 | some o=>
  rw [e l o q] at h
  cases h
theorem Same.seq {K:W.Frag} {H H':Hp} {a:Addr} {xs:List V} (e:Same H H') (h:SqL K H a xs):SqL K H' a xs:=by
 rcases h with (h | ⟨o,h⟩) | h
 ·exact .inl (.inl (e _ _ h))
 ·exact .inl (.inr ⟨o,e _ _ h⟩)
 ·exact .inr h
end L2
end
namespace DL
open PySem
section
open PySem.SeqAt
open PySem.AutoSeq1 (wpAny_loadPart')
open PySem.MeetsSeq PySem.MeetsSeq2 PySem.MeetsSeq3
end
end DL
namespace DL
open PySem PyProof.Rows
end DL
namespace DL
open PySem PyProof.Rows PySem.W
def ziY {α:Type} (c:Nat->Nat->Bool):KasT α->α
 | .ret a=>a
 | .ask i j k=>ziY c (k (c i j))
inductive Asks (n:Nat) {α:Type} (P:α->Prop):KasT α->Prop where
 | ret {a:α}:P a->Asks n P (.ret a)
 | ask {i j:Nat} {k:Bool->KasT α}:i < n->j < n->(∀b,Asks n P (k b))->Asks n P (.ask i j k)
theorem Asks.bind {n:Nat} {α β:Type} {P:α->Prop} {P':β->Prop} {t:KasT α} {f:α->KasT β} (h:Asks n P t) (hf:∀a,P a->Asks n P' (f a)):Asks n P' (t.bind f):=by
 induction h with
 | ret h=>exact hf _ h
 | ask h1 h2 _ ih=>exact .ask h1 h2 ih
theorem Asks.run {n:Nat} {α:Type} {P:α->Prop} {t:KasT α} (h:Asks n P t) (c:Nat->Nat->Bool):P (ziY c t):=by
 induction h with
 | ret h=>exact h
 | ask _ _ _ ih=>exact ih _
theorem Asks.mono {n:Nat} {α:Type} {P P':α->Prop} {t:KasT α} (h:Asks n P t) (hp:∀a,P a->P' a):Asks n P' t:=by
 induction h with
 | ret h=>exact .ret (hp _ h)
 | ask h1 h2 _ ih=>exact .ask h1 h2 ih
theorem zm2 {n:Nat} {α:Type} {P:α->Prop} {cmp:Nat->Nat->(Bool->Shared->Prop)->Shared->Prop} {c:Nat->Nat->Bool} {s:Shared} (hc:∀i j C,i < n->j < n->C (c i j) s->cmp i j C s) {Q:α->Shared->Prop} {t:KasT α} (h:Asks n P t):Q (ziY c t) s->t.kasWp cmp Q s:=by
 induction h with
 | ret _=>exact fun q=>q
 | ask h1 h2 _ ih=>exact fun q=>hc _ _ _ h1 h2 (ih _ q)
def zc3 (n:Nat) (p:Array Nat):Prop:=p.toList.Perm (List.range n)
theorem zc3.bd {n:Nat} {p:Array Nat} (h:zc3 n p) (hn:0 < n) (k:Nat):p.getD k 0 < n:=by
 by_cases hk:k < p.size
 ·have e:p.getD k 0=p[k]:=by simp [Array.getD,hk]
  rw [e]
  exact List.mem_range.mp (h.mem_iff.mp (by simp))
 ·have e:p.getD k 0=0:=by simp [Array.getD,hk]
  rw [e]; exact hn
theorem zc3.rev {n:Nat} {p:Array Nat} (h:zc3 n p) (i j:Nat):zc3 n (kas_rev p i j):=(Array.perm_iff_toList_perm.mp (mirror_perm p i j ((j - i) / 2))).trans h
theorem zc3.bub {n:Nat} {p:Array Nat} (h:zc3 n p) (i j:Nat):zc3 n (bubble p i j):=(Array.perm_iff_toList_perm.mp (bubble_perm p i j)).trans h
section
variable {n:Nat} (hn:0 < n)
include hn
theorem zil {p:Array Nat} (h:zc3 n p):∀f k,Asks n (fun _=>True) (kas_asc p f k)
 | 0,k=>.ret trivial
 | f + 1,k=>.ask (h.bd hn _) (h.bd hn _) fun b=>by
  cases b with
  | true=>rw [if_pos rfl]; exact .ret trivial
  | false=>rw [if_neg Bool.false_ne_true]; exact zil h f (k + 1)
theorem ze9:∀f (p:Array Nat) k q,zc3 n p->Asks n (fun r=>zc3 n r.1) (kas_desc f p k q)
 | 0,p,k,q,h=>.ret h
 | f + 1,p,k,q,h=>.ask (h.bd hn _) (h.bd hn _) fun b=>by
  cases b with
  | true=>
   rw [if_pos rfl]
   split
   ·exact ze9 f _ _ _ (h.rev _ _)
   ·exact ze9 f _ _ _ h
  | false=>
   rw [if_neg Bool.false_ne_true]
   refine .ask (h.bd hn _) (h.bd hn _) fun b=>?_
   cases b with
   | true=>rw [if_pos rfl]; exact .ret h
   | false=>rw [if_neg Bool.false_ne_true]; exact ze9 f _ _ _ h
theorem zjj {p:Array Nat} (h:zc3 n p) (a b:Nat):Asks n (fun r=>zc3 n r.2) (kas_tail3 a b p):=
 Asks.bind (zil hn (h.rev 0 a) _ _) fun m _=>.ret (h.rev 0 a)
theorem zhz {p:Array Nat} (h:zc3 n p) (a b:Nat):Asks n (fun r=>zc3 n r.2) (kas_descPart a b p):=by
 refine Asks.bind (ze9 hn _ p _ _ h) fun r hr=>?_
 split
 ·exact zjj hn (hr.rev _ _) _ _
 ·exact zjj hn hr _ _
theorem zlI {p:Array Nat} (h:zc3 n p) (a:Nat):Asks n (fun r=>zc3 n r.2) (kas_count a p):=by
 refine Asks.bind (zil hn h _ _) fun k _=>?_
 split
 ·exact .ret h
 ·split
  ·refine .ask (h.bd hn _) (h.bd hn _) fun b=>?_
   cases b with
   | true=>rw [if_pos rfl]; exact .ret h
   | false=>rw [if_neg Bool.false_ne_true]; exact zhz hn (h.rev _ _) _ _
  ·exact zhz hn h _ _
theorem zfs {p:Array Nat} (h:zc3 n p) (k:Nat):∀f l r,Asks n (fun _=>True) (kas_place p k f l r)
 | 0,l,r=>.ret trivial
 | f + 1,l,r=>by
  unfold kas_place
  split
  ·exact .ret trivial
  ·refine .ask (h.bd hn _) (h.bd hn _) fun b=>?_
   cases b with
   | true=>rw [if_pos rfl]; exact zfs h k f _ _
   | false=>rw [if_neg Bool.false_ne_true]; exact zfs h k f _ _
theorem zkW:∀f (p:Array Nat) k,zc3 n p->Asks n (zc3 n) (kas_bin f p k)
 | 0,p,k,h=>.ret h
 | f + 1,p,k,h=>Asks.bind (zfs hn h k _ _ _) fun l _=>zkW f _ _ (h.bub _ _)
theorem zjk:Asks n (zc3 n) (kas_sort n):=by
 refine Asks.bind (zlI hn (p:=List.toArray (List.range n)) (by unfold zc3; simp) n) fun r hr=>?_
 split
 ·exact zkW hn _ _ _ hr
 ·exact .ret hr
end
def zgq (n:Nat) (c:Nat->Nat->Bool):List Nat:=if n < 2 then List.range n else (ziY c (kas_sort n)).toList
theorem zfi (n:Nat) (c:Nat->Nat->Bool):(zgq n c).Perm (List.range n):=by
 unfold zgq
 split
 ·exact .refl _
 ·exact (zjk (n:=n) (by omega)).run c
def lexI:List Int->List Int->Bool
 | [],[]=>false
 | [],_::_=>true
 | _::_,[]=>false
 | x::xs,y::ys=>if x=y then lexI xs ys else decide (x < y)
def lexZ (fin:Bool):List (List Int)->List (List Int)->Bool
 | k::ks,l::ls=>if k=l then lexZ fin ks ls else lexI k l
 | _,_=>fin
def lexR (ks ls:List (List Int)):Bool:=lexZ (decide (ks.length < ls.length)) ks ls
end DL
namespace DL
open PySem PyProof.Rows PySem.W PySem.Calls
section
variable {prog:Program} {w:World} {A:Around} {E:Value->Shared->Prop} {s:Shared}
theorem zk7 {a:Addr} {vs:List Value} {n:Nat} {P:PySem.Fin->Shared->Prop} (ho:s.heap.get? a=some (seqObj "list" vs.toArray n)) (h2:vs.length < 2)
  (h:∀h' c,(∀b o,b≠a->s.heap.get? b=some o->h'.get? b=some o)->h'.get? a=some (seqObj "list" vs.toArray c)->P (.done (.ret .none)) { s with heap:=h' }) :
  wpAny (model prog w) A (Builtin.«list.sort» ⟨[.ref a],[]⟩) P E s:=by
 have fits:vs.length<=sizeLine:=by rw [sizeLine_eq]; omega
 have up:=fun (h:Heap) (f:Array Value->Array Value)=>Heap.SameBut.update h a (Obj.mapSeq f)
 obtain ⟨e1,ho1⟩:∃e1,(s.heap.update a (Obj.mapSeq fun _=>(#[]:Array Value))).get? a=some (seqObj "list" #[] e1):=⟨_,get?_update_seq ho fun _=>#[]⟩
 rw [list_sort_plain]
 refine wpAny_bind (listItems_at ho rfl (wpAny_bind (listUpdate_at ho rfl ?_ (by rw [List.size_toArray]; exact fits) (Nat.zero_le _))))
 refine wpAny_bind (seqEpoch_at ho1 rfl (wpAny_bind (wpAny_newTuple (wpAny_bind (wpAny_newList (wpAny_holding ?_) (Nat.zero_le _))) (by show vs.length<=_; exact fits))))
 dsimp only
 have hlt:vs.toArray.size < 2:=by rw [List.size_toArray]; exact h2
 rw [if_pos hlt,if_pos hlt]
 refine wpAny_bind (wpAny_pure ?_)
 have hrun:(pure ():StateT SortSt Sem Unit).run (SortSt.mk' general' (vs.toArray.zip vs.toArray) #[] 7 none)=pure ((),SortSt.mk' general' (vs.toArray.zip vs.toArray) #[] 7 none):=rfl
 rw [hrun]
 refine wpAny_bind (wpAny_pure ?_)
 dsimp only
 have hout:(arrOf (SortSt.mk' general' (vs.toArray.zip vs.toArray) #[] 7 none)).map (·.2)=vs.toArray:=by
  show ((vs.toArray.zip vs.toArray).map (·.2))=vs.toArray
  apply Array.ext'
  simp [List.map_snd_zip]
 rw [hout]
 have keep3:∀b o,(s.heap.update a (Obj.mapSeq fun _=>(#[]:Array Value))).get? b=some o->(((s.heap.update a (Obj.mapSeq fun _=>(#[]:Array Value))).push (seqObj "tuple" vs.toArray 0)).push (seqObj "list" #[] 0)).get? b=some o:=fun b o e=>Heap.get?_push_of_some _ (Heap.get?_push_of_some _ e)
 have ho3:=keep3 _ _ ho1
 refine wpAny_bind (seqEpoch_at ho3 rfl (wpAny_bind (listUpdate_at ho3 rfl ?_ (Nat.zero_le _) (by rw [List.size_toArray]; exact Nat.le_succ_of_le fits))))
 simp only [bne_self_eq_false,Bool.false_eq_true,if_false]
 refine wpAny_pure (h _ _ (fun b o hb e=>?_) (get?_update_seq ho3 fun _=>vs.toArray))
 exact ((up _ _).2 b hb).trans (keep3 b o (((up _ _).2 b hb).trans e))
theorem zfG {l:Addr} {vs:List Value} {Q:Value->Shared->Prop} (hl:s.heap.IsList l vs.toArray) (h2:vs.length < 2)
  (h:∀h' c D,(∀b o,s.heap.get? b=some o->h'.get? b=some o)->s.heap.objs.size<=D->h'.get? D=some (seqObj "list" vs.toArray c)->Q (.ref D) { s with heap:=h' }) :
  wpAny (model prog w) A (call (.builtin "sorted") [.ref l]) Q E s:=by
 refine Calls.call_function_entry kind_sorted plain_sorted entry_sorted (args_sorted1 _) ?_
 unfold Builtin.«sorted»
 refine wpAny_bind (m:=checkCount "sorted" 1 1 _) (wpAny_pure (wpAny_bind (collect_list hl ?_ (by rw [sizeLine_eq]; omega))))
 refine wpAny_bind (wpAny_newList ?_ (by rw [sizeLine_eq]; omega))
 generalize hH:((s.heap.push (seqObj "list" #[] 0)).update s.heap.objs.size (Obj.mapSeq (·++vs.toArray)))=H1
 have hsz:H1.objs.size=s.heap.objs.size + 1:=by rw [<-hH,Heap.size_update,size_push']
 have keep:∀b o,s.heap.get? b=some o->(H1.push (seqObj "list" vs.toArray 0)).get? b=some o:=fun b o q=>by
  have hlt:b < s.heap.objs.size:=Heap.lt_size q
  refine Heap.get?_push_of_some _ ?_
  rw [<-hH,Heap.get?_update_ne _ _ _ _ (Nat.ne_of_lt hlt)]
  exact Heap.get?_push_of_some _ q
 have hoL:(H1.push (seqObj "list" vs.toArray 0)).get? H1.objs.size=some (seqObj "list" vs.toArray 0):=Heap.get?_push_size _ rfl
 refine wpAny_bind (wpAny_holding (wpAny_call_entry slot_list_sort ⟨_,hoL,rfl⟩ entry_list_sort ?_ (args_list_sort _)))
 refine zk7 (s:={ s with heap:=H1.push (seqObj "list" vs.toArray 0) }) hoL h2 fun h' c kp hD=>?_
 refine ⟨_,rfl,wpAny_pure ⟨_,rfl,h h' c _ (fun b o e=>kp b o ?_ (keep b o e)) (by rw [hsz]; exact Nat.le_succ _) hD⟩⟩
 rw [hsz]
 exact Nat.ne_of_lt (Nat.lt_succ_of_lt (Heap.lt_size e))
end
end DL
namespace DL
open PySem PySem.Spec PyProof.Rows L2 PySem.W PySem.Calls
structure Lft (fr:List Addr) (a:Addr) (oe:Obj) (vs:Array Value) (T:Option Addr) (v:Value) (h h':Heap):Prop where
 keep:∀b o,b∉fr->b≠a->T≠some b->h.get? b=some o->h'.get? b=some o
 slot:∀b o,h.get? b=some o->(∀vs:Array Value,o.data≠Data.fields vs)->∃sl,h'.get? b=some { cls:=o.cls,dict:=o.dict,data:=o.data,slots:=sl }
 obj:∃tb ot ts,(h.get? tb=none\/T=some tb)/\tb≠a/\h'.get? a=some { cls:=oe.cls,dict:=oe.dict,data:=.fields (vs.setIfInBounds 1 (.ref tb)),slots:=oe.slots }/\h'.get? tb=some ot/\ot.data=.fields ts/\ts[3]? = some v
def zuB (h B:Heap) (a:Addr) (cls:Value) (od L:Option Addr):Prop:=
 ∃oe vs,h.get? a=some oe/\oe.cls=cls/\(∀dx,od=some dx->oe.dict=some dx)/\oe.data=.fields vs /\
  (vs[1]? = some Value.none\/(∃T oT ts,vs[1]? = some (.ref T)/\B.get? T=none/\T≠a/\h.get? T=some oT/\oT.data=.fields ts/\ts[3]? = some Value.none) \/
   ∃l T oT ts,L=some l/\vs[1]? = some (.ref T)/\B.get? T=none/\T≠a/\h.get? T=some oT/\oT.data=.fields ts/\ts[3]? = some (rawInt ↑l))
def topF (st:List Env):Option Addr:=st.head?.bind (·.frame)
structure Fly (P:Program) (w:World) (st:List Env) (H:Hp) (s:Shared) (H':Hp) (a:Addr) (cls:Value) (od:Option Addr) (s':Shared):Prop where
 os:s'.os=s.os
 bare:AllBare s'.gens
 un:Un (frs st) [] H H' s.heap s'.heap
 hok:HOk P w H' s'.heap
 ex:∃B:Heap,B.StaysIn s'.heap/\B.get? a=none/\s'.heap.FunFrames B st/\zuB s'.heap B a cls od (topF st) /\
  (∀b o,s.heap.get? b=some o->b∉frs st->∃o',B.get? b=some o')/\∀b u,H' b=some u->∃o',B.get? b=some o'
def CXR (P:Program) (w:World):CXT:=fun outer H s E e s'=>∃a cls H' od,e=.ref a/\Fly P w outer H s H' a cls od s'/\E cls od H'
abbrev vErr:List Value:=[Value.type "ValueError",Value.type "Exception",Value.type "BaseException",Value.type "object"]
structure XC (K:W.Frag) (mg:Str->Option Value) (x:Str) (C:Addr):Prop where
 bound:mg x=some (.ref C)
 exc:excIn K C vErr "ValueError.__new__" = true
end DL
namespace DL
open PySem PySem.Spec PyProof.Rows L2
inductive D where
 | non | bl (b:Bool) | int (i:Int) | str (x:Str)
 | tup (ds:List D) | lst (ds:List D)
 | dic (kz:List (Key × D))
 | obj (c:Nat) (fs:List (Str × D))
instance:Inhabited D:=⟨.non⟩
inductive Res (α:Type) where
 | ok (a:α) | exc (x:D) | stuck
def Res.bind {α β:Type} (r:Res α) (f:α->Res β):Res β:=match r with
 | .ok a=>f a
 | .exc x=>.exc x
 | .stuck=>.stuck
@[simp] theorem bind_ok {α β:Type} (a:α) (f:α->Res β):(Res.ok a).bind f=f a:=rfl
@[simp] theorem bind_exc {α β:Type} (x:D) (f:α->Res β):(Res.exc x:Res α).bind f=.exc x:=rfl
@[simp] theorem bind_stuck {α β:Type} (f:α->Res β):(Res.stuck:Res α).bind f=.stuck:=rfl
def fin {α:Type} (r:Res α) (q:α->Prop) (x:D->Prop):Prop:=match r with
 | .ok a=>q a
 | .exc e=>x e
 | .stuck=>False
theorem zag {α:Type} {r:Res α} {q q':α->Prop} {x:D->Prop} (h:fin r q x) (hq:∀a,q a->q' a):fin r q' x:=by
 cases r with
 | ok a=>exact hq a h
 | exc e=>exact h
 | stuck=>exact h
theorem zai {α β:Type} {r:Res α} {f:α->Res β} {q:β->Prop} {x:D->Prop} (h:fin (r.bind f) q x):fin r (fun a=>fin (f a) q x) x:=by
 cases r with
 | ok a=>exact h
 | exc e=>exact h
 | stuck=>exact h
abbrev GH:=Addr->Option D
inductive Scl:V->D->Prop where
 | non:Scl .non .non
 | bl (b:Bool):Scl (.bl b) (.bl b)
 | int (i:Int):Scl (.int i) (.int i)
 | str (x:Str):Scl (.str x) (.str x)
inductive KC (K:W.Frag) (a:Addr):D->Prop where
 | lst {xs:List V} {ds:List D}:SqL K (fun _=>none) a xs->Paired Scl xs ds->KC K a (.lst ds)
 | tup {xs:List V} {ds:List D}:SqT K (fun _=>none) a xs->Paired Scl xs ds->(∃o,K.lookup a=some o/\o.cls=.type "tuple"/\o.dict=none)->KC K a (.tup ds)
inductive RG (K:W.Frag) (G:GH):V->D->Prop where
 | scl {v:V} {d:D}:Scl v d->RG K G v d
 | ref {a:Addr} {d:D}:G a=some d->RG K G (.ref a) d
 | kc {a:Addr} {d:D}:KC K a d->RG K G (.ref a) d
abbrev RGs (K:W.Frag) (G:GH):List V->List D->Prop:=Paired (RG K G)
abbrev RKs (K:W.Frag) (G:GH):List (Key × V)->List (Key × D)->Prop:=Paired fun p q=>p.1=q.1/\RG K G p.2 q.2
abbrev xD (nm:Str) (ds:List (Str × D)):D:=.obj 0 (("__class__",.str nm)::ds)
def XN (K:W.Frag) (nm:Str) (C:Addr):Prop:=∃o cd,K.lookup C=some o/\o.data=Data.cls cd/\cd.name=nm
def XcO (a C:Addr) (od:Option Addr):Heap->Prop:=fun h=>∃oe vs,h.get? a=some oe/\oe.cls=.ref C/\(∀dx,od=some dx->oe.dict=some dx)/\oe.data=.fields vs
def XF (G:GH) (od:Option Addr) (ds:List (Str × D)):Prop:=match od with
 | none=>ds=[]
 | some dx=>G dx=some (.obj 1 ds)
theorem XF.mono {G G':GH} {od:Option Addr} {ds:List (Str × D)} (h:XF G od ds) (ge:∀a d,G a=some d->G' a=some d):XF G' od ds:=by
 cases od with
 | none=>exact h
 | some dx=>exact ge _ _ h
abbrev RFs (K:W.Frag) (G:GH):List (Str × V)->List (Str × D)->Prop:=Paired fun p q=>p.1=q.1/\RG K G p.2 q.2
inductive OB (K:W.Frag) (G:GH) (H:Hp) (a:Addr):D->Prop where
 | lst {xs:List V} {ds:List D}:Rd H a (.lst xs)->RGs K G xs ds->OB K G H a (.lst ds)
 | tup {xs:List V} {ds:List D}:Rd H a (.tup xs)->RGs K G xs ds->OB K G H a (.tup ds)
 | dic {ob:Obj} {ps:List (Key × V)} {kz:List (Key × D)}:H a=some (.frz ob (.dK ps))->RKs K G ps kz->OB K G H a (.dic kz)
 | exc {nm:Str} {C:Addr} {od:Option Addr} {ds:List (Str × D)}:H a=some (.ext (XcO a C od))->XN K nm C->XF G od ds->OB K G H a (xD nm ds)
 | fld {fs:List (Str × V)} {ds:List (Str × D)}:H a=some (.xd fs)->RFs K G fs ds->OB K G H a (.obj 1 ds)
def GOk (K:W.Frag) (G:GH) (H:Hp):Prop:=∀a d,G a=some d->OB K G H a d
inductive OwnO (K:W.Frag) (G:GH) (H:Hp) (a:Addr):D->Prop where
 | lst {xs:List V} {ds:List D}:H a=some (.lst xs)->RGs K G xs ds->OwnO K G H a (.lst ds)
 | dic {ps:List (Key × V)} {kz:List (Key × D)}:H a=some (.dK ps)->RKs K G ps kz->OwnO K G H a (.dic kz)
structure Own (K:W.Frag) (G:GH) (H:Hp) (a:Addr) (d:D):Prop where
 un:G a=none
 ob:OwnO K G H a d
structure Grow (K:W.Frag) (G:GH) (H:Hp) (G':GH) (H':Hp):Prop where
 ok:GOk K G' H'
 he:∀a o,H a=some o->H' a=some o
 ge:∀a d,G a=some d->G' a=some d
 gf:∀a,H a≠none->G' a=G a
section
variable {K:W.Frag} {G G' G1 G2:GH} {H H' H1 H2:Hp} {a p:Addr} {d:D} {v:V}
theorem Rd.mono {u:HO} (h:Rd H a u) (he:∀a o,H a=some o->H' a=some o):Rd H' a u:=by
 rcases h with h | ⟨o,h⟩
 ·exact .inl (he _ _ h)
 ·exact .inr ⟨o,he _ _ h⟩
theorem Rd.isS {u:HO} (h:Rd H a u):H a≠none:=by
 rcases h with h | ⟨o,h⟩ <;> rw [h] <;> simp
theorem RG.mono (h:RG K G v d) (ge:∀a d,G a=some d->G' a=some d):RG K G' v d:=by
 cases h with
 | scl s=>exact .scl s
 | ref e=>exact .ref (ge _ _ e)
 | kc k=>exact .kc k
theorem RGs.mono {xs:List V} {ds:List D} (h:RGs K G xs ds) (ge:∀a d,G a=some d->G' a=some d):RGs K G' xs ds:=Paired.mono (fun _ _ r=>r.mono ge) h
theorem RKs.mono {xs:List (Key × V)} {ds:List (Key × D)} (h:RKs K G xs ds) (ge:∀a d,G a=some d->G' a=some d):RKs K G' xs ds:=Paired.mono (fun _ _ r=>⟨r.1,r.2.mono ge⟩) h
theorem OB.mono (h:OB K G H a d) (ge:∀a d,G a=some d->G' a=some d) (he:∀o,H a=some o->H' a=some o):OB K G' H' a d:=by
 have rd:∀{u:HO},Rd H a u->Rd H' a u:=fun r=>by
  rcases r with r | ⟨o,r⟩
  ·exact .inl (he _ r)
  ·exact .inr ⟨o,he _ r⟩
 cases h with
 | lst r s=>exact .lst (rd r) (s.mono ge)
 | tup r s=>exact .tup (rd r) (s.mono ge)
 | dic r s=>exact .dic (he _ r) (RKs.mono s ge)
 | exc r n f=>exact .exc (he _ r) n (f.mono ge)
 | fld r s=>exact .fld (he _ r) (Paired.mono (fun _ _ r=>⟨r.1,r.2.mono ge⟩) s)
theorem OB.isS (h:OB K G H a d):H a≠none:=by
 cases h with
 | lst r s=>exact Rd.isS r
 | tup r s=>exact Rd.isS r
 | dic r s=>rw [r]; simp
 | exc r n f=>rw [r]; simp
 | fld r s=>rw [r]; simp
theorem GOk.isN (g:GOk K G H) (h:H p=none):G p=none:=by
 cases e:G p with
 | none=>rfl
 | some d=>exact absurd h (g p d e).isS
theorem OwnO.isS (h:OwnO K G H a d):H a≠none:=by
 cases h with
 | lst r s=>rw [r]; simp
 | dic r s=>rw [r]; simp
theorem OwnO.mono (h:OwnO K G H a d) (ge:∀a d,G a=some d->G' a=some d) (he:∀o,H a=some o->H' a=some o):OwnO K G' H' a d:=by
 cases h with
 | lst r s=>exact .lst (he _ r) (s.mono ge)
 | dic r s=>exact .dic (he _ r) (RKs.mono s ge)
theorem Own.mono (h:Own K G H a d) (w:Grow K G H G' H'):Own K G' H' a d:=
 ⟨by rw [w.gf a h.ob.isS]; exact h.un,h.ob.mono w.ge fun o e=>w.he _ _ e⟩
def fz (H:Hp) (a:Addr) (ob:Obj):Hp:=match H a with
 | some (.dK ps)=>upd H a (.frz ob (.dK ps))
 | _=>H
theorem zng {b:Addr} {ob:Obj} (h:b≠a):fz H a ob b=H b:=by
 unfold fz
 cases e:H a with
 | none=>rfl
 | some u=>cases u <;> first | rfl | exact zaq h
theorem ztc {xs:List V} {ob:Obj} (h:H a=some (.lst xs)):fz H a ob=H:=by
 unfold fz
 rw [h]
theorem ztd {ps:List (Key × V)} {ob:Obj} (h:H a=some (.dK ps)):fz H a ob a=some (.frz ob (.dK ps)):=by
 unfold fz
 rw [h]; exact zam
theorem OwnO.fast (h:OwnO K G H a d) (ob:Obj):OB K G (fz H a ob) a d:=by
 cases h with
 | lst r s=>rw [ztc r]; exact .lst (.inl r) s
 | dic r s=>exact .dic (ztd r) s
theorem GOk.fast (g:GOk K G H) (hn:G a=none) (ob:Obj):GOk K G (fz H a ob):=fun b d e=>by
 have hb:b≠a:=by rintro rfl; rw [hn] at e; cases e
 exact (g b d e).mono (fun _ _ z=>z) fun o z=>by rw [zng hb]; exact z
theorem Grow.refl (g:GOk K G H):Grow K G H G H:=⟨g,fun _ _ e=>e,fun _ _ e=>e,fun _ _=>rfl⟩
theorem Grow.trans (x:Grow K G H G1 H1) (y:Grow K G1 H1 G2 H2):Grow K G H G2 H2:=
 ⟨y.ok,fun a o e=>y.he _ _ (x.he _ _ e),fun a d e=>y.ge _ _ (x.ge _ _ e),fun a h=>by
  have h1:H1 a≠Option.none:=by
   cases e:H a with
   | none=>exact absurd e h
   | some o=>rw [x.he _ _ e]; simp
  rw [y.gf a h1,x.gf a h]⟩
def gset (G:GH) (a:Addr) (d:D):GH:=fun b=>if b=a then some d else G b
theorem zaz:gset G a d a=some d:=if_pos rfl
theorem zbv {b:Addr} (h:b≠a):gset G a d b=G b:=if_neg h
theorem zbb (hn:G a=none):∀b e,G b=some e->gset G a d b=some e:=fun b e h=>by
 have:b≠a:=by rintro rfl; rw [hn] at h; cases h
 rw [zbv this]; exact h
theorem GOk.gset (g:GOk K G H) (hn:G a=none) (o:OB K G H a d):GOk K (gset G a d) H:=fun b e h=>by
 by_cases hb:b=a
 ·subst hb; rw [zaz] at h; cases h
  exact o.mono (zbb hn) fun _ q=>q
 ·rw [zbv hb] at h
  exact (g b e h).mono (zbb hn) fun _ q=>q
theorem zlS (hn:H p=none) {o:HO}:∀a u,H a=some u->upd H p o a=some u:=fun a u e=>by
 rw [zaq (zbL e hn)]; exact e
theorem Grow.new (g:GOk K G H) (hn:H p=none) (o:HO):Grow K G H G (upd H p o):=
 ⟨fun a d e=>(g a d e).mono (fun _ _ q=>q) fun u q=>zlS hn _ _ q,fun a u e=>zlS hn _ _ e,fun _ _ e=>e,fun _ _=>rfl⟩
theorem Grow.newF (g:GOk K G H) (hn:H p=none) {o:HO} (ob:OB K G (upd H p o) p d):Grow K G H (gset G p d) (upd H p o):=by
 have w:=Grow.new g hn o
 have gn:=g.isN hn
 exact ⟨w.ok.gset gn ob,w.he,fun a e h=>zbb gn a e h,fun a h=>zbv (by rintro rfl; exact h hn)⟩
theorem Grow.frz (w:Grow K G H G' H') (hn:H a=none) (o:Own K G' H' a d) (ob:Obj):Grow K G H (gset G' a d) (fz H' a ob):=
 ⟨(w.ok.fast o.un ob).gset o.un (o.ob.fast ob),fun b u e=>by rw [zng (by rintro rfl; rw [hn] at e; cases e)]; exact w.he b u e,fun b e h=>zbb o.un b e (w.ge b e h),fun b h=>by rw [zbv (by rintro rfl; exact h hn)]; exact w.gf b h⟩
theorem RG.lst {ds:List D} (g:GOk K G H) (h:RG K G v (.lst ds)):∃a xs,v=.ref a/\SqL K H a xs/\RGs K G xs ds:=by
 cases h with
 | scl s=>cases s
 | ref e=>
  cases g _ _ e with
  | lst r s=>exact ⟨_,_,rfl,.inl r,s⟩
 | kc k=>
  cases k with
  | lst r s=>
   refine ⟨_,_,rfl,?_,Paired.mono (fun _ _ z=>.scl z) s⟩
   rcases r with (r | ⟨o,r⟩) | r
   ·cases r
   ·cases r
   ·exact .inr r
theorem RG.tup {ds:List D} (g:GOk K G H) (h:RG K G v (.tup ds)):∃a xs,v=.ref a/\SqT K H a xs/\RGs K G xs ds:=by
 cases h with
 | scl s=>cases s
 | ref e=>
  cases g _ _ e with
  | tup r s=>exact ⟨_,_,rfl,.inl r,s⟩
 | kc k=>
  cases k with
  | tup r s _=>
   refine ⟨_,_,rfl,?_,Paired.mono (fun _ _ z=>.scl z) s⟩
   rcases r with (r | ⟨o,r⟩) | r
   ·cases r
   ·cases r
   ·exact .inr r
theorem RG.dic {kz:List (Key × D)} (g:GOk K G H) (h:RG K G v (.dic kz)):∃a ps,v=.ref a/\Rd H a (.dK ps)/\RKs K G ps kz:=by
 cases h with
 | scl s=>cases s
 | ref e=>
  cases g _ _ e with
  | dic r s=>exact ⟨_,_,rfl,.inr ⟨_,r⟩,s⟩
 | kc k=>cases k
theorem RG.int {i:Int} (g:GOk K G H) (h:RG K G v (.int i)):v=.int i:=by
 cases h with
 | scl s=>cases s; rfl
 | ref e=>cases g _ _ e
 | kc k=>cases k
theorem RG.str {x:Str} (g:GOk K G H) (h:RG K G v (.str x)):v=.str x:=by
 cases h with
 | scl s=>cases s; rfl
 | ref e=>cases g _ _ e
 | kc k=>cases k
theorem RG.bl {b:Bool} (g:GOk K G H) (h:RG K G v (.bl b)):v=.bl b:=by
 cases h with
 | scl s=>cases s; rfl
 | ref e=>cases g _ _ e
 | kc k=>cases k
theorem RG.non (g:GOk K G H) (h:RG K G v .non):v=.non:=by
 cases h with
 | scl s=>cases s; rfl
 | ref e=>cases g _ _ e
 | kc k=>cases k
def RB (K:W.Frag) (G:GH) (H:Hp) (v:V) (d:D):Prop:=RG K G v d\/∃a,v=.ref a/\Own K G H a d
theorem RG.rb (h:RG K G v d):RB K G H v d:=.inl h
theorem RB.mono (h:RB K G H v d) (w:Grow K G H G' H'):RB K G' H' v d:=by
 rcases h with h | ⟨a,e,h⟩
 ·exact .inl (h.mono w.ge)
 ·exact .inr ⟨a,e,h.mono w⟩
theorem RB.lst {ds:List D} (g:GOk K G H) (h:RB K G H v (.lst ds)):∃a xs,v=.ref a/\SqL K H a xs/\RGs K G xs ds:=by
 rcases h with h | ⟨a,e,h⟩
 ·exact h.lst g
 ·cases h.ob with
  | lst r s=>exact ⟨a,_,e,SqL.of r,s⟩
theorem RB.tup {ds:List D} (g:GOk K G H) (h:RB K G H v (.tup ds)):∃a xs,v=.ref a/\SqT K H a xs/\RGs K G xs ds:=by
 rcases h with h | ⟨a,e,h⟩
 ·exact h.tup g
 ·cases h.ob
theorem RB.dic {kz:List (Key × D)} (g:GOk K G H) (h:RB K G H v (.dic kz)):∃a ps,v=.ref a/\Rd H a (.dK ps)/\RKs K G ps kz:=by
 rcases h with h | ⟨a,e,h⟩
 ·exact h.dic g
 ·cases h.ob with
  | dic r s=>exact ⟨a,_,e,.inl r,s⟩
theorem RB.int {i:Int} (g:GOk K G H) (h:RB K G H v (.int i)):v=.int i:=by
 rcases h with h | ⟨a,e,h⟩
 ·exact h.int g
 ·cases h.ob
theorem RB.str {x:Str} (g:GOk K G H) (h:RB K G H v (.str x)):v=.str x:=by
 rcases h with h | ⟨a,e,h⟩
 ·exact h.str g
 ·cases h.ob
theorem RB.bl {b:Bool} (g:GOk K G H) (h:RB K G H v (.bl b)):v=.bl b:=by
 rcases h with h | ⟨a,e,h⟩
 ·exact h.bl g
 ·cases h.ob
theorem RB.non (g:GOk K G H) (h:RB K G H v .non):v=.non:=by
 rcases h with h | ⟨a,e,h⟩
 ·exact h.non g
 ·cases h.ob
theorem Paired.get {α β:Type} {F:α->β->Prop}:∀{l:List α} {r:List β} {i:Nat} {b:β},Paired F l r->r[i]? = some b->∃a,l[i]? = some a/\F a b
 | _,_,_,_,.nil,e=>by simp at e
 | _,_,0,_,.cons h _,e=>by simp at e; subst e; exact ⟨_,rfl,h⟩
 | _,_,i + 1,b,.cons _ t,e=>by
  obtain ⟨a,h1,h2⟩:=Paired.get (i:=i) t (by simpa using e)
  exact ⟨a,by simpa using h1,h2⟩
theorem Paired.app {α β:Type} {F:α->β->Prop} {l l':List α} {r r':List β} (h:Paired F l r) (q:Paired F l' r'):Paired F (l++l') (r++r'):=by
 induction h with
 | nil=>exact q
 | cons h _ ih=>exact .cons h ih
theorem Paired.tk {α β:Type} {F:α->β->Prop} {l:List α} {r:List β} (n:Nat) (h:Paired F l r):Paired F (l.take n) (r.take n):=by
 induction h generalizing n with
 | nil=>cases n <;> exact .nil
 | cons h _ ih=>cases n with
  | zero=>exact .nil
  | succ n=>exact .cons h (ih n)
theorem Paired.dr {α β:Type} {F:α->β->Prop} {l:List α} {r:List β} (n:Nat) (h:Paired F l r):Paired F (l.drop n) (r.drop n):=by
 induction h generalizing n with
 | nil=>cases n <;> exact .nil
 | cons h t ih=>cases n with
  | zero=>exact .cons h t
  | succ n=>exact ih n
theorem Paired.st {α β:Type} {F:α->β->Prop} {a:α} {b:β} (h:F a b) {l:List α} {r:List β} (n:Nat) (p:Paired F l r):Paired F (l.set n a) (r.set n b):=by
 induction p generalizing n with
 | nil=>exact .nil
 | cons q t ih=>cases n with
  | zero=>exact .cons h t
  | succ n=>exact .cons q (ih n)
theorem Paired.er {α β:Type} {F:α->β->Prop} {l:List α} {r:List β} (n:Nat) (p:Paired F l r):Paired F (l.eraseIdx n) (r.eraseIdx n):=by
 induction p generalizing n with
 | nil=>exact .nil
 | cons q t ih=>cases n with
  | zero=>exact t
  | succ n=>exact .cons q (ih n)
end
inductive Md where
 | sh | ow | bw
 deriving DecidableEq
abbrev Rho:=List (Option D)
structure GE where
 gh:GH
 h0:Hp
 hd:Nat->Option (Option V × Option D)
def Bw (K:W.Frag) (h0:Hp) (G:GH) (H:Hp) (v:V) (d:D):Prop:=RG K G v d\/∃a,v=V.ref a/\Own K G H a d/\h0 a≠none
theorem Bw.grow {K:W.Frag} {h0:Hp} {G G':GH} {H H':Hp} {v:V} {d:D} (h:Bw K h0 G H v d) (w:Grow K G H G' H'):Bw K h0 G' H' v d:=by
 rcases h with h | ⟨a,e,h1,h2⟩
 ·exact .inl (h.mono w.ge)
 ·exact .inr ⟨a,e,h1.mono w,h2⟩
theorem Bw.rb {K:W.Frag} {h0:Hp} {G:GH} {H:Hp} {v:V} {d:D} (h:Bw K h0 G H v d):RB K G H v d:=by
 rcases h with h | ⟨a,e,h1,h2⟩
 ·exact .inl h
 ·exact .inr ⟨a,e,h1⟩
def Lk (r:Rho) (st:L2.St) (i:Nat) (o:Option V × Option D):Prop:=st[i]? = some o.1/\∀d,r[i]? = some (some d)->o.2=some d
structure SI (X:Cx) (g:GE) (m:List Md) (r:Rho) (G:GH) (st:L2.St) (H:Hp):Prop where
 gok:GOk X.K G H
 old:∀a o,g.h0 a=some o->H a=some o
 ge:∀a d,g.gh a=some d->G a=some d
 gf:∀a,g.h0 a≠none->G a=g.gh a
 lm:m.length=st.length
 lr:r.length=st.length
 sh:∀(i:Nat) d,r[i]? = some (some d)->m[i]? = some .sh->∃v,st[i]? = some (some v)/\RG X.K G v d
 ow:∀(i:Nat) d,r[i]? = some (some d)->m[i]? = some .ow->∃a,st[i]? = some (some (V.ref a))/\Own X.K G H a d/\g.h0 a=none
 bw:∀(i:Nat) d,r[i]? = some (some d)->m[i]? = some .bw->∃v,st[i]? = some (some v)/\Bw X.K g.h0 G H v d
 dis:∀(i j:Nat) a d e,i≠j->r[i]? = some (some d)->r[j]? = some (some e)->m[i]? = some .ow->m[j]? = some .ow->st[i]? = some (some (V.ref a))->st[j]? = some (some (V.ref a))->False
 lk:∀(i:Nat) o,g.hd i=some o->m[i]? = some .bw->Lk r st i o
section
variable {X:Cx} {g:GE} {m:List Md} {r:Rho} {G G':GH} {st:L2.St} {H H':Hp}
theorem SI.grow (s:SI X g m r G st H) (w:Grow X.K G H G' H'):SI X g m r G' st H' where
 gok:=w.ok
 old:=fun a o e=>w.he _ _ (s.old a o e)
 ge:=fun a d e=>w.ge _ _ (s.ge a d e)
 gf:=fun a h=>by
  have h1:H a≠none:=by
   cases e:g.h0 a with
   | none=>exact absurd e h
   | some o=>rw [s.old _ _ e]; simp
  rw [w.gf a h1,s.gf a h]
 lm:=s.lm
 lr:=s.lr
 sh:=fun i d h1 h2=>by obtain ⟨v,h3,h4⟩:=s.sh i d h1 h2; exact ⟨v,h3,h4.mono w.ge⟩
 ow:=fun i d h1 h2=>by obtain ⟨a,h3,h4,h5⟩:=s.ow i d h1 h2; exact ⟨a,h3,h4.mono w,h5⟩
 bw:=fun i d h1 h2=>by obtain ⟨v,h3,h4⟩:=s.bw i d h1 h2; exact ⟨v,h3,h4.grow w⟩
 dis:=s.dis
 lk:=s.lk
theorem SI.grown (s:SI X g m r G st H):Grow X.K g.gh g.h0 G H:=⟨s.gok,s.old,s.ge,s.gf⟩
theorem SI.frz (s:SI X g m r G st H) (i:Nat) (hi:m[i]? = some .ow):(∃G',(∀a d,G a=some d->G' a=some d)/\SI X g (m.set i .sh) r G' st H)\/∃a,∀ob,∃G',(∀a d,G a=some d->G' a=some d)/\SI X g (m.set i .sh) r G' st (fz H a ob):=by
 have hlt:i < m.length:=(List.getElem?_eq_some_iff.mp hi).1
 by_cases hb:∃d,r[i]? = some (some d)
 ·obtain ⟨d,hd⟩:=hb
  obtain ⟨a,h1,h2,h3⟩:=s.ow i d hd hi
  refine .inr ⟨a,fun ob=>⟨gset G a d,zbb h2.un,(s.gok.fast h2.un ob).gset h2.un (h2.ob.fast ob),fun b o e=>by rw [zng (by rintro rfl; rw [h3] at e; cases e)]; exact s.old b o e,fun b e h=>zbb h2.un b e (s.ge b e h),fun b h=>?_,by simpa using s.lm,s.lr,?_,?_,?_,?_,fun j o hj hm=>?_⟩⟩
  ·rw [zbv (by rintro rfl; exact h h3)]; exact s.gf b h
  ·intro j e hj hm
   by_cases hij:i=j
   ·subst hij
    rw [hd] at hj; cases hj
    exact ⟨_,h1,.ref zaz⟩
   ·rw [List.getElem?_set_ne hij] at hm
    obtain ⟨v,q1,q2⟩:=s.sh j e hj hm
    exact ⟨v,q1,q2.mono (zbb h2.un)⟩
  ·intro j e hj hm
   by_cases hij:i=j
   ·subst hij
    rw [List.getElem?_set_self hlt] at hm; cases hm
   ·rw [List.getElem?_set_ne hij] at hm
    obtain ⟨b,q1,q2,q3⟩:=s.ow j e hj hm
    have hba:b≠a:=by
     rintro rfl
     exact s.dis i j b d e hij hd hj hi hm h1 q1
    exact ⟨b,q1,⟨by rw [zbv hba]; exact q2.un,q2.ob.mono (zbb h2.un) fun _ z=>by rw [zng hba]; exact z⟩,q3⟩
  ·intro j e hj hm
   by_cases hij:i=j
   ·subst hij
    rw [List.getElem?_set_self hlt] at hm; cases hm
   ·rw [List.getElem?_set_ne hij] at hm
    obtain ⟨v,q1,q2⟩:=s.bw j e hj hm
    refine ⟨v,q1,?_⟩
    rcases q2 with q2 | ⟨b,rfl,q2,q3⟩
    ·exact .inl (q2.mono (zbb h2.un))
    ·have hba:b≠a:=by rintro rfl; exact q3 h3
     exact .inr ⟨b,rfl,⟨by rw [zbv hba]; exact q2.un,q2.ob.mono (zbb h2.un) fun _ z=>by rw [zng hba]; exact z⟩,q3⟩
  ·intro j k b e e' hjk hj hk hm hm' q1 q2
   have hij:i≠j:=by
    rintro rfl
    rw [List.getElem?_set_self hlt] at hm; cases hm
   have hik:i≠k:=by
    rintro rfl
    rw [List.getElem?_set_self hlt] at hm'; cases hm'
   rw [List.getElem?_set_ne hij] at hm
   rw [List.getElem?_set_ne hik] at hm'
   exact s.dis j k b e e' hjk hj hk hm hm' q1 q2
  ·refine s.lk j o hj ?_
   by_cases hij:i=j
   ·subst hij; rw [List.getElem?_set_self hlt] at hm; cases hm
   ·rw [List.getElem?_set_ne hij] at hm; exact hm
 ·refine .inl ⟨G,fun _ _ z=>z,s.gok,s.old,s.ge,s.gf,by simpa using s.lm,s.lr,?_,?_,?_,?_,fun j o hj hm=>?_⟩
  ·intro j e hj hm
   have hij:i≠j:=by rintro rfl; exact hb ⟨e,hj⟩
   rw [List.getElem?_set_ne hij] at hm
   exact s.sh j e hj hm
  ·intro j e hj hm
   have hij:i≠j:=by rintro rfl; exact hb ⟨e,hj⟩
   rw [List.getElem?_set_ne hij] at hm
   exact s.ow j e hj hm
  ·intro j e hj hm
   have hij:i≠j:=by rintro rfl; exact hb ⟨e,hj⟩
   rw [List.getElem?_set_ne hij] at hm
   exact s.bw j e hj hm
  ·intro j k b e e' hjk hj hk hm hm' q1 q2
   have hij:i≠j:=by rintro rfl; exact hb ⟨e,hj⟩
   have hik:i≠k:=by rintro rfl; exact hb ⟨e',hk⟩
   rw [List.getElem?_set_ne hij] at hm
   rw [List.getElem?_set_ne hik] at hm'
   exact s.dis j k b e e' hjk hj hk hm hm' q1 q2
  ·refine s.lk j o hj ?_
   by_cases hij:i=j
   ·subst hij; rw [List.getElem?_set_self hlt] at hm; cases hm
   ·rw [List.getElem?_set_ne hij] at hm; exact hm
end
theorem PE.imp {X:Cx} {e:Expr} {t t':TE} (h:PE X e t) (i:∀σ H Q,t' σ H Q->t σ H Q):PE X e t':=fun pz s σ H Q I q=>h pz s σ H Q I (i σ H Q q)
theorem PT.imp {X:Cx} {e:Expr} {t t':TT} (h:PT X e t) (i:∀σ H Q,t' σ H Q->t σ H Q):PT X e t':=fun pz s σ H Q I q=>h pz s σ H Q I (i σ H Q q)
theorem PW.imp {X:Cx} {e:Expr} {t t':TT} (h:PW X e t) (i:∀σ H Q,t' σ H Q->t σ H Q):PW X e t':=fun whole pz s σ H Q I q=>h whole pz s σ H Q I (i σ H Q q)
theorem PA.imp {X:Cx} {e:List Expr} {t t':TA} (h:PA X e t) (i:∀σ H Q,t' σ H Q->t σ H Q):PA X e t':=fun pos pz s σ H Q I q=>h pos pz s σ H Q I (i σ H Q q)
theorem PS.imp {X:Cx} {e:Stmt} {t t':TS} (h:PS X e t) (i:∀D σ H,t' D σ H->t D σ H):PS X e t':=fun pz s σ H D I q=>h pz s σ H D I (i D σ H q)
theorem PSs.imp {X:Cx} {e:List Stmt} {t t':TS} (h:PSs X e t) (i:∀D σ H,t' D σ H->t D σ H):PSs X e t':=fun pz s σ H D I q=>h pz s σ H D I (i D σ H q)
def ExV (X:Cx) (σ:L2.St) (G:GH) (H':Hp) (e:Value) (x:D) (s':Shared):Prop:=
 ∃pz s H1 a C od nm ds,e=.ref a/\x=xD nm ds/\XN X.K nm C/\XF G od ds/\Inv X pz σ H1 s/\Fly X.prog X.w X.stack H1 s H' a (.ref C) od s'
def XW (X:Cx) (σ:L2.St) (G:GH) (H:Hp) (x:D):Prop:=∀pz e s' G' H',Grow X.K G H G' H'->Inv X pz σ H' s'->ExV X σ G' H' e x s'->X.xe e s'
theorem XW.grow {X:Cx} {σ:L2.St} {G G1:GH} {H H1:Hp} {x:D} (h:XW X σ G H x) (w:Grow X.K G H G1 H1):XW X σ G1 H1 x:=fun pz e s' G' H' w' I q=>h pz e s' G' H' (w.trans w') I q
abbrev FE:=Rho->Res D
def tE (X:Cx) (g:GE) (m:List Md) (f:FE):TE:=fun σ H Q=>∃r G,SI X g m r G σ H/\fin (f r) (fun d=>∀v G' H',Grow X.K G H G' H'->RG X.K G' v d->Q v H') (XW X σ G H)
def tB (X:Cx) (g:GE) (m:List Md) (f:FE):TE:=fun σ H Q=>∃r G,SI X g m r G σ H/\fin (f r) (fun d=>∀v G' H',Grow X.K G H G' H'->RB X.K G' H' v d->Q v H') (XW X σ G H)
def tO (X:Cx) (g:GE) (m:List Md) (f:FE):TE:=fun σ H Q=>∃r G,SI X g m r G σ H/\fin (f r) (fun d=>∀a G' H',Grow X.K G H G' H'->H a=none->Own X.K G' H' a d->Q (.ref a) H') (XW X σ G H)
def tQ (X:Cx) (g:GE) (m:List Md) (f:Rho->Res Bool):TT:=fun σ H Q=>∃r G,SI X g m r G σ H/\fin (f r) (fun b=>∀G' H',Grow X.K G H G' H'->Q b H') (XW X σ G H)
def tL (X:Cx) (g:GE) (m:List Md) (f:Rho->Res (List D)):TA:=fun σ H Q=>∃r G,SI X g m r G σ H/\fin (f r) (fun ds=>∀vs G' H',Grow X.K G H G' H'->RGs X.K G' vs ds->Q vs H') (XW X σ G H)
def tLB (X:Cx) (g:GE) (m:List Md) (f:Rho->Res (List D)):TA:=fun σ H Q=>∃r G,SI X g m r G σ H/\fin (f r) (fun ds=>∀vs G' H',Grow X.K G H G' H'->Paired (RB X.K G' H') vs ds->Q vs H') (XW X σ G H)
def SE (X:Cx) (g:GE) (m:List Md) (e:Expr) (f:FE):Prop:=PE X e (tE X g m f)
def SB (X:Cx) (g:GE) (m:List Md) (e:Expr) (f:FE):Prop:=PE X e (tB X g m f)
def SO (X:Cx) (g:GE) (m:List Md) (e:Expr) (f:FE):Prop:=PE X e (tO X g m f)
def SQ (X:Cx) (g:GE) (m:List Md) (e:Expr) (f:Rho->Res Bool):Prop:=PT X e (tQ X g m f)
def SW (X:Cx) (g:GE) (m:List Md) (e:Expr) (f:Rho->Res Bool):Prop:=PW X e (tQ X g m f)
def SA (X:Cx) (g:GE) (m:List Md) (es:List Expr) (f:Rho->Res (List D)):Prop:=PA X es (tL X g m f)
def SAB (X:Cx) (g:GE) (m:List Md) (es:List Expr) (f:Rho->Res (List D)):Prop:=PA X es (tLB X g m f)
section
variable {X:Cx} {g:GE} {m:List Md} {e a b c:Expr} {f fa fb fc:FE} {pos:Pos}
theorem SE.toB (h:SE X g m e f):SB X g m e f:=PE.imp h fun σ H Q ⟨r,G,si,q⟩=>⟨r,G,si,zag q fun d k v G' H' w z=>k v G' H' w z.rb⟩
theorem Inv.fast {pz:List (Addr × Obj)} {σ:L2.St} {H:Hp} {s:Shared} (I:Inv X pz σ H s) (a:Addr):∃ob,Inv X pz σ (fz H a ob) s:=by
 cases e:H a with
 | none=>exact ⟨{ cls:=.none,data:=.fields #[] },by unfold fz; rw [e]; exact I⟩
 | some u=>
  cases u with
  | dK ps=>
   obtain ⟨z1,z2,vs,z3,o,es,ep,z4,z5⟩:=(show za3 X.prog X.w H s.heap a (.dK ps) from I.hok a _ e)
   have ef:fz H a o=upd H a (.frz o (.dK ps)):=by unfold fz; rw [e]
   refine ⟨o,?_⟩
   rw [ef]
   exact I.write (t':=s.toks) (h':=s.heap) (x:=a) (e:=a) (by rw [e]; exact trivial) (.inl rfl) (fun b u _ q=>q) ⟨o,z4⟩ (show za3 X.prog X.w _ s.heap a (.frz o (.dK ps)) from ⟨z4,z1,z2,vs,z3,o,es,ep,z4,z5⟩)
  | _=>exact ⟨{ cls:=.none,data:=.fields #[] },by unfold fz; rw [e]; exact I⟩
theorem SO.toE (h:SO X g m e f):SE X g m e f:=by
 intro pz s σ H Q I ⟨r,G,si,q⟩
 refine thn (h pz s σ H (fun v H'=>∃a,v=.ref a/\∀ob,Q v (fz H' a ob)) I ⟨r,G,si,zag q fun d k a G' H' w hn o=>⟨a,rfl,fun ob=>k _ _ _ (w.frz hn o ob) (.ref zaz)⟩⟩) fun u s' ⟨v,H',I',rv,a,_,z⟩=>?_
 obtain ⟨ob,I2⟩:=Inv.fast I' a
 exact ⟨v,_,I2,rv,z ob⟩
theorem SO.toB (h:SO X g m e f):SB X g m e f:=h.toE.toB
theorem zhT {v:V} {d:D} (h:PE X e (tC v)) (s:Scl v d):SE X g m e fun _=>.ok d:=
 PE.imp h fun σ H Q ⟨r,G,si,q⟩=>q v G H (Grow.refl si.gok) (.scl s)
theorem zaL {i:Int} {j}:SE X g m (.Constant (.int i) j pos) fun _=>.ok (.int i):=zhT zpp (.int i)
theorem s_bl {i:Bool} {j}:SE X g m (.Constant (.bool i) j pos) fun _=>.ok (.bl i):=zhT zt7 (.bl i)
theorem zjy {j}:SE X g m (.Constant .none j pos) fun _=>.ok .non:=zhT zsj .non
def getV (r:Rho) (i:Nat):Res D:=match r[i]? with
 | some (some d)=>.ok d
 | _=>.stuck
theorem zid {r:Rho} {i:Nat} {q:D->Prop} {x:D->Prop} (h:fin (getV r i) q x):∃d,r[i]? = some (some d)/\q d:=by
 unfold getV at h
 split at h
 ·rename_i d e; exact ⟨d,e,h⟩
 ·exact h.elim
theorem ztV (i:Nat) {x:Str} (hm:m[i]? = some .sh) (hN:X.N[i]? = some x) (hv:Vis X.env.scope x) (hd:(x == ("__debug__" : Str))=false:=by decide) (hcd:(x == ("__classdict__" : Str))=false:=by decide) :
  SE X g m (.Name x pos) fun r=>getV r i:=by
 refine PE.imp (zea hN hv hd hcd) fun σ H Q ⟨r,G,si,q⟩=>?_
 obtain ⟨d,e,k⟩:=zid q
 obtain ⟨v,e1,e2⟩:=si.sh i d e hm
 exact ⟨v,e1,k v G H (Grow.refl si.gok) e2⟩
theorem zrM (i:Nat) {x:Str} (hm:i < m.length) (hN:X.N[i]? = some x) (hv:Vis X.env.scope x) (hd:(x == ("__debug__" : Str))=false:=by decide) (hcd:(x == ("__classdict__" : Str))=false:=by decide) :
  SB X g m (.Name x pos) fun r=>getV r i:=by
 refine PE.imp (zea hN hv hd hcd) fun σ H Q ⟨r,G,si,q⟩=>?_
 obtain ⟨d,e,k⟩:=zid q
 have hm':m[i]? = some m[i]:=List.getElem?_eq_getElem hm
 cases h:m[i] with
 | sh=>
  obtain ⟨v,e1,e2⟩:=si.sh i d e (hm'.trans (by rw [h]))
  exact ⟨v,e1,k v G H (Grow.refl si.gok) e2.rb⟩
 | ow=>
  obtain ⟨v,e1,e2,_⟩:=si.ow i d e (hm'.trans (by rw [h]))
  exact ⟨_,e1,k _ G H (Grow.refl si.gok) (.inr ⟨v,rfl,e2⟩)⟩
 | bw=>
  obtain ⟨v,e1,e2⟩:=si.bw i d e (hm'.trans (by rw [h]))
  exact ⟨_,e1,k _ G H (Grow.refl si.gok) e2.rb⟩
theorem zrO {x:Str} {v:V} {u:Value} {d:D} (hg:Gl X x) (hm:X.mg x=some u) (r:RelV v u) (s:Scl v d) (hd:(x == ("__debug__" : Str))=false:=by decide):SE X g m (.Name x pos) fun _=>.ok d:=zhT (zqz hg hm r hd) s
theorem seq2 {β:Type} {k:D->D->Res β} {q:β->Prop} {R:V->V->Hp->Prop} {r:Rho} {G:GH} {σ:L2.St} {H:Hp} (si:SI X g m r G σ H)
  (h:fin ((fa r).bind fun d1=>(fb r).bind fun d2=>k d1 d2) q (XW X σ G H))
  (hk:∀d1 d2 v1 v2 G2 H2,Grow X.K G H G2 H2->RB X.K G2 H2 v1 d1->RB X.K G2 H2 v2 d2->fin (k d1 d2) q (XW X σ G H)->R v1 v2 H2) :
  tB X g m fa σ H fun v1 H1=>tB X g m fb σ H1 fun v2 H2=>R v1 v2 H2:=by
 refine ⟨r,G,si,zag (zai h) fun d1 h1 v1 G1 H1 w1 r1=>⟨r,G1,si.grow w1,?_⟩⟩
 cases e:fb r with
 | ok d2=>
  rw [e] at h1
  exact fun v2 G2 H2 w2 r2=>hk d1 d2 v1 v2 G2 H2 (w1.trans w2) (r1.mono w2) r2 h1
 | exc x=>
  rw [e] at h1
  exact (show XW X σ G H x from h1).grow w1
 | stuck=>
  rw [e] at h1
  exact h1
def opt {α:Type}:Option α->Res α
 | some a=>.ok a
 | none=>.stuck
@[simp] theorem opt_some {α:Type} (a:α):opt (some a)=.ok a:=rfl
@[simp] theorem opt_none {α:Type}:opt (none:Option α)=.stuck:=rfl
theorem zaB {α:Type} {o:Option α} {q:α->Prop} {x:D->Prop} (h:fin (opt o) q x):∃a,o=some a/\q a:=by
 cases o with
 | none=>exact h.elim
 | some a=>exact ⟨a,rfl,h⟩
def OpD (K:W.Frag) (r:R2) (k:D->D->Option D):Prop:=∀(G:GH) (H:Hp) (v1 v2:V) (d1 d2 d:D) (Q:VK),GOk K G H->RB K G H v1 d1->RB K G H v2 d2->k d1 d2=some d ->
 (∀v G' H',Grow K G H G' H'->RG K G' v d->Q v H')->r v1 v2 H Q
def f2 (fa fb:FE) (k:D->D->Option D):FE:=fun r=>(fa r).bind fun d1=>(fb r).bind fun d2=>opt (k d1 d2)
theorem zqa {R:R2} {k:D->D->Option D} (ho:OpD X.K R k) (h:PE X e (tOp R (tB X g m fa) (tB X g m fb))):SE X g m e (f2 fa fb k):=by
 refine PE.imp h fun σ H Q ⟨r,G,si,q⟩=>?_
 refine seq2 si q fun d1 d2 v1 v2 G2 H2 w r1 r2 q2=>?_
 obtain ⟨d,e,q2⟩:=zaB q2
 exact ho G2 H2 v1 v2 d1 d2 d Q w.ok r1 r2 e fun v G' H' w' z=>q2 v G' H' (w.trans w') z
theorem zjB {op:Operator} {R:R2} {k:D->D->Option D} (hr:OpR X (binaryOp op) R) (ho:OpD X.K R k) (ha:SB X g m a fa) (hb:SB X g m b fb):SE X g m (.BinOp a op b pos) (f2 fa fb k):=zqa ho (zsg hr ha hb)
theorem zrQ {op:CmpOp} {R:R2} {k:D->D->Option D} (hr:OpR X (compareOp op) R) (ho:OpD X.K R k) (ha:SB X g m a fa) (hb:SB X g m b fb) (hm:behindInMarks op b=false):SE X g m (.Compare a [op] [b] pos) (f2 fa fb k):=zqa ho (zqA hr ha hb hm)
def asB:D->Option Bool
 | .bl b=>some b
 | _=>none
def zaH (f:FE):Rho->Res Bool:=fun r=>(f r).bind fun d=>opt (asB d)
theorem ziJ {op:CmpOp} {R:R2} {k:D->D->Option D} (hr:OpR X (compareOp op) R) (ho:OpD X.K R k) (ha:SB X g m a fa) (hb:SB X g m b fb) (hm:behindInMarks op b=false):SQ X g m (.Compare a [op] [b] pos) (zaH (f2 fa fb k)):=by
 refine PT.imp (zqt hr ha hb hm) fun σ H Q ⟨r,G,si,q⟩=>?_
 have e:zaH (f2 fa fb k) r=(fa r).bind fun d1=>(fb r).bind fun d2=>(opt (k d1 d2)).bind fun d=>opt (asB d):=by
  unfold zaH f2
  cases fa r with
  | ok d1=>cases fb r <;> rfl
  | exc _=>rfl
  | stuck=>rfl
 rw [e] at q
 refine seq2 (R:=fun x y H2=>R x y H2 fun x H'=>∃k,x=V.bl k/\Q k H') si q fun d1 d2 v1 v2 G2 H2 w r1 r2 q3=>?_
 obtain ⟨d,e,q3⟩:=zaB (zai q3)
 obtain ⟨b,eb,q3⟩:=zaB q3
 cases d with
 | bl b'=>
  cases eb
  exact ho G2 H2 v1 v2 d1 d2 _ _ w.ok r1 r2 e fun v G' H' w' z=>⟨_,z.bl w'.ok,q3 G' H' (w.trans w')⟩
 | _=>cases eb
end
instance decMul (i j:Int):Decidable (CMul i j):=by unfold CMul; infer_instance
instance decDiv (i j:Int):Decidable (CDiv i j):=by unfold CDiv; infer_instance
instance decPow (i j:Int):Decidable (CPow i j):=by unfold CPow; infer_instance
def zly (k:Int->Int->D):D->D->Option D
 | .int a,.int b=>some (k a b)
 | _,_=>none
def zh9 (C:Int->Int->Prop) [∀a b,Decidable (C a b)] (k:Int->Int->D):D->D->Option D
 | .int a,.int b=>if C a b then some (k a b) else none
 | _,_=>none
@[simp] theorem ints2_int (k:Int->Int->D) (a b:Int):zly k (.int a) (.int b)=some (k a b):=rfl
@[simp] theorem intsC_int (C:Int->Int->Prop) [∀a b,Decidable (C a b)] (k:Int->Int->D) (a b:Int):zh9 C k (.int a) (.int b)=if C a b then some (k a b) else none:=rfl
section
variable {K:W.Frag}
theorem zgB {gv:Int->Int->V} {gd:Int->Int->D} (hs:∀i j,Scl (gv i j) (gd i j)):OpD K (rI0 gv) (zly gd):=by
 intro G H v1 v2 d1 d2 d Q g r1 r2 e q
 unfold zly at e
 split at e
 ·cases e
  exact ⟨_,_,r1.int g,r2.int g,q _ G H (Grow.refl g) (.scl (hs _ _))⟩
 ·cases e
theorem ze5 {C:Int->Int->Prop} [∀a b,Decidable (C a b)] {gv:Int->Int->V} {gd:Int->Int->D} (hs:∀i j,Scl (gv i j) (gd i j)):OpD K (rI C gv) (zh9 C gd):=by
 intro G H v1 v2 d1 d2 d Q g r1 r2 e q
 unfold zh9 at e
 split at e
 ·split at e
  ·rename_i hc
   cases e
   exact ⟨_,_,r1.int g,r2.int g,hc,q _ G H (Grow.refl g) (.scl (hs _ _))⟩
  ·cases e
 ·cases e
end
abbrev mulI:D->D->Option D:=zh9 CMul fun a b=>.int (a * b)
abbrev znl:D->D->Option D:=zh9 CDiv fun a b=>.int (a / b)
abbrev modI:D->D->Option D:=zh9 (fun _ b=>0 < b) fun a b=>.int (a % b)
abbrev powI:D->D->Option D:=zh9 CPow fun a b=>.int (a ^ b.toNat)
abbrev ltI:D->D->Option D:=zly fun a b=>.bl (decide (a < b))
abbrev leI:D->D->Option D:=zly fun a b=>.bl (decide (a<=b))
abbrev gtI:D->D->Option D:=zly fun a b=>.bl (decide (b < a))
section
variable {X:Cx} {g:GE} {m:List Md} {e a b c:Expr} {f fa fb fc:FE} {pos:Pos}
theorem zjz (ha:SB X g m a fa) (hb:SB X g m b fb):SE X g m (.BinOp a .Mult b pos) (f2 fa fb mulI):=zjB zsr (ze5 fun _ _=>.int _) ha hb
theorem zrP (ha:SB X g m a fa) (hb:SB X g m b fb):SE X g m (.BinOp a .FloorDiv b pos) (f2 fa fb znl):=zjB zqH (ze5 fun _ _=>.int _) ha hb
theorem zha (ha:SB X g m a fa) (hb:SB X g m b fb):SE X g m (.BinOp a .Mod b pos) (f2 fa fb modI):=zjB zss (ze5 fun _ _=>.int _) ha hb
theorem ztW (ha:SB X g m a fa) (hb:SB X g m b fb):SE X g m (.BinOp a .Pow b pos) (f2 fa fb powI):=zjB zsq (ze5 fun _ _=>.int _) ha hb
theorem s_gt (ha:SB X g m a fa) (hb:SB X g m b fb):SE X g m (.Compare a [.Gt] [b] pos) (f2 fa fb gtI):=zrQ zsx (zgB fun _ _=>.bl _) ha hb (zfL _)
theorem q_lt (ha:SB X g m a fa) (hb:SB X g m b fb):SQ X g m (.Compare a [.Lt] [b] pos) (zaH (f2 fa fb ltI)):=ziJ zst (zgB fun _ _=>.bl _) ha hb (zfL _)
theorem q_gt (ha:SB X g m a fa) (hb:SB X g m b fb):SQ X g m (.Compare a [.Gt] [b] pos) (zaH (f2 fa fb gtI)):=ziJ zsx (zgB fun _ _=>.bl _) ha hb (zfL _)
def f1 (fa:FE) (k:D->Option D):FE:=fun r=>(fa r).bind fun d=>opt (k d)
def negI:D->Option D
 | .int a=>some (.int (-a))
 | _=>none
@[simp] theorem negI_int (a:Int):negI (.int a)=some (.int (-a)):=rfl
theorem ztY (ha:SB X g m a fa):SE X g m (.UnaryOp .USub a pos) (f1 fa negI):=by
 refine PE.imp (zt6 zrv ha) fun σ H Q ⟨r,G,si,q⟩=>⟨r,G,si,zag (zai q) fun d q1 v G1 H1 w1 r1=>?_⟩
 obtain ⟨d',e,q2⟩:=zaB q1
 cases d with
 | int i=>
  cases e
  exact ⟨i,r1.int w1.ok,q2 _ G1 H1 w1 (.scl (.int _))⟩
 | _=>cases e
def truD:D->Option Bool
 | .non=>some false
 | .bl b=>some b
 | .int i=>some (i != 0)
 | .str y=>if y.length<=sizeLine then some ((y.length:Int) != 0) else none
 | .lst ds=>some (! ds.isEmpty)
 | .tup ds=>some (! ds.isEmpty)
 | .dic kz=>some (! kz.isEmpty)
 | .obj _ _=>none
theorem zgN {α β:Type} {F:α->β->Prop} {l:List α} {r:List β} (h:Paired F l r):l.isEmpty=r.isEmpty:=by cases h <;> rfl
theorem zp3 {K:W.Frag} {G:GH} {H:Hp} {v:V} {d:D} {b:Bool} (gk:GOk K G H) (h:RB K G H v d) (e:truD d=some b):TruV K v H b:=by
 cases d with
 | non=>cases e; rw [h.non gk]; rfl
 | bl b'=>cases e; rw [h.bl gk]; rfl
 | int i=>cases e; rw [h.int gk]; rfl
 | str y=>
  rw [h.str gk]
  have e':(if y.length<=sizeLine then some ((y.length:Int) != 0) else none)=some b:=e
  by_cases hy:y.length<=sizeLine
  ·rw [if_pos hy] at e'; cases e'; exact ⟨hy,rfl⟩
  ·rw [if_neg hy] at e'; cases e'
 | lst ds=>
  cases e
  obtain ⟨a,xs,rfl,s,r⟩:=h.lst gk
  exact .inl ⟨xs,s,by rw [zgN r]⟩
 | tup ds=>
  cases e
  obtain ⟨a,xs,rfl,s,r⟩:=h.tup gk
  exact .inr (.inl ⟨xs,s,by rw [zgN r]⟩)
 | dic kz=>
  cases e
  obtain ⟨a,xs,rfl,s,r⟩:=h.dic gk
  exact .inr (.inr ⟨xs,s,by rw [zgN r]⟩)
 | obj _ _=>cases e
def fTru (f:FE):Rho->Res Bool:=fun r=>(f r).bind fun d=>opt (truD d)
theorem zfY (ha:SB X g m a fa) (he:∀whole,isTrue a X.env whole=(do let v <-whole; standAt a.pos; holding [v] (truthy v)):=by intro _; rfl):SQ X g m a (fTru fa):=by
 refine PT.imp (zn9 ha he) fun σ H Q ⟨r,G,si,q⟩=>⟨r,G,si,zag (zai q) fun d q1 v G1 H1 w1 r1=>?_⟩
 obtain ⟨b,e,q2⟩:=zaB q1
 exact ⟨b,zp3 w1.ok r1 e,q2 G1 H1 w1⟩
abbrev FQ:=Rho->Res Bool
def fAnd (p q:FQ):FQ:=fun r=>(p r).bind fun c=>if c=true then q r else .ok false
def fOr (p q:FQ):FQ:=fun r=>(p r).bind fun c=>if c=true then .ok true else q r
def fNot (p:FQ):FQ:=fun r=>(p r).bind fun c=>.ok (! c)
variable {p q:FQ} {rest:List Expr}
theorem zuu {α:Type} {r:Res α} {q:α->Prop} {x x':D->Prop} (h:fin r q x) (hx:∀e,x e->x' e):fin r q x':=by
 cases r with
 | ok a=>exact h
 | exc e=>exact hx e h
 | stuck=>exact h
theorem zaZ {α:Type} {r:Res α} {σ:L2.St} {G G1:GH} {H H1:Hp} {P P':α->Prop} (h:fin r P (XW X σ G H)) (w:Grow X.K G H G1 H1) (hp:∀a,P a->P' a):fin r P' (XW X σ G1 H1):=zuu (zag h hp) fun _ x=>x.grow w
theorem zpi (ha:SQ X g m a p):SW X g m (.BoolOp .And [a] pos) p:=zqr ha
theorem zlm (ha:SQ X g m a p):SW X g m (.BoolOp .Or [a] pos) p:=zr7 ha
theorem zr6 (ha:SQ X g m a p) (hb:SW X g m (.BoolOp .And (b::rest) pos) q):SW X g m (.BoolOp .And (a::b::rest) pos) (fAnd p q):=by
 refine PW.imp (zr8 ha hb) fun σ H Q ⟨r,G,si,k⟩=>⟨r,G,si,zag (zai k) fun c k1 G1 H1 w1=>?_⟩
 cases c with
 | true=>rw [if_pos rfl] at k1 ⊢; exact ⟨r,G1,si.grow w1,zaZ k1 w1 fun b z G' H' w'=>z G' H' (w1.trans w')⟩
 | false=>rw [if_neg Bool.false_ne_true] at k1 ⊢; exact k1 G1 H1 w1
theorem q_or (ha:SQ X g m a p) (hb:SW X g m (.BoolOp .Or (b::rest) pos) q):SW X g m (.BoolOp .Or (a::b::rest) pos) (fOr p q):=by
 refine PW.imp (zt4 ha hb) fun σ H Q ⟨r,G,si,k⟩=>⟨r,G,si,zag (zai k) fun c k1 G1 H1 w1=>?_⟩
 cases c with
 | true=>rw [if_pos rfl] at k1 ⊢; exact k1 G1 H1 w1
 | false=>rw [if_neg Bool.false_ne_true] at k1 ⊢; exact ⟨r,G1,si.grow w1,zaZ k1 w1 fun b z G' H' w'=>z G' H' (w1.trans w')⟩
theorem SW.toQ (h:SW X g m e p):SQ X g m e p:=PW.pt h
theorem zhd (ha:SQ X g m a p):SQ X g m (.UnaryOp .Not a pos) (fNot p):=
 PT.imp (zsb ha) fun σ H Q ⟨r,G,si,k⟩=>⟨r,G,si,zag (zai k) fun c k1 G1 H1 w1=>k1 G1 H1 w1⟩
def vAnd (fa fb:FE):FE:=fun r=>(fa r).bind fun d=>(opt (asB d)).bind fun c=>if c=true then fb r else .ok (.bl false)
def vOr (fa fb:FE):FE:=fun r=>(fa r).bind fun d=>(opt (asB d)).bind fun c=>if c=true then .ok (.bl true) else fb r
def vNot (fa:FE):FE:=fun r=>(fa r).bind fun d=>(opt (asB d)).bind fun c=>.ok (.bl (! c))
theorem zl5 {op} (h:SE X g m a fa):SE X g m (.BoolOp op [a] pos) fa:=zsh h
theorem zl7 (ha:SE X g m a fa) (hb:SE X g m (.BoolOp .And (b::rest) pos) fb):SE X g m (.BoolOp .And (a::b::rest) pos) (vAnd fa fb):=by
 refine PE.imp (zsn ha hb) fun σ H Q ⟨r,G,si,k⟩=>⟨r,G,si,zag (zai k) fun d k1 v G1 H1 w1 r1=>?_⟩
 obtain ⟨c,e,k2⟩:=zaB (zai k1)
 cases d with
 | bl c'=>
  cases e
  refine ⟨_,r1.bl w1.ok,?_⟩
  cases c with
  | true=>rw [if_pos rfl] at k2 ⊢; exact ⟨r,G1,si.grow w1,zaZ k2 w1 fun b z v G' H' w'=>z v G' H' (w1.trans w')⟩
  | false=>rw [if_neg Bool.false_ne_true] at k2 ⊢; exact k2 _ G1 H1 w1 (.scl (.bl _))
 | _=>cases e
theorem ztX (ha:SE X g m a fa):SE X g m (.UnaryOp .Not a pos) (vNot fa):=by
 refine PE.imp (zsi ha) fun σ H Q ⟨r,G,si,k⟩=>⟨r,G,si,zag (zai k) fun d k1 v G1 H1 w1 r1=>?_⟩
 obtain ⟨c,e,k2⟩:=zaB (zai k1)
 cases d with
 | bl c'=>cases e; exact ⟨_,r1.bl w1.ok,k2 _ G1 H1 w1 (.scl (.bl _))⟩
 | _=>cases e
def fIf (p:FQ) (fa fb:FE):FE:=fun r=>(p r).bind fun c=>if c=true then fa r else fb r
theorem zrN (hc:SQ X g m c p) (ha:SE X g m a fa) (hb:SE X g m b fb):SE X g m (.IfExp c a b pos) (fIf p fa fb):=by
 refine PE.imp (zog hc ha hb) fun σ H Q ⟨r,G,si,k⟩=>⟨r,G,si,zag (zai k) fun c k1 G1 H1 w1=>?_⟩
 cases c with
 | true=>rw [if_pos rfl] at k1 ⊢; exact ⟨r,G1,si.grow w1,zaZ k1 w1 fun b z v G' H' w'=>z v G' H' (w1.trans w')⟩
 | false=>rw [if_neg Bool.false_ne_true] at k1 ⊢; exact ⟨r,G1,si.grow w1,zaZ k1 w1 fun b z v G' H' w'=>z v G' H' (w1.trans w')⟩
variable {es:List Expr} {fl fr:Rho->Res (List D)}
def lNil:Rho->Res (List D):=fun _=>.ok []
def zac (fa:FE) (fl:Rho->Res (List D)):Rho->Res (List D):=fun r=>(fa r).bind fun d=>(fl r).bind fun ds=>.ok (d::ds)
theorem zb3:SA X g m [] lNil:=PA.imp zgz fun σ H Q ⟨r,G,si,k⟩=>k [] G H (Grow.refl si.gok) .nil
theorem zba (ha:SE X g m e fa) (hr:SA X g m es fl) (hs:starEach (e::es) X.env=(false,eval e X.env)::starEach es X.env:=by rfl):SA X g m (e::es) (zac fa fl):=by
 refine PA.imp (zdI ha hr hs) fun σ H Q ⟨r,G,si,k⟩=>⟨r,G,si,zag (zai k) fun d k1 v G1 H1 w1 r1=>⟨r,G1,si.grow w1,?_⟩⟩
 exact zaZ (zai k1) w1 fun ds z vs G2 H2 w2 r2=>z (v::vs) G2 H2 (w1.trans w2) (.cons (r1.mono w2.ge) r2)
theorem zax:SAB X g m [] lNil:=PA.imp zgz fun σ H Q ⟨r,G,si,k⟩=>k [] G H (Grow.refl si.gok) .nil
theorem zal (ha:SB X g m e fa) (hr:SAB X g m es fl) (hs:starEach (e::es) X.env=(false,eval e X.env)::starEach es X.env:=by rfl):SAB X g m (e::es) (zac fa fl):=by
 refine PA.imp (zdI ha hr hs) fun σ H Q ⟨r,G,si,k⟩=>⟨r,G,si,zag (zai k) fun d k1 v G1 H1 w1 r1=>⟨r,G1,si.grow w1,?_⟩⟩
 exact zaZ (zai k1) w1 fun ds z vs G2 H2 w2 r2=>z (v::vs) G2 H2 (w1.trans w2) (.cons (r1.mono w2) r2)
def sz (ds:List D):Option (List D):=if ds.length<=sizeLine then some ds else none
theorem znV {ds ds':List D} (h:sz ds=some ds'):ds'=ds/\ds.length<=sizeLine:=by
 unfold sz at h; split at h
 ·rename_i hl; cases h; exact ⟨rfl,hl⟩
 ·cases h
theorem ztT {ds:List D} (h:ds.length<=sizeLine):sz ds=some ds:=if_pos h
def mkT (fl:Rho->Res (List D)):FE:=fun r=>(fl r).bind fun ds=>(opt (sz ds)).bind fun ds=>.ok (.tup ds)
def mkL (fl:Rho->Res (List D)):FE:=fun r=>(fl r).bind fun ds=>(opt (sz ds)).bind fun ds=>.ok (.lst ds)
theorem znY {x1} (h:SA X g m es fl):SE X g m (.Tuple es x1 pos) (mkT fl):=by
 refine PE.imp (zsf h) fun σ H Q ⟨r,G,si,k⟩=>⟨r,G,si,zag (zai k) fun ds k1 vs G1 H1 w1 r1=>?_⟩
 obtain ⟨ds',e,k2⟩:=zaB (zai k1)
 obtain ⟨rfl,hl⟩:=znV e
 have hlen:=Paired.length r1
 refine ⟨by omega,fun p hp=>?_⟩
 exact k2 _ _ _ (w1.trans (Grow.newF (d:=.tup ds') w1.ok hp (.tup (.inl zam) r1))) (.ref zaz)
theorem zfn (h:SA X g m es fl):SO X g m (.List es pos) (mkL fl):=by
 refine PE.imp (zsk h) fun σ H Q ⟨r,G,si,k⟩=>⟨r,G,si,zag (zai k) fun ds k1 vs G1 H1 w1 r1=>?_⟩
 obtain ⟨ds',e,k2⟩:=zaB (zai k1)
 obtain ⟨rfl,hl⟩:=znV e
 have hlen:=Paired.length r1
 refine ⟨by omega,fun p hp=>?_⟩
 have hn:H p=none:=by
  cases q:H p with
  | none=>rfl
  | some o=>rw [w1.he _ _ q] at hp; cases hp
 exact k2 p G1 _ (w1.trans (Grow.new w1.ok hp _)) hn ⟨w1.ok.isN hp,.lst zam r1⟩
end
def znN (K:W.Frag) (r:List V->Hp->VK->Prop) (k:List D->Option D):Prop:=∀(G:GH) (H:Hp) (vs:List V) (ds:List D) (d:D) (Q:VK),GOk K G H->Paired (RB K G H) vs ds->k ds=some d ->
 (∀v G' H',Grow K G H G' H'->RG K G' v d->Q v H')->r vs H Q
def ztG (K:W.Frag) (r:List V->Hp->VK->Prop) (k:List D->Option D):Prop:=∀(G:GH) (H:Hp) (vs:List V) (ds:List D) (d:D) (Q:VK),GOk K G H->Paired (RB K G H) vs ds->k ds=some d ->
 (∀a G' H',Grow K G H G' H'->H a=none->Own K G' H' a d->Q (.ref a) H')->r vs H Q
def fC (fl:Rho->Res (List D)) (k:List D->Option D):FE:=fun r=>(fl r).bind fun ds=>opt (k ds)
theorem Grow.back {K:W.Frag} {G G1:GH} {H H1:Hp} (w:Grow K G H G1 H1) {a:Addr} (hn:H1 a=none):H a=none:=by
 cases q:H a with
 | none=>rfl
 | some o=>rw [w.he _ _ q] at hn; cases hn
section
variable {X:Cx} {g:GE} {m:List Md} {e a b c:Expr} {f fa fb fc:FE} {pos p p2:Pos} {es:List Expr} {fl:Rho->Res (List D)} {x:Str} {id T:String} {R:List V->Hp->VK->Prop} {k:List D->Option D}
theorem s_cb (hk:znN X.K R k) (h:PE X e (tCB R (tLB X g m fl))):SE X g m e (fC fl k):=by
 refine PE.imp h fun σ H Q ⟨r,G,si,q⟩=>⟨r,G,si,zag (zai q) fun ds q1 vs G1 H1 w1 r1=>?_⟩
 obtain ⟨d,e,q2⟩:=zaB q1
 exact hk G1 H1 vs ds d Q w1.ok r1 e fun v G' H' w' z=>q2 v G' H' (w1.trans w') z
theorem zqc (hk:ztG X.K R k) (h:PE X e (tCB R (tLB X g m fl))):SO X g m e (fC fl k):=by
 refine PE.imp h fun σ H Q ⟨r,G,si,q⟩=>⟨r,G,si,zag (zai q) fun ds q1 vs G1 H1 w1 r1=>?_⟩
 obtain ⟨d,e,q2⟩:=zaB q1
 exact hk G1 H1 vs ds d Q w1.ok r1 e fun v G' H' w' hn z=>q2 v G' H' (w1.trans w') (w1.back hn) z
def lenD:List D->Option D
 | [.str y]=>if y.length<=sizeLine then some (.int y.length) else none
 | [.lst ds]=>some (.int ds.length)
 | [.tup ds]=>some (.int ds.length)
 | [.dic kz]=>some (.int kz.length)
 | _=>none
theorem zsL {K:W.Frag}:znN K (fun xs H Q=>(∃x n,xs=[x]/\LenV K x H n/\Q (.int n) H)\/∃a kz,xs=[V.ref a]/\Rd H a (.dK kz)/\Q (.int kz.length) H) lenD:=by
 intro G H vs ds d Q gk rs e q
 unfold lenD at e
 split at e
 ·split at e
  ·cases e
   cases rs with
   | cons r t=>cases t; exact .inl ⟨_,_,rfl,by rw [r.str gk]; exact ⟨by assumption,rfl⟩,q _ G H (Grow.refl gk) (.scl (.int _))⟩
  ·cases e
 ·cases e
  cases rs with
  | cons r t=>
   cases t
   obtain ⟨a,xs,rfl,s,r⟩:=r.lst gk
   have:=Paired.length r
   exact .inl ⟨_,_,rfl,.inl ⟨xs,s,rfl⟩,q _ G H (Grow.refl gk) (.scl (by rw [this]; exact .int _))⟩
 ·cases e
  cases rs with
  | cons r t=>
   cases t
   obtain ⟨a,xs,rfl,s,r⟩:=r.tup gk
   have:=Paired.length r
   exact .inl ⟨_,_,rfl,.inr ⟨xs,s,rfl⟩,q _ G H (Grow.refl gk) (.scl (by rw [this]; exact .int _))⟩
 ·cases e
  cases rs with
  | cons r t=>
   cases t
   obtain ⟨a,xs,rfl,s,r⟩:=r.dic gk
   have:=Paired.length r
   exact .inr ⟨_,_,rfl,s,q _ G H (Grow.refl gk) (.scl (by rw [this]; exact .int _))⟩
 ·cases e
theorem zcO (hg:Gl X "len") (hm:X.mg "len" = none) (ha:SAB X g m (e::es) fl) (he:starEach (e::es) X.env=(false,eval e X.env)::starEach es X.env:=by rfl) (hpl:(backTo pos (starEach es X.env)).any (·.1)=false:=by rfl) :
  SE X g m (.Call (.Name "len" p) (e::es) [] pos) (fC fl lenD):=s_cb zsL (zel (zdV.or zoV znE) hg hm PySem.boot_len ha (by decide) (by decide) he hpl)
def zjM:List D->Option D
 | [.lst ds]=>some (.lst ds)
 | [.tup ds]=>some (.lst ds)
 | _=>none
theorem zqY {K:W.Frag}:ztG K (fun xs H Q=>∃p ys,xs=[.ref p]/\(SqL K H p ys\/SqT K H p ys)/\∀l,H l=none->Q (.ref l) (upd H l (.lst ys))) zjM:=by
 intro G H vs ds d Q gk rs e q
 have fin:∀{ys:List V} {zs:List D},RGs K G ys zs->(∀(a:Addr) (G':GH) (H':Hp),Grow K G H G' H'->H a=none->Own K G' H' a (.lst zs)->Q (.ref a) H')->∀l,H l=none->Q (.ref l) (upd H l (.lst ys)):=
  fun r q l hl=>q l G _ (Grow.new gk hl _) hl ⟨gk.isN hl,.lst zam r⟩
 unfold zjM at e
 split at e
 ·cases e
  cases rs with
  | cons r t=>
   cases t
   obtain ⟨a,xs,rfl,s,r⟩:=r.lst gk
   exact ⟨a,xs,rfl,.inl s,fin r q⟩
 ·cases e
  cases rs with
  | cons r t=>
   cases t
   obtain ⟨a,xs,rfl,s,r⟩:=r.tup gk
   exact ⟨a,xs,rfl,.inr s,fin r q⟩
 ·cases e
theorem zpz (hg:Gl X "list") (hm:X.mg "list" = none) (ha:SAB X g m (e::es) fl) (he:starEach (e::es) X.env=(false,eval e X.env)::starEach es X.env:=by rfl) (hpl:(backTo pos (starEach es X.env)).any (·.1)=false:=by rfl) :
  SO X g m (.Call (.Name "list" p) (e::es) [] pos) (fC fl zjM):=zqc zqY (zeb zje hg hm rfl ha (by decide) (by decide) he hpl)
def tupD:List D->Option D
 | [.lst ds]=>some (.tup ds)
 | [.tup ds]=>some (.tup ds)
 | _=>none
theorem zrz {K:W.Frag}:znN K (fun xs H Q=>∃p ys,xs=[.ref p]/\((SqL K H p ys/\∀l,H l=none->Q (.ref l) (upd H l (.tup ys)))\/(SqT K H p ys/\Q (.ref p) H))) tupD:=by
 intro G H vs ds d Q gk rs e q
 unfold tupD at e
 split at e
 ·cases e
  cases rs with
  | cons r t=>
   cases t
   obtain ⟨a,xs,rfl,s,r⟩:=r.lst gk
   exact ⟨a,xs,rfl,.inl ⟨s,fun l hl=>q _ _ _ (Grow.newF gk hl (.tup (.inl zam) r)) (.ref zaz)⟩⟩
 ·cases e
  cases rs with
  | cons r t=>
   cases t
   rcases r with r | ⟨a,_,o⟩
   ·obtain ⟨a,xs,rfl,s,r'⟩:=r.tup gk
    exact ⟨a,xs,rfl,.inr ⟨s,q _ G H (Grow.refl gk) r⟩⟩
   ·cases o.ob
 ·cases e
theorem zdp (hg:Gl X "tuple") (hm:X.mg "tuple" = none) (ha:SAB X g m (e::es) fl) (he:starEach (e::es) X.env=(false,eval e X.env)::starEach es X.env:=by rfl) (hpl:(backTo pos (starEach es X.env)).any (·.1)=false:=by rfl) :
  SE X g m (.Call (.Name "tuple" p) (e::es) [] pos) (fC fl tupD):=s_cb zrz (zeb zij hg hm rfl ha (by decide) (by decide) he hpl)
def ixD:D->D->Option D
 | .lst ds,.int i=>atI ds i
 | .tup ds,.int i=>atI ds i
 | .str z,.int i=>if z.length<=sizeLine then (atI z.cps.toList i).map fun c=>.str ⟨#[c]⟩ else none
 | _,_=>none
theorem ztA {K:W.Frag} {G:GH} {xs:List V} {ds:List D} {i:Int} {d:D} (r:RGs K G xs ds) (h:atI ds i=some d):∃v,atI xs i=some v/\RG K G v d:=by
 unfold atI at h ⊢
 rw [Paired.length r]
 cases e:ixN ds.length i with
 | none=>rw [e] at h; cases h
 | some j=>
  rw [e] at h
  exact Paired.get r h
theorem zq0 {K:W.Frag}:OpD K (rIx K) ixD:=by
 intro G H v1 v2 d1 d2 d Q gk r1 r2 e q
 unfold ixD at e
 split at e
 ·obtain ⟨a,xs,rfl,s,r⟩:=r1.lst gk
  obtain ⟨v,ev,rv⟩:=ztA r e
  exact .inl ⟨a,xs,_,v,rfl,r2.int gk,s,ev,q v G H (Grow.refl gk) rv⟩
 ·obtain ⟨a,xs,rfl,s,r⟩:=r1.tup gk
  obtain ⟨v,ev,rv⟩:=ztA r e
  exact .inr (.inl ⟨a,xs,_,v,rfl,r2.int gk,s,ev,q v G H (Grow.refl gk) rv⟩)
 ·split at e
  ·rename_i z i hz
   cases ec:atI z.cps.toList i with
   | none=>rw [ec] at e; cases e
   | some c=>
    rw [ec] at e; cases e
    exact .inr (.inr ⟨z,i,c,r1.str gk,r2.int gk,hz,ec,q _ G H (Grow.refl gk) (.scl (.str _))⟩)
  ·cases e
 ·cases e
def cutL {α:Type} (xs:List α) (lo hi:Option Int):List α:=(xs.drop (HT.sIx xs.length 0 lo)).take (HT.sIx xs.length xs.length hi - HT.sIx xs.length 0 lo)
theorem ztv {α β:Type} {F:α->β->Prop} {xs:List α} {ds:List β} (r:Paired F xs ds) (lo hi:Option Int):Paired F (cutL xs lo hi) (cutL ds lo hi):=by
 unfold cutL
 rw [Paired.length r]
 exact Paired.tk _ (Paired.dr _ r)
abbrev FP:=Rho->Res (Option Int)
def tP (X:Cx) (g:GE) (m:List Md) (f:FP):TO:=fun σ H Q=>∃r G,SI X g m r G σ H/\fin (f r) (fun o=>∀G' H',Grow X.K G H G' H'->Q o H') (XW X σ G H)
def SP1 (X:Cx) (g:GE) (m:List Md) (e:Option Expr) (f:FP):Prop:=PO X e (tP X g m f)
theorem PO.imp {X:Cx} {e:Option Expr} {t t':TO} (h:PO X e t) (i:∀σ H Q,t' σ H Q->t σ H Q):PO X e t':=fun pz s σ H Q I q=>h pz s σ H Q I (i σ H Q q)
def asI:D->Option Int
 | .int i=>some i
 | _=>none
def zhf (f:FE):FP:=fun r=>(f r).bind fun d=>(opt (asI d)).bind fun i=>.ok (some i)
theorem zhm:SP1 X g m none fun _=>.ok none:=PO.imp zqv fun σ H Q ⟨r,G,si,q⟩=>q G H (Grow.refl si.gok)
theorem zhl (h:SB X g m e f):SP1 X g m (some e) (zhf f):=by
 refine PO.imp (zqu h) fun σ H Q ⟨r,G,si,q⟩=>⟨r,G,si,zag (zai q) fun d q1 v G1 H1 w1 r1=>?_⟩
 obtain ⟨i,e,q2⟩:=zaB (zai q1)
 cases d with
 | int j=>cases e; exact ⟨_,r1.int w1.ok,q2 G1 H1 w1⟩
 | _=>cases e
def slD (d:D) (lo hi:Option Int):Option D:=match d with
 | .tup ds=>if HT.sIx ds.length 0 lo=0/\HT.sIx ds.length ds.length hi=ds.length then none else some (.tup (cutL ds lo hi))
 | .lst ds=>some (.lst (cutL ds lo hi))
 | _=>none
def fSl (fa:FE) (fl fh:FP):FE:=fun r=>(fa r).bind fun d=>(fl r).bind fun lo=>(fh r).bind fun hi=>opt (slD d lo hi)
theorem zrJ {R:V->Option Int->Option Int->Hp->Prop} {fl fh:FP} {r:Rho} {G:GH} {σ:L2.St} {H:Hp} {q:D->Prop} (si:SI X g m r G σ H) (h:fin (fSl fa fl fh r) q (XW X σ G H))
  (hk:∀d lo hi v G2 H2 d',Grow X.K G H G2 H2->RB X.K G2 H2 v d->slD d lo hi=some d'->q d'->R v lo hi H2) :
  tB X g m fa σ H fun x H1=>tP X g m fl σ H1 fun l H2=>tP X g m fh σ H2 fun u H3=>R x l u H3:=by
 refine ⟨r,G,si,zag (zai h) fun d h1 v G1 H1 w1 r1=>⟨r,G1,si.grow w1,zaZ (zai h1) w1 fun lo h2 G2 H2 w2=>⟨r,G2,(si.grow w1).grow w2,?_⟩⟩⟩
 refine zaZ (zai h2) (w1.trans w2) fun hi h3 G3 H3 w3=>?_
 obtain ⟨d',e,h4⟩:=zaB h3
 exact hk d lo hi v G3 H3 d' ((w1.trans w2).trans w3) ((r1.mono w2).mono w3) e h4
theorem zla {lo hi:Option Expr} {fl fh:FP} (he:SB X g m e f) (hl:SP1 X g m lo fl) (hu:SP1 X g m hi fh):SE X g m (.Subscript e (.Slice lo hi none p2) pos) (fSl f fl fh):=by
 refine PE.imp (zoe (SlR.or zp8 zrI) he hl hu) fun σ H Q ⟨r,G,si,q⟩=>?_
 refine zrJ si q fun d lo hi v G2 H2 d' w r1 e q2=>?_
 cases d with
 | tup ds=>
  obtain ⟨a,xs,rfl,s,r⟩:=r1.tup w.ok
  have e':(if HT.sIx ds.length 0 lo=0/\HT.sIx ds.length ds.length hi=ds.length then none else some (D.tup (cutL ds lo hi)))=some d':=e
  by_cases hw:HT.sIx ds.length 0 lo=0/\HT.sIx ds.length ds.length hi=ds.length
  ·rw [if_pos hw] at e'; cases e'
  rw [if_neg hw] at e'
  cases e'
  rw [<-Paired.length r] at hw
  refine .inr ⟨a,xs,rfl,s,hw,fun p hp=>?_⟩
  exact q2 _ _ _ (w.trans (Grow.newF w.ok hp (.tup (.inl zam) (ztv r lo hi)))) (.ref zaz)
 | lst ds=>
  cases e
  obtain ⟨a,xs,rfl,s,r⟩:=r1.lst w.ok
  exact .inl ⟨a,xs,rfl,s,fun p hp=>q2 _ _ _ (w.trans (Grow.newF w.ok hp (.lst (.inl zam) (ztv r lo hi)))) (.ref zaz)⟩
 | _=>cases e
end
inductive Out where
 | nx (r:Rho) | rt (d:D) | bk (r:Rho) | ct (r:Rho) | exc (x:D) (r:Rho) | stuck
abbrev FS:=Rho->Out
def Gle (G G':GH):Prop:=∀a d,G a=some d->G' a=some d
theorem Gle.refl (G:GH):Gle G G:=fun _ _ e=>e
theorem Gle.trans {G G1 G2:GH} (a:Gle G G1) (b:Gle G1 G2):Gle G G2:=fun x d e=>b x d (a x d e)
def forget (m:List Md) (r:Rho):Rho:=List.zipWith (fun md o=>if md=Md.sh then o else none) m r
def zev (m:List Md):List Md:=m.map fun _=>Md.sh
theorem zdw {m:List Md} {r:Rho} {i:Nat} {d:D} (h:(forget m r)[i]? = some (some d)):r[i]? = some (some d)/\m[i]? = some .sh:=by
 unfold forget at h
 rw [List.getElem?_zipWith] at h
 cases e1:m[i]? with
 | none=>rw [e1] at h; cases h
 | some md=>
  cases e2:r[i]? with
  | none=>rw [e1,e2] at h; cases h
  | some o=>
   rw [e1,e2] at h
   have h':(if md=Md.sh then o else none)=some d:=Option.some.inj h
   split at h'
   ·rename_i hm; subst hm; rw [h']; exact ⟨rfl,rfl⟩
   ·cases h'
section
variable {X:Cx} {g:GE} {m:List Md} {r:Rho} {G:GH} {st:L2.St} {H:Hp}
theorem SI.forget (s:SI X g m r G st H):SI X g (zev m) (forget m r) G st H where
 gok:=s.gok
 old:=s.old
 ge:=s.ge
 gf:=s.gf
 lm:=by rw [zev,List.length_map]; exact s.lm
 lr:=by rw [DL.forget,List.length_zipWith,s.lm,s.lr,Nat.min_self]
 sh:=fun i d h _=>s.sh i d (zdw h).1 (zdw h).2
 ow:=fun i d h hm=>by rw [zev,List.getElem?_map,(zdw h).2] at hm; cases hm
 bw:=fun i d h hm=>by rw [zev,List.getElem?_map,(zdw h).2] at hm; cases hm
 dis:=fun i j a d e _ h _ hm=>by rw [zev,List.getElem?_map,(zdw h).2] at hm; cases hm
 lk:=fun i o _ hm=>by rw [zev,List.getElem?_map] at hm; cases q:m[i]? <;> rw [q] at hm <;> cases hm
theorem SI.set (s:SI X g m r G st H) (i:Nat) {v:V} {d:D} (hv:RG X.K G v d):SI X g (m.set i .sh) (r.set i (some d)) G (st.set i (some v)) H where
 gok:=s.gok
 old:=s.old
 ge:=s.ge
 gf:=s.gf
 lm:=by simp [s.lm]
 lr:=by simp [s.lr]
 sh:=fun j e h hm=>by
  by_cases hij:i=j
  ·subst hij
   have hl:i < r.length:=by
    have:=(List.getElem?_eq_some_iff.mp h).1
    simpa using this
   rw [List.getElem?_set_self hl] at h
   cases h
   exact ⟨v,by rw [List.getElem?_set_self (by rw [<-s.lr]; exact hl)],hv⟩
  ·rw [List.getElem?_set_ne hij] at h hm
   rw [List.getElem?_set_ne hij]
   exact s.sh j e h hm
 ow:=fun j e h hm=>by
  by_cases hij:i=j
  ·subst hij
   have hl:i < m.length:=by
    have:=(List.getElem?_eq_some_iff.mp hm).1
    simpa using this
   rw [List.getElem?_set_self hl] at hm; cases hm
  ·rw [List.getElem?_set_ne hij] at h hm
   rw [List.getElem?_set_ne hij]
   exact s.ow j e h hm
 bw:=fun j e h hm=>by
  by_cases hij:i=j
  ·subst hij
   have hl:i < m.length:=by
    have:=(List.getElem?_eq_some_iff.mp hm).1
    simpa using this
   rw [List.getElem?_set_self hl] at hm; cases hm
  ·rw [List.getElem?_set_ne hij] at h hm
   rw [List.getElem?_set_ne hij]
   exact s.bw j e h hm
 dis:=fun j k a d1 d2 hjk h1 h2 hm hm' q1 q2=>by
  have hij:i≠j:=by
   rintro rfl
   have hl:i < m.length:=by
    have:=(List.getElem?_eq_some_iff.mp hm).1
    simpa using this
   rw [List.getElem?_set_self hl] at hm; cases hm
  have hik:i≠k:=by
   rintro rfl
   have hl:i < m.length:=by
    have:=(List.getElem?_eq_some_iff.mp h2).1
    rw [List.length_set,s.lr,<-s.lm] at this; exact this
   rw [List.getElem?_set_self hl] at hm'; cases hm'
  rw [List.getElem?_set_ne hij] at h1 hm q1
  rw [List.getElem?_set_ne hik] at h2 hm' q2
  exact s.dis j k a d1 d2 hjk h1 h2 hm hm' q1 q2
 lk:=fun j o hj hm=>by
  have hij:i≠j:=by
   rintro rfl
   have hl:i < m.length:=by
    have:=(List.getElem?_eq_some_iff.mp hm).1
    simpa using this
   rw [List.getElem?_set_self hl] at hm; cases hm
  rw [List.getElem?_set_ne hij] at hm
  have:=s.lk j o hj hm
  exact ⟨by rw [List.getElem?_set_ne hij]; exact this.1,fun d h=>this.2 d (by rw [List.getElem?_set_ne hij] at h; exact h)⟩
theorem SI.setO (s:SI X g m r G st H) (i:Nat) {a:Addr} {d:D} (ho:Own X.K G H a d) (h0:g.h0 a=none) (hx:∀(j:Nat) (b:Addr) (e:D),r[j]? = some (some e)->m[j]? = some Md.ow->st[j]? = some (some (V.ref b))->b≠a) :
  SI X g (m.set i .ow) (r.set i (some d)) G (st.set i (some (V.ref a))) H where
 gok:=s.gok
 old:=s.old
 ge:=s.ge
 gf:=s.gf
 lm:=by simp [s.lm]
 lr:=by simp [s.lr]
 sh:=fun j e h hm=>by
  by_cases hij:i=j
  ·subst hij
   have hl:i < m.length:=by
    have:=(List.getElem?_eq_some_iff.mp hm).1
    simpa using this
   rw [List.getElem?_set_self hl] at hm; cases hm
  ·rw [List.getElem?_set_ne hij] at h hm
   rw [List.getElem?_set_ne hij]
   exact s.sh j e h hm
 ow:=fun j e h hm=>by
  by_cases hij:i=j
  ·subst hij
   have hl:i < r.length:=by
    have:=(List.getElem?_eq_some_iff.mp h).1
    simpa using this
   rw [List.getElem?_set_self hl] at h
   cases h
   exact ⟨a,by rw [List.getElem?_set_self (by rw [<-s.lr]; exact hl)],ho,h0⟩
  ·rw [List.getElem?_set_ne hij] at h hm
   rw [List.getElem?_set_ne hij]
   exact s.ow j e h hm
 bw:=fun j e h hm=>by
  by_cases hij:i=j
  ·subst hij
   have hl:i < m.length:=by
    have:=(List.getElem?_eq_some_iff.mp hm).1
    simpa using this
   rw [List.getElem?_set_self hl] at hm; cases hm
  ·rw [List.getElem?_set_ne hij] at h hm
   rw [List.getElem?_set_ne hij]
   exact s.bw j e h hm
 dis:=fun j k b d1 d2 hjk h1 h2 hm hm' q1 q2=>by
  by_cases hij:i=j
  ·subst hij
   rw [List.getElem?_set_ne hjk] at h2 hm' q2
   have hl:i < st.length:=by
    have:=(List.getElem?_eq_some_iff.mp q1).1
    simpa using this
   rw [List.getElem?_set_self hl] at q1
   have e:a=b:=by injection q1 with q1; injection q1 with q1; injection q1
   exact hx k b d2 h2 hm' q2 e.symm
  ·by_cases hik:i=k
   ·subst hik
    rw [List.getElem?_set_ne hij] at h1 hm q1
    have hl:i < st.length:=by
     have:=(List.getElem?_eq_some_iff.mp q2).1
     simpa using this
    rw [List.getElem?_set_self hl] at q2
    have e:a=b:=by injection q2 with q2; injection q2 with q2; injection q2
    exact hx j b d1 h1 hm q1 e.symm
   ·rw [List.getElem?_set_ne hij] at h1 hm q1
    rw [List.getElem?_set_ne hik] at h2 hm' q2
    exact s.dis j k b d1 d2 hjk h1 h2 hm hm' q1 q2
 lk:=fun j o hj hm=>by
  have hij:i≠j:=by
   rintro rfl
   have hl:i < m.length:=by
    have:=(List.getElem?_eq_some_iff.mp hm).1
    simpa using this
   rw [List.getElem?_set_self hl] at hm; cases hm
  rw [List.getElem?_set_ne hij] at hm
  have:=s.lk j o hj hm
  exact ⟨by rw [List.getElem?_set_ne hij]; exact this.1,fun d h=>this.2 d (by rw [List.getElem?_set_ne hij] at h; exact h)⟩
theorem SI.other (s:SI X g m r G st H) {p:Addr} (hp:G p=none) (h0:g.h0 p=none) (hm:∀(i:Nat),m[i]?≠some Md.ow) (o:HO):SI X g m r G st (upd H p o) where
 gok:=fun b e h=>(s.gok b e h).mono (fun _ _ z=>z) fun o' q=>by rw [zaq (by rintro rfl; rw [hp] at h; cases h)]; exact q
 old:=fun b o' h=>by rw [zaq (by rintro rfl; rw [h0] at h; cases h)]; exact s.old b o' h
 ge:=s.ge
 gf:=s.gf
 lm:=s.lm
 lr:=s.lr
 sh:=s.sh
 ow:=fun i d _ h=>absurd h (hm i)
 bw:=fun i d h1 h2=>by
  obtain ⟨v,h3,h4⟩:=s.bw i d h1 h2
  refine ⟨v,h3,?_⟩
  rcases h4 with h4 | ⟨a,rfl,h4,h5⟩
  ·exact .inl h4
  ·have ha:a≠p:=by rintro rfl; exact h5 h0
   exact .inr ⟨a,rfl,⟨h4.un,h4.ob.mono (fun _ _ z=>z) fun o' z=>by rw [zaq ha]; exact z⟩,h5⟩
 dis:=fun i j a d e _ _ _ h=>absurd h (hm i)
 lk:=s.lk
theorem SI.less (s:SI X g m r G st H) {r':Rho} (hl:r'.length=r.length) (h:∀(i:Nat) d,r'[i]? = some (some d)->r[i]? = some (some d)):SI X g m r' G st H:=
 ⟨s.gok,s.old,s.ge,s.gf,s.lm,hl.trans s.lr,fun i d a b=>s.sh i d (h i d a) b,fun i d a b=>s.ow i d (h i d a) b,fun i d a b=>s.bw i d (h i d a) b,fun i j a d e n p q x y=>s.dis i j a d e n (h i d p) (h j e q) x y,fun i o hi hm=>by
  have:=s.lk i o hi hm
  exact ⟨this.1,fun d hd=>this.2 d (h i d hd)⟩⟩
theorem SI.held (s:SI X g m r G st H) {j:Nat} {b:Addr} {e:D} (h:r[j]? = some (some e)) (hm:m[j]? = some .ow) (hs:st[j]? = some (some (V.ref b))):H b≠none:=by
 obtain ⟨a,h1,h2,_⟩:=s.ow j e h hm
 rw [hs] at h1
 injection h1 with h1; injection h1 with h1; injection h1 with h1
 rw [h1]; exact h2.ob.isS
theorem SI.new (s:SI X g m r G st H) {a:Addr} (hn:H a=none):g.h0 a=none:=by
 cases q:g.h0 a with
 | none=>rfl
 | some o=>rw [s.old _ _ q] at hn; cases hn
theorem SI.setN (s:SI X g m r G st H) {G':GH} {H':Hp} (w:Grow X.K G H G' H') (i:Nat) {a:Addr} {d:D} (hn:H a=none) (ho:Own X.K G' H' a d):SI X g (m.set i .ow) (r.set i (some d)) G' (st.set i (some (V.ref a))) H':=by
 refine (s.grow w).setO i ho ?_ fun j b e h1 h2 h3=>?_
 ·cases q:g.h0 a with
  | none=>rfl
  | some o=>rw [s.old _ _ q] at hn; cases hn
 ·rintro rfl
  exact s.held h1 h2 h3 hn
theorem SI.mut (s:SI X g m r G st H) {i:Nat} {d:D} (hm:m[i]? = some .ow) (hd:r[i]? = some (some d)) :
  ∃a,st[i]? = some (some (V.ref a))/\Own X.K G H a d/\∀(o':HO) (d':D),OwnO X.K G (upd H a o') a d'->SI X g m (r.set i (some d')) G st (upd H a o'):=by
 obtain ⟨a,h1,h2,h3⟩:=s.ow i d hd hm
 have hl:i < r.length:=(List.getElem?_eq_some_iff.mp hd).1
 refine ⟨a,h1,h2,fun o' d' ob=>?_⟩
 have oth:∀(j:Nat) (b:Addr) (e:D),j≠i->r[j]? = some (some e)->m[j]? = some .ow->st[j]? = some (some (V.ref b))->b≠a:=fun j b e hj q1 q2 q3 z=>by
  subst z
  exact s.dis i j b d e (Ne.symm hj) hd q1 hm q2 h1 q3
 refine ⟨fun b e h=>?_,fun b o h=>?_,s.ge,s.gf,s.lm,by simp [s.lr],?_,?_,?_,?_,fun j o hj hm'=>?_⟩
 ·have hb:b≠a:=by rintro rfl; rw [h2.un] at h; cases h
  exact (s.gok b e h).mono (fun _ _ z=>z) fun o q=>by rw [zaq hb]; exact q
 ·have hb:b≠a:=by rintro rfl; rw [h3] at h; cases h
  rw [zaq hb]; exact s.old b o h
 ·intro j e h hm'
  have hij:i≠j:=by rintro rfl; rw [hm] at hm'; cases hm'
  rw [List.getElem?_set_ne hij] at h
  exact s.sh j e h hm'
 ·intro j e h hm'
  by_cases hij:i=j
  ·subst hij
   rw [List.getElem?_set_self hl] at h; cases h
   exact ⟨a,h1,⟨h2.un,ob⟩,h3⟩
  ·rw [List.getElem?_set_ne hij] at h
   obtain ⟨b,q1,q2,q3⟩:=s.ow j e h hm'
   have hb:=oth j b e (Ne.symm hij) h hm' q1
   exact ⟨b,q1,⟨q2.un,q2.ob.mono (fun _ _ z=>z) fun o z=>by rw [zaq hb]; exact z⟩,q3⟩
 ·intro j e h hm'
  have hij:i≠j:=by rintro rfl; rw [hm] at hm'; cases hm'
  rw [List.getElem?_set_ne hij] at h
  obtain ⟨v,q1,q2⟩:=s.bw j e h hm'
  refine ⟨v,q1,?_⟩
  rcases q2 with q2 | ⟨b,rfl,q2,q3⟩
  ·exact .inl q2
  ·have hb:b≠a:=by rintro rfl; exact q3 h3
   exact .inr ⟨b,rfl,⟨q2.un,q2.ob.mono (fun _ _ z=>z) fun o z=>by rw [zaq hb]; exact z⟩,q3⟩
 ·have bound:∀(j:Nat) e,(r.set i (some d'))[j]? = some (some e)->∃e',r[j]? = some (some e'):=fun j e h=>by
   by_cases hij:i=j
   ·subst hij; exact ⟨d,hd⟩
   ·rw [List.getElem?_set_ne hij] at h; exact ⟨e,h⟩
  intro j k b d1 d2 hjk q1 q2 p1 p2 z1 z2
  obtain ⟨e1,q1⟩:=bound j d1 q1
  obtain ⟨e2,q2⟩:=bound k d2 q2
  exact s.dis j k b e1 e2 hjk q1 q2 p1 p2 z1 z2
 ·have hij:i≠j:=by rintro rfl; rw [hm] at hm'; cases hm'
  have:=s.lk j o hj hm'
  exact ⟨this.1,fun d'' h=>this.2 d'' (by rw [List.getElem?_set_ne hij] at h; exact h)⟩
end
def RV (ro:Bool) (K:W.Frag) (H0:Hp) (G:GH) (H:Hp) (v:V) (d:D):Prop:=match ro with
 | false=>RG K G v d
 | true=>(∃a,v=.ref a/\H0 a=none/\Own K G H a d)\/(d=.non/\v=.non)
def oTo (X:Cx) (g:GE) (ro:Bool) (m' mb:List Md) (G:GH) (D:Ends):Out->Prop
 | .nx r'=>∀σ' G' H',Gle G G'->SI X g m' r' G' σ' H'->D.nx σ' H'
 | .rt d=>∀v G' H',Grow X.K g.gh g.h0 G' H'->RV ro X.K g.h0 G' H' v d->D.rt v H'
 | .bk r'=>∀σ' G' H',Gle G G'->SI X g mb r' G' σ' H'->D.bk σ' H'
 | .ct r'=>∀σ' G' H',Gle G G'->SI X g mb r' G' σ' H'->D.ct σ' H'
 | .exc x r'=>∀pz e s' σ' G' H',Gle G G'->SI X g (zev m') r' G' σ' H'->Inv X pz σ' H' s'->ExV X σ' G' H' e x s'->X.xe e s'
 | .stuck=>False
def tS (X:Cx) (g:GE) (ro:Bool) (m m' mb:List Md) (f:FS):TS:=fun D σ H=>∃r G,SI X g m r G σ H/\oTo X g ro m' mb G D (f r)
def SS (X:Cx) (g:GE) (ro:Bool) (mb m:List Md) (st:Stmt) (f:FS) (m':List Md):Prop:=m'.length=m.length/\PS X st (tS X g ro m m' mb f)
def SSs (X:Cx) (g:GE) (ro:Bool) (mb m:List Md) (st:List Stmt) (f:FS) (m':List Md):Prop:=m'.length=m.length/\PSs X st (tS X g ro m m' mb f)
theorem zfb {m m':List Md} (h:m'.length=m.length):zev m'=zev m:=by
 unfold zev
 rw [List.map_const',List.map_const',h]
theorem oTo.x {X:Cx} {g:GE} {ro:Bool} {m m' mb:List Md} {r:Rho} {G:GH} {D:Ends} {σ:L2.St} {H:Hp} {x:DL.D} (h:oTo X g ro m' mb G D (.exc x (forget m r))) (si:SI X g m r G σ H) (hl:m'.length=m.length):XW X σ G H x:=
 fun pz e s' G' H' w I ex=>h pz e s' σ G' H' w.ge (by rw [zfb hl]; exact (si.grow w).forget) I ex
section
variable {X:Cx} {g:GE} {ro:Bool} {m m' m1 mb:List Md} {e a b c tg:Expr} {f fa fb fc:FE} {p:FQ} {pos pos':Pos} {st:Stmt} {sts sts':List Stmt} {s1 s2:FS}
theorem oTo.gle {G G1:GH} {D:Ends} {o:Out} (h:oTo X g ro m' mb G D o) (w:Gle G G1):oTo X g ro m' mb G1 D o:=by
 cases o with
 | nx r'=>exact fun σ' G' H' q si=>h σ' G' H' (w.trans q) si
 | rt d=>exact h
 | bk r'=>exact fun σ' G' H' q si=>h σ' G' H' (w.trans q) si
 | ct r'=>exact fun σ' G' H' q si=>h σ' G' H' (w.trans q) si
 | exc x r'=>exact fun pz e s' σ' G' H' q=>h pz e s' σ' G' H' (w.trans q)
 | stuck=>exact h
def seqF (s1 s2:FS):FS:=fun r=>match s1 r with
 | .nx r'=>s2 r'
 | o=>o
def zak:FS:=fun r=>.nx r
theorem zaf:SSs X g ro mb m [] zak m:=⟨rfl,PSs.imp zms fun D σ H ⟨r,G,si,q⟩=>q σ G H (Gle.refl G) si⟩
theorem zaa (h1:SS X g ro mb m st s1 m1) (h2:SSs X g ro mb m1 sts s2 m'):SSs X g ro mb m (st::sts) (seqF s1 s2) m':=by
 refine ⟨h2.1.trans h1.1,PSs.imp (zf3 h1.2 h2.2) fun D σ H ⟨r,G,si,q⟩=>⟨r,G,si,?_⟩⟩
 unfold seqF at q
 cases e:s1 r with
 | nx r'=>
  rw [e] at q
  exact fun σ' G' H' w si'=>⟨r',G',si',oTo.gle q w⟩
 | rt d=>rw [e] at q; exact q
 | bk r'=>rw [e] at q; exact q
 | ct r'=>rw [e] at q; exact q
 | exc x r'=>rw [e] at q; exact fun pz e s' σ' G' H' w si'=>q pz e s' σ' G' H' w (by rw [zfb h2.1]; exact si')
 | stuck=>rw [e] at q; exact q
theorem zhR:SS X g ro mb m st (fun _=>.stuck) m:=⟨rfl,PS.imp zob fun D σ H ⟨r,G,si,q⟩=>q⟩
theorem znZ (i:Nat) (hi:m[i]? = some .ow) (h:SS X g ro mb (m.set i .sh) st s1 m'):SS X g ro mb m st s1 m':=by
 refine ⟨h.1.trans (by simp),fun pz s σ H D I ⟨r,G,si,q⟩=>?_⟩
 rcases si.frz i hi with ⟨G',le,si'⟩ | ⟨a,z⟩
 ·exact h.2 pz s σ H D I ⟨r,G',si',oTo.gle q le⟩
 ·obtain ⟨ob,I2⟩:=Inv.fast I a
  obtain ⟨G',le,si'⟩:=z ob
  exact h.2 pz s σ _ D I2 ⟨r,G',si',oTo.gle q le⟩
def onE {α:Type} (m:List Md) (r:Rho) (x:Res α) (k:α->Out):Out:=match x with
 | .ok a=>k a
 | .exc e=>.exc e (forget m r)
 | .stuck=>.stuck
@[simp] theorem onE_ok {α:Type} (m:List Md) (r:Rho) (a:α) (k:α->Out):onE m r (.ok a) k=k a:=rfl
theorem zb7 {α:Type} {x:Res α} {k:α->Out} {r:Rho} {G:GH} {D:Ends} {σ:L2.St} {H:Hp} (si:SI X g m r G σ H) (hl:m'.length=m.length) (h:oTo X g ro m' mb G D (onE m r x k)):fin x (fun a=>oTo X g ro m' mb G D (k a)) (XW X σ G H):=by
 cases x with
 | ok a=>exact h
 | exc e=>exact oTo.x h si hl
 | stuck=>exact h
def setF (m:List Md) (i:Nat) (f:FE):FS:=fun r=>onE m r (f r) fun d=>.nx (r.set i (some d))
theorem zbk (i:Nat) {x:Str} (hN:X.N.Nodup) (hi:X.N[i]? = some x) (hx:Loc X.env.scope x) (he:SE X g m e f) (hs:swapsWith e (some (.Name x pos')) pos.line X.env=pure false:=by rfl)
  (hf:X.fn x=true\/X.env.scope.names.lookup x=some .local:=by first | exact .inl rfl | exact .inr rfl | assumption):SS X g ro mb m (.Assign [.Name x pos'] e pos) (setF m i f) (m.set i .sh):=by
 have hl:(m.set i .sh).length=m.length:=by simp
 refine ⟨hl,PS.imp (zpl hN hi hx he hs hf) fun D σ H ⟨r,G,si,q⟩=>⟨r,G,si,?_⟩⟩
 exact zag (zb7 si hl q) fun d q v G' H' w rv=>q _ G' H' w.ge ((si.grow w).set i rv)
theorem zcN (i:Nat) {x:Str} (hN:X.N.Nodup) (hi:X.N[i]? = some x) (hx:Loc X.env.scope x) (he:SO X g m e f) (hs:swapsWith e (some (.Name x pos')) pos.line X.env=pure false:=by rfl)
  (hf:X.fn x=true\/X.env.scope.names.lookup x=some .local:=by first | exact .inl rfl | exact .inr rfl | assumption):SS X g ro mb m (.Assign [.Name x pos'] e pos) (setF m i f) (m.set i .ow):=by
 have hl:(m.set i .ow).length=m.length:=by simp
 refine ⟨hl,PS.imp (zpl hN hi hx he hs hf) fun D σ H ⟨r,G,si,q⟩=>⟨r,G,si,?_⟩⟩
 exact zag (zb7 si hl q) fun d q a G' H' w hn ho=>q _ G' H' w.ge (si.setN w i hn ho)
def znq (m:List Md) (f:FE):FS:=fun r=>onE m r (f r) fun _=>.nx r
theorem zpc (he:SE X g m e f) (hs:swapsWith e none pos.line X.env=pure false:=by rfl):SS X g ro mb m (.Expr e pos) (znq m f) m:=
 ⟨rfl,PS.imp (zmt he hs) fun D σ H ⟨r,G,si,q⟩=>⟨r,G,si,zag (zb7 si rfl q) fun d q v G' H' w _=>q σ G' H' w.ge (si.grow w)⟩⟩
def retF (m:List Md) (f:FE):FS:=fun r=>onE m r (f r) fun d=>.rt d
theorem zaV (he:SE X g m e f):SS X g false mb m (.Return (some e) pos) (retF m f) m:=
 ⟨rfl,PS.imp (zsc he) fun D σ H ⟨r,G,si,q⟩=>⟨r,G,si,zag (zb7 si rfl q) fun d q v G' H' w rv=>q v G' H' (si.grow w).grown rv⟩⟩
def ifF (m:List Md) (p:FQ) (s1 s2:FS):FS:=fun r=>onE m r (p r) fun c=>if c=true then s1 r else s2 r
theorem s_if (hc:SQ X g m c p) (h1:SSs X g ro mb m sts s1 m') (h2:SSs X g ro mb m sts' s2 m'):SS X g ro mb m (.If c sts sts' pos) (ifF m p s1 s2) m':=by
 refine ⟨h1.1,PS.imp (zt5 hc h1.2 h2.2) fun D σ H ⟨r,G,si,q⟩=>⟨r,G,si,zag (zb7 si h1.1 q) fun c q G' H' w=>?_⟩⟩
 cases c with
 | true=>rw [if_pos rfl] at q ⊢; exact ⟨r,G',si.grow w,oTo.gle q w.ge⟩
 | false=>rw [if_neg Bool.false_ne_true] at q ⊢; exact ⟨r,G',si.grow w,oTo.gle q w.ge⟩
theorem zgo (i:Nat) (h:SSs X g ro mb m sts s1 m') (hi:m'[i]? = some .ow):SSs X g ro mb m sts s1 (m'.set i .sh):=by
 refine ⟨by simp [h.1],fun pz s σ H D I ⟨r,G,si,q⟩=>?_⟩
 refine thn (h.2 pz s σ H ⟨fun σ' H'=>D.nx σ' H'\/∃a,∀ob,D.nx σ' (fz H' a ob),D.rt,D.bk,D.ct⟩ I ⟨r,G,si,?_⟩) fun f s' p=>?_
 ·cases e:s1 r with
  | nx r'=>
   rw [e] at q
   intro σ' G' H' w si'
   rcases si'.frz i hi with ⟨G2,le,si2⟩ | ⟨a,z⟩
   ·exact .inl (q σ' G2 H' (w.trans le) si2)
   ·refine .inr ⟨a,fun ob=>?_⟩
    obtain ⟨G2,le,si2⟩:=z ob
    exact q σ' G2 _ (w.trans le) si2
  | rt d=>rw [e] at q; exact q
  | bk r'=>rw [e] at q; exact q
  | ct r'=>rw [e] at q; exact q
  | exc x r'=>rw [e] at q; exact fun pz e s' σ' G' H' w si'=>q pz e s' σ' G' H' w (by rw [zfb (m:=m') (by simp)]; exact si')
  | stuck=>rw [e] at q; exact q
 ·cases f with
  | next=>
   obtain ⟨σ',H',I',z | ⟨a,z⟩⟩:=p
   ·exact ⟨σ',H',I',z⟩
   ·obtain ⟨ob,I2⟩:=Inv.fast I' a
    exact ⟨σ',_,I2,z ob⟩
  | brk=>exact p
  | cont=>exact p
  | ret u=>exact p
end
abbrev FT:=D->Rho->Option Rho
abbrev FTs:=List D->Rho->Option Rho
def tG (X:Cx) (g:GE) (m m':List Md) (ft:FT):TG:=fun v σ H Q=>∃r G d,SI X g m r G σ H/\RG X.K G v d/\∃r',ft d r=some r'/\∀σ',SI X g m' r' G σ' H->Q σ' H
def tGs (X:Cx) (g:GE) (m m':List Md) (ft:FTs):TGs:=fun vs σ H Q=>∃r G ds,SI X g m r G σ H/\RGs X.K G vs ds/\∃r',ft ds r=some r'/\∀σ',SI X g m' r' G σ' H->Q σ' H
theorem PG.imp {X:Cx} {e:Expr} {t t':TG} (h:PG X e t) (i:∀v σ H Q,t' v σ H Q->t v σ H Q):PG X e t':=fun pz s σ H v u Q I r q=>h pz s σ H v u Q I r (i v σ H Q q)
theorem PGs.imp {X:Cx} {e:List Expr} {t t':TGs} (h:PGs X e t) (i:∀v σ H Q,t' v σ H Q->t v σ H Q):PGs X e t':=fun pz s σ H v u Q I r q=>h pz s σ H v u Q I r (i v σ H Q q)
def SG (X:Cx) (g:GE) (m:List Md) (tg:Expr) (ft:FT) (m':List Md):Prop:=m'.length=m.length/\PG X tg (tG X g m m' ft)
structure SGs (X:Cx) (g:GE) (m:List Md) (ts:List Expr) (n:Nat) (ft:FTs) (m':List Md):Prop where
 ml:m'.length=m.length
 ln:∀ds r r',ft ds r=some r'->ds.length=n
 pg:PGs X ts (tGs X g m m' ft)
def ftN (i:Nat):FT:=fun d r=>some (r.set i (some d))
def ftT (ft:FTs):FT:=fun d r=>match d with
 | .tup ds=>ft ds r
 | .lst ds=>ft ds r
 | _=>none
def zi2:FTs:=fun ds r=>match ds with
 | []=>some r
 | _=>none
def zcQ (ft:FT) (fts:FTs):FTs:=fun ds r=>match ds with
 | []=>none
 | d::ds=>(ft d r).bind fun r'=>fts ds r'
section
variable {X:Cx} {g:GE} {m m' m1:List Md} {tg:Expr} {ts:List Expr} {ft:FT} {fts:FTs} {pos:Pos} {n:Nat}
theorem zau (i:Nat) {x:Str} (hN:X.N.Nodup) (hi:X.N[i]? = some x) (hx:Loc X.env.scope x) (hf:X.fn x=true\/X.env.scope.names.lookup x=some .local:=by first | exact .inl rfl | exact .inr rfl | assumption) :
  SG X g m (.Name x pos) (ftN i) (m.set i .sh):=
 ⟨by simp,PG.imp (zqx hN hi hx hf) fun v σ H Q ⟨r,G,d,si,rv,r',e,k⟩=>by cases e; exact k _ (si.set i rv)⟩
theorem zq6:SGs X g m [] 0 zi2 m:=by
 refine ⟨rfl,fun ds r r' e=>?_,PGs.imp zqw fun v σ H Q ⟨r,G,ds,si,rv,r',e,k⟩=>?_⟩
 ·cases ds with
  | nil=>rfl
  | cons _ _=>cases e
 ·cases rv with
  | nil=>cases e; exact ⟨rfl,k σ si⟩
  | cons _ _=>cases e
theorem zhx (h1:SG X g m tg ft m1) (h2:SGs X g m1 ts n fts m') (hs:(assignEach (tg::ts) X.env).map (·.2)=assign tg X.env::(assignEach ts X.env).map (·.2):=by rfl):SGs X g m (tg::ts) (n + 1) (zcQ ft fts) m':=by
 refine ⟨h2.ml.trans h1.1,fun ds r r' e=>?_,PGs.imp (zod h1.2 h2.pg hs) fun v σ H Q ⟨r,G,ds,si,rv,r',e,k⟩=>?_⟩
 ·cases ds with
  | nil=>cases e
  | cons d ds=>
   have e':((ft d r).bind fun r'=>fts ds r')=some r':=e
   cases q:ft d r with
   | none=>rw [q] at e'; cases e'
   | some r1=>
    rw [q] at e'
    have:=h2.ln ds r1 r' e'
    simp [this]
 ·cases rv with
  | nil=>cases e
  | @cons v0 d vs ds rv rs=>
   have e':((ft d r).bind fun r'=>fts ds r')=some r':=e
   cases q:ft d r with
   | none=>rw [q] at e'; cases e'
   | some r1=>
    rw [q] at e'
    exact ⟨_,_,rfl,r,G,d,si,rv,r1,q,fun σ' si'=>⟨r1,G,ds,si',rs,r',e',k⟩⟩
theorem zsd {k:Nat} {t:TGs} (hc:X.calm=true) (h:PGs X ts t) (hn:(assignEach ts X.env).length=n) (hst:(assignEach ts X.env).findIdx? (·.1)=none) :
  PG X (.Tuple ts k pos) (fun v σ H Q=>∃a xs,v=.ref a/\SqL X.K H a xs/\xs.length=n/\t xs σ H Q):=by
 intro pz s σ H v u Q I r hw
 obtain ⟨a,xs,e1,hq,hl,hw⟩:=hw
 subst e1
 cases r
 obtain ⟨its,rv,⟨o,nn,l1,l2,l3,l4⟩,hz⟩:=I.list hq
 rw [PyProof.Rows.assign_Tuple]
 refine wpAny_bind (wpAny_standAt ?_)
 unfold unpack
 rw [hst,show (assignEach ts X.env).length=its.toArray.size by simp [hn,<-hl,rv.length]]
 refine wpAny_bind (wpAny_holding (W.kun_itemsOf (I.ok.hd hc) ⟨o,l1,l2,nn,l4⟩ fun h' hx=>?_))
 have I1:Inv X pz σ H { s with heap:=h' }:=I.kept (t':=s.toks) fun b o e=>hx b o (Nat.ne_of_lt (Heap.lt_size e)) e
 exact h pz _ σ H xs _ Q I1 (by simpa using rv) hw
theorem PG.or {e:Expr} {t t':TG} (h:PG X e t) (h':PG X e t'):PG X e (fun v σ H Q=>t v σ H Q\/t' v σ H Q):=fun pz s σ H v u Q I r q=>q.elim (h pz s σ H v u Q I r) (h' pz s σ H v u Q I r)
theorem zq5 {k:Nat} (hc:X.calm=true) (h:SGs X g m ts n fts m') (hn:(assignEach ts X.env).length=n:=by rfl) (hst:(assignEach ts X.env).findIdx? (·.1)=none:=by rfl):SG X g m (.Tuple ts k pos) (ftT fts) m':=by
 refine ⟨h.ml,PG.imp (PG.or (zse hc h.pg hn hst) (zsd hc h.pg hn hst)) fun v σ H Q ⟨r,G,d,si,rv,r',e,k⟩=>?_⟩
 cases d with
 | tup ds=>
  obtain ⟨a,xs,rfl,s,rs⟩:=rv.tup si.gok
  exact .inl ⟨a,xs,rfl,s,(Paired.length rs).trans (h.ln ds r r' e),r,G,ds,si,rs,r',e,k⟩
 | lst ds=>
  obtain ⟨a,xs,rfl,s,rs⟩:=rv.lst si.gok
  exact .inr ⟨a,xs,rfl,s,(Paired.length rs).trans (h.ln ds r r' e),r,G,ds,si,rs,r',e,k⟩
 | _=>cases e
end
structure Yields (K:W.Frag) (J:It) (ds:List D) (G0:GH):Prop where
 go:∀G H (i:Nat),Gle G0 G->GOk K G H->i < ds.length->J.go i H
 yld:∀G H (i:Nat) x H' d,Gle G0 G->GOk K G H->J.yld i H x H'->ds[i]? = some d->∃G',Grow K G H G' H'/\RG K G' x d
 stop:∀G H,Gle G0 G->GOk K G H->J.stop ds.length H
abbrev FI:=Rho->Res (List D)
def tI (X:Cx) (g:GE) (m:List Md) (f:FI):TI:=fun σ H R=>∃r G,SI X g m r G σ H/\fin (f r) (fun ds=>∀J G' H',Grow X.K G H G' H'->Yields X.K J ds G'->R J H') (XW X σ G H)
def SIt (X:Cx) (g:GE) (m:List Md) (tg iter:Expr) (f:FI):Prop:=PI X tg iter (tI X g m f)
theorem PI.imp {X:Cx} {tg e:Expr} {t t':TI} (h:PI X tg e t) (i:∀σ H Q,t' σ H Q->t σ H Q):PI X tg e t':=fun pz s σ H R I q=>h pz s σ H R I (i σ H R q)
theorem zjn {K:W.Frag} {a:Addr} {ds:List D} {G0:GH} (h0:RG K G0 (.ref a) (.lst ds)):Yields K (Itl K a) ds G0:=by
 have at_:∀G H,Gle G0 G->GOk K G H->∃xs,SqL K H a xs/\RGs K G xs ds:=fun G H w gk=>by
  obtain ⟨b,xs,e,s,r⟩:=(h0.mono w).lst gk
  cases e
  exact ⟨xs,s,r⟩
 refine ⟨fun G H i w gk hi=>?_,fun G H i x H' d w gk y e=>?_,fun G H w gk=>?_⟩
 ·obtain ⟨xs,s,r⟩:=at_ G H w gk
  have hl:=Paired.length r
  exact ⟨xs,xs[i],s,List.getElem?_eq_getElem (by omega)⟩
 ·obtain ⟨xs,s,r⟩:=at_ G H w gk
  obtain ⟨rfl,y⟩:=y
  obtain ⟨v,e1,rv⟩:=Paired.get r e
  have:=y xs s
  rw [e1] at this; cases this
  exact ⟨G,Grow.refl gk,rv⟩
 ·obtain ⟨xs,s,r⟩:=at_ G H w gk
  exact ⟨xs,s,Nat.le_of_eq (Paired.length r)⟩
theorem zlQ {K:W.Frag} {a:Addr} {ds:List D} {G0:GH} (h0:RG K G0 (.ref a) (.tup ds)):Yields K (Itt K a) ds G0:=by
 have at_:∀G H,Gle G0 G->GOk K G H->∃xs,SqT K H a xs/\RGs K G xs ds:=fun G H w gk=>by
  obtain ⟨b,xs,e,s,r⟩:=(h0.mono w).tup gk
  cases e
  exact ⟨xs,s,r⟩
 refine ⟨fun G H i w gk hi=>?_,fun G H i x H' d w gk y e=>?_,fun G H w gk=>?_⟩
 ·obtain ⟨xs,s,r⟩:=at_ G H w gk
  have hl:=Paired.length r
  exact ⟨xs,xs[i],s,List.getElem?_eq_getElem (by omega)⟩
 ·obtain ⟨xs,s,r⟩:=at_ G H w gk
  obtain ⟨rfl,y⟩:=y
  obtain ⟨v,e1,rv⟩:=Paired.get r e
  have:=y xs s
  rw [e1] at this; cases this
  exact ⟨G,Grow.refl gk,rv⟩
 ·obtain ⟨xs,s,r⟩:=at_ G H w gk
  exact ⟨xs,s,Nat.le_of_eq (Paired.length r)⟩
def rngD (lo:Int) (n:Nat):List D:=(List.range n).map fun (i:Nat)=>D.int (lo + (i:Int))
theorem zrp {K:W.Frag} {lo:Int} {n:Nat} {G0:GH}:Yields K (Itr lo n) (rngD lo n) G0:=by
 have hl:(rngD lo n).length=n:=by simp [rngD]
 refine ⟨fun G H i w gk hi=>(by rw [hl] at hi; exact hi),fun G H i x H' d w gk y e=>?_,fun G H w gk=>(by rw [hl]; exact Nat.le_refl _)⟩
 obtain ⟨rfl,rfl⟩:=y
 have hi:i < n:=by
  have:=(List.getElem?_eq_some_iff.mp e).1
  rw [hl] at this; exact this
 unfold rngD at e
 rw [List.getElem?_map,List.getElem?_range hi] at e
 cases e
 exact ⟨G,Grow.refl gk,.scl (.int _)⟩
def za7:D->Option (List D)
 | .lst ds=>some ds
 | .tup ds=>some ds
 | _=>none
section
variable {X:Cx} {g:GE} {m m' m1 mb:List Md} {tg e a b c iter:Expr} {f fa fb:FE} {p:FQ} {pos pos':Pos} {ro:Bool} {fl:Rho->Res (List D)} {sts:List Stmt} {s1:FS}
def fSeq (k:D->Option (List D)) (f:FE):FI:=fun r=>(f r).bind fun d=>opt (k d)
theorem zmw {l:Expr} {tl:TE} (hl:PE X l tl):PI X tg l (fun σ H R=>tl σ H fun x H1=>(∃a,x=.ref a/\(∃xs,SqL X.K H1 a xs)/\R (Itl X.K a) H1)\/∃a,x=.ref a/\(∃xs,SqT X.K H1 a xs)/\R (Itt X.K a) H1):=by
 intro pz s σ H R I h
 refine thn (hl pz s σ H _ I h) fun v s1 ⟨x,H1,I1,r1,q1⟩=>?_
 rcases q1 with ⟨a,e,⟨xs,hq⟩,q⟩ | ⟨a,e,⟨xs,hq⟩,q⟩
 ·subst e
  cases r1
  obtain ⟨its,rv,p,hz⟩:=I1.list hq
  refine wpAny_pyIter_list p.isList ?_
  refine ⟨s1.heap.objs.size,[s1.heap.objs.size],_,_,H1,rfl,I1.kept (t':=s1.toks) fun b o e=>Heap.get?_push_of_some _ e,zlT a _,⟨_,Heap.get?_push_size _ rfl,rfl,rfl⟩,fun b hb=>?_,q⟩
  have e:b=s1.heap.objs.size:=by simpa using hb
  subst e
  exact I1.fpOk (Nat.le_refl _) (I1.hok.fresh (Nat.le_refl _))
 ·subst e
  cases r1
  obtain ⟨its,rv,p,hz⟩:=I1.tuple hq
  refine wpAny_pyIter_tuple (show s1.heap.IsTuple a its.toArray from p) ?_
  refine ⟨s1.heap.objs.size,[s1.heap.objs.size],_,_,H1,rfl,I1.kept (t':=s1.toks) fun b o e=>Heap.get?_push_of_some _ e,zk3 a _,⟨_,Heap.get?_push_size _ rfl,rfl,rfl⟩,fun b hb=>?_,q⟩
  have e:b=s1.heap.objs.size:=by simpa using hb
  subst e
  exact I1.fpOk (Nat.le_refl _) (I1.hok.fresh (Nat.le_refl _))
theorem zi1 (h:SE X g m e f):SIt X g m tg e (fSeq za7 f):=by
 refine PI.imp (zmw h) fun σ H R ⟨r,G,si,q⟩=>⟨r,G,si,zag (zai q) fun d q v G' H' w rv=>?_⟩
 obtain ⟨ds,e,q⟩:=zaB q
 cases d with
 | lst ds'=>
  cases e
  obtain ⟨a,xs,rfl,s,rs⟩:=rv.lst w.ok
  exact .inl ⟨a,rfl,⟨xs,s⟩,q _ G' H' w (zjn rv)⟩
 | tup ds'=>
  cases e
  obtain ⟨a,xs,rfl,s,rs⟩:=rv.tup w.ok
  exact .inr ⟨a,rfl,⟨xs,s⟩,q _ G' H' w (zlQ rv)⟩
 | _=>cases e
structure YieldsC (K:W.Frag) (J:It) (ds:List D) (G0:GH) (H0:Hp):Prop where
 go:∀G H (i:Nat),Grow K G0 H0 G H->i < ds.length->J.go i H
 yld:∀G H (i:Nat) x H' d,Grow K G0 H0 G H->J.yld i H x H'->ds[i]? = some d->∃G',Grow K G H G' H'/\RG K G' x d
 stop:∀G H,Grow K G0 H0 G H->J.stop ds.length H
theorem Yields.toC {K:W.Frag} {J:It} {ds:List D} {G0:GH} {H0:Hp} (y:Yields K J ds G0):YieldsC K J ds G0 H0:=
 ⟨fun G H i w hi=>y.go G H i w.ge w.ok hi,fun G H i x H' d w q e=>y.yld G H i x H' d w.ge w.ok q e,fun G H w=>y.stop G H w.ge w.ok⟩
def tIC (X:Cx) (g:GE) (m:List Md) (f:FI):TI:=fun σ H R=>∃r G,SI X g m r G σ H/\fin (f r) (fun ds=>∀J G' H',Grow X.K G H G' H'->YieldsC X.K J ds G' H'->R J H') (XW X σ G H)
def SItC (X:Cx) (g:GE) (m:List Md) (tg iter:Expr) (f:FI):Prop:=PI X tg iter (tIC X g m f)
theorem SIt.toC {fi:FI} (h:SIt X g m tg iter fi):SItC X g m tg iter fi:=PI.imp h fun σ H R ⟨r,G,si,q⟩=>⟨r,G,si,zag q fun ds k J G' H' w y=>k J G' H' w y.toC⟩
theorem zrq {K:W.Frag} {a:Addr} {ds:List D} {G0:GH} {H0:Hp} (o:Own K G0 H0 a (.lst ds)):YieldsC K (Itl K a) ds G0 H0:=by
 have at_:∀G H,Grow K G0 H0 G H->∃xs,SqL K H a xs/\RGs K G xs ds:=fun G H w=>by
  cases (o.mono w).ob with
  | lst r s=>exact ⟨_,SqL.of r,s⟩
 refine ⟨fun G H i w hi=>?_,fun G H i x H' d w y e=>?_,fun G H w=>?_⟩
 ·obtain ⟨xs,s,r⟩:=at_ G H w
  have hl:=Paired.length r
  exact ⟨xs,xs[i],s,List.getElem?_eq_getElem (by omega)⟩
 ·obtain ⟨xs,s,r⟩:=at_ G H w
  obtain ⟨rfl,y⟩:=y
  obtain ⟨v,e1,rv⟩:=Paired.get r e
  have:=y xs s
  rw [e1] at this; cases this
  exact ⟨G,Grow.refl w.ok,rv⟩
 ·obtain ⟨xs,s,r⟩:=at_ G H w
  exact ⟨xs,s,Nat.le_of_eq (Paired.length r)⟩
theorem zco (h:SB X g m e f):SItC X g m tg e (fSeq za7 f):=by
 refine PI.imp (zmw h) fun σ H R ⟨r,G,si,q⟩=>⟨r,G,si,zag (zai q) fun d q v G' H' w rv=>?_⟩
 obtain ⟨ds,e,q⟩:=zaB q
 cases d with
 | lst ds'=>
  cases e
  rcases rv with rv | ⟨a,rfl,o⟩
  ·obtain ⟨a,xs,rfl,s,rs⟩:=rv.lst w.ok
   exact .inl ⟨a,rfl,⟨xs,s⟩,q _ G' H' w (zjn rv).toC⟩
  ·cases o.ob with
   | lst r s=>exact .inl ⟨a,rfl,⟨_,SqL.of r⟩,q _ G' H' w (zrq o)⟩
 | tup ds'=>
  cases e
  rcases rv with rv | ⟨a,rfl,o⟩
  ·obtain ⟨a,xs,rfl,s,rs⟩:=rv.tup w.ok
   exact .inr ⟨a,rfl,⟨xs,s⟩,q _ G' H' w (zlQ rv).toC⟩
  ·cases o.ob
 | _=>cases e
def rng1:List D->Option (List D)
 | [.int j]=>if -(2 ^ 62)<=j/\j < 2 ^ 62 then some (rngD 0 j.toNat) else none
 | _=>none
def fRng (k:List D->Option (List D)) (fl:Rho->Res (List D)):FI:=fun r=>(fl r).bind fun ds=>opt (k ds)
theorem zbS {pn:Pos} (hg:Gl X "range") (hm:X.mg "range" = none) (ha:SAB X g m [a] fl) (hs:starEach [a] X.env=[(false,eval a X.env)]:=by rfl):SIt X g m tg (.Call (.Name "range" pn) [a] [] pos) (fRng rng1 fl):=by
 refine PI.imp (zmx hg hm ha hs) fun σ H R ⟨r,G,si,q⟩=>⟨r,G,si,zag (zai q) fun ds q vs G' H' w rs=>?_⟩
 obtain ⟨zs,e,q⟩:=zaB q
 unfold rng1 at e
 split at e
 ·split at e
  ·rename_i j hj
   cases e
   cases rs with
   | cons r1 t=>cases t; exact ⟨j,by rw [r1.int w.ok],hj.1,hj.2,q _ G' H' w zrp⟩
  ·cases e
 ·cases e
def forF (ft:FT) (body:FS):List D->FS
 | [],r=>.nx r
 | d::ds,r=>match ft d r with
  | none=>.stuck
  | some r1=>match body r1 with
   | .nx r'=>forF ft body ds r'
   | .ct r'=>forF ft body ds r'
   | .bk r'=>.nx r'
   | o=>o
def zch (m:List Md) (fi:FI) (ft:FT) (body:FS):FS:=fun r=>onE m r (fi r) fun ds=>forF ft body ds r
theorem zfk (hp:PassesOwn (model X.prog X.w) X.A X.env X.xe) (hc:X.calm=true) {ft:FT} {fi:FI} (hi:SIt X g m tg iter fi) (hg:SG X g m tg ft m) (hb:SSs X g ro m m sts s1 m)
  (hs:∀x,foldedSetIterable iter X.env x=pure x:=by intro _; rfl):SS X g ro mb m (.For tg iter sts [] pos) (zch m fi ft s1) m:=by
 refine ⟨rfl,PS.imp (zkp hp hc hi hg.2 hb.2 hs) fun D σ H ⟨r,G,si,q⟩=>⟨r,G,si,zag (zb7 si rfl q) fun ds q J G0 H0 w0 Y=>?_⟩⟩
 refine ⟨fun i n σ H=>∃r G,SI X g m r G σ H/\Gle G0 G/\i<=ds.length/\n=ds.length - i/\oTo X g ro m mb G D (forF ft s1 (ds.drop i) r),⟨ds.length,r,G0,si.grow w0,Gle.refl G0,Nat.zero_le _,rfl,oTo.gle q w0.ge⟩,?_⟩
 rintro i n σ1 H1 ⟨r1,G1,si1,le1,hi,rfl,q1⟩
 by_cases hlt:i < ds.length
 ·have hd:ds.drop i=ds[i]::ds.drop (i + 1):=List.drop_eq_getElem_cons hlt
  rw [hd] at q1
  unfold forF at q1
  refine .inr ⟨Y.go G1 H1 i le1 si1.gok hlt,fun σ' H'=>∃r G,SI X g m r G σ' H'/\Gle G0 G/\oTo X g ro m mb G D (forF ft s1 (ds.drop (i + 1)) r),fun σ' H' ⟨r',G',si',le',q'⟩=>⟨ds.length - (i + 1),by omega,r',G',si',le',hlt,rfl,q'⟩,fun x H' y=>?_⟩
  obtain ⟨G',w',rv⟩:=Y.yld G1 H1 i x H' ds[i] le1 si1.gok y (List.getElem?_eq_getElem hlt)
  have le':Gle G0 G':=le1.trans w'.ge
  cases eft:ft ds[i] r1 with
  | none=>simp only [eft] at q1; exact q1.elim
  | some r2=>
   simp only [eft] at q1
   refine ⟨r1,G',ds[i],si1.grow w',rv,r2,eft,fun σ2 si2=>⟨r2,G',si2,?_⟩⟩
   cases eb:s1 r2 with
   | nx r'=>simp only [eb] at q1; exact fun σ3 G3 H3 le3 si3=>⟨r',G3,si3,le'.trans le3,oTo.gle q1 (Gle.trans w'.ge le3)⟩
   | ct r'=>simp only [eb] at q1; exact fun σ3 G3 H3 le3 si3=>⟨r',G3,si3,le'.trans le3,oTo.gle q1 (Gle.trans w'.ge le3)⟩
   | bk r'=>simp only [eb] at q1; exact fun σ3 G3 H3 le3 si3=>q1 σ3 G3 H3 (Gle.trans w'.ge le3) si3
   | rt d=>simp only [eb] at q1; exact q1
   | exc x r'=>simp only [eb] at q1; exact fun pz e s' σ3 G3 H3 le3=>q1 pz e s' σ3 G3 H3 (Gle.trans w'.ge le3)
   | stuck=>simp only [eb] at q1; exact q1
 ·have e:i=ds.length:=by omega
  subst e
  rw [List.drop_length] at q1
  exact .inl ⟨Y.stop G1 H1 le1 si1.gok,q1 σ1 G1 H1 (Gle.refl _) si1⟩
def zbR (m:List Md):List Md:=m.map fun x=>if x=Md.sh then Md.sh else Md.bw
def zjL (m:List Md) (r:Rho) (st:L2.St) (G:GH) (H:Hp):GE:=⟨G,H,fun i=>if m[i]? = some Md.ow\/m[i]? = some Md.bw then some ((st[i]?).join,(r[i]?).join) else none⟩
theorem zec {m:List Md} {i:Nat} {x:Md} (h:m[i]? = some x):(zbR m)[i]? = some (if x=Md.sh then Md.sh else Md.bw):=by
 unfold zbR; rw [List.getElem?_map,h]; rfl
theorem zoz {m:List Md} {i:Nat} (h:(zbR m)[i]? = some Md.sh):m[i]? = some Md.sh:=by
 cases q:m[i]? with
 | none=>unfold zbR at h; rw [List.getElem?_map,q] at h; cases h
 | some x=>
  rw [zec q] at h
  cases x <;> first | rfl | (simp at h)
theorem zkC {m:List Md} {i:Nat} (h:(zbR m)[i]? = some Md.ow):False:=by
 cases q:m[i]? with
 | none=>unfold zbR at h; rw [List.getElem?_map,q] at h; cases h
 | some x=>
  rw [zec q] at h
  cases x <;> simp at h
theorem lockM_bw {m:List Md} {i:Nat} (h:(zbR m)[i]? = some Md.bw):m[i]? = some Md.ow\/m[i]? = some Md.bw:=by
 cases q:m[i]? with
 | none=>unfold zbR at h; rw [List.getElem?_map,q] at h; cases h
 | some x=>
  rw [zec q] at h
  cases x with
  | sh=>simp at h
  | ow=>exact .inl rfl
  | bw=>exact .inr rfl
theorem SI.lock {r:Rho} {G:GH} {st:L2.St} {H:Hp} (s:SI X g m r G st H):SI X (zjL m r st G H) (zbR m) r G st H where
 gok:=s.gok
 old:=fun _ _ e=>e
 ge:=fun _ _ e=>e
 gf:=fun _ _=>rfl
 lm:=by unfold zbR; rw [List.length_map]; exact s.lm
 lr:=s.lr
 sh:=fun i d h hm=>s.sh i d h (zoz hm)
 ow:=fun i d h hm=>(zkC hm).elim
 bw:=fun i d h hm=>by
  rcases lockM_bw hm with z | z
  ·obtain ⟨a,h1,h2,_⟩:=s.ow i d h z
   exact ⟨_,h1,.inr ⟨a,rfl,h2,h2.ob.isS⟩⟩
  ·obtain ⟨v,h1,h2⟩:=s.bw i d h z
   refine ⟨v,h1,?_⟩
   rcases h2 with h2 | ⟨a,e,h2,_⟩
   ·exact .inl h2
   ·exact .inr ⟨a,e,h2,h2.ob.isS⟩
 dis:=fun i j a d e _ _ _ hm=>(zkC hm).elim
 lk:=fun i o h hm=>by
  have h':(if m[i]? = some Md.ow\/m[i]? = some Md.bw then some ((st[i]?).join,(r[i]?).join) else none)=some o:=h
  rw [if_pos (lockM_bw hm)] at h'
  cases h'
  have hi:i < st.length:=by
   have:=(List.getElem?_eq_some_iff.mp hm).1
   unfold zbR at this
   rw [List.length_map,s.lm] at this; exact this
  refine ⟨?_,fun d hd=>by rw [hd]; rfl⟩
  rw [List.getElem?_eq_getElem hi]; rfl
theorem SI.unlock {r r':Rho} {G G':GH} {st st':L2.St} {H H':Hp} (s:SI X g m r G st H) (s':SI X (zjL m r st G H) (zbR m) r' G' st' H'):SI X g m r' G' st' H':=by
 have w:Grow X.K G H G' H':=s'.grown
 have hlk:∀(i:Nat),(m[i]? = some Md.ow\/m[i]? = some Md.bw)->st'[i]? = some (st[i]?).join/\∀d,r'[i]? = some (some d)->r[i]? = some (some d):=fun i hi=>by
  have hm:(zbR m)[i]? = some Md.bw:=by
   rcases hi with z | z <;> rw [zec z] <;> simp
  obtain ⟨h1,h2⟩:=s'.lk i ((st[i]?).join,(r[i]?).join) (if_pos hi) hm
  refine ⟨h1,fun d hd=>?_⟩
  have:=h2 d hd
  cases q:r[i]? with
  | none=>rw [q] at this; cases this
  | some o=>rw [q] at this; rw [show o=some d from this]
 have hst:∀(i:Nat) v,(m[i]? = some Md.ow\/m[i]? = some Md.bw)->st[i]? = some (some v)->st'[i]? = some (some v):=fun i v hi h=>by
  rw [(hlk i hi).1,h]; rfl
 refine ⟨s'.gok,fun a o e=>s'.old a o (s.old a o e),fun a d e=>s'.ge a d (s.ge a d e),fun a h=>?_,?_,s'.lr,fun i d h hm=>?_,fun i d h hm=>?_,fun i d h hm=>?_,fun i j a d e hij h1 h2 m1 m2 q1 q2=>?_,fun i o hi hm=>?_⟩
 ·have h1:H a≠none:=by
   cases e:g.h0 a with
   | none=>exact absurd e h
   | some o=>rw [s.old _ _ e]; simp
  rw [w.gf a h1,s.gf a h]
 ·have:=s'.lm
  unfold zbR at this
  rw [List.length_map] at this; exact this
 ·exact s'.sh i d h (by rw [zec hm]; simp)
 ·obtain ⟨a,h1,h2,h3⟩:=s.ow i d ((hlk i (.inl hm)).2 d h) hm
  exact ⟨a,hst i _ (.inl hm) h1,h2.mono w,h3⟩
 ·obtain ⟨v,h1,h2⟩:=s.bw i d ((hlk i (.inr hm)).2 d h) hm
  exact ⟨v,hst i _ (.inr hm) h1,h2.grow w⟩
 ·have e1:=(hlk i (.inl m1)).2 d h1
  have e2:=(hlk j (.inl m2)).2 e h2
  obtain ⟨b,z1,_,_⟩:=s.ow i d e1 m1
  obtain ⟨c,z2,_,_⟩:=s.ow j e e2 m2
  have y1:=hst i _ (.inl m1) z1
  have y2:=hst j _ (.inl m2) z2
  rw [q1] at y1
  rw [q2] at y2
  cases y1
  cases y2
  exact s.dis i j a d e hij e1 e2 m1 m2 z1 z2
 ·obtain ⟨h1,h2⟩:=s.lk i o hi hm
  refine ⟨?_,fun d hd=>h2 d ((hlk i (.inr hm)).2 d hd)⟩
  rw [(hlk i (.inr hm)).1,h1]; rfl
theorem SI.unlockX {r r':Rho} {G G':GH} {st st':L2.St} {H H':Hp} (s:SI X g m r G st H) (s':SI X (zjL m r st G H) (zev (zbR m)) r' G' st' H'):SI X g (zev m) r' G' st' H':=by
 have w:Grow X.K G H G' H':=s'.grown
 have el:zev (zbR m)=zev m:=zfb (by unfold zbR; rw [List.length_map])
 rw [el] at s'
 have no:∀{i:Nat} {x:Md},(zev m)[i]? = some x->x=Md.sh:=fun {i x} h=>by
  unfold zev at h
  rw [List.getElem?_map] at h
  cases q:m[i]? with
  | none=>rw [q] at h; cases h
  | some y=>rw [q] at h; cases h; rfl
 refine ⟨s'.gok,fun a o e=>s'.old a o (s.old a o e),fun a d e=>s'.ge a d (s.ge a d e),fun a h=>?_,s'.lm,s'.lr,s'.sh,fun i d h hm=>(nomatch (no hm)),fun i d h hm=>(nomatch (no hm)),fun i j a d e hij h1 h2 m1 m2=>(nomatch (no m1)),fun i o hi hm=>(nomatch (no hm))⟩
 have h1:H a≠none:=by
  cases e:g.h0 a with
  | none=>exact absurd e h
  | some o=>rw [s.old _ _ e]; simp
 rw [w.gf a h1,s.gf a h]
theorem ziv (hp:PassesOwn (model X.prog X.w) X.A X.env X.xe) (hc:X.calm=true) {ft:FT} {fi:FI} (hi:SItC X g m tg iter fi) (hg:∀g',SG X g' (zbR m) tg ft (zbR m)) (hb:∀g',SSs X g' ro (zbR m) (zbR m) sts s1 (zbR m))
  (hs:∀x,foldedSetIterable iter X.env x=pure x:=by intro _; rfl):SS X g ro mb m (.For tg iter sts [] pos) (zch m fi ft s1) m:=by
 have hgA:PG X tg (fun v σ H Q=>∃g',tG X g' (zbR m) (zbR m) ft v σ H Q):=fun pz s σ H v u Q I r ⟨g',q⟩=>(hg g').2 pz s σ H v u Q I r q
 have hbA:PSs X sts (fun D σ H=>∃g',tS X g' ro (zbR m) (zbR m) (zbR m) s1 D σ H):=fun pz s σ H D I ⟨g',q⟩=>(hb g').2 pz s σ H D I q
 refine ⟨rfl,PS.imp (zkp hp hc hi hgA hbA hs) fun D σ H ⟨r,G,si,q⟩=>⟨r,G,si,zag (zb7 si rfl q) fun ds q J G0 H0 w0 Y=>?_⟩⟩
 have si0:=si.grow w0
 refine ⟨fun i n σ1 H1=>∃r1 G1,SI X (zjL m r σ G0 H0) (zbR m) r1 G1 σ1 H1/\i<=ds.length/\n=ds.length - i/\oTo X g ro m mb G1 D (forF ft s1 (ds.drop i) r1),⟨ds.length,r,G0,si0.lock,Nat.zero_le _,rfl,oTo.gle q w0.ge⟩,?_⟩
 rintro i n σ1 H1 ⟨r1,G1,si1,hi,rfl,q1⟩
 have wg:Grow X.K G0 H0 G1 H1:=si1.grown
 by_cases hlt:i < ds.length
 ·have hd:ds.drop i=ds[i]::ds.drop (i + 1):=List.drop_eq_getElem_cons hlt
  rw [hd] at q1
  unfold forF at q1
  refine .inr ⟨Y.go G1 H1 i wg hlt,fun σ' H'=>∃r' G',SI X (zjL m r σ G0 H0) (zbR m) r' G' σ' H'/\oTo X g ro m mb G' D (forF ft s1 (ds.drop (i + 1)) r'),fun σ' H' ⟨r',G',si',q'⟩=>⟨ds.length - (i + 1),by omega,r',G',si',hlt,rfl,q'⟩,fun x H' y=>?_⟩
  obtain ⟨G',w',rv⟩:=Y.yld G1 H1 i x H' ds[i] wg y (List.getElem?_eq_getElem hlt)
  cases eft:ft ds[i] r1 with
  | none=>simp only [eft] at q1; exact q1.elim
  | some r2=>
   simp only [eft] at q1
   refine ⟨zjL m r σ G0 H0,r1,G',ds[i],si1.grow w',rv,r2,eft,fun σ2 si2=>⟨zjL m r σ G0 H0,r2,G',si2,?_⟩⟩
   cases eb:s1 r2 with
   | nx r'=>simp only [eb] at q1; exact fun σ3 G3 H3 le3 si3=>⟨r',G3,si3,oTo.gle q1 (Gle.trans w'.ge le3)⟩
   | ct r'=>simp only [eb] at q1; exact fun σ3 G3 H3 le3 si3=>⟨r',G3,si3,oTo.gle q1 (Gle.trans w'.ge le3)⟩
   | bk r'=>simp only [eb] at q1; exact fun σ3 G3 H3 le3 si3=>q1 σ3 G3 H3 (Gle.trans w'.ge le3) (si0.unlock si3)
   | rt d=>
    simp only [eb] at q1
    intro v G2 H2 wr rv2
    refine q1 v G2 H2 (si0.grown.trans wr) ?_
    cases ro with
    | false=>exact rv2
    | true=>
     rcases rv2 with ⟨a,e1,e2,e3⟩ | z
     ·exact .inl ⟨a,e1,si0.grown.back e2,e3⟩
     ·exact .inr z
   | exc x r'=>simp only [eb] at q1; exact fun pz e s' σ3 G3 H3 le3 si3=>q1 pz e s' σ3 G3 H3 (Gle.trans w'.ge le3) (si0.unlockX si3)
   | stuck=>simp only [eb] at q1; exact q1
 ·have e:i=ds.length:=by omega
  subst e
  rw [List.drop_length] at q1
  exact .inl ⟨Y.stop G1 H1 wg,q1 σ1 G1 H1 (Gle.refl _) (si0.unlock si1)⟩
def za9 (m:List Md) (p:FQ) (body:FS):Nat->FS
 | 0,_=>.stuck
 | n + 1,r=>onE m r (p r) fun c=>if c=true then (match body r with
   | .nx r'=>za9 m p body n r'
   | .ct r'=>za9 m p body n r'
   | .bk r'=>.nx r'
   | o=>o) else .nx r
theorem zfj (n:Nat) (hp:PassesOwn (model X.prog X.w) X.A X.env X.xe) (hc:SQ X g m c p) (hb:SSs X g ro m m sts s1 m):SS X g ro mb m (.While c sts [] pos) (za9 m p s1 n) m:=by
 refine ⟨rfl,PS.imp (zoa hp hc hb.2) fun D σ H ⟨r,G,si,q⟩=>?_⟩
 refine ⟨fun n σ H=>∃r G,SI X g m r G σ H/\oTo X g ro m mb G D (za9 m p s1 n r),⟨n,r,G,si,q⟩,?_⟩
 rintro n σ1 H1 ⟨r1,G1,si1,q1⟩
 cases n with
 | zero=>exact q1.elim
 | succ n=>
  unfold za9 at q1
  refine ⟨r1,G1,si1,zag (zb7 si1 rfl q1) fun c q2 G2 H2 w2=>?_⟩
  cases c with
  | false=>rw [if_neg Bool.false_ne_true] at q2 ⊢; exact q2 σ1 G2 H2 w2.ge (si1.grow w2)
  | true=>
   rw [if_pos rfl] at q2 ⊢
   refine ⟨fun σ' H'=>∃r G,SI X g m r G σ' H'/\oTo X g ro m mb G D (za9 m p s1 n r),fun σ' H' h=>⟨n,Nat.lt_succ_self _,h⟩,r1,G2,si1.grow w2,?_⟩
   cases eb:s1 r1 with
   | nx r'=>simp only [eb] at q2; exact fun σ3 G3 H3 le3 si3=>⟨r',G3,si3,oTo.gle q2 (Gle.trans w2.ge le3)⟩
   | ct r'=>simp only [eb] at q2; exact fun σ3 G3 H3 le3 si3=>⟨r',G3,si3,oTo.gle q2 (Gle.trans w2.ge le3)⟩
   | bk r'=>simp only [eb] at q2; exact fun σ3 G3 H3 le3 si3=>q2 σ3 G3 H3 (Gle.trans w2.ge le3) si3
   | rt d=>simp only [eb] at q2; exact q2
   | exc x r'=>simp only [eb] at q2; exact fun pz e s' σ3 G3 H3 le3=>q2 pz e s' σ3 G3 H3 (Gle.trans w2.ge le3)
   | stuck=>simp only [eb] at q2; exact q2
end
def noX:Res D->Res D
 | .ok d=>.ok d
 | _=>.stuck
@[simp] theorem noX_ok (d:D):noX (.ok d)=.ok d:=rfl
inductive ArgsOk (K:W.Frag) (G:GH) (H:Hp):List Md->List V->List D->Prop where
 | nil:ArgsOk K G H [] [] []
 | sh {v:V} {d:D} {ms:List Md} {vs:List V} {ds:List D}:RG K G v d->ArgsOk K G H ms vs ds->ArgsOk K G H (.sh::ms) (v::vs) (d::ds)
 | bw {v:V} {d:D} {ms:List Md} {vs:List V} {ds:List D}:RB K G H v d->ArgsOk K G H ms vs ds->ArgsOk K G H (.bw::ms) (v::vs) (d::ds)
section
variable {K:W.Frag} {G G':GH} {H H':Hp}
theorem ArgsOk.mono:∀{ms:List Md} {vs:List V} {ds:List D},ArgsOk K G H ms vs ds->Grow K G H G' H'->ArgsOk K G' H' ms vs ds
 | _,_,_,.nil,_=>.nil
 | _,_,_,.sh h t,w=>.sh (h.mono w.ge) (t.mono w)
 | _,_,_,.bw h t,w=>.bw (h.mono w) (t.mono w)
theorem ArgsOk.len {ms:List Md} {vs:List V} {ds:List D} (h:ArgsOk K G H ms vs ds):vs.length=ms.length/\ds.length=ms.length:=by
 induction h with
 | nil=>exact ⟨rfl,rfl⟩
 | sh h t ih=>exact ⟨congrArg (· + 1) ih.1,congrArg (· + 1) ih.2⟩
 | bw h t ih=>exact ⟨congrArg (· + 1) ih.1,congrArg (· + 1) ih.2⟩
theorem ArgsOk.app {dvs:List V} {dds:List D} (hs:Paired Scl dvs dds):∀{ms:List Md} {vs:List V} {ds:List D},ArgsOk K G H ms vs ds->ArgsOk K G H (ms++List.replicate dds.length .sh) (vs++dvs) (ds++dds)
 | _,_,_,.nil=>by
  induction hs with
  | nil=>exact .nil
  | cons h t ih=>exact .sh (.scl h) ih
 | _,_,_,.sh h t=>.sh h (t.app hs)
 | _,_,_,.bw h t=>.bw h (t.app hs)
theorem ArgsOk.get:∀{ms:List Md} {vs:List V} {ds:List D} {i:Nat} {d:D},ArgsOk K G H ms vs ds->ds[i]? = some d->∃v,vs[i]? = some v/\((ms[i]? = some .sh/\RG K G v d)\/(ms[i]? = some .bw/\RB K G H v d))
 | _,_,_,_,_,.nil,e=>by simp at e
 | _,_,_,0,_,.sh h t,e=>by simp at e; subst e; exact ⟨_,rfl,.inl ⟨rfl,h⟩⟩
 | _,_,_,0,_,.bw h t,e=>by simp at e; subst e; exact ⟨_,rfl,.inr ⟨rfl,h⟩⟩
 | _,_,_,i + 1,d,.sh h t,e=>by
  obtain ⟨v,h1,h2⟩:=t.get (i:=i) (d:=d) (by simpa using e)
  exact ⟨v,by simpa using h1,by simpa using h2⟩
 | _,_,_,i + 1,d,.bw h t,e=>by
  obtain ⟨v,h1,h2⟩:=t.get (i:=i) (d:=d) (by simpa using e)
  exact ⟨v,by simpa using h1,by simpa using h2⟩
end
def spM (K:W.Frag) (ro:Bool) (ms:List Md) (F:List D->Res D):Sp:=fun vs H Q _=>∃G ds,GOk K G H/\ArgsOk K G H ms vs ds/\fin (F ds) (fun d=>∀v G' H',Grow K G H G' H'->RV ro K H G' H' v d->Q v H') fun _=>False
def outR (ro:Bool):Out->Res D
 | .nx _=>if ro=true then .stuck else .ok .non
 | .rt d=>.ok d
 | .exc x _=>.exc x
 | _=>.stuck
def zao (n:Nat) (ds:List D):Rho:=ds.map some++List.replicate (n - ds.length) none
def zfz (n:Nat) (ms:List Md):List Md:=ms++List.replicate (n - ms.length) .sh
section
variable {P:Program} {w:World} {K:W.Frag} {mg:Str->Option Value} {base:Heap}
theorem zkc {X:Cx} {N:List Str} {ms:List Md} {vs:List V} {ds:List D} {G:GH} {H:Hp} (gk:GOk X.K G H) (rs:ArgsOk X.K G H ms vs ds) (hn:ms.length<=N.length):SI X ⟨G,H,fun _=>none⟩ (zfz N.length ms) (zao N.length ds) G (L2.start N vs) H:=by
 obtain ⟨l1,l2⟩:=rs.len
 have e1:(L2.start N vs).length=N.length:=by unfold L2.start; rw [List.length_append,List.length_map,List.length_replicate]; omega
 have e2:(zao N.length ds).length=N.length:=by unfold zao; rw [List.length_append,List.length_map,List.length_replicate]; omega
 have e3:(zfz N.length ms).length=N.length:=by unfold zfz; rw [List.length_append,List.length_replicate]; omega
 have at_:∀(i:Nat) d,(zao N.length ds)[i]? = some (some d)->i < ms.length/\(zfz N.length ms)[i]? = ms[i]?/\∃v,(L2.start N vs)[i]? = some (some v)/\((ms[i]? = some .sh/\RG X.K G v d)\/(ms[i]? = some .bw/\RB X.K G H v d)):=fun i d h=>by
  unfold zao at h
  by_cases hi:i < ds.length
  ·rw [List.getElem?_append_left (by simpa using hi),List.getElem?_map] at h
   have hd:ds[i]? = some d:=by
    cases z:ds[i]? with
    | none=>rw [z] at h; cases h
    | some d'=>rw [z] at h; cases h; rfl
   obtain ⟨v,hv,rv⟩:=rs.get hd
   refine ⟨by omega,?_,v,?_,rv⟩
   ·unfold zfz
    rw [List.getElem?_append_left (by omega)]
   ·unfold L2.start
    rw [List.getElem?_append_left (by rw [List.length_map]; omega),List.getElem?_map,hv]
    rfl
  ·rw [List.getElem?_append_right (by simpa using hi),List.getElem?_replicate] at h
   split at h <;> cases h
 refine ⟨gk,fun _ _ e=>e,fun _ _ e=>e,fun _ _=>rfl,by rw [e3,e1],by rw [e1,e2],fun i d h hm=>?_,fun i d h hm=>?_,fun i d h hm=>?_,fun i j a d e _ h _ hm=>?_,fun i o h=>nomatch h⟩
 ·obtain ⟨_,hq,v,h1,h2⟩:=at_ i d h
  rw [hq] at hm
  rcases h2 with ⟨_,h2⟩ | ⟨h3,h2⟩
  ·exact ⟨v,h1,h2⟩
  ·rw [hm] at h3; cases h3
 ·obtain ⟨_,hq,v,h1,h2⟩:=at_ i d h
  rw [hq] at hm
  rcases h2 with ⟨h3,h2⟩ | ⟨h3,h2⟩ <;> rw [hm] at h3 <;> cases h3
 ·obtain ⟨_,hq,v,h1,h2⟩:=at_ i d h
  rw [hq] at hm
  rcases h2 with ⟨h3,h2⟩ | ⟨h3,h2⟩
  ·rw [hm] at h3; cases h3
  ·refine ⟨v,h1,?_⟩
   rcases h2 with h2 | ⟨a,rfl,h2⟩
   ·exact .inl h2
   ·exact .inr ⟨a,rfl,h2,h2.ob.isS⟩
 ·obtain ⟨_,hq,v,h1,h2⟩:=at_ i d h
  rw [hq] at hm
  rcases h2 with ⟨h3,h2⟩ | ⟨h3,h2⟩ <;> rw [hm] at h3 <;> cases h3
theorem zkT {X:Cx} {ro:Bool} {fs:FS} {m':List Md} {G:GH} {H:Hp} {r:Rho} {Q:VK} (q:fin (outR ro (fs r)) (fun d=>∀v G' H',Grow X.K G H G' H'->RV ro X.K H G' H' v d->Q v H') fun _=>False) :
  oTo X ⟨G,H,fun _=>none⟩ ro m' [] G { nx:=fun _ H'=>Q .non H',rt:=Q } (fs r):=by
 cases e:fs r with
 | nx r'=>
  rw [e] at q
  cases ro with
  | false=>exact fun σ' G' H' _ si=>q .non G' H' si.grown (.scl .non)
  | true=>exact q.elim
 | rt d=>rw [e] at q; exact fun v G' H' wg rv=>q v G' H' wg rv
 | bk r'=>rw [e] at q; exact q.elim
 | ct r'=>rw [e] at q; exact q.elim
 | exc x r'=>rw [e] at q; exact q.elim
 | stuck=>rw [e] at q; exact q
theorem zpO {x qual:Str} {st:Stmt} {f:Addr} {fd:FuncData} {N ps:List Str} {k:Nat} {ro:Bool} {ms:List Md} {fs:FS} {m':List Md} (F:Fun K x qual st f fd) (S:FnScope N ps (zab st)) (hms:ms.length=ps.length)
  (hbody:∀(cdv:Value) (A:Around) (outer:List Env) (s:Shared) (H:Hp) (g:GE) (E:XK),Room k (A.deeper (envOfC qual (zab st) s.heap.objs.size f cdv)) ->
   SSs (cxOf CX0 P w K mg base N qual (zab st) f cdv A outer s H E).nox g ro [] (zfz N.length ms) (zbH st) fs m') :
  FnOk P w K mg base CX0 (k + 1) f fd ps (spM K ro ms fun ds=>outR ro (fs (zao N.length ds))):=by
 refine F.ok S (fun vs H Q E ⟨G,ds,gk,rs,q⟩=>rs.len.1.trans hms) fun cdv A outer s H vs Q E hr h=>?_
 obtain ⟨G,ds,gk,rs,q⟩:=h
 have hpl:ps.length<=N.length:=by have:=congrArg List.length S.pre; rw [List.length_take] at this; omega
 exact ⟨_,(hbody cdv A outer s H ⟨G,H,fun _=>none⟩ E hr).2,zao N.length ds,G,zkc gk rs (by omega),zkT q⟩
end
section
variable {X:Cx} {g:GE} {m:List Md} {e:Expr} {f:FE} {es:List Expr} {fl:Rho->Res (List D)} {k:Nat} {fa:Addr} {fd:FuncData} {ps:List Str} {F:List D->Res D} {dvs:List V} {ds:List Value} {dds:List D} {x:Str} {p pos:Pos} {ms:List Md}
def tLM (X:Cx) (g:GE) (m:List Md) (ms:List Md) (f:Rho->Res (List D)):TA:=fun σ H Q=>∃r G,SI X g m r G σ H/\fin (f r) (fun ds=>∀vs G' H',Grow X.K G H G' H'->ArgsOk X.K G' H' ms vs ds->Q vs H') (XW X σ G H)
def SAM (X:Cx) (g:GE) (m:List Md) (es:List Expr) (ms:List Md) (f:Rho->Res (List D)):Prop:=PA X es (tLM X g m ms f)
theorem zaQ:SAM X g m [] [] lNil:=PA.imp zgz fun σ H Q ⟨r,G,si,k⟩=>k [] G H (Grow.refl si.gok) .nil
theorem m_sh (ha:SE X g m e f) (hr:SAM X g m es ms fl) (hs:starEach (e::es) X.env=(false,eval e X.env)::starEach es X.env:=by rfl):SAM X g m (e::es) (.sh::ms) (zac f fl):=by
 refine PA.imp (zdI ha hr hs) fun σ H Q ⟨r,G,si,k⟩=>⟨r,G,si,zag (zai k) fun d k1 v G1 H1 w1 r1=>⟨r,G1,si.grow w1,?_⟩⟩
 exact zaZ (zai k1) w1 fun ds z vs G2 H2 w2 r2=>z (v::vs) G2 H2 (w1.trans w2) (.sh (r1.mono w2.ge) r2)
theorem m_bw (ha:SB X g m e f) (hr:SAM X g m es ms fl) (hs:starEach (e::es) X.env=(false,eval e X.env)::starEach es X.env:=by rfl):SAM X g m (e::es) (.bw::ms) (zac f fl):=by
 refine PA.imp (zdI ha hr hs) fun σ H Q ⟨r,G,si,k⟩=>⟨r,G,si,zag (zai k) fun d k1 v G1 H1 w1 r1=>⟨r,G1,si.grow w1,?_⟩⟩
 exact zaZ (zai k1) w1 fun ds z vs G2 H2 w2 r2=>z (v::vs) G2 H2 (w1.trans w2) (.bw (r1.mono w2) r2)
def zaE (fl:Rho->Res (List D)) (dds:List D) (F:List D->Res D):FE:=fun r=>(fl r).bind fun ds=>noX (F (ds++dds))
theorem znF {ro:Bool} {vs:List V} {zs:List D} {G:GH} {H:Hp} {Q:VK} (gk:GOk X.K G H) (rs:ArgsOk X.K G H ms vs zs) (hsc:Paired Scl dvs dds) (q:fin (noX (F (zs++dds))) (fun d=>∀v G' H',Grow X.K G H G' H'->RV ro X.K H G' H' v d->Q v H') fun _=>False) :
  spM X.K ro (ms++List.replicate dds.length .sh) F (vs++dvs) H Q E0:=by
 refine ⟨G,zs++dds,gk,rs.app hsc,?_⟩
 cases e:F (zs++dds) with
 | ok d=>rw [e] at q; exact q
 | exc x=>rw [e] at q; exact q.elim
 | stuck=>rw [e] at q; exact q.elim
theorem znk {α:Type} {r:Res α} {q:α->Prop} {x:D->Prop} (h:fin r q x) (hr:∀e,r≠.exc e):fin r q fun _=>False:=by
 cases r with
 | ok a=>exact h
 | exc e=>exact absurd rfl (hr e)
 | stuck=>exact h
theorem zsD (r:Res D) (e:D):noX r≠.exc e:=by cases r <;> simp [noX]
theorem zrR (G1:FnOk X.prog X.w X.K X.mg X.base CX0 k fa fd ps (spM X.K false (ms++List.replicate dds.length .sh) F)) (hr:Room k X.A) (hg:Gl X x) (hm:X.mg x=some (.ref fa)) (hk:W.keepIn X.K (.ref fa)=true) (hb:zhh X.K fd ps ds) (hd:Vals dvs ds) (hsc:Paired Scl dvs dds)
  (ha:SAM X g m (e::es) ms fl) (hdb:(x == ("__debug__" : Str))=false:=by decide) (he:starEach (e::es) X.env=(false,eval e X.env)::starEach es X.env:=by rfl) (hpl:(backTo pos (starEach es X.env)).any (·.1)=false:=by rfl) :
  SE X g m (.Call (.Name x p) (e::es) [] pos) (zaE fl dds F):=by
 refine PE.imp (zqB G1 hr hg hm hk hb hd zt8 ha hdb he hpl) fun σ H Q ⟨r,G,si,q⟩=>⟨r,G,si,?_⟩
 cases ez:fl r with
 | ok zs=>
  unfold zaE at q
  rw [ez] at q
  intro vs G' H' w' rs
  exact znF w'.ok rs hsc (zag (znk q (zsD _)) fun d k v G2 H2 w2 rv=>k v G2 H2 (w'.trans w2) rv)
 | exc x=>unfold zaE at q; rw [ez] at q; exact q
 | stuck=>unfold zaE at q; rw [ez] at q; exact q
end
theorem zoU {env:Env}:∀(l:List (Str × NameKind)) (cs:List (Str × Addr)),(∀x∈l,x.2=.free->∃c,env.cells.lookup x.1=some c)->(∀x c,cs.lookup x=some c->env.cells.lookup x=some c) ->
  ∃cl,(forIn l cs (fun (x:Str × NameKind) (cs:List (Str × Addr))=>if (x.2 == NameKind.free)=true then (do let a <-cellOf env x.1; pure (ForInStep.yield ((x.1,a)::cs))) else pure (ForInStep.yield cs)):Sem (List (Str × Addr)))=pure cl /\
   (∀x c,cl.lookup x=some c->env.cells.lookup x=some c)/\(∀x,(x,NameKind.free)∈l->∃c,cl.lookup x=some c)/\(∀x c,cs.lookup x=some c->∃c',cl.lookup x=some c'):=by
 intro l
 induction l with
 | nil=>intro cs _ h; exact ⟨cs,rfl,h,fun x hx=>(by cases hx),fun x c h=>⟨c,h⟩⟩
 | cons y l ih=>
  intro cs hf hc
  obtain ⟨n,k⟩:=y
  by_cases hk:k=.free
  ·subst hk
   obtain ⟨c,ec⟩:=hf (n,.free) List.mem_cons_self rfl
   have e1:cellOf env n=pure c:=by unfold cellOf; rw [ec]
   have hc':∀x c',((n,c)::cs).lookup x=some c'->env.cells.lookup x=some c':=fun x c' h=>by
    rw [List.lookup_cons] at h
    cases q:x == n with
    | true=>rw [q] at h; cases h; rw [eq_of_beq q]; exact ec
    | false=>rw [q] at h; exact hc x c' h
   obtain ⟨cl,e2,h1,h2,h3⟩:=ih ((n,c)::cs) (fun x hx=>hf x (List.mem_cons_of_mem _ hx)) hc'
   refine ⟨cl,?_,h1,fun x hx=>?_,fun x c' h=>?_⟩
   ·rw [<-e2]
    rw [List.forIn_cons]
    show (cellOf env n >>= fun a=>pure (ForInStep.yield ((n,a)::cs))) >>= _=_
    rw [e1]
    rfl
   ·rcases List.mem_cons.mp hx with z | z
    ·cases z; exact h3 n c (by rw [List.lookup_cons]; simp)
    ·exact h2 x z
   ·cases q:x == n with
    | true=>exact h3 x c (by rw [List.lookup_cons,q])
    | false=>exact h3 x c' (by rw [List.lookup_cons,q]; exact h)
  ·obtain ⟨cl,e2,h1,h2,h3⟩:=ih cs (fun x hx=>hf x (List.mem_cons_of_mem _ hx)) hc
   have hb:(k == NameKind.free)=false:=by simpa using hk
   refine ⟨cl,?_,h1,fun x hx=>?_,h3⟩
   ·rw [<-e2,List.forIn_cons]
    simp only [hb,Bool.false_eq_true,if_false]
    rfl
   ·rcases List.mem_cons.mp hx with z | z
    ·cases z; exact absurd rfl hk
    ·exact h2 x z
theorem zlG {scope:Scope} {env:Env} (hf:∀x∈scope.names,x.2=.free->∃c,env.cells.lookup x.1=some c) :
  ∃cl,closureFor scope env=pure cl/\(∀x c,cl.lookup x=some c->env.cells.lookup x=some c)/\(∀x,(x,NameKind.free)∈scope.names->∃c,cl.lookup x=some c):=by
 obtain ⟨cl,e,h1,h2,_⟩:=zoU scope.names [] hf (fun x c h=>by cases h)
 refine ⟨cl,?_,h1,h2⟩
 have e0:closureFor scope env=((forIn scope.names ([]:List (Str × Addr)) (fun (x:Str × NameKind) (cs:List (Str × Addr))=>if (x.2 == NameKind.free)=true then (do let a <-cellOf env x.1; pure (ForInStep.yield ((x.1,a)::cs))) else pure (ForInStep.yield cs)):Sem (List (Str × Addr))) >>= fun cs=>pure cs):=rfl
 rw [e0,e]
 rfl
theorem zeG {f:Str->NameKind->NameKind}:∀(l:List (Str × NameKind)) (x:Str),(l.map fun y=>(y.1,f y.1 y.2)).lookup x=(l.lookup x).map (f x)
 | [],x=>rfl
 | (n,k)::l,x=>by
  rw [List.map_cons,List.lookup_cons,List.lookup_cons]
  cases q:x == n with
  | true=>simp [eq_of_beq q]
  | false=>exact zeG l x
def relK (env:Env) (n:Str) (k:NameKind):NameKind:=if (k == .free && env.scope.kind == .function && env.kindOf n == some .cell)=true then .cell else k
theorem zeC (scope:Scope) (env:Env) (x:Str):(relabel scope env).names.lookup x=(scope.names.lookup x).map (relK env x):=by
 rw [<-zeG]
 unfold relabel
 congr 1
 apply List.map_congr_left
 intro y _
 obtain ⟨n,k⟩:=y
 show (if (k == NameKind.free && env.scope.kind == .function && env.kindOf n == some .cell)=true then (n,NameKind.cell) else (n,k))=(n,relK env n k)
 unfold relK
 split <;> rfl
structure CompSc (X:Cx) (scope:Scope) (N':List Str) (nl:Nat) (cap:List Nat):Prop where
 kind:scope.kind=.function
 nocell:∀y∈scope.names,y.2≠.cell
 names:∀y∈scope.names,y.2=.local->scope.names.lookup y.1=some .local
 freeK:∀y∈scope.names,y.2=.free->X.env.kindOf y.1=some .cell\/X.env.kindOf y.1=some .free
 len:N'.length=nl + cap.length
 capN:∀j,j < cap.length->∃x,N'[nl + j]? = some x/\X.N[cap.getD j 0]? = some x/\scope.names.lookup x=some .free
def cxC (X:Cx) (s₀:Shared) (H₀:Hp) (N':List Str) (scope:Scope) (cl:List (Str × Addr)) (C:Addr) (fp:List Addr):Cx where
 prog:=X.prog
 w:=X.w
 K:=X.K
 mg:=X.mg
 base:=X.base
 A:=X.A
 N:=N'
 s₀:=s₀
 H₀:=H₀
 env:=compEnvC scope cl C X.env
 outer:=X.stack
 stack:=X.stack
 ex:=fp
 fn:=fun _=>false
 calm:=X.calm
 pn:=[]
 xe:=fun _ _=>False
section
variable {X:Cx} {pz:List (Addr × Obj)} {σ:L2.St} {H:Hp} {s:Shared} {scope:Scope} {N':List Str} {nl:Nat} {cap:List Nat} {cl:List (Str × Addr)} {C:Addr} {fp:List Addr}
theorem zpT (I:Inv X pz σ H s) (sc:CompSc X scope N' nl cap) (h1:∀x c,cl.lookup x=some c->X.env.cells.lookup x=some c) (h2:∀x,(x,NameKind.free)∈scope.names->∃c,cl.lookup x=some c)
  (hf:∀b∈fp,FpOk X pz H b/\b < s.heap.objs.size) (hC:s.heap.objs.size<=C):(cxC X s H N' scope cl C fp).Ok where
 mod:=I.ok.mod
 kind:=sc.kind
 glob:=I.ok.glob
 blt:=I.ok.blt
 above:=hC
 inj:=fun x y c a b=>I.ok.inj x y c (h1 x c a) (h1 y c b)
 has:=fun x hk=>by
  have hk':(scope.names.lookup x).map (relK X.env x)=some .cell\/(scope.names.lookup x).map (relK X.env x)=some .free:=by
   rw [<-zeC]; exact hk
  cases e:scope.names.lookup x with
  | none=>rw [e] at hk'; rcases hk' with z | z <;> cases z
  | some k=>
   have hm:=PySem.mem_of_lookup e
   have kf:k=.free:=by
    rw [e] at hk'
    have hk2:relK X.env x k=.cell\/relK X.env x k=.free:=by
     rcases hk' with z | z
     ·exact .inl (Option.some.inj z)
     ·exact .inr (Option.some.inj z)
    unfold relK at hk2
    split at hk2
    ·rename_i hc
     simp only [Bool.and_eq_true,beq_iff_eq] at hc
     exact hc.1.1
    ·rcases hk2 with z | z
     ·exact absurd z (sc.nocell _ hm)
     ·exact z
   subst kf
   exact h2 x hm
 cab:=fun x c h=>by cases h
 hd:=I.ok.hd
 frames:=I.ok.frames
 stk:=.inl rfl
 exf:=fun b hb=>⟨Nat.ne_of_lt (Nat.lt_of_lt_of_le (hf b hb).2 hC),fun x c e=>(hf b hb).1.2.2.2.2.1 x c (h1 x c e)⟩
 bs:=I.bs
 bsz:=Nat.le_trans I.ok.bsz I.sz
 noex:=fun b o e hb=>by
  obtain ⟨_,_,_,hx,_⟩:=(hf b hb).1
  rcases hx with z | z
  ·exact I.ok.noex b o e z
  ·exact absurd (Nat.lt_of_lt_of_le (Heap.lt_size e) (Nat.le_trans I.ok.bsz z)) (Nat.lt_irrefl _)
 exfs:=fun b hb hfs=>by
  obtain ⟨_,q1,q2,_⟩:=(hf b hb).1
  rcases List.mem_cons.mp (I.stkSub b hfs) with z | z
  ·exact q1 z
  ·exact q2 z
 funs:=I.stack
 frf:=I.stkFree
end
def zcT (ft:FT) (q:FQ) (fe:FE) (r0:Rho):List D->Res (List D)
 | []=>.ok []
 | d::ds=>(opt (ft d r0)).bind fun r1=>(q r1).bind fun c=>if c=true then (fe r1).bind fun v=>(zcT ft q fe r0 ds).bind fun vs=>.ok (v::vs) else zcT ft q fe r0 ds
def capR (nl:Nat) (cap:List Nat) (r:Rho):Rho:=List.replicate nl none++cap.map fun i=>r.getD i none
def capM (nl:Nat) (cap:List Nat) (m:List Md):List Md:=List.replicate nl Md.sh++cap.map fun i=>if m.getD i Md.sh=Md.sh then Md.sh else Md.bw
def capS (nl:Nat) (cap:List Nat) (st:L2.St):L2.St:=List.replicate nl none++cap.map fun i=>st.getD i none
theorem zgY {α:Type} {nl:Nat} {cap:List Nat} {u:α} {h:Nat->α} {i:Nat} (hi:nl<=i):(List.replicate nl u++cap.map h)[i]? = (cap[i - nl]?).map h:=by
 rw [List.getElem?_append_right (by simpa using hi),List.length_replicate,List.getElem?_map]
section
variable {X:Cx} {pz:List (Addr × Obj)} {σ:L2.St} {H H':Hp} {s:Shared} {scope:Scope} {N':List Str} {nl:Nat} {cap:List Nat} {cl:List (Str × Addr)} {C:Addr} {fp:List Addr} {g:GE} {G G':GH} {m:List Md} {r:Rho}
theorem ztw (si:SI X g m r G σ H) (w:Grow X.K G H G' H'):SI (cxC X s H N' scope cl C fp) ⟨G,H,fun _=>none⟩ (capM nl cap m) (capR nl cap r) G' (capS nl cap σ) H':=by
 have lens:(capM nl cap m).length=nl + cap.length:=by simp [capM]
 have lens2:(capR nl cap r).length=nl + cap.length:=by simp [capR]
 have lens3:(capS nl cap σ).length=nl + cap.length:=by simp [capS]
 have rget:∀(i:Nat) d,(capR nl cap r)[i]? = some (some d)->nl<=i/\∃j,cap[i - nl]? = some j/\r[j]? = some (some d):=fun i d h=>by
  by_cases hi:i < nl
  ·unfold capR at h
   rw [List.getElem?_append_left (by simpa using hi),List.getElem?_replicate] at h
   split at h <;> cases h
  ·refine ⟨by omega,?_⟩
   unfold capR at h
   rw [zgY (by omega)] at h
   cases e:cap[i - nl]? with
   | none=>rw [e] at h; cases h
   | some j=>
    rw [e] at h
    refine ⟨j,rfl,?_⟩
    have h':r.getD j none=some d:=Option.some.inj h
    rw [List.getD_eq_getElem?_getD] at h'
    cases e2:r[j]? with
    | none=>rw [e2] at h'; cases h'
    | some o=>rw [e2] at h'; rw [show o=some d from h']
 have mget:∀(i j:Nat) md,nl<=i->cap[i - nl]? = some j->(capM nl cap m)[i]? = some md->md=if m.getD j Md.sh=Md.sh then Md.sh else Md.bw:=fun i j md hi hj h=>by
  unfold capM at h
  rw [zgY hi,hj] at h
  exact (Option.some.inj h).symm
 have sget:∀(i j:Nat) v,nl<=i->cap[i - nl]? = some j->σ[j]? = some (some v)->(capS nl cap σ)[i]? = some (some v):=fun i j v hi hj h=>by
  unfold capS
  rw [zgY hi,hj]
  show some (σ.getD j none)=_
  rw [List.getD_eq_getElem?_getD,h]
  rfl
 have mj:∀(j:Nat) d,r[j]? = some (some d)->m[j]? = some (m.getD j Md.sh):=fun j d h=>by
  have hl:j < m.length:=by
   have:=(List.getElem?_eq_some_iff.mp h).1
   rw [si.lr,<-si.lm] at this; exact this
  rw [List.getD_eq_getElem?_getD,List.getElem?_eq_getElem hl]
  rfl
 refine ⟨w.ok,w.he,w.ge,w.gf,by rw [lens,lens3],by rw [lens2,lens3],fun i d h hm=>?_,fun i d h hm=>?_,fun i d h hm=>?_,fun i j a d e _ h _ hm=>?_,fun i o h=>nomatch h⟩
 ·obtain ⟨hi,j,hj,hr⟩:=rget i d h
  have e:=mget i j _ hi hj hm
  have hsh:m.getD j Md.sh=Md.sh:=by
   by_cases z:m.getD j Md.sh=Md.sh
   ·exact z
   ·rw [if_neg z] at e; cases e
  obtain ⟨v,h1,h2⟩:=si.sh j d hr (by rw [mj j d hr,hsh])
  exact ⟨v,sget i j v hi hj h1,h2.mono w.ge⟩
 ·obtain ⟨hi,j,hj,hr⟩:=rget i d h
  have e:=mget i j _ hi hj hm
  split at e <;> cases e
 ·obtain ⟨hi,j,hj,hr⟩:=rget i d h
  have e:=mget i j _ hi hj hm
  have hsh:m.getD j Md.sh≠Md.sh:=by
   intro z
   rw [if_pos z] at e; cases e
  have hmj:=mj j d hr
  cases q:m.getD j Md.sh with
  | sh=>exact absurd q hsh
  | ow=>
   rw [q] at hmj
   obtain ⟨a,h1,h2,_⟩:=si.ow j d hr hmj
   exact ⟨_,sget i j _ hi hj h1,.inr ⟨a,rfl,h2.mono w,h2.ob.isS⟩⟩
  | bw=>
   rw [q] at hmj
   obtain ⟨v,h1,h2⟩:=si.bw j d hr hmj
   refine ⟨v,sget i j _ hi hj h1,?_⟩
   rcases h2 with h2 | ⟨a,rfl,h2,_⟩
   ·exact .inl (h2.mono w.ge)
   ·exact .inr ⟨a,rfl,h2.mono w,h2.ob.isS⟩
 ·obtain ⟨hi,j',hj,hr⟩:=rget i d h
  have e:=mget i j' _ hi hj hm
  split at e <;> cases e
theorem zpU (I:Inv X pz σ H s) (ok:(cxC X s H N' scope cl C fp).Ok) (sc:CompSc X scope N' nl cap) (h1:∀x c,cl.lookup x=some c->X.env.cells.lookup x=some c) (h2:∀x,(x,NameKind.free)∈scope.names->∃c,cl.lookup x=some c)
  (hN:X.N.Nodup) {s4:Shared} {H4:Hp} {mc:Str->Option Value} (hos:s4.os=s.os) (hb:AllBare s4.gens) (kp:∀b o,s.heap.get? b=some o->s4.heap.get? b=some o) (hns:s4.heap.Ns C mc) (hC:s.heap.objs.size<=C) (hHC:H4 C=none)
  (hH:∀b,H b=none->b < s.heap.objs.size->H4 b=none) (un:Un (frs X.stack) fp H H4 s.heap s4.heap) (hok:HOk X.prog X.w H4 s4.heap):Inv (cxC X s H N' scope cl C fp) [] (capS nl cap σ) H4 s4:=by
 refine ⟨ok,hos,hb,un,⟨mc,hns,fun i x v e1 e2 e3=>?_⟩,fun x c e=>?_,hHC,fun x c e=>?_,fun p hp=>absurd (show p∈([]:List (Addr × Obj)) from hp) (by simp),hok,?_⟩
 ·have hi:nl<=i:=by
   by_cases z:i < nl
   ·unfold capS at e2
    rw [List.getElem?_append_left (by simpa using z),List.getElem?_replicate] at e2
    split at e2 <;> cases e2
   ·omega
  unfold capS at e2
  rw [zgY hi] at e2
  cases ej:cap[i - nl]? with
  | none=>rw [ej] at e2; cases e2
  | some j=>
   rw [ej] at e2
   have hj:i - nl < cap.length:=(List.getElem?_eq_some_iff.mp ej).1
   obtain ⟨x',q1,q2,q3⟩:=sc.capN (i - nl) hj
   have ed:cap.getD (i - nl) 0=j:=by rw [List.getD_eq_getElem?_getD,ej]; rfl
   rw [ed] at q2
   have ei:nl + (i - nl)=i:=by omega
   rw [ei] at q1
   have e1':N'[i]? = some x:=e1
   rw [q1] at e1'
   have ex:x'=x:=Option.some.inj e1'
   subst ex
   have hv:σ[j]? = some (some v):=by
    have z:σ.getD j none=some v:=Option.some.inj e2
    rw [List.getD_eq_getElem?_getD] at z
    cases q:σ[j]? with
    | none=>rw [q] at z; cases z
    | some o=>rw [q] at z; rw [show o=some v from z]
   have hfree:=PySem.mem_of_lookup q3
   have kX:=sc.freeK _ hfree rfl
   obtain ⟨mx,hnx,hl⟩:=I.loc
   obtain ⟨u,ru,lk⟩:=hl j x' v q2 hv (.inr kX)
   refine ⟨u,ru,.inr ?_⟩
   obtain ⟨c,ec⟩:=h2 x' hfree
   have hkk:Env.kindOf (cxC X s H N' scope cl C fp).env x'=some .cell\/Env.kindOf (cxC X s H N' scope cl C fp).env x'=some .free:=by
    have z:(relabel scope X.env).names.lookup x'=some (relK X.env x' .free):=by rw [zeC,q3]; rfl
    show (relabel scope X.env).names.lookup x'=_\/(relabel scope X.env).names.lookup x'=_
    rw [z]
    unfold relK
    split
    ·exact .inl rfl
    ·exact .inr rfl
   refine ⟨hkk,c,ec,?_⟩
   rcases lk with ⟨k,_⟩ | ⟨_,c',ec',hcell⟩
   ·rcases kX with z | z <;> rw [k] at z <;> cases z
   ·rw [h1 x' c ec] at ec'
    cases ec'
    obtain ⟨o,ho,hd⟩:=hcell
    exact ⟨o,kp c o ho,hd⟩
 ·obtain ⟨v,o,ho,hd⟩:=I.cell x c (h1 x c e)
  exact ⟨v,o,kp c o ho,hd⟩
 ·obtain ⟨v,o,ho,hd⟩:=I.cell x c (h1 x c e)
  exact hH c (I.freeC x c (h1 x c e)) (Heap.lt_size ho)
 ·show (capS nl cap σ).length=N'.length
  rw [sc.len]
  simp [capS]
end
section
variable {prog:Program} {w:World} {A:Around} {R:Result->Shared->Prop} {s:Shared}
theorem znB {elt target iter:Expr} {ifs:List Expr} {scope:Scope} {pos:Pos} {it acc:Value} {env:Env} (I:Nat->Shared->Prop)
  (turn:∀n s,I n s->wpAny (model prog w) A (pyNext it) (fun r s1=>match r with
   | none=>R (.ok .next) s1
   | some v=>wpAny (model prog w) A (letOwnedTupleGo target it v) (fun _ s1'=>wpAny (model prog w) A (assign target env v) (fun _ s2=>
     wpAny (model prog w) A (forIn ifs true fun c r=>if r=true then do let ok <-isTrue c env (eval c env); pure (ForInStep.yield ok) else pure (ForInStep.yield r)) (fun ok s3=>
      if ok=true then wpAny (model prog w) A (eval elt env) (fun x s4=>
       wpAny (model prog w) A (call (.builtin "list.append") [acc,x]) (fun _ s5=>∃m,m < n/\I m s5) (notedBy (model prog w) A env fun e s'=>R (.error e) s') s4) (notedBy (model prog w) A env fun e s'=>R (.error e) s') s3
      else ∃m,m < n/\I m s3) (notedBy (model prog w) A env fun e s'=>R (.error e) s') s2) (notedBy (model prog w) A env fun e s'=>R (.error e) s') s1')
     (notedBy (model prog w) A env fun e s'=>R (.error e) s') s1) (notedBy (model prog w) A env fun e s'=>R (.error e) s') s)
  (n:Nat) (h:I n s):codeAny (model prog w) A (.compLoop (.ListComp elt [⟨target,iter,ifs,0⟩] scope pos) 0 it acc env) R s:=by
 refine codeAny_loop rfl I (fun n s hI=>?_) n h
 show wpAny _ A ((compTurn (.ListComp elt [⟨target,iter,ifs,0⟩] scope pos) 0 it acc env).onRaise (fun x=>do noteFrame x env; theTreesLotGoes x)) _ _ s
 refine wpAny_noted ?_
 rw [compTurn_list]
 refine wpAny_bind (wpAny_standAt (wpAny_bind (wpAny_mono (turn n s hI) (fun r s1 h1=>?_) fun _ _ h'=>h')))
 cases r with
 | none=>exact wpAny_pure h1
 | some v=>
  refine wpAny_bind (wpAny_mono h1 (fun _ s1' h1'=>?_) fun _ _ h'=>h')
  refine wpAny_bind (wpAny_mono h1' (fun _ s2 h2=>wpAny_bind (wpAny_mono h2 (fun ok s3 h3=>?_) fun _ _ h'=>h')) fun _ _ h'=>h')
  cases ok with
  | false=>exact wpAny_pure ⟨rfl,h3⟩
  | true=>
   exact wpAny_bind (wpAny_bind (wpAny_mono h3 (fun x s4 h4=>wpAny_bind (wpAny_mono h4 (fun _ s5 h5=>wpAny_pure (wpAny_pure ⟨rfl,h5⟩)) fun _ _ h'=>h')) fun _ _ h'=>h'))
end
def SQs (X:Cx) (g:GE) (m:List Md) (ifs:List Expr) (f:FQ):Prop:=∀(pz:List (Addr × Obj)) (s:Shared) (σ:L2.St) (H:Hp) (Q:Bool->Hp->Prop),Inv X pz σ H s->tQ X g m f σ H Q ->
 wpAny (model X.prog X.w) X.A (forIn ifs true fun c r=>if r=true then do let ok <-isTrue c X.env (eval c X.env); pure (ForInStep.yield ok) else pure (ForInStep.yield r)) (TP X pz σ Q) X.xe s
section
variable {X:Cx} {g:GE} {m:List Md} {c:Expr} {p:FQ}
theorem zd3:SQs X g m [] fun _=>.ok true:=fun pz s σ H Q I ⟨r,G,si,q⟩=>wpAny_tests_nil ⟨H,I,q G H (Grow.refl si.gok)⟩
theorem zkn (h:SQ X g m c p):SQs X g m [c] p:=fun pz s σ H Q I q=>wpAny_tests_one (h pz s σ H Q I q)
end
def FtOk (ft:FT) (nl:Nat):Prop:=∀d r r1,ft d r=some r1->r1.length=r.length/\∀i,nl<=i->r1[i]? = r[i]?
theorem zcp {i nl:Nat} (h:i < nl):FtOk (ftN i) nl:=fun d r r1 e=>by
 cases e
 exact ⟨by simp,fun j hj=>by rw [List.getElem?_set_ne (by omega)]⟩
section
variable {X:Cx} {pz:List (Addr × Obj)} {σ:L2.St} {H2:Hp} {s2:Shared} {scope:Scope} {N':List Str} {nl:Nat} {cap:List Nat} {cl:List (Str × Addr)} {fp:List Addr} {g:GE} {G2:GH} {m:List Md} {r:Rho} {elt tg iter:Expr} {ifs:List Expr} {pos:Pos}
 {J:It} {it:Addr} {tn:Nat->Heap->Prop} {ds vs:List D} {ft:FT} {q:FQ} {fe:FE} {E:Value->Shared->Prop}
theorem znC (i:Nat):(capM nl cap m)[i]?≠some Md.ow:=fun h=>by
 by_cases hi:i < nl
 ·unfold capM at h
  rw [List.getElem?_append_left (by simpa using hi),List.getElem?_replicate] at h
  split at h <;> cases h
 ·unfold capM at h
  rw [zgY (by omega)] at h
  cases e:cap[i - nl]? with
  | none=>rw [e] at h; cases h
  | some j=>
   rw [e] at h
   have h':(if m.getD j Md.sh=Md.sh then Md.sh else Md.bw)=Md.ow:=Option.some.inj h
   split at h' <;> cases h'
theorem zjc {i:Nat} (hi:i < nl) (d:D):(capR nl cap r)[i]?≠some (some d):=fun h=>by
 unfold capR at h
 rw [List.getElem?_append_left (by simpa using hi),List.getElem?_replicate] at h
 split at h <;> cases h
theorem zja (hN:X.N.Nodup) (hcalm:X.calm=true) (sc:CompSc X scope N' nl cap) (h1:∀x c,cl.lookup x=some c->X.env.cells.lookup x=some c) (h2:∀x,(x,NameKind.free)∈scope.names->∃c,cl.lookup x=some c)
  (I2:Inv X pz σ H2 s2) (si:SI X g m r G2 σ H2) (T:Turn X.prog X.w X.K tg J fp it tn) (st:tn 0 s2.heap) (hf:∀b∈fp,FpOk X pz H2 b) (Y:YieldsC X.K J ds G2 H2) (hsz:ds.length<=sizeLine)
  (hg:∀C,SG (cxC X s2 H2 N' scope cl C fp) ⟨G2,H2,fun _=>none⟩ (capM nl cap m) tg ft (capM nl cap m)) (hft:FtOk ft nl) (hq:∀C,SQs (cxC X s2 H2 N' scope cl C fp) ⟨G2,H2,fun _=>none⟩ (capM nl cap m) ifs q) (he:∀C,SE (cxC X s2 H2 N' scope cl C fp) ⟨G2,H2,fun _=>none⟩ (capM nl cap m) elt fe)
  (hres:zcT ft q fe (capR nl cap r) ds=.ok vs) {RR:Value->Addr->Result->Shared->Prop}
  (hRR:∀(p C:Addr) (s':Shared) (H':Hp) (G':GH),Inv X pz σ H' s'->(∃mm,s'.heap.Ns C mm)->H' C=none->C≠X.env.locals->X.s₀.heap.objs.size<=C->(∀x c,X.env.cells.lookup x=some c->c≠C)->(∀z∈X.pn++pz,z.1≠C) ->
   Grow X.K G2 H2 G' H'->H2 p=none->Own X.K G' H' p (.lst vs)->RR (.ref p) C (.ok .next) s') :
  wpAny (model X.prog X.w) X.A (newList []) (fun acc s3=>wpAny (model X.prog X.w) X.A (newFunctionEnv scope X.env.globals cl [] X.env.qual none .none (some X.env)) (fun cenv s4=>
   codeAny (model X.prog X.w) X.A (.compStart (.ListComp elt [⟨tg,iter,ifs,0⟩] scope pos) 0 (.ref it) acc { cenv with scope:=relabel scope X.env }) (RR acc cenv.locals) s4) E s3) E s2:=by
 refine wpAny_newObj_type (wpAny_newFunctionEnv sc.nocell (by intro y hy; simp at hy) (fun h₁ hns₁ hsb₁=>?_) sc.kind)
 dsimp only at hns₁ hsb₁ ⊢
 generalize hH2:s2.heap.push { cls:=.type "list",dict:=none,data:=.seq ([]:List Value).toArray }=HH at hns₁ hsb₁ ⊢
 have hC:HH.objs.size=s2.heap.objs.size + 1:=by rw [<-hH2,Heap.size_push]
 have hDC:s2.heap.objs.size≠HH.objs.size:=by rw [hC]; exact Nat.ne_of_lt (Nat.lt_succ_self _)
 have hCle:s2.heap.objs.size<=HH.objs.size:=by rw [hC]; exact Nat.le_succ _
 have below:∀b,b < s2.heap.objs.size->b≠HH.objs.size/\b≠s2.heap.objs.size:=fun b hb=>⟨by rw [hC]; exact Nat.ne_of_lt (Nat.lt_succ_of_lt hb),Nat.ne_of_lt hb⟩
 have old:∀b o,s2.heap.get? b=some o->h₁.get? b=some o:=fun b o e=>hsb₁.extBut b o (below b (Heap.lt_size e)).1 (Heap.get?_push_of_some _ (hH2 ▸ Heap.get?_push_of_some _ e))
 have hacc:h₁.get? s2.heap.objs.size=some { cls:=.type "list",dict:=none,data:=.seq ([]:List Value).toArray }:=hsb₁.extBut _ _ hDC (Heap.get?_push_of_some _ (hH2 ▸ Heap.get?_push_size _ rfl))
 have hp2:H2 s2.heap.objs.size=none:=I2.hok.fresh (Nat.le_refl _)
 have hflt:∀b∈fp,FpOk X pz H2 b/\b < s2.heap.objs.size:=fun b hb=>⟨hf b hb,by
  obtain ⟨o,e,_⟩:=T.obj 0 s2.heap st b hb
  exact Heap.lt_size e⟩
 have ok:=zpT (fp:=fp) I2 sc h1 h2 hflt hCle
 generalize hXX:cxC X s2 H2 N' scope cl HH.objs.size fp=XX at ok
 have hG2p:G2 s2.heap.objs.size=none:=si.gok.isN hp2
 have w0:Grow X.K G2 H2 G2 (upd H2 s2.heap.objs.size (.lst [])):=Grow.new si.gok hp2 _
 have hok4:HOk X.prog X.w (upd H2 s2.heap.objs.size (.lst [])) h₁:=I2.hok.laid old (Nat.le_refl _) ⟨Nat.zero_le _,[],0,.nil,hacc⟩
 have IC:Inv XX [] (capS nl cap σ) (upd H2 s2.heap.objs.size (.lst [])) { s2 with heap:=h₁,toks:=s2.toks + ([]:List (Str × Value)).length }:=by
  subst hXX
  refine zpU I2 ok sc h1 h2 hN rfl I2.bare old hns₁ hCle ?_ (fun b hb hlt=>?_) (Un.laid old (Nat.le_refl _) hp2) hok4
  ·rw [zaq (Ne.symm hDC)]; exact I2.hok.fresh hCle
  ·rw [zaq (below b hlt).2]; exact hb
 have SC:SI XX ⟨G2,H2,fun _=>none⟩ (capM nl cap m) (capR nl cap r) G2 (capS nl cap σ) (upd H2 s2.heap.objs.size (.lst [])):=by
  subst hXX
  exact ztw si w0
 have hst₁:tn 0 h₁:=T.keep _ _ _ st fun b _ o e=>old b o e
 have hfX:∀(H':Hp),(∀b∈fp,H' b=none)->∀b∈fp,FpOk XX [] H' b:=fun H' hn b hb=>by
  clear IC SC
  subst hXX
  obtain ⟨z0,z1,z2,z3,z4,z5⟩:=hf b hb
  refine ⟨hn b hb,?_,?_,?_,?_,?_⟩
  ·exact (below b (hflt b hb).2).1
  ·intro hfs
   rcases List.mem_cons.mp (I2.stkSub b hfs) with z | z
   ·exact z1 z
   ·exact z2 z
  ·exact .inl hb
  ·exact fun x c e=>z4 x c (h1 x c e)
  ·intro p hp; exact absurd (show p∈([]:List (Addr × Obj)) from hp) (by simp)
 have eA:XX.A=X.A:=Eq.rec (motive:=fun z _=>z.A=X.A) rfl hXX
 have eP:XX.prog=X.prog:=Eq.rec (motive:=fun z _=>z.prog=X.prog) rfl hXX
 have eW:XX.w=X.w:=Eq.rec (motive:=fun z _=>z.w=X.w) rfl hXX
 have eK:XX.K=X.K:=Eq.rec (motive:=fun z _=>z.K=X.K) rfl hXX
 have eX:XX.xe=fun _ _=>False:=Eq.rec (motive:=fun z _=>z.xe=fun _ _=>False) rfl hXX
 have eE:XX.env=compEnvC scope cl HH.objs.size X.env:=Eq.rec (motive:=fun z _=>z.env=compEnvC scope cl HH.objs.size X.env) rfl hXX
 have eC:XX.calm=true:=Eq.rec (motive:=fun z _=>z.calm=true) hcalm hXX
 have eH:XX.H₀ = H2:=Eq.rec (motive:=fun z _=>z.H₀ = H2) rfl hXX
 have hg':PG XX tg (tG XX ⟨G2,H2,fun _=>none⟩ (capM nl cap m) (capM nl cap m) ft):=Eq.rec (motive:=fun z _=>PG z tg (tG z ⟨G2,H2,fun _=>none⟩ (capM nl cap m) (capM nl cap m) ft)) (hg _).2 hXX
 have hq':SQs XX ⟨G2,H2,fun _=>none⟩ (capM nl cap m) ifs q:=Eq.rec (motive:=fun z _=>SQs z ⟨G2,H2,fun _=>none⟩ (capM nl cap m) ifs q) (hq _) hXX
 have he':SE XX ⟨G2,H2,fun _=>none⟩ (capM nl cap m) elt fe:=Eq.rec (motive:=fun z _=>SE z ⟨G2,H2,fun _=>none⟩ (capM nl cap m) elt fe) (he _) hXX
 have fin':∀{H':Hp} {s':Shared} {σ':L2.St} {G':GH} {ws:List V},Inv XX [] σ' H' s'->Grow X.K G2 H2 G' H'->H' s2.heap.objs.size=some (.lst ws)->G' s2.heap.objs.size=none->RGs X.K G' ws vs->RR (.ref s2.heap.objs.size) HH.objs.size (.ok .next) s':=fun {H' s' σ' G' ws} J1 wg hpp hgp rs=>by
  clear IC SC hfX hg' hq' he' eA eP eW eK eX eE eC eH
  subst hXX
  have un:=J1.base
  refine hRR _ _ s' H' G' ?_ (let ⟨mm,hn,_⟩:=J1.loc; ⟨mm,hn⟩) J1.free (Nat.ne_of_gt (Nat.lt_of_lt_of_le I2.lt hCle)) (Nat.le_trans I2.sz hCle) (fun x c e z=>?_) (fun z hz e=>?_) wg hp2 ⟨hgp,.lst hpp rs⟩
  ·refine I2.call' J1.os un J1.hok J1.bare fun b hb=>?_
   obtain ⟨z0,z1,z2,z3,z4,z5⟩:=hf b hb
   exact ⟨z3,z1,z4,z5⟩
  ·obtain ⟨v,o,ho,_⟩:=I2.cell x c e
   exact absurd (Nat.lt_of_lt_of_le (Heap.lt_size ho) hCle) (by rw [z]; exact Nat.lt_irrefl _)
  ·have:=(I2.pin z hz).1
   exact absurd (Nat.lt_of_lt_of_le (Heap.lt_size this) hCle) (by rw [e]; exact Nat.lt_irrefl _)
 have loop:codeAny (model X.prog X.w) X.A (.compLoop (.ListComp elt [⟨tg,iter,ifs,0⟩] scope pos) 0 (.ref it) (.ref s2.heap.objs.size) (compEnvC scope cl HH.objs.size X.env)) (RR (.ref s2.heap.objs.size) HH.objs.size)
   { s2 with heap:=h₁,toks:=s2.toks + ([]:List (Str × Value)).length }:=by
  refine znB (fun n s'=>∃(i:Nat) (σ':L2.St) (H':Hp) (G':GH) (ws:List V) (done rest:List D),Inv XX [] σ' H' s'/\SI XX ⟨G2,H2,fun _=>none⟩ (capM nl cap m) (capR nl cap r) G' σ' H'/\tn i s'.heap/\(∀b∈fp,H' b=none)/\Grow X.K G2 H2 G' H' /\
    H' s2.heap.objs.size=some (.lst ws)/\G' s2.heap.objs.size=none/\RGs X.K G' ws done/\zcT ft q fe (capR nl cap r) (ds.drop i)=.ok rest/\vs=done++rest/\done.length<=i/\i<=ds.length/\n=ds.length - i) ?_ ds.length
   ⟨0,_,_,G2,[],[],vs,IC,SC,hst₁,fun b hb=>?_,w0,zam,hG2p,.nil,hres,rfl,Nat.le_refl _,Nat.zero_le _,rfl⟩
  rotate_left
  ·rw [zaq (below b (hflt b hb).2).2]; exact (hf b hb).1
  rintro n s3 ⟨i,σ3,H3,G3,ws,done,rest,I3,S3,st3,fr3,w3,hp3,hg3,rs3,hr3,hv3,hd3,hi3,rfl⟩
  have weaken:∀{α:Type} {t:Sem α} {Q:α->Shared->Prop} {s':Shared} {E':Value->Shared->Prop},wpAny (model XX.prog XX.w) XX.A t Q XX.xe s'->wpAny (model X.prog X.w) X.A t Q E' s':=fun h=>by
   rw [eP,eW,eA,eX] at h
   exact wpAny_mono h (fun _ _ z=>z) fun _ _ z=>z.elim
  by_cases hlt:i < ds.length
  ·have hd:ds.drop i=ds[i]::ds.drop (i + 1):=List.drop_eq_getElem_cons hlt
   rw [hd] at hr3
   unfold zcT at hr3
   have it3:=T.item XX eP eW eK eC i [] s3 σ3 H3 (notedBy (model X.prog X.w) X.A (compEnvC scope cl HH.objs.size X.env) fun e s'=>RR (.ref s2.heap.objs.size) HH.objs.size (.error e) s') I3 (hfX H3 fr3) st3 (Y.go G3 H3 i w3 hlt)
   rw [eA] at it3
   refine thn it3 fun rr s4 ⟨u,hr,h4⟩=>?_
   subst hr
   refine thn h4 fun _ s5 ⟨x,H5,I5,r5,y5,st5,fr5⟩=>?_
   obtain ⟨G5,w5,rv5⟩:=Y.yld G3 H3 i x H5 ds[i] w3 y5 (List.getElem?_eq_getElem hlt)
   have w25:=w3.trans w5
   cases eft:ft ds[i] (capR nl cap r) with
   | none=>rw [eft] at hr3; cases hr3
   | some r1=>
    rw [eft] at hr3
    simp only [opt_some,bind_ok] at hr3
    have I5':=I5.pinned (hfX H5 fr5) (T.obj _ _ st5)
    have S5:SI XX ⟨G2,H2,fun _=>none⟩ (capM nl cap m) (capR nl cap r) G5 σ3 H5:=S3.grow (by rw [eK]; exact w5)
    have rv5':RG XX.K G5 x ds[i]:=by rw [eK]; exact rv5
    have as5:=hg' _ s5 σ3 H5 x u (fun σ6 H6=>H6=H5/\SI XX ⟨G2,H2,fun _=>none⟩ (capM nl cap m) r1 G5 σ6 H5) I5' r5 ⟨capR nl cap r,G5,ds[i],S5,rv5',r1,eft,fun σ6 si6=>⟨rfl,si6⟩⟩
    rw [eE] at as5
    refine thn (weaken as5) fun _ s6 ⟨σ6,H6,I6,e6,S6⟩=>?_
    subst e6
    obtain ⟨fl1,fl2⟩:=hft _ _ _ eft
    cases eq1:q r1 with
    | stuck=>rw [eq1] at hr3; cases hr3
    | exc xx=>rw [eq1] at hr3; cases hr3
    | ok b1=>
     rw [eq1] at hr3
     simp only [bind_ok] at hr3
     have te6:=hq' _ s6 σ6 H6 (fun b H7=>b=b1/\∃G7,Grow X.K G5 H6 G7 H7) I6 ⟨r1,G5,S6,by rw [eq1]; exact fun G7 H7 w7=>⟨rfl,G7,by rw [eK] at w7; exact w7⟩⟩
     rw [eE] at te6
     refine thn (weaken te6) fun b s7 ⟨H7,I7,eb,G7,w7⟩=>?_
     subst eb
     have S7:SI XX ⟨G2,H2,fun _=>none⟩ (capM nl cap m) r1 G7 σ6 H7:=S6.grow (by rw [eK]; exact w7)
     have w27:=w25.trans w7
     have hp7:H7 s2.heap.objs.size=some (.lst ws):=w7.he _ _ (w5.he _ _ hp3)
     have hg7:G7 s2.heap.objs.size=none:=by
      rw [w7.gf _ (by rw [w5.he _ _ hp3]; simp),w5.gf _ (by rw [hp3]; simp)]; exact hg3
     have back:∀{σ8:L2.St} {H8:Hp} {G8:GH} {s8:Shared},Inv XX ([]++zhk fp s5.heap) σ8 H8 s8->Inv XX [] σ8 H8 s8/\tn (i + 1) s8.heap/\∀b∈fp,H8 b=none:=fun {σ8 H8 G8 s8} I8=>by
      refine ⟨I8.unpinned,T.keep _ _ _ st5 fun b hb o e=>(I8.pin (b,o) (List.mem_append_right _ (List.mem_append_right _ (zcF hb e)))).1,fun b hb=>?_⟩
      obtain ⟨o,e,_⟩:=T.obj _ _ st5 b hb
      exact (I8.pin (b,o) (List.mem_append_right _ (List.mem_append_right _ (zcF hb e)))).2.1
     have less:∀{σ8:L2.St} {H8:Hp} {G8:GH},SI XX ⟨G2,H2,fun _=>none⟩ (capM nl cap m) r1 G8 σ8 H8->SI XX ⟨G2,H2,fun _=>none⟩ (capM nl cap m) (capR nl cap r) G8 σ8 H8:=fun h=>h.less fl1.symm fun j d hj=>by
      by_cases hjn:j < nl
      ·exact absurd hj (zjc hjn d)
      ·rw [fl2 j (by omega)]; exact hj
     cases b with
     | false=>
      rw [if_neg Bool.false_ne_true] at hr3 ⊢
      obtain ⟨I7',t7,f7⟩:=back (G8:=G7) I7
      exact ⟨ds.length - (i + 1),by omega,i + 1,σ6,H7,G7,ws,done,rest,I7',less S7,t7,f7,w27,hp7,hg7,rs3.mono (Gle.trans w5.ge w7.ge),hr3,hv3,by omega,hlt,rfl⟩
     | true=>
      rw [if_pos rfl] at hr3 ⊢
      cases ee1:fe r1 with
      | stuck=>rw [ee1] at hr3; cases hr3
      | exc xx=>rw [ee1] at hr3; cases hr3
      | ok d1=>
       rw [ee1] at hr3
       simp only [bind_ok] at hr3
       cases er:zcT ft q fe (capR nl cap r) (ds.drop (i + 1)) with
       | stuck=>rw [er] at hr3; cases hr3
       | exc xx=>rw [er] at hr3; cases hr3
       | ok rest'=>
        rw [er] at hr3
        simp only [bind_ok] at hr3
        cases hr3
        have el7:=he' _ s7 σ6 H7 (fun v H8=>∃G8,Grow X.K G7 H7 G8 H8/\RG X.K G8 v d1) I7 ⟨r1,G7,S7,by rw [ee1]; exact fun v G8 H8 w8 rv=>⟨G8,by rw [eK] at w8; exact w8,by rw [eK] at rv; exact rv⟩⟩
        rw [eE] at el7
        refine thn (weaken el7) fun u8 s8 ⟨v8,H8,I8,r8,G8,w8,rv8⟩=>?_
        have hp8:H8 s2.heap.objs.size=some (.lst ws):=w8.he _ _ hp7
        have hg8:G8 s2.heap.objs.size=none:=by rw [w8.gf _ (by rw [hp7]; simp)]; exact hg7
        have S8:SI XX ⟨G2,H2,fun _=>none⟩ (capM nl cap m) r1 G8 σ6 H8:=S7.grow (by rw [eK]; exact w8)
        have hlen:=Paired.length rs3
        have ap8:=zcg (X:=XX) _ s8 σ6 H8 (.ref s2.heap.objs.size) [v8] (.ref s2.heap.objs.size) [u8] (fun v H9=>H9=upd H8 s2.heap.objs.size (.lst (ws++[v8]))) I8 rfl (.cons r8 .nil) ⟨_,ws,v8,rfl,rfl,hp8,by omega,rfl⟩
        refine thn (weaken ap8) fun u9 s9 ⟨v9,H9,I9,r9,e9⟩=>?_
        subst e9
        obtain ⟨I9',t9,f9⟩:=back (G8:=G8) I9
        have rsn:RGs X.K G8 (ws++[v8]) (done++[d1]):=Paired.snoc (rs3.mono (Gle.trans (Gle.trans w5.ge w7.ge) w8.ge)) rv8
        have w28:=w27.trans w8
        refine ⟨ds.length - (i + 1),by omega,i + 1,σ6,_,G8,ws++[v8],done++[d1],rest',I9',less (S8.other hg8 hp2 znC _),t9,f9,?_,zam,hg8,rsn,er,by rw [hv3,List.append_assoc]; rfl,by rw [List.length_append,List.length_singleton]; omega,hlt,rfl⟩
        refine ⟨fun b e hb=>(w28.ok b e hb).mono (fun _ _ z=>z) fun o z=>?_,fun b o hb=>?_,w28.ge,w28.gf⟩
        ·rw [zaq (by rintro rfl; rw [hg8] at hb; cases hb)]; exact z
        ·rw [zaq (by rintro rfl; rw [hp2] at hb; cases hb)]; exact w28.he b o hb
  ·have e:i=ds.length:=by omega
   subst e
   rw [List.drop_length] at hr3
   cases hr3
   rw [List.append_nil] at hv3
   subst hv3
   have dn:=T.done XX eP eW eK eC ds.length [] s3 σ3 H3 (notedBy (model X.prog X.w) X.A (compEnvC scope cl HH.objs.size X.env) fun e s'=>RR (.ref s2.heap.objs.size) HH.objs.size (.error e) s') I3 (hfX H3 fr3) st3 (Y.stop G3 H3 w3)
   rw [eA] at dn
   refine thn dn fun rr s4 ⟨hr,I4⟩=>?_
   subst hr
   exact fin' I4 w3 hp3 hg3 rs3
 exact codeAny_compStart_list loop (T.self X.A 0 _ _ _ hst₁ loop)
end
def noXL:Res (List D)->Res (List D)
 | .ok d=>.ok d
 | _=>.stuck
@[simp] theorem noXL_ok (d:List D):noXL (.ok d)=.ok d:=rfl
def zbz (nl:Nat) (cap:List Nat) (fi:FI) (ft:FT) (q:FQ) (fe:FE):FE:=fun r=>(fi r).bind fun ds=>(opt (sz ds)).bind fun ds=>(noXL (zcT ft q fe (capR nl cap r) ds)).bind fun vs=>.ok (.lst vs)
section
variable {X:Cx} {g:GE} {m mb:List Md} {scope:Scope} {N':List Str} {nl:Nat} {cap:List Nat} {elt tg iter:Expr} {ifs:List Expr} {pos pos' spos:Pos} {fi:FI} {ft:FT} {q:FQ} {fe:FE} {ro:Bool}
theorem zoO {r:Rho} {d:D} (h:zbz nl cap fi ft q fe r=.ok d):∃ds vs,fi r=.ok ds/\ds.length<=sizeLine/\zcT ft q fe (capR nl cap r) ds=.ok vs/\d=.lst vs:=by
 unfold zbz at h
 cases e1:fi r with
 | ok ds=>
  rw [e1,bind_ok] at h
  cases e2:sz ds with
  | none=>rw [e2] at h; cases h
  | some ds'=>
   obtain ⟨rfl,hl⟩:=znV e2
   rw [e2,opt_some,bind_ok] at h
   cases e3:zcT ft q fe (capR nl cap r) ds' with
   | ok vs=>rw [e3,noXL_ok,bind_ok] at h; cases h; exact ⟨ds',vs,rfl,hl,e3,rfl⟩
   | exc x=>rw [e3] at h; cases h
   | stuck=>rw [e3] at h; cases h
 | exc x=>rw [e1] at h; cases h
 | stuck=>rw [e1] at h; cases h
theorem zi5 {r:Rho} {P:D->Prop} {x:D->Prop} (h:fin (zbz nl cap fi ft q fe r) P x):fin (fi r) (fun ds=>∃vs,ds.length<=sizeLine/\zcT ft q fe (capR nl cap r) ds=.ok vs/\P (.lst vs)) x:=by
 unfold zbz at h
 refine zag (zai h) fun ds h1=>?_
 obtain ⟨ds',e2,h2⟩:=zaB (zai h1)
 obtain ⟨rfl,hl⟩:=znV e2
 cases e3:zcT ft q fe (capR nl cap r) ds' with
 | ok vs=>rw [e3] at h2; exact ⟨vs,hl,rfl,h2⟩
 | exc x=>rw [e3] at h2; exact h2.elim
 | stuck=>rw [e3] at h2; exact h2.elim
theorem CompSc.clo {pz:List (Addr × Obj)} {σ:L2.St} {H:Hp} {s:Shared} (sc:CompSc X scope N' nl cap) (ok:X.Ok):∃cl,closureFor scope X.env=pure cl/\(∀x c,cl.lookup x=some c->X.env.cells.lookup x=some c)/\(∀x,(x,NameKind.free)∈scope.names->∃c,cl.lookup x=some c):=
 zlG fun y hy hf=>ok.has y.1 (sc.freeK y hy hf)
theorem zeD (hN:X.N.Nodup) (hcalm:X.calm=true) (sc:CompSc X scope N' nl cap) (hi:SItC X g m tg iter fi) (hg:∀s0 H0 cl C fp g',SG (cxC X s0 H0 N' scope cl C fp) g' (capM nl cap m) tg ft (capM nl cap m)) (hft:FtOk ft nl)
  (hq:∀s0 H0 cl C fp g',SQs (cxC X s0 H0 N' scope cl C fp) g' (capM nl cap m) ifs q) (he:∀s0 H0 cl C fp g',SE (cxC X s0 H0 N' scope cl C fp) g' (capM nl cap m) elt fe)
  (hs:∀x,foldedSetIterable iter X.env x=pure x:=by intro _; rfl):SO X g m (.ListComp elt [⟨tg,iter,ifs,0⟩] scope pos) (zbz nl cap fi ft q fe):=by
 intro pz s σ H Q I h
 obtain ⟨r,G,si,k⟩:=h
 obtain ⟨cl,hcl,h1,h2⟩:=sc.clo (pz:=pz) (σ:=σ) (H:=H) (s:=s) I.ok
 have k1:=zi5 k
 rw [eval_ListComp]
 refine wpAny_comprehension_free (use:=none) rfl hs hcl sc.kind sc.names (thn (hi pz s σ H (fun J H'=>∃G' ds vs,Grow X.K G H G' H'/\YieldsC X.K J ds G' H'/\ds.length<=sizeLine/\zcT ft q fe (capR nl cap r) ds=.ok vs /\
  (∀a G' H',Grow X.K G H G' H'->H a=none->Own X.K G' H' a (.lst vs)->Q (.ref a) H')) I ⟨r,G,si,zag k1 fun ds ⟨vs,z1,z2,z3⟩ J G' H' w y=>⟨G',ds,vs,w,y,z1,z2,z3⟩⟩) fun v s1 hv=>thn hv fun itv s2 hv2=>?_)
 obtain ⟨it,fp,tn,J,H2,rfl,I2,T,st,hf,G2,ds,vs,w2,Y,hsz,hres,hQ⟩:=hv2
 refine zja (RR:=fun acc C=>compPost (model X.prog X.w) X.A X.xe none (EP X pz σ Q) acc C) hN hcalm sc h1 h2 I2 (si.grow w2) T st hf Y hsz (fun C=>hg _ _ _ _ _ _) hft (fun C=>hq _ _ _ _ _ _) (fun C=>he _ _ _ _ _ _) hres ?_
 intro p C s' H' G' I' hns hC1 hC2 hC3 hC4 hC5 w' hp ho
 obtain ⟨mm,hn⟩:=hns
 refine ⟨mm,hn,fun h' hsb=>⟨.ref p,H',?_,rfl,hQ p G' H' (w2.trans w') (w2.back hp) ho⟩⟩
 exact I'.turned (it:=C) (t':=s'.toks) (fun b o hb e=>hsb.extBut b o hb e) hC1 hC2.symm.symm (.inr hC3) hC4 hC5
theorem zd8 (i:Nat) {y:Str} (hN:X.N.Nodup) (hcalm:X.calm=true) (hy:X.N[i]? = some y) (hyl:X.env.scope.names.lookup y=some .local) (sc:CompSc X scope N' nl cap) (hi:SItC X g m tg iter fi) (hg:∀s0 H0 cl C fp g',SG (cxC X s0 H0 N' scope cl C fp) g' (capM nl cap m) tg ft (capM nl cap m)) (hft:FtOk ft nl)
  (hq:∀s0 H0 cl C fp g',SQs (cxC X s0 H0 N' scope cl C fp) g' (capM nl cap m) ifs q) (he:∀s0 H0 cl C fp g',SE (cxC X s0 H0 N' scope cl C fp) g' (capM nl cap m) elt fe)
  (hsw:swapsWith (.ListComp elt [⟨tg,iter,ifs,0⟩] scope pos) (some (.Name y pos')) spos.line X.env=pure true:=by rfl) (hs:∀x,foldedSetIterable iter X.env x=pure x:=by intro _; rfl) :
  SS X g ro mb m (.Assign [.Name y pos'] (.ListComp elt [⟨tg,iter,ifs,0⟩] scope pos) spos) (setF m i (zbz nl cap fi ft q fe)) (m.set i .ow):=by
 refine ⟨by simp,?_⟩
 intro pz s σ H D0 I h
 obtain ⟨r,G,si,k⟩:=h
 obtain ⟨cl,hcl,h1,h2⟩:=sc.clo (pz:=pz) (σ:=σ) (H:=H) (s:=s) I.ok
 have k1:=zi5 (zb7 si (m':=m.set i .ow) (by simp) k)
 rw [exec_Assign_Name_used _ _ _ _ hsw]
 refine wpAny_bind (wpAny_standAt (wpAny_bind ?_))
 show wpAny _ X.A (do let _ <-comprehension (.ListComp elt [⟨tg,iter,ifs,0⟩] scope pos) scope X.env _ (newList []) false (eval iter X.env) (some (assign (.Name y pos') X.env))) _ _ s
 refine wpAny_bind (wpAny_mono (wpAny_comprehension_free (use:=some (assign (.Name y pos') X.env)) (Q:=fun _ s'=>SP X pz D0 .next s') rfl hs hcl sc.kind sc.names (thn (hi pz s σ H (fun J H'=>∃G' ds vs,Grow X.K G H G' H'/\YieldsC X.K J ds G' H'/\ds.length<=sizeLine/\zcT ft q fe (capR nl cap r) ds=.ok vs /\
  (∀σ' G' H',Gle G G'->SI X g (m.set i .ow) (r.set i (some (.lst vs))) G' σ' H'->D0.nx σ' H')) I ⟨r,G,si,zag k1 fun ds ⟨vs,z1,z2,z3⟩ J G' H' w y=>⟨G',ds,vs,w,y,z1,z2,z3⟩⟩) fun v s1 hv=>thn hv fun itv s2 hv2=>?_)) (fun _ s' hq=>wpAny_pure (wpAny_pure hq)) fun _ _ e=>e)
 obtain ⟨it,fp,tn,J,H2,rfl,I2,T,st,hf,G2,ds,vs,w2,Y,hsz,hres,hQ⟩:=hv2
 refine zja (RR:=fun acc C=>compPost (model X.prog X.w) X.A X.xe (some (assign (.Name y pos') X.env)) (fun _ s'=>SP X pz D0 .next s') acc C) hN hcalm sc h1 h2 I2 (si.grow w2) T st hf Y hsz (fun C=>hg _ _ _ _ _ _) hft (fun C=>hq _ _ _ _ _ _) (fun C=>he _ _ _ _ _ _) hres ?_
 intro p C s' H' G' I' hns hC1 hC2 hC3 hC4 hC5 w' hp ho
 obtain ⟨mm,hn⟩:=hns
 show wpAny _ X.A (assign (.Name y pos') X.env (.ref p)) _ _ s'
 refine wpAny_assign_Name (zgh I' hN hy (.inl hyl) (v:=.ref p) rfl (fun s'' I'' ⟨a,hsb,ha⟩=>?_) (.inr hyl))
 have hCa:C≠a:=by
  rcases ha with z | z
  ·rw [z]; exact hC2
  ·exact (hC4 y a z).symm
 refine ⟨mm,hn.sameBut hsb hCa,fun h' hsb'=>?_⟩
 refine ⟨_,H',I''.turned (it:=C) (t':=s''.toks) (fun b o hb e=>hsb'.extBut b o hb e) hC1 hC2 (.inr hC3) hC4 hC5,?_⟩
 exact hQ _ G' H' (w2.trans w').ge (si.setN (w2.trans w') i (w2.back hp) ho)
end
def MutD (K:W.Frag) (r:V->List V->Hp->VK->Prop) (mk:D->List D->Option D):Prop:=∀(G:GH) (H:Hp) (a:Addr) (d:D) (vs:List V) (ds:List D) (d':D) (Q:VK),GOk K G H->Own K G H a d->RGs K G vs ds->mk d ds=some d' ->
 (∀o',OwnO K G (upd H a o') a d'->Q .non (upd H a o'))->r (.ref a) vs H Q
def tyB (T:String):D->Bool
 | .lst _=>T == "list"
 | .dic _=>T == "dict"
 | _=>false
def mutF (T:String) (m:List Md) (i:Nat) (fl:Rho->Res (List D)) (mk:D->List D->Option D):FS:=fun r=>match r[i]? with
 | some (some d)=>if tyB T d=true then onE m r (fl r) fun ds=>(match mk d ds with
  | some d'=>.nx (r.set i (some d'))
  | none=>.stuck) else .stuck
 | _=>.stuck
theorem zrw {K:W.Frag} {G:GH} {H:Hp} {a:Addr} {d:D} {T:String} (o:Own K G H a d) (t:tyB T d=true):tyV K T (.ref a) H:=by
 cases o.ob with
 | lst r s=>exact .inl ⟨eq_of_beq t,_,SqL.of r⟩
 | dic r s=>exact .inr (.inr (.inl ⟨eq_of_beq t,.inl ⟨_,.inl r⟩⟩))
section
variable {X:Cx} {g:GE} {m mb:List Md} {e a b o:Expr} {es:List Expr} {f fa fb:FE} {fl:Rho->Res (List D)} {pos pos' apos cpos:Pos} {ro:Bool} {x name:Str} {T id:String} {R:V->List V->Hp->VK->Prop} {mk:D->List D->Option D}
theorem zou (i:Nat) (hm:m[i]? = some .ow) (hk:MutD X.K R mk) {D0:Ends} {σ:L2.St} {H:Hp} (h:tS X g ro m m mb (mutF T m i fl mk) D0 σ H) :
  ∃v,σ[i]? = some (some v)/\tyV X.K T v H/\tL X g m fl σ H fun xs H2=>R v xs H2 fun _ H1=>D0.nx σ H1:=by
 obtain ⟨r,G,si,k⟩:=h
 unfold mutF at k
 cases er:r[i]? with
 | none=>simp only [er] at k; exact (show False from k).elim
 | some oo=>
  cases oo with
  | none=>simp only [er] at k; exact (show False from k).elim
  | some d=>
   simp only [er] at k
   by_cases ht:tyB T d=true
   ·rw [if_pos ht] at k
    obtain ⟨a,h1,h2,h3⟩:=si.mut hm er
    refine ⟨_,h1,zrw h2 ht,r,G,si,zag (zb7 si rfl k) fun ds k2 vs G' H' w rs=>?_⟩
    cases em:mk d ds with
    | none=>simp only [em] at k2; exact (show False from k2).elim
    | some d'=>
     simp only [em] at k2
     obtain ⟨a',h1',h2',h3'⟩:=(si.grow w).mut hm er
     rw [h1] at h1'; cases h1'
     exact hk G' H' a d vs ds d' _ w.ok h2' rs em fun o' ob=>k2 σ G' _ w.ge (h3' o' d' ob)
   ·rw [if_neg ht] at k; exact (show False from k).elim
theorem zgt (i:Nat) (hm:m[i]? = some .ow) (pa:PlainAttrs T) (slot:Slot T name id) (hty:typeOf (.builtin id)=pure (.type "method_descriptor")) (hmt:MtR X id R) (hk:MutD X.K R mk) (hN:X.N[i]? = some x) (hv:Vis X.env.scope x) (ha:SA X g m (e::es) fl)
  (hd:(x == ("__debug__" : Str))=false:=by decide) (hcd:(x == ("__classdict__" : Str))=false:=by decide)
  (hbase:attributeBase (.Name x pos') name X.env (eval (.Name x pos') X.env)=eval (.Name x pos') X.env:=by rfl)
  (hfew:((backTo cpos (starEach (e::es) X.env)).all (fun x=>! x.1) && (backToKw cpos (keywordEach [] X.env)).all (fun x=>x.1.isSome) && decide ((e::es).length + ([]:List Keyword).length + (if ([]:List Keyword).isEmpty then 0 else 1) < 30))=true:=by rfl)
  (hline:(apos.endLine == cpos.line)=true:=by rfl) (hst:starEach (e::es) X.env=(false,eval e X.env)::starEach es X.env:=by rfl) (hplain:(backTo cpos (starEach es X.env)).any (·.1)=false:=by rfl) :
  SS X g ro mb m (.Expr (.Call (.Attribute (.Name x pos') name apos) (e::es) [] cpos) pos) (mutF T m i fl mk) m:=
 ⟨rfl,PS.imp (zmt (zsm pa slot hty hmt (zea hN hv hd hcd) ha hbase hfew hline hst hplain)) fun D0 σ H h=>zou i hm hk h⟩
def appD:D->List D->Option D
 | .lst ds,[d]=>if ds.length < sizeLine then some (.lst (ds++[d])) else none
 | _,_=>none
theorem zhA {K:W.Frag}:MutD K zmq appD:=by
 intro G H a d vs ds d' Q gk ow rs e q
 unfold appD at e
 split at e
 ·split at e
  ·rename_i hl
   cases e
   cases ow.ob with
   | lst r s=>
    cases rs with
    | cons r1 t=>
     cases t
     have:=Paired.length s
     exact ⟨a,_,_,rfl,rfl,r,by omega,q _ (.lst zam (Paired.snoc s r1))⟩
  ·cases e
 ·cases e
def zq1 (x:Int) (n:Nat):Nat:=if x < 0 then (x + (n:Int)).toNat else min x.toNat n
def insL {α:Type} (xs:List α) (x:Int) (y:α):List α:=xs.take (zq1 x xs.length)++y::xs.drop (zq1 x xs.length)
def zmn:V->List V->Hp->VK->Prop:=fun x vs H Q=>∃l xs i y,x=.ref l/\vs=[.int i,y]/\H l=some (.lst xs)/\-(2 ^ 63)<=i/\i < 2 ^ 63/\xs.length < sizeLine/\Q .non (upd H l (.lst (insL xs i y)))
theorem zmO:MtR X "list.insert" zmn:=by
 intro pz s σ H x vs v us Q I rx rv h
 obtain ⟨l,xs,i,y,rfl,rfl,hH,h1,h2,hz,q⟩:=h
 cases rx
 obtain ⟨u,w',rfl,⟨t,rfl⟩,ry⟩:=zrs rv
 obtain ⟨z,its,n,r,hl,e⟩:=I.lstM hH
 have hfit:¬(! Builtin.List.listFitsIndex i)=true:=by rw [fitsIndex_both h1 h2]; exact Bool.false_ne_true
 refine call_meets PySem.F.slot_list_insert ⟨_,e,rfl⟩ PySem.F.entry_list_insert (PySem.F.args_list_insert_3 _ _ _) (AutoListH.list_insert_list_int_val_1 l its.toArray n i t w' hfit (by rw [List.size_toArray]; omega)) ⟨e,?_⟩
 refine ⟨.non,_,I.lset (its':=insL its i w') hH e ?_ ?_ ?_,rfl,q⟩
 ·show ((its.toArray.extract 0 (if i < 0 then (i + ((its.toArray.size:Nat):Int)).toNat else min i.toNat its.toArray.size)).push w'++its.toArray.extract (if i < 0 then (i + ((its.toArray.size:Nat):Int)).toNat else min i.toNat its.toArray.size))=(insL its i w').toArray
  rw [List.size_toArray]
  unfold insL zq1
  generalize (if i < 0 then (i + ((its.length:Nat):Int)).toNat else min i.toNat its.length)=k
  apply Array.ext'
  simp
  exact List.take_of_length_le (by rw [List.length_drop]; exact Nat.le_refl _)
 ·unfold insL
  rw [hl]
  exact Vals.append (r.take _) (.cons ry (r.drop _))
 ·unfold insL
  rw [List.length_append,List.length_cons,List.length_take,List.length_drop]
  omega
def insD:D->List D->Option D
 | .lst ds,[.int i,d]=>if ds.length < sizeLine/\-(2 ^ 63)<=i/\i < 2 ^ 63 then some (.lst (insL ds i d)) else none
 | _,_=>none
theorem zs4 {α β:Type} {F:α->β->Prop} {l:List α} {r:List β} {x:α} {y:β} (h:Paired F l r) (i:Int) (hxy:F x y):Paired F (insL l i x) (insL r i y):=by
 unfold insL
 rw [Paired.length h]
 exact Paired.app (Paired.tk _ h) (.cons hxy (Paired.dr _ h))
theorem zs3 {K:W.Frag}:MutD K zmn insD:=by
 intro G H a d vs ds d' Q gk ow rs e q
 unfold insD at e
 split at e
 ·split at e
  ·rename_i hl
   cases e
   cases ow.ob with
   | lst r s=>
    cases rs with
    | cons r1 t=>
     cases t with
     | cons r2 t=>
      cases t
      have:=Paired.length s
      exact ⟨a,_,_,_,rfl,by rw [r1.int gk],r,hl.2.1,hl.2.2,by omega,q _ (.lst zam (zs4 s _ r2))⟩
  ·cases e
 ·cases e
end
def zbm:D->Bool
 | .non=>true
 | .bl _=>true
 | .int _=>true
 | .str _=>true
 | _=>false
def toV:D->V
 | .non=>.non
 | .bl b=>.bl b
 | .int i=>.int i
 | .str x=>.str x
 | _=>.non
def eqs (a b:D):Bool:=eqV (toV a) (toV b)
@[simp] theorem eqs_int (a b:Int):eqs (.int a) (.int b)=(a == b):=rfl
@[simp] theorem eqs_str (a b:Str):eqs (.str a) (.str b)=(a == b):=rfl
@[simp] theorem eqs_non_int (b:Int):eqs .non (.int b)=false:=rfl
@[simp] theorem eqs_int_non (b:Int):eqs (.int b) .non=false:=rfl
section
variable {K:W.Frag} {G:GH} {H:Hp} {v:V} {d:D}
theorem RB.flat (h:RB K G H v d) (gk:GOk K G H) (hf:zbm d=true):v=toV d/\zdK v=true:=by
 cases d with
 | non=>rw [h.non gk]; exact ⟨rfl,rfl⟩
 | bl b=>rw [h.bl gk]; exact ⟨rfl,rfl⟩
 | int i=>rw [h.int gk]; exact ⟨rfl,rfl⟩
 | str x=>rw [h.str gk]; exact ⟨rfl,rfl⟩
 | _=>cases hf
theorem zq8 {xs:List V} {ds:List D} (h:RGs K G xs ds) (gk:GOk K G H) (hf:ds.all zbm=true):xs=ds.map toV/\xs.all zdK=true:=by
 induction h with
 | nil=>exact ⟨rfl,rfl⟩
 | cons r t ih=>
  rw [List.all_cons,Bool.and_eq_true] at hf
  obtain ⟨e1,e2⟩:=RB.flat (H:=H) r.rb gk hf.1
  obtain ⟨e3,e4⟩:=ih hf.2
  exact ⟨by rw [List.map_cons,<-e3,<-e1],by rw [List.all_cons,e2,e4]; rfl⟩
end
def keyD:D->Option Key
 | .int i=>some (.inl i)
 | .str x=>some (.inr x)
 | _=>none
def hasK (kz:List (Key × D)) (k:Key):Bool:=kz.any fun kv=>decide (kv.1=k)
def getK (kz:List (Key × D)) (k:Key):Option D:=(kz.find? fun kv=>decide (kv.1=k)).map (·.2)
def inB (x c:D):Option Bool:=match c with
 | .lst ds=>if zbm x=true/\ds.all zbm=true then some (ds.any fun y=>eqs y x) else none
 | .tup ds=>if zbm x=true/\ds.all zbm=true then some (ds.any fun y=>eqs y x) else none
 | .dic kz=>(keyD x).map (hasK kz)
 | .str y=>match x with
  | .str z=>some (!(Builtin.Str.occurrences y z 0 y.length 1).isEmpty)
  | _=>none
 | _=>none
def inD (x c:D):Option D:=(inB x c).map .bl
def ninD (x c:D):Option D:=(inB x c).map fun b=>.bl (! b)
theorem zpQ {K:W.Frag} {G:GH} {k:Key} {ps:List (Key × V)} {kz:List (Key × D)} (h:RKs K G ps kz) (d:D) (e:getK kz k=some d):∃v,valV ps k=some v/\RG K G v d:=by
 induction h with
 | nil=>cases e
 | @cons p q ps kz r t ih=>
  obtain ⟨k1,v1⟩:=p
  obtain ⟨k2,d2⟩:=q
  obtain ⟨e1,r1⟩:=r
  have e1':k1=k2:=e1
  subst e1'
  by_cases hk:k1=k
  ·subst hk
   have:d2=d:=by simpa [getK,List.find?_cons] using e
   subst this
   exact ⟨v1,zf1 rfl,r1⟩
  ·have e':getK kz k=some d:=by simpa [getK,List.find?_cons,hk] using e
   obtain ⟨v,h1,h2⟩:=ih e'
   exact ⟨v,by rw [zeX hk]; exact h1,h2⟩
theorem znj {K:W.Frag} {G:GH} {k:Key} {ps:List (Key × V)} {kz:List (Key × D)} (h:RKs K G ps kz) (e:getK kz k=none):valV ps k=none:=by
 induction h with
 | nil=>rfl
 | @cons p q ps kz r t ih=>
  obtain ⟨k1,v1⟩:=p
  obtain ⟨k2,d2⟩:=q
  obtain ⟨e1,r1⟩:=r
  have e1':k1=k2:=e1
  subst e1'
  by_cases hk:k1=k
  ·subst hk; simp [getK,List.find?_cons] at e
  ·have e':getK kz k=none:=by simpa [getK,List.find?_cons,hk] using e
   rw [zeX hk]; exact ih e'
theorem zs9 (kz:List (Key × D)) (k:Key):hasK kz k=(getK kz k).isSome:=by
 induction kz with
 | nil=>rfl
 | cons p r ih=>
  by_cases e:p.1=k
  ·simp [hasK,getK,List.find?_cons,e]
  ·have h1:hasK (p::r) k=hasK r k:=by simp [hasK,e]
   have h2:getK (p::r) k=getK r k:=by simp [getK,List.find?_cons,e]
   rw [h1,h2,ih]
theorem zm1 {K:W.Frag} {G:GH} {H:Hp} {v:V} {d:D} {k:Key} (gk:GOk K G H) (h:RB K G H v d) (e:keyD d=some k):v=kV k:=by
 cases d with
 | int i=>cases e; exact h.int gk
 | str x=>cases e; exact h.str gk
 | _=>cases e
section
variable {X:Cx} {g:GE} {m mb:List Md} {e a b o c:Expr} {f fa fb fc:FE} {pos pos':Pos}
def rInD (neg:Bool):R2:=fun y x H Q=>∃a o,x=.ref a/\DGet H a y o/\Q (.bl (if neg then ! o.isSome else o.isSome)) H
theorem zsv (hu:X.A.units + 1 < cLine):OpR X (compareOp .In) (rInD false):=by
 intro pz s σ H y x u v Q I ry rx h
 obtain ⟨a,oo,rfl,hg,q⟩:=h
 cases rx
 exact d_in hu I hg ry fun s' I'=>⟨.bl _,H,I',rfl,q⟩
theorem zqF (hu:X.A.units + 1 < cLine):OpR X (compareOp .NotIn) (rInD true):=by
 intro pz s σ H y x u v Q I ry rx h
 obtain ⟨a,oo,rfl,hg,q⟩:=h
 cases rx
 exact zrc hu I hg ry fun s' I'=>⟨.bl _,H,I',rfl,q⟩
def rInA (K:W.Frag) (neg:Bool):R2:=fun x y H Q=>rIn K neg x y H Q\/rInD neg x y H Q\/∃i j,x=.str i/\y=.str j/\Q (.bl (if neg then !(!(Builtin.Str.occurrences j i 0 j.length 1).isEmpty) else !(Builtin.Str.occurrences j i 0 j.length 1).isEmpty)) H
theorem zsw (hu:X.A.units + 1 < cLine):OpR X (compareOp .In) (rInA X.K false):=OpR.or zmG (OpR.or (zsv hu) zmF)
theorem zqG (hu:X.A.units + 1 < cLine):OpR X (compareOp .NotIn) (rInA X.K true):=OpR.or ziO (OpR.or (zqF hu) ziN)
theorem zna {K:W.Frag} (neg:Bool):OpD K (rInA K neg) (fun x c=>(inB x c).map fun b=>.bl (if neg then ! b else b)):=by
 intro G H v1 v2 d1 d2 d Q gk r1 r2 e q
 have seq:∀{xs:List V} {ds:List D} {p:Addr},RGs K G xs ds->v2=.ref p->(SqL K H p xs\/SqT K H p xs)->zbm d1=true->ds.all zbm=true->d=.bl (if neg then !(ds.any fun y=>eqs y d1) else ds.any fun y=>eqs y d1)->rInA K neg v1 v2 H Q:=fun {xs ds p} rs e2 hs hf hfs ed=>by
  obtain ⟨e1,f1⟩:=RB.flat r1 gk hf
  obtain ⟨e3,f3⟩:=zq8 rs gk hfs
  refine .inl ⟨p,xs,e2,hs,f1,f3,q _ G H (Grow.refl gk) ?_⟩
  have:inV v1 xs=ds.any fun y=>eqs y d1:=by
   unfold inV
   rw [e3,List.any_map,e1]
   rfl
  rw [this,ed]
  exact .scl (.bl _)
 cases d2 with
 | lst ds=>
  by_cases hc:zbm d1=true/\ds.all zbm=true
  ·simp only [inB,if_pos hc,Option.map_some] at e
   obtain ⟨p,xs,e2,hs,rs⟩:=r2.lst gk
   exact seq rs e2 (.inl hs) hc.1 hc.2 (Option.some.inj e).symm
  ·simp only [inB,if_neg hc,Option.map_none] at e
   cases e
 | tup ds=>
  by_cases hc:zbm d1=true/\ds.all zbm=true
  ·simp only [inB,if_pos hc,Option.map_some] at e
   obtain ⟨p,xs,e2,hs,rs⟩:=r2.tup gk
   exact seq rs e2 (.inr hs) hc.1 hc.2 (Option.some.inj e).symm
  ·simp only [inB,if_neg hc,Option.map_none] at e
   cases e
 | dic kz=>
  simp only [inB] at e
  cases ek:keyD d1 with
  | none=>rw [ek] at e; cases e
  | some k=>
   rw [ek] at e
   cases e
   obtain ⟨p,ps,rfl,hs,rs⟩:=r2.dic gk
   refine .inr (.inl ⟨p,valV ps k,rfl,by rw [zm1 gk r1 ek]; exact .inl ⟨ps,k,hs,rfl,rfl⟩,q _ G H (Grow.refl gk) ?_⟩)
   have:(valV ps k).isSome=hasK kz k:=by
    rw [zs9]
    cases eg:getK kz k with
    | none=>rw [znj rs eg]; rfl
    | some d=>obtain ⟨v,h1,_⟩:=zpQ rs d eg; rw [h1]; rfl
   rw [this]
   exact .scl (.bl _)
 | str y=>
  cases d1 with
  | str z=>cases e; exact .inr (.inr ⟨z,y,r1.str gk,r2.str gk,q _ G H (Grow.refl gk) (.scl (.bl _))⟩)
  | _=>cases e
 | _=>cases e
theorem zuo {K:W.Frag}:OpD K (rInA K false) inD:=by
 have h:=zna (K:=K) false
 have e:(fun x c=>(inB x c).map fun b=>D.bl (if false=true then ! b else b))=inD:=by
  funext x c; unfold inD; cases inB x c <;> rfl
 rw [e] at h; exact h
theorem zsE {K:W.Frag}:OpD K (rInA K true) ninD:=by
 have h:=zna (K:=K) true
 have e:(fun x c=>(inB x c).map fun b=>D.bl (if true=true then ! b else b))=ninD:=by
  funext x c; unfold ninD; cases inB x c <;> rfl
 rw [e] at h; exact h
theorem q_in (hu:X.A.units + 1 < cLine) (ha:SB X g m a fa) (hb:SB X g m b fb) (hm:behindInMarks .In b=false:=by rfl):SQ X g m (.Compare a [.In] [b] pos) (zaH (f2 fa fb inD)):=ziJ (zsw hu) zuo ha hb hm
theorem zqp (hu:X.A.units + 1 < cLine) (ha:SB X g m a fa) (hb:SB X g m b fb) (hm:behindInMarks .NotIn b=false:=by rfl):SQ X g m (.Compare a [.NotIn] [b] pos) (zaH (f2 fa fb ninD)):=ziJ (zqG hu) zsE ha hb hm
def isD:D->D->Option D
 | .non,.non=>some (.bl true)
 | _,.non=>some (.bl false)
 | _,_=>none
def isnD:D->D->Option D
 | .non,.non=>some (.bl false)
 | _,.non=>some (.bl true)
 | _,_=>none
theorem RB.isnon {K:W.Frag} {G:GH} {H:Hp} {v:V} {d:D} (gk:GOk K G H) (h:RB K G H v d):(v=.non↔d=.non):=by
 constructor
 ·intro e
  subst e
  rcases h with h | ⟨a,e,_⟩
  ·cases h with
   | scl s=>cases s; rfl
  ·cases e
 ·intro e
  subst e
  exact h.non gk
theorem zum {K:W.Frag}:OpD K (fun x y H Q=>y=.non/\Q (.bl (decide (x=.non))) H) isD:=by
 intro G H v1 v2 d1 d2 d Q gk r1 r2 e q
 have hn:=r1.isnon gk
 cases d2 with
 | non=>
  refine ⟨r2.non gk,q _ G H (Grow.refl gk) ?_⟩
  cases d1 with
  | non=>cases e; rw [decide_eq_true (hn.mpr rfl)]; exact .scl (.bl _)
  | _=>cases e; rw [decide_eq_false (fun z=>by have:=hn.mp z; cases this)]; exact .scl (.bl _)
 | _=>cases d1 <;> cases e
theorem zs1 {K:W.Frag}:OpD K (fun x y H Q=>y=.non/\Q (.bl (! decide (x=.non))) H) isnD:=by
 intro G H v1 v2 d1 d2 d Q gk r1 r2 e q
 have hn:=r1.isnon gk
 cases d2 with
 | non=>
  refine ⟨r2.non gk,q _ G H (Grow.refl gk) ?_⟩
  cases d1 with
  | non=>cases e; rw [decide_eq_true (hn.mpr rfl)]; exact .scl (.bl _)
  | _=>cases e; rw [decide_eq_false (fun z=>by have:=hn.mp z; cases this)]; exact .scl (.bl _)
 | _=>cases d1 <;> cases e
theorem q_is (ha:SB X g m a fa) (hb:SB X g m b fb):SQ X g m (.Compare a [.Is] [b] pos) (zaH (f2 fa fb isD)):=ziJ zsu zum ha hb (zfL _)
theorem zt3 (ha:SB X g m a fa) (hb:SB X g m b fb):SQ X g m (.Compare a [.IsNot] [b] pos) (zaH (f2 fa fb isnD)):=ziJ zqE zs1 ha hb (zfL _)
end
end DL
section
namespace DL
open PySem PySem.Spec PyProof.Rows L2
section
variable {X:Cx} {g:GE} {m mb:List Md} {e a b o c:Expr} {f fa fb fc:FE} {pos pos' p1 p2:Pos} {ro:Bool} {x:Str}
def rIxD:R2:=fun x y H Q=>∃a v,x=.ref a/\DGet H a y (some v)/\Q v H
theorem zsW (hu:X.A.units + 1 < cLine):IxR X rIxD:=by
 intro value slice pz s σ H x y v u Q I rx ry h hs
 obtain ⟨a,w,rfl,hg,q⟩:=h
 cases rx
 exact tail_any (zjY I hg) PySem.F.slot_dict_getitem.lookup (znw hu I hg ry fun w' s' I' rw'=>⟨w,H,I',rw',q⟩) hs
def ixA:D->D->Option D
 | .dic kz,k=>(keyD k).bind (getK kz)
 | c,k=>ixD c k
theorem zsZ {K:W.Frag}:OpD K (fun x y H Q=>rIxD x y H Q\/rIx K x y H Q) ixA:=by
 intro G H v1 v2 d1 d2 d Q gk r1 r2 e q
 cases d1 with
 | dic kz=>
  obtain ⟨a,ps,rfl,hs,rs⟩:=r1.dic gk
  have e':(keyD d2).bind (getK kz)=some d:=e
  cases ek:keyD d2 with
  | none=>rw [ek] at e'; cases e'
  | some k=>
   rw [ek] at e'
   obtain ⟨v,h1,h2⟩:=zpQ rs d e'
   refine .inl ⟨a,v,rfl,?_,q v G H (Grow.refl gk) h2⟩
   rw [zm1 gk r2 ek,<-h1]
   exact .inl ⟨ps,k,hs,rfl,rfl⟩
 | lst ds=>exact .inr (zq0 G H v1 v2 _ d2 d Q gk r1 r2 e q)
 | tup ds=>exact .inr (zq0 G H v1 v2 _ d2 d Q gk r1 r2 e q)
 | str ds=>exact .inr (zq0 G H v1 v2 _ d2 d Q gk r1 r2 e q)
 | _=>cases e
theorem zcl (hu:X.A.units + 1 < cLine) (ha:SB X g m a fa) (hb:SB X g m b fb) (hs:zg2 b:=by intro _ _; rfl):SE X g m (.Subscript a b pos) (f2 fa fb ixA):=zqa zsZ (zof (IxR.or (zsW hu) zsV) ha hb hs)
theorem zho:SO X g m (.Dict [] [] pos) fun _=>.ok (.dic []):=
 PE.imp zoh fun σ H Q ⟨r,G,si,q⟩ p hp=>q p G _ (Grow.new si.gok hp _) hp ⟨si.gok.isN hp,.dic zam .nil⟩
def putD (kz:List (Key × D)) (k:Key) (d:D):List (Key × D):=if (kz.any fun kv=>decide (kv.1=k))=true then kz.map fun kv=>if kv.1=k then (kv.1,d) else kv else kz++[(k,d)]
theorem zo2 {K:W.Frag} {G:GH} {k:Key} {ps:List (Key × V)} {kz:List (Key × D)} (h:RKs K G ps kz):(ps.any fun kv=>decide (kv.1=k))=kz.any fun kv=>decide (kv.1=k):=by
 induction h with
 | nil=>rfl
 | cons r t ih=>rw [List.any_cons,List.any_cons,ih,r.1]
theorem zr9 {K:W.Frag} {G:GH} {ps:List (Key × V)} {kz:List (Key × D)} {k:Key} {v:V} {d:D} (r:RKs K G ps kz) (h:RG K G v d):RKs K G (putK ps k v) (putD kz k d):=by
 unfold putK putD
 rw [zo2 r]
 by_cases hc:(kz.any fun kv=>decide (kv.1=k))=true
 ·rw [if_pos hc,if_pos hc]
  clear hc
  induction r with
  | nil=>exact .nil
  | @cons p q ps kz r t ih=>
   refine .cons ?_ ih
   obtain ⟨p1,p2⟩:=p
   obtain ⟨q1,q2⟩:=q
   have e:p1=q1:=r.1
   subst e
   by_cases hk:p1=k
   ·simp only [hk,if_true,true_and]; exact h
   ·simp only [hk,if_false,true_and]; exact r.2
 ·rw [if_neg hc,if_neg hc]
  exact Paired.snoc r ⟨rfl,h⟩
def stoD:D->D->D->Option D
 | .lst ds,.int k,v=>(ixN ds.length k).map fun j=>.lst (ds.set j v)
 | .dic kz,k,v=>(keyD k).bind fun k=>if kz.length < sizeLine then some (.dic (putD kz k v)) else none
 | _,_,_=>none
def zr3:V->V->V->Hp->(Hp->Prop)->Prop:=fun o i v H Q=>∃p H',o=.ref p/\DPut H p i v H'/\Q H'
theorem zp9 (hu:X.A.units + 1 < cLine):PSet X zr3:=by
 intro pz s σ H o i v ov iv u Q I ro ri rv h
 obtain ⟨p,H',rfl,hp,q⟩:=h
 cases ro
 exact znv hu I hp ri rv fun s' I'=>⟨H',I',q⟩
theorem PSet.or {t t':TSet} (h:PSet X t) (h':PSet X t'):PSet X (fun o i v H Q=>t o i v H Q\/t' o i v H Q):=by
 intro pz s σ H o i v ov iv u Q I ro ri rv q
 rcases q with q | q
 ·exact h pz s σ H o i v ov iv u Q I ro ri rv q
 ·exact h' pz s σ H o i v ov iv u Q I ro ri rv q
theorem zrG {K:W.Frag} {G:GH} {H:Hp} {a:Addr} {d k v d':D} {kv vv:V} {Q:Hp->Prop} (gk:GOk K G H) (ow:Own K G H a d) (rk:RB K G H kv k) (rv:RG K G vv v) (e:stoD d k v=some d') (q:∀o',OwnO K G (upd H a o') a d'->Q (upd H a o')) :
  zr2 (.ref a) kv vv H Q\/zr3 (.ref a) kv vv H Q:=by
 cases ow.ob with
 | @lst xs ds r s=>
  cases k with
  | int k=>
   have e':(ixN ds.length k).map (fun j=>D.lst (ds.set j v))=some d':=e
   cases ej:ixN ds.length k with
   | none=>rw [ej] at e'; cases e'
   | some j=>
    rw [ej] at e'
    cases e'
    exact .inl ⟨a,xs,k,j,rfl,rk.int gk,r,by rw [Paired.length s]; exact ej,q _ (.lst zam (Paired.st rv j s))⟩
  | _=>cases e
 | @dic ps kz r s=>
  have e':(keyD k).bind (fun k=>if kz.length < sizeLine then some (D.dic (putD kz k v)) else none)=some d':=e
  cases ek:keyD k with
  | none=>rw [ek] at e'; cases e'
  | some k'=>
   rw [ek] at e'
   have e2:(if kz.length < sizeLine then some (D.dic (putD kz k' v)) else none)=some d':=e'
   by_cases hl:kz.length < sizeLine
   ·rw [if_pos hl] at e2
    cases e2
    have:=Paired.length s
    refine .inr ⟨a,_,rfl,?_,q _ (.dic zam (zr9 s rv))⟩
    rw [zm1 gk rk ek]
    exact DPut.k r (by omega)
   ·rw [if_neg hl] at e2; cases e2
def putF (m:List Md) (i:Nat) (fk fv:FE):FS:=fun r=>onE m r (fv r) fun v=>match r[i]? with
 | some (some d)=>onE m r (fk r) fun k=>(match stoD d k v with
  | some d'=>.nx (r.set i (some d'))
  | none=>.stuck)
 | _=>.stuck
theorem zl4 (i:Nat) (hu:X.A.units + 1 < cLine) (hm:m[i]? = some .ow) (hN:X.N[i]? = some x) (hv:Vis X.env.scope x) (hk:SB X g m b fb) (he:SE X g m e f)
  (hd:(x == ("__debug__" : Str))=false:=by decide) (hcd:(x == ("__classdict__" : Str))=false:=by decide)
  (ha:∀v,assign (.Subscript (.Name x p1) b p2) X.env v=(do
   let ov <-holding [v] (eval (.Name x p1) X.env)
   let iv <-holding [v,ov] (eval b X.env)
   standAt p2
   holding [v,ov,iv] (setItem ov iv v)
   release [v,ov,iv] []):=by intro _; rfl)
  (hs:swapsWithSole [.Subscript (.Name x p1) b p2] e pos.line X.env=pure false:=by rfl) (hw:swappedStores [.Subscript (.Name x p1) b p2] e X.env=pure none:=by rfl)
  (h1:(assignEach [.Subscript (.Name x p1) b p2] X.env).map (·.2)=[assign (.Subscript (.Name x p1) b p2) X.env]:=by rfl) :
  SS X g ro mb m (.Assign [.Subscript (.Name x p1) b p2] e pos) (putF m i fb f) m:=by
 refine ⟨rfl,PS.imp (zpm he (zpo (zea hN hv hd hcd) hk (PSet.or zkg (zp9 hu)) ha) hs hw h1) fun D0 σ H ⟨r,G,si,k⟩=>⟨r,G,si,?_⟩⟩
 refine zag (zb7 si rfl k) fun v k1 vv G1 H1 w1 rv=>?_
 cases er:r[i]? with
 | none=>simp only [er] at k1; exact (show False from k1).elim
 | some oo=>
  cases oo with
  | none=>simp only [er] at k1; exact (show False from k1).elim
  | some d=>
   simp only [er] at k1
   obtain ⟨a,h1,h2,h3⟩:=(si.grow w1).mut hm er
   refine ⟨_,h1,r,G1,si.grow w1,?_⟩
   refine zag (zb7 (m:=m) (si.grow w1) rfl (oTo.gle k1 w1.ge)) fun kk k2 kv G2 H2 w2 rk=>?_
   cases es:stoD d kk v with
   | none=>simp only [es] at k2; exact (show False from k2).elim
   | some d'=>
    simp only [es] at k2
    obtain ⟨a',h1',h2',h3'⟩:=((si.grow w1).grow w2).mut hm er
    rw [h1] at h1'; cases h1'
    exact zrG w2.ok h2' rk (rv.mono w2.ge) es fun o' ob=>k2 σ G2 _ w2.ge (h3' o' d' ob)
end
mutual
def toPy:D->PyData
 | .non=>.none
 | .bl b=>.bool b
 | .int i=>.int i
 | .str x=>.str x
 | .tup ds=>.tuple (zeu ds)
 | .lst ds=>.list (zeu ds)
 | .dic _=>.none
 | .obj _ _=>.none
def zeu:List D->List PyData
 | []=>[]
 | d::ds=>toPy d::zeu ds
end
def Shp:Nat->D->Prop
 | _,.non=>True
 | _,.bl _=>True
 | _,.int _=>True
 | _,.str x=>PyData.strOk x=true
 | 0,.tup _=>False
 | 0,.lst _=>False
 | k + 1,.tup ds=>∀d∈ds,Shp k d
 | k + 1,.lst ds=>∀d∈ds,Shp k d
 | _,.dic _=>False
 | _,.obj _ _=>False
theorem zl0 {k:Nat} {ds:List D}:Shp (k + 1) (.lst ds)↔∀d∈ds,Shp k d:=by simp only [Shp]
theorem zgr {k:Nat} {ds:List D}:Shp (k + 1) (.tup ds)↔∀d∈ds,Shp k d:=by simp only [Shp]
def eqb (a b:D):Bool:=PyData.eqv (toPy a) (toPy b)
section
variable {X:Cx} {pz:List (Addr × Obj)} {σ:L2.St} {H:Hp} {s:Shared} {G:GH}
theorem ziI {k:Nat} (ih:∀(d:D) (v:V) (u:Value),Shp k d->RG X.K G v d->L2.RelV v u->∃as,Reads s.heap u (toPy d) as) (ds:List D) (vs:List V) (us:List Value) (h:∀d∈ds,Shp k d) (r:RGs X.K G vs ds) (q:Vals vs us):∃as,ReadsAll s.heap us (zeu ds) as:=by
 induction r generalizing us with
 | nil=>cases q; exact ⟨[],.nil⟩
 | cons r t ih'=>
  cases q with
  | cons r' t'=>
   obtain ⟨a1,h1⟩:=ih _ _ _ (h _ List.mem_cons_self) r r'
   obtain ⟨a2,h2⟩:=ih' _ (fun x hx=>h x (List.mem_cons_of_mem _ hx)) t'
   exact ⟨a1++a2,.cons h1 h2⟩
theorem zf2 (I:Inv X pz σ H s) (gk:GOk X.K G H):∀(k:Nat) (d:D) (v:V) (u:Value),Shp k d->RB X.K G H v d->L2.RelV v u->∃as,Reads s.heap u (toPy d) as:=by
 intro k
 induction k with
 | zero=>
  intro d v u hs r ru
  cases d with
  | non=>rw [r.non gk] at ru; cases ru; exact ⟨_,.none⟩
  | bl b=>rw [r.bl gk] at ru; cases ru; exact ⟨_,.bool b⟩
  | int i=>rw [r.int gk] at ru; obtain ⟨t,rfl⟩:=ru; exact ⟨_,.int i t⟩
  | str x=>rw [r.str gk] at ru; obtain ⟨t,rfl⟩:=ru; exact ⟨_,.str x t⟩
  | tup _=>unfold Shp at hs; exact hs.elim
  | lst _=>unfold Shp at hs; exact hs.elim
  | dic _=>unfold Shp at hs; exact hs.elim
  | obj _ _=>unfold Shp at hs; exact hs.elim
 | succ k ih=>
  intro d v u hs r ru
  cases d with
  | non=>rw [r.non gk] at ru; cases ru; exact ⟨_,.none⟩
  | bl b=>rw [r.bl gk] at ru; cases ru; exact ⟨_,.bool b⟩
  | int i=>rw [r.int gk] at ru; obtain ⟨t,rfl⟩:=ru; exact ⟨_,.int i t⟩
  | str x=>rw [r.str gk] at ru; obtain ⟨t,rfl⟩:=ru; exact ⟨_,.str x t⟩
  | tup ds=>
   obtain ⟨a,xs,rfl,sq,rs⟩:=r.tup gk
   cases ru
   obtain ⟨its,rv,pl,_⟩:=I.tuple sq
   obtain ⟨o,ho,hc,n,hd⟩:=pl
   obtain ⟨as,h⟩:=ziI (k:=k) (fun d v u h1 h2 h3=>ih d v u h1 h2.rb h3) ds xs its (zgr.mp hs) rs rv
   refine ⟨as,?_⟩
   unfold toPy
   exact .tuple ho hc hd (by simpa using h)
  | lst ds=>
   obtain ⟨a,xs,rfl,sq,rs⟩:=r.lst gk
   cases ru
   obtain ⟨its,rv,pl,_⟩:=I.list sq
   obtain ⟨o,ho,hc,n,hd⟩:=pl.isList
   obtain ⟨as,h⟩:=ziI (k:=k) (fun d v u h1 h2 h3=>ih d v u h1 h2.rb h3) ds xs its (zl0.mp hs) rs rv
   refine ⟨a::as,?_⟩
   unfold toPy
   exact .list ho hc hd (by simpa using h)
  | dic _=>unfold Shp at hs; exact hs.elim
  | obj _ _=>unfold Shp at hs; exact hs.elim
theorem zju {k:Nat} (ih:∀d,Shp k d->PyData.canLay0 (toPy d)=true/\PyData.depth (toPy d)<=k):∀ds:List D,(∀d∈ds,Shp k d)->PyData.canLayAll0 (zeu ds)=true/\PyData.depthAll (zeu ds)<=k
 | [],_=>by unfold zeu PyData.canLayAll0 PyData.depthAll; exact ⟨rfl,Nat.zero_le _⟩
 | d::ds,h=>by
  obtain ⟨a1,a2⟩:=ih d (h d List.mem_cons_self)
  obtain ⟨b1,b2⟩:=zju ih ds fun x hx=>h x (List.mem_cons_of_mem _ hx)
  unfold zeu PyData.canLayAll0 PyData.depthAll
  rw [a1,b1]
  exact ⟨rfl,Nat.max_le.mpr ⟨a2,b2⟩⟩
theorem zrK:∀(k:Nat) (d:D),Shp k d->PyData.canLay0 (toPy d)=true/\PyData.depth (toPy d)<=k:=by
 intro k
 induction k with
 | zero=>
  intro d hs
  cases d with
  | non=>unfold toPy PyData.canLay0 PyData.depth; exact ⟨rfl,Nat.zero_le _⟩
  | bl b=>unfold toPy PyData.canLay0 PyData.depth; exact ⟨rfl,Nat.zero_le _⟩
  | int i=>unfold toPy PyData.canLay0 PyData.depth; exact ⟨rfl,Nat.zero_le _⟩
  | str x=>unfold Shp at hs; unfold toPy PyData.canLay0 PyData.depth; exact ⟨hs,Nat.zero_le _⟩
  | tup _=>unfold Shp at hs; exact hs.elim
  | lst _=>unfold Shp at hs; exact hs.elim
  | dic _=>unfold Shp at hs; exact hs.elim
  | obj _ _=>unfold Shp at hs; exact hs.elim
 | succ k ih=>
  intro d hs
  cases d with
  | non=>unfold toPy PyData.canLay0 PyData.depth; exact ⟨rfl,Nat.zero_le _⟩
  | bl b=>unfold toPy PyData.canLay0 PyData.depth; exact ⟨rfl,Nat.zero_le _⟩
  | int i=>unfold toPy PyData.canLay0 PyData.depth; exact ⟨rfl,Nat.zero_le _⟩
  | str x=>unfold Shp at hs; unfold toPy PyData.canLay0 PyData.depth; exact ⟨hs,Nat.zero_le _⟩
  | tup ds=>
   obtain ⟨b1,b2⟩:=zju ih ds (zgr.mp hs)
   unfold toPy PyData.canLay0 PyData.depth
   exact ⟨b1,Nat.succ_le_succ b2⟩
  | lst ds=>
   obtain ⟨b1,b2⟩:=zju ih ds (zl0.mp hs)
   unfold toPy PyData.canLay0 PyData.depth
   exact ⟨b1,Nat.succ_le_succ b2⟩
  | dic _=>unfold Shp at hs; exact hs.elim
  | obj _ _=>unfold Shp at hs; exact hs.elim
theorem ze2 {d:D} (h:Shp 60 d):SeqAt.shaped (toPy d)=true:=by
 obtain ⟨a,b⟩:=zrK 60 d h
 unfold SeqAt.shaped
 rw [a,decide_eq_true (Nat.le_trans b (by decide))]
 rfl
end
section
variable {X:Cx} {g:GE} {m mb:List Md} {e a b o c:Expr} {f fa fb fc:FE} {pos pos':Pos}
def zk9 (a b:D):Bool:=zbm a && zbm b && scal (toV a) (toV b)
open Classical in
def eqB (a b:D):Option Bool:=if zk9 a b=true then some (eqs a b) else if Shp 60 a/\Shp 60 b then some (eqb a b) else none
def eqD (a b:D):Option D:=(eqB a b).map .bl
def neD (a b:D):Option D:=(eqB a b).map fun c=>.bl (! c)
theorem zoQ {a b:D} (h:zk9 a b=false) (h1:Shp 60 a) (h2:Shp 60 b):eqB a b=some (eqb a b):=by
 unfold eqB
 rw [if_neg (by rw [h]; exact Bool.false_ne_true),if_pos ⟨h1,h2⟩]
theorem zkQ {a b:D} (h:zk9 a b=true):eqB a b=some (eqs a b):=by
 unfold eqB
 rw [if_pos h]
@[simp] theorem eqB_int (a b:Int):eqB (.int a) (.int b)=some (a == b):=zkQ rfl
@[simp] theorem eqB_non_int (b:Int):eqB .non (.int b)=some false:=zkQ rfl
theorem zkh {a b:D} (h:scal (toV a) (toV b)=true) (fa:zbm a=true) (fb:zbm b=true):decide (toV a=toV b)=eqs a b:=by
 cases a <;> cases b <;> first
  | exact absurd (show false=true from fa) Bool.false_ne_true
  | exact absurd (show false=true from fb) Bool.false_ne_true
  | exact absurd (show false=true from h) Bool.false_ne_true
  | exact zj0
  | exact znt
  | exact zjZ
  | rfl
  | simp [toV,eqs,eqV]
def zhX (K:W.Frag) (neg:Bool):R2:=fun x y H Q=>∃(G:GH) (d1 d2:D),GOk K G H/\RB K G H x d1/\RB K G H y d2/\Shp 60 d1/\Shp 60 d2/\Q (.bl (if neg then ! eqb d1 d2 else eqb d1 d2)) H
theorem ziP (hu:X.A.units + 64 < cLine):OpR X (compareOp .Eq) (zhX X.K false):=by
 intro pz s σ H x y v u Q I rx ry h
 obtain ⟨G,d1,d2,gk,r1,r2,s1,s2,q⟩:=h
 obtain ⟨as,h1⟩:=zf2 I gk 60 d1 x v s1 r1 rx
 obtain ⟨bs,h2⟩:=zf2 I gk 60 d2 y u s2 r2 ry
 exact SeqAt.compareEq_shaped h1 h2 (ze2 s1) (ze2 s2) hu ⟨.bl _,H,I,rfl,q⟩
theorem zmE (hu:X.A.units + 64 < cLine):OpR X (compareOp .NotEq) (zhX X.K true):=by
 intro pz s σ H x y v u Q I rx ry h
 obtain ⟨G,d1,d2,gk,r1,r2,s1,s2,q⟩:=h
 obtain ⟨as,h1⟩:=zf2 I gk 60 d1 x v s1 r1 rx
 obtain ⟨bs,h2⟩:=zf2 I gk 60 d2 y u s2 r2 ry
 exact SeqAt.compareNe_shaped h1 h2 (ze2 s1) (ze2 s2) hu ⟨.bl _,H,I,rfl,q⟩
theorem eq_cases {a b:D} {c:Bool} (h:eqB a b=some c):(zk9 a b=true/\c=eqs a b)\/(Shp 60 a/\Shp 60 b/\c=eqb a b):=by
 unfold eqB at h
 split at h
 ·rename_i hs; cases h; exact .inl ⟨hs,rfl⟩
 ·split at h
  ·rename_i hs; cases h; exact .inr ⟨hs.1,hs.2,rfl⟩
  ·cases h
theorem ztm {K:W.Frag}:OpD K (fun x y H Q=>rEq x y H Q\/zhX K false x y H Q) eqD:=by
 intro G H v1 v2 d1 d2 d Q gk r1 r2 e q
 unfold eqD at e
 cases ec:eqB d1 d2 with
 | none=>rw [ec] at e; cases e
 | some c=>
  rw [ec] at e
  cases e
  rcases eq_cases ec with ⟨hs,rfl⟩ | ⟨s1,s2,rfl⟩
  ·unfold zk9 at hs
   rw [Bool.and_eq_true,Bool.and_eq_true] at hs
   obtain ⟨e1,_⟩:=RB.flat r1 gk hs.1.1
   obtain ⟨e2,_⟩:=RB.flat r2 gk hs.1.2
   refine .inl ⟨by rw [e1,e2]; exact hs.2,?_⟩
   rw [e1,e2,zkh hs.2 hs.1.1 hs.1.2]
   exact q _ G H (Grow.refl gk) (.scl (.bl _))
  ·exact .inr ⟨G,d1,d2,gk,r1,r2,s1,s2,q _ G H (Grow.refl gk) (.scl (.bl _))⟩
theorem zuf {K:W.Frag}:OpD K (fun x y H Q=>rNe x y H Q\/zhX K true x y H Q) neD:=by
 intro G H v1 v2 d1 d2 d Q gk r1 r2 e q
 unfold neD at e
 cases ec:eqB d1 d2 with
 | none=>rw [ec] at e; cases e
 | some c=>
  rw [ec] at e
  cases e
  rcases eq_cases ec with ⟨hs,rfl⟩ | ⟨s1,s2,rfl⟩
  ·unfold zk9 at hs
   rw [Bool.and_eq_true,Bool.and_eq_true] at hs
   obtain ⟨e1,_⟩:=RB.flat r1 gk hs.1.1
   obtain ⟨e2,_⟩:=RB.flat r2 gk hs.1.2
   refine .inl ⟨by rw [e1,e2]; exact hs.2,?_⟩
   rw [e1,e2,zkh hs.2 hs.1.1 hs.1.2]
   exact q _ G H (Grow.refl gk) (.scl (.bl _))
  ·exact .inr ⟨G,d1,d2,gk,r1,r2,s1,s2,q _ G H (Grow.refl gk) (.scl (.bl _))⟩
theorem s_eq (hu:X.A.units + 64 < cLine) (ha:SB X g m a fa) (hb:SB X g m b fb):SE X g m (.Compare a [.Eq] [b] pos) (f2 fa fb eqD):=zrQ (OpR.or zsy (ziP hu)) ztm ha hb (zfL _)
theorem q_eq (hu:X.A.units + 64 < cLine) (ha:SB X g m a fa) (hb:SB X g m b fb):SQ X g m (.Compare a [.Eq] [b] pos) (zaH (f2 fa fb eqD)):=ziJ (OpR.or zsy (ziP hu)) ztm ha hb (zfL _)
theorem q_ne (hu:X.A.units + 64 < cLine) (ha:SB X g m a fa) (hb:SB X g m b fb):SQ X g m (.Compare a [.NotEq] [b] pos) (zaH (f2 fa fb neD)):=ziJ (OpR.or zt9 (zmE hu)) zuf ha hb (zfL _)
def zi6 (fa fb fc:FE) (k k':D->D->Option D):FE:=fun r=>(fa r).bind fun x=>(fb r).bind fun y=>(opt (k x y)).bind fun z=>(opt (asB z)).bind fun c=>if c=true then (fc r).bind fun w=>opt (k' y w) else .ok (.bl false)
def zqo (K:W.Frag):R2:=fun x y H Q=>∃l b xs zs,x=.ref l/\y=.ref b/\SqL K H l xs/\SqL K H b zs/\xs.length + zs.length<=sizeLine/\∀p,H p=none->Q (.ref p) (upd H p (.lst (xs++zs)))
theorem zmI:OpR X (binaryOp .Add) (zqo X.K):=by
 intro pz s σ H x y v u Q I rx ry h
 obtain ⟨l,b,xs,zs,rfl,rfl,hH,hB,hz,q⟩:=h
 cases rx
 cases ry
 obtain ⟨its,r,pl,_⟩:=I.list hH
 obtain ⟨its2,r2,pl2,_⟩:=I.list hB
 have l1:=r.length
 have l2:=r2.length
 obtain ⟨⟨cls,dd,data,sl⟩,ho,hc,n,hd⟩:=pl.isList
 obtain ⟨⟨cls2,dd2,data2,sl2⟩,ho2,hc2,n2,hd2⟩:=pl2.isList
 simp only at hc hd hc2 hd2
 subst hc hd hc2 hd2
 have e:its.toArray++its2.toArray=(its++its2).toArray:=by simp
 refine concat_meets ⟨_,ho,rfl⟩ ⟨_,ho2,rfl⟩ noFill_list_add seq_list_add PySem.F.slot_list_add PySem.F.entry_list_add (PySem.F.args_list_add_2 _ _) (list_addW _ _ its.toArray its2.toArray n n2 dd dd2 sl sl2 (by simp; omega)) ⟨ho,ho2,?_⟩
 rw [e]
 exact ⟨.ref _,_,I.lnew (t':=s.toks) (r.append r2) (by rw [List.length_append]; omega),rfl,q _ I.fresh⟩
def addA:D->D->Option D
 | .int a,.int b=>some (.int (a + b))
 | .str a,.str b=>if a.length + b.length<=sizeLine then some (.str (a++b)) else none
 | .lst a,.lst b=>if a.length + b.length<=sizeLine then some (.lst (a++b)) else none
 | .tup (x::a),.tup b=>if (x::a).length + b.length<=sizeLine then some (.tup (x::a++b)) else none
 | _,_=>none
theorem znL {K:W.Frag}:OpD K (fun x y H Q=>(∃i j,x=.int i/\y=.int j/\Q (.int (i + j)) H)\/(∃i j,x=.str i/\y=.str j/\i.length + j.length<=sizeLine/\Q (.str (i++j)) H)\/zqo K x y H Q\/zqn K x y H Q) addA:=by
 intro G H v1 v2 d1 d2 d Q gk r1 r2 e q
 unfold addA at e
 split at e
 ·cases e
  exact .inl ⟨_,_,r1.int gk,r2.int gk,q _ G H (Grow.refl gk) (.scl (.int _))⟩
 ·split at e
  ·rename_i hl
   cases e
   exact .inr (.inl ⟨_,_,r1.str gk,r2.str gk,hl,q _ G H (Grow.refl gk) (.scl (.str _))⟩)
  ·cases e
 ·split at e
  ·rename_i hl
   cases e
   obtain ⟨a,xs,rfl,s1,t1⟩:=r1.lst gk
   obtain ⟨b,ys,rfl,s2,t2⟩:=r2.lst gk
   have l1:=Paired.length t1
   have l2:=Paired.length t2
   exact .inr (.inr (.inl ⟨a,b,xs,ys,rfl,rfl,s1,s2,by omega,fun p hp=>q _ _ _ (Grow.newF gk hp (.lst (.inl zam) (Paired.app t1 t2))) (.ref zaz)⟩))
  ·cases e
 ·split at e
  ·rename_i x0 a0 b0 hl
   cases e
   rcases r1 with r1 | ⟨a',_,oo⟩
   ·obtain ⟨a,xs,rfl,s1,t1⟩:=r1.tup gk
    obtain ⟨b,ys,rfl,s2,t2⟩:=r2.tup gk
    have l1:=Paired.length t1
    have l2:=Paired.length t2
    refine .inr (.inr (.inr ⟨a,b,xs,ys,rfl,rfl,s1,s2,?_,by omega,fun hy=>?_,fun _ p hp=>q _ _ _ (Grow.newF gk hp (.tup (.inl zam) (Paired.app t1 t2))) (.ref zaz)⟩))
    ·rintro rfl
     cases t1
    ·subst hy
     cases t2
     refine q _ G H (Grow.refl gk) ?_
     rw [List.append_nil]
     exact r1
   ·cases oo.ob
  ·cases e
 ·cases e
theorem zeB (ha:SB X g m a fa) (hb:SB X g m b fb):SE X g m (.BinOp a .Add b pos) (f2 fa fb addA):=zjB (OpR.or zmJ (OpR.or zhn (OpR.or zmI zmH))) znL ha hb
end
end DL
end
namespace DL
open PySem PySem.Spec PyProof.Rows L2
structure DefAt (K:W.Frag) (mg:Str->Option Value) (x:Str) (st:Stmt):Prop where
 ex:∃f fd,mg x=some (.ref f)/\Fun K x x st f fd
structure Callee (P:Program) (w:World) (K:W.Frag) (mg:Str->Option Value) (base:Heap) (x:Str) (ps:List Str) (ds:List Value) (k:Nat) (ro:Bool) (ms:List Md) (F:List D->Res D):Prop where
 ex:∃f fd,mg x=some (.ref f)/\W.keepIn K (.ref f)=true/\zhh K fd ps ds/\FnOk P w K mg base CX0 k f fd ps (spM K ro ms F)
section
variable {P:Program} {w:World} {K:W.Frag} {mg:Str->Option Value} {base:Heap}
theorem zaM {x:Str} {st:Stmt} {N ps:List Str} {k:Nat} {ro:Bool} {ms:List Md} {fs:FS} {m':List Md} (A:DefAt K mg x st) (S:FnScope N ps (zab st)) (hms:ms.length=ps.length)
  (hb:∀(kV doc pm:Value) (an:Option Addr) (cdv ct:Value) (us:List Value),us.length=ps.length->bindArgs (W.fnOf x x (zcS st) (zbH st) (zab st) .none kV doc pm an cdv ct) ⟨us,[]⟩=pure (ps.zip us))
  (hbody:∀(f:Addr) (cdv:Value) (A:Around) (outer:List Env) (s:Shared) (H:Hp) (g:GE) (E:XK),Room k (A.deeper (envOfC x (zab st) s.heap.objs.size f cdv)) ->
   SSs (cxOf CX0 P w K mg base N x (zab st) f cdv A outer s H E).nox g ro [] (zfz N.length ms) (zbH st) fs m') :
  Callee P w K mg base x ps [] (k + 1) ro ms fun ds=>outR ro (fs (zao N.length ds)):=by
 obtain ⟨f,fd,h1,F⟩:=A.ex
 exact ⟨f,fd,h1,F.kp,F.binds hb,zpO F S hms (hbody f)⟩
structure DefAtD (K:W.Frag) (mg:Str->Option Value) (x:Str) (st:Stmt) (dds:List Value):Prop where
 ex:∃(f T:Addr) (o:Obj) (n:Nat) (oc:Value) (od:Option Addr) (kV doc pm:Value) (an:Option Addr) (cdv ct:Value) (osl:Array (Option Value)),
  mg x=some (.ref f)/\K.lookup T=some o/\o.data=.seq dds.toArray n/\K.lookup f=some ⟨oc,od,.func (W.fnOf x x (zcS st) (zbH st) (zab st) (.ref T) kV doc pm an cdv ct),osl⟩/\W.codeIn K cdv x=true/\W.keepIn K (.ref f)=true
theorem zh2 {x:Str} {st:Stmt} {N ps:List Str} {k:Nat} {ro:Bool} {ms:List Md} {fs:FS} {m':List Md} {dds ds:List Value} (A:DefAtD K mg x st dds) (S:FnScope N ps (zab st)) (hms:ms.length=ps.length) (nn:Nat) (hn:nn + ds.length=ps.length)
  (hb:∀(T:Addr) (kV doc pm:Value) (an:Option Addr) (cdv ct:Value) (us:List Value),us.length=nn->∃kk:Option (Array Value)->Sem (List (Str × Value)),bindArgs (W.fnOf x x (zcS st) (zbH st) (zab st) (.ref T) kV doc pm an cdv ct) ⟨us,[]⟩=seqItems? (.ref T) >>= kk/\kk (some dds.toArray)=pure (ps.zip (us++ds)))
  (hbody:∀(f:Addr) (cdv:Value) (A:Around) (outer:List Env) (s:Shared) (H:Hp) (g:GE) (E:XK),Room k (A.deeper (envOfC x (zab st) s.heap.objs.size f cdv)) ->
   SSs (cxOf CX0 P w K mg base N x (zab st) f cdv A outer s H E).nox g ro [] (zfz N.length ms) (zbH st) fs m') :
  Callee P w K mg base x ps ds (k + 1) ro ms fun zs=>outR ro (fs (zao N.length zs)):=by
 obtain ⟨f,T,o,n,oc,od,kV,doc,pm,an,cdv,ct,osl,h1,hT,hd,lk,hcd,kp⟩:=A.ex
 refine ⟨f,W.fnOf x x (zcS st) (zbH st) (zab st) (.ref T) kV doc pm an cdv ct,h1,kp,fun s us KX hl=>?_,?_⟩
 ·obtain ⟨kk,e1,e2⟩:=hb T kV doc pm an cdv ct us (by rw [List.length_append] at hl; omega)
  exact BindsTo.of_defaults rfl (KX _ _ hT) hd e1 e2
 ·have hpl:ps.length<=N.length:=by have:=congrArg List.length S.pre; rw [List.length_take] at this; omega
  refine ztf lk hcd S (fun vs H Q E ⟨G,ds,gk,rs,q⟩=>rs.len.1.trans hms) fun A outer s H vs Q E hr ⟨G,ds,gk,rs,q⟩=>?_
  exact ⟨_,(hbody f cdv A outer s H ⟨G,H,fun _=>none⟩ E hr).2.nox,zao N.length ds,G,zkc gk rs (by omega),zkT q⟩
end
section
variable {X:Cx} {g:GE} {m:List Md} {e:Expr} {es:List Expr} {fl:Rho->Res (List D)} {k:Nat} {ps:List Str} {F:List D->Res D} {dvs:List V} {ds:List Value} {dds:List D} {x:Str} {p pos:Pos} {i:Nat} {ms ms':List Md}
theorem zar (c:Callee X.prog X.w X.K X.mg X.base x ps ds k false ms' F) (hr:Room k X.A) (ha:SAM X g m (e::es) ms fl) (hms:ms'=ms++List.replicate dds.length .sh:=by rfl) (hg:Gl X x:=by rfl) (hd:Vals dvs ds:=by exact .nil) (hsc:Paired Scl dvs dds:=by exact .nil)
  (hdb:(x == ("__debug__" : Str))=false:=by decide) (he:starEach (e::es) X.env=(false,eval e X.env)::starEach es X.env:=by rfl) (hpl:(backTo pos (starEach es X.env)).any (·.1)=false:=by rfl) :
  SE X g m (.Call (.Name x p) (e::es) [] pos) (zaE fl dds F):=by
 subst hms
 obtain ⟨f,fd,h1,h2,h3,h4⟩:=c.ex
 exact zrR h4 hr hg h1 h2 h3 hd hsc ha hdb he hpl
theorem v_ (i:Nat) (hm:m[i]? = some .sh:=by rfl) (hN:X.N[i]? = some x:=by rfl) (hv:Vis X.env.scope x:=by first | exact Or.inl rfl | exact Or.inr (Or.inl rfl) | exact Or.inr (Or.inr rfl)) (hd:(x == ("__debug__" : Str))=false:=by decide) (hcd:(x == ("__classdict__" : Str))=false:=by decide) :
  SE X g m (.Name x p) fun r=>getV r i:=ztV i hm hN hv hd hcd
theorem vb_ (i:Nat) (hm:i < m.length:=by decide) (hN:X.N[i]? = some x:=by rfl) (hv:Vis X.env.scope x:=by first | exact Or.inl rfl | exact Or.inr (Or.inl rfl) | exact Or.inr (Or.inr rfl)) (hd:(x == ("__debug__" : Str))=false:=by decide) (hcd:(x == ("__classdict__" : Str))=false:=by decide) :
  SB X g m (.Name x p) fun r=>getV r i:=zrM i hm hN hv hd hcd
end
def zj1 (osc:Scope) (ON:List Str) (sc:Scope) (N':List Str) (nl:Nat) (cap:List Nat):Bool:=
 decide (sc.kind=.function) && sc.names.all (fun y=>decide (y.2≠.cell)) && sc.names.all (fun y=>decide (y.2≠.local) || decide (sc.names.lookup y.1=some .local)) &&
 sc.names.all (fun y=>decide (y.2≠.free) || (decide (osc.names.lookup y.1=some .cell) || decide (osc.names.lookup y.1=some .free))) && decide (N'.length=nl + cap.length) &&
 (List.range cap.length).all fun j=>match N'[nl + j]?,ON[cap.getD j 0]? with
  | some x,some y=>decide (x=y) && decide (sc.names.lookup x=some .free)
  | _,_=>false
theorem zaO {X:Cx} {osc:Scope} {ON:List Str} {sc:Scope} {N':List Str} {nl:Nat} {cap:List Nat} (h1:X.env.scope=osc) (h2:X.N=ON) (h:zj1 osc ON sc N' nl cap=true):CompSc X sc N' nl cap:=by
 subst h1 h2
 unfold zj1 at h
 simp only [Bool.and_eq_true,List.all_eq_true,decide_eq_true_eq,Bool.or_eq_true] at h
 obtain ⟨⟨⟨⟨⟨a1,a2⟩,a3⟩,a4⟩,a5⟩,a6⟩:=h
 refine ⟨a1,a2,fun y hy hl=>(a3 y hy).resolve_left fun z=>z hl,fun y hy hf=>(a4 y hy).resolve_left fun z=>z hf,a5,fun j hj=>?_⟩
 have h6:=a6 j (List.mem_range.mpr hj)
 cases e1:N'[nl + j]? with
 | none=>rw [e1] at h6; cases h6
 | some x=>
  cases e2:X.N[cap.getD j 0]? with
  | none=>rw [e1,e2] at h6; cases h6
  | some y=>
   rw [e1,e2] at h6
   simp only [Bool.and_eq_true,decide_eq_true_eq] at h6
   exact ⟨x,rfl,by rw [h6.1],h6.2⟩
section
variable {X:Cx} {g:GE} {m mb:List Md} {e a b c:Expr} {f fa fb fc:FE} {pos pos':Pos}
theorem zlH {R R':R2} {k k':D->D->Option D} (ho:OpD X.K R k) (ho':OpD X.K R' k') {σ:L2.St} {H:Hp} {Q:VK} (h:tE X g m (zi6 fa fb fc k k') σ H Q):zpa R R' (tB X g m fa) (tB X g m fb) (tB X g m fc) σ H Q:=by
 obtain ⟨r,G,si,q⟩:=h
 refine seq2 si q fun d1 d2 v1 v2 G2 H2 w r1 r2 q2=>?_
 obtain ⟨z,ez,q3⟩:=zaB (zai q2)
 obtain ⟨cc,ec,q4⟩:=zaB (zai q3)
 refine ho G2 H2 v1 v2 d1 d2 z _ w.ok r1 r2 ez fun v G3 H3 w3 rv=>?_
 cases z with
 | bl b'=>
  cases ec
  refine ⟨_,rv.bl w3.ok,?_⟩
  cases cc with
  | false=>rw [if_neg Bool.false_ne_true] at q4 ⊢; exact q4 _ G3 H3 (w.trans w3) (.scl (.bl _))
  | true=>
   rw [if_pos rfl] at q4 ⊢
   refine ⟨r,G3,(si.grow w).grow w3,zaZ (zai q4) (w.trans w3) fun d3 q5 v3 G4 H4 w4 r3=>?_⟩
   obtain ⟨d,e,q6⟩:=zaB q5
   exact ho' G4 H4 v2 v3 d2 d3 d Q w4.ok ((r2.mono w3).mono w4) r3 e fun v G' H' w' z=>q6 v G' H' (((w.trans w3).trans w4).trans w') z
 | _=>cases ec
theorem zn0 {op op':CmpOp} {R R':R2} {k k':D->D->Option D} (hr:OpR X (compareOp op) R) (hr':OpR X (compareOp op') R') (ho:OpD X.K R k) (ho':OpD X.K R' k') (ha:SB X g m a fa) (hb:SB X g m b fb) (hc:SB X g m c fc)
  (hm:lastMarks [op,op'] [b,c]=false:=by with_unfolding_all rfl):SE X g m (.Compare a [op,op'] [b,c] pos) (zi6 fa fb fc k k'):=PE.imp (zoi hr hr' ha hb hc hm) fun σ H Q h=>zlH ho ho' h
theorem zub {K:W.Frag}:OpD K (rI0 fun i j=>V.bl (decide (i < j))) ltI:=zgB fun _ _=>.bl _
theorem zuc {K:W.Frag}:OpD K (rI0 fun i j=>V.bl (decide (i<=j))) leI:=zgB fun _ _=>.bl _
end
theorem zuG {K:W.Frag} {h:Heap} {mg:Str->Option Value} {x:Str} {st:Stmt} (KX:K.In h) (G:h.Ns mainGlobals mg) {f:Addr} {oc:Value} {od an:Option Addr} {osl:Array (Option Value)} {kV doc pm cdv ct:Value} (a:W.nsIn K mainGlobals x=some (some (.ref f)))
  (l:K.lookup f=some ⟨oc,od,.func (W.fnOf x x (zcS st) (zbH st) (zab st) .none kV doc pm an cdv ct),osl⟩) (c:W.codeIn K cdv x=true) (k:W.keepIn K (.ref f)=true):DefAt K mg x st:=
 ⟨f,_,W.mg_of KX G a,zte l c k⟩
theorem zux {K:W.Frag} {h:Heap} {mg:Str->Option Value} {x:Str} {st:Stmt} {dds:List Value} (KX:K.In h) (G:h.Ns mainGlobals mg) {f T:Addr} {oc tc:Value} {od an td:Option Addr} {osl tsl:Array (Option Value)} {n:Nat} {kV doc pm cdv ct:Value} (a:W.nsIn K mainGlobals x=some (some (.ref f)))
  (l:K.lookup f=some ⟨oc,od,.func (W.fnOf x x (zcS st) (zbH st) (zab st) (.ref T) kV doc pm an cdv ct),osl⟩) (t:K.lookup T=some ⟨tc,td,.seq dds.toArray n,tsl⟩) (c:W.codeIn K cdv x=true) (k:W.keepIn K (.ref f)=true):DefAtD K mg x st dds:=
 ⟨f,T,_,n,oc,od,kV,doc,pm,an,cdv,ct,osl,W.mg_of KX G a,t,rfl,l,c,k⟩
theorem zuE {P:Program} {w:World} {K:W.Frag} {mg:Str->Option Value} {x p:Str} {st:Stmt} {k:Nat} {F:List D->Res D} {fa:Addr} (hfa:mg x=some (.ref fa)) (A:DefAt K mg x st)
  (hb:∀(kV doc pm:Value) (an:Option Addr) (cdv ct:Value) (us:List Value),us.length=[p].length->bindArgs (W.fnOf x x (zcS st) (zbH st) (zab st) .none kV doc pm an cdv ct) ⟨us,[]⟩=pure ([p].zip us))
  (C:∀(f:Addr) (fd:FuncData),Fun K x x st f fd->∀base:Heap,FnOk P w K mg base CX0 k f fd [p] (spM K false [.sh] F)) :
  ∃fd:FuncData,(∀(s:Shared) (u:Value),BindsTo s fd ⟨[u],[]⟩ [(p,u)])/\∀base:Heap,K.In base->base.Ns mainGlobals mg->FnOk P w K mg base CX0 k fa fd [p] (spM K false [.sh] F):=by
 obtain ⟨f,fd,h1,Fn⟩:=A.ex
 rw [hfa] at h1
 cases h1
 refine ⟨fd,fun s u=>?_,fun base _ _=>C fa fd Fn base⟩
 obtain ⟨oc,od,kV,doc,pm,an,cdv,ct,osl,rfl,lk,hcd⟩:=Fn.ex
 exact .of_eq (hb kV doc pm an cdv ct [u] rfl)
theorem zuH {l:W.OpenLaw} {k:Nat} {q:Program} {loose:List Str} {XP:(Str->Option Value)->Heap->Prop} {YP:World->Heap->Prop} {d:DefRec} {K:Params->W.Frag} {x:Str} {F:List D->Res D} (hn:l.most=some 63) (hdf:d.params.defaults=[]) (hr:Room k callerA)
  (hY:∀(w:World) (h:Heap),YP w h->(K w.params).In h) (hF:∀ns:List Int,ns.length<=63->F [.lst (ns.map .int)]=.ok (.bl true))
  (C:∀(w:World) (mg:Str->Option Value) (fa:Addr) (h:Heap),(K w.params).In h->h.Ns mainGlobals mg->mg d.name=some (.ref fa) ->
   ∃fd:FuncData,(∀(s:Shared) (u:Value),BindsTo s fd ⟨[u],[]⟩ [(x,u)])/\∀base:Heap,(K w.params).In base->base.Ns mainGlobals mg->FnOk l.prog w (K w.params) mg base CX0 k fa fd [x] (spM (K w.params) false [.sh] F)) :
  W.WalkO q loose XP YP l.row.toRowW d [] (fun f vs=>PySem.call f vs):=by
 refine L2.walk_of (n:=63) (k:=k) (x:=x) (CX:=fun _=>CX0) (sp:=fun w=>spM (K w.params) false [.sh] F) hn (by decide) hdf hr hY C (fun w H a ns hl hO hS=>?_) fun _ _ _ _ _ z=>z
 have intsP:∀(l:List Int),Paired Scl (l.map V.int) (l.map D.int):=fun l=>by
  induction l with
  | nil=>exact .nil
  | cons i l ih=>exact .cons (.int i) ih
 rcases hS with hS | hS
 ·refine ⟨fun b=>if b=a then some (.lst (ns.map D.int)) else none,[.lst (ns.map .int)],fun b d' hb=>?_,.sh (.ref (if_pos rfl)) .nil,?_⟩
  ·by_cases e:b=a
   ·subst e
    have hb':some (D.lst (ns.map D.int))=some d':=(if_pos rfl).symm.trans hb
    cases hb'
    exact .lst hS (Paired.mono (fun _ _ z=>.scl z) (intsP ns))
   ·have hb':(none:Option D)=some d':=(if_neg e).symm.trans hb
    cases hb'
  ·rw [hF ns hl]
   intro v G' H' w' rv
   exact rv.bl w'.ok
 ·refine ⟨fun _=>none,[.lst (ns.map .int)],fun b d' hb=>(by cases hb),.sh (.kc (.lst (.inr hS) (intsP ns))) .nil,?_⟩
  rw [hF ns hl]
  intro v G' H' w' rv
  exact rv.bl w'.ok
section
open AutoSeq1 (wpAny_loadPart')
section
variable {prog:Program} {w:World} {A:Around} {E:Value->Shared->Prop} {s:Shared}
theorem zfo {it t:Addr} {i:Nat} {items} {x:Value} {Q:Value->Shared->Prop} (hit:s.heap.IsTupleIter it t i) (ht:s.heap.IsTuple t items) (hx:items[i]? = some x)
  (hQ:∀h',h'.IsTupleIter it t (i + 1)->Heap.SameBut it s.heap h'->Q x { s with heap:=h' }):wpAny (model prog w) A (Builtin.SmallTypes.nextOf (.ref it)) Q E s:=by
 obtain ⟨o,ho,hc,hd⟩:=id hit
 obtain ⟨ol,hol,_,nl,hdl⟩:=ht
 unfold Builtin.SmallTypes.nextOf
 refine wpAny_bind (wpAny_callSpecial?_slot (name:=Str.ofString "__next__") hit.typeIs F.slot_tuple_iterator_next
  (wpAny_call_entry F.slot_tuple_iterator_next hit.typeIs F.entry_tuple_iterator_next ?_ (F.args_tuple_iterator_next_1 _)))
 show wpAny _ _ (field (.ref it) 0 >>= _) _ _ s
 refine wpAny_bind (wpAny_field ho hd (x:=.ref t) rfl ?_)
 show wpAny _ _ (if (Value.ref t == Value.none)=true then _ else _) _ _ s
 rw [if_neg (show ¬ ((Value.ref t == Value.none)=true) from Bool.false_ne_true)]
 show wpAny _ _ (field (.ref it) 1 >>= _) _ _ s
 refine wpAny_bind (wpAny_field ho hd (x:=.int i 0) rfl ?_)
 show wpAny _ _ (seqItems? (.ref t) >>= _) _ _ s
 refine wpAny_bind (wpAny_seqItems hol hdl ?_)
 simp only [Int.toNat_natCast,hx]
 refine wpAny_bind (wpAny_setField ho hd (by simp) (wpAny_pure ⟨x,rfl,wpAny_pure (hQ _ ?_ (Heap.SameBut.update ..))⟩))
 exact ⟨_,Heap.get?_update_self _ ho (Obj.isFreed_of_fields (Obj.data_mapFields hd _)),(Obj.cls_mapFields ..).trans hc,by
  rw [Obj.data_mapFields hd]; simp [rawInt]⟩
theorem zfZ {it t:Addr} {i:Nat} {items} {Q:Value->Shared->Prop} (hh:A.handled=none) (hit:s.heap.IsTupleIter it t i) (ht:s.heap.IsTuple t items) (hx:items[i]? = none)
  (hE:∀h' e,Heap.ExtBut it s.heap h'->(∃o,h'.get? e=some o/\o.cls=.type "StopIteration")->E (.ref e) { s with heap:=h' }):wpAny (model prog w) A (Builtin.SmallTypes.nextOf (.ref it)) Q E s:=by
 obtain ⟨o,ho,hc,hd⟩:=id hit
 obtain ⟨ol,hol,_,nl,hdl⟩:=ht
 unfold Builtin.SmallTypes.nextOf
 refine wpAny_bind (wpAny_callSpecial?_slot (name:=Str.ofString "__next__") hit.typeIs F.slot_tuple_iterator_next
  (wpAny_call_entry F.slot_tuple_iterator_next hit.typeIs F.entry_tuple_iterator_next ?_ (F.args_tuple_iterator_next_1 _)))
 show wpAny _ _ (field (.ref it) 0 >>= _) _ _ s
 refine wpAny_bind (wpAny_field ho hd (x:=.ref t) rfl ?_)
 show wpAny _ _ (if (Value.ref t == Value.none)=true then _ else _) _ _ s
 rw [if_neg (show ¬ ((Value.ref t == Value.none)=true) from Bool.false_ne_true)]
 show wpAny _ _ (field (.ref it) 1 >>= _) _ _ s
 refine wpAny_bind (wpAny_field ho hd (x:=.int i 0) rfl ?_)
 show wpAny _ _ (seqItems? (.ref t) >>= _) _ _ s
 refine wpAny_bind (wpAny_seqItems hol hdl ?_)
 simp only [Int.toNat_natCast,hx]
 refine wpAny_bind (wpAny_rule (wpAny_bind (wpAny_setField ho hd (by simp) ?_)))
 show wpAny _ _ (newExc (.type "StopIteration") [] >>= _) _ _ _
 refine wpAny_bind ?_
 simp only [newExc,newTuple]
 refine wpAny_bind (wpAny_newObj_type ?_ (by size_fits))
 refine wpAny_bind (m:=firstArgMember _ _) (wpAny_of_eq (a:=Value.none) (by first | rfl | (simp only [firstArgMember]; rfl)) ?_)
 refine wpAny_newObj_type ?_ (by size_fits)
 simp only [raiseNew]
 refine wpAny_bind (wpAny_handled ?_)
 first | rw [show A.in1.handled=none from hh] | rw [hh]
 refine wpAny_bind (wpAny_pure (wpAny_throw ?_))
 exact hE _ _ (((Heap.SameBut.update ..).extBut.push _).push _) ⟨_,Heap.get?_push_size _ rfl,rfl⟩
end
theorem zpS {prog:Program} {w:World} {A:Around} (hh:A.handled=none) (it l:Addr) (hne:l≠it) (items:Array Value) :
  Draws prog w A it [it,l] items.size (fun i v=>items[i]? = some v) (fun i h=>h.IsTupleIter it l i/\h.IsTuple l items) where
 live:=fun _ _ st=>let ⟨o,ho,_⟩:=st.1; ⟨o,ho⟩
 frame:=fun _ _ _ st hk=>⟨let ⟨o,ho,r⟩:=st.1; ⟨o,hk it (by simp) o ho,r⟩,let ⟨o,ho,r⟩:=st.2; ⟨o,hk l (by simp) o ho,r⟩⟩
 item:=fun i s Q E hi st hQ=>by
  refine zfo st.1 st.2 (x:=items[i]) (by simp [hi]) fun h' hit' hs'=>?_
  exact hQ _ h' s.toks (by simp [hi]) ⟨hit',st.2.extBut hs'.extBut hne⟩ hs'
 done:=fun s Q E st hE=>zfZ hh st.1 st.2 (by simp) hE
theorem zgG (l:Addr) (items:Array Value) (n:Nat) (dct:Option Addr) (sl:Array (Option Value)) :
  Meets (Builtin.«enumerate.__new__» ⟨[.type "enumerate",.ref l],[]⟩) (fun _ R s=>s.heap.get? l=some { cls:=.type "tuple",dict:=dct,data:=.seq items n,slots:=sl } /\
   R (.ok (.ret (.ref (s.heap.push { cls:=.type "tuple_iterator",data:=.fields #[.ref l,.int 0 0] }).objs.size)))
    { s with heap:=(s.heap.push { cls:=.type "tuple_iterator",data:=.fields #[.ref l,.int 0 0] }).push { cls:=.type "enumerate",data:=.fields #[.none,.bool false,.ref s.heap.objs.size,rawInt 0,.none,.none] } }):=
 .of_wp fun prog w A R s h=>by
  obtain ⟨hp,g,d,tk,os⟩:=s; obtain ⟨hl,h⟩:=h
  have hsub:=sub_enumerate
  have hL:Heap.IsTuple (Shared.heap ⟨hp,g,d,tk,os⟩) l items:=⟨_,hl,rfl,n,rfl⟩
  wp_walk using wpAny_loadPart' hl
  refine wpAny_stack_any fun st=>wpAny_pure ?_
  split
  ·rename_i c _ _ _ _ _
   cases (c == Value.type "enumerate")
   ·wp_walk using wpAny_loadPart' hl,wpAny_pyIter_tuple hL
    exact ⟨_,rfl,h⟩
   ·wp_walk using wpAny_loadPart' hl,wpAny_pyIter_tuple hL
    exact ⟨_,rfl,h⟩
  ·wp_walk using wpAny_loadPart' hl,wpAny_pyIter_tuple hL
   exact ⟨_,rfl,h⟩
section
variable {prog:Program} {w:World} {A:Around} {E:Value->Shared->Prop} {s:Shared}
theorem zgZ {l:Addr} {items:Array Value} {Q:Value->Shared->Prop} (hL:s.heap.IsTuple l items)
  (h:∀h',IsEnum h' (s.heap.objs.size + 1) s.heap.objs.size 0 .none->h'.IsTupleIter s.heap.objs.size l 0->h'.objs.size=s.heap.objs.size + 2 ->
   (∀b o,s.heap.get? b=some o->h'.get? b=some o)->Q (.ref (s.heap.objs.size + 1)) { s with heap:=h' }) :
  wpAny (model prog w) A (call (.type "enumerate") [.ref l]) Q E s:=by
 obtain ⟨⟨c,dct,dt,sl⟩,hl,hc,n,hd⟩:=hL
 replace hc:c=.type "tuple" := hc
 replace hd:dt=.seq items n:=hd
 subst hc hd
 refine callType_new F.called_enumerate (by decide) (F.typeCall_enumerate_1 _) (F.newCall_enumerate_1 _) (fun obj=>F.args_object_init_2 obj _) F.entry_enumerate_new
  (zgG l items n dct sl) ⟨hl,?_⟩
 have hz:(s.heap.push { cls:=.type "tuple_iterator",data:=.fields #[.ref l,.int 0 0] }).objs.size=s.heap.objs.size + 1:=Heap.size_push ..
 show _/\_
 rw [hz]
 have he:IsEnum ((s.heap.push { cls:=.type "tuple_iterator",data:=.fields #[.ref l,.int 0 0] }).push
   { cls:=.type "enumerate",data:=.fields #[.none,.bool false,.ref s.heap.objs.size,rawInt 0,.none,.none] }) (s.heap.objs.size + 1) s.heap.objs.size 0 .none:=by
  have:=Heap.get?_push_size (s.heap.push { cls:=.type "tuple_iterator",data:=.fields #[.ref l,.int 0 0] })
   (o:={ cls:=.type "enumerate",data:=.fields #[.none,.bool false,.ref s.heap.objs.size,rawInt 0,.none,.none] }) rfl
  rw [hz] at this; exact this
 refine ⟨⟨_,he,rfl⟩,h _ he ⟨_,Heap.get?_push_of_some _ (Heap.get?_push_size _ rfl),rfl,rfl⟩ (by rw [Heap.size_push,hz]) fun b o x=>Heap.get?_push_of_some _ (Heap.get?_push_of_some _ x)⟩
end
theorem zkI {X:Cx} {pz:List (Addr × Obj)} {σ:L2.St} {H:Hp} {s:Shared} {h':Heap} {ch:List Addr} {T:Addr} {o:HO} {t':Nat} (I:Inv X pz σ H s)
  (hch:∀b∈ch,FpOk X pz H b) (k:∀b ob,b∉ch->s.heap.get? b=some ob->h'.get? b=some ob) (hT:s.heap.objs.size<=T) (new:za3 X.prog X.w (upd H T o) h' T o):Inv X pz σ (upd H T o) { s with heap:=h',toks:=t' }:=by
 have hTn:H T=none:=I.hok.fresh hT
 have trk:∀b u,H b=some u->b∉ch:=fun b u e hb=>by rw [(hch b hb).1] at e; cases e
 have neT:∀b ob,s.heap.get? b=some ob->b≠T:=fun b ob e=>Nat.ne_of_lt (Nat.lt_of_lt_of_le (Heap.lt_size e) hT)
 have keepU:∀b u,H b=some u->upd H T o b=some u:=fun b u e=>by rw [zaq (zbL e hTn)]; exact e
 refine I.step (g':=s.gens) (d':=s.drawn) (ch:=ch) (fun b hb=>?_) (fun b ob _ _ hc e _=>k b ob hc e) (fun b ob _ _ hc e _=>⟨ob.slots,k b ob hc e⟩) (fun b ob hc e n=>by rw [zaq (neT b ob e)]; exact n)
  (fun b ob hc e=>⟨ob,k b ob hc e⟩) (fun b xs e=>keepU b _ e) (fun b ob u e=>keepU b _ e) (fun b ps e=>⟨#[],by rw [keepU b _ e]; simp⟩) (fun m hm=>?_) (fun b u e=>?_) I.bare
 ·obtain ⟨z0,z1,z2,z3,z4,z5⟩:=hch b hb
  exact ⟨z3,z1,z4,z5⟩
 ·obtain ⟨ob,es,ep,ho,r⟩:=hm
  exact ⟨ob,es,ep,k _ ob (fun hb=>(hch _ hb).2.1 rfl) ho,r⟩
 ·by_cases hb:b=T
  ·subst hb
   rw [zam] at e
   cases e
   exact new
  ·rw [zaq hb] at e
   refine (I.hok b u e).stay (fun c v hc q=>k c v ?_ q) (fun c q=>keepU c _ q) fun c xs q=>keepU c _ q
   rcases hc with z | z
   ·rw [z]; exact trk b u e
   ·exact trk c _ z
def Ien (sq:Hp->List V->Prop):It:=
 ⟨fun i H=>∃xs x,sq H xs/\xs[i]? = some x,fun i H x H'=>∃p v,H p=none/\x=.ref p/\H'=upd H p (.tup [.int i,v])/\∀xs,sq H xs->xs[i]? = some v,fun i H=>∃xs,sq H xs/\xs.length=i⟩
theorem zmC {P:Program} {w:World} {H:Hp} {h:Heap} {T:Addr} {i:Nat} {tk:Tok} {x:Value} {v:V} (hT:h.get? T=some { cls:=.type "tuple",data:=.seq #[.int i tk,x] }) (r:L2.RelV v x):za3 P w H h T (.tup [.int i,v]):=
 ⟨by show 2<=sizeLine; decide,[.int i tk,x],.cons ⟨tk,rfl⟩ (.cons r .nil),⟨_,hT,rfl,0,rfl⟩,_,hT,rfl⟩
theorem zk6 {P:Program} {w:World} {K:W.Frag} {elts:List Expr} {k:Nat} {pos:Pos} (a it e:Addr) (hei:e≠it):Turn P w K (.Tuple elts k pos) (Ien fun H xs=>SqL K H a xs) [e,it] e (fun i h=>(∃old,IsEnum h e it i old)/\h.IsListIter it a i) where
 mem:=by simp
 obj:=fun i h st b hb=>by
  obtain ⟨⟨old,he⟩,o,ho,hc,hd⟩:=st
  rcases List.mem_cons.mp hb with rfl | hb
  ·exact ⟨_,he,fun v z=>by have z':Data.fields _=Data.cell v:=z; cases z'⟩
  ·rw [List.mem_singleton.mp hb]
   exact ⟨o,ho,fun v z=>by rw [hd] at z; cases z⟩
 keep:=fun i h h' st kk=>by
  obtain ⟨⟨old,he⟩,hi⟩:=st
  exact ⟨⟨old,kk e (by simp) _ he⟩,hi.at fun o q=>kk it (by simp) o q⟩
 item:=by
  intro X hP hw hK hc i pz s σ H E I hf st hg
  subst hP hw hK
  obtain ⟨xs,x,hq,hx⟩:=hg
  obtain ⟨its,rv,p,hz⟩:=I.list hq
  obtain ⟨⟨old,he⟩,hi⟩:=st
  obtain ⟨o1,ho1,hc1,hd1⟩:=id hi
  obtain ⟨o2,ho2,hc2,_⟩:=id p.isList
  have hai:a≠it:=by rintro rfl; rw [ho1] at ho2; cases ho2; rw [hc1] at hc2; exact absurd hc2 (by decide)
  have hea:e≠a:=by rintro rfl; rw [he] at ho2; cases ho2; exact absurd (show Value.type "enumerate" = _ from hc2) (by decide)
  have hlt:i < its.toArray.size:=by
   have:=(List.getElem?_eq_some_iff.mp hx).1
   rw [List.size_toArray,<-rv.length]; exact this
  refine wpAny_pyNext_enum_itemD (Draws.list (A:=X.A.in1) (show X.A.in1.handled=none from I.ok.hd hc) it a hai its.toArray) he ⟨hi,p.isList⟩ hlt hei (by simp [hei,hea]) fun y h' tk hP ho hs' hT hsz hk=>?_
  refine ⟨_,rfl,wpAny_letOwnedTupleGo_enum ho fun h'' he'' hs''=>?_⟩
  obtain ⟨u,hu,ru⟩:=rv.get hx
  have hy:y=u:=by
   have:its[i]? = some y:=by simpa using hP
   rw [hu] at this; exact (Option.some.inj this).symm
  subst hy
  have hTe:s.heap.objs.size≠e:=Nat.ne_of_gt (Heap.lt_size he)
  have hT'':h''.get? s.heap.objs.size=some { cls:=.type "tuple",data:=.seq #[.int i tk,y] }:=(hs''.2 _ hTe).trans hT
  refine ⟨.ref s.heap.objs.size,upd H s.heap.objs.size (.tup [.int i,x]),zkI (s:=s) (h':=h'') (t':=tk + 1) (ch:=[e,it]) I hf (fun b ob hb q=>?_) (Nat.le_refl _) (zmC hT'' ru),rfl,⟨_,x,I.hok.fresh (Nat.le_refl _),rfl,rfl,fun ys hy=>by rw [I.list_inj hy hq]; exact hx⟩,⟨⟨_,by simpa using he''⟩,hs'.1.extBut hs''.extBut (Ne.symm hei)⟩,fun b hb=>?_⟩
  ·have hbe:b≠e:=fun z=>hb (by simp [z])
   exact (hs''.2 b hbe).trans (hk b ob hbe (fun z=>hb (by simp [z])) q)
  ·rw [zaq ?_]
   ·exact (hf b hb).1
   ·rcases List.mem_cons.mp hb with rfl | hb
    ·exact Nat.ne_of_lt (Heap.lt_size he)
    ·rw [List.mem_singleton.mp hb]; exact Nat.ne_of_lt (Heap.lt_size ho1)
 done:=by
  intro X hP hw hK hc i pz s σ H E I hf st hg
  subst hP hw hK
  obtain ⟨xs,hq,hx⟩:=hg
  obtain ⟨its,rv,p,hz⟩:=I.list hq
  obtain ⟨⟨old,he⟩,hi⟩:=st
  obtain ⟨o1,ho1,hc1,hd1⟩:=id hi
  obtain ⟨o2,ho2,hc2,_⟩:=id p.isList
  have hai:a≠it:=by rintro rfl; rw [ho1] at ho2; cases ho2; rw [hc1] at hc2; exact absurd hc2 (by decide)
  obtain ⟨f0,f1,f2,f3,f4,f5⟩:=hf it (by simp)
  have hn:its.toArray.size=i:=by rw [List.size_toArray,<-rv.length]; exact hx
  refine wpAny_pyNext_enum_endD (Draws.list (A:=X.A.in1) (show X.A.in1.handled=none from I.ok.hd hc) it a hai its.toArray) he ⟨by rw [hn]; exact hi,p.isList⟩ fun h' eb=>⟨rfl,I.turned (t':=s.toks) (fun b o hb q=>eb b o hb q) f0 f1 f3 f4 f5⟩
 self:=fun _ _ _ _ _ st h=>let ⟨⟨_,he⟩,_⟩:=st; wpAny_pyIter_enum he h
theorem IsTupleIter.at' {h h':Heap} {a t:Addr} {i:Nat} (x:h.IsTupleIter a t i) (hs:∀o,h.get? a=some o->h'.get? a=some o):h'.IsTupleIter a t i:=let ⟨o,ho,r⟩:=x; ⟨o,hs o ho,r⟩
theorem zk5 {P:Program} {w:World} {K:W.Frag} {elts:List Expr} {k:Nat} {pos:Pos} (a it e:Addr) (hei:e≠it):Turn P w K (.Tuple elts k pos) (Ien fun H xs=>SqT K H a xs) [e,it] e (fun i h=>(∃old,IsEnum h e it i old)/\h.IsTupleIter it a i) where
 mem:=by simp
 obj:=fun i h st b hb=>by
  obtain ⟨⟨old,he⟩,o,ho,hc,hd⟩:=st
  rcases List.mem_cons.mp hb with rfl | hb
  ·exact ⟨_,he,fun v z=>by have z':Data.fields _=Data.cell v:=z; cases z'⟩
  ·rw [List.mem_singleton.mp hb]
   exact ⟨o,ho,fun v z=>by rw [hd] at z; cases z⟩
 keep:=fun i h h' st kk=>by
  obtain ⟨⟨old,he⟩,hi⟩:=st
  exact ⟨⟨old,kk e (by simp) _ he⟩,IsTupleIter.at' hi fun o q=>kk it (by simp) o q⟩
 item:=by
  intro X hP hw hK hc i pz s σ H E I hf st hg
  subst hP hw hK
  obtain ⟨xs,x,hq,hx⟩:=hg
  obtain ⟨its,rv,p,hz⟩:=I.tuple hq
  obtain ⟨⟨old,he⟩,hi⟩:=st
  obtain ⟨o1,ho1,hc1,hd1⟩:=id hi
  obtain ⟨o2,ho2,hc2,_⟩:=id p
  have hai:a≠it:=by rintro rfl; rw [ho1] at ho2; cases ho2; rw [hc1] at hc2; exact absurd hc2 (by decide)
  have hea:e≠a:=by rintro rfl; rw [he] at ho2; cases ho2; exact absurd (show Value.type "enumerate" = _ from hc2) (by decide)
  have hlt:i < its.toArray.size:=by
   have:=(List.getElem?_eq_some_iff.mp hx).1
   rw [List.size_toArray,<-rv.length]; exact this
  refine wpAny_pyNext_enum_itemD (zpS (A:=X.A.in1) (show X.A.in1.handled=none from I.ok.hd hc) it a hai its.toArray) he ⟨hi,p⟩ hlt hei (by simp [hei,hea]) fun y h' tk hP ho hs' hT hsz hk=>?_
  refine ⟨_,rfl,wpAny_letOwnedTupleGo_enum ho fun h'' he'' hs''=>?_⟩
  obtain ⟨u,hu,ru⟩:=rv.get hx
  have hy:y=u:=by
   have:its[i]? = some y:=by simpa using hP
   rw [hu] at this; exact (Option.some.inj this).symm
  subst hy
  have hTe:s.heap.objs.size≠e:=Nat.ne_of_gt (Heap.lt_size he)
  have hT'':h''.get? s.heap.objs.size=some { cls:=.type "tuple",data:=.seq #[.int i tk,y] }:=(hs''.2 _ hTe).trans hT
  refine ⟨.ref s.heap.objs.size,upd H s.heap.objs.size (.tup [.int i,x]),zkI (s:=s) (h':=h'') (t':=tk + 1) (ch:=[e,it]) I hf (fun b ob hb q=>?_) (Nat.le_refl _) (zmC hT'' ru),rfl,⟨_,x,I.hok.fresh (Nat.le_refl _),rfl,rfl,fun ys hy=>by rw [I.tuple_inj hy hq]; exact hx⟩,⟨⟨_,by simpa using he''⟩,hs'.1.extBut hs''.extBut (Ne.symm hei)⟩,fun b hb=>?_⟩
  ·have hbe:b≠e:=fun z=>hb (by simp [z])
   exact (hs''.2 b hbe).trans (hk b ob hbe (fun z=>hb (by simp [z])) q)
  ·rw [zaq ?_]
   ·exact (hf b hb).1
   ·rcases List.mem_cons.mp hb with rfl | hb
    ·exact Nat.ne_of_lt (Heap.lt_size he)
    ·rw [List.mem_singleton.mp hb]; exact Nat.ne_of_lt (Heap.lt_size ho1)
 done:=by
  intro X hP hw hK hc i pz s σ H E I hf st hg
  subst hP hw hK
  obtain ⟨xs,hq,hx⟩:=hg
  obtain ⟨its,rv,p,hz⟩:=I.tuple hq
  obtain ⟨⟨old,he⟩,hi⟩:=st
  obtain ⟨o1,ho1,hc1,hd1⟩:=id hi
  obtain ⟨o2,ho2,hc2,_⟩:=id p
  have hai:a≠it:=by rintro rfl; rw [ho1] at ho2; cases ho2; rw [hc1] at hc2; exact absurd hc2 (by decide)
  obtain ⟨f0,f1,f2,f3,f4,f5⟩:=hf it (by simp)
  have hn:its.toArray.size=i:=by rw [List.size_toArray,<-rv.length]; exact hx
  refine wpAny_pyNext_enum_endD (zpS (A:=X.A.in1) (show X.A.in1.handled=none from I.ok.hd hc) it a hai its.toArray) he ⟨by rw [hn]; exact hi,p⟩ fun h' eb=>⟨rfl,I.turned (t':=s.toks) (fun b o hb q=>eb b o hb q) f0 f1 f3 f4 f5⟩
 self:=fun _ _ _ _ _ st h=>let ⟨⟨_,he⟩,_⟩:=st; wpAny_pyIter_enum he h
end
def tyN:D->Option String
 | .non=>some "NoneType"
 | .bl _=>some "bool"
 | .int _=>some "int"
 | .str _=>some "str"
 | .tup _=>some "tuple"
 | .lst _=>some "list"
 | .dic _=>some "dict"
 | .obj _ _=>none
def subT (t T:String):Bool:=t == T || (t == "bool" && T == "int")
def isiD (T:String) (d:D):Option D:=(tyN d).map fun t=>.bl (subT t T)
def TyD (K:W.Frag) (x:V) (H:Hp) (t:String):Prop:=match x with
 | .non=>t = "NoneType"
 | .bl _=>t = "bool"
 | .int _=>t = "int"
 | .str _=>t = "str"
 | .ref p=>(t = "list"/\∃xs,SqL K H p xs)\/(t = "tuple"/\∃xs,SqT K H p xs)\/(t = "dict"/\∃kz,Rd H p (.dK kz))
 | _=>False
theorem zry {K:W.Frag} {G:GH} {H:Hp} {v:V} {d:D} {t:String} (gk:GOk K G H) (h:RB K G H v d) (e:tyN d=some t):TyD K v H t:=by
 cases d with
 | non=>cases e; rw [h.non gk]; rfl
 | bl b=>cases e; rw [h.bl gk]; rfl
 | int i=>cases e; rw [h.int gk]; rfl
 | str x=>cases e; rw [h.str gk]; rfl
 | tup ds=>cases e; obtain ⟨a,xs,rfl,s,r⟩:=h.tup gk; exact .inr (.inl ⟨rfl,xs,s⟩)
 | lst ds=>cases e; obtain ⟨a,xs,rfl,s,r⟩:=h.lst gk; exact .inl ⟨rfl,xs,s⟩
 | dic ds=>cases e; obtain ⟨a,xs,rfl,s,r⟩:=h.dic gk; exact .inr (.inr ⟨rfl,xs,s⟩)
 | obj _ _=>cases e
section
variable {X:Cx} {g:GE} {m:List Md} {e a:Expr} {f:FE} {pos p p2:Pos}
theorem zoW:zdV X (.builtin "isinstance") (fun xs H Q=>∃x t T b,xs=[x,.ty T]/\TyD X.K x H t/\W.kitOne X.K (.type t) (.type T)=some b/\Q (.bl b) H):=by
 intro pz s σ H xs us Q I r h
 obtain ⟨x,t,T,b,rfl,ty,e,q⟩:=h
 obtain ⟨u,w',rfl,rx,ry⟩:=zrs r
 cases ry
 have fin:∀tk,EP X pz σ Q (.bool b) { s with toks:=tk }:=fun tk=>⟨.bl b,H,I.tok tk,rfl,q⟩
 cases x with
 | non=>cases rx; cases (show t = "NoneType" from ty); exact W.kia_one W.kitx_none I.kIn True.intro e (fun z=>nomatch z) fin
 | bl y=>cases rx; cases (show t = "bool" from ty); exact W.kia_one W.kitx_bool I.kIn True.intro e (fun z=>nomatch z) fin
 | int i=>obtain ⟨t,rfl⟩:=rx; cases ty; exact W.kia_one W.kitx_int I.kIn True.intro e (fun z=>nomatch z) fin
 | str i=>obtain ⟨t,rfl⟩:=rx; cases ty; exact W.kia_one W.kitx_str I.kIn True.intro e (fun z=>nomatch z) fin
 | ref p=>
  cases rx
  rcases ty with ⟨rfl,xs,hq⟩ | ⟨rfl,xs,hq⟩ | ⟨rfl,kz,hq⟩
  ·obtain ⟨its,_,pl,_⟩:=I.list hq
   obtain ⟨o,ho,hc,_⟩:=pl.isList
   exact W.kia_one W.kitx_list I.kIn ⟨o,ho,hc⟩ e (fun z=>nomatch z) fin
  ·obtain ⟨its,_,pl,_⟩:=I.tuple hq
   obtain ⟨o,ho,hc,_⟩:=pl
   exact W.kia_one W.kitx_tuple I.kIn ⟨o,ho,hc⟩ e (fun z=>nomatch z) fin
  ·obtain ⟨_,_,vs,_,pp⟩:=(show za3 X.prog X.w H s.heap p (.dK kz) from hq.ok I.hok)
   obtain ⟨o,es,ep,h1,h2,_⟩:=pp
   exact W.kia_one W.kitx_dict I.kIn ⟨o,h1,h2.1⟩ e (fun z=>nomatch z) fin
 | _=>exact (show False from ty).elim
theorem zjA (x:Str) (T:String) (hv:bootBuiltins x=some (.type T)) (hk:∀(d:D) (t:String),tyN d=some t->W.kitOne X.K (.type t) (.type T)=some (subT t T)) (hg:Gl X "isinstance") (hm:X.mg "isinstance" = none) (hgT:Gl X x) (hmT:X.mg x=none) (he:SB X g m e f)
  (hn:x≠"__name__" := by decide) (hd:(x == ("__debug__" : Str))=false:=by decide) (hs1:starEach [e,.Name x p2] X.env=(false,eval e X.env)::starEach [.Name x p2] X.env:=by rfl) (hs2:starEach [.Name x p2] X.env=(false,eval (.Name x p2) X.env)::starEach [] X.env:=by rfl)
  (hpl:(backTo pos (starEach [.Name x p2] X.env)).any (·.1)=false:=by rfl) :
  SE X g m (.Call (.Name "isinstance" p) [e,.Name x p2] [] pos) (f1 f (isiD T)):=by
 refine PE.imp (zel zoW hg hm (by first | exact PyProof.Rows.boot_isinstance | rfl) (zdI he (zdI (zqC (v:=.ty T) hgT hmT hv rfl hn hd) zgz hs2) hs1) (by decide) (by decide) hs1 hpl) fun σ H Q ⟨r,G,si,q⟩=>⟨r,G,si,zag (zai q) fun d q1 v G1 H1 w1 r1=>?_⟩
 obtain ⟨d',e',q2⟩:=zaB q1
 unfold isiD at e'
 cases et:tyN d with
 | none=>rw [et] at e'; cases e'
 | some t=>
  rw [et] at e'
  cases e'
  exact ⟨v,t,T,_,rfl,zry w1.ok r1 et,hk d t et,q2 _ G1 H1 w1 (.scl (.bl _))⟩
end
theorem zgg {d:D} {t:String} (h:tyN d=some t) {P:String->Prop} (h1:P "NoneType") (h2:P "bool") (h3:P "int") (h4:P "str") (h5:P "tuple") (h6:P "list") (h7:P "dict"):P t:=by
 cases d <;> cases h <;> assumption
theorem zmY (K:W.Frag) (d:D) (t:String) (h:tyN d=some t):W.kitOne K (.type t) (.type "int")=some (subT t "int"):=zgg (P:=fun t=>W.kitOne K (.type t) (.type "int")=some (subT t "int")) h (by kernel_rfl) (by kernel_rfl) (by kernel_rfl) (by kernel_rfl) (by kernel_rfl) (by kernel_rfl) (by kernel_rfl)
theorem zkG (K:W.Frag) (d:D) (t:String) (h:tyN d=some t):W.kitOne K (.type t) (.type "bool")=some (subT t "bool"):=zgg (P:=fun t=>W.kitOne K (.type t) (.type "bool")=some (subT t "bool")) h (by kernel_rfl) (by kernel_rfl) (by kernel_rfl) (by kernel_rfl) (by kernel_rfl) (by kernel_rfl) (by kernel_rfl)
theorem zgM (K:W.Frag) (d:D) (t:String) (h:tyN d=some t):W.kitOne K (.type t) (.type "tuple")=some (subT t "tuple"):=zgg (P:=fun t=>W.kitOne K (.type t) (.type "tuple")=some (subT t "tuple")) h (by kernel_rfl) (by kernel_rfl) (by kernel_rfl) (by kernel_rfl) (by kernel_rfl) (by kernel_rfl) (by kernel_rfl)
section
variable {X:Cx} {g:GE} {m:List Md} {e a b:Expr} {f fa:FE} {pos p pos2 p2:Pos} {es:List Expr} {fl:Rho->Res (List D)}
def rngV (lo:Int) (n:Nat):List V:=(List.range n).map fun (i:Nat)=>V.int (lo + (i:Int))
theorem zr0 {K:W.Frag} {G:GH} (lo:Int) (n:Nat):RGs K G (rngV lo n) (rngD lo n):=by
 unfold rngV rngD
 induction (List.range n) with
 | nil=>exact .nil
 | cons i l ih=>exact .cons (.scl (.int _)) ih
theorem zdE:∀{xs:List V} {us:List Value},xs.length=us.length->(∀(j:Nat) v u,xs[j]? = some v->us[j]? = some u->L2.RelV v u)->Vals xs us
 | [],[],_,_=>.nil
 | v::xs,u::us,hl,h=>.cons (h 0 v u rfl rfl) (zdE (by simpa using hl) fun j a b e1 e2=>h (j + 1) a b (by simpa using e1) (by simpa using e2))
 | [],_::_,hl,_=>by simp at hl
 | _::_,[],hl,_=>by simp at hl
theorem zn4 {lo:Int} {n:Nat} {acc:Array Value} (h:ItemsOf (fun i v=>∃t,v=.int (lo + i * 1) t) acc n):Vals (rngV lo n) acc.toList:=by
 refine zdE (by simp [rngV,h.1]) fun j v u e1 e2=>?_
 have hj:j < n:=by
  have:=(List.getElem?_eq_some_iff.mp e1).1
  simpa [rngV] using this
 unfold rngV at e1
 rw [List.getElem?_map,List.getElem?_range hj] at e1
 cases e1
 obtain ⟨t,rfl⟩:=h.2 j u (by rw [<-Array.getElem?_toList]; exact e2)
 exact ⟨t,by simp⟩
theorem znD:zdV X (.type "range") (fun xs H Q=>∃j,xs=[.int j]/\∀p,H p=none->Q (.ref p) (upd H p (.rng 0 j))):=by
 intro pz s σ H xs us Q I r h
 obtain ⟨j,rfl,q⟩:=h
 obtain ⟨u,rfl,t,rfl⟩:=zeK r
 refine call_range_1 ⟨.ref s.heap.objs.size,_,I.laid (o:=.rng 0 j) (fun b o e=>Heap.get?_push_of_some _ e) (Nat.le_refl _) ⟨_,_,_,Heap.get?_push_size _ rfl⟩,rfl,q _ (I.hok.fresh (Nat.le_refl _))⟩
theorem zik (hc:X.calm=true):zdV X (.type "list") (fun xs H Q=>∃p lo hi,xs=[.ref p]/\H p=some (.rng lo hi)/\(-(2 ^ 62)<=lo/\lo < 2 ^ 62/\-(2 ^ 62)<=hi/\hi < 2 ^ 62)/\(hi - lo).toNat<=sizeLine/\∀l,H l=none->Q (.ref l) (upd H l (.lst (rngV lo (hi - lo).toNat)))):=by
 intro pz s σ H xs us Q I r h
 obtain ⟨p,lo,hi,rfl,hp,⟨h1,h2,h3,h4⟩,hz,q⟩:=h
 obtain ⟨u,rfl,rx⟩:=zeK r
 cases rx
 obtain ⟨t,u,v,ho⟩:=(show za3 X.prog X.w H s.heap p (.rng lo hi) from I.hok p _ hp)
 have e2:Builtin.Range.rangeSize lo hi 1=(((hi - lo).toNat:Nat):Int):=by rw [rangeSize_one]; split <;> omega
 refine call_list_range (I.ok.hd hc) (r:=p) (a:=lo) (b:=hi) (c:=1) ho (small_one h1 h2 h3 h4) e2 (by rw [sizeLine_eq] at hz; omega) fun h' tk acc c' kp hS hacc=>?_
 refine ⟨.ref s.heap.objs.size,_,I.laid (t':=tk) kp (Nat.le_refl _) (show za3 X.prog X.w _ h' _ (.lst (rngV lo (hi - lo).toNat)) from ⟨by unfold rngV; rw [List.length_map,List.length_range]; exact hz,acc.toList,c',zn4 hacc,by rw [Array.toArray_toList]; exact hS⟩),rfl,q _ (I.hok.fresh (Nat.le_refl _))⟩
def zh5:List D->Option D
 | [.int j]=>if -(2 ^ 62)<=j/\j < 2 ^ 62/\j.toNat<=sizeLine then some (.lst (rngD 0 j.toNat)) else none
 | _=>none
theorem zpM {H:Hp} {p l:Addr} {o:HO} (h:upd H p o l=none):H l=none/\l≠p:=by
 by_cases e:l=p
 ·subst e; rw [zam] at h; cases h
 ·rw [zaq e] at h; exact ⟨h,e⟩
theorem zh0 (hc:X.calm=true) (hgl:Gl X "list") (hml:X.mg "list" = none) (hg:Gl X "range") (hm:X.mg "range" = none) (ha:SAB X g m [a] fl)
  (hs:starEach [a] X.env=(false,eval a X.env)::starEach [] X.env:=by rfl)
  (hs2:starEach [.Call (.Name "range" p2) [a] [] pos2] X.env=(false,eval (.Call (.Name "range" p2) [a] [] pos2) X.env)::starEach [] X.env:=by rfl) :
  SO X g m (.Call (.Name "list" p) [.Call (.Name "range" p2) [a] [] pos2] [] pos) (fC fl zh5):=by
 refine PE.imp (zeb (zik hc) hgl hml rfl (zdI (zeb znD hg hm boot_range ha (by decide) (by decide) hs rfl) zgz hs2) (by decide) (by decide) hs2 rfl) fun σ H Q ⟨r,G,si,q⟩=>⟨r,G,si,zag (zai q) fun ds q1 vs G1 H1 w1 rs=>?_⟩
 obtain ⟨d,e,q2⟩:=zaB q1
 unfold zh5 at e
 split at e
 ·split at e
  ·rename_i j hj
   cases e
   cases rs with
   | cons r1 t=>
    cases t
    refine ⟨j,by rw [r1.int w1.ok],fun p hp=>⟨p,0,j,rfl,zam,⟨by decide,by decide,hj.1,hj.2.1⟩,by simpa using hj.2.2,fun l hl=>?_⟩⟩
    obtain ⟨hl1,hl2⟩:=zpM hl
    have w2:=Grow.new w1.ok hp (.rng 0 j)
    have w3:=Grow.new w2.ok hl (.lst (rngV 0 (j - 0).toNat))
    refine q2 l G1 _ (w1.trans (w2.trans w3)) (w1.back hl1) ⟨w1.ok.isN hl1,.lst zam ?_⟩
    rw [show j - 0=j by omega]
    exact zr0 0 _
  ·cases e
 ·cases e
end
def MtD (K:W.Frag) (r:V->List V->Hp->VK->Prop) (k:D->List D->Option D):Prop:=∀(G:GH) (H:Hp) (v:V) (d:D) (vs:List V) (ds:List D) (d':D) (Q:VK),GOk K G H->RB K G H v d->Paired (RB K G H) vs ds->k d ds=some d' ->
 (∀v' G' H',Grow K G H G' H'->RG K G' v' d'->Q v' H')->r v vs H Q
def tyM (T:String):D->Bool
 | .lst _=>T == "list"
 | .tup _=>T == "tuple"
 | .dic _=>T == "dict"
 | .str _=>T == "str"
 | .int _=>T == "int"
 | _=>false
theorem zrx {K:W.Frag} {G:GH} {H:Hp} {v:V} {d:D} {T:String} (gk:GOk K G H) (h:RB K G H v d) (t:tyM T d=true):tyV K T v H:=by
 cases d with
 | lst ds=>obtain ⟨a,xs,rfl,s,r⟩:=h.lst gk; exact .inl ⟨eq_of_beq t,xs,s⟩
 | tup ds=>
  have e:T = "tuple" := eq_of_beq t
  rcases h with h | ⟨a,rfl,o⟩
  ·cases h with
   | scl s=>cases s
   | ref q=>
    cases gk _ _ q with
    | tup r s=>exact .inr (.inl ⟨e,.inr ⟨_,r⟩⟩)
   | kc k=>
    cases k with
    | tup r s z=>exact .inr (.inl ⟨e,.inl z⟩)
  ·cases o.ob
 | dic ds=>obtain ⟨a,xs,rfl,s,r⟩:=h.dic gk; exact .inr (.inr (.inl ⟨eq_of_beq t,.inl ⟨xs,s⟩⟩))
 | str x=>rw [h.str gk]; exact eq_of_beq t
 | int x=>rw [h.int gk]; exact eq_of_beq t
 | _=>cases t
def fM (T:String) (fo:FE) (fl:Rho->Res (List D)) (k:D->List D->Option D):FE:=fun r=>(fo r).bind fun d=>if tyM T d=true then (fl r).bind fun ds=>opt (k d ds) else .stuck
section
variable {X:Cx} {g:GE} {m mb:List Md} {e a b o:Expr} {es:List Expr} {f fa fb fo:FE} {fl:Rho->Res (List D)} {pos pos' apos cpos:Pos} {ro:Bool} {x name:Str} {T id:String} {R:V->List V->Hp->VK->Prop} {k:D->List D->Option D}
theorem s_bm (pa:PlainAttrs T) (slot:Slot T name id) (hty:typeOf (.builtin id)=pure (.type "method_descriptor")) (hmt:MtR X id R) (hk:MtD X.K R k) (ho:SB X g m o fo) (ha:SAB X g m (e::es) fl)
  (hbase:attributeBase o name X.env (eval o X.env)=eval o X.env:=by rfl)
  (hfew:((backTo cpos (starEach (e::es) X.env)).all (fun x=>! x.1) && (backToKw cpos (keywordEach [] X.env)).all (fun x=>x.1.isSome) && decide ((e::es).length + ([]:List Keyword).length + (if ([]:List Keyword).isEmpty then 0 else 1) < 30))=true:=by rfl)
  (hline:(apos.endLine == cpos.line)=true:=by rfl) (hst:starEach (e::es) X.env=(false,eval e X.env)::starEach es X.env:=by rfl) (hplain:(backTo cpos (starEach es X.env)).any (·.1)=false:=by rfl) :
  SE X g m (.Call (.Attribute o name apos) (e::es) [] cpos) (fM T fo fl k):=by
 refine PE.imp (zsm pa slot hty hmt ho ha hbase hfew hline hst hplain) fun σ H Q ⟨r,G,si,q⟩=>⟨r,G,si,zag (zai q) fun d q1 v G1 H1 w1 r1=>?_⟩
 by_cases ht:tyM T d=true
 ·rw [if_pos ht] at q1
  refine ⟨zrx w1.ok r1 ht,r,G1,si.grow w1,zaZ (zai q1) w1 fun ds q2 vs G2 H2 w2 rs=>?_⟩
  obtain ⟨d',e',q3⟩:=zaB q2
  exact hk G2 H2 v d vs ds d' Q w2.ok (r1.mono w2) rs e' fun v' G' H' w' z=>q3 v' G' H' ((w1.trans w2).trans w') z
 ·rw [if_neg ht] at q1; exact q1.elim
def zic (x:V):List V->Option Nat
 | []=>none
 | y::xs=>if eqV y x=true then some 0 else (zic x xs).map (· + 1)
def zfr (x:D):List D->Option Nat
 | []=>none
 | y::xs=>if eqs y x=true then some 0 else (zfr x xs).map (· + 1)
theorem zib (x:D):∀ds:List D,zic (toV x) (ds.map toV)=zfr x ds
 | []=>rfl
 | y::ds=>by
  show (if eqV (toV y) (toV x)=true then some 0 else (zic (toV x) (ds.map toV)).map (· + 1))=if eqs y x=true then some 0 else (zfr x ds).map (· + 1)
  rw [zib x ds]; rfl
theorem zkM {x:V} {xs:List V} {us:List Value} {j:Nat} (h0:Vals xs us) (f:xs.all zdK=true) (h:zic x xs=some j):∃hj:j < us.length,eqU x us[j]=true/\∀i (hi:i < us.length),i < j->eqU x us[i]=false:=by
 induction h0 generalizing j with
 | nil=>cases h
 | @cons y u xs us r t ih=>
  rw [List.all_cons,Bool.and_eq_true] at f
  unfold zic at h
  by_cases hy:eqV y x=true
  ·rw [if_pos hy] at h
   cases h
   exact ⟨Nat.zero_lt_succ _,by show eqU x u=true; rw [zi8 r f.1]; exact hy,fun i _ hlt=>absurd hlt (Nat.not_lt_zero _)⟩
  ·rw [if_neg hy] at h
   cases e:zic x xs with
   | none=>rw [e] at h; cases h
   | some z=>
    rw [e] at h
    cases h
    obtain ⟨a,b,c⟩:=ih f.2 e
    refine ⟨Nat.succ_lt_succ a,b,fun i hi hlt=>?_⟩
    cases i with
    | zero=>show eqU x u=false; rw [zi8 r f.1]; simpa using hy
    | succ i=>exact c i (Nat.lt_of_succ_lt_succ hi) (Nat.lt_of_succ_lt_succ hlt)
def zmo (K:W.Frag):V->List V->Hp->VK->Prop:=fun x vs H Q=>∃p xs y j,x=.ref p/\vs=[y]/\SqL K H p xs/\zdK y=true/\xs.all zdK=true/\zic y xs=some j/\Q (.int j) H
theorem ziS:MtR X "list.index" (zmo X.K):=by
 intro pz s σ H x vs v us Q I rx rv h
 obtain ⟨p,xs,y,j,rfl,rfl,hq,fy,fx,e,q⟩:=h
 cases rx
 obtain ⟨u,rfl,ru⟩:=zeK rv
 obtain ⟨its,r,pl,hz⟩:=I.list hq
 obtain ⟨o,n,ho,hc,hd,hs⟩:=pl
 obtain ⟨a,b,c⟩:=zkM r fx e
 have hl:=r.length
 obtain ⟨ocls,odict,odata,oslots⟩:=o
 simp only at hc hd hs
 subst hc hd hs
 refine call_meets PySem.F.slot_list_index ⟨_,ho,rfl⟩ PySem.F.entry_list_index (PySem.F.args_list_index_2 _ _)
  (SeqAt.list_indexAt p its.toArray n none oslots u (eqU y) j (by simpa using a) (by rw [sizeLine_eq] at hz; omega) (by simpa using b) (fun i hi hlt=>by simpa using c i (by simpa using hi) hlt)) ⟨ho,fun w hw=>zdJ ru fy r fx w (by simpa using hw),⟨.int j,H,I.tok _,⟨_,rfl⟩,q⟩⟩
def zs5:D->List D->Option D
 | .lst ds,[x]=>if zbm x=true/\ds.all zbm=true then (zfr x ds).map fun j=>.int j else none
 | .tup ds,[x]=>if zbm x=true/\ds.all zbm=true then (zfr x ds).map fun j=>.int j else none
 | _,_=>none
theorem zlz {K:W.Frag} {G:GH} {H:Hp} {ds:List D} {xs:List V} {x d':D} {v:V} (gk:GOk K G H) (rs:RGs K G xs ds) (rx:RB K G H v x) (e:(if zbm x=true/\ds.all zbm=true then (zfr x ds).map fun j=>D.int j else none)=some d') :
  ∃j:Nat,d'=.int j/\zdK v=true/\xs.all zdK=true/\zic v xs=some j:=by
 by_cases hc:zbm x=true/\ds.all zbm=true
 ·rw [if_pos hc] at e
  obtain ⟨e1,f1⟩:=RB.flat rx gk hc.1
  obtain ⟨e3,f3⟩:=zq8 rs gk hc.2
  cases ef:zfr x ds with
  | none=>rw [ef] at e; cases e
  | some j=>
   rw [ef] at e
   cases e
   exact ⟨j,rfl,f1,f3,by rw [e1,e3,zib]; exact ef⟩
 ·rw [if_neg hc] at e; cases e
def zgP (d:D) (ds:List D):Option D:=match d with
 | .lst _=>zs5 d ds
 | _=>none
theorem zi0 {K:W.Frag}:MtD K (zmo K) zgP:=by
 intro G H v d vs ds d' Q gk rv rs e q
 cases d with
 | lst zs=>
  cases ds with
  | nil=>cases e
  | cons x t=>
   cases t with
   | nil=>
    cases rs with
    | cons r1 rt=>
     cases rt
     obtain ⟨a,xs,rfl,s,r⟩:=rv.lst gk
     obtain ⟨j,rfl,h1,h2,h3⟩:=zlz gk r r1 e
     exact ⟨a,xs,_,j,rfl,rfl,s,h1,h2,h3,q _ G H (Grow.refl gk) (.scl (.int _))⟩
   | cons _ _=>cases e
 | _=>cases e
def zfP (xs:List V):Bool:=xs.all fun x=>match x with | .int _=>true | _=>false
theorem zj5 {xs:List V} (h:zfP xs=true):xs.all zdK=true:=by
 unfold zfP at h
 rw [List.all_eq_true] at h ⊢
 intro x hx
 have:=h x hx
 cases x <;> first | rfl | exact absurd this Bool.false_ne_true
theorem ziU {k:Int} {t:Tok}:∀{xs:List V} {us:List Value},Vals xs us->zfP xs=true->∀u∈us,MeetsSeq.EqGives u (.int k t) (eqU (.int k) u)
 | _,_,.nil,_=>fun u hu=>by cases hu
 | y::xs,u::us,.cons r rt,f=>fun u' hu=>by
  unfold zfP at f
  rw [List.all_cons,Bool.and_eq_true] at f
  cases y with
  | int i=>
   obtain ⟨t',rfl⟩:=r
   rcases List.mem_cons.mp hu with rfl | hu
   ·exact MeetsSeq.EqGives.int i k t' t
   ·exact ziU rt f.2 u' hu
  | _=>exact absurd f.1 Bool.false_ne_true
def zr4:V->List V->Hp->VK->Prop:=fun x vs H Q=>∃l xs k j,x=.ref l/\vs=[.int k]/\H l=some (.lst xs)/\zfP xs=true/\zic (.int k) xs=some j/\Q .non (upd H l (.lst (xs.eraseIdx j)))
theorem ziR:MtR X "list.remove" zr4:=by
 intro pz s σ H x vs v us Q I rx rv h
 obtain ⟨l,xs,k,j,rfl,rfl,hH,hi,e,q⟩:=h
 cases rx
 obtain ⟨u,rfl,t,rfl⟩:=zeK rv
 obtain ⟨hz,its,n,r,hl,eo⟩:=I.lstM hH
 obtain ⟨a,b,c⟩:=zkM r (zj5 hi) e
 have geq:∀y,y∈its.toArray->MeetsSeq.EqGives y (.int k t) (eqU (.int k) y):=fun y hy=>ziU r hi y (by simpa using hy)
 have hsz:its.toArray.size<=sizeLine:=by rw [List.size_toArray]; omega
 refine call_meets PySem.F.slot_list_remove ⟨_,eo,rfl⟩ PySem.F.entry_list_remove (PySem.F.args_list_remove_2 _ _) (MeetsSeq.list_remove l its.toArray n (.int k t) (eqU (.int k)) geq j (by simpa using a) (by simpa using b) (fun i hi hlt=>by simpa using c i (by simpa using hi) hlt) hsz) ⟨eo,?_⟩
 refine ⟨.non,_,I.lset (its':=its.eraseIdx j) hH eo ?_ ?_ ?_,rfl,q⟩
 ·apply Array.toList_inj.mp
  simp [Array.toList_eraseIdxIfInBounds]
 ·exact Vals.eraseIdx j r
 ·have:=List.length_eraseIdx_le xs j
  omega
def isInt:D->Bool
 | .int _=>true
 | _=>false
theorem zs2 {K:W.Frag} {G:GH} {H:Hp} {xs:List V} {ds:List D} (h:RGs K G xs ds) (gk:GOk K G H) (hf:ds.all isInt=true):zfP xs=true/\xs=ds.map toV:=by
 induction h with
 | nil=>exact ⟨rfl,rfl⟩
 | @cons x d xs ds r t ih=>
  rw [List.all_cons,Bool.and_eq_true] at hf
  obtain ⟨h1,h2⟩:=ih hf.2
  cases d with
  | int i=>
   have e:=r.int gk
   subst e
   refine ⟨?_,by rw [List.map_cons,<-h2]; rfl⟩
   show zfP _=true
   unfold zfP at h1 ⊢
   rw [List.all_cons,h1]; rfl
  | _=>exact absurd hf.1 Bool.false_ne_true
def remD:D->List D->Option D
 | .lst ds,[.int k]=>if ds.all isInt=true then (zfr (.int k) ds).map fun j=>.lst (ds.eraseIdx j) else none
 | _,_=>none
theorem zpf {K:W.Frag}:MutD K zr4 remD:=by
 intro G H a d vs ds d' Q gk ow rs e q
 unfold remD at e
 split at e
 ·split at e
  ·rename_i zs k hall
   cases ef:zfr (.int k) zs with
   | none=>rw [ef] at e; cases e
   | some j=>
    rw [ef] at e
    cases e
    cases ow.ob with
    | lst r s=>
     cases rs with
     | cons r1 t=>
      cases t
      obtain ⟨h1,h2⟩:=zs2 s gk hall
      refine ⟨a,_,k,j,rfl,by rw [r1.int gk],r,h1,?_,q _ (.lst zam (Paired.er j s))⟩
      rw [h2]
      exact (zib (.int k) zs).trans ef
  ·cases e
 ·cases e
def ziT (kz more:List (Key × D)):List (Key × D):=more.foldl (fun acc kv=>putD acc kv.1 kv.2) kz
theorem zqT {K:W.Frag} {G:GH} {more:List (Key × V)} {moreD:List (Key × D)} {ps:List (Key × V)} {kz:List (Key × D)} (hm:RKs K G more moreD) (h:RKs K G ps kz):RKs K G (zfM ps more) (ziT kz moreD):=by
 induction hm generalizing ps kz with
 | nil=>exact h
 | @cons p q m md r t ih=>
  have e:p.1=q.1:=r.1
  show RKs K G (zfM (putK ps p.1 p.2) _) (ziT (putD kz q.1 q.2) _)
  rw [e]
  exact ih (zr9 h r.2)
def zmm:V->List V->Hp->VK->Prop:=fun x vs H Q=>∃d o kz more,x=.ref d/\vs=[.ref o]/\d≠o/\H d=some (.dK kz)/\Rd H o (.dK more)/\kz.length + more.length<=sizeLine/\Q .non (upd H d (.dK (zfM kz more)))
theorem ziQ:MtR X "dict.update" zmm:=by
 intro pz s σ H x vs v us Q I rx rv h
 obtain ⟨d,o,kz,more,rfl,rfl,hne,hd,ho,hz,q⟩:=h
 cases rx
 obtain ⟨u,rfl,ru⟩:=zeK rv
 cases ru
 obtain ⟨z1,ns1,vs1,r1,dd1⟩:=(show za3 X.prog X.w H s.heap d (.dK kz) from I.hok d _ hd)
 obtain ⟨z2,ns2,vs2,r2,dd2⟩:=(show za3 X.prog X.w H s.heap o (.dK more) from ho.ok I.hok)
 have l1:=Paired.length r1
 have l2:=Paired.length r2
 refine call_meetsIn PySem.F.slot_dict_update dd1.typeIs PySem.F.entry_dict_update (PySem.F.args_dict_update_2 _ _) (meets_dict_update (zbl X.prog X.w) d o hne ns2) ⟨vs1,vs2,dd1,dd2,by omega,fun h' hm1 hm2 hs=>?_⟩
 have hlen:(zfM kz more).length<=sizeLine:=Nat.le_trans (ze7 more kz) hz
 refine ⟨.non,_,I.write (t':=s.toks) (x:=d) (e:=d) (by rw [hd]; exact trivial) (.inl rfl) (fun b u hb hu=>(hs.2 b hb).trans hu) (let ⟨ob,_,_,e,_⟩:=hm1; ⟨ob,e⟩) (show za3 X.prog X.w _ h' d (.dK (zfM kz more)) from ⟨hlen,ns1,_,KV.merge r2 r1,hm1⟩),rfl,q⟩
def updD:D->List D->Option D
 | .dic kz,[.dic more]=>if kz.length + more.length<=sizeLine then some (.dic (ziT kz more)) else none
 | _,_=>none
theorem zo8 {K:W.Frag}:MutD K zmm updD:=by
 intro G H a d vs ds d' Q gk ow rs e q
 unfold updD at e
 split at e
 ·split at e
  ·rename_i kz more hl
   cases e
   cases ow.ob with
   | dic r s=>
    cases rs with
    | cons r1 t=>
     cases t
     have hb:∃b ps,_=V.ref b/\Rd H b (.dK ps)/\RKs K G ps more:=r1.dic gk
     obtain ⟨b,ps,rfl,hb,rb⟩:=hb
     have hab:a≠b:=by
      rintro rfl
      cases r1 with
      | scl s=>cases s
      | ref z=>rw [ow.un] at z; cases z
      | kc k=>cases k
     have l1:=Paired.length s
     have l2:=Paired.length rb
     exact ⟨a,b,_,ps,rfl,rfl,hab,r,hb,by omega,q _ (.dic zam (zqT rb s))⟩
  ·cases e
 ·cases e
def zt2:V->List V->Hp->VK->Prop:=fun x vs H Q=>∃d kz,x=.ref d/\vs=[]/\Rd H d (.dK kz)/\∀p,H p=none->Q (.ref p) (upd H p (.ext fun h=>h.IsValuesView p d))
theorem zmN:MtR X "dict.values" zt2:=by
 intro pz s σ H x vs v us Q I rx rv h
 obtain ⟨d,kz,rfl,rfl,hd,q⟩:=h
 cases rx
 cases rv
 obtain ⟨z1,ns1,vs1,r1,dd1⟩:=(show za3 X.prog X.w H s.heap d (.dK kz) from hd.ok I.hok)
 refine call_meetsIn PySem.F.slot_dict_values dd1.typeIs PySem.F.entry_dict_values (PySem.F.args_dict_values_1 _) (meets_dict_values (zbl X.prog X.w) d ns1) ⟨⟨vs1,dd1⟩,?_⟩
 refine ⟨.ref s.heap.objs.size,_,I.laid (t':=s.toks) (o:=.ext fun h=>h.IsValuesView s.heap.objs.size d) (fun b ob e=>Heap.get?_push_of_some _ e) (Nat.le_refl _) ?_,rfl,q _ (I.hok.fresh (Nat.le_refl _))⟩
 refine ⟨⟨_,Heap.get?_push_size _ rfl,rfl,rfl⟩,⟨_,Heap.get?_push_size _ rfl⟩,fun h1 h2 hv hk=>?_⟩
 obtain ⟨ob,e,c⟩:=hv
 exact ⟨ob,hk ob e,c⟩
theorem zhg (hc:X.calm=true):zdV X (.type "list") (fun xs H Q=>∃p d kz,xs=[.ref p]/\H p=some (.ext fun h=>h.IsValuesView p d)/\Rd H d (.dK kz)/\∀l,H l=none->Q (.ref l) (upd H l (.lst (kz.map (·.2))))):=by
 intro pz s σ H xs us Q I r h
 obtain ⟨p,d,kz,rfl,hp,hd,q⟩:=h
 obtain ⟨u,rfl,rx⟩:=zeK r
 cases rx
 obtain ⟨hv,_,_⟩:=(show za3 X.prog X.w H s.heap p (.ext fun h=>h.IsValuesView p d) from I.hok p _ hp)
 obtain ⟨z1,ns1,vs1,r1,dd1⟩:=(show za3 X.prog X.w H s.heap d (.dK kz) from hd.ok I.hok)
 obtain ⟨ep,hat⟩:=dd1.dictAt
 have l1:=Paired.length r1
 refine W.kdl_call (W.kdl_values (knd:=zbl X.prog X.w) (kvs:=vs1) (ep:=ep)) (I.ok.hd hc) ⟨hv,hat⟩ (by omega) fun h' tk acc c' kp hS hacc=>?_
 have hvals:Vals (kz.map (·.2)) acc.toList:=by
  refine zdE (by have h1:=hacc.1; have h2:acc.toList.length=acc.size:=Array.length_toList; rw [List.length_map]; omega) fun j v u e1 e2=>?_
  obtain ⟨k,hk⟩:=hacc.2 j u (by rw [<-Array.getElem?_toList]; exact e2)
  rw [List.getElem?_map] at e1
  cases e3:kz[j]? with
  | none=>rw [e3] at e1; cases e1
  | some kv=>
   rw [e3] at e1
   cases e1
   obtain ⟨kv',e4,e5⟩:=Paired.get r1 hk
   rw [e3] at e4
   cases e4
   exact e5.2
 refine ⟨.ref s.heap.objs.size,_,I.laid (t':=tk) kp (Nat.le_refl _) (show za3 X.prog X.w _ h' _ (.lst (kz.map (·.2))) from ⟨by rw [List.length_map]; exact z1,acc.toList,c',hvals,by rw [Array.toArray_toList]; exact hS⟩),rfl,q _ (I.hok.fresh (Nat.le_refl _))⟩
def zpX:D->Option D
 | .dic kz=>some (.lst (kz.map (·.2)))
 | _=>none
theorem zo7 {K:W.Frag} {G:GH}:∀{ps:List (Key × V)} {kz:List (Key × D)},RKs K G ps kz->RGs K G (ps.map (·.2)) (kz.map (·.2))
 | _,_,.nil=>.nil
 | _,_,.cons r t=>.cons r.2 (zo7 t)
theorem zsB (hc:X.calm=true) (hg:Gl X "list") (hm:X.mg "list" = none) (ho:SB X g m o fo) (hbase:attributeBase o "values" X.env (eval o X.env)=eval o X.env:=by rfl) (hline:(apos.endLine == cpos.line)=true:=by rfl)
  (hs2:starEach [.Call (.Attribute o "values" apos) [] [] cpos] X.env=(false,eval (.Call (.Attribute o "values" apos) [] [] cpos) X.env)::starEach [] X.env:=by rfl) :
  SO X g m (.Call (.Name "list" pos') [.Call (.Attribute o "values" apos) [] [] cpos] [] pos) (f1 fo zpX):=by
 refine PE.imp (zeb (zhg hc) hg hm rfl (zdI (zsl PySem.F.plainAttrs_dict PySem.F.slot_dict_values PySem.F.type_dict_values zmN ho hbase hline) zgz hs2) (by decide) (by decide) hs2 rfl) fun σ H Q ⟨r,G,si,q⟩=>⟨r,G,si,zag (zai q) fun d q1 v G1 H1 w1 r1=>?_⟩
 obtain ⟨d',e,q2⟩:=zaB q1
 cases d with
 | dic kz=>
  cases e
  obtain ⟨a,ps,rfl,hs,rs⟩:=r1.dic w1.ok
  refine ⟨.inr (.inr (.inl ⟨rfl,.inl ⟨ps,hs⟩⟩)),a,ps,rfl,rfl,hs,fun p hp=>⟨p,a,ps,rfl,zam,?_,fun l hl=>?_⟩⟩
  ·exact Rd.mono hs fun a o e=>zlS hp _ _ e
  ·obtain ⟨hl1,hl2⟩:=zpM hl
   have w2:=Grow.new w1.ok hp (.ext fun h=>h.IsValuesView p a)
   have w3:=Grow.new w2.ok hl (.lst (ps.map (·.2)))
   exact q2 l G1 _ (w1.trans (w2.trans w3)) (w1.back hl1) ⟨w1.ok.isN hl1,.lst zam (zo7 rs)⟩
 | _=>cases e
end
def enuD:Nat->List D->List D
 | _,[]=>[]
 | i,d::ds=>.tup [.int i,d]::enuD (i + 1) ds
theorem ze8:∀(i:Nat) (ds:List D),(enuD i ds).length=ds.length
 | _,[]=>rfl
 | i,d::ds=>congrArg (· + 1) (ze8 (i + 1) ds)
theorem zig:∀(i j:Nat) (ds:List D),(enuD i ds)[j]? = (ds[j]?).map fun d=>D.tup [.int ((i + j:Nat):Int),d]
 | _,_,[]=>by simp [enuD]
 | i,0,d::ds=>by simp [enuD]
 | i,j + 1,d::ds=>by
  show (enuD (i + 1) ds)[j]? = _
  rw [zig (i + 1) j ds]
  simp only [List.getElem?_cons_succ]
  rw [show i + 1 + j=i + (j + 1) by omega]
theorem zlR {K:W.Frag} {ds:List D} {G0:GH} {sq:Hp->List V->Prop} (h:∀G H,Gle G0 G->GOk K G H->∃xs,sq H xs/\RGs K G xs ds):Yields K (Ien sq) (enuD 0 ds) G0:=by
 refine ⟨fun G H i w gk hi=>?_,fun G H i x H' d w gk y e=>?_,fun G H w gk=>?_⟩
 ·obtain ⟨xs,s,r⟩:=h G H w gk
  rw [ze8] at hi
  have hl:=Paired.length r
  exact ⟨xs,xs[i],s,List.getElem?_eq_getElem (by omega)⟩
 ·obtain ⟨xs,s,r⟩:=h G H w gk
  obtain ⟨p,v,hp,rfl,rfl,hv⟩:=y
  rw [zig] at e
  cases ed:ds[i]? with
  | none=>rw [ed] at e; cases e
  | some d0=>
   rw [ed] at e
   simp only [Option.map_some,Option.some.injEq,Nat.zero_add] at e
   subst e
   obtain ⟨v',e1,rv⟩:=Paired.get r ed
   have:=hv xs s
   rw [e1] at this; cases this
   exact ⟨_,Grow.newF gk hp (.tup (.inl zam) (.cons (.scl (.int _)) (.cons rv .nil))),.ref zaz⟩
 ·obtain ⟨xs,s,r⟩:=h G H w gk
  rw [ze8]
  exact ⟨xs,s,Paired.length r⟩
def fEnu (f:FE):FI:=fun r=>(f r).bind fun d=>(opt (za7 d)).bind fun ds=>.ok (enuD 0 ds)
section
variable {X:Cx} {g:GE} {m:List Md} {e a:Expr} {f:FE} {pos p pos2:Pos} {elts:List Expr} {kk:Nat}
theorem zmy {te:TE} (hg:Gl X "enumerate") (hm:X.mg "enumerate" = none) (he:PE X e te) (hs:starEach [e] X.env=(false,eval e X.env)::starEach [] X.env:=by rfl):PI X (.Tuple elts kk pos2) (.Call (.Name "enumerate" p) [e] [] pos) (fun σ H R=>te σ H fun x H1=>
   (∃a,x=.ref a/\(∃xs,SqL X.K H1 a xs)/\R (Ien fun H xs=>SqL X.K H a xs) H1)\/∃a,x=.ref a/\(∃xs,SqT X.K H1 a xs)/\R (Ien fun H xs=>SqT X.K H a xs) H1):=by
 intro pz s σ H R I h
 refine Call_ (ziW I hg hm boot_enumerate (PyProof.Rows.callWith_type1 (thn (zdI he zgz hs pos pz s σ H (fun vs H1=>match vs with
  | [x]=>(∃a,x=.ref a/\(∃xs,SqL X.K H1 a xs)/\R (Ien fun H xs=>SqL X.K H a xs) H1)\/∃a,x=.ref a/\(∃xs,SqT X.K H1 a xs)/\R (Ien fun H xs=>SqT X.K H a xs) H1
  | _=>False) I h) fun us s1 ⟨vs,H1,I1,r1,q1⟩=>?_) hs rfl))
 ·cases r1 with
  | nil=>exact q1.elim
  | @cons x u xs us rx rt=>
  cases rt with
  | cons _ _=>exact q1.elim
  | nil=>
  have fin:∀{h':Heap},h'.objs.size=s1.heap.objs.size + 2->(∀b o,s1.heap.get? b=some o->h'.get? b=some o)->∀b∈[s1.heap.objs.size + 1,s1.heap.objs.size],FpOk X pz H1 b:=fun hz kp b hb=>by
   have hge:s1.heap.objs.size<=b:=by
    rcases List.mem_cons.mp hb with rfl | hb
    ·exact Nat.le_succ _
    ·rw [List.mem_singleton.mp hb]; exact Nat.le_refl _
   exact I1.fpOk hge (I1.hok.fresh hge)
  rcases q1 with ⟨a,rfl,⟨xs,hq⟩,q⟩ | ⟨a,rfl,⟨xs,hq⟩,q⟩
  ·cases rx
   obtain ⟨its,rv,pl,hz⟩:=I1.list hq
   refine call_enumerate_list pl.isList fun h' he hi hsz kp=>wpAny_pyIter_enum he ?_
   exact ⟨_,[s1.heap.objs.size + 1,s1.heap.objs.size],_,_,H1,rfl,I1.kept (t':=s1.toks) kp,zk6 a _ _ (Nat.ne_of_gt (Nat.lt_succ_self _)),⟨⟨_,he⟩,hi⟩,fin hsz kp,q⟩
  ·cases rx
   obtain ⟨its,rv,pl,hz⟩:=I1.tuple hq
   refine zgZ (show s1.heap.IsTuple a its.toArray from pl) fun h' he hi hsz kp=>wpAny_pyIter_enum he ?_
   exact ⟨_,[s1.heap.objs.size + 1,s1.heap.objs.size],_,_,H1,rfl,I1.kept (t':=s1.toks) kp,zk5 a _ _ (Nat.ne_of_gt (Nat.lt_succ_self _)),⟨⟨_,he⟩,hi⟩,fin hsz kp,q⟩
theorem zs8 (hg:Gl X "enumerate") (hm:X.mg "enumerate" = none) (he:SE X g m e f) (hs:starEach [e] X.env=(false,eval e X.env)::starEach [] X.env:=by rfl):SIt X g m (.Tuple elts kk pos2) (.Call (.Name "enumerate" p) [e] [] pos) (fEnu f):=by
 refine PI.imp (zmy hg hm he hs) fun σ H R ⟨r,G,si,q⟩=>⟨r,G,si,zag (zai q) fun d q v G' H' w rv=>?_⟩
 obtain ⟨ds,e,q⟩:=zaB (zai q)
 cases d with
 | lst ds'=>
  cases e
  obtain ⟨a,xs,rfl,s,rs⟩:=rv.lst w.ok
  refine .inl ⟨a,rfl,⟨xs,s⟩,q _ G' H' w (zlR fun G H le gk=>?_)⟩
  obtain ⟨b,ys,e,s',r'⟩:=(rv.mono le).lst gk
  cases e
  exact ⟨ys,s',r'⟩
 | tup ds'=>
  cases e
  obtain ⟨a,xs,rfl,s,rs⟩:=rv.tup w.ok
  refine .inr ⟨a,rfl,⟨xs,s⟩,q _ G' H' w (zlR fun G H le gk=>?_)⟩
  obtain ⟨b,ys,e,s',r'⟩:=(rv.mono le).tup gk
  cases e
  exact ⟨ys,s',r'⟩
 | _=>cases e
end
theorem zmS:∀a b:List Int,HT.lexLt a b=lexI a b
 | [],[]=>rfl
 | [],_::_=>rfl
 | _::_,[]=>rfl
 | x::xs,y::ys=>by rw [HT.lexLt_cons,lexI,zmS xs ys]
inductive TupI (h:Heap):Value->List Int->Prop where
 | mk {a:Addr} {items:Array Value} {ns:List Int}:IsTup h a items->IntsAre items.toList ns->TupI h (.ref a) ns
theorem zj4:∀(xs ys:List Int),((List.range (min xs.length ys.length)).all (fun j=>decide (xs.getD j 0=ys.getD j 0)) && xs.length == ys.length)=decide (xs=ys):=by
 intro xs ys
 rw [Bool.eq_iff_iff,Bool.and_eq_true,List.all_eq_true,beq_iff_eq,decide_eq_true_iff]
 constructor
 ·rintro ⟨h1,h2⟩
  refine List.ext_getElem h2 fun i a b=>?_
  have:=h1 i (List.mem_range.mpr (by omega))
  simp only [decide_eq_true_eq] at this
  simpa [List.getD_eq_getElem?_getD,a,b] using this
 ·rintro rfl
  exact ⟨fun i _=>by simp,rfl⟩
theorem zp1 {A:Around} {s:Shared} {p q:Value} {k l:List Int} (hp:TupI s.heap p k) (hq:TupI s.heap q l) (hu:A.units < cLine):SeqAt.EqAt A s p q (decide (k=l)):=by
 cases hp with
 | @mk a ia _ ha ia'=>
  cases hq with
  | @mk b ib _ hb ib'=>
   by_cases e:a=b
   ·subst e
    obtain ⟨o,h1,h2,n,h3⟩:=ha
    obtain ⟨o',h1',h2',n',h3'⟩:=hb
    rw [h1] at h1'; cases h1'
    rw [h3] at h3'; cases h3'
    have:k=l:=by
     have z1:=ia'
     have z2:=ib'
     exact (IntsAre.nums z1).symm.trans (IntsAre.nums z2)
    subst this
    rw [decide_eq_true rfl]
    exact SeqAt.EqAt.same _
   ·have l1:=ia'.length
    have l2:=ib'.length
    rw [Array.length_toList] at l1 l2
    have key:=SeqAt.RcAt.tuples (A:=A) (s:=s) (e:=fun j=>decide (k.getD j 0=l.getD j 0)) (show s.heap.IsTuple a ia from ha) (show s.heap.IsTuple b ib from hb) hu (fun j h1 h2=>by
     obtain ⟨t,e1⟩:=IntsAre.int_at ia' j ia[j] (by rw [Array.getElem?_toList]; simp [h1])
     obtain ⟨t',e2⟩:=IntsAre.int_at ib' j ib[j] (by rw [Array.getElem?_toList]; simp [h2])
     rw [e1,e2]
     have:=SeqAt.EqAt.int_int (A:=A.in1) (s:=s) (k.getD j 0) t (l.getD j 0) t'
     have e:(k.getD j 0 == l.getD j 0)=decide (k.getD j 0=l.getD j 0):=by rw [Bool.eq_iff_iff]; simp
     rw [e] at this
     exact this)
    rw [l1,l2,zj4] at key
    exact SeqAt.EqAt.of_refs e key
inductive TupsI (h:Heap):List Value->List (List Int)->Prop where
 | nil:TupsI h [] []
 | cons {p:Value} {k:List Int} {ps:List Value} {ks:List (List Int)}:TupI h p k->TupsI h ps ks->TupsI h (p::ps) (k::ks)
theorem TupsI.length {h:Heap}:∀{ps:List Value} {ks:List (List Int)},TupsI h ps ks->ps.length=ks.length
 | _,_,.nil=>rfl
 | _,_,.cons _ t=>congrArg (· + 1) t.length
section
variable {prog:Program} {w:World} {A:Around} {s:Shared}
theorem zsK {fin:Bool} {Q:Bool->Shared->Prop} (hu:A.units < cLine) {ps qs:List Value} {ks ls:List (List Int)} {i:Nat} (h1:TupsI s.heap ps ks) (h2:TupsI s.heap qs ls) (h:Q (lexZ fin ks ls) s):W.KatLex prog w A false fin Q (ps.zip qs) i s:=by
 induction h1 generalizing qs ls i with
 | nil=>cases h2 <;> exact W.kat_nil h
 | @cons p k ps ks hp tp ih=>
  cases h2 with
  | nil=>exact W.kat_nil h
  | @cons q l qs ls hq tq=>
   refine W.kat_cons (zp1 hp hq hu prog w _ _ ?_)
   by_cases e:k=l
   ·rw [decide_eq_true e]
    have h':Q (lexZ fin ks ls) s:=by unfold lexZ at h; rw [if_pos e] at h; exact h
    exact W.kat_yes (ih tq h')
   ·rw [decide_eq_false e]
    have h':Q (lexI k l) s:=by unfold lexZ at h; rw [if_neg e] at h; exact h
    refine W.kat_no ?_
    rw [Bool.false_and]
    refine W.kat_one _ _ ?_
    cases hp with
    | mk ha ia=>cases hq with
     | mk hb ib=>
      refine HT.lt_tupInts ha hb ia ib hu ?_
      rw [zmS]
      exact h'
inductive TupR (h:Heap):Value->List (List Int)->Prop where
 | mk {a:Addr} {items:List Value} {ks:List (List Int)}:IsTup h a items.toArray->TupsI h items ks->ks≠[]->TupR h (.ref a) ks
theorem zqk {p q:Value} {ks ls:List (List Int)} {Q:Bool->Shared->Prop} {E:Value->Shared->Prop} (hp:TupR s.heap p ks) (hq:TupR s.heap q ls) (hu:A.units < cLine) (h:Q (lexR ks ls) s):wpAny (model prog w) A (keyLt' (tuples' false) p q) Q E s:=by
 cases hp with
 | @mk _ items _ ha ta hna=>cases hq with
  | @mk _ items_1 _ hb tb hnb=>
   obtain ⟨o,h1,h2,n,h3⟩:=ha
   obtain ⟨o',h1',h2',n',h3'⟩:=hb
   refine W.kat_lt h1 h3 h1' h3' ?_
   have e:decide (items.toArray.size < items_1.toArray.size)=decide (ks.length < ls.length):=by rw [List.size_toArray,List.size_toArray,ta.length,tb.length]
   rw [e]
   exact zsK hu (by simpa using ta) (by simpa using tb) h
end
def zd4:List D->Option (List Int)
 | []=>some []
 | .int i::ds=>(zd4 ds).map (i::·)
 | _=>none
theorem zkX {K:W.Frag} {G:GH} {H:Hp} (gk:GOk K G H) {ds:List D} {xs:List V} {ns:List Int} (h:RGs K G xs ds) (e:zd4 ds=some ns):xs=ns.map V.int:=by
 induction h generalizing ns with
 | nil=>cases e; rfl
 | @cons x d xs ds r t ih=>
  cases d with
  | int i=>
   have e':(zd4 ds).map (i::·)=some ns:=e
   cases q:zd4 ds with
   | none=>rw [q] at e'; cases e'
   | some ms=>
    rw [q] at e'
    cases e'
    rw [r.int gk,ih q]; rfl
  | _=>cases e
def TI2 (K:W.Frag) (H:Hp) (x:V) (k:List Int):Prop:=∃b,x=.ref b/\SqT K H b (k.map V.int)
def TR2 (K:W.Frag) (H:Hp) (x:V) (ks:List (List Int)):Prop:=∃b xs,x=.ref b/\SqT K H b xs/\Paired (TI2 K H) xs ks/\ks≠[]
def ziq {α:Type} (d:α) (ys:List α) (kss:List (List (List Int))):List α:=(zgq ys.length fun i j=>lexR (kss.getD i []) (kss.getD j [])).map fun i=>ys.getD i d
theorem za3.isS {P:Program} {w:World} {H:Hp} {h:Heap} {a:Addr} {o:HO} (x:za3 P w H h a o):h.get? a≠none:=by
 have s:∀{u:Obj},h.get? a=some u->h.get? a≠none:=fun e z=>by rw [z] at e; cases e
 cases o with
 | lst xs=>obtain ⟨_,_,_,_,e⟩:=x; exact s e
 | tup xs=>obtain ⟨_,_,_,⟨_,e,_⟩,_⟩:=x; exact s e
 | dK kz=>obtain ⟨_,_,_,_,o,_,_,e,_⟩:=x; exact s e
 | dT kz=>obtain ⟨_,_,_,_,o,_,_,e,_⟩:=x; exact s e
 | set S n=>obtain ⟨o,_,_,_,e,_⟩:=x; exact s e
 | ins C dx fs=>obtain ⟨_,_,_,e,_⟩:=x; exact s e
 | own y=>obtain ⟨_,e⟩:=x; exact s e
 | xd fs=>obtain ⟨_,⟨_,_,_,e,_⟩,_⟩:=x; exact s e
 | rng lo hi=>obtain ⟨_,_,_,e⟩:=x; exact s e
 | frz ob u=>obtain ⟨e,_⟩:=x; exact s e
 | tbl ps=>exact s (show h.get? a=some _ from x)
 | met f y=>exact s (show h.get? a=some _ from x)
 | ext φ=>obtain ⟨_,⟨_,e⟩,_⟩:=x; exact s e
section
variable {X:Cx} {pz:List (Addr × Obj)} {σ:L2.St} {H:Hp} {s:Shared}
theorem TupI.stay {h h':Heap} {L:Addr} {mm:Str->Option Value} (hL:h.Ns L mm) (k:∀b o,b≠L->h.get? b=some o->h'.get? b=some o) {p:Value} {ns:List Int} (x:TupI h p ns):TupI h' p ns:=by
 cases x with
 | mk ht hi=>
  obtain ⟨o,h1,h2,n,h3⟩:=ht
  refine .mk ⟨o,k _ _ ?_ h1,h2,n,h3⟩ hi
  rintro rfl
  obtain ⟨o',es,ep,e,d,_⟩:=hL
  rw [h1] at e; cases e
  rw [h3] at d; cases d
theorem TupsI.stay {h h':Heap} {L:Addr} {mm:Str->Option Value} (hL:h.Ns L mm) (k:∀b o,b≠L->h.get? b=some o->h'.get? b=some o):∀{ps:List Value} {ks:List (List Int)},TupsI h ps ks->TupsI h' ps ks
 | _,_,.nil=>.nil
 | _,_,.cons x t=>.cons (x.stay hL k) (t.stay hL k)
theorem TupR.stay {h h':Heap} {L:Addr} {mm:Str->Option Value} (hL:h.Ns L mm) (k:∀b o,b≠L->h.get? b=some o->h'.get? b=some o) {p:Value} {ks:List (List Int)} (x:TupR h p ks):TupR h' p ks:=by
 cases x with
 | mk ht hi hn=>
  obtain ⟨o,h1,h2,n,h3⟩:=ht
  refine .mk ⟨o,k _ _ ?_ h1,h2,n,h3⟩ (hi.stay hL k) hn
  rintro rfl
  obtain ⟨o',es,ep,e,d,_⟩:=hL
  rw [h1] at e; cases e
  rw [h3] at d; cases d
theorem zp0 (I:Inv X pz σ H s) {x:V} {k:List Int} {u:Value} (h:TI2 X.K H x k) (r:L2.RelV x u):TupI s.heap u k:=by
 obtain ⟨b,rfl,hq⟩:=h
 cases r
 obtain ⟨its,rv,pl,_⟩:=I.tuple hq
 exact .mk pl (by simpa using zhu rv)
theorem znT (I:Inv X pz σ H s) {xs:List V} {ks:List (List Int)} {us:List Value} (h:Paired (TI2 X.K H) xs ks) (v:Vals xs us):TupsI s.heap us ks:=by
 induction h generalizing us with
 | nil=>cases v; exact .nil
 | cons h _ ih=>
  cases v with
  | cons r q=>exact .cons (zp0 I h r) (ih q)
theorem zpZ (I:Inv X pz σ H s) {x:V} {ks:List (List Int)} {u:Value} (h:TR2 X.K H x ks) (r:L2.RelV x u):TupR s.heap u ks:=by
 obtain ⟨b,xs,rfl,hq,hp,hn⟩:=h
 cases r
 obtain ⟨its,rv,pl,_⟩:=I.tuple hq
 exact .mk pl (znT I hp rv) hn
theorem zgf {ys:List V} {us:List Value} (r:Vals ys us):∀(ix:List Nat),(∀i∈ix,i < ys.length)->Vals (ix.map fun i=>ys.getD i .non) (ix.map fun i=>us.getD i Value.none)
 | [],_=>.nil
 | i::ix,h=>by
  refine .cons ?_ (zgf r ix fun j hj=>h j (List.mem_cons_of_mem _ hj))
  have hi:=h i List.mem_cons_self
  obtain ⟨u,h1,h2⟩:=r.get (i:=i) (x:=ys[i]) (List.getElem?_eq_getElem hi)
  have e1:ys.getD i .non=ys[i]:=by simp [List.getD_eq_getElem?_getD,hi]
  have e2:us.getD i Value.none=u:=by rw [List.getD_eq_getElem?_getD,h1]; rfl
  show L2.RelV (ys.getD i .non) (us.getD i Value.none)
  rw [e1,e2]; exact h2
theorem Inv.laidN {D:Addr} {ys:List V} {its:List Value} {c:Nat} {h':Heap} (I:Inv X pz σ H s) (hD:s.heap.get? D=none) (hDL:D≠X.env.locals) (k:∀b o,b≠X.env.locals->s.heap.get? b=some o->h'.get? b=some o)
  (hns:∀m,s.heap.Ns X.env.locals m->h'.Ns X.env.locals m) (ho:h'.get? D=some { cls:=.type "list",data:=.seq its.toArray c }) (rv:Vals ys its) (hz:ys.length<=sizeLine) (t':Nat) :
  Inv X pz σ (upd H D (.lst ys)) { s with heap:=h',toks:=t' }:=by
 have hHD:H D=none:=by
  cases q:H D with
  | none=>rfl
  | some u=>
   exact absurd hD (za3.isS (I.hok D u q))
 have neD:∀b o,s.heap.get? b=some o->b≠D:=fun b o e z=>by rw [z,hD] at e; cases e
 have keepU:∀b u,H b=some u->upd H D (.lst ys) b=some u:=fun b u e=>by rw [zaq (zbL e hHD)]; exact e
 have trkL:∀b u,H b=some u->b≠X.env.locals:=fun b u e z=>by rw [z,I.free] at e; cases e
 refine I.step (g':=s.gens) (d':=s.drawn) (ch:=[]) (fun b hb=>absurd hb (by simp)) (fun b ob hL _ _ e _=>k b ob hL e) (fun b ob hL _ _ e _=>⟨ob.slots,k b ob hL e⟩) (fun b ob _ e n=>by rw [zaq (neD b ob e)]; exact n)
  (fun b ob _ e=>?_) (fun b xs e=>keepU b _ e) (fun b ob u e=>keepU b _ e) (fun b ps e=>⟨#[],by rw [keepU b _ e]; simp⟩) hns (fun b u e=>?_) I.bare
 ·by_cases hb:b=X.env.locals
  ·subst hb
   obtain ⟨m,hn,_⟩:=I.loc
   obtain ⟨o,_,_,ho',_⟩:=hns m hn
   exact ⟨o,ho'⟩
  ·exact ⟨ob,k b ob hb e⟩
 ·by_cases hb:b=D
  ·subst hb
   rw [zam] at e
   cases e
   exact ⟨hz,its,c,rv,ho⟩
  ·rw [zaq hb] at e
   refine (I.hok b u e).stay (fun cc v hc q=>k cc v ?_ q) (fun cc q=>keepU cc _ q) fun cc xs q=>keepU cc _ q
   rcases hc with z | z
   ·rw [z]; exact trkL b u e
   ·exact trkL cc _ z
theorem zqR {h:Heap} {L:Addr} {m m':Str->Option Value} (a:h.Ns L m) (b:h.Ns L m'):m=m':=by
 obtain ⟨o,es,ep,e,d,_,f⟩:=a
 obtain ⟨o',es',ep',e',d',_,f'⟩:=b
 rw [e] at e'; cases e'
 rw [d] at d'; cases d'
 funext x
 rw [<-f,<-f']
theorem zkH {h:Heap}:∀{us:List Value} {kss:List (List (List Int))},Paired (fun u ks=>TupR h u ks) us kss->∃fs,W.KatTups h us fs/\fs.length=us.length/\∀f∈fs,∃b o,f=Value.ref b/\h.get? b=some o/\o.cls=.type "tuple"
 | _,_,.nil=>⟨[],W.KatTups.nil,rfl,fun f hf=>nomatch hf⟩
 | _,_,.cons x t=>by
  obtain ⟨fs,h1,h2,h3⟩:=zkH t
  cases x with
  | @mk a items ks ht hi hn=>
   cases hi with
   | nil=>exact absurd rfl hn
   | @cons p k ps ks hp _=>
    obtain ⟨o,e1,e2,n,e3⟩:=ht
    refine ⟨p::fs,W.KatTups.cons e1 e2 e3 (by simp) h1,by simp [h2],fun f hf=>?_⟩
    rcases List.mem_cons.mp hf with rfl | hf
    ·cases hp with
     | mk hb _=>obtain ⟨ob,q1,q2,_⟩:=hb; exact ⟨_,ob,rfl,q1,q2⟩
    ·exact h3 f hf
theorem znU (I:Inv X pz σ H s) {ys:List V} {kss:List (List (List Int))} {us:List Value} (h:Paired (TR2 X.K H) ys kss) (v:Vals ys us):Paired (fun u ks=>TupR s.heap u ks) us kss:=by
 induction h generalizing us with
 | nil=>cases v; exact .nil
 | cons h _ ih=>
  cases v with
  | cons r q=>exact .cons (zpZ I h r) (ih q)
theorem zgp {n:Nat} {c:Nat->Nat->Bool} {i:Nat} (h:i∈zgq n c):i < n:=List.mem_range.mp ((zfi n c).mem_iff.mp h)
theorem zj2 {k:Nat} (hr:Room k X.A):zdV X (.builtin "sorted") (fun xs H Q=>∃p ys kss,xs=[.ref p]/\SqL X.K H p ys/\Paired (TR2 X.K H) ys kss/\ys.length < 64/\∀l,H l=none->Q (.ref l) (upd H l (.lst (ziq .non ys kss)))):=by
 intro pz s σ H xs us Q I r h
 obtain ⟨p,ys,kss,rfl,hq,hk,h64,q⟩:=h
 obtain ⟨u,rfl,rx⟩:=zeK r
 cases rx
 obtain ⟨its,rv,pl,hz⟩:=I.list hq
 have hl:=rv.length
 have hkl:=Paired.length hk
 by_cases h2:its.length < 2
 ·refine zfG pl.isList h2 fun h' c D kp hD ho=>?_
  have hs:s.heap.get? D=none:=Heap.get?_none_of_le hD
  refine ⟨.ref D,_,Inv.laidN I hs (Nat.ne_of_gt (Nat.lt_of_lt_of_le I.lt hD)) (fun b o _ e=>kp b o e) (fun m ⟨o,es,ep,e,z⟩=>⟨o,es,ep,kp _ _ e,z⟩) ho rv (by omega) s.toks,rfl,?_⟩
  have e:ziq V.non ys kss=ys:=by
   unfold ziq zgq
   rw [if_pos (by omega)]
   refine List.ext_getElem (by simp) fun i a b=>?_
   simp [List.getD_eq_getElem?_getD,b]
  have:=q D (I.hok.fresh hD)
  rw [e] at this
  exact this
 ·obtain ⟨mF,F⟩:=I.fr
  have trs:=znU I hk rv
  refine W.kat_sorted F (zor (g:=X.base) (h:=s.heap) (L:=X.env.locals)) pl.isList (by omega) (by omega) fun D e1 h' F' N' hlt=>?_
  have hDs:s.heap.get? D=none:=by
   cases z:s.heap.get? D with
   | none=>rfl
   | some o=>
    have zn:=(N' _ (List.mem_cons_self)).2
    exact absurd (hlt (D,o) (zgF zn.1 zn.2 z)) (Nat.lt_irrefl _)
  have keepN:∀{h2:Heap} {oD:Obj},Fr X.base X.env.locals h2 mF->News X.base X.env.locals h2 ((D,oD)::zg1 X.base s.heap X.env.locals)->∀b o,b≠X.env.locals->s.heap.get? b=some o->h2.get? b=some o:=fun {h2 oD} F2 N2 b o hb e=>by
   cases z:X.base.get? b with
   | some o'=>
    have:=I.bk b o' z
    rw [e] at this; cases this
    exact F2.keep b o z
   | none=>exact (N2 (b,o) (List.mem_cons_of_mem _ (zgF hb z e))).1
  have k1:=keepN F' N'
  have trs':Paired (fun u ks=>TupR h' u ks) its kss:=Paired.mono (fun _ _ x=>x.stay F.ns k1) trs
  obtain ⟨fs,t1,t2,t3⟩:=zkH trs'
  refine W.kat_kind (T:=.type "tuple") t1 (by omega) (fun v hv=>?_) (by decide) ?_
  ·obtain ⟨b,o,rfl,e1,e2⟩:=t3 v hv
   rw [<-e2]
   exact (W.Looks.ld e1).andThen .now
  have hn:0 < its.length:=by omega
  refine zm2 (n:=its.length) (c:=fun i j=>lexR (kss.getD i []) (kss.getD j [])) (fun i j C hi hj hC=>?_) (zjk hn) ?_
  ·have gi:∀i,i < its.length->TupR h' (its.getD i Value.none) (kss.getD i []):=fun i hi=>by
    have hki:i < kss.length:=by omega
    obtain ⟨a,ha,hx⟩:=Paired.get trs' (List.getElem?_eq_getElem hki)
    rw [List.getD_eq_getElem?_getD,ha,List.getD_eq_getElem?_getD,List.getElem?_eq_getElem hki]
    exact hx
   exact zqk (gi i hi) (gi j hj) (by have:=hr.un; show X.A.units + 1 + 1 < cLine; omega) hC
  ·refine W.KasFin.intro F' N' (.head fun q hq z=>?_) fun h3 c F3 N3=>?_
   ·have:=hlt q hq
    rw [z] at this
    exact Nat.lt_irrefl _ this
   ·have oD:=(N3 _ List.mem_cons_self)
    have hix:∀i∈zgq ys.length (fun i j=>lexR (kss.getD i []) (kss.getD j [])),i < ys.length:=fun i hi=>zgp hi
    have e0:(ziY (fun i j=>lexR (kss.getD i []) (kss.getD j [])) (W.kas_sort its.length)).toList=zgq ys.length (fun i j=>lexR (kss.getD i []) (kss.getD j [])):=by
     unfold zgq
     rw [if_neg (by omega),hl]
    rw [e0] at oD
    refine ⟨.ref D,_,Inv.laidN (t':=_) (its:=(zgq ys.length fun i j=>lexR (kss.getD i []) (kss.getD j [])).map fun i=>its.getD i Value.none) I hDs oD.2.1 (keepN F3 N3) (fun m hm=>by rw [zqR hm F.ns]; exact F3.ns) oD.1 (zgf rv _ hix) ?_,rfl,q D ?_⟩
    ·have:=(zfi ys.length fun i j=>lexR (kss.getD i []) (kss.getD j [])).length_eq
     rw [List.length_map,this,List.length_range]; omega
    ·cases z:H D with
     | none=>rfl
     | some u=>exact absurd hDs (za3.isS (I.hok D u z))
end
def zfO:D->Option (List Int)
 | .tup ds=>zd4 ds
 | _=>none
def zg8:List D->Option (List (List Int))
 | []=>some []
 | d::ds=>(zfO d).bind fun k=>(zg8 ds).map (k::·)
def zn5:D->Option (List (List Int))
 | .tup (d::ds)=>zg8 (d::ds)
 | _=>none
def zfK:List D->Option (List (List (List Int)))
 | []=>some []
 | d::ds=>(zn5 d).bind fun k=>(zfK ds).map (k::·)
def znX:List D->Option D
 | [.lst ds]=>(zfK ds).bind fun kss=>if ds.length < 64 then some (.lst (ziq .non ds kss)) else none
 | _=>none
section
variable {K:W.Frag} {G:GH} {H:Hp}
theorem zrC (gk:GOk K G H) {v:V} {d:D} {k:List Int} (r:RG K G v d) (e:zfO d=some k):TI2 K H v k:=by
 cases d with
 | tup ds=>
  obtain ⟨a,xs,rfl,s,rs⟩:=r.tup gk
  have:=zkX gk rs e
  subst this
  exact ⟨a,rfl,s⟩
 | _=>cases e
theorem zp5 (gk:GOk K G H) {ds:List D} {xs:List V} {ks:List (List Int)} (h:RGs K G xs ds) (e:zg8 ds=some ks):Paired (TI2 K H) xs ks:=by
 induction h generalizing ks with
 | nil=>cases e; exact .nil
 | @cons x d xs ds r t ih=>
  have e':(zfO d).bind (fun k=>(zg8 ds).map (k::·))=some ks:=e
  cases e1:zfO d with
  | none=>rw [e1] at e'; cases e'
  | some k=>
   rw [e1] at e'
   cases e2:zg8 ds with
   | none=>rw [e2] at e'; cases e'
   | some ks'=>rw [e2] at e'; cases e'; exact .cons (zrC gk r e1) (ih e2)
theorem znS {d:D} {ds:List D} {ks:List (List Int)} (e:zg8 (d::ds)=some ks):ks≠[]:=by
 have e':(zfO d).bind (fun k=>(zg8 ds).map (k::·))=some ks:=e
 cases e1:zfO d with
 | none=>rw [e1] at e'; cases e'
 | some k=>
  rw [e1] at e'
  cases e2:zg8 ds with
  | none=>rw [e2] at e'; cases e'
  | some ks'=>rw [e2] at e'; cases e'; simp
theorem zrB (gk:GOk K G H) {v:V} {d:D} {ks:List (List Int)} (r:RG K G v d) (e:zn5 d=some ks):TR2 K H v ks:=by
 cases d with
 | tup ds=>
  cases ds with
  | nil=>cases e
  | cons d ds=>
   obtain ⟨a,xs,rfl,s,rs⟩:=r.tup gk
   exact ⟨a,xs,rfl,s,zp5 gk rs e,znS e⟩
 | _=>cases e
theorem zp4 (gk:GOk K G H) {ds:List D} {xs:List V} {ks:List (List (List Int))} (h:RGs K G xs ds) (e:zfK ds=some ks):Paired (TR2 K H) xs ks:=by
 induction h generalizing ks with
 | nil=>cases e; exact .nil
 | @cons x d xs ds r t ih=>
  have e':(zn5 d).bind (fun k=>(zfK ds).map (k::·))=some ks:=e
  cases e1:zn5 d with
  | none=>rw [e1] at e'; cases e'
  | some k=>
   rw [e1] at e'
   cases e2:zfK ds with
   | none=>rw [e2] at e'; cases e'
   | some ks'=>rw [e2] at e'; cases e'; exact .cons (zrB gk r e1) (ih e2)
theorem zhV {xs:List V} {ds:List D} (r:RGs K G xs ds):∀(ix:List Nat),(∀i∈ix,i < ds.length)->RGs K G (ix.map fun i=>xs.getD i .non) (ix.map fun i=>ds.getD i .non)
 | [],_=>.nil
 | i::ix,h=>by
  refine .cons ?_ (zhV r ix fun j hj=>h j (List.mem_cons_of_mem _ hj))
  have hi:=h i List.mem_cons_self
  obtain ⟨u,h1,h2⟩:=Paired.get r (List.getElem?_eq_getElem hi)
  show RG K G (xs.getD i .non) (ds.getD i .non)
  rw [List.getD_eq_getElem?_getD,h1,List.getD_eq_getElem?_getD,List.getElem?_eq_getElem hi]
  exact h2
end
section
variable {X:Cx} {g:GE} {m:List Md} {a:Expr} {fl:Rho->Res (List D)} {pos p:Pos} {k:Nat}
theorem zoq (hr:Room k X.A) (hg:Gl X "sorted") (hm:X.mg "sorted" = none) (ha:SAB X g m [a] fl) (hs:starEach [a] X.env=(false,eval a X.env)::starEach [] X.env:=by rfl) :
  SO X g m (.Call (.Name "sorted" p) [a] [] pos) (fC fl znX):=by
 refine zqc (R:=fun xs H Q=>∃p ys kss,xs=[.ref p]/\SqL X.K H p ys/\Paired (TR2 X.K H) ys kss/\ys.length < 64/\∀l,H l=none->Q (.ref l) (upd H l (.lst (ziq .non ys kss)))) ?_ (zel (zj2 hr) hg hm (by first | exact PyProof.Rows.boot_sorted | rfl) ha (by decide) (by decide) hs rfl)
 intro G H vs ds d Q gk rs e q
 unfold znX at e
 split at e
 ·rename_i zs
  cases ek:zfK zs with
  | none=>rw [ek] at e; cases e
  | some kss=>
   rw [ek] at e
   have e':(if zs.length < 64 then some (D.lst (ziq .non zs kss)) else none)=some d:=e
   by_cases h64:zs.length < 64
   ·rw [if_pos h64] at e'
    cases e'
    cases rs with
    | cons r1 t=>
     cases t
     obtain ⟨b,xs,rfl,s,r⟩:=r1.lst gk
     have hl:=Paired.length r
     refine ⟨b,xs,kss,rfl,s,zp4 gk r ek,by omega,fun l hl'=>q l G _ (Grow.new gk hl' _) hl' ⟨gk.isN hl',.lst zam ?_⟩⟩
     unfold ziq
     rw [hl]
     exact zhV r _ fun i hi=>zgp hi
   ·rw [if_neg h64] at e'; cases e'
 ·cases e
end
end DL
namespace DL
open PySem PyProof.Rows PySem.SeqAt PySem.MeetsSeq PySem.MeetsSeq2 PySem.MeetsSeq3 L2
section
open PySem.AutoSeq1 (wpAny_loadPart')
theorem zi9 {α:Type} {xs:List α} {i:Nat} {y:α} {ys:List α} (h:xs.drop i=y::ys):xs[i]? = some y/\xs.drop (i + 1)=ys/\i < xs.length:=by
 have h1:xs[i]? = some y:=by
  have:=congrArg (fun l=>l[0]?) h
  simpa using this
 refine ⟨h1,?_,(List.getElem?_eq_some_iff.mp h1).1⟩
 have:=congrArg List.tail h
 simpa using this
theorem zqU (l b:Addr) (items items2:Array Value) (n n2:Nat) (dd dd2:Option Addr) (sl sl2:Array (Option Value)):∀(ns ms:List Int) (i:Nat),i<=items.size->i<=items2.size->IntsAre (items.toList.drop i) ns->IntsAre (items2.toList.drop i) ms ->
  Meets (Builtin.«list.__eq__.loop» ⟨[.ref l,.ref b,rawInt (i:Nat),rawInt 0],[]⟩)
   (fun _ R s=>s.heap.get? l=some { cls:=.type "list",dict:=dd,data:=.seq items n,slots:=sl }/\s.heap.get? b=some { cls:=.type "list",dict:=dd2,data:=.seq items2 n2,slots:=sl2 } /\
    R (.ok (.ret (.bool (HT.lexLt ns ms)))) s):=by
 intro ns
 induction ns with
 | nil=>
  intro ms i h1 h2 hi hj
  refine .of_wp fun prog w A R s h=>?_
  obtain ⟨hp,g,d,tk,os⟩:=s; obtain ⟨hl,hb,h⟩:=h
  have l1:=hi.length
  have l2:=hj.length
  simp at l1 l2
  have e1:items[(i:Int).toNat]? = none:=by rw [Int.toNat_natCast,Array.getElem?_eq_none]; omega
  have hv:HT.lexLt [] ms=decide (items.size < items2.size):=by
   cases ms with
   | nil=>simp at l2; rw [HT.lexLt_nil_nil]; exact (decide_eq_false (by omega)).symm
   | cons c ms=>simp at l2; rw [HT.lexLt_nil_cons]; exact (decide_eq_true (by omega)).symm
  rw [hv] at h
  wp_walk using wpAny_loadPart' hl,wpAny_loadPart' hb
  rw [e1]
  wp_walk using wpAny_loadPart' hl,wpAny_loadPart' hb
  exact ⟨_,rfl,h⟩
 | cons a ns ih=>
  intro ms i h1 h2 hi hj
  generalize hdi:items.toList.drop i=di at hi
  cases hi with
  | cons a t hi=>
   obtain ⟨i1,i2,i3⟩:=zi9 hdi
   have i1':items[(i:Int).toNat]? = some (.int a t):=by rw [Int.toNat_natCast]; simpa using i1
   cases ms with
   | nil=>
    refine .of_wp fun prog w A R s h=>?_
    obtain ⟨hp,g,d,tk,os⟩:=s; obtain ⟨hl,hb,h⟩:=h
    have l2:=hj.length
    simp at l2
    have e1:items2[(i:Int).toNat]? = none:=by rw [Int.toNat_natCast,Array.getElem?_eq_none]; omega
    have hv:HT.lexLt (a::ns) []=decide (items.size < items2.size):=by
     rw [HT.lexLt_cons_nil]; exact (decide_eq_false (by omega)).symm
    rw [hv] at h
    wp_walk using wpAny_loadPart' hl,wpAny_loadPart' hb
    rw [e1,i1']
    wp_walk using wpAny_loadPart' hl,wpAny_loadPart' hb
    exact ⟨_,rfl,h⟩
   | cons c ms=>
    generalize hdj:items2.toList.drop i=dj at hj
    cases hj with
    | cons c u hj=>
     obtain ⟨j1,j2,j3⟩:=zi9 hdj
     have j1':items2[(i:Int).toNat]? = some (.int c u):=by rw [Int.toNat_natCast]; simpa using j1
     intro prog w A R s h
     obtain ⟨hp,g,d,tk,os⟩:=s; obtain ⟨hl,hb,h⟩:=h
     rw [HT.lexLt_cons] at h
     wp_walk using wpAny_loadPart' hl,wpAny_loadPart' hb
     rw [i1',j1']
     obtain ⟨e,he,hiff⟩:=HT.eqAt_int A.in1 ⟨hp,g,d,tk,os⟩ a t c u
     refine wpAny_bind (he prog w _ _ ?_)
     cases e with
     | true=>
      rw [if_pos (hiff.mp rfl)] at h
      rw [<-i2] at hi
      rw [<-j2] at hj
      have M:=ih ms (i + 1) (by simp at i3; omega) (by simp at j3; omega) hi hj
      have e:((i + 1:Nat):Int)=(i:Int) + 1:=rfl
      rw [e] at M
      exact (meets_again rfl (by decide +kernel) entry_eq_loop M) prog w A R _ ⟨hl,hb,h⟩
     | false=>
      rw [if_neg (fun q=>absurd (hiff.mpr q) Bool.false_ne_true)] at h
      have hri:=HT.rcLt_int A.in1 ⟨hp,g,d,tk,os⟩ a t c u prog w
      wp_walk using wpAny_loadPart' hl,wpAny_loadPart' hb
      rw [i1',j1']
      wp_walk using hri
      exact h
theorem ziV (l b:Addr) (items items2:Array Value) (n n2:Nat) (dd dd2:Option Addr) (sl sl2:Array (Option Value)) (ns ms:List Int) (hi:IntsAre items.toList ns) (hj:IntsAre items2.toList ms) :
  Meets (Builtin.«list.__lt__» ⟨[.ref l,.ref b],[]⟩)
   (fun _ R s=>s.heap.get? l=some { cls:=.type "list",dict:=dd,data:=.seq items n,slots:=sl }/\s.heap.get? b=some { cls:=.type "list",dict:=dd2,data:=.seq items2 n2,slots:=sl2 } /\
    R (.ok (.ret (.bool (HT.lexLt ns ms)))) s):=by
 intro prog w A R s h
 obtain ⟨hp,g,d,tk,os⟩:=s; obtain ⟨hl,hb,h⟩:=h
 have f2:=AutoSeq1.sub_list_list
 have M:=zqU l b items items2 n n2 dd dd2 sl sl2 ns ms 0 (Nat.zero_le _) (Nat.zero_le _) (by simpa using hi) (by simpa using hj)
 have hag:=(meets_again (t:=again (Code.builtin "list.__eq__.loop" ⟨[.ref l,.ref b,rawInt 0,rawInt 0],[]⟩)) rfl (by decide +kernel) entry_eq_loop M) prog w A R ⟨hp,g,d,tk,os⟩ ⟨hl,hb,h⟩
 have e:Builtin.«list.__lt__» ⟨[.ref l,.ref b],[]⟩=(do
   let t <-isInstance (.ref b) (.type "list")
   if (! t)=true then ret Value.notImplemented else again (Code.builtin "list.__eq__.loop" ⟨[.ref l,.ref b,rawInt 0,rawInt 0],[]⟩)):=by
  first | rfl | kernel_rfl
 rw [e]
 have key:∀(Q:Bool->Shared->Prop) (E:Value->Shared->Prop),Q true ⟨hp,g,d,tk,os⟩->wpAny (model prog w) A.in1 (isInstance (.ref b) (.type "list")) Q E ⟨hp,g,d,tk,os⟩:=by
  intro Q E hQ
  wp_walk using wpAny_loadPart' hb
  exact hQ
 exact wpAny_bind (key _ _ hag)
end
end DL
namespace DL
open PySem PyProof.Rows L2
section
variable {prog:Program} {w:World} {A:Around} {E:Value->Shared->Prop} {s:Shared}
def LisI (h:Heap) (u:Value) (ns:List Int):Prop:=∃a its,u=.ref a/\h.IsList a its/\IntsAre its.toList ns
theorem zsI {p q:Value} {ns ms:List Int} {Q:Bool->Shared->Prop} (hp:LisI s.heap p ns) (hq:LisI s.heap q ms) (hu:A.units < cLine) (h:Q (HT.lexLt ns ms) s):wpAny (model prog w) A (keyLt' oneType' p q) Q E s:=by
 obtain ⟨a,its,rfl,⟨⟨c1,d1,x1,s1⟩,o1,e1,n1,f1⟩,i1⟩:=hp
 obtain ⟨b,its2,rfl,⟨⟨c2,d2,x2,s2⟩,o2,e2,n2,f2⟩,i2⟩:=hq
 simp only at e1 f1 e2 f2
 subst e1 f1 e2 f2
 rw [keyLt'_oneType,oneLt'_eq]
 refine wpAny_bind (wpAny_cRoomFor hu (wpAny_bind (wpAny_callSpecialIfBound?_slot (T := "list") (id := "list.__lt__") ⟨_,o1,rfl⟩ PySem.F.slot_list_lt ?_)))
 refine call_meets PySem.F.slot_list_lt ⟨_,o1,rfl⟩ PySem.F.entry_list_lt (PySem.F.args_list_lt_2 _ _) (ziV a b its its2 n1 n2 d1 d2 s1 s2 ns ms i1 i2) ⟨o1,o2,?_⟩
 show wpAny (model prog w) A (truthOfDropped (.bool (HT.lexLt ns ms))) Q E s
 exact wpAny_pure h
theorem LisI.looks {M:Model} {h:Heap} {u:Value} {ns:List Int} (x:LisI h u ns):W.Looks M h (typeOf u) (.type "list"):=by
 obtain ⟨a,its,rfl,⟨o,o1,e1,n1,f1⟩,_⟩:=x
 rw [<-e1]
 exact (W.Looks.ld o1).andThen .now
theorem zni {M:Model} {A:Around} {E:Value->Shared->Prop} {u:Value} {ns:List Int} {Q:Option Value->Shared->Prop} (h:LisI s.heap u ns) (hq:Q none s):wpAny M A (firstOfTuple' u) Q E s:=by
 rw [W.kas_first_eq]
 refine wpAny_bind (W.Looks.here h.looks ?_)
 rw [if_pos (by decide)]
 exact wpAny_pure hq
theorem zjp {M:Model} {A:Around} {E:Value->Shared->Prop} {α β:Type} {f:α->Sem β} {g:α->β}:∀(vs:List α) (Q:List β->Shared->Prop),(∀v∈vs,∀(Q:β->Shared->Prop),Q (g v) s->wpAny M A (f v) Q E s)->Q (vs.map g) s->wpAny M A (List.mapM f vs) Q E s
 | [],Q,_,h=>by rw [List.mapM_nil]; exact wpAny_pure h
 | v::vs,Q,hf,h=>by
  rw [List.mapM_cons]
  refine wpAny_bind (hf v List.mem_cons_self _ (wpAny_bind (zjp vs _ (fun x hx=>hf x (List.mem_cons_of_mem _ hx)) (wpAny_pure ?_))))
  exact h
theorem zoD {M:Model} {A:Around} {E:Value->Shared->Prop} {vs:List Value} {kss:List (List Int)} {Q:SortKind->Shared->Prop} (h:Paired (fun u ns=>LisI s.heap u ns) vs kss) (hn:0 < vs.length) (hq:Q oneType' s):wpAny M A (keyKind' vs.toArray) Q E s:=by
 have all:∀v∈vs,∃ns,LisI s.heap v ns:=by
  intro v hv
  obtain ⟨i,hi⟩:=List.getElem?_of_mem hv
  clear hn hq
  induction h generalizing i with
  | nil=>cases hv
  | cons x t ih=>
   rcases List.mem_cons.mp hv with rfl | z
   ·exact ⟨_,x⟩
   ·obtain ⟨j,hj⟩:=List.getElem?_of_mem z
    exact ih z j hj
 rw [keyKind'_eq,List.mapM_toArray]
 simp only [bind_map_left]
 refine wpAny_bind (zjp (g:=fun _=>none) vs _ (fun v hv Q hQ=>zni (all v hv).choose_spec hQ) ?_)
 cases vs with
 | nil=>simp at hn
 | cons v vs=>
  have e1:((List.map (fun _=>(none:Option Value)) (v::vs)).toArray.all fun x=>x.isSome)=false:=by simp
  have e2:(((List.map (fun _=>(none:Option Value)) (v::vs)).toArray)[0]?.bind id).isSome=false:=by simp
  rw [if_neg (by rw [e1]; exact Bool.false_ne_true),if_neg (by rw [e2]; exact Bool.false_ne_true),oneTypeOnly'_eq,List.mapM_toArray]
  simp only [bind_map_left,bind_assoc]
  refine wpAny_bind (zjp (g:=fun _=>Value.type "list") (v::vs) _ (fun v hv Q hQ=>W.Looks.here (all v hv).choose_spec.looks hQ) ?_)
  have e3:((List.map (fun _=>Value.type "list") (v::vs)).toArray)[0]? = some (Value.type "list"):=by simp
  have e4:((List.map (fun _=>Value.type "list") (v::vs)).toArray.all fun x=>x == Value.type "list")=true:=by simp
  rw [e3]
  simp only [e4,if_true,pure_bind]
  exact wpAny_pure hq
end
end DL
namespace DL
open PySem PySem.Spec PyProof.Rows L2
def LI2 (K:W.Frag) (H:Hp) (x:V) (k:List Int):Prop:=∃b,x=.ref b/\SqL K H b (k.map V.int)
section
variable {X:Cx} {pz:List (Addr × Obj)} {σ:L2.St} {H:Hp} {s:Shared}
theorem zqZ (I:Inv X pz σ H s) {x:V} {k:List Int} {u:Value} (h:LI2 X.K H x k) (r:L2.RelV x u):LisI s.heap u k:=by
 obtain ⟨b,rfl,hq⟩:=h
 cases r
 obtain ⟨its,rv,pl,_⟩:=I.list hq
 exact ⟨b,its.toArray,rfl,pl.isList,by simpa using zhu rv⟩
theorem zkD (I:Inv X pz σ H s):∀{ys:List V} {kss:List (List Int)} {us:List Value},Paired (LI2 X.K H) ys kss->Vals ys us->Paired (fun u ks=>LisI s.heap u ks) us kss
 | _,_,_,.nil,.nil=>.nil
 | _,_,_,.cons h t,.cons r q=>.cons (zqZ I h r) (zkD I t q)
end
def zhv:D->Option (List Int)
 | .lst ds=>zd4 ds
 | _=>none
def zf0:List D->Option (List (List Int))
 | []=>some []
 | d::ds=>(zhv d).bind fun k=>(zf0 ds).map (k::·)
section
variable {K:W.Frag} {G:GH} {H:Hp}
theorem zsJ (gk:GOk K G H) {v:V} {d:D} {k:List Int} (r:RG K G v d) (e:zhv d=some k):LI2 K H v k:=by
 cases d with
 | lst ds=>
  obtain ⟨a,xs,rfl,s,rs⟩:=(RG.rb (H:=H) r).lst gk
  have:=zkX gk rs e
  subst this
  exact ⟨a,rfl,s⟩
 | _=>cases e
theorem zmR (gk:GOk K G H):∀{ds:List D} {xs:List V} {ks:List (List Int)},RGs K G xs ds->zf0 ds=some ks->Paired (LI2 K H) xs ks
 | [],_,_,.nil,e=>by cases e; exact .nil
 | d::ds,_,ks,.cons r t,e=>by
  have e':(zhv d).bind (fun k=>(zf0 ds).map (k::·))=some ks:=e
  cases e1:zhv d with
  | none=>rw [e1] at e'; cases e'
  | some k=>
   rw [e1] at e'
   cases e2:zf0 ds with
   | none=>rw [e2] at e'; cases e'
   | some ks'=>rw [e2] at e'; cases e'; exact .cons (zsJ gk r e1) (zmR gk t e2)
end
section
variable {X:Cx} {pz:List (Addr × Obj)} {σ:L2.St} {H:Hp} {s:Shared}
theorem Inv.keptN {h':Heap} (I:Inv X pz σ H s) (k:∀b o,b≠X.env.locals->s.heap.get? b=some o->h'.get? b=some o)
  (hns:∀m,s.heap.Ns X.env.locals m->h'.Ns X.env.locals m) (t':Nat):Inv X pz σ H { s with heap:=h',toks:=t' }:=by
 have trkL:∀b u,H b=some u->b≠X.env.locals:=fun b u e z=>by rw [z,I.free] at e; cases e
 refine I.step (g':=s.gens) (d':=s.drawn) (ch:=[]) (fun b hb=>absurd hb (by simp)) (fun b ob hL _ _ e _=>k b ob hL e) (fun b ob hL _ _ e _=>⟨ob.slots,k b ob hL e⟩) (fun b ob _ e n=>n)
  (fun b ob _ e=>?_) (fun b xs e=>e) (fun b ob u e=>e) (fun b ps e=>⟨#[],by rw [e]; simp⟩) hns (fun b u e=>?_) I.bare
 ·by_cases hb:b=X.env.locals
  ·subst hb
   obtain ⟨m,hn,_⟩:=I.loc
   obtain ⟨o,_,_,ho',_⟩:=hns m hn
   exact ⟨o,ho'⟩
  ·exact ⟨ob,k b ob hb e⟩
 ·refine (I.hok b u e).stay (fun cc v hc q=>k cc v ?_ q) (fun cc q=>q) fun cc xs q=>q
  rcases hc with z | z
  ·rw [z]; exact trkL b u e
  ·exact trkL cc _ z
end
section
variable {X:Cx} {g:GE} {m:List Md} {e a b:Expr} {es:List Expr} {fl:Rho->Res (List D)} {fa fb:FE} {pos p:Pos}
def zr5 (K:W.Frag):R2:=fun x y H Q=>∃a b ys,x=.ref a/\y=.ref b/\SqT K H a []/\SqT K H b ys/\Q (.ref b) H
theorem zqI:OpR X (binaryOp .Add) (zr5 X.K):=by
 intro pz s σ H x y v u Q I rx ry h
 obtain ⟨a,b,ys,rfl,rfl,ha,hb,q⟩:=h
 cases rx
 cases ry
 obtain ⟨its,r1,p1,_⟩:=I.tuple ha
 obtain ⟨its2,r2,p2,_⟩:=I.tuple hb
 cases r1
 obtain ⟨⟨cls,dd,data,sl⟩,ho,hc,n,hd⟩:=id p1
 obtain ⟨⟨cls2,dd2,data2,sl2⟩,ho2,hc2,n2,hd2⟩:=id p2
 simp only at hc hd hc2 hd2
 subst hc hd hc2 hd2
 exact concat_meets ⟨_,ho,rfl⟩ ⟨_,ho2,rfl⟩ noFill_tuple_add seq_tuple_add PySem.F.slot_tuple_add PySem.F.entry_tuple_add (PySem.F.args_tuple_add_2 _ _)
  (tuple_addW0 a b _ _ n n2 dd dd2 sl sl2 rfl) ⟨ho,ho2,⟨.ref b,H,I,rfl,q⟩⟩
def addE:D->D->Option D
 | .tup [],.tup b=>some (.tup b)
 | a,b=>addA a b
theorem zrl {K:W.Frag}:OpD K (fun x y H Q=>zr5 K x y H Q\/((∃i j,x=.int i/\y=.int j/\Q (.int (i + j)) H)\/(∃i j,x=.str i/\y=.str j/\i.length + j.length<=sizeLine/\Q (.str (i++j)) H)\/zqo K x y H Q\/zqn K x y H Q)) addE:=by
 intro G H v1 v2 d1 d2 d Q gk r1 r2 e q
 unfold addE at e
 split at e
 ·cases e
  rcases r1 with r1 | ⟨a',_,oo⟩
  ·rcases r2 with r2 | ⟨a',_,oo⟩
   ·obtain ⟨a,xs,rfl,s1,t1⟩:=r1.tup gk
    obtain ⟨b,ys,rfl,s2,t2⟩:=r2.tup gk
    cases t1
    exact .inl ⟨a,b,ys,rfl,rfl,s1,s2,q _ G H (Grow.refl gk) r2⟩
   ·cases oo.ob
  ·cases oo.ob
 ·exact .inr (znL G H v1 v2 d1 d2 d Q gk r1 r2 e q)
theorem zki (ha:SB X g m a fa) (hb:SB X g m b fb):SE X g m (.BinOp a .Add b pos) (f2 fa fb addE):=zjB (OpR.or zqI (OpR.or zmJ (OpR.or zhn (OpR.or zmI zmH)))) zrl ha hb
end
end DL
namespace DL
open PySem PyProof.Rows L2
section
open PySem.AutoSeq1 (wpAny_loadPart')
end
end DL
namespace DL
open PySem PyProof.Rows PySem.W
section
variable {n:Nat} {c:Nat->Nat->Bool} (as:∀i j,c i j=true->c j i=false) (tr:∀i j k,c j i=false->c k j=false->c k i=false)
def Le (c:Nat->Nat->Bool) (i j:Nat):Prop:=c j i=false
def Eqv (c:Nat->Nat->Bool) (i j:Nat):Prop:=Le c i j/\Le c j i
include tr in
theorem Eqv.trans {i j k:Nat} (h1:Eqv c i j) (h2:Eqv c j k):Eqv c i k:=⟨tr _ _ _ h1.1 h2.1,tr _ _ _ h2.2 h1.2⟩
theorem Eqv.symm {i j:Nat} (h:Eqv c i j):Eqv c j i:=⟨h.2,h.1⟩
include as tr in
include tr in
include as tr in
include as tr in
include as tr in
include as tr in
include as tr in
include as tr in
include as tr in
include as tr in
include as tr in
end
end DL
section
namespace DL
def srt {α:Type} (lt:α->α->Bool) (d:α) (xs:List α):List α:=(zgq xs.length fun i j=>lt (xs.getD i d) (xs.getD j d)).map fun i=>xs.getD i d
end DL
end
namespace DL
open PySem PySem.Spec PyProof.Rows L2
section
variable {X:Cx} {pz:List (Addr × Obj)} {σ:L2.St} {H:Hp} {s:Shared}
theorem znK (bs:List Bool):((List.range bs.length).all fun i=>bs.getD i true)=bs.all id:=by
 rw [Bool.eq_iff_iff,List.all_eq_true,List.all_eq_true]
 constructor
 ·intro h b hb
  obtain ⟨i,hi,rfl⟩:=List.getElem_of_mem hb
  have:=h i (List.mem_range.mpr hi)
  simpa [List.getD_eq_getElem?_getD,hi] using this
 ·intro h i hi
  have hi:=List.mem_range.mp hi
  have:=h bs[i] (List.getElem_mem _)
  simpa [List.getD_eq_getElem?_getD,hi] using this
theorem zk2 (hc:X.calm=true) (I:Inv X pz σ H s) {p:Addr} {bs:List Bool} (hq:SqL X.K H p (bs.map V.bl)) {A:Around} (hA:A.handled=none) {E:Value->Shared->Prop} {Q:Value->Shared->Prop}
  (h:∀I fp wr n P St tr it s₂,it=Value.ref I->Walks X.prog X.w A I fp wr n P St->St 0 s₂.heap->TruthOf X.prog X.w A P tr->n=bs.length->(∀i,tr i=bs.getD i true) ->
   (∀(h':Heap) (tk:Nat),(∀(b:Addr) (o:Obj),¬b∈wr->s₂.heap.get? b=some o->h'.get? b=some o)->Inv X pz σ H { heap:=h',gens:=s₂.gens,drawn:=s₂.drawn,toks:=tk,os:=s₂.os })->Q it s₂) :
  wpAny (model X.prog X.w) A (pyIter (.ref p)) Q E s:=by
 obtain ⟨its,rv,pl,hz⟩:=I.list hq
 have hl:=rv.length
 rw [List.length_map] at hl
 refine PySem.Flt.iter_list_ pl.isList fun s₂ e2 hi hlt hne=>?_
 refine h s.heap.objs.size [s.heap.objs.size,p] [s.heap.objs.size] its.toArray.size _ _ (fun i=>bs.getD i true) _ s₂ rfl (Walks.list hA _ p hne its.toArray) hi ?_ (by rw [List.size_toArray,hl]) (fun i=>rfl) fun h' tk k=>?_
 ·intro i v s' Q' E' hv hq'
  have hv':its[i]? = some v:=by simpa using hv
  have hi:i < its.length:=(List.getElem?_eq_some_iff.mp hv').1
  have hki:i < (bs.map V.bl).length:=by rw [List.length_map]; omega
  obtain ⟨u,h1,h3⟩:=rv.get (i:=i) (x:=(bs.map V.bl)[i]) (List.getElem?_eq_getElem hki)
  rw [hv'] at h1
  cases h1
  rw [List.getElem_map] at h3
  have h3':v=Value.bool bs[i]:=h3
  subst h3'
  have e:bs.getD i true=bs[i]:=by
   have hb:i < bs.length:=by omega
   simp [List.getD_eq_getElem?_getD,hb]
  have hq2:Q' (bs.getD i true) s':=hq'
  rw [e] at hq2
  exact wpAny_pure hq2
 ·subst e2
  have ne:∀b o,s.heap.get? b=some o->¬ b∈[s.heap.objs.size]:=fun b o e z=>by
   have:=List.mem_singleton.mp z
   subst this
   exact absurd (Heap.lt_size e) (Nat.lt_irrefl _)
  exact Inv.keptN I (fun b o _ e=>k b o (ne b o e) (Heap.get?_push_of_some _ e)) (fun m ⟨o,es,ep,e,z⟩=>⟨o,es,ep,k _ _ (ne _ _ e) (Heap.get?_push_of_some _ e),z⟩) tk
theorem zoX (hc:X.calm=true):zdV X (.builtin "all") (fun xs H Q=>∃(p:Addr) (bs:List Bool),xs=[.ref p]/\SqL X.K H p (bs.map V.bl)/\Q (.bl (bs.all id)) H):=by
 intro pz s σ H xs us Q I r h
 obtain ⟨p,bs,rfl,hq,q⟩:=h
 obtain ⟨u,rfl,rx⟩:=zeK r
 cases rx
 refine call_all_walk (zk2 hc I hq (show X.A.in1.handled=none from I.ok.hd hc) fun J fp wr n P St tr it s₂ e1 e2 e3 e4 e5 e6 e7=>⟨J,fp,wr,n,P,St,tr,e1,e2,e3,e4,fun h' tk k=>?_⟩)
 have et:tr=fun i=>bs.getD i true:=funext e6
 rw [e5,et,znK]
 exact ⟨.bl (bs.all id),H,e7 h' tk k,rfl,q⟩
end
def zim:List D->Option (List Bool)
 | []=>some []
 | .bl b::ds=>(zim ds).map (b::·)
 | _=>none
theorem zrj {K:W.Frag} {G:GH} {H:Hp} (gk:GOk K G H) {ds:List D} {xs:List V} {bs:List Bool} (h:RGs K G xs ds) (e:zim ds=some bs):xs=bs.map V.bl:=by
 induction h generalizing bs with
 | nil=>cases e; rfl
 | @cons x d xs ds r t ih=>
  cases d with
  | bl b=>
   have e':(zim ds).map (b::·)=some bs:=e
   cases e1:zim ds with
   | none=>rw [e1] at e'; cases e'
   | some bs'=>
    rw [e1] at e'; cases e'
    rw [ih e1,List.map_cons,(RG.rb (H:=H) r).bl gk]
  | _=>cases e
def allD:List D->Option D
 | [.lst ds]=>(zim ds).map fun bs=>.bl (bs.all id)
 | _=>none
theorem ztC {K:W.Frag}:znN K (fun xs H Q=>∃(p:Addr) (bs:List Bool),xs=[.ref p]/\SqL K H p (bs.map V.bl)/\Q (.bl (bs.all id)) H) allD:=by
 intro G H vs ds d Q gk rs e q
 unfold allD at e
 split at e
 ·rename_i zs
  cases ek:zim zs with
  | none=>rw [ek] at e; cases e
  | some bs=>
   rw [ek] at e; cases e
   cases rs with
   | cons r1 t=>
    cases t
    obtain ⟨b,xs,rfl,s,r⟩:=r1.lst gk
    have ex:=zrj gk r ek
    subst ex
    exact ⟨b,bs,rfl,s,q _ G H (Grow.refl gk) (.scl (.bl _))⟩
 ·cases e
section
variable {X:Cx} {g:GE} {m:List Md} {e:Expr} {es:List Expr} {fl:Rho->Res (List D)} {pos p:Pos}
theorem ztZ (hc:X.calm=true) (hg:Gl X "all") (hm:X.mg "all" = none) (ha:SAB X g m (e::es) fl) (he:starEach (e::es) X.env=(false,eval e X.env)::starEach es X.env:=by rfl) (hpl:(backTo pos (starEach es X.env)).any (·.1)=false:=by rfl) :
  SE X g m (.Call (.Name "all" p) (e::es) [] pos) (fC fl allD):=s_cb ztC (zel (zoX hc) hg hm PyProof.Rows.boot_all ha (by decide) (by decide) he hpl)
end
def zjm (h0 H:Hp):Prop:=∀a o,h0 a=some o->H a=some o
structure YieldsB (K:W.Frag) (h0:Hp) (J:It) (ds:List D) (G0:GH):Prop where
 go:∀G H (i:Nat),Gle G0 G->GOk K G H->zjm h0 H->i < ds.length->J.go i H
 yld:∀G H (i:Nat) x H' d,Gle G0 G->GOk K G H->zjm h0 H->J.yld i H x H'->ds[i]? = some d->∃G',Grow K G H G' H'/\RG K G' x d
 stop:∀G H,Gle G0 G->GOk K G H->zjm h0 H->J.stop ds.length H
theorem Yields.toH {K:W.Frag} {h0:Hp} {J:It} {ds:List D} {G0:GH} (y:Yields K J ds G0):YieldsB K h0 J ds G0:=
 ⟨fun G H i w gk _ hi=>y.go G H i w gk hi,fun G H i x H' d w gk _ q e=>y.yld G H i x H' d w gk q e,fun G H w gk _=>y.stop G H w gk⟩
def tIB (X:Cx) (g:GE) (m:List Md) (f:FI):TI:=fun σ H R=>∃r G,SI X g m r G σ H/\fin (f r) (fun ds=>∀J G' H',Grow X.K G H G' H'->YieldsB X.K g.h0 J ds G'->R J H') (XW X σ G H)
def SItB (X:Cx) (g:GE) (m:List Md) (tg iter:Expr) (f:FI):Prop:=PI X tg iter (tIB X g m f)
def tBw (X:Cx) (g:GE) (m:List Md) (f:FE):TE:=fun σ H Q=>∃r G,SI X g m r G σ H/\fin (f r) (fun d=>∀v G' H',Grow X.K G H G' H'->Bw X.K g.h0 G' H' v d->Q v H') (XW X σ G H)
def SBw (X:Cx) (g:GE) (m:List Md) (e:Expr) (f:FE):Prop:=PE X e (tBw X g m f)
section
variable {X:Cx} {g:GE} {m m' mb:List Md} {tg e a iter:Expr} {f:FE} {pos p pos2:Pos} {ro:Bool} {sts:List Stmt} {s1:FS} {elts:List Expr} {kk:Nat}
theorem vw_ (i:Nat) {x:Str} (hm:m[i]? = some .bw:=by rfl) (hN:X.N[i]? = some x:=by rfl) (hv:Vis X.env.scope x:=by first | exact Or.inl rfl | exact Or.inr (Or.inl rfl) | exact Or.inr (Or.inr rfl)) (hd:(x == ("__debug__" : Str))=false:=by decide) (hcd:(x == ("__classdict__" : Str))=false:=by decide) :
  SBw X g m (.Name x pos) fun r=>getV r i:=by
 refine PE.imp (zea hN hv hd hcd) fun σ H Q ⟨r,G,si,q⟩=>?_
 obtain ⟨d,e,k⟩:=zid q
 obtain ⟨v,e1,e2⟩:=si.bw i d e hm
 exact ⟨v,e1,k _ G H (Grow.refl si.gok) e2⟩
theorem zmD {K:W.Frag} {h0:Hp} {G0 G:GH} {H0 H:Hp} {a:Addr} {ds:List D} (o:Own K G0 H0 a (.lst ds)) (h:h0 a≠none) (o0:zjm h0 H0) (le:Gle G0 G) (o1:zjm h0 H):∃xs,SqL K H a xs/\RGs K G xs ds:=by
 cases e:h0 a with
 | none=>exact absurd e h
 | some u=>
  have h1:=o0 a u e
  have h2:=o1 a u e
  cases o.ob with
  | lst r s=>
   rw [h1] at r
   cases r
   exact ⟨_,SqL.of h2,RGs.mono s le⟩
theorem zrr {K:W.Frag} {h0:Hp} {ds:List D} {G0:GH} {a:Addr} (h:∀G H,Gle G0 G->GOk K G H->zjm h0 H->∃xs,SqL K H a xs/\RGs K G xs ds):YieldsB K h0 (Itl K a) ds G0:=by
 refine ⟨fun G H i w gk o hi=>?_,fun G H i x H' d w gk o y e=>?_,fun G H w gk o=>?_⟩
 ·obtain ⟨xs,s,r⟩:=h G H w gk o
  have hl:=Paired.length r
  exact ⟨xs,xs[i],s,List.getElem?_eq_getElem (by omega)⟩
 ·obtain ⟨xs,s,r⟩:=h G H w gk o
  obtain ⟨rfl,y⟩:=y
  obtain ⟨v,e1,rv⟩:=Paired.get r e
  have:=y xs s
  rw [e1] at this; cases this
  exact ⟨G,Grow.refl gk,rv⟩
 ·obtain ⟨xs,s,r⟩:=h G H w gk o
  exact ⟨xs,s,Nat.le_of_eq (Paired.length r)⟩
theorem SI.oldIn {r:Rho} {G:GH} {st:L2.St} {H:Hp} (s:SI X g m r G st H):zjm g.h0 H:=s.old
theorem zpG (h:SBw X g m e f):SItB X g m tg e (fSeq za7 f):=by
 refine PI.imp (zmw h) fun σ H R ⟨r,G,si,q⟩=>⟨r,G,si,zag (zai q) fun d q v G' H' w rv=>?_⟩
 obtain ⟨ds,e,q⟩:=zaB q
 cases d with
 | lst ds'=>
  cases e
  rcases rv with rv | ⟨a,rfl,o,ho⟩
  ·obtain ⟨a,xs,rfl,s,rs⟩:=rv.lst w.ok
   exact .inl ⟨a,rfl,⟨xs,s⟩,q _ G' H' w (zjn rv).toH⟩
  ·cases o.ob with
   | lst r s=>exact .inl ⟨a,rfl,⟨_,SqL.of r⟩,q _ G' H' w (zrr fun G2 H2 le _ o2=>zmD o ho (si.grow w).oldIn le o2)⟩
 | tup ds'=>
  cases e
  rcases rv with rv | ⟨a,rfl,o,ho⟩
  ·obtain ⟨a,xs,rfl,s,rs⟩:=rv.tup w.ok
   exact .inr ⟨a,rfl,⟨xs,s⟩,q _ G' H' w (zlQ rv).toH⟩
  ·cases o.ob
 | _=>cases e
theorem zjo {K:W.Frag} {h0:Hp} {ds:List D} {G0:GH} {sq:Hp->List V->Prop} (h:∀G H,Gle G0 G->GOk K G H->zjm h0 H->∃xs,sq H xs/\RGs K G xs ds):YieldsB K h0 (Ien sq) (enuD 0 ds) G0:=by
 refine ⟨fun G H i w gk o hi=>?_,fun G H i x H' d w gk o y e=>?_,fun G H w gk o=>?_⟩
 ·obtain ⟨xs,s,r⟩:=h G H w gk o
  rw [ze8] at hi
  have hl:=Paired.length r
  exact ⟨xs,xs[i],s,List.getElem?_eq_getElem (by omega)⟩
 ·obtain ⟨xs,s,r⟩:=h G H w gk o
  obtain ⟨p,v,hp,rfl,rfl,hv⟩:=y
  rw [zig] at e
  cases ed:ds[i]? with
  | none=>rw [ed] at e; cases e
  | some d0=>
   rw [ed] at e
   simp only [Option.map_some,Option.some.injEq,Nat.zero_add] at e
   subst e
   obtain ⟨v',e1,rv⟩:=Paired.get r ed
   have:=hv xs s
   rw [e1] at this; cases this
   exact ⟨_,Grow.newF gk hp (.tup (.inl zam) (.cons (.scl (.int _)) (.cons rv .nil))),.ref zaz⟩
 ·obtain ⟨xs,s,r⟩:=h G H w gk o
  rw [ze8]
  exact ⟨xs,s,Paired.length r⟩
theorem zq3 (hg:Gl X "enumerate") (hm:X.mg "enumerate" = none) (he:SBw X g m e f) (hs:starEach [e] X.env=(false,eval e X.env)::starEach [] X.env:=by rfl):SItB X g m (.Tuple elts kk pos2) (.Call (.Name "enumerate" p) [e] [] pos) (fEnu f):=by
 refine PI.imp (zmy hg hm he hs) fun σ H R ⟨r,G,si,q⟩=>⟨r,G,si,zag (zai q) fun d q v G' H' w rv=>?_⟩
 obtain ⟨ds,e,q⟩:=zaB (zai q)
 cases d with
 | lst ds'=>
  cases e
  rcases rv with rv | ⟨a,rfl,o,ho⟩
  ·obtain ⟨a,xs,rfl,s,rs⟩:=rv.lst w.ok
   refine .inl ⟨a,rfl,⟨xs,s⟩,q _ G' H' w (zjo fun G H le gk _=>?_)⟩
   obtain ⟨b,ys,e,s',r'⟩:=(rv.mono le).lst gk
   cases e
   exact ⟨ys,s',r'⟩
  ·cases o.ob with
   | lst r s=>exact .inl ⟨a,rfl,⟨_,SqL.of r⟩,q _ G' H' w (zjo fun G2 H2 le _ o2=>zmD o ho (si.grow w).oldIn le o2)⟩
 | tup ds'=>
  cases e
  rcases rv with rv | ⟨a,rfl,o,ho⟩
  ·obtain ⟨a,xs,rfl,s,rs⟩:=rv.tup w.ok
   refine .inr ⟨a,rfl,⟨xs,s⟩,q _ G' H' w (zjo fun G H le gk _=>?_)⟩
   obtain ⟨b,ys,e,s',r'⟩:=(rv.mono le).tup gk
   cases e
   exact ⟨ys,s',r'⟩
  ·cases o.ob
 | _=>cases e
theorem zl6 (hp:PassesOwn (model X.prog X.w) X.A X.env X.xe) (hc:X.calm=true) {ft:FT} {fi:FI} (hi:SItB X g m tg iter fi) (hg:SG X g m tg ft m) (hb:SSs X g ro m m sts s1 m)
  (hs:∀x,foldedSetIterable iter X.env x=pure x:=by intro _; rfl):SS X g ro mb m (.For tg iter sts [] pos) (zch m fi ft s1) m:=by
 refine ⟨rfl,PS.imp (zkp hp hc hi hg.2 hb.2 hs) fun D σ H ⟨r,G,si,q⟩=>⟨r,G,si,zag (zb7 si rfl q) fun ds q J G0 H0 w0 Y=>?_⟩⟩
 refine ⟨fun i n σ H=>∃r G,SI X g m r G σ H/\Gle G0 G/\i<=ds.length/\n=ds.length - i/\oTo X g ro m mb G D (forF ft s1 (ds.drop i) r),⟨ds.length,r,G0,si.grow w0,Gle.refl G0,Nat.zero_le _,rfl,oTo.gle q w0.ge⟩,?_⟩
 rintro i n σ1 H1 ⟨r1,G1,si1,le1,hi,rfl,q1⟩
 by_cases hlt:i < ds.length
 ·have hd:ds.drop i=ds[i]::ds.drop (i + 1):=List.drop_eq_getElem_cons hlt
  rw [hd] at q1
  unfold forF at q1
  refine .inr ⟨Y.go G1 H1 i le1 si1.gok si1.oldIn hlt,fun σ' H'=>∃r G,SI X g m r G σ' H'/\Gle G0 G/\oTo X g ro m mb G D (forF ft s1 (ds.drop (i + 1)) r),fun σ' H' ⟨r',G',si',le',q'⟩=>⟨ds.length - (i + 1),by omega,r',G',si',le',hlt,rfl,q'⟩,fun x H' y=>?_⟩
  obtain ⟨G',w',rv⟩:=Y.yld G1 H1 i x H' ds[i] le1 si1.gok si1.oldIn y (List.getElem?_eq_getElem hlt)
  have le':Gle G0 G':=le1.trans w'.ge
  cases eft:ft ds[i] r1 with
  | none=>simp only [eft] at q1; exact q1.elim
  | some r2=>
   simp only [eft] at q1
   refine ⟨r1,G',ds[i],si1.grow w',rv,r2,eft,fun σ2 si2=>⟨r2,G',si2,?_⟩⟩
   cases eb:s1 r2 with
   | nx r'=>simp only [eb] at q1; exact fun σ3 G3 H3 le3 si3=>⟨r',G3,si3,le'.trans le3,oTo.gle q1 (Gle.trans w'.ge le3)⟩
   | ct r'=>simp only [eb] at q1; exact fun σ3 G3 H3 le3 si3=>⟨r',G3,si3,le'.trans le3,oTo.gle q1 (Gle.trans w'.ge le3)⟩
   | bk r'=>simp only [eb] at q1; exact fun σ3 G3 H3 le3 si3=>q1 σ3 G3 H3 (Gle.trans w'.ge le3) si3
   | rt d=>simp only [eb] at q1; exact q1
   | exc x r'=>simp only [eb] at q1; exact fun pz e s' σ3 G3 H3 le3=>q1 pz e s' σ3 G3 H3 (Gle.trans w'.ge le3)
   | stuck=>simp only [eb] at q1; exact q1
 ·have e:i=ds.length:=by omega
  subst e
  rw [List.drop_length] at q1
  exact .inl ⟨Y.stop G1 H1 le1 si1.gok si1.oldIn,q1 σ1 G1 H1 (Gle.refl _) si1⟩
end
section
open HT (sIx)
end
def BIG:Nat:=2 ^ 2000
def zo3 (i j:Int):Prop:=i.natAbs < BIG/\j.natAbs < BIG
def zo4 (_i j:Int):Prop:=0 < j/\j.natAbs < BIG
instance decMulW (i j:Int):Decidable (zo3 i j):=by unfold zo3; infer_instance
instance decDivW (i j:Int):Decidable (zo4 i j):=by unfold zo4; infer_instance
theorem znH {i:Int} (h:i.natAbs < BIG):Builtin.Int.intBits i<=2000:=by
 unfold Builtin.Int.intBits
 split
 ·exact Nat.zero_le _
 ·rename_i z
  have h0:i.natAbs≠0:=fun e=>z (by rw [Int.natAbs_eq_zero.mp e]; rfl)
  have:=(Nat.log2_lt h0).mpr h
  omega
theorem zo3.ok {i j:Int} (h:zo3 i j):IntMulOk i j:=by
 have h1:=znH h.1
 have h2:=znH h.2
 unfold IntMulOk
 have e:Builtin.Int.intTooBig ((Builtin.Int.intBits i:Int) + (Builtin.Int.intBits j:Int))=false:=by
  unfold Builtin.Int.intTooBig
  have:((bitsLine:Nat):Int)=134217728:=by decide +kernel
  exact decide_eq_false (by omega)
 rw [e]; simp
theorem zol:OpR X (binaryOp .FloorDiv) (rI zo4 fun i j=>.int (i / j)):=opI fun i j _ _ _ _ _ hc q=>by
 have h1:(0:Int) < j:=hc.1
 have h2:j.natAbs < BIG:=hc.2
 have h0:j.natAbs≠0:=by omega
 have:=(Nat.log2_lt h0).mpr h2
 exact floordiv_int (by omega) (by rw [Int.fdiv_eq_ediv_of_nonneg i (by omega)]; exact q) (.inl (PyProof.noPylong_of_log2 (by omega)))
abbrev zjV:D->D->Option D:=zh9 zo4 fun a b=>.int (a / b)
section
variable {X:Cx} {g:GE} {m:List Md} {e a b c o:Expr} {es:List Expr} {f fa fb fc fo:FE} {fl:Rho->Res (List D)} {pos p apos cpos:Pos}
theorem zhS (ha:SB X g m a fa) (hb:SB X g m b fb):SE X g m (.BinOp a .FloorDiv b pos) (f2 fa fb zjV):=zjB zol (ze5 fun _ _=>.int _) ha hb
def absD:List D->Option D
 | [.int i]=>some (.int (if i < 0 then -i else i))
 | _=>none
theorem ztD {K:W.Frag}:znN K (fun xs H Q=>∃i:Int,xs=[.int i]/\Q (.int (if i < 0 then -i else i)) H) absD:=by
 intro G H vs ds d Q gk rs e q
 unfold absD at e
 split at e
 ·cases e
  cases rs with
  | cons r1 t=>
   cases t
   exact ⟨_,by rw [r1.int gk],q _ G H (Grow.refl gk) (.scl (.int _))⟩
 ·cases e
theorem zrS (hg:Gl X "abs") (hm:X.mg "abs" = none) (ha:SAB X g m (e::es) fl) (he:starEach (e::es) X.env=(false,eval e X.env)::starEach es X.env:=by rfl) (hpl:(backTo pos (starEach es X.env)).any (·.1)=false:=by rfl) :
  SE X g m (.Call (.Name "abs" p) (e::es) [] pos) (fC fl absD):=s_cb ztD (zel zoY hg hm PyProof.Rows.boot_abs ha (by decide) (by decide) he hpl)
theorem zqb {x:Str} {i:Int} (hg:Gl X x) (hk:∃t,X.mg x=some (.int i t)) (hd:(x == ("__debug__" : Str))=false:=by decide):SE X g m (.Name x pos) fun _=>.ok (.int i):=by
 obtain ⟨t,hm⟩:=hk
 exact zrO (v:=.int i) hg hm ⟨t,rfl⟩ (.int i) hd
theorem zuF {K:W.Frag} {h:Heap} {mg:Str->Option Value} {x:Str} (KX:K.In h) (G:h.Ns mainGlobals mg) {i:Int} {t:Tok} (z:W.nsIn K mainGlobals x=some (some (.int i t))):∃t,mg x=some (.int i t):=⟨t,W.mg_of KX G z⟩
def zmp (K:W.Frag):V->List V->Hp->VK->Prop:=fun x vs H Q=>∃p xs y,x=.ref p/\vs=[y]/\SqL K H p xs/\zdK y=true/\xs.all zdK=true/\Q (.int ((xs.countP fun z=>eqV z y:Nat):Int)) H
theorem znx {y:V}:∀{xs:List V} {us:List Value},Vals xs us->xs.all zdK=true->us.countP (eqU y)=xs.countP fun z=>eqV z y
 | _,_,.nil,_=>rfl
 | x::xs,u::us,.cons r t,f=>by
  rw [List.all_cons,Bool.and_eq_true] at f
  rw [List.countP_cons,List.countP_cons,znx t f.2,zi8 r f.1]
theorem zmP:MtR X "list.count" (zmp X.K):=by
 intro pz s σ H x vs v us Q I rx rv h
 obtain ⟨p,xs,y,rfl,rfl,hq,fy,fx,q⟩:=h
 cases rx
 obtain ⟨u,rfl,ru⟩:=zeK rv
 obtain ⟨its,r,pl,hz⟩:=I.list hq
 obtain ⟨o,n,ho,hc,hd,hs⟩:=pl
 obtain ⟨ocls,odict,odata,oslots⟩:=o
 simp only at hc hd hs
 subst hc hd hs
 refine call_meets PySem.F.slot_list_count ⟨_,ho,rfl⟩ PySem.F.entry_list_count (PySem.F.args_list_count_2 _ _)
  (SeqAt.list_countAt p its.toArray n none oslots u (eqU y)) ⟨ho,fun w hw=>zdJ ru fy r fx w (by simpa using hw),⟨.int _,H,I.tok _,⟨_,rfl⟩,?_⟩⟩
 have e:(its.toArray.toList.countP (eqU y))=xs.countP fun z=>eqV z y:=znx r fx
 rw [e]; exact q
def zkR (d:D) (zs:List D):Option D:=match d,zs with
 | .lst ds,[x]=>if zbm x=true/\ds.all zbm=true then some (.int ((ds.countP fun z=>eqs z x:Nat):Int)) else none
 | _,_=>none
theorem zny {K:W.Frag}:MtD K (zmp K) zkR:=by
 intro G H v d vs ds d' Q gk rv rs e q
 unfold zkR at e
 split at e
 ·rename_i zs x
  split at e
  ·rename_i hc
   cases e
   cases rs with
   | cons r1 rt=>
    cases rt
    obtain ⟨a,xs,rfl,s,r⟩:=rv.lst gk
    obtain ⟨e1,f1⟩:=RB.flat r1 gk hc.1
    obtain ⟨e3,f3⟩:=zq8 r gk hc.2
    refine ⟨a,xs,_,rfl,rfl,s,f1,f3,?_⟩
    have:(xs.countP fun z=>eqV z (toV x))=zs.countP fun z=>eqs z x:=by
     rw [e3,List.countP_map]; rfl
    rw [e1,this]
    exact q _ G H (Grow.refl gk) (.scl (.int _))
  ·cases e
 ·cases e
end
def zdq (g:GE) (H:Hp) (fp:List Addr) (i:Nat) (p:Addr):GE:=
 ⟨g.gh,fun b=>if b∈fp then H b else g.h0 b,fun j=>if j=i then some (some (V.ref p),none) else g.hd j⟩
theorem zoK {g:GE} {H H':Hp} {fp:List Addr} {i:Nat} {p:Addr} (h:∀b∈fp,H' b=H b):zdq g H' fp i p=zdq g H fp i p:=by
 unfold zdq
 congr 1
 funext b
 by_cases hb:b∈fp
 ·rw [if_pos hb,if_pos hb,h b hb]
 ·rw [if_neg hb,if_neg hb]
def RowR (K:W.Frag) (G:GH) (H:Hp) (b:Addr) (ds:List D):Prop:=∃xs,H b=some (.lst xs)/\RGs K G xs ds
structure LRw (K:W.Frag) (G:GH) (H:Hp) (p:Addr) (as:List Addr) (w:List (List D)):Prop where
 out:H p=some (.lst (as.map V.ref))
 nd:(p::as).Nodup
 un:∀b∈p::as,G b=none
 rw:Paired (RowR K G H) as w
theorem RowR.mono {K:W.Frag} {G G':GH} {H H':Hp} {b:Addr} {ds:List D} (h:RowR K G H b ds) (ge:Gle G G') (he:H' b=H b):RowR K G' H' b ds:=by
 obtain ⟨xs,h1,h2⟩:=h
 exact ⟨xs,by rw [he]; exact h1,h2.mono ge⟩
theorem zhY {α β:Type} {F F':α->β->Prop} {l:List α} {r:List β} (h:Paired F l r) (f:∀a∈l,∀b,F a b->F' a b):Paired F' l r:=by
 induction h with
 | nil=>exact .nil
 | cons h _ ih=>exact .cons (f _ List.mem_cons_self _ h) (ih fun a ha=>f a (List.mem_cons_of_mem _ ha))
theorem LRw.isS {K:W.Frag} {G:GH} {H:Hp} {p:Addr} {as:List Addr} {w:List (List D)} (h:LRw K G H p as w) {b:Addr} (hb:b∈p::as):H b≠none:=by
 rcases List.mem_cons.mp hb with rfl | hb
 ·rw [h.out]; simp
 ·have:∀{as:List Addr} {w:List (List D)},Paired (RowR K G H) as w->b∈as->H b≠none:=fun {as w} q hb=>by
   induction q with
   | nil=>cases hb
   | cons r _ ih=>
    rcases List.mem_cons.mp hb with rfl | hb
    ·obtain ⟨xs,e,_⟩:=r; rw [e]; simp
    ·exact ih hb
  exact this h.rw hb
theorem LRw.mono {K:W.Frag} {G G':GH} {H H':Hp} {p:Addr} {as:List Addr} {w:List (List D)} (h:LRw K G H p as w) (ge:Gle G G') (he:∀b∈p::as,H' b=H b) (un:∀b∈p::as,G' b=none):LRw K G' H' p as w:=
 ⟨by rw [he p List.mem_cons_self]; exact h.out,h.nd,un,zhY h.rw fun b hb ds r=>r.mono ge (he b (List.mem_cons_of_mem _ hb))⟩
def SI2 (X:Cx) (g:GE) (i:Nat) (m:List Md) (r:Rho) (w:List (List D)) (G:GH) (st:L2.St) (H:Hp):Prop:=
 ∃p as,LRw X.K G H p as w/\(∀b∈p::as,g.h0 b=none)/\SI X (zdq g H (p::as) i p) m r G st H/\m[i]? = some .bw
section
variable {X:Cx} {g:GE} {i:Nat} {m m' m1:List Md} {r r':Rho} {w:List (List D)} {G G':GH} {σ σ':L2.St} {H H':Hp}
theorem zfq {p:Addr} {as:List Addr} (R:LRw X.K G H p as w) (h0:∀b∈p::as,g.h0 b=none) (si:SI X (zdq g H (p::as) i p) m r G σ H) (le:Gle G G') (si':SI X (zdq g H (p::as) i p) m' r' G' σ' H') (hm:m'[i]? = some .bw):SI2 X g i m' r' w G' σ' H':=by
 have he:∀b∈p::as,H' b=H b:=fun b hb=>by
  have hs:=R.isS hb
  cases e:H b with
  | none=>exact absurd e hs
  | some o=>
   have:(zdq g H (p::as) i p).h0 b=some o:=by show (if b∈p::as then H b else g.h0 b)=_; rw [if_pos hb]; exact e
   rw [si'.old b o this]
 have un:∀b∈p::as,G' b=none:=fun b hb=>by
  have h:(zdq g H (p::as) i p).h0 b≠none:=by show (if b∈p::as then H b else g.h0 b)≠_; rw [if_pos hb]; exact R.isS hb
  have e1:=si'.gf b h
  have e2:=si.gf b h
  rw [e1,<-e2]; exact R.un b hb
 exact ⟨p,as,R.mono le he un,h0,by rw [zoK he]; exact si',hm⟩
abbrev FS2:=Rho->List (List D)->Option (Rho × List (List D))
def tS2 (X:Cx) (g:GE) (i:Nat) (m m':List Md) (f:FS2):TS:=fun D σ H=>∃r w G,SI2 X g i m r w G σ H/\∃r' w',f r w=some (r',w')/\∀σ' G' H',Gle G G'->SI2 X g i m' r' w' G' σ' H'->D.nx σ' H'
def SS2 (X:Cx) (g:GE) (i:Nat) (m:List Md) (st:Stmt) (f:FS2) (m':List Md):Prop:=PS X st (tS2 X g i m m' f)
def SSs2 (X:Cx) (g:GE) (i:Nat) (m:List Md) (st:List Stmt) (f:FS2) (m':List Md):Prop:=PSs X st (tS2 X g i m m' f)
variable {st:Stmt} {sts:List Stmt} {ro:Bool} {mb:List Md} {s1:FS} {f1 f2:FS2} {tg iter:Expr} {pos:Pos}
def embF (f:FS):FS2:=fun r w=>match f r with
 | .nx r'=>some (r',w)
 | _=>none
theorem zrV (h:∀g',SS X g' ro mb m st s1 m') (hm:m'[i]? = some .bw):SS2 X g i m st (embF s1) m':=by
 have hA:PS X st (fun D σ H=>∃g',tS X g' ro m m' mb s1 D σ H):=fun pz s σ H D I ⟨g',q⟩=>(h g').2 pz s σ H D I q
 refine PS.imp hA fun D σ H ⟨r,w,G,⟨p,as,R,h0,si,_⟩,r',w',e,k⟩=>⟨_,r,G,si,?_⟩
 unfold embF at e
 cases q:s1 r with
 | nx r1=>
  rw [q] at e
  cases e
  exact fun σ' G' H' le si'=>k σ' G' H' le (zfq R h0 si le si' hm)
 | _=>rw [q] at e; cases e
def zis (f1 f2:FS2):FS2:=fun r w=>(f1 r w).bind fun p=>f2 p.1 p.2
theorem zlX:SSs2 X g i m [] (fun r w=>some (r,w)) m:=PSs.imp zms fun D σ H ⟨r,w,G,si,r',w',e,k⟩=>by
 cases e
 exact k σ G H (Gle.refl G) si
theorem zke (h1:SS2 X g i m st f1 m1) (h2:SSs2 X g i m1 sts f2 m'):SSs2 X g i m (st::sts) (zis f1 f2) m':=by
 refine PSs.imp (zf3 h1 h2) fun D σ H ⟨r,w,G,si,r',w',e,k⟩=>⟨r,w,G,si,?_⟩
 unfold zis at e
 cases q:f1 r w with
 | none=>rw [q] at e; cases e
 | some z=>
  rw [q] at e
  exact ⟨z.1,z.2,rfl,fun σ' G' H' le si'=>⟨z.1,z.2,G',si',r',w',e,fun σ2 G2 H2 le2 si2=>k σ2 G2 H2 (le.trans le2) si2⟩⟩
def zgT (ft:FT) (body:FS2):List D->FS2
 | [],r,w=>some (r,w)
 | d::ds,r,w=>(ft d r).bind fun r1=>(body r1 w).bind fun p=>zgT ft body ds p.1 p.2
def zgI (fi:FI) (ft:FT) (body:FS2):FS2:=fun r w=>match fi r with
 | .ok ds=>zgT ft body ds r w
 | _=>none
theorem zpd (hp:PassesOwn (model X.prog X.w) X.A X.env X.xe) (hc:X.calm=true) {ft:FT} {fi:FI} (hi:∀g',SIt X g' m tg iter fi) (hg:∀g',SG X g' m tg ft m) (hb:SSs2 X g i m sts f1 m) (hm:m[i]? = some .bw)
  (hs:∀x,foldedSetIterable iter X.env x=pure x:=by intro _; rfl):SS2 X g i m (.For tg iter sts [] pos) (zgI fi ft f1) m:=by
 have hiA:PI X tg iter (fun σ H R=>∃g',tI X g' m fi σ H R):=fun pz s σ H R I ⟨g',q⟩=>hi g' pz s σ H R I q
 have hgA:PG X tg (fun v σ H Q=>∃g',tG X g' m m ft v σ H Q):=fun pz s σ H v u Q I r ⟨g',q⟩=>(hg g').2 pz s σ H v u Q I r q
 refine PS.imp (zkp hp hc hiA hgA hb hs) fun D σ H ⟨r,w,G,⟨p,as,R,h0,si,_⟩,r',w',e,k⟩=>⟨_,r,G,si,?_⟩
 unfold zgI at e
 cases q:fi r with
 | exc x=>rw [q] at e; cases e
 | stuck=>rw [q] at e; cases e
 | ok ds=>
  rw [q] at e
  intro J G0 H0 w0 Y
  refine ⟨fun j n σ1 H1=>∃r1 w1 G1,SI2 X g i m r1 w1 G1 σ1 H1/\Gle G0 G1/\j<=ds.length/\n=ds.length - j/\zgT ft f1 (ds.drop j) r1 w1=some (r',w'),⟨ds.length,r,w,G0,zfq R h0 si w0.ge (si.grow w0) hm,Gle.refl _,Nat.zero_le _,rfl,e⟩,?_⟩
  rintro j n σ1 H1 ⟨r1,w1,G1,S1,le1,hj,rfl,e1⟩
  have S1':=S1
  obtain ⟨p1,as1,R1,h01,si1,_⟩:=S1'
  by_cases hlt:j < ds.length
  ·have hd:ds.drop j=ds[j]::ds.drop (j + 1):=List.drop_eq_getElem_cons hlt
   rw [hd] at e1
   unfold zgT at e1
   refine .inr ⟨Y.go G1 H1 j le1 si1.gok hlt,fun σ' H'=>∃r2 w2 G2,SI2 X g i m r2 w2 G2 σ' H'/\Gle G0 G2/\zgT ft f1 (ds.drop (j + 1)) r2 w2=some (r',w'),fun σ' H' ⟨r2,w2,G2,S2,le2,q2⟩=>⟨ds.length - (j + 1),by omega,r2,w2,G2,S2,le2,hlt,rfl,q2⟩,fun x H' y=>?_⟩
   obtain ⟨G',wg,rv⟩:=Y.yld G1 H1 j x H' ds[j] le1 si1.gok y (List.getElem?_eq_getElem hlt)
   cases eft:ft ds[j] r1 with
   | none=>rw [eft] at e1; cases e1
   | some r2=>
    rw [eft] at e1
    simp only [Option.bind_some] at e1
    cases eb:f1 r2 w1 with
    | none=>rw [eb] at e1; cases e1
    | some z=>
     rw [eb] at e1
     refine ⟨_,r1,G',ds[j],si1.grow wg,rv,r2,eft,fun σ2 si2=>⟨r2,w1,G',zfq R1 h01 si1 wg.ge si2 hm,z.1,z.2,eb,fun σ3 G3 H3 le3 S3=>⟨z.1,z.2,G3,S3,(le1.trans wg.ge).trans le3,e1⟩⟩⟩
  ·have ej:j=ds.length:=by omega
   subst ej
   rw [List.drop_length] at e1
   cases e1
   exact .inl ⟨Y.stop G1 H1 le1 si1.gok,k σ1 G1 H1 (Gle.trans w0.ge le1) S1⟩
theorem zq7 {K:W.Frag} {H:Hp}:∀{as:List Addr} {w:List (List D)} {G:GH},GOk K G H->Paired (RowR K G H) as w->as.Nodup->(∀b∈as,G b=none)->∃G',Gle G G'/\(∀b,b∉as->G' b=G b)/\GOk K G' H/\Paired (fun b ds=>G' b=some (.lst ds)) as w:=by
 intro as
 induction as with
 | nil=>
  intro w G gk h _ _
  cases h
  exact ⟨G,Gle.refl G,fun _ _=>rfl,gk,.nil⟩
 | cons b as ih=>
  intro w G gk h nd un
  cases h with
  | @cons _ ds _ w r t=>
   rw [List.nodup_cons] at nd
   have hb:=un b List.mem_cons_self
   obtain ⟨xs,e,rs⟩:=r
   have g1:GOk K (gset G b (.lst ds)) H:=gk.gset hb (.lst (.inl e) rs)
   obtain ⟨G',l,o,g,q⟩:=ih g1 (zhY t fun c hc ds r=>r.mono (zbb hb) rfl) nd.2 fun c hc=>by
    rw [zbv (by rintro rfl; exact nd.1 hc)]; exact un c (List.mem_cons_of_mem _ hc)
   refine ⟨G',Gle.trans (zbb hb) l,fun c hc=>?_,g,.cons (l _ _ zaz) q⟩
   rw [o c fun z=>hc (List.mem_cons_of_mem _ z),zbv (by rintro rfl; exact hc List.mem_cons_self)]
theorem zmB {G:GH} {as:List Addr} {w:List (List D)} {b:Addr} (hb:b∈as) (q:Paired (fun b ds=>G b=some (.lst ds)) as w):∃ds,G b=some (.lst ds):=by
 induction q with
 | nil=>cases hb
 | cons h _ ih=>
  rcases List.mem_cons.mp hb with rfl | hb
  ·exact ⟨_,h⟩
  ·exact ih hb
theorem zkJ {fp:List Addr} {p:Addr} {d0:D} (si:SI X (zdq g H fp i p) m r G σ H) (hm:m[i]? = some .bw) (h0:∀b∈fp,g.h0 b=none) (hS:∀b∈fp,H b≠none) (hb:∀j,j≠i->m[j]?≠some .bw) (le:Gle G G') (g2:GOk X.K G' H) (out:∀b,b∉fp->G' b=G b) (hd:G' p=some d0) :
  SI X g (m.set i .sh) (r.set i (some d0)) G' σ H:=by
 have hlt:i < m.length:=(List.getElem?_eq_some_iff.mp hm).1
 have hst:σ[i]? = some (some (V.ref p)):=(si.lk i (some (V.ref p),none) (by show (if i=i then _ else _)=_; rw [if_pos rfl]) hm).1
 have h0':∀b,b∉fp->(zdq g H (fp) i p).h0 b=g.h0 b:=fun b hb=>by show (if b∈fp then H b else g.h0 b)=_; rw [if_neg hb]
 have h0i:∀b,b∈fp->(zdq g H (fp) i p).h0 b≠none:=fun b hb=>by show (if b∈fp then H b else g.h0 b)≠_; rw [if_pos hb]; exact hS b hb
 have nin:∀b,g.h0 b≠none->b∉fp:=fun b h z=>h (h0 b z)
 have mne:∀{j x},i≠j->(m.set i .sh)[j]? = some x->m[j]? = some x:=fun hij h=>by rw [List.getElem?_set_ne hij] at h; exact h
 refine ⟨g2,fun a o e=>?_,fun a d e=>le a d (si.ge a d e),fun a h=>?_,by simpa using si.lm,by simpa using si.lr,fun j d h1 h2=>?_,fun j d h1 h2=>?_,fun j d h1 h2=>?_,fun j k a d e hjk h1 h2 m1 m2 z1 z2=>?_,fun j o hj hm'=>?_⟩
 ·exact si.old a o (by rw [h0' a (nin a (by rw [e]; simp))]; exact e)
 ·have hn:=nin a h
  rw [out a hn]
  exact si.gf a (by rw [h0' a hn]; exact h)
 ·by_cases hij:i=j
  ·subst hij
   rw [List.getElem?_set_self (by rw [si.lr,<-si.lm]; exact hlt)] at h1
   cases h1
   exact ⟨_,hst,.ref hd⟩
  ·rw [List.getElem?_set_ne hij] at h1
   obtain ⟨v,y1,y2⟩:=si.sh j d h1 (mne hij h2)
   exact ⟨v,y1,y2.mono le⟩
 ·by_cases hij:i=j
  ·subst hij; rw [List.getElem?_set_self hlt] at h2; cases h2
  ·rw [List.getElem?_set_ne hij] at h1
   obtain ⟨a,y1,y2,y3⟩:=si.ow j d h1 (mne hij h2)
   have hn:a∉fp:=fun z=>h0i a z y3
   exact ⟨a,y1,⟨by rw [out a hn]; exact y2.un,y2.ob.mono le fun _ z=>z⟩,by rw [<-h0' a hn]; exact y3⟩
 ·by_cases hij:i=j
  ·subst hij; rw [List.getElem?_set_self hlt] at h2; cases h2
  ·exact absurd (mne hij h2) (hb j (Ne.symm hij))
 ·have hij:i≠j:=by rintro rfl; rw [List.getElem?_set_self hlt] at m1; cases m1
  have hik:i≠k:=by rintro rfl; rw [List.getElem?_set_self hlt] at m2; cases m2
  rw [List.getElem?_set_ne hij] at h1
  rw [List.getElem?_set_ne hik] at h2
  exact si.dis j k a d e hjk h1 h2 (mne hij m1) (mne hik m2) z1 z2
 ·by_cases hij:i=j
  ·subst hij; rw [List.getElem?_set_self hlt] at hm'; cases hm'
  ·exact absurd (mne hij hm') (hb j (Ne.symm hij))
theorem SI2.frz (s:SI2 X g i m r w G σ H) (hb:∀j,j≠i->m[j]?≠some .bw):∃G',Gle G G'/\(∀b d,G b=none->G' b=some d->∃ds,d=.lst ds)/\SI X g (m.set i .sh) (r.set i (some (.lst (w.map D.lst)))) G' σ H:=by
 obtain ⟨p,as,R,h0,si,hm⟩:=s
 have nd:=List.nodup_cons.mp R.nd
 obtain ⟨G1,l1,o1,g1,q1⟩:=zq7 si.gok R.rw nd.2 fun b hb=>R.un b (List.mem_cons_of_mem _ hb)
 have hp1:G1 p=none:=by rw [o1 p nd.1]; exact R.un p List.mem_cons_self
 have rs:RGs X.K G1 (as.map V.ref) (w.map D.lst):=by
  have:∀{as:List Addr} {w:List (List D)},Paired (fun b ds=>G1 b=some (.lst ds)) as w->RGs X.K G1 (as.map V.ref) (w.map D.lst):=fun {as w} q=>by
   induction q with
   | nil=>exact .nil
   | cons h _ ih=>exact .cons (.ref h) ih
  exact this q1
 have g2:GOk X.K (gset G1 p (.lst (w.map D.lst))) H:=g1.gset hp1 (.lst (.inl R.out) rs)
 have le:Gle G (gset G1 p (.lst (w.map D.lst))):=Gle.trans l1 (zbb hp1)
 have out:∀b,b∉p::as->gset G1 p (.lst (w.map D.lst)) b=G b:=fun b hb=>by
  rw [zbv (by rintro rfl; exact hb List.mem_cons_self),o1 b fun z=>hb (List.mem_cons_of_mem _ z)]
 refine ⟨_,le,fun b d hn e=>?_,zkJ si hm h0 (fun b hb=>R.isS hb) hb le g2 out zaz⟩
 by_cases hbp:b=p
 ·subst hbp; rw [zaz] at e; cases e; exact ⟨_,rfl⟩
 ·rw [zbv hbp] at e
  by_cases hba:b∈as
  ·obtain ⟨ds,e1⟩:=zmB hba q1
   rw [e1] at e; cases e; exact ⟨_,rfl⟩
  ·rw [o1 b hba,hn] at e; cases e
theorem SI.hold (s:SI X g m r G σ H) (wg:Grow X.K G H G' H') (hlt:i < m.length) {p:Addr} {fp:List Addr} (un:∀b∈fp,G' b=none) (hS:∀b∈fp,H' b≠none) (hn:∀b∈fp,H b=none):SI X (zdq g H' fp i p) (m.set i .bw) (r.set i none) G' (σ.set i (some (V.ref p))) H':=by
 have s':=s.grow wg
 have h0':∀b,b∉fp->(zdq g H' (fp) i p).h0 b=g.h0 b:=fun b hb=>by show (if b∈fp then H' b else g.h0 b)=_; rw [if_neg hb]
 have h0i:∀b,b∈fp->(zdq g H' (fp) i p).h0 b=H' b:=fun b hb=>by show (if b∈fp then H' b else g.h0 b)=_; rw [if_pos hb]
 have mne:∀{j x},i≠j->(m.set i .bw)[j]? = some x->m[j]? = some x:=fun hij h=>by rw [List.getElem?_set_ne hij] at h; exact h
 have rne:∀{j d},(r.set i none)[j]? = some (some d)->i≠j/\r[j]? = some (some d):=fun {j d} h=>by
  by_cases hij:i=j
  ·subst hij
   rw [List.getElem?_set_self (by rw [s.lr,<-s.lm]; exact hlt)] at h; cases h
  ·rw [List.getElem?_set_ne hij] at h; exact ⟨hij,h⟩
 refine ⟨wg.ok,fun a o e=>?_,s'.ge,fun a h=>?_,by simpa using s.lm,by simpa using s.lr,fun j d h1 h2=>?_,fun j d h1 h2=>?_,fun j d h1 h2=>?_,fun j k a d e hjk h1 h2 m1 m2 z1 z2=>?_,fun j o hj hm'=>?_⟩
 ·by_cases ha:a∈fp
  ·rw [h0i a ha] at e; exact e
  ·rw [h0' a ha] at e; exact s'.old a o e
 ·by_cases ha:a∈fp
  ·rw [un a ha]
   show none=g.gh a
   cases e:g.gh a with
   | none=>rfl
   | some d=>exact absurd (hn a ha) (s.gok a d (s.ge a d e)).isS
  ·rw [h0' a ha] at h; exact s'.gf a h
 ·obtain ⟨hij,h1⟩:=rne h1
  rw [List.getElem?_set_ne hij]
  exact s'.sh j d h1 (mne hij h2)
 ·obtain ⟨hij,h1⟩:=rne h1
  rw [List.getElem?_set_ne hij]
  obtain ⟨a,y1,y2,y3⟩:=s.ow j d h1 (mne hij h2)
  have ha:a∉fp:=fun z=>y2.ob.isS (hn a z)
  exact ⟨a,y1,y2.mono wg,by rw [h0' a ha]; exact y3⟩
 ·obtain ⟨hij,h1⟩:=rne h1
  rw [List.getElem?_set_ne hij]
  obtain ⟨v,y1,y2⟩:=s'.bw j d h1 (mne hij h2)
  refine ⟨v,y1,?_⟩
  rcases y2 with y2 | ⟨a,ea,y2,y3⟩
  ·exact .inl y2
  ·refine .inr ⟨a,ea,y2,?_⟩
   by_cases ha:a∈fp
   ·rw [h0i a ha]; exact hS a ha
   ·rw [h0' a ha]; exact y3
 ·obtain ⟨hij,h1⟩:=rne h1
  obtain ⟨hik,h2⟩:=rne h2
  rw [List.getElem?_set_ne hij] at z1
  rw [List.getElem?_set_ne hik] at z2
  exact s.dis j k a d e hjk h1 h2 (mne hij m1) (mne hik m2) z1 z2
 ·by_cases hij:i=j
  ·subst hij
   have hj':(if i=i then some (some (V.ref p),none) else g.hd i)=some o:=hj
   rw [if_pos rfl] at hj'
   cases hj'
   exact ⟨by rw [List.getElem?_set_self (by rw [<-s.lm]; exact hlt)],fun d h=>absurd rfl (rne h).1⟩
  ·have hj':(if j=i then some (some (V.ref p),none) else g.hd j)=some o:=hj
   rw [if_neg (Ne.symm hij)] at hj'
   have:=s.lk j o hj' (mne hij hm')
   exact ⟨by rw [List.getElem?_set_ne hij]; exact this.1,fun d h=>this.2 d (by rw [List.getElem?_set_ne hij] at h; exact h)⟩
theorem SI.new2 (s:SI X g m r G σ H) (wg:Grow X.K G H G' H') (hlt:i < m.length) {p:Addr} {as:List Addr} (R:LRw X.K G' H' p as w) (hn:∀b∈p::as,H b=none):SI2 X g i (m.set i .bw) (r.set i none) w G' (σ.set i (some (V.ref p))) H':=
 ⟨p,as,R,fun b hb=>s.new (hn b hb),s.hold wg hlt R.un (fun b hb=>R.isS hb) hn,by rw [List.getElem?_set_self hlt]⟩
def SSM (X:Cx) (g:GE) (ro:Bool) (mb:List Md) (i:Nat) (m:List Md) (sts:List Stmt) (F:Rho->List (List D)->Out) (m':List Md):Prop:=
 m'.length=m.length/\PSs X sts (fun D σ H=>∃r w G,SI2 X g i m r w G σ H/\oTo X g ro m' mb G D (F r w))
def ztq (i:Nat) (s:FS):Rho->List (List D)->Out:=fun r w=>s (r.set i (some (.lst (w.map D.lst))))
theorem zp7 (h:SSs X g ro mb (m.set i .sh) sts s1 m') (hb:∀j,j≠i->m[j]?≠some .bw):SSM X g ro mb i m sts (ztq i s1) m':=
 ⟨by simpa using h.1,PSs.imp h.2 fun D σ H ⟨r,w,G,s,q⟩=>by
  obtain ⟨G',le,_,si⟩:=s.frz hb
  exact ⟨_,G',si,oTo.gle q le⟩⟩
def zlK (f1:FS2) (F:Rho->List (List D)->Out):Rho->List (List D)->Out:=fun r w=>match f1 r w with
 | some p=>F p.1 p.2
 | none=>.stuck
theorem zkd {F:Rho->List (List D)->Out} (hl:m1.length=m.length) (h1:SS2 X g i m st f1 m1) (h2:SSM X g ro mb i m1 sts F m'):SSM X g ro mb i m (st::sts) (zlK f1 F) m':=by
 refine ⟨h2.1.trans hl,PSs.imp (zf3 h1 h2.2) fun D σ H ⟨r,w,G,si,q⟩=>⟨r,w,G,si,?_⟩⟩
 unfold zlK at q
 cases e:f1 r w with
 | none=>rw [e] at q; exact q.elim
 | some z=>
  rw [e] at q
  exact ⟨z.1,z.2,rfl,fun σ' G' H' le si'=>⟨z.1,z.2,G',si',oTo.gle q le⟩⟩
def tNew (X:Cx) (g:GE) (i:Nat) (m m1:List Md) (f:Rho->Option (Rho × List (List D))):TS:=fun D σ H=>∃r G,SI X g m r G σ H/\∃r' w',f r=some (r',w')/\∀σ' G' H',Gle G G'->SI2 X g i m1 r' w' G' σ' H'->D.nx σ' H'
def zmM (f:Rho->Option (Rho × List (List D))) (F:Rho->List (List D)->Out):FS:=fun r=>match f r with
 | some p=>F p.1 p.2
 | none=>.stuck
theorem zrH {F:Rho->List (List D)->Out} {f:Rho->Option (Rho × List (List D))} (hl:m1.length=m.length) (h1:PS X st (tNew X g i m m1 f)) (h2:SSM X g ro mb i m1 sts F m'):SSs X g ro mb m (st::sts) (zmM f F) m':=by
 refine ⟨h2.1.trans hl,PSs.imp (zf3 h1 h2.2) fun D σ H ⟨r,G,si,q⟩=>⟨r,G,si,?_⟩⟩
 unfold zmM at q
 cases e:f r with
 | none=>rw [e] at q; exact q.elim
 | some z=>
  rw [e] at q
  exact ⟨z.1,z.2,rfl,fun σ' G' H' le si'=>⟨z.1,z.2,G',si',oTo.gle q le⟩⟩
end
def RO (K:W.Frag) (H2:Hp) (p:Addr) (G:GH) (H:Hp) (ws:List V) (ds:List D):Prop:=Paired (fun v d=>∃b,v=V.ref b/\H2 b=none/\b≠p/\Own K G H b d) ws ds/\ws.Nodup
section
variable {K:W.Frag} {H2:Hp} {p:Addr} {G G':GH} {H H':Hp} {ws:List V} {ds:List D}
theorem RO.grow (h:RO K H2 p G H ws ds) (w:Grow K G H G' H'):RO K H2 p G' H' ws ds:=
 ⟨Paired.mono (fun v d ⟨b,e,h1,h2,h3⟩=>⟨b,e,h1,h2,h3.mono w⟩) h.1,h.2⟩
theorem RO.upd {o:HO} (h:RO K H2 p G H ws ds):RO K H2 p G (L2.upd H p o) ws ds:=
 ⟨Paired.mono (fun v d ⟨b,e,h1,h2,h3⟩=>⟨b,e,h1,h2,h3.un,h3.ob.mono (fun _ _ z=>z) fun _ z=>by rw [zaq h2]; exact z⟩) h.1,h.2⟩
theorem RO.add (h:RO K H2 p G H ws ds) {a:Addr} {d:D} (w:Grow K G H G' H') (hn:H a=none) (h2:H2 a=none) (hp:a≠p) (ho:Own K G' H' a d):RO K H2 p G' H' (ws++[V.ref a]) (ds++[d]):=by
 refine ⟨Paired.snoc (h.grow w).1 ⟨a,rfl,h2,hp,ho⟩,?_⟩
 rw [List.nodup_append]
 refine ⟨h.2,by simp,?_⟩
 intro x hx y hy e
 rw [List.mem_singleton] at hy
 subst hy
 subst e
 have:∀{ws:List V} {ds:List D},Paired (fun v d=>∃b,v=V.ref b/\H2 b=none/\b≠p/\Own K G H b d) ws ds->V.ref a∈ws->False:=fun {ws ds} q hx=>by
  induction q with
  | nil=>cases hx
  | cons r _ ih=>
   rcases List.mem_cons.mp hx with e | hx
   ·obtain ⟨b,e1,_,_,h3⟩:=r
    rw [<-e] at e1
    cases e1
    exact h3.ob.isS hn
   ·exact ih hx
 exact this h.1 hx
end
section
variable {X:Cx} {pz:List (Addr × Obj)} {σ:L2.St} {H2:Hp} {s2:Shared} {scope:Scope} {N':List Str} {nl:Nat} {cap:List Nat} {cl:List (Str × Addr)} {fp:List Addr} {g:GE} {G2:GH} {m:List Md} {r:Rho} {elt tg iter:Expr} {ifs:List Expr} {pos:Pos}
theorem zlF (hN:X.N.Nodup) (hcalm:X.calm=true) (sc:CompSc X scope N' nl cap) (h1:∀x c,cl.lookup x=some c->X.env.cells.lookup x=some c) (h2:∀x,(x,NameKind.free)∈scope.names->∃c,cl.lookup x=some c)
  (I2:Inv X pz σ H2 s2) (si:SI X g m r G2 σ H2) (T:Turn X.prog X.w X.K tg J fp it tn) (st:tn 0 s2.heap) (hf:∀b∈fp,FpOk X pz H2 b) (Y:YieldsC X.K J ds G2 H2) (hsz:ds.length<=sizeLine)
  (hg:∀C,SG (cxC X s2 H2 N' scope cl C fp) ⟨G2,H2,fun _=>none⟩ (capM nl cap m) tg ft (capM nl cap m)) (hft:FtOk ft nl) (hq:∀C,SQs (cxC X s2 H2 N' scope cl C fp) ⟨G2,H2,fun _=>none⟩ (capM nl cap m) ifs q) (he:∀C,SO (cxC X s2 H2 N' scope cl C fp) ⟨G2,H2,fun _=>none⟩ (capM nl cap m) elt fe)
  (hres:zcT ft q fe (capR nl cap r) ds=.ok vs) {RR:Value->Addr->Result->Shared->Prop}
  (hRR:∀(p C:Addr) (s':Shared) (H':Hp) (G':GH),Inv X pz σ H' s'->(∃mm,s'.heap.Ns C mm)->H' C=none->C≠X.env.locals->X.s₀.heap.objs.size<=C->(∀x c,X.env.cells.lookup x=some c->c≠C)->(∀z∈X.pn++pz,z.1≠C) ->
   Grow X.K G2 H2 G' H'->H2 p=none->(∃ws,H' p=some (.lst ws)/\G' p=none/\RO X.K H2 p G' H' ws vs)->RR (.ref p) C (.ok .next) s') :
  wpAny (model X.prog X.w) X.A (newList []) (fun acc s3=>wpAny (model X.prog X.w) X.A (newFunctionEnv scope X.env.globals cl [] X.env.qual none .none (some X.env)) (fun cenv s4=>
   codeAny (model X.prog X.w) X.A (.compStart (.ListComp elt [⟨tg,iter,ifs,0⟩] scope pos) 0 (.ref it) acc { cenv with scope:=relabel scope X.env }) (RR acc cenv.locals) s4) E s3) E s2:=by
 refine wpAny_newObj_type (wpAny_newFunctionEnv sc.nocell (by intro y hy; simp at hy) (fun h₁ hns₁ hsb₁=>?_) sc.kind)
 dsimp only at hns₁ hsb₁ ⊢
 generalize hH2:s2.heap.push { cls:=.type "list",dict:=none,data:=.seq ([]:List Value).toArray }=HH at hns₁ hsb₁ ⊢
 have hC:HH.objs.size=s2.heap.objs.size + 1:=by rw [<-hH2,Heap.size_push]
 have hDC:s2.heap.objs.size≠HH.objs.size:=by rw [hC]; exact Nat.ne_of_lt (Nat.lt_succ_self _)
 have hCle:s2.heap.objs.size<=HH.objs.size:=by rw [hC]; exact Nat.le_succ _
 have below:∀b,b < s2.heap.objs.size->b≠HH.objs.size/\b≠s2.heap.objs.size:=fun b hb=>⟨by rw [hC]; exact Nat.ne_of_lt (Nat.lt_succ_of_lt hb),Nat.ne_of_lt hb⟩
 have old:∀b o,s2.heap.get? b=some o->h₁.get? b=some o:=fun b o e=>hsb₁.extBut b o (below b (Heap.lt_size e)).1 (Heap.get?_push_of_some _ (hH2 ▸ Heap.get?_push_of_some _ e))
 have hacc:h₁.get? s2.heap.objs.size=some { cls:=.type "list",dict:=none,data:=.seq ([]:List Value).toArray }:=hsb₁.extBut _ _ hDC (Heap.get?_push_of_some _ (hH2 ▸ Heap.get?_push_size _ rfl))
 have hp2:H2 s2.heap.objs.size=none:=I2.hok.fresh (Nat.le_refl _)
 have hflt:∀b∈fp,FpOk X pz H2 b/\b < s2.heap.objs.size:=fun b hb=>⟨hf b hb,by
  obtain ⟨o,e,_⟩:=T.obj 0 s2.heap st b hb
  exact Heap.lt_size e⟩
 have ok:=zpT (fp:=fp) I2 sc h1 h2 hflt hCle
 generalize hXX:cxC X s2 H2 N' scope cl HH.objs.size fp=XX at ok
 have hG2p:G2 s2.heap.objs.size=none:=si.gok.isN hp2
 have w0:Grow X.K G2 H2 G2 (upd H2 s2.heap.objs.size (.lst [])):=Grow.new si.gok hp2 _
 have hok4:HOk X.prog X.w (upd H2 s2.heap.objs.size (.lst [])) h₁:=I2.hok.laid old (Nat.le_refl _) ⟨Nat.zero_le _,[],0,.nil,hacc⟩
 have IC:Inv XX [] (capS nl cap σ) (upd H2 s2.heap.objs.size (.lst [])) { s2 with heap:=h₁,toks:=s2.toks + ([]:List (Str × Value)).length }:=by
  subst hXX
  refine zpU I2 ok sc h1 h2 hN rfl I2.bare old hns₁ hCle ?_ (fun b hb hlt=>?_) (Un.laid old (Nat.le_refl _) hp2) hok4
  ·rw [zaq (Ne.symm hDC)]; exact I2.hok.fresh hCle
  ·rw [zaq (below b hlt).2]; exact hb
 have SC:SI XX ⟨G2,H2,fun _=>none⟩ (capM nl cap m) (capR nl cap r) G2 (capS nl cap σ) (upd H2 s2.heap.objs.size (.lst [])):=by
  subst hXX
  exact ztw si w0
 have hst₁:tn 0 h₁:=T.keep _ _ _ st fun b _ o e=>old b o e
 have hfX:∀(H':Hp),(∀b∈fp,H' b=none)->∀b∈fp,FpOk XX [] H' b:=fun H' hn b hb=>by
  obtain ⟨z0,z1,z2,z3,z4,z5⟩:=hf b hb
  refine ⟨hn b hb,?_,?_,?_,?_,?_⟩
  ·subst hXX; exact (below b (hflt b hb).2).1
  ·subst hXX
   intro hfs
   rcases List.mem_cons.mp (I2.stkSub b hfs) with z | z
   ·exact z1 z
   ·exact z2 z
  ·subst hXX; exact .inl hb
  ·subst hXX; exact fun x c e=>z4 x c (h1 x c e)
  ·subst hXX; intro p hp; exact absurd (show p∈([]:List (Addr × Obj)) from hp) (by simp)
 have eA:XX.A=X.A:=by subst hXX; rfl
 have eP:XX.prog=X.prog:=by subst hXX; rfl
 have eW:XX.w=X.w:=by subst hXX; rfl
 have eK:XX.K=X.K:=by subst hXX; rfl
 have eX:XX.xe=fun _ _=>False:=by subst hXX; rfl
 have eE:XX.env=compEnvC scope cl HH.objs.size X.env:=by subst hXX; rfl
 have eC:XX.calm=true:=by subst hXX; exact hcalm
 have eH:XX.H₀ = H2:=by subst hXX; rfl
 have hg':PG XX tg (tG XX ⟨G2,H2,fun _=>none⟩ (capM nl cap m) (capM nl cap m) ft):=by subst hXX; exact (hg _).2
 have hq':SQs XX ⟨G2,H2,fun _=>none⟩ (capM nl cap m) ifs q:=by subst hXX; exact hq _
 have he':SO XX ⟨G2,H2,fun _=>none⟩ (capM nl cap m) elt fe:=by subst hXX; exact he _
 have fin':∀{H':Hp} {s':Shared} {σ':L2.St} {G':GH} {ws:List V},Inv XX [] σ' H' s'->Grow X.K G2 H2 G' H'->H' s2.heap.objs.size=some (.lst ws)->G' s2.heap.objs.size=none->RO X.K H2 s2.heap.objs.size G' H' ws vs->RR (.ref s2.heap.objs.size) HH.objs.size (.ok .next) s':=fun {H' s' σ' G' ws} J1 wg hpp hgp rs=>by
  subst hXX
  have un:=J1.base
  refine hRR _ _ s' H' G' ?_ (let ⟨mm,hn,_⟩:=J1.loc; ⟨mm,hn⟩) J1.free (Nat.ne_of_gt (Nat.lt_of_lt_of_le I2.lt hCle)) (Nat.le_trans I2.sz hCle) (fun x c e z=>?_) (fun z hz e=>?_) wg hp2 ⟨_,hpp,hgp,rs⟩
  ·refine I2.call' J1.os un J1.hok J1.bare fun b hb=>?_
   obtain ⟨z0,z1,z2,z3,z4,z5⟩:=hf b hb
   exact ⟨z3,z1,z4,z5⟩
  ·obtain ⟨v,o,ho,_⟩:=I2.cell x c e
   exact absurd (Nat.lt_of_lt_of_le (Heap.lt_size ho) hCle) (by rw [z]; exact Nat.lt_irrefl _)
  ·have:=(I2.pin z hz).1
   exact absurd (Nat.lt_of_lt_of_le (Heap.lt_size this) hCle) (by rw [e]; exact Nat.lt_irrefl _)
 have loop:codeAny (model X.prog X.w) X.A (.compLoop (.ListComp elt [⟨tg,iter,ifs,0⟩] scope pos) 0 (.ref it) (.ref s2.heap.objs.size) (compEnvC scope cl HH.objs.size X.env)) (RR (.ref s2.heap.objs.size) HH.objs.size)
   { s2 with heap:=h₁,toks:=s2.toks + ([]:List (Str × Value)).length }:=by
  refine znB (fun n s'=>∃(i:Nat) (σ':L2.St) (H':Hp) (G':GH) (ws:List V) (done rest:List D),Inv XX [] σ' H' s'/\SI XX ⟨G2,H2,fun _=>none⟩ (capM nl cap m) (capR nl cap r) G' σ' H'/\tn i s'.heap/\(∀b∈fp,H' b=none)/\Grow X.K G2 H2 G' H' /\
    H' s2.heap.objs.size=some (.lst ws)/\G' s2.heap.objs.size=none/\RO X.K H2 s2.heap.objs.size G' H' ws done/\zcT ft q fe (capR nl cap r) (ds.drop i)=.ok rest/\vs=done++rest/\done.length<=i/\i<=ds.length/\n=ds.length - i) ?_ ds.length
   ⟨0,_,_,G2,[],[],vs,IC,SC,hst₁,fun b hb=>?_,w0,zam,hG2p,⟨.nil,List.nodup_nil⟩,hres,rfl,Nat.le_refl _,Nat.zero_le _,rfl⟩
  rotate_left
  ·rw [zaq (below b (hflt b hb).2).2]; exact (hf b hb).1
  rintro n s3 ⟨i,σ3,H3,G3,ws,done,rest,I3,S3,st3,fr3,w3,hp3,hg3,rs3,hr3,hv3,hd3,hi3,rfl⟩
  have weaken:∀{α:Type} {t:Sem α} {Q:α->Shared->Prop} {s':Shared} {E':Value->Shared->Prop},wpAny (model XX.prog XX.w) XX.A t Q XX.xe s'->wpAny (model X.prog X.w) X.A t Q E' s':=fun h=>by
   rw [eP,eW,eA,eX] at h
   exact wpAny_mono h (fun _ _ z=>z) fun _ _ z=>z.elim
  by_cases hlt:i < ds.length
  ·have hd:ds.drop i=ds[i]::ds.drop (i + 1):=List.drop_eq_getElem_cons hlt
   rw [hd] at hr3
   unfold zcT at hr3
   have it3:=T.item XX eP eW eK eC i [] s3 σ3 H3 (notedBy (model X.prog X.w) X.A (compEnvC scope cl HH.objs.size X.env) fun e s'=>RR (.ref s2.heap.objs.size) HH.objs.size (.error e) s') I3 (hfX H3 fr3) st3 (Y.go G3 H3 i w3 hlt)
   rw [eA] at it3
   refine thn it3 fun rr s4 ⟨u,hr,h4⟩=>?_
   subst hr
   refine thn h4 fun _ s5 ⟨x,H5,I5,r5,y5,st5,fr5⟩=>?_
   obtain ⟨G5,w5,rv5⟩:=Y.yld G3 H3 i x H5 ds[i] w3 y5 (List.getElem?_eq_getElem hlt)
   have w25:=w3.trans w5
   cases eft:ft ds[i] (capR nl cap r) with
   | none=>rw [eft] at hr3; cases hr3
   | some r1=>
    rw [eft] at hr3
    simp only [opt_some,bind_ok] at hr3
    have I5':=I5.pinned (hfX H5 fr5) (T.obj _ _ st5)
    have S5:SI XX ⟨G2,H2,fun _=>none⟩ (capM nl cap m) (capR nl cap r) G5 σ3 H5:=S3.grow (by rw [eK]; exact w5)
    have rv5':RG XX.K G5 x ds[i]:=by rw [eK]; exact rv5
    have as5:=hg' _ s5 σ3 H5 x u (fun σ6 H6=>H6=H5/\SI XX ⟨G2,H2,fun _=>none⟩ (capM nl cap m) r1 G5 σ6 H5) I5' r5 ⟨capR nl cap r,G5,ds[i],S5,rv5',r1,eft,fun σ6 si6=>⟨rfl,si6⟩⟩
    rw [eE] at as5
    refine thn (weaken as5) fun _ s6 ⟨σ6,H6,I6,e6,S6⟩=>?_
    subst e6
    obtain ⟨fl1,fl2⟩:=hft _ _ _ eft
    cases eq1:q r1 with
    | stuck=>rw [eq1] at hr3; cases hr3
    | exc xx=>rw [eq1] at hr3; cases hr3
    | ok b1=>
     rw [eq1] at hr3
     simp only [bind_ok] at hr3
     have te6:=hq' _ s6 σ6 H6 (fun b H7=>b=b1/\∃G7,Grow X.K G5 H6 G7 H7) I6 ⟨r1,G5,S6,by rw [eq1]; exact fun G7 H7 w7=>⟨rfl,G7,by rw [eK] at w7; exact w7⟩⟩
     rw [eE] at te6
     refine thn (weaken te6) fun b s7 ⟨H7,I7,eb,G7,w7⟩=>?_
     subst eb
     have S7:SI XX ⟨G2,H2,fun _=>none⟩ (capM nl cap m) r1 G7 σ6 H7:=S6.grow (by rw [eK]; exact w7)
     have w27:=w25.trans w7
     have hp7:H7 s2.heap.objs.size=some (.lst ws):=w7.he _ _ (w5.he _ _ hp3)
     have hg7:G7 s2.heap.objs.size=none:=by
      rw [w7.gf _ (by rw [w5.he _ _ hp3]; simp),w5.gf _ (by rw [hp3]; simp)]; exact hg3
     have back:∀{σ8:L2.St} {H8:Hp} {G8:GH} {s8:Shared},Inv XX ([]++zhk fp s5.heap) σ8 H8 s8->Inv XX [] σ8 H8 s8/\tn (i + 1) s8.heap/\∀b∈fp,H8 b=none:=fun {σ8 H8 G8 s8} I8=>by
      refine ⟨I8.unpinned,T.keep _ _ _ st5 fun b hb o e=>(I8.pin (b,o) (List.mem_append_right _ (List.mem_append_right _ (zcF hb e)))).1,fun b hb=>?_⟩
      obtain ⟨o,e,_⟩:=T.obj _ _ st5 b hb
      exact (I8.pin (b,o) (List.mem_append_right _ (List.mem_append_right _ (zcF hb e)))).2.1
     have less:∀{σ8:L2.St} {H8:Hp} {G8:GH},SI XX ⟨G2,H2,fun _=>none⟩ (capM nl cap m) r1 G8 σ8 H8->SI XX ⟨G2,H2,fun _=>none⟩ (capM nl cap m) (capR nl cap r) G8 σ8 H8:=fun h=>h.less fl1.symm fun j d hj=>by
      by_cases hjn:j < nl
      ·exact absurd hj (zjc hjn d)
      ·rw [fl2 j (by omega)]; exact hj
     cases b with
     | false=>
      rw [if_neg Bool.false_ne_true] at hr3 ⊢
      obtain ⟨I7',t7,f7⟩:=back (G8:=G7) I7
      exact ⟨ds.length - (i + 1),by omega,i + 1,σ6,H7,G7,ws,done,rest,I7',less S7,t7,f7,w27,hp7,hg7,rs3.grow (w5.trans w7),hr3,hv3,by omega,hlt,rfl⟩
     | true=>
      rw [if_pos rfl] at hr3 ⊢
      cases ee1:fe r1 with
      | stuck=>rw [ee1] at hr3; cases hr3
      | exc xx=>rw [ee1] at hr3; cases hr3
      | ok d1=>
       rw [ee1] at hr3
       simp only [bind_ok] at hr3
       cases er:zcT ft q fe (capR nl cap r) (ds.drop (i + 1)) with
       | stuck=>rw [er] at hr3; cases hr3
       | exc xx=>rw [er] at hr3; cases hr3
       | ok rest'=>
        rw [er] at hr3
        simp only [bind_ok] at hr3
        cases hr3
        have el7:=he' _ s7 σ6 H7 (fun v H8=>∃a8 G8,v=V.ref a8/\Grow X.K G7 H7 G8 H8/\H7 a8=none/\Own X.K G8 H8 a8 d1) I7 ⟨r1,G7,S7,by rw [ee1]; exact fun a8 G8 H8 w8 hn ho=>⟨a8,G8,rfl,by rw [eK] at w8; exact w8,hn,by rw [eK] at ho; exact ho⟩⟩
        rw [eE] at el7
        refine thn (weaken el7) fun u8 s8 ⟨v8,H8,I8,r8,a8,G8,ev8,w8,hn8,ho8⟩=>?_
        have hp8:H8 s2.heap.objs.size=some (.lst ws):=w8.he _ _ hp7
        have hg8:G8 s2.heap.objs.size=none:=by rw [w8.gf _ (by rw [hp7]; simp)]; exact hg7
        have S8:SI XX ⟨G2,H2,fun _=>none⟩ (capM nl cap m) r1 G8 σ6 H8:=S7.grow (by rw [eK]; exact w8)
        have hlen:=Paired.length rs3.1
        have ap8:=zcg (X:=XX) _ s8 σ6 H8 (.ref s2.heap.objs.size) [v8] (.ref s2.heap.objs.size) [u8] (fun v H9=>H9=upd H8 s2.heap.objs.size (.lst (ws++[v8]))) I8 rfl (.cons r8 .nil) ⟨_,ws,v8,rfl,rfl,hp8,by omega,rfl⟩
        refine thn (weaken ap8) fun u9 s9 ⟨v9,H9,I9,r9,e9⟩=>?_
        subst e9
        obtain ⟨I9',t9,f9⟩:=back (G8:=G8) I9
        have rsn:RO X.K H2 s2.heap.objs.size G8 (upd H8 s2.heap.objs.size (.lst (ws++[v8]))) (ws++[v8]) (done++[d1]):=by
         have:=((rs3.grow (w5.trans w7)).add w8 hn8 (w27.back hn8) (by rintro rfl; rw [hp7] at hn8; cases hn8) ho8).upd (o:=.lst (ws++[v8]))
         rw [<-ev8] at this
         exact this
        have w28:=w27.trans w8
        refine ⟨ds.length - (i + 1),by omega,i + 1,σ6,_,G8,ws++[v8],done++[d1],rest',I9',less (S8.other hg8 hp2 znC _),t9,f9,?_,zam,hg8,rsn,er,by rw [hv3,List.append_assoc]; rfl,by rw [List.length_append,List.length_singleton]; omega,hlt,rfl⟩
        refine ⟨fun b e hb=>(w28.ok b e hb).mono (fun _ _ z=>z) fun o z=>?_,fun b o hb=>?_,w28.ge,w28.gf⟩
        ·rw [zaq (by rintro rfl; rw [hg8] at hb; cases hb)]; exact z
        ·rw [zaq (by rintro rfl; rw [hp2] at hb; cases hb)]; exact w28.he b o hb
  ·have e:i=ds.length:=by omega
   subst e
   rw [List.drop_length] at hr3
   cases hr3
   rw [List.append_nil] at hv3
   subst hv3
   have dn:=T.done XX eP eW eK eC ds.length [] s3 σ3 H3 (notedBy (model X.prog X.w) X.A (compEnvC scope cl HH.objs.size X.env) fun e s'=>RR (.ref s2.heap.objs.size) HH.objs.size (.error e) s') I3 (hfX H3 fr3) st3 (Y.stop G3 H3 w3)
   rw [eA] at dn
   refine thn dn fun rr s4 ⟨hr,I4⟩=>?_
   subst hr
   exact fin' I4 w3 hp3 hg3 rs3
 exact codeAny_compStart_list loop (T.self X.A 0 _ _ _ hst₁ loop)
end
def zfa:List D->Option (List (List D))
 | []=>some []
 | .lst ds::r=>(zfa r).map (ds::·)
 | _=>none
theorem znI {vs:List D} {w:List (List D)} (h:zfa vs=some w):vs=w.map D.lst:=by
 induction vs generalizing w with
 | nil=>cases h; rfl
 | cons v vs ih=>
  cases v with
  | lst ds=>
   have h':(zfa vs).map (ds::·)=some w:=h
   cases e:zfa vs with
   | none=>rw [e] at h'; cases h'
   | some w'=>rw [e] at h'; cases h'; rw [ih e]; rfl
  | _=>cases h
theorem zlJ (w:List (List D)):zfa (w.map D.lst)=some w:=by
 induction w with
 | nil=>rfl
 | cons a w ih=>show (zfa (w.map D.lst)).map (a::·)=_; rw [ih]; rfl
theorem zqh {K:W.Frag} {H2:Hp} {p:Addr} {G:GH} {H:Hp} {w:List (List D)} {ws:List V} (h:Paired (fun v d=>∃b,v=V.ref b/\H2 b=none/\b≠p/\Own K G H b d) ws (w.map D.lst)) :
  ∃as,ws=as.map V.ref/\Paired (RowR K G H) as w/\∀b∈as,H2 b=none/\b≠p/\G b=none:=by
 induction w generalizing ws with
 | nil=>cases h; exact ⟨[],rfl,.nil,fun _ z=>nomatch z⟩
 | cons ds w ih=>
  cases h with
  | cons r t=>
   obtain ⟨b,rfl,h1,h2,h3⟩:=r
   obtain ⟨as,rfl,q1,q2⟩:=ih t
   refine ⟨b::as,rfl,.cons ?_ q1,fun c hc=>?_⟩
   ·cases h3.ob with
    | lst e rs=>exact ⟨_,e,rs⟩
   ·rcases List.mem_cons.mp hc with rfl | hc
    ·exact ⟨h1,h2,h3.un⟩
    ·exact q2 c hc
theorem zrZ {K:W.Frag} {H2:Hp} {p:Addr} {G:GH} {H:Hp} {w:List (List D)} {ws:List V} (h:RO K H2 p G H ws (w.map D.lst)) (hp:H p=some (.lst ws)) (hg:G p=none) (hn:H2 p=none) :
  ∃as,LRw K G H p as w/\∀b∈p::as,H2 b=none:=by
 obtain ⟨as,rfl,q1,q2⟩:=zqh h.1
 refine ⟨as,⟨hp,List.nodup_cons.mpr ⟨fun z=>(q2 p z).2.1 rfl,List.Pairwise.of_map V.ref (fun a b h z=>h (by rw [z])) h.2⟩,fun b hb=>?_,q1⟩,fun b hb=>?_⟩
 ·rcases List.mem_cons.mp hb with rfl | hb
  ·exact hg
  ·exact (q2 b hb).2.2
 ·rcases List.mem_cons.mp hb with rfl | hb
  ·exact hn
  ·exact (q2 b hb).1
def zmg (i:Nat) (f:FE):Rho->Option (Rho × List (List D)):=fun r=>match f r with
 | .ok (.lst vs)=>(zfa vs).map fun w=>(r.set i none,w)
 | _=>none
section
variable {X:Cx} {g:GE} {m mb:List Md} {scope:Scope} {N':List Str} {nl:Nat} {cap:List Nat} {elt tg iter:Expr} {ifs:List Expr} {pos pos' spos:Pos} {fi:FI} {ft:FT} {q:FQ} {fe:FE} {ro:Bool}
theorem zlb (i:Nat) {y:Str} (hlt:i < m.length) (hN:X.N.Nodup) (hcalm:X.calm=true) (hy:X.N[i]? = some y) (hyl:X.env.scope.names.lookup y=some .local) (sc:CompSc X scope N' nl cap) (hi:SItC X g m tg iter fi) (hg:∀s0 H0 cl C fp g',SG (cxC X s0 H0 N' scope cl C fp) g' (capM nl cap m) tg ft (capM nl cap m)) (hft:FtOk ft nl)
  (hq:∀s0 H0 cl C fp g',SQs (cxC X s0 H0 N' scope cl C fp) g' (capM nl cap m) ifs q) (he:∀s0 H0 cl C fp g',SO (cxC X s0 H0 N' scope cl C fp) g' (capM nl cap m) elt fe)
  (hsw:swapsWith (.ListComp elt [⟨tg,iter,ifs,0⟩] scope pos) (some (.Name y pos')) spos.line X.env=pure true:=by rfl) (hs:∀x,foldedSetIterable iter X.env x=pure x:=by intro _; rfl) :
  PS X (.Assign [.Name y pos'] (.ListComp elt [⟨tg,iter,ifs,0⟩] scope pos) spos) (tNew X g i m (m.set i .bw) (zmg i (zbz nl cap fi ft q fe))):=by
 intro pz s σ H D0 I h
 obtain ⟨r,G,si,r',w',ef,k⟩:=h
 obtain ⟨cl,hcl,h1,h2⟩:=sc.clo (pz:=pz) (σ:=σ) (H:=H) (s:=s) I.ok
 have k1:fin (fi r) (fun ds=>∃vs,ds.length<=sizeLine/\zcT ft q fe (capR nl cap r) ds=.ok vs/\vs=w'.map D.lst/\r'=r.set i none) (XW X σ G H):=by
  unfold zmg at ef
  cases e:zbz nl cap fi ft q fe r with
  | ok d=>
   rw [e] at ef
   cases d with
   | lst vs=>
    have ef':(zfa vs).map (fun w=>(r.set i none,w))=some (r',w'):=ef
    cases ea:zfa vs with
    | none=>rw [ea] at ef'; cases ef'
    | some w1=>
     rw [ea] at ef'
     cases ef'
     obtain ⟨ds,vs',z1,z2,z3,z4⟩:=zoO e
     cases z4
     rw [z1]
     exact ⟨vs,z2,z3,znI ea,rfl⟩
   | _=>cases ef
  | exc x=>rw [e] at ef; cases ef
  | stuck=>rw [e] at ef; cases ef
 rw [exec_Assign_Name_used _ _ _ _ hsw]
 refine wpAny_bind (wpAny_standAt (wpAny_bind ?_))
 show wpAny _ X.A (do let _ <-comprehension (.ListComp elt [⟨tg,iter,ifs,0⟩] scope pos) scope X.env _ (newList []) false (eval iter X.env) (some (assign (.Name y pos') X.env))) _ _ s
 refine wpAny_bind (wpAny_mono (wpAny_comprehension_free (use:=some (assign (.Name y pos') X.env)) (Q:=fun _ s'=>SP X pz D0 .next s') rfl hs hcl sc.kind sc.names (thn (hi pz s σ H (fun J H'=>∃G' ds vs,Grow X.K G H G' H'/\YieldsC X.K J ds G' H'/\ds.length<=sizeLine/\zcT ft q fe (capR nl cap r) ds=.ok vs /\
  vs=w'.map D.lst/\r'=r.set i none) I ⟨r,G,si,zag k1 fun ds ⟨vs,z1,z2,z3,z4⟩ J G' H' w y=>⟨G',ds,vs,w,y,z1,z2,z3,z4⟩⟩) fun v s1 hv=>thn hv fun itv s2 hv2=>?_)) (fun _ s' hq=>wpAny_pure (wpAny_pure hq)) fun _ _ e=>e)
 obtain ⟨it,fp,tn,J,H2,rfl,I2,T,st,hf,G2,ds,vs,w2,Y,hsz,hres,hvs,hr'⟩:=hv2
 refine zlF (RR:=fun acc C=>compPost (model X.prog X.w) X.A X.xe (some (assign (.Name y pos') X.env)) (fun _ s'=>SP X pz D0 .next s') acc C) hN hcalm sc h1 h2 I2 (si.grow w2) T st hf Y hsz (fun C=>hg _ _ _ _ _ _) hft (fun C=>hq _ _ _ _ _ _) (fun C=>he _ _ _ _ _ _) hres ?_
 intro p C s' H' G' I' hns hC1 hC2 hC3 hC4 hC5 w' hp ho
 obtain ⟨mm,hn⟩:=hns
 show wpAny _ X.A (assign (.Name y pos') X.env (.ref p)) _ _ s'
 refine wpAny_assign_Name (zgh I' hN hy (.inl hyl) (v:=.ref p) rfl (fun s'' I'' ⟨a,hsb,ha⟩=>?_) (.inr hyl))
 have hCa:C≠a:=by
  rcases ha with z | z
  ·rw [z]; exact hC2
  ·exact (hC4 y a z).symm
 refine ⟨mm,hn.sameBut hsb hCa,fun h' hsb'=>?_⟩
 refine ⟨_,H',I''.turned (it:=C) (t':=s''.toks) (fun b o hb e=>hsb'.extBut b o hb e) hC1 hC2 (.inr hC3) hC4 hC5,?_⟩
 obtain ⟨ws,o1,o2,o3⟩:=ho
 subst hvs
 obtain ⟨as,R,fr⟩:=zrZ o3 o1 o2 hp
 subst hr'
 exact k _ G' H' (w2.trans w').ge (si.new2 (w2.trans w') hlt R fun b hb=>w2.back (fr b hb))
end
theorem zoj {α β:Type} {F F':α->β->Prop} {l:List α} {w:List β} (h:Paired F l w) {j:Nat} {a:α} {y:β} (nd:l.Nodup) (ha:l[j]? = some a) (hy:F' a y) (ho:∀b x,b≠a->F b x->F' b x):Paired F' l (w.set j y):=by
 induction h generalizing j with
 | nil=>cases ha
 | @cons b x l w r t ih=>
  rw [List.nodup_cons] at nd
  cases j with
  | zero=>
   cases ha
   exact .cons hy (zhY t fun c hc x q=>ho c x (by rintro rfl; exact nd.1 hc) q)
  | succ j=>
   have ha':l[j]? = some a:=by simpa using ha
   refine .cons (ho b x ?_ r) (ih nd.2 ha')
   rintro rfl
   exact nd.1 (List.mem_of_getElem? ha')
theorem zsC {m:List Md} {i:Nat} (h:((List.range m.length).all fun j=>j == i || decide (m[j]?≠some Md.bw))=true):∀j,j≠i->m[j]?≠some .bw:=fun j hj e=>by
 have hlt:j < m.length:=(List.getElem?_eq_some_iff.mp e).1
 have:=List.all_eq_true.mp h j (List.mem_range.mpr hlt)
 rw [Bool.or_eq_true,beq_iff_eq,decide_eq_true_iff] at this
 exact this.elim hj fun z=>z e
def zph (sc osc:Scope):Scope:={ sc with names:=sc.names.map fun (n,k)=>if (k == .free && osc.kind == .function && osc.names.lookup n == some .cell) then (n,.cell) else (n,k) }
theorem zhy {X0:Cx} {s0:Shared} {H0:Hp} {N0:List Str} {sc0:Scope} {cl:List (Str × Addr)} {C:Addr} {fp:List Addr} {osc:Scope} {ON:List Str} {sc:Scope} {N':List Str} {nl:Nat} {cap:List Nat} (h1:X0.env.scope=osc) (h2:N0=ON) (h:zj1 (zph sc0 osc) ON sc N' nl cap=true):CompSc (cxC X0 s0 H0 N0 sc0 cl C fp) sc N' nl cap:=
 zaO (osc:=zph sc0 osc) (ON:=ON) (by subst h1; rfl) h2 h
def upAt (w:List (List D)) (x y c:Int):Option (List (List D)):=(ixN w.length x).bind fun j=>(w[j]?).bind fun row=>(ixN row.length y).bind fun k=>match row[k]? with
 | some (.int n)=>some (w.set j (row.set k (.int (n + c))))
 | _=>none
theorem zpY {w w':List (List D)} {x y c:Int} (h:upAt w x y c=some w'):∃j row k n,ixN w.length x=some j/\w[j]? = some row/\ixN row.length y=some k/\row[k]? = some (.int n)/\w'=w.set j (row.set k (.int (n + c))):=by
 unfold upAt at h
 cases e1:ixN w.length x with
 | none=>rw [e1] at h; cases h
 | some j=>
  rw [e1] at h
  simp only [Option.bind_some] at h
  cases e2:w[j]? with
  | none=>rw [e2] at h; cases h
  | some row=>
   rw [e2] at h
   simp only [Option.bind_some] at h
   cases e3:ixN row.length y with
   | none=>rw [e3] at h; cases h
   | some k=>
    rw [e3] at h
    simp only [Option.bind_some] at h
    cases e4:row[k]? with
    | none=>rw [e4] at h; cases h
    | some d=>
     rw [e4] at h
     cases d with
     | int n=>cases h; exact ⟨j,row,k,n,rfl,e2,e3,e4,rfl⟩
     | _=>cases h
def zoI (a b:Nat) (c:Int):FS2:=fun r w=>match r[a]?,r[b]? with
 | some (some (.int x)),some (some (.int y))=>(upAt w x y c).map fun w'=>(r,w')
 | _,_=>none
section
variable {X:Cx} {g:GE} {i:Nat} {m m' m1:List Md} {r r':Rho} {w:List (List D)} {G G':GH} {σ σ':L2.St} {H H':Hp}
theorem SI.row {p:Addr} {as:List Addr} (R:LRw X.K G H p as w) (si:SI X (zdq g H (p::as) i p) m r G σ H) (hm:m[i]? = some .bw) (hb:∀j,j≠i->m[j]?≠some .bw) {b:Addr} (hbm:b∈p::as) (o:HO):SI X (zdq g (upd H b o) (p::as) i p) m r G σ (upd H b o):=by
 have un:=R.un b hbm
 have h0':∀c,c∉p::as->(zdq g H (p::as) i p).h0 c=g.h0 c:=fun c hc=>by show (if c∈p::as then H c else g.h0 c)=_; rw [if_neg hc]
 have h0i:∀c,c∈p::as->(zdq g H (p::as) i p).h0 c=H c:=fun c hc=>by show (if c∈p::as then H c else g.h0 c)=_; rw [if_pos hc]
 have k0':∀c,c∉p::as->(zdq g (upd H b o) (p::as) i p).h0 c=g.h0 c:=fun c hc=>by show (if c∈p::as then _ else g.h0 c)=_; rw [if_neg hc]
 have k0i:∀c,c∈p::as->(zdq g (upd H b o) (p::as) i p).h0 c=upd H b o c:=fun c hc=>by show (if c∈p::as then upd H b o c else g.h0 c)=_; rw [if_pos hc]
 refine ⟨fun c d e=>?_,fun c u e=>?_,si.ge,fun c h=>?_,si.lm,si.lr,si.sh,fun j d h1 h2=>?_,fun j d h1 h2=>?_,si.dis,si.lk⟩
 ·have hc:c≠b:=by rintro rfl; rw [un] at e; cases e
  exact (si.gok c d e).mono (fun _ _ z=>z) fun u z=>by rw [zaq hc]; exact z
 ·by_cases hc:c∈p::as
  ·rw [k0i c hc] at e; exact e
  ·rw [k0' c hc] at e
   have hcb:c≠b:=by rintro rfl; exact hc hbm
   rw [zaq hcb]
   exact si.old c u (by rw [h0' c hc]; exact e)
 ·by_cases hc:c∈p::as
  ·exact si.gf c (by rw [h0i c hc]; exact R.isS hc)
  ·rw [k0' c hc] at h
   exact si.gf c (by rw [h0' c hc]; exact h)
 ·obtain ⟨a,q1,q2,q3⟩:=si.ow j d h1 h2
  have ha:a∉p::as:=fun z=>by rw [h0i a z] at q3; exact R.isS z q3
  have hab:a≠b:=by rintro rfl; exact ha hbm
  rw [h0' a ha] at q3
  exact ⟨a,q1,⟨q2.un,q2.ob.mono (fun _ _ z=>z) fun u z=>by rw [zaq hab]; exact z⟩,by rw [k0' a ha]; exact q3⟩
 ·by_cases hj:j=i
  ·subst hj
   have:=(si.lk j (some (V.ref p),none) (by show (if j=j then _ else _)=_; rw [if_pos rfl]) hm).2 d h1
   cases this
  ·exact absurd h2 (hb j hj)
variable {ro:Bool} {mb:List Md} {pos p1 p2 p3 p4 p5 p6 p7 p8 p9 p10 p11:Pos} {x xa xb:Str} {jc:Nat}
theorem zrU (a b:Nat) (c:Int) (hm:m[i]? = some .bw) (hb:∀j,j≠i->m[j]?≠some .bw) (hma:m[a]? = some .sh) (hmb:m[b]? = some .sh) (hN:X.N[i]? = some x) (hv:Vis X.env.scope x) (hNa:X.N[a]? = some xa) (hva:Vis X.env.scope xa) (hNb:X.N[b]? = some xb) (hvb:Vis X.env.scope xb)
  (hd:(x == ("__debug__" : Str))=false:=by decide) (hcd:(x == ("__classdict__" : Str))=false:=by decide) (hda:(xa == ("__debug__" : Str))=false:=by decide) (hcda:(xa == ("__classdict__" : Str))=false:=by decide) (hdb:(xb == ("__debug__" : Str))=false:=by decide) (hcdb:(xb == ("__classdict__" : Str))=false:=by decide)
  (hpa:zg2 (.Name xa p2):=by intro _ _; rfl) (hpb:zg2 (.Name xb p4):=by intro _ _; rfl) (hpa':zg2 (.Name xa p7):=by intro _ _; rfl)
  (ha:∀v,assign (.Subscript (.Subscript (.Name x p6) (.Name xa p7) p8) (.Name xb p9) p10) X.env v=(do
   let ov <-holding [v] (eval (.Subscript (.Name x p6) (.Name xa p7) p8) X.env)
   let iv <-holding [v,ov] (eval (.Name xb p9) X.env)
   standAt p10
   holding [v,ov,iv] (setItem ov iv v)
   release [v,ov,iv] []):=by intro _; rfl)
  (hs:swapsWithSole [.Subscript (.Subscript (.Name x p6) (.Name xa p7) p8) (.Name xb p9) p10] (.BinOp (.Subscript (.Subscript (.Name x p1) (.Name xa p2) p3) (.Name xb p4) p5) .Add (.Constant (.int c) jc p11) mp) pos.line X.env=pure false:=by rfl)
  (hw:swappedStores [.Subscript (.Subscript (.Name x p6) (.Name xa p7) p8) (.Name xb p9) p10] (.BinOp (.Subscript (.Subscript (.Name x p1) (.Name xa p2) p3) (.Name xb p4) p5) .Add (.Constant (.int c) jc p11) mp) X.env=pure none:=by rfl)
  (h1:(assignEach [.Subscript (.Subscript (.Name x p6) (.Name xa p7) p8) (.Name xb p9) p10] X.env).map (·.2)=[assign (.Subscript (.Subscript (.Name x p6) (.Name xa p7) p8) (.Name xb p9) p10) X.env]:=by rfl) :
  SS2 X g i m (.Assign [.Subscript (.Subscript (.Name x p6) (.Name xa p7) p8) (.Name xb p9) p10] (.BinOp (.Subscript (.Subscript (.Name x p1) (.Name xa p2) p3) (.Name xb p4) p5) .Add (.Constant (.int c) jc p11) mp) pos) (zoI a b c) m:=by
 refine PS.imp (zpm (zsg zmJ (zof zh8 (zof zh8 (zea hN hv hd hcd) (zea hNa hva hda hcda) hpa) (zea hNb hvb hdb hcdb) hpb) zpp) (zpo (zof zh8 (zea hN hv hd hcd) (zea hNa hva hda hcda) hpa') (zea hNb hvb hdb hcdb) zkg ha) hs hw h1) fun D0 σ H ⟨r,w,G,⟨p,as,R,h0,si,_⟩,r',w',e,k⟩=>?_
 have hst:σ[i]? = some (some (V.ref p)):=(si.lk i (some (V.ref p),none) (by show (if i=i then _ else _)=_; rw [if_pos rfl]) hm).1
 unfold zoI at e
 cases ea:r[a]? with
 | none=>simp only [ea] at e; cases e
 | some oa=>cases oa with
  | none=>simp only [ea] at e; cases e
  | some da=>
   cases eb:r[b]? with
   | none=>simp only [ea,eb] at e; cases da <;> cases e
   | some ob=>cases ob with
    | none=>simp only [ea,eb] at e; cases da <;> cases e
    | some db=>
     simp only [ea,eb] at e
     cases da with
     | int va=>cases db with
      | int vb=>
       simp only [] at e
       cases eu:upAt w va vb c with
       | none=>rw [eu] at e; cases e
       | some w1=>
        rw [eu] at e
        cases e
        obtain ⟨j,row,k1,n,z1,z2,z3,z4,rfl⟩:=zpY eu
        obtain ⟨ua,sa,ra⟩:=si.sh a _ ea hma
        obtain ⟨ub,sb,rb⟩:=si.sh b _ eb hmb
        have ra:=ra.int si.gok
        have rb:=rb.int si.gok
        subst ra
        subst rb
        obtain ⟨q,hq,xs,hx,rs⟩:=Paired.get R.rw z2
        have hl:(as.map V.ref).length=w.length:=by rw [List.length_map]; exact Paired.length R.rw
        have at1:atI (as.map V.ref) va=some (V.ref q):=by
         unfold atI
         rw [hl,z1]
         show (as.map V.ref)[j]? = _
         rw [List.getElem?_map,hq]; rfl
        obtain ⟨vn,hvn,rn⟩:=Paired.get rs z4
        have rn:=rn.int si.gok
        subst rn
        have hlx:=Paired.length rs
        have at2:atI xs vb=some (V.int n):=by
         unfold atI
         rw [hlx,z3]; exact hvn
        have hqm:q∈as:=List.mem_of_getElem? hq
        have nd:=List.nodup_cons.mp R.nd
        have hqp:q≠p:=by rintro rfl; exact nd.1 hqm
        refine ⟨_,hst,_,sa,p,_,va,_,rfl,rfl,SqL.of R.out,at1,_,sb,q,xs,vb,_,rfl,rfl,SqL.of hx,at2,n,c,rfl,rfl,?_⟩
        refine ⟨_,hst,_,sa,p,_,va,_,rfl,rfl,SqL.of R.out,at1,_,sb,q,xs,vb,k1,rfl,rfl,hx,by rw [hlx]; exact z3,?_⟩
        refine k σ G _ (Gle.refl G) ⟨p,as,⟨by rw [zaq (Ne.symm hqp)]; exact R.out,R.nd,R.un,?_⟩,h0,SI.row R si hm hb (List.mem_cons_of_mem _ hqm) _,hm⟩
        refine zoj R.rw nd.2 hq ⟨_,zam,Paired.st (.scl (.int _)) _ rs⟩ fun b' x' hne ⟨xs',e1,e2⟩=>⟨xs',by rw [zaq hne]; exact e1,e2⟩
      | _=>cases e
     | _=>cases e
end
def lessA (H:Hp) (a:Addr):Hp:=fun b=>if b=a then none else H b
theorem zoA {H:Hp} {a b:Addr} (h:b≠a):lessA H a b=H b:=if_neg h
theorem Grow.lessA {K:W.Frag} {G G' G2:GH} {H H' H2:Hp} {a:Addr} (w:Grow K G H G' H') (ha:H a=none) (w2:Grow K G' (lessA H' a) G2 H2):Grow K G H G2 H2:=by
 have ne:∀b,H b≠none->b≠a:=fun b h=>by rintro rfl; exact h ha
 have he:∀b o,H b=some o->DL.lessA H' a b=some o:=fun b o e=>by rw [zoA (ne b (by rw [e]; simp))]; exact w.he b o e
 refine ⟨w2.ok,fun b o e=>w2.he b o (he b o e),fun b d e=>w2.ge b d (w.ge b d e),fun b h=>?_⟩
 rw [w2.gf b ?_,w.gf b h]
 cases e:H b with
 | none=>exact absurd e h
 | some o=>rw [he b o e]; simp
def spV (K:W.Frag) (ro:Bool) (ms:List Md) (F:List D->Res D):Sp:=fun vs H Q _=>∃G us a ds d,GOk K G H/\vs=us++[V.ref a]/\ArgsOk K G H ms us ds/\Own K G H a d /\
 fin (F (ds++[d])) (fun d'=>∀v G' H',Grow K G (lessA H a) G' H'->RV ro K (lessA H a) G' H' v d'->Q v H') fun _=>False
section
variable {P:Program} {w:World} {K:W.Frag} {mg:Str->Option Value} {base:Heap}
structure CalleeV (P:Program) (w:World) (K:W.Frag) (mg:Str->Option Value) (base:Heap) (x:Str) (ps:List Str) (k:Nat) (ro:Bool) (ms:List Md) (F:List D->Res D):Prop where
 ex:∃f fd,mg x=some (.ref f)/\W.keepIn K (.ref f)=true/\zhh K fd ps []/\FnOk P w K mg base CX0 k f fd ps (spV K ro ms F)
end
inductive Cln:D->Prop where
 | non:Cln .non
 | bl (b:Bool):Cln (.bl b)
 | int (i:Int):Cln (.int i)
 | str (x:Str):Cln (.str x)
 | tup {ds:List D}:(∀d∈ds,Cln d)->Cln (.tup ds)
theorem Cln.lst {ds:List D} (h:Cln (.lst ds)):False:=nomatch h
theorem Cln.dic {ds:List (Key × D)} (h:Cln (.dic ds)):False:=nomatch h
theorem Cln.get {ds:List D} (h:Cln (.tup ds)):∀d∈ds,Cln d:=by
 cases h with
 | tup h=>exact h
structure TL (K:W.Frag) (G:GH) (H:Hp) (p a:Addr) (d1:D) (ds:List D):Prop where
 tp:∃x xs,H p=some (.tup [x,.ref a])/\RG K G x d1/\H a=some (.lst xs)/\RGs K G xs ds
 un:∀b∈[p,a],G b=none
 ne:p≠a
theorem TL.isS {K:W.Frag} {G:GH} {H:Hp} {p a:Addr} {d1:D} {ds:List D} (t:TL K G H p a d1 ds):∀b∈[p,a],H b≠none:=fun b hb=>by
 obtain ⟨x,xs,h1,_,h2,_⟩:=t.tp
 rcases List.mem_cons.mp hb with rfl | hb
 ·rw [h1]; simp
 ·rw [List.mem_singleton.mp hb,h2]; simp
def RW (K:W.Frag) (H0:Hp) (G:GH) (H:Hp) (v:V) (d:D):Prop:=∃p a d1 ds,v=.ref p/\d=.tup [d1,.lst ds]/\(∀b∈[p,a],H0 b=none)/\TL K G H p a d1 ds
def spW (K:W.Frag) (ms:List Md) (F:List D->Res D):Sp:=fun vs H Q _=>∃G ds,GOk K G H/\ArgsOk K G H ms vs ds/\fin (F ds) (fun d=>∀v G' H',Grow K G H G' H'->RW K H G' H' v d->Q v H') fun _=>False
abbrev FW:=Rho->Res D
section
variable {P:Program} {w:World} {K:W.Frag} {mg:Str->Option Value} {base:Heap}
structure CalleeW (P:Program) (w:World) (K:W.Frag) (mg:Str->Option Value) (base:Heap) (x:Str) (ps:List Str) (k:Nat) (ms:List Md) (F:List D->Res D):Prop where
 ex:∃f fd,mg x=some (.ref f)/\W.keepIn K (.ref f)=true/\zhh K fd ps []/\FnOk P w K mg base CX0 k f fd ps (spW K ms F)
end
section
variable {X:Cx} {g:GE} {ro:Bool} {i:Nat} {m m' m1 mb ms:List Md} {r r':Rho} {G G':GH} {σ σ':L2.St} {H H':Hp} {e c:Expr} {es:List Expr} {q:FQ} {st:Stmt} {sts sts1:List Stmt} {fl:Rho->Res (List D)} {F:List D->Res D} {k:Nat} {ps:List Str} {pos p1 p2 p3 p4 apos cpos:Pos} {x y:Str} {d1:D} {ds:List D}
def SI3 (X:Cx) (g:GE) (i:Nat) (m:List Md) (r:Rho) (d1:D) (ds:List D) (G:GH) (st:L2.St) (H:Hp):Prop:=
 ∃p a,TL X.K G H p a d1 ds/\(∀b∈[p,a],g.h0 b=none)/\SI X (zdq g H [p,a] i p) m r G st H/\m[i]? = some .bw
theorem SI3.frz (s:SI3 X g i m r d1 ds G σ H) (hb:∀j,j≠i->m[j]?≠some .bw):∃G',Gle G G'/\(∀b d,G b=none->G' b=some d->¬ Cln d)/\SI X g (m.set i .sh) (r.set i (some (.tup [d1,.lst ds]))) G' σ H:=by
 obtain ⟨p,a,t,h0,si,hm⟩:=s
 obtain ⟨x,xs,h1,h2,h3,h4⟩:=t.tp
 have ua:=t.un a (List.mem_cons_of_mem _ List.mem_cons_self)
 have up:=t.un p List.mem_cons_self
 have g1:GOk X.K (gset G a (.lst ds)) H:=si.gok.gset ua (.lst (.inl h3) h4)
 have up1:gset G a (.lst ds) p=none:=by rw [zbv t.ne]; exact up
 have g2:GOk X.K (gset (gset G a (.lst ds)) p (.tup [d1,.lst ds])) H:=g1.gset up1 (.tup (.inl h1) (.cons (h2.mono (zbb ua)) (.cons (.ref zaz) .nil)))
 refine ⟨_,Gle.trans (zbb ua) (zbb up1),fun b d hn e hc=>?_,zkJ si hm h0 t.isS hb (Gle.trans (zbb ua) (zbb up1)) g2 (fun b hb=>?_) zaz⟩
 ·by_cases hbp:b=p
  ·subst hbp; rw [zaz] at e; cases e
   exact (hc.get _ (List.mem_cons_of_mem _ List.mem_cons_self)).lst
  ·rw [zbv hbp] at e
   by_cases hba:b=a
   ·subst hba; rw [zaz] at e; cases e; exact hc.lst
   ·rw [zbv hba,hn] at e; cases e
 ·rw [zbv (by rintro rfl; exact hb List.mem_cons_self),zbv (by rintro rfl; exact hb (List.mem_cons_of_mem _ List.mem_cons_self))]
end
end DL
section
namespace DL
section
open PySem PyProof.Rows PySem.W PySem.Calls
variable {prog:Program} {w:World} {A:Around} {E:Value->Shared->Prop} {s:Shared} {l:Addr} {vs:List Value} {ns:List Int}
end
open PySem PySem.Spec PyProof.Rows L2
end DL
end
section
namespace DL
section
open PySem PyProof.Rows
variable {prog:Program} {w:World} {A:Around} {R:Result->Shared->Prop} {I S:Addr} {fp wr:List Addr} {n:Nat} {P:Nat->Value->Prop} {St:Nat->Heap->Prop} {TP:Heap->Prop} {bt:Nat->Nat->Bool}
def zk1 (wr:List Addr) (S:Addr) (h h':Heap):Prop:=∀b o,b∉wr->b≠S->h.get? b=some o->h'.get? b=some o
theorem zk1.trans {h h1 h2:Heap} (a:zk1 wr S h h1) (b:zk1 wr S h1 h2):zk1 wr S h h2:=fun c o hc hs e=>b c o hc hs (a c o hc hs e)
end
end DL
end
namespace DL
open PySem PySem.Spec PyProof.Rows L2
end DL
namespace DL
open PySem PySem.Spec PyProof.Rows L2 PySem.W PySem.Calls
def spX (K:W.Frag) (ro:Bool) (ms:List Md) (F:List D->Res D):Sp:=fun vs H Q E=>∃G ds,GOk K G H/\ArgsOk K G H ms vs ds /\
 fin (F ds) (fun d=>∀v G' H',Grow K G H G' H'->RV ro K H G' H' v d->Q v H') fun x=>∀C od nm fs G' H',x=xD nm fs->XN K nm C->XF G' od fs->Grow K G H G' H'->E (.ref C) od H'
section
variable {P:Program} {w:World} {K:W.Frag} {mg:Str->Option Value} {base:Heap}
structure CalleeX (P:Program) (w:World) (K:W.Frag) (mg:Str->Option Value) (base:Heap) (x:Str) (ps:List Str) (ds:List Value) (k:Nat) (ro:Bool) (ms:List Md) (F:List D->Res D):Prop where
 ex:∃f fd,mg x=some (.ref f)/\W.keepIn K (.ref f)=true/\zhh K fd ps ds/\FnOk P w K mg base (CXR P w) k f fd ps (spX K ro ms F)
end
def XO (K:W.Frag) (C:Addr) (bm:List Value):Prop:=∃N nm q bs hdct sn sub ab col dd k0 k1 k2 k3 k5 newId,K.lookup C=some (excClassObj nm q C N bs bm hdct sn sub ab col dd k0 k1 k2 k3 k5 newId)
abbrev _root_.L2.Cx.tr (X:Cx) (ps:List (Addr × Obj)) (E:Value->Shared->Prop):Cx:={ X with pn:=ps,xe:=E }
section
variable {X:Cx} {pz pins':List (Addr × Obj)} {σ:L2.St} {H:Hp} {s:Shared} {E:Value->Shared->Prop}
theorem Inv.tr (I:Inv X pz σ H s) (E:Value->Shared->Prop):Inv (X.tr (X.pn++pz) E) [] σ H s:=
 ⟨⟨I.ok.mod,I.ok.kind,I.ok.glob,I.ok.blt,I.ok.above,I.ok.inj,I.ok.has,I.ok.cab,I.ok.hd,I.ok.frames,I.ok.stk,I.ok.exf,I.ok.bs,I.ok.bsz,I.ok.noex,I.ok.exfs,I.ok.funs,I.ok.frf⟩,I.os,I.bare,I.base,I.loc,I.cell,I.free,I.freeC,fun p hp=>I.pin p (by rw [List.append_nil] at hp; exact hp),I.hok,I.len⟩
end
structure XA (K:W.Frag) (C:Addr) (bm:List Value):Prop where
 ob:XO K C bm
 be:bm.contains (Value.type "BaseException")=true
 bo:bm.contains (Value.type "object")=true
 ga:findIn K (.ref C) "__getattribute__" = some (some (.builtin "BaseException.__getattribute__"))
 gn:findIn K (.ref C) "__getattr__" = some none
 gc:findIn K (.ref C) "__class__" = some (some (.builtin "object.__class__"))
 gg:specialIn K (.builtin "object.__class__") "__get__" = some (some (.builtin "getset_descriptor.__get__"))
 gt:takesIn K (.builtin "object.__class__")=some true
structure IsxOk (K:W.Frag) (c:Value) (tab:Str->Option Bool):Prop where
 no:kitOne K (.type "NoneType") c=some false
 ex:∀nm b C,tab nm=some b->XN K nm C->∃bm,XA K C bm/\kitOne K (.ref C) c=some b
section
variable {X:Cx} {g:GE} {m:List Md} {e:Expr} {f:FE} {pos p p2:Pos}
theorem RB.exc {K:W.Frag} {G:GH} {H:Hp} {v:V} {k:Str} {nm:Str} {ds:List (Str × D)} (gk:GOk K G H) (h:RB K G H v (.obj 0 ((k,.str nm)::ds))):∃a C od,v=.ref a/\H a=some (.ext (XcO a C od))/\XN K nm C:=by
 rcases h with h | ⟨a,rfl,h⟩
 ·cases h with
  | scl s=>cases s
  | ref e=>
   cases gk _ _ e with
   | exc r n f=>exact ⟨_,_,_,rfl,r,n⟩
  | kc k=>cases k
 ·cases h.ob
end
def unIn (K:W.Frag) (nm:Str) (c:Addr):Bool:=K.all fun e=>match e.2.data with
 | .cls cd=>cd.name != nm || e.1 == c
 | _=>true
structure CF (K:W.Frag) (nm:Str) (c:Addr) (bm:List Value):Prop where
 xa:XA K c bm
 xn:XN K nm c
 un:unIn K nm c=true
end DL
namespace DL
open PySem PySem.Spec PyProof.Rows L2 PySem.W PySem.Calls PySem.Builtin PySem.Builtin.Str
end DL
namespace BS
open PySem PyProof.Rows
abbrev SM:=StateT SortSt Sem
def zgS:Bool->Keyed->Array Keyed->Nat->Nat->Nat->SM (Option Nat):=sortPriv% PySem.Builtin.gallop
def zov:Array Keyed->Array Keyed->SM (Array Keyed):=sortPriv% PySem.Builtin.mergeLo
def zow:Array Keyed->Array Keyed->SM (Array Keyed):=sortPriv% PySem.Builtin.mergeHi
def zrL:Nat->SM Unit:=sortPriv% PySem.Builtin.setMinGallop
structure Ord (S:Keyed->Prop) (lt:Keyed->Keyed->Bool):Prop where
 asym:∀{x y},S x->S y->lt x y=true->lt y x=false
 tr:∀{x y z},S x->S y->S z->lt y x=false->lt z y=false->lt z x=false
section
variable {M:Model} {A:Around} {E:Value->Shared->Prop} {s:Shared} {κ:SortKind} {S:Keyed->Prop} {lt:Keyed->Keyed->Bool}
structure Cmp (M:Model) (A:Around) (E:Value->Shared->Prop) (s:Shared) (κ:SortKind) (S:Keyed->Prop) (lt:Keyed->Keyed->Bool):Prop where
 ask:∀{x y:Keyed} {st:SortSt} {Q:Option Bool->SortSt->Prop},S x->S y->kindOf st = κ->Q (some (lt x y)) st->wpS M A E s (lt' x y) Q st
theorem zaN {arr:Array Keyed} {i:Nat} {x:Keyed} {st:SortSt} {Q:Keyed->SortSt->Prop} (h:arr[i]? = some x) (q:Q x st):wpS M A E s (elem' arr i) Q st:=by
 rw [elem'_eq,h]
 exact wpS_pure q
def beyP (left:Bool) (key:Keyed) (arr:Array Keyed) (base i:Nat):SM (Option Bool):=do
 let x <-elem' arr (base + i)
 if left then lt' x key else return (<-lt' key x).map (!·)
def fst (lt:Keyed->Keyed->Bool) (left:Bool) (key:Keyed) (l:List Keyed) (i:Nat):Bool:=match l[i]? with
 | some x=>if left=true then lt x key else ! lt key x
 | none=>false
variable {left:Bool} {key:Keyed} {arr:Array Keyed} {base n hint:Nat} {l:List Keyed} {st:SortSt}
structure Part (S:Keyed->Prop) (arr:Array Keyed) (base n:Nat) (l:List Keyed):Prop where
 len:l.length=n
 at':∀i,i < n->arr[base + i]? = l[i]?
 all:∀x∈l,S x
theorem zkV (C:Cmp M A E s κ S lt) (P:Part S arr base n l) (hk:S key) (hκ:kindOf st = κ) {i:Nat} (hi:i < n) {Q:Option Bool->SortSt->Prop} (q:Q (some (fst lt left key l i)) st):wpS M A E s (beyP left key arr base i) Q st:=by
 have hl:i < l.length:=by rw [P.len]; exact hi
 have e:l[i]? = some l[i]:=List.getElem?_eq_getElem hl
 have e2:fst lt left key l i=if left=true then lt l[i] key else ! lt key l[i]:=by unfold fst; rw [e]
 rw [e2] at q
 unfold beyP
 refine wpS_bind (zaN ((P.at' i hi).trans e) ?_)
 have hS:=P.all _ (List.getElem_mem hl)
 cases left with
 | true=>exact C.ask hS hk hκ q
 | false=>exact wpS_bind (C.ask hk hS hκ (wpS_pure q))
theorem zkU (C:Cmp M A E s κ S lt) (P:Part S arr base n l) (hk:S key) (hκ:kindOf st = κ) {f:Nat->Option (Option Nat) × Nat × Nat->SM (ForInStep (Option (Option Nat) × Nat × Nat))}
  (hf:∀x lo hi,f x (none,lo,hi)=if lo >= hi then pure (.done (none,lo,hi)) else do
   let r <-beyP left key arr base (lo + (hi - lo) / 2)
   match r with
   | some more=>if more=true then pure (.yield (none,lo + (hi - lo) / 2 + 1,hi)) else pure (.yield (none,lo,lo + (hi - lo) / 2))
   | _=>pure (.done (some none,lo,hi)))
  (mono:∀i j,i<=j->fst lt left key l j=true->fst lt left key l i=true)
  {lo hi:Nat} (h1:∀i,i < lo->fst lt left key l i=true) (h2:∀i,hi<=i->fst lt left key l i=false) (hn:hi<=n) {Q:Option (Option Nat) × Nat × Nat->SortSt->Prop}
  (q:∀lo k,k<=n->(∀i,i < k->fst lt left key l i=true)->(∀i,k<=i->fst lt left key l i=false)->Q (none,lo,k) st):wpS M A E s (forIn [0:n] (none,lo,hi) f) Q st:=by
 refine wpS_forRange (I:=fun t c st'=>st'=st/\∃lo hi,c=(none,lo,hi)/\(∀i,i < lo->fst lt left key l i=true)/\(∀i,hi<=i->fst lt left key l i=false)/\hi<=n/\hi<=lo + (n - t)) ?_ ?_ ⟨rfl,lo,hi,rfl,h1,h2,hn,by omega⟩
 ·rintro t c st' _ ht ⟨rfl,lo,hi,rfl,h1,h2,hn,hd⟩
  rw [hf]
  by_cases hge:lo >= hi
  ·rw [if_pos hge]
   exact wpS_pure (q lo hi hn (fun i hi'=>h1 i (by omega)) h2)
  ·rw [if_neg hge]
   refine wpS_bind (zkV C P hk hκ (by omega) ?_)
   cases e:fst lt left key l (lo + (hi - lo) / 2) with
   | true=>exact wpS_pure ⟨rfl,_,_,rfl,fun i hi'=>mono i _ (by omega) e,h2,hn,by omega⟩
   | false=>
    refine wpS_pure ⟨rfl,_,_,rfl,h1,fun i hi'=>?_,by omega,by omega⟩
    cases e2:fst lt left key l i with
    | false=>rfl
    | true=>rw [mono _ _ hi' e2] at e; cases e
 ·rintro c st' ⟨rfl,lo,hi,rfl,h1,h2,hn,hd⟩
  exact q lo hi hn (fun i hi'=>h1 i (by omega)) h2
theorem zdv (C:Cmp M A E s κ S lt) (P:Part S arr base n l) (hk:S key) (hκ:kindOf st = κ) (hh:hint < n) (mono:∀i j,i<=j->fst lt left key l j=true->fst lt left key l i=true) {Q:Option Nat->SortSt->Prop}
  (q:∀k,k<=n->(∀i,i < k->fst lt left key l i=true)->(∀i,k<=i->fst lt left key l i=false)->Q (some k) st):wpS M A E s (zgS left key arr base n hint) Q st:=by
 have out:∀i,n<=i->fst lt left key l i=false:=fun i hi=>by unfold fst; rw [List.getElem?_eq_none (by rw [P.len]; exact hi)]
 have anti:∀i j,i<=j->fst lt left key l i=false->fst lt left key l j=false:=fun i j hij h=>by
  cases e:fst lt left key l j with
  | false=>rfl
  | true=>rw [mono i j hij e] at h; cases h
 refine wpS_bind (zkV (left:=left) C P hk hκ hh ?_)
 dsimp only
 cases e:fst lt left key l hint with
 | true=>
  rw [if_pos rfl]
  refine wpS_bind (wpS_mono (wpS_forRange (I:=fun t c st'=>st'=st/\∃l0 o,c=(none,l0,o)/\t + 1<=o/\hint + l0 < n/\fst lt left key l (hint + l0)=true)
   (Q:=fun c st'=>st'=st/\∃l0 o,c=(none,l0,o)/\hint + l0 < n/\fst lt left key l (hint + l0)=true/\(n<=hint + o\/fst lt left key l (hint + o)=false)) ?step ?fin ⟨rfl,0,1,rfl,by omega,hh,e⟩) ?post)
  case step=>
   rintro t c st' _ ht ⟨rfl,l0,o,rfl,i1,i2,i3⟩
   dsimp only
   by_cases hge:o >= n - hint
   ·rw [if_pos hge]
    exact wpS_pure ⟨rfl,l0,o,rfl,i2,i3,.inl (by omega)⟩
   ·rw [if_neg hge]
    refine wpS_bind (zkV (left:=left) C P hk hκ (by omega) ?_)
    cases e2:fst lt left key l (hint + o) with
    | true=>exact wpS_pure ⟨rfl,_,_,rfl,by omega,by omega,e2⟩
    | false=>exact wpS_pure ⟨rfl,l0,o,rfl,i2,i3,.inr e2⟩
  case fin=>
   rintro c st' ⟨rfl,l0,o,rfl,i1,i2,i3⟩
   exact ⟨rfl,l0,o,rfl,i2,i3,.inl (by omega)⟩
  case post=>
   rintro c st' ⟨rfl,l0,o,rfl,i2,i3,i4⟩
   dsimp only
   refine wpS_bind (zkU (left:=left) C P hk hκ (fun _ _ _=>rfl) mono (fun i hi=>mono i _ (by omega) i3) (fun i hi=>?_) (by omega) fun lo k k1 k2 k3=>wpS_pure (q k k1 k2 k3))
   rcases i4 with i4 | i4
   ·exact out i (by omega)
   ·by_cases hin:n<=i
    ·exact out i hin
    ·exact anti _ i (by omega) i4
 | false=>
  rw [if_neg (by simp)]
  refine wpS_bind (wpS_mono (wpS_forRange (I:=fun t c st'=>st'=st/\∃l0 o,c=(none,l0,o)/\t + 1<=o/\l0<=hint/\fst lt left key l (hint - l0)=false)
   (Q:=fun c st'=>st'=st/\∃l0 o,c=(none,l0,o)/\l0<=hint/\fst lt left key l (hint - l0)=false/\(hint + 1<=o\/fst lt left key l (hint - o)=true)) ?step ?fin ⟨rfl,0,1,rfl,by omega,by omega,e⟩) ?post)
  case step=>
   rintro t c st' _ ht ⟨rfl,l0,o,rfl,i1,i2,i3⟩
   dsimp only
   by_cases hge:o >= hint + 1
   ·rw [if_pos hge]
    exact wpS_pure ⟨rfl,l0,o,rfl,i2,i3,.inl (by omega)⟩
   ·rw [if_neg hge]
    refine wpS_bind (zkV (left:=left) C P hk hκ (by omega) ?_)
    cases e2:fst lt left key l (hint - o) with
    | false=>exact wpS_pure ⟨rfl,_,_,rfl,by omega,by omega,e2⟩
    | true=>exact wpS_pure ⟨rfl,l0,o,rfl,i2,i3,.inr e2⟩
  case fin=>
   rintro c st' ⟨rfl,l0,o,rfl,i1,i2,i3⟩
   exact ⟨rfl,l0,o,rfl,i2,i3,.inl (by omega)⟩
  case post=>
   rintro c st' ⟨rfl,l0,o,rfl,i2,i3,i4⟩
   dsimp only
   refine wpS_bind (zkU (left:=left) C P hk hκ (fun _ _ _=>rfl) mono (fun i hi=>?_) (fun i hi=>anti _ i hi i3) (by omega) fun lo k k1 k2 k3=>wpS_pure (q k k1 k2 k3))
   rcases i4 with i4 | i4
   ·omega
   ·exact mono i _ (by omega) i4
end
section
variable {M:Model} {A:Around} {E:Value->Shared->Prop} {s:Shared} {κ:SortKind} {S:Keyed->Prop} {lt:Keyed->Keyed->Bool}
abbrev Srt (lt:Keyed->Keyed->Bool) (l:List Keyed):Prop:=l.Pairwise fun x y=>lt y x=false
abbrev Le (lt:Keyed->Keyed->Bool) (l k:List Keyed):Prop:=∀x∈l,∀y∈k,lt y x=false
structure MI (lt:Keyed->Keyed->Bool) (T o ra rb:List Keyed):Prop where
 perm:(o++ra++rb).Perm T
 srt:Srt lt o
 la:Le lt o ra
 lb:Le lt o rb
variable {T o p ra rb:List Keyed}
theorem zaC {l k:List Keyed}:Srt lt (l++k)↔Srt lt l/\Srt lt k/\Le lt l k:=List.pairwise_append
theorem zfN {l k k':List Keyed}:Le lt l (k++k')↔Le lt l k/\Le lt l k':=⟨fun h=>⟨fun x hx y hy=>h x hx y (List.mem_append_left _ hy),fun x hx y hy=>h x hx y (List.mem_append_right _ hy)⟩,fun h x hx y hy=>(List.mem_append.mp hy).elim (h.1 x hx y) (h.2 x hx y)⟩
theorem zd5 {l l' k:List Keyed}:Le lt (l++l') k↔Le lt l k/\Le lt l' k:=⟨fun h=>⟨fun x hx=>h x (List.mem_append_left _ hx),fun x hx=>h x (List.mem_append_right _ hx)⟩,fun h x hx=>(List.mem_append.mp hx).elim (h.1 x) (h.2 x)⟩
theorem MI.moveA (h:MI lt T o (p++ra) rb) (hs:Srt lt (p++ra)) (hl:Le lt p rb):MI lt T (o++p) ra rb where
 perm:=by have:=h.perm; rwa [<-List.append_assoc] at this
 srt:=zaC.mpr ⟨h.srt,(zaC.mp hs).1,(zfN.mp h.la).1⟩
 la:=zd5.mpr ⟨(zfN.mp h.la).2,(zaC.mp hs).2.2⟩
 lb:=zd5.mpr ⟨h.lb,hl⟩
theorem MI.moveB (h:MI lt T o ra (p++rb)) (hs:Srt lt (p++rb)) (hl:Le lt p ra):MI lt T (o++p) ra rb where
 perm:=by
  refine List.Perm.trans ?_ h.perm
  simp only [List.append_assoc]
  refine List.Perm.append_left o ?_
  rw [<-List.append_assoc,<-List.append_assoc]
  exact List.Perm.append_right rb List.perm_append_comm
 srt:=zaC.mpr ⟨h.srt,(zaC.mp hs).1,(zfN.mp h.lb).1⟩
 la:=zd5.mpr ⟨h.la,hl⟩
 lb:=zd5.mpr ⟨(zfN.mp h.lb).2,(zaC.mp hs).2.2⟩
def Done (lt:Keyed->Keyed->Bool) (T r:List Keyed):Prop:=Srt lt r/\r.Perm T
theorem MI.fin (h:MI lt T o ra rb) (ha:Srt lt ra) (hb:Srt lt rb) (hl:Le lt ra rb):Done lt T (o++ra++rb):=
 ⟨zaC.mpr ⟨zaC.mpr ⟨h.srt,ha,h.la⟩,hb,zd5.mpr ⟨h.lb,hl⟩⟩,h.perm⟩
theorem MI.fin2 (h:MI lt T o ra rb) (ha:Srt lt ra) (hb:Srt lt rb) (hl:Le lt rb ra):Done lt T (o++rb++ra):=
 ⟨zaC.mpr ⟨zaC.mpr ⟨h.srt,hb,h.lb⟩,ha,zd5.mpr ⟨h.la,hl⟩⟩,by
  refine List.Perm.trans ?_ h.perm
  simp only [List.append_assoc]
  exact List.Perm.append_left o List.perm_append_comm⟩
structure Two (S:Keyed->Prop) (lt:Keyed->Keyed->Bool) (a b:List Keyed):Prop where
 ord:Ord S lt
 sa:Srt lt a
 sb:Srt lt b
 al:∀x∈a,S x
 bl:∀x∈b,S x
variable {a b:Array Keyed}
theorem za1 {l:List Keyed} {i:Nat} (h:i < l.length):l.drop i=l[i]::l.drop (i + 1):=List.drop_eq_getElem_cons h
theorem zih {l:List Keyed} {i:Nat} (k:Nat):l.drop i=(l.drop i).take k++l.drop (i + k):=by rw [<-List.drop_drop]; exact (List.take_append_drop k _).symm
theorem za0 (a:Array Keyed) (i j:Nat):(a.extract i j).toList=(a.toList.drop i).take (j - i):=by rw [Array.toList_extract]
theorem zif (a:Array Keyed) (i:Nat):(a.extract i).toList=a.toList.drop i:=by rw [za0]; exact List.take_of_length_le (by simp)
theorem zhq (O:Ord S lt) {x y:Keyed} {l:List Keyed} (hs:Srt lt (y::l)) (hx:S x) (hl:∀z∈y::l,S z) (h:lt y x=false):∀z∈y::l,lt z x=false:=fun z hz=>by
 rcases List.mem_cons.mp hz with e | e
 ·rw [e]; exact h
 ·exact O.tr hx (hl y List.mem_cons_self) (hl z hz) h (List.rel_of_pairwise_cons hs e)
theorem ziM {ia:Nat} (hl:∀x∈a.toList,S x) (h:ia<=a.size):Part S a ia (a.size - ia) (a.toList.drop ia) where
 len:=by rw [List.length_drop,Array.length_toList]
 at':=fun i hi=>by rw [List.getElem?_drop]; exact (Array.getElem?_toList ..).symm
 all:=fun x hx=>hl x (List.mem_of_mem_drop hx)
theorem zfp (O:Ord S lt) {l:List Keyed} {key:Keyed} (hs:Srt lt l) (hl:∀x∈l,S x) (hk:S key):∀i j,i<=j->fst lt false key l j=true->fst lt false key l i=true:=fun i j hij h=>by
 unfold fst at h ⊢
 by_cases hj:j < l.length
 ·have hi:i < l.length:=by omega
  rw [List.getElem?_eq_getElem hj] at h
  rw [List.getElem?_eq_getElem hi]
  simp only [Bool.false_eq_true,if_false,Bool.not_eq_true'] at h ⊢
  rcases Nat.lt_or_ge i j with hlt | hge
  ·exact O.tr (hl _ (List.getElem_mem hi)) (hl _ (List.getElem_mem hj)) hk (List.pairwise_iff_getElem.mp hs i j hi hj hlt) h
  ·have:i=j:=by omega
   subst this; exact h
 ·rw [List.getElem?_eq_none (by omega)] at h; cases h
theorem zgD (O:Ord S lt) {l:List Keyed} {key:Keyed} (hs:Srt lt l) (hl:∀x∈l,S x) (hk:S key):∀i j,i<=j->fst lt true key l j=true->fst lt true key l i=true:=fun i j hij h=>by
 unfold fst at h ⊢
 by_cases hj:j < l.length
 ·have hi:i < l.length:=by omega
  rw [List.getElem?_eq_getElem hj] at h
  rw [List.getElem?_eq_getElem hi]
  simp only [if_true] at h ⊢
  rcases Nat.lt_or_ge i j with hlt | hge
  ·cases e:lt l[i] key with
   | true=>rfl
   | false=>
    have:=O.tr hk (hl _ (List.getElem_mem hi)) (hl _ (List.getElem_mem hj)) e (List.pairwise_iff_getElem.mp hs i j hi hj hlt)
    rw [h] at this; cases this
  ·have:i=j:=by omega
   subst this; exact h
 ·rw [List.getElem?_eq_none (by omega)] at h; cases h
theorem zgW {l:List Keyed} {key:Keyed} {k:Nat} (h1:∀i,i < k->fst lt false key l i=true):∀x∈l.take k,lt key x=false:=fun x hx=>by
 obtain ⟨i,hi,e⟩:=List.mem_take_iff_getElem.mp hx
 have:=h1 i (by omega)
 unfold fst at this
 rw [List.getElem?_eq_getElem (by omega),e] at this
 simpa using this
theorem zii {l:List Keyed} {key:Keyed} {k:Nat} (h1:∀i,i < k->fst lt true key l i=true):∀x∈l.take k,lt x key=true:=fun x hx=>by
 obtain ⟨i,hi,e⟩:=List.mem_take_iff_getElem.mp hx
 have:=h1 i (by omega)
 unfold fst at this
 rw [List.getElem?_eq_getElem (by omega),e] at this
 simpa using this
theorem zfm {l:List Keyed} {key:Keyed} {k:Nat} (h2:∀i,k<=i->fst lt false key l i=false):∀x∈l.drop k,lt key x=true:=fun x hx=>by
 obtain ⟨i,hi,e⟩:=List.mem_drop_iff_getElem.mp hx
 have:=h2 (k + i) (by omega)
 unfold fst at this
 rw [List.getElem?_eq_getElem (by omega),e] at this
 simpa using this
theorem zgx {l:List Keyed} {key:Keyed} {k:Nat} (h2:∀i,k<=i->fst lt true key l i=false):∀x∈l.drop k,lt x key=false:=fun x hx=>by
 obtain ⟨i,hi,e⟩:=List.mem_drop_iff_getElem.mp hx
 have:=h2 (k + i) (by omega)
 unfold fst at this
 rw [List.getElem?_eq_getElem (by omega),e] at this
 simpa using this
end
section
variable {M:Model} {A:Around} {E:Value->Shared->Prop} {s:Shared} {κ:SortKind} {S:Keyed->Prop} {lt:Keyed->Keyed->Bool}
def MG (st st':SortSt):Prop:=kindOf st'=kindOf st/\arrOf st'=arrOf st/\pendingOf st'=pendingOf st/\failedOf st'=failedOf st
theorem MG.rfl' {st:SortSt}:MG st st:=⟨rfl,rfl,rfl,rfl⟩
theorem MG.trans {s1 s2 s3:SortSt} (h:MG s1 s2) (k:MG s2 s3):MG s1 s3:=⟨k.1.trans h.1,k.2.1.trans h.2.1,k.2.2.1.trans h.2.2.1,k.2.2.2.trans h.2.2.2⟩
theorem zlr {g:Nat} {st:SortSt} {Q:Unit->SortSt->Prop} (h:∀st',MG st st'->Q () st'):wpS M A E s (zrL g) Q st:=wpS_modify (h _ ⟨rfl,rfl,rfl,rfl⟩)
abbrev LS:=Option (Array Keyed) × Array Keyed × Nat × Nat × Nat × Nat × Nat
def lo3 (a b out:Array Keyed) (ia ib mg ac bc:Nat):SM (ForInStep LS):=do
 let x <-elem' a ia
 if (ia + 1 + 1 == a.size)=true then
  pure (.done (some (out.push x++b.extract ib++a.extract (ia + 1)),out.push x,ia + 1,ib,mg,ac,bc))
 else if (decide (ac < 7) && decide (bc < 7))=true then pure (.done (none,out.push x,ia + 1,ib,mg,ac,bc))
 else pure (.yield (none,out.push x,ia + 1,ib,mg,ac,bc))
def lo2 (a b out:Array Keyed) (ia ib mg ac bc:Nat):SM (ForInStep LS):=do
 let x <-elem' b ib
 if (ib + 1 == b.size)=true then
  pure (.done (some (out.push x++a.extract ia++b.extract (ib + 1)),out.push x,ia,ib + 1,mg,ac,bc))
 else do
  let y <-elem' a ia
  let r <-zgS true y b (ib + 1) (b.size - (ib + 1)) 0
  match r with
  | some k=>
   if k > 0 then
    if (ib + 1 + k == b.size)=true then
     pure (.done (some (out.push x++b.extract (ib + 1) (ib + 1 + k)++a.extract ia++b.extract (ib + 1 + k)),out.push x++b.extract (ib + 1) (ib + 1 + k),ia,ib + 1 + k,mg,ac,k))
    else lo3 a b (out.push x++b.extract (ib + 1) (ib + 1 + k)) ia (ib + 1 + k) mg ac k
   else lo3 a b (out.push x) ia (ib + 1) mg ac k
  | _=>pure (.done (some (out.push x++a.extract ia++b.extract (ib + 1)),out.push x,ia,ib + 1,mg,ac,bc))
structure J (lt:Keyed->Keyed->Bool) (a b out:Array Keyed) (ia ib:Nat):Prop where
 mi:MI lt (a.toList++b.toList) out.toList (a.toList.drop ia) (b.toList.drop ib)
 la:ia + 1 < a.size
 lb:ib < b.size
variable {a b out:Array Keyed} {ia ib mg ac bc u:Nat} {st:SortSt}
theorem zaR {i:Nat} (h:i < a.size):a[i]? = some (a.toList[i]'(by rw [Array.length_toList]; exact h)):=by rw [Array.getElem?_eq_getElem h,Array.getElem_toList]
theorem mi_a {T:List Keyed} {rb:List Keyed} (W:Srt lt a.toList) (h:ia < a.size) (m:MI lt T out.toList (a.toList.drop ia) rb) (hl:∀y∈rb,lt y (a.toList[ia]'(by rw [Array.length_toList]; exact h))=false):MI lt T (out.push (a.toList[ia]'(by rw [Array.length_toList]; exact h))).toList (a.toList.drop (ia + 1)) rb:=by
 have hl':ia < a.toList.length:=by rw [Array.length_toList]; exact h
 rw [za1 hl'] at m
 rw [Array.toList_push]
 exact MI.moveA (p:=[_]) m (by have:=W.sublist (List.drop_sublist ia _); rwa [za1 hl'] at this) (fun x hx=>by rw [List.mem_singleton.mp hx]; exact hl)
theorem mi_b {T:List Keyed} {ra:List Keyed} (W:Srt lt b.toList) (h:ib < b.size) (m:MI lt T out.toList ra (b.toList.drop ib)) (hl:∀y∈ra,lt y (b.toList[ib]'(by rw [Array.length_toList]; exact h))=false):MI lt T (out.push (b.toList[ib]'(by rw [Array.length_toList]; exact h))).toList ra (b.toList.drop (ib + 1)):=by
 have hl':ib < b.toList.length:=by rw [Array.length_toList]; exact h
 rw [za1 hl'] at m
 rw [Array.toList_push]
 exact MI.moveB (p:=[_]) m (by have:=W.sublist (List.drop_sublist ib _); rwa [za1 hl'] at this) (fun x hx=>by rw [List.mem_singleton.mp hx]; exact hl)
theorem zui {T rb:List Keyed} {k:Nat} (W:Srt lt a.toList) (m:MI lt T out.toList (a.toList.drop ia) rb) (hl:Le lt ((a.toList.drop ia).take k) rb):MI lt T (out++a.extract ia (ia + k)).toList (a.toList.drop (ia + k)) rb:=by
 rw [Array.toList_append,za0,Nat.add_sub_cancel_left]
 rw [zih k] at m
 exact MI.moveA m (by rw [<-zih k]; exact W.sublist (List.drop_sublist ia _)) hl
theorem zuh {T ra:List Keyed} {k:Nat} (W:Srt lt b.toList) (m:MI lt T out.toList ra (b.toList.drop ib)) (hl:Le lt ((b.toList.drop ib).take k) ra):MI lt T (out++b.extract ib (ib + k)).toList ra (b.toList.drop (ib + k)):=by
 rw [Array.toList_append,za0,Nat.add_sub_cancel_left]
 rw [zih k] at m
 exact MI.moveB m (by rw [<-zih k]; exact W.sublist (List.drop_sublist ib _)) hl
section
variable (W:Two S lt a.toList b.toList)
include W
theorem zgJ {T:List Keyed} (m:MI lt T out.toList (a.toList.drop ia) (b.toList.drop ib)) (h:a.size<=ia\/b.size<=ib):Done lt T (out++a.extract ia++b.extract ib).toList:=by
 rw [Array.toList_append,Array.toList_append,zif,zif]
 refine m.fin (W.sa.sublist (List.drop_sublist _ _)) (W.sb.sublist (List.drop_sublist _ _)) ?_
 rcases h with h | h
 ·rw [List.drop_eq_nil_of_le (by rw [Array.length_toList]; exact h)]; exact fun _ z=>nomatch z
 ·rw [List.drop_eq_nil_of_le (as:=b.toList) (by rw [Array.length_toList]; exact h)]; exact fun _ _ _ z=>nomatch z
theorem zh6 {T:List Keyed} (ha:0 < a.size) (hz:∀x∈b.toList,lt (a.toList[a.size - 1]'(by rw [Array.length_toList]; omega)) x=false) (m:MI lt T out.toList (a.toList.drop ia) (b.toList.drop ib)) (h:ia + 1=a.size):Done lt T (out++b.extract ib++a.extract ia).toList:=by
 rw [Array.toList_append,Array.toList_append,zif,zif]
 refine m.fin2 (W.sa.sublist (List.drop_sublist _ _)) (W.sb.sublist (List.drop_sublist _ _)) fun x hx y hy=>?_
 have hl:ia < a.toList.length:=by rw [Array.length_toList]; omega
 rw [za1 hl,List.drop_eq_nil_of_le (by rw [Array.length_toList]; omega)] at hy
 have e:y=a.toList[a.size - 1]'(by rw [Array.length_toList]; omega):=by
  rw [List.mem_singleton.mp hy]
  congr 1; omega
 rw [e]
 exact hz x (List.mem_of_mem_drop hx)
variable (C:Cmp M A E s κ S lt) (hκ:kindOf st = κ)
include C hκ
theorem zpC {R:ForInStep LS->SortSt->Prop} (j:J lt a b out ia ib) (hz:∀x∈b.toList,lt (a.toList[a.size - 1]'(by rw [Array.length_toList]; have:=j.la; omega)) x=false)
  (hl:∀y∈b.toList.drop ib,lt y (a.toList[ia]'(by rw [Array.length_toList]; have:=j.la; omega))=false)
  (hd:∀r o i k m x y,Done lt (a.toList++b.toList) r.toList->R (.done (some r,o,i,k,m,x,y)) st)
  (hn:∀o m x y,J lt a b o (ia + 1) ib->R (.done (none,o,ia + 1,ib,m,x,y)) st/\R (.yield (none,o,ia + 1,ib,m,x,y)) st):wpS M A E s (lo3 a b out ia ib mg ac bc) R st:=by
 have la:=j.la
 have m1:=mi_a W.sa (by omega) j.mi hl
 unfold lo3
 refine wpS_bind (zaN (zaR (by omega)) ?_)
 by_cases h1:(ia + 1 + 1 == a.size)=true
 ·rw [if_pos h1]
  exact wpS_pure (hd _ _ _ _ _ _ _ (zh6 W (by omega) hz m1 (by simpa using h1)))
 ·rw [if_neg h1]
  have h1:¬ ia + 1 + 1=a.size:=by simpa using h1
  have j':J lt a b (out.push _) (ia + 1) ib:=⟨m1,by omega,j.lb⟩
  split
  ·exact wpS_pure (hn _ _ _ _ j').1
  ·exact wpS_pure (hn _ _ _ _ j').2
theorem zpD {R:ForInStep LS->SortSt->Prop} (j:J lt a b out ia ib) (hz:∀x∈b.toList,lt (a.toList[a.size - 1]'(by rw [Array.length_toList]; have:=j.la; omega)) x=false)
  (hl:∀y∈a.toList.drop ia,lt y (b.toList[ib]'(by rw [Array.length_toList]; exact j.lb))=false) (hu:u<=ia + ib)
  (hd:∀r o i k m x y,Done lt (a.toList++b.toList) r.toList->R (.done (some r,o,i,k,m,x,y)) st)
  (hn:∀o i k m x y,J lt a b o i k->u + 1<=i + k->R (.done (none,o,i,k,m,x,y)) st/\R (.yield (none,o,i,k,m,x,y)) st):wpS M A E s (lo2 a b out ia ib mg ac bc) R st:=by
 have la:=j.la
 have lb:=j.lb
 have m1:=mi_b W.sb lb j.mi hl
 have hla:ia < a.toList.length:=by rw [Array.length_toList]; omega
 have hSa:S a.toList[ia]:=W.al _ (List.getElem_mem hla)
 unfold lo2
 refine wpS_bind (zaN (zaR lb) ?_)
 by_cases h1:(ib + 1 == b.size)=true
 ·rw [if_pos h1]
  have h1':ib + 1=b.size:=by simpa using h1
  exact wpS_pure (hd _ _ _ _ _ _ _ (zgJ W m1 (.inr (by omega))))
 ·rw [if_neg h1]
  have h1':¬ ib + 1=b.size:=by simpa using h1
  have sb:=W.sb.sublist (List.drop_sublist (ib + 1) _)
  refine wpS_bind (zaN (zaR (by omega)) ?_)
  refine wpS_bind (zdv C (ziM W.bl (by omega)) hSa hκ (by omega) (zgD W.ord sb (fun x hx=>W.bl x (List.mem_of_mem_drop hx)) hSa) fun k k1 k2 k3=>?_)
  dsimp only
  have cl:=zii k2
  have rl:=zgx k3
  rw [List.drop_drop] at rl
  have hle:Le lt ((b.toList.drop (ib + 1)).take k) (a.toList.drop ia):=fun x hx=>by
   have hSx:=W.bl x (List.mem_of_mem_drop (List.mem_of_mem_take hx))
   rw [za1 hla]
   exact zhq W.ord (by rw [<-za1 hla]; exact W.sa.sublist (List.drop_sublist _ _)) hSx (fun z hz=>W.al z (by rw [<-za1 hla] at hz; exact List.mem_of_mem_drop hz)) (W.ord.asym hSx hSa (cl x hx))
  by_cases h2:k > 0
  ·rw [if_pos h2]
   have m2:=zuh W.sb m1 hle
   by_cases h3:(ib + 1 + k == b.size)=true
   ·rw [if_pos h3]
    have h3':ib + 1 + k=b.size:=by simpa using h3
    exact wpS_pure (hd _ _ _ _ _ _ _ (zgJ W m2 (.inr (by omega))))
   ·rw [if_neg h3]
    have h3':¬ ib + 1 + k=b.size:=by simpa using h3
    exact zpC W C hκ ⟨m2,la,by omega⟩ hz rl hd fun o m x y j'=>hn _ _ _ _ _ _ j' (by omega)
  ·rw [if_neg h2]
   have hk:k=0:=by omega
   subst hk
   exact zpC W C hκ ⟨m1,la,by omega⟩ hz rl hd fun o m x y j'=>hn _ _ _ _ _ _ j' (by omega)
end
end
section
variable {M:Model} {A:Around} {E:Value->Shared->Prop} {s:Shared} {κ:SortKind} {S:Keyed->Prop} {lt:Keyed->Keyed->Bool} {a b:Array Keyed} {st:SortSt}
theorem zeN {t:String} {Q:Unit->SortSt->Prop} (h:Q () st):wpS M A E s (liftM (rule t):SM Unit) Q st:=wpS_lift (wpAny_rule ⟨rfl,h⟩)
def lo1 (a b o:Array Keyed) (i k mg ac bc:Nat):SM (ForInStep LS):=do
 let x <-elem' b k
 let r <-zgS false x a i (a.size - i) 0
 match r with
 | some n=>
  if n > 0 then
   if (i + n + 1 == a.size)=true then pure (.done (some ((o++a.extract i (i + n))++b.extract k++a.extract (i + n)),o++a.extract i (i + n),i + n,k,mg,n,bc))
   else if (i + n == a.size)=true then pure (.done (some ((o++a.extract i (i + n))++a.extract (i + n)++b.extract k),o++a.extract i (i + n),i + n,k,mg,n,bc))
   else lo2 a b (o++a.extract i (i + n)) (i + n) k mg n bc
  else lo2 a b o i k mg n bc
 | _=>pure (.done (some (o++a.extract i++b.extract k),o,i,k,mg,ac,bc))
theorem zpE {out:Array Keyed} {ia ib mg ac bc:Nat} (C:Cmp M A E s κ S lt) (W:Two S lt a.toList b.toList) (hκ:kindOf st = κ) {R:ForInStep LS->SortSt->Prop} (ha:0 < a.size) (j:J lt a b out ia ib) (hz:∀x∈b.toList,lt (a.toList[a.size - 1]'(by rw [Array.length_toList]; omega)) x=false)
  (hd:∀r x,Done lt (a.toList++b.toList) r.toList->R (.done (some r,x)) st)
  (hn:∀o i k m x y,J lt a b o i k->ia + ib + 1<=i + k->R (.done (none,o,i,k,m,x,y)) st/\R (.yield (none,o,i,k,m,x,y)) st):wpS M A E s (lo1 a b out ia ib mg ac bc) R st:=by
 unfold lo1
 have la:=j.la
 have lb:=j.lb
 have hlk:ib < b.toList.length:=by rw [Array.length_toList]; omega
 have hSb:S b.toList[ib]:=W.bl _ (List.getElem_mem hlk)
 have sa:=W.sa.sublist (List.drop_sublist ia _)
 refine wpS_bind (zaN (zaR lb) ?_)
 refine wpS_bind (zdv C (ziM W.al (by omega)) hSb hκ (by omega) (zfp W.ord sa (fun x hx=>W.al x (List.mem_of_mem_drop hx)) hSb) fun n n1 n2 n3=>?_)
 dsimp only
 have cr:=zgW n2
 have rr:=zfm n3
 rw [List.drop_drop] at rr
 have hrest:∀y∈a.toList.drop (ia + n),lt y b.toList[ib]=false:=fun y hy=>W.ord.asym hSb (W.al y (List.mem_of_mem_drop hy)) (rr y hy)
 have hle:Le lt ((a.toList.drop ia).take n) (b.toList.drop ib):=fun x hx=>by
  have hSx:=W.al x (List.mem_of_mem_drop (List.mem_of_mem_take hx))
  rw [za1 hlk]
  exact zhq W.ord (by rw [<-za1 hlk]; exact W.sb.sublist (List.drop_sublist _ _)) hSx (fun z hz=>W.bl z (by rw [<-za1 hlk] at hz; exact List.mem_of_mem_drop hz)) (cr x hx)
 by_cases h4:n > 0
 ·rw [if_pos h4]
  have m2:=zui W.sa j.mi hle
  by_cases h5:(ia + n + 1 == a.size)=true
  ·rw [if_pos h5]
   exact wpS_pure (hd _ _ (zh6 W ha hz m2 (by simpa using h5)))
  ·rw [if_neg h5]
   have h5':¬ ia + n + 1=a.size:=by simpa using h5
   by_cases h6:(ia + n == a.size)=true
   ·rw [if_pos h6]
    have h6':ia + n=a.size:=by simpa using h6
    exact wpS_pure (hd _ _ (zgJ W m2 (.inl (by omega))))
   ·rw [if_neg h6]
    have h6':¬ ia + n=a.size:=by simpa using h6
    exact zpD (u:=ia + n + ib) W C hκ ⟨m2,by omega,lb⟩ hz hrest (Nat.le_refl _) (fun r o i k m x y d=>hd _ _ d) fun o' i' k' m x y j' hu=>hn _ _ _ _ _ _ j' (by omega)
 ·rw [if_neg h4]
  have hn:n=0:=by omega
  subst hn
  exact zpD (u:=ia + ib) W C hκ ⟨j.mi,la,lb⟩ hz hrest (Nat.le_refl _) (fun r o i k m x y d=>hd _ _ d) fun o' i' k' m x y j' hu=>hn _ _ _ _ _ _ j' (by omega)
theorem zuj (C:Cmp M A E s κ S lt) (W:Two S lt a.toList b.toList) (hκ:kindOf st = κ) (ha:0 < a.size) (hb:0 < b.size)
  (h0:∀y∈a.toList,lt y (b.toList[0]'(by rw [Array.length_toList]; exact hb))=false) (hz:∀x∈b.toList,lt (a.toList[a.size - 1]'(by rw [Array.length_toList]; omega)) x=false)
  {Q:Array Keyed->SortSt->Prop} (q:∀r st',Done lt (a.toList++b.toList) r.toList->MG st st'->Q r st'):wpS M A E s (zov a b) Q st:=by
 have hlb:0 < b.toList.length:=by rw [Array.length_toList]; exact hb
 refine wpS_bind (zeN ?_)
 refine wpS_bind (zaN (zaR hb) ?_)
 dsimp only
 have m0:MI lt (a.toList++b.toList) (#[b.toList[0]]:Array Keyed).toList (a.toList.drop 0) (b.toList.drop 1):=by
  have e:b.toList=[b.toList[0]]++b.toList.drop 1:=za1 (i:=0) hlb
  have m:MI lt (a.toList++b.toList) [] a.toList ([b.toList[0]]++b.toList.drop 1):=⟨by rw [<-e]; exact .refl _,.nil,fun _ z=>(nomatch z),fun _ z=>(nomatch z)⟩
  exact m.moveB (by rw [<-e]; exact W.sb) fun x hx=>by rw [List.mem_singleton.mp hx]; exact h0
 by_cases h1:(1 == b.size)=true
 ·rw [if_pos h1]
  have h1':1=b.size:=by simpa using h1
  exact wpS_pure (q _ _ (zgJ W m0 (.inr (by omega))) .rfl')
 rw [if_neg h1]
 have h1':¬ 1=b.size:=by simpa using h1
 by_cases h2:(0 + 1 == a.size)=true
 ·rw [if_pos h2]
  have h2':0 + 1=a.size:=by simpa using h2
  exact wpS_pure (q _ _ (zh6 W ha hz m0 h2') .rfl')
 rw [if_neg h2]
 have h2':¬ 0 + 1=a.size:=by simpa using h2
 refine wpS_bind (wpS_get ?_)
 refine wpS_bind (wpS_mono (wpS_forRange
  (I:=fun t c st'=>MG st st'/\∃out ia ib mg,c=(none,out,ia,ib,mg)/\J lt a b out ia ib/\t<=ia + ib)
  (Q:=fun c st'=>MG st st'/\∃r x,c=(some r,x)/\Done lt (a.toList++b.toList) r.toList) ?step ?fin ⟨.rfl',_,_,_,_,rfl,⟨m0,by omega,by omega⟩,by omega⟩) ?post)
 case fin=>
  rintro c st' ⟨_,out,ia,ib,mg,rfl,j,ht⟩
  have:=j.la; have:=j.lb
  omega
 case post=>
  rintro c st' ⟨g,r,x,rfl,d⟩
  exact wpS_pure (q r st' d g)
 case step=>
  rintro t c st1 _ ht ⟨g1,out,ia,ib,mg,rfl,j,hti⟩
  dsimp only
  have hκ1:kindOf st1 = κ:=g1.1.trans hκ
  refine wpS_bind (wpS_mono (wpS_forRange
   (I:=fun t1 c st'=>st'=st1/\∃out' ia' ib' ac bc,c=(none,out',ia',ib',ac,bc)/\J lt a b out' ia' ib'/\t1 + (ia + ib)<=ia' + ib')
   (Q:=fun c st'=>st'=st1/\((∃r x,c=(some r,x)/\Done lt (a.toList++b.toList) r.toList)\/∃out' ia' ib' ac bc,c=(none,out',ia',ib',ac,bc)/\J lt a b out' ia' ib'/\ia + ib + 1<=ia' + ib')) ?step1 ?fin1 ⟨rfl,_,_,_,_,_,rfl,j,by omega⟩) ?post1)
  case fin1=>
   rintro c st' ⟨_,out',ia',ib',ac,bc,rfl,j',ht'⟩
   have:=j'.la; have:=j'.lb
   omega
  case step1=>
   rintro t1 c st' _ ht1 ⟨rfl,out',ia',ib',ac,bc,rfl,j',ht'⟩
   dsimp only
   have la:=j'.la
   have lb:=j'.lb
   have hla:ia' < a.toList.length:=by rw [Array.length_toList]; omega
   have hlb':ib' < b.toList.length:=by rw [Array.length_toList]; omega
   have hSa:S a.toList[ia']:=W.al _ (List.getElem_mem hla)
   have hSb:S b.toList[ib']:=W.bl _ (List.getElem_mem hlb')
   refine wpS_bind (zaN (zaR lb) ?_)
   refine wpS_bind (zaN (zaR (by omega)) ?_)
   refine wpS_bind (C.ask hSb hSa hκ1 ?_)
   dsimp only
   cases e:lt b.toList[ib'] a.toList[ia'] with
   | true=>
    rw [if_pos rfl]
    have m1:=mi_b W.sb lb j'.mi (by
     rw [za1 hla]
     exact zhq W.ord (by rw [<-za1 hla]; exact W.sa.sublist (List.drop_sublist _ _)) hSb (fun z hz=>W.al z (by rw [<-za1 hla] at hz; exact List.mem_of_mem_drop hz)) (W.ord.asym hSb hSa e))
    refine wpS_bind (zaN (zaR lb) ?_)
    by_cases h3:(ib' + 1 == b.size)=true
    ·rw [if_pos h3]
     have h3':ib' + 1=b.size:=by simpa using h3
     exact wpS_pure ⟨rfl,.inl ⟨_,_,rfl,zgJ W m1 (.inr (by omega))⟩⟩
    ·rw [if_neg h3]
     have h3':¬ ib' + 1=b.size:=by simpa using h3
     split
     ·exact wpS_pure ⟨rfl,.inr ⟨_,_,_,_,_,rfl,⟨m1,la,by omega⟩,by omega⟩⟩
     ·exact wpS_pure ⟨rfl,_,_,_,_,_,rfl,⟨m1,la,by omega⟩,by omega⟩
   | false=>
    rw [if_neg (by simp)]
    have m1:=mi_a W.sa (by omega) j'.mi (by
     rw [za1 hlb']
     exact zhq W.ord (by rw [<-za1 hlb']; exact W.sb.sublist (List.drop_sublist _ _)) hSa (fun z hz=>W.bl z (by rw [<-za1 hlb'] at hz; exact List.mem_of_mem_drop hz)) e)
    refine wpS_bind (zaN (zaR (by omega)) ?_)
    by_cases h3:(ia' + 1 + 1 == a.size)=true
    ·rw [if_pos h3]
     have h3':ia' + 1 + 1=a.size:=by simpa using h3
     exact wpS_pure ⟨rfl,.inl ⟨_,_,rfl,zh6 W ha hz m1 h3'⟩⟩
    ·rw [if_neg h3]
     have h3':¬ ia' + 1 + 1=a.size:=by simpa using h3
     split
     ·exact wpS_pure ⟨rfl,.inr ⟨_,_,_,_,_,rfl,⟨m1,by omega,lb⟩,by omega⟩⟩
     ·exact wpS_pure ⟨rfl,_,_,_,_,_,rfl,⟨m1,by omega,lb⟩,by omega⟩
  case post1=>
   rintro c st' ⟨rfl,⟨r,x,rfl,d⟩ | ⟨out',ia',ib',ac,bc,rfl,j',ht'⟩⟩
   ·exact wpS_pure ⟨g1,_,_,rfl,d⟩
   dsimp only
   refine wpS_bind (zeN ?_)
   refine wpS_bind (wpS_mono (wpS_forRange
    (I:=fun t2 c st'=>MG st st'/\∃o i k m ac bc,c=(none,o,i,k,m,ac,bc)/\J lt a b o i k/\t2 + (ia' + ib')<=i + k)
    (Q:=fun c st'=>MG st st'/\((∃r x,c=(some r,x)/\Done lt (a.toList++b.toList) r.toList)\/∃o i k m ac bc,c=(none,o,i,k,m,ac,bc)/\J lt a b o i k/\ia' + ib'<=i + k)) ?step2 ?fin2 ⟨g1,_,_,_,_,_,_,rfl,j',by omega⟩) ?post2)
   case fin2=>
    rintro c st' ⟨_,o,i,k,m,ac,bc,rfl,j2,ht2⟩
    have:=j2.la; have:=j2.lb
    omega
   case post2=>
    rintro c st' ⟨g2,⟨r,x,rfl,d⟩ | ⟨o,i,k,m,ac,bc,rfl,j2,ht2⟩⟩
    ·exact wpS_pure ⟨g2,_,_,rfl,d⟩
    ·exact wpS_bind (zlr fun st3 g3=>wpS_pure ⟨g2.trans g3,o,i,k,_,rfl,j2,by omega⟩)
   case step2=>
    rintro t2 c st2 _ ht2 ⟨g2,o,i,k,m,ac,bc,rfl,j2,ht2'⟩
    dsimp only
    by_cases hm:m > 1
    ·rw [if_pos hm]
     exact wpS_bind (zlr fun st3 g3=>zpE (mg:=(m - 1)) (ac:=ac) (bc:=bc) C W ((g2.trans g3).1.trans hκ) ha j2 hz (fun r x d=>⟨g2.trans g3,.inl ⟨_,_,rfl,d⟩⟩) fun o' i' k' m x y j' hu=>⟨⟨g2.trans g3,.inr ⟨_,_,_,_,_,_,rfl,j',by omega⟩⟩,g2.trans g3,_,_,_,_,_,_,rfl,j',by omega⟩)
    ·rw [if_neg hm]
     exact wpS_bind (zlr fun st3 g3=>zpE (mg:=m) (ac:=ac) (bc:=bc) C W ((g2.trans g3).1.trans hκ) ha j2 hz (fun r x d=>⟨g2.trans g3,.inl ⟨_,_,rfl,d⟩⟩) fun o' i' k' m x y j' hu=>⟨⟨g2.trans g3,.inr ⟨_,_,_,_,_,_,rfl,j',by omega⟩⟩,g2.trans g3,_,_,_,_,_,_,rfl,j',by omega⟩)
end
section
variable {M:Model} {A:Around} {E:Value->Shared->Prop} {s:Shared} {κ:SortKind} {S:Keyed->Prop} {lt:Keyed->Keyed->Bool}
structure HI (lt:Keyed->Keyed->Bool) (T o ra rb:List Keyed):Prop where
 perm:(ra++rb++o).Perm T
 srt:Srt lt o
 la:Le lt ra o
 lb:Le lt rb o
variable {T o p ra rb:List Keyed}
theorem HI.moveB (h:HI lt T o ra (rb++p)) (hs:Srt lt (rb++p)) (hl:Le lt ra p):HI lt T (p++o) ra rb where
 perm:=by have:=h.perm; simp only [List.append_assoc] at this ⊢; exact this
 srt:=zaC.mpr ⟨(zaC.mp hs).2.1,h.srt,(zd5.mp h.lb).2⟩
 la:=zfN.mpr ⟨hl,h.la⟩
 lb:=zfN.mpr ⟨(zaC.mp hs).2.2,(zd5.mp h.lb).1⟩
theorem HI.moveA (h:HI lt T o (ra++p) rb) (hs:Srt lt (ra++p)) (hl:Le lt rb p):HI lt T (p++o) ra rb where
 perm:=by
  refine List.Perm.trans ?_ h.perm
  simp only [List.append_assoc]
  refine List.Perm.append_left ra ?_
  rw [<-List.append_assoc,<-List.append_assoc]
  exact List.Perm.append_right o List.perm_append_comm
 srt:=zaC.mpr ⟨(zaC.mp hs).2.1,h.srt,(zd5.mp h.la).2⟩
 la:=zfN.mpr ⟨(zaC.mp hs).2.2,(zd5.mp h.la).1⟩
 lb:=zfN.mpr ⟨hl,h.lb⟩
theorem HI.fin (h:HI lt T o ra rb) (ha:Srt lt ra) (hb:Srt lt rb) (hl:Le lt ra rb):Done lt T (ra++rb++o):=
 ⟨zaC.mpr ⟨zaC.mpr ⟨ha,hb,hl⟩,h.srt,zd5.mpr ⟨h.la,h.lb⟩⟩,h.perm⟩
theorem HI.fin2 (h:HI lt T o ra rb) (ha:Srt lt ra) (hb:Srt lt rb) (hl:Le lt rb ra):Done lt T (rb++ra++o):=
 ⟨zaC.mpr ⟨zaC.mpr ⟨hb,ha,hl⟩,h.srt,zd5.mpr ⟨h.lb,h.la⟩⟩,(List.Perm.append_right o List.perm_append_comm).trans h.perm⟩
theorem zjq {l:List Keyed} {n:Nat} (h:n - 1 < l.length) (h0:0 < n):l.take n=l.take (n - 1)++[l[n - 1]]:=by
 obtain ⟨m,rfl⟩:∃m,n=m + 1:=⟨n - 1,by omega⟩
 rw [List.take_succ_eq_append_getElem (by omega)]; rfl
theorem zj9 {l:List Keyed} {k n:Nat} (h:k<=n):l.take n=l.take k++(l.drop k).take (n - k):=by
 obtain ⟨m,rfl⟩:∃m,n=k + m:=⟨n - k,by omega⟩
 rw [List.take_add,Nat.add_sub_cancel_left]
theorem zgL (O:Ord S lt) {l:List Keyed} {n:Nat} (hs:Srt lt l) (hl:∀x∈l,S x) (h:n - 1 < l.length):∀x∈l.take n,lt l[n - 1] x=false:=fun x hx=>by
 obtain ⟨i,hi,e⟩:=List.mem_take_iff_getElem.mp hx
 subst e
 have hi':i < l.length:=by omega
 rcases Nat.lt_or_ge i (n - 1) with z | z
 ·exact List.pairwise_iff_getElem.mp hs i (n - 1) hi' h z
 ·have:i=n - 1:=by omega
  subst this
  cases e:lt l[n - 1] l[n - 1] with
  | false=>rfl
  | true=>have:=O.asym (hl _ (List.getElem_mem h)) (hl _ (List.getElem_mem h)) e; rw [e] at this; exact this
variable {a b out:Array Keyed} {na nb mg ac bc:Nat} {st:SortSt}
abbrev HS:=Option (Array Keyed) × Nat × Nat × Array Keyed × Nat × Nat × Nat
def hi3 (a b out:Array Keyed) (na nb mg ac bc:Nat):SM (ForInStep HS):=do
 let x <-elem' a (na - 1)
 if (na - 1 == 0)=true then pure (.done (some (a.extract 0 (na - 1)++b.extract 0 nb++(out.push x).reverse),na - 1,nb,out.push x,mg,ac,bc))
 else if (decide (ac < 7) && decide (bc < 7))=true then pure (.done (none,na - 1,nb,out.push x,mg,ac,bc))
 else pure (.yield (none,na - 1,nb,out.push x,mg,ac,bc))
def hi2 (a b out:Array Keyed) (na nb mg ac bc:Nat):SM (ForInStep HS):=do
 let x <-elem' b (nb - 1)
 if (nb - 1 == 1)=true then pure (.done (some (b.extract 0 (nb - 1)++a.extract 0 na++(out.push x).reverse),na,nb - 1,out.push x,mg,ac,bc))
 else do
  let y <-elem' a (na - 1)
  let r <-zgS true y b 0 (nb - 1) (nb - 1 - 1)
  match r with
  | some k=>
   if nb - 1 - k > 0 then
    if (k == 1)=true then pure (.done (some (b.extract 0 k++a.extract 0 na++(out.push x++(b.extract k (nb - 1)).reverse).reverse),na,k,out.push x++(b.extract k (nb - 1)).reverse,mg,ac,nb - 1 - k))
    else if (k == 0)=true then pure (.done (some (a.extract 0 na++b.extract 0 k++(out.push x++(b.extract k (nb - 1)).reverse).reverse),na,k,out.push x++(b.extract k (nb - 1)).reverse,mg,ac,nb - 1 - k))
    else hi3 a b (out.push x++(b.extract k (nb - 1)).reverse) na k mg ac (nb - 1 - k)
   else hi3 a b (out.push x) na (nb - 1) mg ac (nb - 1 - k)
  | _=>pure (.done (some (a.extract 0 na++b.extract 0 (nb - 1)++(out.push x).reverse),na,nb - 1,out.push x,mg,ac,bc))
def hi1 (a b out:Array Keyed) (na nb mg ac bc:Nat):SM (ForInStep HS):=do
 let x <-elem' b (nb - 1)
 let r <-zgS false x a 0 na (na - 1)
 match r with
 | some k=>
  if na - k > 0 then
   if (k == 0)=true then pure (.done (some (a.extract 0 k++b.extract 0 nb++(out++(a.extract k na).reverse).reverse),k,nb,out++(a.extract k na).reverse,mg,na - k,bc))
   else hi2 a b (out++(a.extract k na).reverse) k nb mg (na - k) bc
  else hi2 a b out na nb mg (na - k) bc
 | _=>pure (.done (some (a.extract 0 na++b.extract 0 nb++out.reverse),na,nb,out,mg,ac,bc))
structure JH (lt:Keyed->Keyed->Bool) (a b out:Array Keyed) (na nb:Nat):Prop where
 mi:HI lt (a.toList++b.toList) out.toList.reverse (a.toList.take na) (b.toList.take nb)
 la:0 < na
 la':na<=a.size
 lb:1 < nb
 lb':nb<=b.size
theorem zb2 (a:Array Keyed):a.toList.length=a.size:=Array.length_toList
theorem hi_a {T:List Keyed} {rb:List Keyed} (W:Srt lt a.toList) (h0:0 < na) (h:na - 1 < a.toList.length) (m:HI lt T out.toList.reverse (a.toList.take na) rb) (hl:∀y∈rb,lt (a.toList[na - 1]) y=false):HI lt T (out.push (a.toList[na - 1])).toList.reverse (a.toList.take (na - 1)) rb:=by
 have e:=zjq h h0
 rw [e] at m
 rw [Array.toList_push,List.reverse_append]
 exact HI.moveA (p:=[_]) m (by rw [<-e]; exact W.sublist (List.take_sublist _ _)) (fun y hy x hx=>by rw [List.mem_singleton.mp hx]; exact hl y hy)
theorem hi_b {T:List Keyed} {ra:List Keyed} (W:Srt lt b.toList) (h0:0 < nb) (h:nb - 1 < b.toList.length) (m:HI lt T out.toList.reverse ra (b.toList.take nb)) (hl:∀y∈ra,lt (b.toList[nb - 1]) y=false):HI lt T (out.push (b.toList[nb - 1])).toList.reverse ra (b.toList.take (nb - 1)):=by
 have e:=zjq h h0
 rw [e] at m
 rw [Array.toList_push,List.reverse_append]
 exact HI.moveB (p:=[_]) m (by rw [<-e]; exact W.sublist (List.take_sublist _ _)) (fun y hy x hx=>by rw [List.mem_singleton.mp hx]; exact hl y hy)
theorem zus {T rb:List Keyed} {k:Nat} (W:Srt lt a.toList) (hk:k<=na) (m:HI lt T out.toList.reverse (a.toList.take na) rb) (hl:Le lt rb ((a.toList.drop k).take (na - k))):HI lt T (out++(a.extract k na).reverse).toList.reverse (a.toList.take k) rb:=by
 rw [Array.toList_append,List.reverse_append,Array.toList_reverse,List.reverse_reverse,za0]
 rw [zj9 hk] at m
 exact HI.moveA m (by rw [<-zj9 hk]; exact W.sublist (List.take_sublist _ _)) hl
theorem zur {T ra:List Keyed} {k:Nat} (W:Srt lt b.toList) (hk:k<=nb) (m:HI lt T out.toList.reverse ra (b.toList.take nb)) (hl:Le lt ra ((b.toList.drop k).take (nb - k))):HI lt T (out++(b.extract k nb).reverse).toList.reverse ra (b.toList.take k):=by
 rw [Array.toList_append,List.reverse_append,Array.toList_reverse,List.reverse_reverse,za0]
 rw [zj9 hk] at m
 exact HI.moveB m (by rw [<-zj9 hk]; exact W.sublist (List.take_sublist _ _)) hl
theorem ziL {n:Nat} (hl:∀x∈a.toList,S x) (h:n<=a.size):Part S a 0 n (a.toList.take n) where
 len:=by rw [List.length_take,zb2]; omega
 at':=fun i hi=>by rw [Nat.zero_add,List.getElem?_take_of_lt hi]; exact (Array.getElem?_toList ..).symm
 all:=fun x hx=>hl x (List.mem_of_mem_take hx)
section
variable (W:Two S lt a.toList b.toList)
include W
theorem zgQ {T:List Keyed} (m:HI lt T out.toList.reverse (a.toList.take na) (b.toList.take nb)) (h:na=0\/nb=0):Done lt T (a.extract 0 na++b.extract 0 nb++out.reverse).toList:=by
 rw [Array.toList_append,Array.toList_append,za0,za0,Array.toList_reverse]
 refine m.fin (W.sa.sublist (List.take_sublist _ _)) (W.sb.sublist (List.take_sublist _ _)) ?_
 rcases h with rfl | rfl
 ·exact fun _ z=>nomatch z
 ·exact fun _ _ _ z=>nomatch z
theorem zf6 {T:List Keyed} (hb:0 < b.size) (h0:∀y∈a.toList,lt y (b.toList[0]'(by rw [Array.length_toList]; exact hb))=false) {n:Nat} (h1:n=1) (m:HI lt T out.toList.reverse (a.toList.take na) (b.toList.take n)):Done lt T (b.extract 0 n++a.extract 0 na++out.reverse).toList:=by
 subst h1
 rw [Array.toList_append,Array.toList_append,za0,za0,Array.toList_reverse]
 refine m.fin2 (W.sa.sublist (List.take_sublist _ _)) (W.sb.sublist (List.take_sublist _ _)) fun x hx y hy=>?_
 have hl:0 < b.toList.length:=by rw [zb2]; exact hb
 obtain ⟨i,hi,e⟩:=List.mem_take_iff_getElem.mp hx
 have:i=0:=by omega
 subst this
 rw [<-e]
 exact h0 y (List.mem_of_mem_take hy)
variable (C:Cmp M A E s κ S lt) (hκ:kindOf st = κ)
include C hκ
theorem zpH {R:ForInStep HS->SortSt->Prop} (j:JH lt a b out na nb) (hl:∀y∈b.toList.take nb,lt (a.toList[na - 1]'(by rw [zb2]; have:=j.la; have:=j.la'; omega)) y=false)
  (hd:∀r x,Done lt (a.toList++b.toList) r.toList->R (.done (some r,x)) st)
  (hn:∀o m x y,JH lt a b o (na - 1) nb->R (.done (none,na - 1,nb,o,m,x,y)) st/\R (.yield (none,na - 1,nb,o,m,x,y)) st):wpS M A E s (hi3 a b out na nb mg ac bc) R st:=by
 have la:=j.la
 have la':=j.la'
 have m1:=hi_a W.sa la (by rw [zb2]; omega) j.mi hl
 unfold hi3
 refine wpS_bind (zaN (zaR (by omega)) ?_)
 by_cases h1:(na - 1 == 0)=true
 ·rw [if_pos h1]
  exact wpS_pure (hd _ _ (zgQ W m1 (.inl (by simpa using h1))))
 ·rw [if_neg h1]
  have h1':¬ na - 1=0:=by simpa using h1
  have j':JH lt a b (out.push _) (na - 1) nb:=⟨m1,by omega,by omega,j.lb,j.lb'⟩
  split
  ·exact wpS_pure (hn _ _ _ _ j').1
  ·exact wpS_pure (hn _ _ _ _ j').2
theorem zpI {R:ForInStep HS->SortSt->Prop} (hb:0 < b.size) (h0:∀y∈a.toList,lt y (b.toList[0]'(by rw [Array.length_toList]; exact hb))=false) (j:JH lt a b out na nb) (hl:∀y∈a.toList.take na,lt (b.toList[nb - 1]'(by rw [zb2]; have:=j.lb; have:=j.lb'; omega)) y=false)
  (hd:∀r x,Done lt (a.toList++b.toList) r.toList->R (.done (some r,x)) st)
  (hn:∀o i k m x y,JH lt a b o i k->i + k + 1<=na + nb->R (.done (none,i,k,o,m,x,y)) st/\R (.yield (none,i,k,o,m,x,y)) st):wpS M A E s (hi2 a b out na nb mg ac bc) R st:=by
 have la:=j.la
 have la':=j.la'
 have lb:=j.lb
 have lb':=j.lb'
 have hla:na - 1 < a.toList.length:=by rw [zb2]; omega
 have m1:=hi_b W.sb (by omega) (by rw [zb2]; omega) j.mi hl
 have hSa:S a.toList[na - 1]:=W.al _ (List.getElem_mem hla)
 unfold hi2
 refine wpS_bind (zaN (zaR (by omega)) ?_)
 by_cases h1:(nb - 1 == 1)=true
 ·rw [if_pos h1]
  have h1':nb - 1=1:=by simpa using h1
  exact wpS_pure (hd _ _ (zf6 W hb h0 h1' m1))
 ·rw [if_neg h1]
  have h1':¬ nb - 1=1:=by simpa using h1
  refine wpS_bind (zaN (zaR (by omega)) ?_)
  refine wpS_bind (zdv C (ziL W.bl (by omega)) hSa hκ (by omega) (zgD W.ord (W.sb.sublist (List.take_sublist _ _)) (fun x hx=>W.bl x (List.mem_of_mem_take hx)) hSa) fun k k1 k2 k3=>?_)
  dsimp only
  have cl:=zii k2
  have rl:=zgx k3
  rw [List.take_take,Nat.min_eq_left k1] at cl
  rw [List.drop_take] at rl
  have hl3:∀y∈b.toList.take k,lt a.toList[na - 1] y=false:=fun y hy=>W.ord.asym (W.bl y (List.mem_of_mem_take hy)) hSa (cl y hy)
  have hle:Le lt (a.toList.take na) ((b.toList.drop k).take (nb - 1 - k)):=fun x hx y hy=>by
   have hSx:=W.al x (List.mem_of_mem_take hx)
   have hSy:=W.bl y (List.mem_of_mem_drop (List.mem_of_mem_take hy))
   exact W.ord.tr hSx hSa hSy (zgL W.ord W.sa W.al hla x hx) (rl y hy)
  by_cases h2:nb - 1 - k > 0
  ·rw [if_pos h2]
   have m2:=zur W.sb (by omega) m1 hle
   by_cases h3:(k == 1)=true
   ·rw [if_pos h3]
    have h3':k=1:=by simpa using h3
    exact wpS_pure (hd _ _ (zf6 W hb h0 h3' m2))
   ·rw [if_neg h3]
    have h3':¬ k=1:=by simpa using h3
    by_cases h4:(k == 0)=true
    ·rw [if_pos h4]
     exact wpS_pure (hd _ _ (zgQ W m2 (.inr (by simpa using h4))))
    ·rw [if_neg h4]
     have h4':¬ k=0:=by simpa using h4
     exact zpH W C hκ ⟨m2,la,la',by omega,by omega⟩ hl3 hd fun o m x y j'=>hn _ _ _ _ _ _ j' (by omega)
  ·rw [if_neg h2]
   have hk:k=nb - 1:=by omega
   rw [hk] at hl3
   exact zpH W C hκ ⟨m1,la,la',by omega,by omega⟩ hl3 hd fun o m x y j'=>hn _ _ _ _ _ _ j' (by omega)
theorem zpJ {R:ForInStep HS->SortSt->Prop} (hb:0 < b.size) (h0:∀y∈a.toList,lt y (b.toList[0]'(by rw [Array.length_toList]; exact hb))=false) (j:JH lt a b out na nb)
  (hd:∀r x,Done lt (a.toList++b.toList) r.toList->R (.done (some r,x)) st)
  (hn:∀o i k m x y,JH lt a b o i k->i + k + 1<=na + nb->R (.done (none,i,k,o,m,x,y)) st/\R (.yield (none,i,k,o,m,x,y)) st):wpS M A E s (hi1 a b out na nb mg ac bc) R st:=by
 have la:=j.la
 have la':=j.la'
 have lb:=j.lb
 have lb':=j.lb'
 have hlb:nb - 1 < b.toList.length:=by rw [zb2]; omega
 have hSb:S b.toList[nb - 1]:=W.bl _ (List.getElem_mem hlb)
 unfold hi1
 refine wpS_bind (zaN (zaR (by omega)) ?_)
 refine wpS_bind (zdv C (ziL W.al la') hSb hκ (by omega) (zfp W.ord (W.sa.sublist (List.take_sublist _ _)) (fun x hx=>W.al x (List.mem_of_mem_take hx)) hSb) fun k k1 k2 k3=>?_)
 dsimp only
 have cr:=zgW k2
 have rr:=zfm k3
 rw [List.take_take,Nat.min_eq_left k1] at cr
 rw [List.drop_take] at rr
 have hle:Le lt (b.toList.take nb) ((a.toList.drop k).take (na - k)):=fun x hx y hy=>by
  have hSx:=W.bl x (List.mem_of_mem_take hx)
  have hSy:=W.al y (List.mem_of_mem_drop (List.mem_of_mem_take hy))
  exact W.ord.tr hSx hSb hSy (zgL W.ord W.sb W.bl hlb x hx) (W.ord.asym hSb hSy (rr y hy))
 by_cases h2:na - k > 0
 ·rw [if_pos h2]
  have m2:=zus W.sa k1 j.mi hle
  by_cases h4:(k == 0)=true
  ·rw [if_pos h4]
   exact wpS_pure (hd _ _ (zgQ W m2 (.inl (by simpa using h4))))
  ·rw [if_neg h4]
   have h4':¬ k=0:=by simpa using h4
   exact zpI W C hκ hb h0 ⟨m2,by omega,by omega,lb,lb'⟩ cr hd fun o i n m x y j' hu=>hn _ _ _ _ _ _ j' (by omega)
 ·rw [if_neg h2]
  have hk:k=na:=by omega
  rw [hk] at cr
  exact zpI W C hκ hb h0 j cr hd hn
end
end
section
variable {M:Model} {A:Around} {E:Value->Shared->Prop} {s:Shared} {κ:SortKind} {S:Keyed->Prop} {lt:Keyed->Keyed->Bool} {a b:Array Keyed} {st:SortSt}
theorem zuq (C:Cmp M A E s κ S lt) (W:Two S lt a.toList b.toList) (hκ:kindOf st = κ) (ha:0 < a.size) (hb:0 < b.size)
  (h0:∀y∈a.toList,lt y (b.toList[0]'(by rw [Array.length_toList]; exact hb))=false) (hz:∀x∈b.toList,lt (a.toList[a.size - 1]'(by rw [Array.length_toList]; omega)) x=false)
  {Q:Array Keyed->SortSt->Prop} (q:∀r st',Done lt (a.toList++b.toList) r.toList->MG st st'->Q r st'):wpS M A E s (zow a b) Q st:=by
 have hla0:a.size - 1 < a.toList.length:=by rw [zb2]; omega
 refine wpS_bind (zeN ?_)
 refine wpS_bind (zaN (zaR (by omega)) ?_)
 dsimp only
 have m0:HI lt (a.toList++b.toList) (#[a.toList[a.size - 1]]:Array Keyed).toList.reverse (a.toList.take (a.size - 1)) (b.toList.take b.size):=by
  have e:a.toList=a.toList.take (a.size - 1)++[a.toList[a.size - 1]]:=by rw [<-zjq hla0 ha]; exact (List.take_of_length_le (by rw [zb2]; omega)).symm
  have eb:b.toList.take b.size=b.toList:=List.take_of_length_le (by rw [zb2]; omega)
  rw [eb]
  have m:HI lt (a.toList++b.toList) [] (a.toList.take (a.size - 1)++[a.toList[a.size - 1]]) b.toList:=⟨by rw [<-e,List.append_nil],.nil,fun _ _ _ z=>(nomatch z),fun _ _ _ z=>(nomatch z)⟩
  exact m.moveA (by rw [<-e]; exact W.sa) fun x hx y hy=>by rw [List.mem_singleton.mp hy]; exact hz x hx
 by_cases h1:(a.size - 1 == 0)=true
 ·rw [if_pos h1]
  exact wpS_pure (q _ _ (zgQ W m0 (.inl (by simpa using h1))) .rfl')
 rw [if_neg h1]
 have h1':¬ a.size - 1=0:=by simpa using h1
 by_cases h2:(b.size == 1)=true
 ·rw [if_pos h2]
  have h2':b.size=1:=by simpa using h2
  exact wpS_pure (q _ _ (zf6 W hb h0 h2' m0) .rfl')
 rw [if_neg h2]
 have h2':¬ b.size=1:=by simpa using h2
 refine wpS_bind (wpS_get ?_)
 refine wpS_bind (wpS_mono (wpS_forRange
  (I:=fun t c st'=>MG st st'/\∃na nb out mg,c=(none,na,nb,out,mg)/\JH lt a b out na nb/\t + na + nb<=a.size + b.size)
  (Q:=fun c st'=>MG st st'/\∃r x,c=(some r,x)/\Done lt (a.toList++b.toList) r.toList) ?step ?fin ⟨.rfl',_,_,_,_,rfl,⟨m0,by omega,by omega,by omega,by omega⟩,by omega⟩) ?post)
 case fin=>
  rintro c st' ⟨_,na,nb,out,mg,rfl,j,ht⟩
  have:=j.la; have:=j.lb
  omega
 case post=>
  rintro c st' ⟨g,r,x,rfl,d⟩
  exact wpS_pure (q r st' d g)
 case step=>
  rintro t c st1 _ ht ⟨g1,na,nb,out,mg,rfl,j,hti⟩
  dsimp only
  have hκ1:kindOf st1 = κ:=g1.1.trans hκ
  refine wpS_bind (wpS_mono (wpS_forRange
   (I:=fun t1 c st'=>st'=st1/\∃na' nb' out' ac bc,c=(none,na',nb',out',ac,bc)/\JH lt a b out' na' nb'/\t1 + na' + nb'<=na + nb)
   (Q:=fun c st'=>st'=st1/\((∃r x,c=(some r,x)/\Done lt (a.toList++b.toList) r.toList)\/∃na' nb' out' ac bc,c=(none,na',nb',out',ac,bc)/\JH lt a b out' na' nb'/\na' + nb' + 1<=na + nb)) ?step1 ?fin1 ⟨rfl,_,_,_,_,_,rfl,j,by omega⟩) ?post1)
  case fin1=>
   rintro c st' ⟨_,na',nb',out',ac,bc,rfl,j',ht'⟩
   have:=j'.la; have:=j'.lb; have:=j.la'; have:=j.lb'
   omega
  case step1=>
   rintro t1 c st' _ ht1 ⟨rfl,na',nb',out',ac,bc,rfl,j',ht'⟩
   dsimp only
   have la:=j'.la
   have la':=j'.la'
   have lb:=j'.lb
   have lb':=j'.lb'
   have hla:na' - 1 < a.toList.length:=by rw [zb2]; omega
   have hlb:nb' - 1 < b.toList.length:=by rw [zb2]; omega
   have hSa:S a.toList[na' - 1]:=W.al _ (List.getElem_mem hla)
   have hSb:S b.toList[nb' - 1]:=W.bl _ (List.getElem_mem hlb)
   refine wpS_bind (zaN (zaR (by omega)) ?_)
   refine wpS_bind (zaN (zaR (by omega)) ?_)
   refine wpS_bind (C.ask hSb hSa hκ1 ?_)
   dsimp only
   cases e:lt b.toList[nb' - 1] a.toList[na' - 1] with
   | true=>
    rw [if_pos rfl]
    have m1:=hi_a W.sa la hla j'.mi fun y hy=>W.ord.tr (W.bl y (List.mem_of_mem_take hy)) hSb hSa (zgL W.ord W.sb W.bl hlb y hy) (W.ord.asym hSb hSa e)
    refine wpS_bind (zaN (zaR (by omega)) ?_)
    by_cases h3:(na' - 1 == 0)=true
    ·rw [if_pos h3]
     exact wpS_pure ⟨rfl,.inl ⟨_,_,rfl,zgQ W m1 (.inl (by simpa using h3))⟩⟩
    ·rw [if_neg h3]
     have h3':¬ na' - 1=0:=by simpa using h3
     split
     ·exact wpS_pure ⟨rfl,.inr ⟨_,_,_,_,_,rfl,⟨m1,by omega,by omega,lb,lb'⟩,by omega⟩⟩
     ·exact wpS_pure ⟨rfl,_,_,_,_,_,rfl,⟨m1,by omega,by omega,lb,lb'⟩,by omega⟩
   | false=>
    rw [if_neg (by simp)]
    have m1:=hi_b W.sb (by omega) hlb j'.mi fun y hy=>W.ord.tr (W.al y (List.mem_of_mem_take hy)) hSa hSb (zgL W.ord W.sa W.al hla y hy) e
    refine wpS_bind (zaN (zaR (by omega)) ?_)
    by_cases h3:(nb' - 1 == 1)=true
    ·rw [if_pos h3]
     exact wpS_pure ⟨rfl,.inl ⟨_,_,rfl,zf6 W hb h0 (by simpa using h3) m1⟩⟩
    ·rw [if_neg h3]
     have h3':¬ nb' - 1=1:=by simpa using h3
     split
     ·exact wpS_pure ⟨rfl,.inr ⟨_,_,_,_,_,rfl,⟨m1,la,la',by omega,by omega⟩,by omega⟩⟩
     ·exact wpS_pure ⟨rfl,_,_,_,_,_,rfl,⟨m1,la,la',by omega,by omega⟩,by omega⟩
  case post1=>
   rintro c st' ⟨rfl,⟨r,x,rfl,d⟩ | ⟨na',nb',out',ac,bc,rfl,j',ht'⟩⟩
   ·exact wpS_pure ⟨g1,_,_,rfl,d⟩
   dsimp only
   refine wpS_bind (zeN ?_)
   refine wpS_bind (wpS_mono (wpS_forRange
    (I:=fun t2 c st'=>MG st st'/\∃i k o m ac bc,c=(none,i,k,o,m,ac,bc)/\JH lt a b o i k/\t2 + i + k<=na' + nb')
    (Q:=fun c st'=>MG st st'/\((∃r x,c=(some r,x)/\Done lt (a.toList++b.toList) r.toList)\/∃i k o m ac bc,c=(none,i,k,o,m,ac,bc)/\JH lt a b o i k/\i + k<=na' + nb')) ?step2 ?fin2 ⟨g1,_,_,_,_,_,_,rfl,j',by omega⟩) ?post2)
   case fin2=>
    rintro c st' ⟨_,i,k,o,m,ac,bc,rfl,j2,ht2⟩
    have:=j2.la; have:=j2.lb; have:=j'.la'; have:=j'.lb'
    omega
   case post2=>
    rintro c st' ⟨g2,⟨r,x,rfl,d⟩ | ⟨i,k,o,m,ac,bc,rfl,j2,ht2⟩⟩
    ·exact wpS_pure ⟨g2,_,_,rfl,d⟩
    ·exact wpS_bind (zlr fun st3 g3=>wpS_pure ⟨g2.trans g3,i,k,o,_,rfl,j2,by omega⟩)
   case step2=>
    rintro t2 c st2 _ ht2 ⟨g2,i,k,o,m,ac,bc,rfl,j2,ht2'⟩
    dsimp only
    by_cases hm:m > 1
    ·rw [if_pos hm]
     exact wpS_bind (zlr fun st3 g3=>zpJ (mg:=(m - 1)) (ac:=ac) (bc:=bc) W C ((g2.trans g3).1.trans hκ) hb h0 j2 (fun r x d=>⟨g2.trans g3,.inl ⟨_,_,rfl,d⟩⟩) fun o' i' k' m x y j' hu=>⟨⟨g2.trans g3,.inr ⟨_,_,_,_,_,_,rfl,j',by omega⟩⟩,g2.trans g3,_,_,_,_,_,_,rfl,j',by omega⟩)
    ·rw [if_neg hm]
     exact wpS_bind (zlr fun st3 g3=>zpJ (mg:=m) (ac:=ac) (bc:=bc) W C ((g2.trans g3).1.trans hκ) hb h0 j2 (fun r x d=>⟨g2.trans g3,.inl ⟨_,_,rfl,d⟩⟩) fun o' i' k' m x y j' hu=>⟨⟨g2.trans g3,.inr ⟨_,_,_,_,_,_,rfl,j',by omega⟩⟩,g2.trans g3,_,_,_,_,_,_,rfl,j',by omega⟩)
end
structure KO {β:Type} (l:β->β->Bool):Prop where
 asym:∀{x y},l x y=true->l y x=false
 tr:∀{x y z},l y x=false->l z y=false->l z x=false
 anti:∀{x y},l x y=false->l y x=false->x=y
section
variable {M:Model} {A:Around} {E:Value->Shared->Prop} {s:Shared} {κ:SortKind} {S:Keyed->Prop} {β:Type} {l:β->β->Bool} {key:Keyed->β}
theorem KO.irr (O:KO l) (x:β):l x x=false:=by
 cases e:l x x with
 | false=>rfl
 | true=>rw [O.asym e] at e; exact e.symm
theorem KO.ord (O:KO l):Ord S fun x y=>l (key x) (key y):=⟨fun _ _=>O.asym,fun _ _ _=>O.tr⟩
def kk (key:Keyed->β) (a:Array Keyed) (i:Nat):β:=key (a.getD i (Value.none,Value.none))
theorem zmX {a b:Array Keyed} {i j:Nat} (h:a[i]? = b[j]?):kk key a i=kk key b j:=by
 unfold kk
 rw [Array.getD_eq_getD_getElem?,Array.getD_eq_getD_getElem?,h]
theorem zsO {a:Array Keyed} {i:Nat} {x:Keyed} (h:a[i]? = some x):kk key a i=key x:=by
 unfold kk
 rw [Array.getD_eq_getD_getElem?,h]; rfl
theorem zgH {st:SortSt} (C:Cmp M A E s κ S fun x y=>l (key x) (key y)) (hκ:kindOf st = κ) (hS:∀x∈(arrOf st).toList,S x) {i j:Nat} (hi:i < (arrOf st).size) (hj:j < (arrOf st).size) {Q:Option Bool->SortSt->Prop} (q:Q (some (l (kk key (arrOf st) i) (kk key (arrOf st) j))) st):wpS M A E s (ltAt' i j) Q st:=by
 rw [ltAt'_eq]
 refine wpS_bind (wpS_get ?_)
 refine wpS_bind (zaN (zaR hi) (wpS_bind (zaN (zaR hj) ?_)))
 rw [zsO (zaR hi),zsO (zaR hj)] at q
 exact C.ask (hS _ (List.getElem_mem _)) (hS _ (List.getElem_mem _)) hκ q
structure Fm (lo:Nat) (a a':Array Keyed):Prop where
 perm:a'.toList.Perm a.toList
 keep:∀i,i < lo->a'[i]? = a[i]?
theorem Fm.refl {lo:Nat} {a:Array Keyed}:Fm lo a a:=⟨.refl _,fun _ _=>rfl⟩
theorem Fm.trans {lo:Nat} {a b c:Array Keyed} (h:Fm lo a b) (k:Fm lo b c):Fm lo a c:=⟨k.perm.trans h.perm,fun i hi=>(k.keep i hi).trans (h.keep i hi)⟩
theorem Fm.size {lo:Nat} {a a':Array Keyed} (h:Fm lo a a'):a'.size=a.size:=by rw [<-zb2,<-zb2]; exact h.perm.length_eq
theorem Fm.all {lo:Nat} {a a':Array Keyed} (h:Fm lo a a') (hS:∀x∈a.toList,S x):∀x∈a'.toList,S x:=fun x hx=>hS x (h.perm.mem_iff.mp hx)
def rev (a:Array Keyed) (i j:Nat):Array Keyed:=mirror a i j ((j - i) / 2)
theorem zml {a:Array Keyed} {i j:Nat} (hj:j<=a.size) (k:Nat):kk key (rev a i j) k=if i<=k/\k < j then kk key a (i + j - 1 - k) else kk key a k:=by
 have h:=getElem?_mirror_all (i:=i) hj k
 split
 ·rename_i c; rw [if_pos c] at h; exact zmX h
 ·rename_i c; rw [if_neg c] at h; exact zmX h
theorem ziH {a:Array Keyed} {lo i j:Nat} (hj:j<=a.size) (h:lo<=i):Fm lo a (rev a i j):=
 ⟨(mirror_perm a i j _).toList,fun k hk=>(getElem?_mirror_all (i:=i) hj k).trans (if_neg (by omega))⟩
theorem ziG {st:SortSt} {i j:Nat} {Q:Unit->SortSt->Prop} (q:Q () (setArr st (rev (arrOf st) i j))):wpS M A E s (reverseSlice' i j) Q st:=by
 rw [reverseSlice'_eq]
 exact wpS_modify q
def Up (l:β->β->Bool) (key:Keyed->β) (a:Array Keyed) (lo n:Nat):Prop:=∀i j,i<=j->j < n->l (kk key a (lo + j)) (kk key a (lo + i))=false
def Dn (l:β->β->Bool) (key:Keyed->β) (a:Array Keyed) (lo n:Nat):Prop:=∀i j,i<=j->j < n->l (kk key a (lo + i)) (kk key a (lo + j))=false
def Eqs (key:Keyed->β) (a:Array Keyed) (lo i n:Nat):Prop:=∀k,i<=k->k < n->kk key a (lo + k)=kk key a (lo + (n - 1))
theorem Up.one (O:KO l) {a:Array Keyed} {lo:Nat}:Up l key a lo 1:=fun i j hij hj=>by
 have:i=j:=by omega
 subst this; exact O.irr _
theorem Up.snoc (O:KO l) {a:Array Keyed} {lo n:Nat} (hn:0 < n) (h:Up l key a lo n) (k:l (kk key a (lo + n)) (kk key a (lo + (n - 1)))=false):Up l key a lo (n + 1):=fun i j hij hj=>by
 rcases Nat.lt_or_ge j n with z | z
 ·exact h i j hij z
 ·have:j=n:=by omega
  subst this
  rcases Nat.lt_or_ge i j with y | y
  ·exact O.tr (h i (j - 1) (by omega) (by omega)) k
  ·have:i=j:=by omega
   subst this; exact O.irr _
theorem Dn.snoc (O:KO l) {a:Array Keyed} {lo n:Nat} (hn:0 < n) (h:Dn l key a lo n) (k:l (kk key a (lo + (n - 1))) (kk key a (lo + n))=false):Dn l key a lo (n + 1):=fun i j hij hj=>by
 rcases Nat.lt_or_ge j n with z | z
 ·exact h i j hij z
 ·have:j=n:=by omega
  subst this
  rcases Nat.lt_or_ge i j with y | y
  ·exact O.tr k (h i (j - 1) (by omega) (by omega))
  ·have:i=j:=by omega
   subst this; exact O.irr _
theorem zhW {a:Array Keyed} {lo i n:Nat} (hj:lo + n<=a.size) (h:Eqs key a lo i n) (k:Nat):kk key (rev a (lo + i) (lo + n)) k=kk key a k:=by
 rw [zml hj]
 split
 ·rename_i c
  have h1:=h (k - lo) (by omega) (by omega)
  have h2:=h (i + n - 1 - (k - lo)) (by omega) (by omega)
  have e1:lo + (k - lo)=k:=by omega
  have e2:lo + (i + n - 1 - (k - lo))=lo + i + (lo + n) - 1 - k:=by omega
  rw [e1] at h1
  rw [e2] at h2
  rw [h1,h2]
 ·rfl
theorem znR {a:Array Keyed} {lo n:Nat} (hj:lo + n<=a.size) (h:Dn l key a lo n):Up l key (rev a lo (lo + n)) lo n:=fun i j hij hjn=>by
 rw [zml hj,zml hj,if_pos (by omega),if_pos (by omega)]
 have e1:lo + (lo + n) - 1 - (lo + j)=lo + (n - 1 - j):=by omega
 have e2:lo + (lo + n) - 1 - (lo + i)=lo + (n - 1 - i):=by omega
 rw [e1,e2]
 exact h _ _ (by omega) (by omega)
theorem znr (O:KO l) {a:Array Keyed} {lo n:Nat} (h:Eqs key a lo 0 n):Dn l key a lo n:=fun i j hij hj=>by
 rw [h i (by omega) (by omega),h j (by omega) (by omega)]; exact O.irr _
theorem Dn.congr {a a':Array Keyed} {lo n:Nat} (h:Dn l key a lo n) (e:∀k,k < lo + n->kk key a' k=kk key a k):Dn l key a' lo n:=fun i j hij hj=>by rw [e _ (by omega),e _ (by omega)]; exact h i j hij hj
end
section
variable {M:Model} {A:Around} {E:Value->Shared->Prop} {s:Shared} {κ:SortKind} {S:Keyed->Prop} {β:Type} {l:β->β->Bool} {key:Keyed->β}
abbrev AS:=Option (Option Nat) × Nat
abbrev DS:=Option (Option Nat) × Nat × Nat
def ascB (lo:Nat):Nat->AS->SM (ForInStep AS):=fun _ c=>ltAt' (lo + c.2) (lo + c.2 - 1) >>= fun r=>match r with
 | some x=>if x=true then pure (.done (none,c.2)) else pure (.yield (none,c.2 + 1))
 | _=>pure (.done (some none,c.2))
def dscB (lo:Nat):Nat->DS->SM (ForInStep DS):=fun _ c=>ltAt' (lo + c.2.1) (lo + c.2.1 - 1) >>= fun r=>match r with
 | some x=>if x=true then (if c.2.2 > 0 then reverseSlice' (lo + c.2.1 - (c.2.2 + 1)) (lo + c.2.1) >>= fun _=>pure (.yield (none,c.2.1 + 1,0)) else pure (.yield (none,c.2.1 + 1,0)))
  else ltAt' (lo + c.2.1 - 1) (lo + c.2.1) >>= fun r=>match r with
   | some y=>if y=true then pure (.done (none,c.2.1,c.2.2)) else pure (.yield (none,c.2.1 + 1,c.2.2 + 1))
   | _=>pure (.done (some none,c.2.1,c.2.2))
 | _=>pure (.done (some none,c.2.1,c.2.2))
section
variable (C:Cmp M A E s κ S fun x y=>l (key x) (key y)) (O:KO l) {st:SortSt} {lo n nrem:Nat}
include C O
theorem zpW (hκ:kindOf st = κ) (hS:∀x∈(arrOf st).toList,S x) (h1:1<=n) (hn:n<=nrem) (hz:lo + nrem<=(arrOf st).size) (hu:Up l key (arrOf st) lo n) {Q:AS->SortSt->Prop}
  (q:∀k,n<=k->k<=nrem->Up l key (arrOf st) lo k->(k < nrem->l (kk key (arrOf st) (lo + k)) (kk key (arrOf st) (lo + (k - 1)))=true)->Q (none,k) st):wpS M A E s (forIn [n:nrem] ((none,n):AS) (ascB lo)) Q st:=by
 refine wpS_forRange (I:=fun t c st'=>st'=st/\c=(none,t)/\Up l key (arrOf st) lo t) ?_ ?_ ⟨rfl,rfl,hu⟩
 ·rintro t c st' ht1 ht2 ⟨rfl,rfl,hu'⟩
  unfold ascB
  refine wpS_bind (zgH C hκ hS (by show lo + t < _; omega) (by show lo + t - 1 < _; omega) ?_)
  have e0:lo + t - 1=lo + (t - 1):=by omega
  show wpS M A E s (if l (kk key (arrOf st') (lo + t)) (kk key (arrOf st') (lo + t - 1))=true then _ else _) _ _
  rw [e0]
  cases e:l (kk key (arrOf st') (lo + t)) (kk key (arrOf st') (lo + (t - 1))) with
  | true=>exact wpS_pure (q t ht1 (by omega) hu' fun _=>e)
  | false=>exact wpS_pure ⟨rfl,rfl,hu'.snoc O (by omega) e⟩
 ·rintro c st' ⟨rfl,rfl,hu'⟩
  have e:max n nrem=nrem:=by omega
  rw [e] at hu' ⊢
  exact q nrem hn (Nat.le_refl _) hu' fun z=>absurd z (Nat.lt_irrefl _)
def RunQ (l:β->β->Bool) (key:Keyed->β) (lo nrem:Nat) (st:SortSt) (Q:Option Nat->SortSt->Prop):Prop:=∀k a,1<=k->k<=nrem->Fm lo (arrOf st) a->Up l key a lo k->Q (some k) (setArr st a)
theorem zpR (hκ:kindOf st = κ) (hS:∀x∈(arrOf st).toList,S x) (h1:1<=n) (hn:n + 1<=nrem) (hz:lo + nrem<=(arrOf st).size) (hd:Dn l key (arrOf st) lo (n + 1)) {Q:DS->SortSt->Prop}
  (q:∀a n' e,Fm lo (arrOf st) a->n + 1<=n'->n'<=nrem->e < n'->Dn l key a lo n'->Eqs key a lo (n' - (e + 1)) n'->Q (none,n',e) (setArr st a)):wpS M A E s (forIn [n + 1:nrem] ((none,n + 1,0):DS) (dscB lo)) Q st:=by
 have eq1:Eqs key (arrOf st) lo (n + 1 - (0 + 1)) (n + 1):=fun k k1 k2=>by
  have:k=n + 1 - 1:=by omega
  rw [this]
 refine wpS_mono (wpS_forRange (I:=fun t c st'=>∃a e,st'=setArr st a/\Fm lo (arrOf st) a/\c=(none,t,e)/\e < t/\Dn l key a lo t/\Eqs key a lo (t - (e + 1)) t)
  (Q:=fun c st'=>∃a n' e,st'=setArr st a/\Fm lo (arrOf st) a/\c=(none,n',e)/\n + 1<=n'/\n'<=nrem/\e < n'/\Dn l key a lo n'/\Eqs key a lo (n' - (e + 1)) n') ?step ?fin ⟨arrOf st,0,rfl,.refl,rfl,by omega,hd,eq1⟩) ?post
 case fin=>
  rintro c st' ⟨a,e,rfl,f,rfl,h3,h4,h5⟩
  have em:max (n + 1) nrem=nrem:=by omega
  rw [em] at h3 h4 h5 ⊢
  exact ⟨a,nrem,e,rfl,f,rfl,hn,Nat.le_refl _,h3,h4,h5⟩
 case step=>
  rintro t c st' ht1 ht2 ⟨a,e,rfl,f,rfl,h3,h4,h5⟩
  unfold dscB
  have hsz:a.size=(arrOf st).size:=f.size
  have e0:lo + t - 1=lo + (t - 1):=by omega
  refine wpS_bind (zgH (st:=setArr st a) C hκ (f.all hS) (by show lo + t < a.size; omega) (by show lo + t - 1 < a.size; omega) ?_)
  show wpS M A E s (if l (kk key a (lo + t)) (kk key a (lo + t - 1))=true then _ else _) _ _
  rw [e0]
  cases e1:l (kk key a (lo + t)) (kk key a (lo + (t - 1))) with
  | true=>
   rw [if_pos rfl]
   by_cases he:e > 0
   ·rw [if_pos he]
    have ei:lo + t - (e + 1)=lo + (t - (e + 1)):=by omega
    refine wpS_bind (ziG (wpS_pure ?_))
    show ∃a' e',setArr (setArr st a) (rev a (lo + t - (e + 1)) (lo + t))=setArr st a'/\_
    rw [ei]
    have kq:=zhW (key:=key) (a:=a) (by omega) h5
    refine ⟨_,0,rfl,f.trans (ziH (by omega) (by omega)),rfl,by omega,(Dn.snoc O (by omega) h4 (O.asym e1)).congr fun k _=>kq k,fun k k1 k2=>?_⟩
    have:k=t + 1 - 1:=by omega
    rw [this]
   ·rw [if_neg he]
    refine wpS_pure ⟨a,0,rfl,f,rfl,by omega,Dn.snoc O (by omega) h4 (O.asym e1),fun k k1 k2=>?_⟩
    have:k=t + 1 - 1:=by omega
    rw [this]
  | false=>
   rw [if_neg (by simp)]
   refine wpS_bind (zgH (st:=setArr st a) C hκ (f.all hS) (by show lo + (t - 1) < a.size; omega) (by show lo + t < a.size; omega) ?_)
   show wpS M A E s (if l (kk key a (lo + (t - 1))) (kk key a (lo + t))=true then _ else _) _ _
   cases e2:l (kk key a (lo + (t - 1))) (kk key a (lo + t)) with
   | true=>
    rw [if_pos rfl]
    exact wpS_pure ⟨a,t,e,rfl,f,rfl,ht1,by omega,h3,h4,h5⟩
   | false=>
    rw [if_neg (by simp)]
    refine wpS_pure ⟨a,e + 1,rfl,f,rfl,by omega,Dn.snoc O (by omega) h4 e2,fun k k1 k2=>?_⟩
    have eq:=O.anti e1 e2
    show kk key a (lo + k)=kk key a (lo + t)
    rw [eq]
    rcases Nat.lt_or_ge k t with z | z
    ·exact h5 k (by omega) z
    ·have:k=t:=by omega
     rw [this]; exact eq
 case post=>
  rintro c st' ⟨a,n',e,rfl,f,rfl,h1',h2',h3,h4,h5⟩
  exact q a n' e f h1' h2' h3 h4 h5
theorem zie (hκ:kindOf st = κ) (hS:∀x∈(arrOf st).toList,S x) (h1:1<=n) (hn:n<=nrem) (hz:lo + nrem<=(arrOf st).size) (hd:Dn l key (arrOf st) lo n) {Q:Option Nat->SortSt->Prop} (q:RunQ l key lo nrem st Q) {k:AS->SM (Option Nat)} (hk:∀m,k (none,m)=pure (some m)) :
  wpS M A E s (reverseSlice' lo (lo + n) >>= fun _=>forIn [n:nrem] ((none,n):AS) (ascB lo) >>= k) Q st:=by
 have f:=ziH (lo:=lo) (i:=lo) (j:=lo + n) (a:=arrOf st) (by omega) (Nat.le_refl _)
 refine wpS_bind (ziG ?_)
 refine wpS_bind (zpW (st:=setArr st (rev (arrOf st) lo (lo + n))) C O hκ (f.all hS) h1 hn (by show lo + nrem<=(rev (arrOf st) lo (lo + n)).size; rw [f.size]; exact hz) (znR (by omega) hd) fun k k1 k2 k3 _=>?_)
 rw [hk]
 exact wpS_pure (q k _ (by omega) k2 f k3)
theorem zoT (hκ:kindOf st = κ) (hS:∀x∈(arrOf st).toList,S x) (h1:1<=nrem) (hz:lo + nrem<=(arrOf st).size) {Q:Option Nat->SortSt->Prop} (q:RunQ l key lo nrem st Q):wpS M A E s (countRun' lo nrem) Q st:=by
 refine wpS_bind (zpW C O hκ hS (Nat.le_refl 1) h1 hz (Up.one O) fun n n1 n2 hu hs=>?_)
 dsimp only
 by_cases e1:(n == nrem)=true
 ·rw [if_pos e1]
  exact wpS_pure (q n _ n1 n2 .refl hu)
 rw [if_neg e1]
 have e1':¬ n=nrem:=by simpa using e1
 have hs:=hs (by omega)
 by_cases e2:n > 1
 ·rw [if_pos e2]
  refine wpS_bind (zgH C hκ hS (by omega) (by omega) ?_)
  have e0:lo + n - 1=lo + (n - 1):=by omega
  rw [e0]
  cases e3:l (kk key (arrOf st) lo) (kk key (arrOf st) (lo + (n - 1))) with
  | true=>exact wpS_pure (q n _ n1 n2 .refl hu)
  | false=>
   have eqs:Eqs key (arrOf st) lo 0 n:=fun k _ k2=>by
    have a1:=hu 0 k (by omega) k2
    have a2:=hu k (n - 1) (by omega) (by omega)
    exact O.anti (O.tr e3 a1) a2
   have kq:=zhW (key:=key) (a:=arrOf st) (i:=0) (by omega) eqs
   have f:=ziH (lo:=lo) (i:=lo) (j:=lo + n) (a:=arrOf st) (by omega) (Nat.le_refl _)
   refine wpS_bind (ziG ?_)
   have d1:Dn l key (rev (arrOf st) lo (lo + n)) lo n:=(znr O eqs).congr fun k _=>kq k
   refine wpS_bind (zeN ?_)
   refine wpS_bind (zpR (st:=setArr st (rev (arrOf st) lo (lo + n))) C O hκ (f.all hS) n1 (by omega) (by show lo + nrem<=(rev (arrOf st) lo (lo + n)).size; rw [f.size]; exact hz) (Dn.snoc O (by omega) d1 (by
    show l (kk key (rev (arrOf st) (lo + 0) (lo + n)) (lo + (n - 1))) (kk key (rev (arrOf st) (lo + 0) (lo + n)) (lo + n))=false
    rw [kq,kq]; exact O.asym hs)) fun a n' e fa g1 g2 g3 g4 g5=>?_)
   dsimp only
   have hsa:a.size=(arrOf st).size:=(f.trans fa).size
   have q':∀a',Fm lo (arrOf st) a'->RunQ l key lo nrem (setArr st a') Q:=fun a' fa' k b k1 k2 f2 u=>q k b k1 k2 (fa'.trans f2) u
   by_cases he:e > 0
   ·rw [if_pos he]
    have ei:lo + n' - (e + 1)=lo + (n' - (e + 1)):=by omega
    have kq:=zhW (key:=key) (a:=a) (by omega) g5
    have f2:Fm lo (arrOf st) (rev a (lo + n' - (e + 1)) (lo + n')):=(f.trans fa).trans (ziH (by omega) (by omega))
    refine wpS_bind (ziG ?_)
    exact zie (st:=setArr st (rev a (lo + n' - (e + 1)) (lo + n'))) C O hκ (f2.all hS) (by omega) g2 (by show lo + nrem<=(rev a (lo + n' - (e + 1)) (lo + n')).size; rw [f2.size]; exact hz) (g4.congr fun k _=>by rw [ei]; exact kq k) (q' _ f2) fun _=>rfl
   ·rw [if_neg he]
    exact zie (st:=setArr st a) C O hκ (((f.trans fa)).all hS) (by omega) g2 (by show lo + nrem<=a.size; omega) g4 (q' _ (f.trans fa)) fun _=>rfl
 ·rw [if_neg e2]
  have hn:n=1:=by omega
  subst hn
  refine wpS_bind (zeN ?_)
  refine wpS_bind (zpR C O hκ hS (Nat.le_refl 1) (by omega) hz (Dn.snoc O (by omega) (fun i j hij hj=>by
   have:i=j:=by omega
   subst this; exact O.irr _) (O.asym hs)) fun a n' e fa g1 g2 g3 g4 g5=>?_)
  dsimp only
  have hsa:a.size=(arrOf st).size:=fa.size
  have q':∀a',Fm lo (arrOf st) a'->RunQ l key lo nrem (setArr st a') Q:=fun a' fa' k b k1 k2 f2 u=>q k b k1 k2 (fa'.trans f2) u
  by_cases he:e > 0
  ·rw [if_pos he]
   have ei:lo + n' - (e + 1)=lo + (n' - (e + 1)):=by omega
   have kq:=zhW (key:=key) (a:=a) (by omega) g5
   have f2:Fm lo (arrOf st) (rev a (lo + n' - (e + 1)) (lo + n')):=fa.trans (ziH (by omega) (by omega))
   refine wpS_bind (ziG ?_)
   exact zie (st:=setArr st (rev a (lo + n' - (e + 1)) (lo + n'))) C O hκ (f2.all hS) (by omega) g2 (by show lo + nrem<=(rev a (lo + n' - (e + 1)) (lo + n')).size; rw [f2.size]; exact hz) (g4.congr fun k _=>by rw [ei]; exact kq k) (q' _ f2) fun _=>rfl
  ·rw [if_neg he]
   exact zie (st:=setArr st a) C O hκ ((fa).all hS) (by omega) g2 (by show lo + nrem<=a.size; omega) g4 (q' _ fa) fun _=>rfl
end
end
section
variable {M:Model} {A:Around} {E:Value->Shared->Prop} {s:Shared} {κ:SortKind} {S:Keyed->Prop} {β:Type} {l:β->β->Bool} {key:Keyed->β}
theorem zpV {a:Array Keyed} {lo k p:Nat} (h:lo + k < a.size) (hp:p<=k) (i:Nat):kk key (bubble a (lo + k) (k - p)) (lo + i)=if i=p then kk key a (lo + k) else if p < i/\i<=k then kk key a (lo + (i - 1)) else kk key a (lo + i):=by
 have g:=getElem?_bubble h (k - p) (by omega) (lo + i)
 by_cases c1:i=p
 ·rw [if_pos (by omega)] at g; rw [if_pos c1]; exact zmX g
 ·rw [if_neg (by omega)] at g; rw [if_neg c1]
  by_cases c2:p < i/\i<=k
  ·rw [if_pos (by omega)] at g; rw [if_pos c2]
   have e:lo + i - 1=lo + (i - 1):=by omega
   rw [e] at g
   exact zmX g
  ·rw [if_neg (by omega)] at g; rw [if_neg c2]; exact zmX g
theorem ztx {a:Array Keyed} {lo k p:Nat} (h:lo + k < a.size) (hp:p<=k):Fm lo a (bubble a (lo + k) (k - p)):=
 ⟨(bubble_perm a _ _).toList,fun i hi=>by rw [getElem?_bubble h (k - p) (by omega) i,if_neg (by omega),if_neg (by omega)]⟩
theorem zru (O:KO l) {a:Array Keyed} {lo k p:Nat} (h:lo + k < a.size) (hp:p<=k) (hu:Up l key a lo k) (h1:∀i,i < p->l (kk key a (lo + k)) (kk key a (lo + i))=false) (h2:∀i,p<=i->i < k->l (kk key a (lo + k)) (kk key a (lo + i))=true):Up l key (bubble a (lo + k) (k - p)) lo (k + 1):=fun i j hij hj=>by
 rw [zpV h hp,zpV h hp]
 rcases Nat.lt_trichotomy j p with cj | cj | cj
 ·rw [if_neg (by omega),if_neg (by omega),if_neg (by omega),if_neg (by omega)]
  exact hu i j hij (by omega)
 ·rw [if_pos cj]
  rcases Nat.lt_or_ge i p with ci | ci
  ·rw [if_neg (by omega),if_neg (by omega)]; exact h1 i ci
  ·rw [if_pos (by omega)]; exact O.irr _
 ·rw [if_neg (by omega),if_pos (by omega)]
  rcases Nat.lt_trichotomy i p with ci | ci | ci
  ·rw [if_neg (by omega),if_neg (by omega)]; exact hu i (j - 1) (by omega) (by omega)
  ·rw [if_pos ci]; exact O.asym (h2 (j - 1) (by omega) (by omega))
  ·rw [if_neg (by omega),if_pos (by omega)]; exact hu (i - 1) (j - 1) (by omega) (by omega)
theorem ztz (C:Cmp M A E s κ S fun x y=>l (key x) (key y)) (O:KO l) {st:SortSt} {lo n ok:Nat} (hκ:kindOf st = κ) (hS:∀x∈(arrOf st).toList,S x) (h1:1<=ok) (hn:ok<=n) (hz:lo + n<=(arrOf st).size) (hu:Up l key (arrOf st) lo ok) {Q:Bool->SortSt->Prop}
  (q:∀a,Fm lo (arrOf st) a->Up l key a lo n->Q true (setArr st a)):wpS M A E s (binarySort' lo n ok) Q st:=by
 refine wpS_bind (wpS_mono (wpS_forRange (I:=fun k c st'=>c=(none,())/\∃a,st'=setArr st a/\Fm lo (arrOf st) a/\Up l key a lo k)
  (Q:=fun c st'=>c=(none,())/\∃a,st'=setArr st a/\Fm lo (arrOf st) a/\Up l key a lo n) ?step ?fin ⟨rfl,arrOf st,rfl,.refl,by rw [Nat.max_eq_left h1]; exact hu⟩) ?post)
 case post=>
  rintro c st' ⟨rfl,a,rfl,f,u⟩
  exact wpS_pure (q a f u)
 case fin=>
  rintro c st' ⟨rfl,a,rfl,f,u⟩
  have e:max (max ok 1) n=n:=by omega
  rw [e] at u
  exact ⟨rfl,a,rfl,f,u⟩
 case step=>
  rintro k c st' hk1 hk2 ⟨rfl,a,rfl,f,u⟩
  have hsz:a.size=(arrOf st).size:=f.size
  dsimp only
  refine wpS_bind (wpS_mono (wpS_forRange (I:=fun t c st'=>st'=setArr st a/\∃p r,c=(none,p,r)/\p<=r/\r<=k/\r<=p + (k - t)/\(∀i,i < p->l (kk key a (lo + k)) (kk key a (lo + i))=false)/\∀i,r<=i->i < k->l (kk key a (lo + k)) (kk key a (lo + i))=true)
   (Q:=fun c st'=>st'=setArr st a/\∃p r,c=(none,p,r)/\p<=k/\(∀i,i < p->l (kk key a (lo + k)) (kk key a (lo + i))=false)/\∀i,p<=i->i < k->l (kk key a (lo + k)) (kk key a (lo + i))=true) ?step1 ?fin1 ⟨rfl,0,k,rfl,by omega,by omega,by omega,fun i hi=>by omega,fun i h1 h2=>by omega⟩) ?post1)
  case fin1=>
   rintro c st' ⟨rfl,p,r,rfl,i1,i2,i3,i4,i5⟩
   have:p=r:=by omega
   subst this
   exact ⟨rfl,p,p,rfl,i2,i4,i5⟩
  case step1=>
   rintro t c st' _ ht ⟨rfl,p,r,rfl,i1,i2,i3,i4,i5⟩
   dsimp only
   by_cases hge:p >= r
   ·rw [if_pos hge]
    have:p=r:=by omega
    subst this
    exact wpS_pure ⟨rfl,p,p,rfl,i2,i4,i5⟩
   ·rw [if_neg hge]
    refine wpS_bind (zgH (st:=setArr st a) C hκ (f.all hS) (by show lo + k < a.size; omega) (by show lo + (p + r) / 2 < a.size; omega) ?_)
    show wpS M A E s (if l (kk key a (lo + k)) (kk key a (lo + (p + r) / 2))=true then _ else _) _ _
    cases e:l (kk key a (lo + k)) (kk key a (lo + (p + r) / 2)) with
    | true=>
     rw [if_pos rfl]
     refine wpS_pure ⟨rfl,p,(p + r) / 2,rfl,by omega,by omega,by omega,i4,fun i h1 h2=>?_⟩
     rcases Nat.lt_or_ge i r with z | z
     ·cases e2:l (kk key a (lo + k)) (kk key a (lo + i)) with
      | true=>rfl
      | false=>
       have:=O.tr (u ((p + r) / 2) i (by omega) (by omega)) e2
       rw [e] at this; cases this
     ·exact i5 i z h2
    | false=>
     rw [if_neg (by simp)]
     refine wpS_pure ⟨rfl,(p + r) / 2 + 1,r,rfl,by omega,by omega,by omega,fun i h1=>?_,i5⟩
     exact O.tr (u i ((p + r) / 2) (by omega) (by omega)) e
  case post1=>
   rintro c st' ⟨rfl,p,r,rfl,i2,i4,i5⟩
   dsimp only
   refine wpS_bind ?_
   show wpS M A E s (moveDown' (lo + k) (lo + p)) _ _
   rw [moveDown'_eq]
   have e:lo + k - (lo + p)=k - p:=by omega
   rw [e]
   refine wpS_modify (wpS_pure ⟨rfl,_,rfl,f.trans (ztx (a:=a) (by omega) i2),zru (a:=a) O (by omega) i2 u i4 i5⟩)
end
section
variable {M:Model} {A:Around} {E:Value->Shared->Prop} {s:Shared} {κ:SortKind} {S:Keyed->Prop} {lt:Keyed->Keyed->Bool}
theorem put_ok {st st':SortSt} {Q:PUnit->SortSt->Prop} (h:Q ⟨⟩ st'):wpS M A E s (set st':SM PUnit) Q st:=by
 unfold wpS; rw [StateT.run_set]; exact wpAny_pure ⟨rfl,h⟩
def wrt (p:Nat) (a:Array Keyed) (r:List (Keyed × Nat)):Array Keyed:=r.foldl (fun a x=>match x with | (y,j)=>a.setIfInBounds (p + j) y) a
theorem zo6 (p:Nat):∀(r:List Keyed) (n:Nat) (a:Array Keyed),p + n + r.length<=a.size->(wrt p a (r.zipIdx n)).toList=a.toList.take (p + n)++r++a.toList.drop (p + n + r.length)
 | [],n,a,_=>by simp [wrt]
 | x::r,n,a,h=>by
  simp only [List.length_cons] at h
  have ih:=zo6 p r (n + 1) (a.setIfInBounds (p + n) x) (by rw [Array.size_setIfInBounds]; omega)
  have e:wrt p a ((x::r).zipIdx n)=wrt p (a.setIfInBounds (p + n) x) (r.zipIdx (n + 1)):=by rw [List.zipIdx_cons]; rfl
  have hl:p + n < a.toList.length:=by rw [zb2]; omega
  have e2:(a.setIfInBounds (p + n) x).toList=a.toList.take (p + n)++x::a.toList.drop (p + n + 1):=by
   rw [Array.toList_setIfInBounds,List.set_eq_take_append_cons_drop,if_pos hl]
  rw [e,ih,e2]
  have e3:(a.toList.take (p + n)).length=p + n:=by rw [List.length_take]; omega
  have e4:(a.toList.take (p + n)++x::a.toList.drop (p + n + 1)).take (p + (n + 1))=a.toList.take (p + n)++[x]:=by
   rw [show p + (n + 1)=(a.toList.take (p + n)).length + 1 by rw [e3]; omega,List.take_length_add_append]; rfl
  have e5:(a.toList.take (p + n)++x::a.toList.drop (p + n + 1)).drop (p + (n + 1) + r.length)=a.toList.drop (p + n + (r.length + 1)):=by
   rw [show p + (n + 1) + r.length=(a.toList.take (p + n)).length + (1 + r.length) by rw [e3]; omega,List.drop_length_add_append,Nat.add_comm 1,List.drop_succ_cons,List.drop_drop]
   congr 1; omega
  rw [e4,e5,List.append_assoc,List.append_assoc,List.append_assoc]; rfl
theorem Done.of (W:Two S lt la lb) {k n:Nat} {r:List Keyed} (hb:0 < lb.length) (ha:la.length - 1 < la.length) (c1:∀x∈la.take k,lt lb[0] x=false) (c2:∀x∈lb.drop n,lt x la[la.length - 1]=false) (d:Done lt (la.drop k++lb.take n) r):Done lt (la++lb) (la.take k++r++lb.drop n):=by
 have O:=W.ord
 have hb0:=W.bl _ (List.getElem_mem hb)
 have ha0:=W.al _ (List.getElem_mem ha)
 have sb:lb=lb[0]::lb.drop 1:=za1 (i:=0) hb
 have allA:∀x∈la,lt la[la.length - 1] x=false:=fun x hx=>zgL (n:=la.length) O W.sa W.al ha x (by rw [List.take_length]; exact hx)
 have allB:∀x,S x->lt lb[0] x=false->∀y∈lb,lt y x=false:=fun x hx h y hy=>by
  rw [sb] at hy
  exact zhq O (by rw [<-sb]; exact W.sb) hx (fun z hz=>W.bl z (by rw [sb]; exact hz)) h y hy
 have sA:=W.sa
 rw [<-List.take_append_drop k la] at sA
 have sB:=W.sb
 rw [<-List.take_append_drop n lb] at sB
 have hr:∀x∈r,x∈la.drop k\/x∈lb.take n:=fun x hx=>List.mem_append.mp (d.2.mem_iff.mp hx)
 refine ⟨zaC.mpr ⟨zaC.mpr ⟨(zaC.mp sA).1,d.1,fun x hx y hy=>?_⟩,(zaC.mp sB).2.1,fun x hx y hy=>?_⟩,?_⟩
 ·rcases hr y hy with z | z
  ·exact (zaC.mp sA).2.2 x hx y z
  ·exact allB x (W.al x (List.mem_of_mem_take hx)) (c1 x hx) y (List.mem_of_mem_take z)
 ·have fromA:x∈la->lt y x=false:=fun h=>O.tr (W.al x h) ha0 (W.bl y (List.mem_of_mem_drop hy)) (allA x h) (c2 y hy)
  rcases List.mem_append.mp hx with z | z
  ·exact fromA (List.mem_of_mem_take z)
  ·rcases hr x z with w | w
   ·exact fromA (List.mem_of_mem_drop w)
   ·exact (zaC.mp sB).2.2 x w y hy
 ·have p1:(la.take k++r++lb.drop n).Perm (la.take k++(la.drop k++lb.take n)++lb.drop n):=List.Perm.append_right _ (List.Perm.append_left _ d.2)
  refine p1.trans ?_
  rw [<-List.append_assoc,List.take_append_drop,List.append_assoc,List.take_append_drop]
theorem zuz (C:Cmp M A E s κ S lt) {st:SortSt} {i pw pw':Nat} {pre la lb post:List Keyed} (W:Two S lt la lb) (hκ:kindOf st = κ) (hf:failedOf st=none) (harr:(arrOf st).toList=pre++la++lb++post) (hla:0 < la.length) (hlb:0 < lb.length)
  (hi:(pendingOf st)[i]? = some (pre.length,la.length,pw)) (hi1:(pendingOf st)[i + 1]? = some (pre.length + la.length,lb.length,pw')) {Q:Bool->SortSt->Prop}
  (q:∀m st',Done lt (la++lb) m->kindOf st' = κ->failedOf st'=none->(arrOf st').toList=pre++m++post->pendingOf st'=((pendingOf st).setIfInBounds i (pre.length,la.length + lb.length,pw)).eraseIdxIfInBounds (i + 1)->Q true st'):wpS M A E s (mergeAt' i) Q st:=by
 have O:=W.ord
 have hsz:(arrOf st).size=pre.length + la.length + lb.length + post.length:=by rw [<-zb2,harr]; simp only [List.length_append]
 have gA:∀j,j < la.length->(arrOf st)[pre.length + j]? = la[j]?:=fun j hj=>by
  rw [<-Array.getElem?_toList,harr,List.append_assoc,List.append_assoc,List.getElem?_append_right (by omega),List.getElem?_append_left (by omega)]
  congr 1; omega
 have gB:∀j,j < lb.length->(arrOf st)[pre.length + la.length + j]? = lb[j]?:=fun j hj=>by
  rw [<-Array.getElem?_toList,harr,List.append_assoc,List.getElem?_append_right (by rw [List.length_append]; omega),List.getElem?_append_left (by rw [List.length_append]; omega)]
  congr 1; rw [List.length_append]; omega
 have PA:Part S (arrOf st) pre.length la.length la:=⟨rfl,gA,W.al⟩
 have PB:Part S (arrOf st) (pre.length + la.length) lb.length lb:=⟨rfl,gB,W.bl⟩
 have ha1:la.length - 1 < la.length:=by omega
 have hSb:=W.bl _ (List.getElem_mem hlb)
 have hSa:=W.al _ (List.getElem_mem ha1)
 have hκ1:kindOf (SortSt.mk' (kindOf st) (arrOf st) (((pendingOf st).setIfInBounds i (pre.length,la.length + lb.length,pw)).eraseIdxIfInBounds (i + 1)) (gallopOf st) (failedOf st)) = κ:=hκ
 refine wpS_bind (wpS_get ?_)
 rw [hi,hi1]
 dsimp only
 refine wpS_bind (put_ok ?_)
 refine wpS_bind (zaN ((gB 0 hlb).trans (List.getElem?_eq_getElem hlb)) ?_)
 refine wpS_bind (zdv C PA hSb hκ1 hla (zfp O W.sa W.al hSb) fun k k1 k2 k3=>?_)
 have c1:=zgW k2
 have r1:=zfm k3
 dsimp only
 by_cases h1:(la.length - k == 0)=true
 ·rw [if_pos h1]
  have h1':la.length - k=0:=by simpa using h1
  rw [List.take_of_length_le (by omega)] at c1
  have dd:=Done.of (k:=la.length) (n:=0) (r:=[]) W hlb ha1 (by rw [List.take_length]; exact c1) (fun x hx=>by
   rw [List.drop_zero] at hx
   have sb:lb=lb[0]::lb.drop 1:=za1 (i:=0) hlb
   rw [sb] at hx
   exact zhq O (by rw [<-sb]; exact W.sb) hSa (fun z hz=>W.bl z (by rw [sb]; exact hz)) (c1 _ (List.getElem_mem ha1)) x hx) ⟨.nil,by rw [List.drop_length]; exact .refl _⟩
  rw [List.take_length,List.drop_zero,List.append_nil] at dd
  exact wpS_pure (q _ _ dd hκ hf (by show (arrOf st).toList=_; rw [harr]; simp only [List.append_assoc]) rfl)
 rw [if_neg h1]
 have h1':¬ la.length - k=0:=by simpa using h1
 have e9:pre.length + k + (la.length - k) - 1=pre.length + (la.length - 1):=by omega
 refine wpS_bind (zaN (x:=la[la.length - 1]) (by rw [e9]; exact (gA _ ha1).trans (List.getElem?_eq_getElem ha1)) ?_)
 refine wpS_bind (zdv C PB hSa hκ1 (by omega) (zgD O W.sb W.bl hSa) fun n n1 n2 n3=>?_)
 have c2:=zii n2
 have r2:=zgx n3
 dsimp only
 have xa:((arrOf st).extract (pre.length + k) (pre.length + la.length)).toList=la.drop k:=by
  rw [za0,harr,List.append_assoc,List.append_assoc,List.drop_append,List.drop_eq_nil_of_le (by omega),List.nil_append,show pre.length + k - pre.length=k by omega,List.drop_append_of_le_length (by omega)]
  exact List.take_left' (by rw [List.length_drop]; omega)
 have xb:((arrOf st).extract (pre.length + la.length) (pre.length + la.length + n)).toList=lb.take n:=by
  rw [za0,harr,List.append_assoc,List.drop_append,List.drop_eq_nil_of_le (by rw [List.length_append]; omega),List.nil_append,show pre.length + la.length - (pre++la).length=0 by rw [List.length_append]; omega,List.drop_zero,Nat.add_sub_cancel_left]
  exact List.take_append_of_le_length n1
 by_cases h2:(n == 0)=true
 ·rw [if_pos h2]
  have h2':n=0:=by simpa using h2
  subst h2'
  have dd:=Done.of (k:=k) (n:=0) (r:=la.drop k) W hlb ha1 c1 r2 ⟨W.sa.sublist (List.drop_sublist _ _),by simp⟩
  rw [List.take_append_drop,List.drop_zero] at dd
  exact wpS_pure (q _ _ dd hκ hf (by show (arrOf st).toList=_; rw [harr]; simp only [List.append_assoc]) rfl)
 rw [if_neg h2]
 have h2':¬ n=0:=by simpa using h2
 have W2:Two S lt ((arrOf st).extract (pre.length + k) (pre.length + la.length)).toList ((arrOf st).extract (pre.length + la.length) (pre.length + la.length + n)).toList:=by
  rw [xa,xb]
  exact ⟨O,W.sa.sublist (List.drop_sublist _ _),W.sb.sublist (List.take_sublist _ _),fun x hx=>W.al x (List.mem_of_mem_drop hx),fun x hx=>W.bl x (List.mem_of_mem_take hx)⟩
 have za:((arrOf st).extract (pre.length + k) (pre.length + la.length)).size=la.length - k:=by rw [<-zb2,xa,List.length_drop]
 have zb:((arrOf st).extract (pre.length + la.length) (pre.length + la.length + n)).size=n:=by rw [<-zb2,xb,List.length_take]; omega
 have hx0:∀y∈((arrOf st).extract (pre.length + k) (pre.length + la.length)).toList,lt y (((arrOf st).extract (pre.length + la.length) (pre.length + la.length + n)).toList[0]'(by have h:=zb2 ((arrOf st).extract (pre.length + la.length) (pre.length + la.length + n)); omega))=false:=fun y hy=>by
  have e:((arrOf st).extract (pre.length + la.length) (pre.length + la.length + n)).toList[0]'(by have h:=zb2 ((arrOf st).extract (pre.length + la.length) (pre.length + la.length + n)); omega)=lb[0]:=by simp only [xb,List.getElem_take]
  rw [e]
  rw [xa] at hy
  exact O.asym hSb (W.al y (List.mem_of_mem_drop hy)) (r1 y hy)
 have hxz:∀x∈((arrOf st).extract (pre.length + la.length) (pre.length + la.length + n)).toList,lt (((arrOf st).extract (pre.length + k) (pre.length + la.length)).toList[((arrOf st).extract (pre.length + k) (pre.length + la.length)).size - 1]'(by have h:=zb2 ((arrOf st).extract (pre.length + k) (pre.length + la.length)); omega)) x=false:=fun x hx=>by
  have e:((arrOf st).extract (pre.length + k) (pre.length + la.length)).toList[((arrOf st).extract (pre.length + k) (pre.length + la.length)).size - 1]'(by have h:=zb2 ((arrOf st).extract (pre.length + k) (pre.length + la.length)); omega)=la[la.length - 1]:=by
   have h:((arrOf st).extract (pre.length + k) (pre.length + la.length)).toList[((arrOf st).extract (pre.length + k) (pre.length + la.length)).size - 1]? = some la[la.length - 1]:=by
    rw [xa,za,List.getElem?_drop,show k + (la.length - k - 1)=la.length - 1 by omega]; exact List.getElem?_eq_getElem ha1
   exact (List.getElem?_eq_some_iff.mp h).2
  rw [e]
  rw [xb] at hx
  exact O.asym (W.bl x (List.mem_of_mem_take hx)) hSa (c2 x hx)
 have last:∀(r:Array Keyed) (st':SortSt),Done lt (((arrOf st).extract (pre.length + k) (pre.length + la.length)).toList++((arrOf st).extract (pre.length + la.length) (pre.length + la.length + n)).toList) r.toList ->
   MG (SortSt.mk' (kindOf st) (arrOf st) (((pendingOf st).setIfInBounds i (pre.length,la.length + lb.length,pw)).eraseIdxIfInBounds (i + 1)) (gallopOf st) (failedOf st)) st' ->
   Q (failedOf (setArr st' (wrt (pre.length + k) (arrOf st') r.toList.zipIdx))).isNone (setArr st' (wrt (pre.length + k) (arrOf st') r.toList.zipIdx)):=fun r st' d g=>by
  rw [xa,xb] at d
  have hr:r.toList.length=la.length - k + n:=by rw [d.2.length_eq,List.length_append,List.length_drop,List.length_take]; omega
  have g2:arrOf st'=arrOf st:=g.2.1
  have g4:failedOf st'=none:=g.2.2.2.trans hf
  have e:=zo6 (pre.length + k) r.toList 0 (arrOf st') (by rw [g2,hr,hsz]; omega)
  have n0:(failedOf (setArr st' (wrt (pre.length + k) (arrOf st') r.toList.zipIdx))).isNone=true:=by show (failedOf st').isNone=true; rw [g4]; rfl
  rw [n0]
  refine q _ _ (Done.of W hlb ha1 c1 r2 d) (g.1.trans hκ) g4 ?_ g.2.2.1
  show (wrt (pre.length + k) (arrOf st') (r.toList.zipIdx 0)).toList=_
  rw [e,g2,harr,hr]
  have t1:(pre++la++lb++post).take (pre.length + k + 0)=pre++la.take k:=by
   rw [Nat.add_zero,List.append_assoc,List.append_assoc,List.take_length_add_append,List.take_append_of_le_length (by omega)]
  have t2:(pre++la++lb++post).drop (pre.length + k + 0 + (la.length - k + n))=lb.drop n++post:=by
   rw [show pre.length + k + 0 + (la.length - k + n)=(pre++la).length + n by rw [List.length_append]; omega,List.append_assoc (pre++la),List.drop_length_add_append,List.drop_append_of_le_length n1]
  rw [t1,t2]
  simp only [List.append_assoc]
 by_cases h3:la.length - k<=n
 ·rw [if_pos h3]
  refine wpS_bind (zuj C W2 hκ1 (by omega) (by omega) hx0 hxz fun r st' d g=>?_)
  exact wpS_bind (wpS_modify (wpS_bind (wpS_get (wpS_pure (last r st' d g)))))
 ·rw [if_neg h3]
  refine wpS_bind (zuq C W2 hκ1 (by omega) (by omega) hx0 hxz fun r st' d g=>?_)
  exact wpS_bind (wpS_modify (wpS_bind (wpS_get (wpS_pure (last r st' d g)))))
end
section
variable {M:Model} {A:Around} {E:Value->Shared->Prop} {s:Shared} {κ:SortKind} {S:Keyed->Prop} {lt:Keyed->Keyed->Bool}
theorem zkv {r:List Keyed} (h:r≠[]):0 < r.length:=List.length_pos_iff.mpr h
def Pos:Nat->List (Nat × Nat × Nat)->List (List Keyed)->Prop
 | _,[],[]=>True
 | s,a::p,r::rs=>a.1=s/\a.2.1=r.length/\Pos (s + r.length) p rs
 | _,_,_=>False
theorem Pos.len:∀{s:Nat} {p:List (Nat × Nat × Nat)} {rs:List (List Keyed)},Pos s p rs->p.length=rs.length
 | _,[],[],_=>rfl
 | _,_::_,_::_,h=>by rw [List.length_cons,List.length_cons,Pos.len h.2.2]
 | _,[],_::_,h=>h.elim
 | _,_::_,[],h=>h.elim
theorem Pos.cut:∀{i s:Nat} {p:List (Nat × Nat × Nat)} {rs:List (List Keyed)},Pos s p rs->i + 1 < rs.length ->
  ∃u x y v pu a b pv,rs=u++x::y::v/\p=pu++a::b::pv/\u.length=i/\pu.length=i/\a.1=s + u.flatten.length/\a.2.1=x.length/\b.1=s + u.flatten.length + x.length/\b.2.1=y.length /\
   ∀(m:List Keyed) (pw:Nat),m.length=x.length + y.length->Pos s (pu++(a.1,x.length + y.length,pw)::pv) (u++m::v)
 | 0,s,a::b::p,x::y::rs,h,_=>⟨[],x,y,rs,[],a,b,p,rfl,rfl,rfl,rfl,h.1,h.2.1,h.2.2.1,h.2.2.2.1,fun m pw hm=>⟨h.1,hm.symm,by rw [hm,<-Nat.add_assoc]; exact h.2.2.2.2⟩⟩
 | 0,s,a::b::p,[],h,_=>h.elim
 | 0,s,a::b::p,[_],h,z=>by simp at z
 | 0,s,[_],_::_::_,h,_=>h.2.2.elim
 | 0,s,[_],[],h,_=>h.elim
 | 0,s,[_],[_],h,z=>by simp at z
 | 0,s,[],_::_,h,_=>h.elim
 | 0,s,[],[],h,z=>by simp at z
 | i + 1,s,[],[],h,z=>by simp at z
 | i + 1,s,[],_::_,h,_=>h.elim
 | i + 1,s,_::_,[],h,_=>h.elim
 | i + 1,s,a::p,r::rs,h,z=>by
  obtain ⟨u,x,y,v,pu,a',b,pv,e1,e2,e3,e4,e5,e6,e7,e8,e9⟩:=Pos.cut (i:=i) h.2.2 (by simpa using z)
  refine ⟨r::u,x,y,v,a::pu,a',b,pv,by rw [e1]; rfl,by rw [e2]; rfl,by rw [List.length_cons,e3],by rw [List.length_cons,e4],?_,e6,?_,e8,fun m pw hm=>⟨h.1,h.2.1,e9 m pw hm⟩⟩
  ·rw [e5,List.flatten_cons,List.length_append]; omega
  ·rw [e7,List.flatten_cons,List.length_append]; omega
theorem Pos.snoc:∀{s:Nat} {p:List (Nat × Nat × Nat)} {rs:List (List Keyed)} {r:List Keyed} {n pw:Nat},Pos s p rs->n=s + rs.flatten.length->Pos s (p++[(n,r.length,pw)]) (rs++[r])
 | _,[],[],_,_,_,_,h=>⟨h,rfl,trivial⟩
 | _,_::_,_::_,_,_,_,h,e=>⟨h.1,h.2.1,Pos.snoc h.2.2 (by rw [e,List.flatten_cons,List.length_append]; omega)⟩
 | _,[],_::_,_,_,_,h,_=>h.elim
 | _,_::_,[],_,_,_,h,_=>h.elim
theorem Pos.mod:∀{s:Nat} {p:List (Nat × Nat × Nat)} {rs:List (List Keyed)} {f:Nat × Nat × Nat->Nat × Nat × Nat} {i:Nat},(∀a,(f a).1=a.1/\(f a).2.1=a.2.1)->Pos s p rs->Pos s (p.modify i f) rs
 | _,[],[],_,0,_,_=>trivial
 | _,[],[],_,_ + 1,_,_=>trivial
 | _,a::p,_::_,_,0,hf,h=>⟨(hf a).1.trans h.1,(hf a).2.trans h.2.1,h.2.2⟩
 | _,a::p,_::_,_,i + 1,hf,h=>⟨h.1,h.2.1,Pos.mod hf h.2.2⟩
 | _,[],_::_,_,_,_,h=>h.elim
 | _,_::_,[],_,_,_,h=>h.elim
structure RS (κ:SortKind) (lt:Keyed->Keyed->Bool) (T:List Keyed) (st:SortSt) (rs:List (List Keyed)) (rest:List Keyed):Prop where
 k:kindOf st = κ
 f:failedOf st=none
 arr:(arrOf st).toList=rs.flatten++rest
 perm:(rs.flatten++rest).Perm T
 pos:Pos 0 (pendingOf st).toList rs
 ne:∀r∈rs,r≠[]
 srt:∀r∈rs,Srt lt r
variable {T rest:List Keyed} {rs:List (List Keyed)} {st:SortSt}
theorem RS.size (R:RS κ lt T st rs rest):(pendingOf st).size=rs.length:=by rw [<-R.pos.len]; exact (Array.length_toList).symm
theorem zjD (C:Cmp M A E s κ S lt) (O:Ord S lt) (hT:∀x∈T,S x) (R:RS κ lt T st rs rest) {i:Nat} (hi:i + 1 < rs.length) {Q:Bool->SortSt->Prop}
  (q:∀st' rs',RS κ lt T st' rs' rest->rs'.length + 1=rs.length->rs'.flatten.length=rs.flatten.length->Q true st'):wpS M A E s (mergeAt' i) Q st:=by
 obtain ⟨u,x,y,v,pu,a,b,pv,e1,e2,e3,e4,e5,e6,e7,e8,e9⟩:=R.pos.cut hi
 subst e1
 have hx:x∈u++x::y::v:=by simp
 have hy:y∈u++x::y::v:=by simp
 have fl:(u++x::y::v).flatten=u.flatten++x++y++v.flatten:=by simp
 have all:∀z∈(u++x::y::v).flatten,S z:=fun z hz=>hT z (R.perm.mem_iff.mp (List.mem_append_left _ hz))
 have W:Two S lt x y:=⟨O,R.srt x hx,R.srt y hy,fun z hz=>all z (List.mem_flatten.mpr ⟨x,hx,hz⟩),fun z hz=>all z (List.mem_flatten.mpr ⟨y,hy,hz⟩)⟩
 have lp:∀j,(pendingOf st)[j]? = (pu++a::b::pv)[j]?:=fun j=>by rw [<-e2]; exact (Array.getElem?_toList ..).symm
 obtain ⟨a1,a2,a3⟩:=a
 obtain ⟨b1,b2,b3⟩:=b
 simp only at e5 e6 e7 e8 e9
 rw [Nat.zero_add] at e5 e7
 subst e5 e6 e7 e8
 refine zuz (pre:=u.flatten) (la:=x) (lb:=y) (post:=v.flatten++rest) (pw:=a3) (pw':=b3) C W R.k R.f (by rw [R.arr,fl]; simp only [List.append_assoc]) (zkv (R.ne x hx)) (zkv (R.ne y hy)) (by rw [lp,<-e4,List.getElem?_append_right (Nat.le_refl _),Nat.sub_self]; rfl) (by rw [lp,<-e4,List.getElem?_append_right (Nat.le_succ _),show pu.length + 1 - pu.length=1 by omega]; rfl) fun m st' d k1 k2 k3 k4=>?_
 have ml:m.length=x.length + y.length:=by rw [d.2.length_eq,List.length_append]
 have fl2:(u++m::v).flatten=u.flatten++m++v.flatten:=by simp
 refine q st' (u++m::v) ⟨k1,k2,by rw [k3,fl2]; simp only [List.append_assoc],?_,?_,fun r hr=>?_,fun r hr=>?_⟩ (by simp; omega) (by rw [fl,fl2]; simp [ml]; omega)
 ·refine List.Perm.trans ?_ R.perm
  refine List.Perm.append_right rest ?_
  rw [fl,fl2,List.append_assoc u.flatten x y]
  exact List.Perm.append_right _ (List.Perm.append_left _ d.2)
 ·have ep:(pendingOf st').toList=pu++(u.flatten.length,x.length + y.length,a3)::pv:=by
   rw [k4,Array.toList_eraseIdxIfInBounds,Array.toList_setIfInBounds,e2,<-e4,List.set_append_right _ _ (Nat.le_refl _),Nat.sub_self,List.eraseIdx_append_of_length_le (Nat.le_succ _),show pu.length + 1 - pu.length=1 by omega]; rfl
  rw [ep]
  exact e9 m a3 ml
 ·rcases List.mem_append.mp hr with z | z
  ·exact R.ne r (List.mem_append_left _ z)
  ·rcases List.mem_cons.mp z with w | w
   ·intro n0; rw [w] at n0; rw [n0] at ml; have:=zkv (R.ne x hx); simp at ml; omega
   ·exact R.ne r (by simp [w])
 ·rcases List.mem_append.mp hr with z | z
  ·exact R.srt r (List.mem_append_left _ z)
  ·rcases List.mem_cons.mp z with w | w
   ·rw [w]; exact d.1
   ·exact R.srt r (by simp [w])
end
section
variable {M:Model} {A:Around} {E:Value->Shared->Prop} {s:Shared} {κ:SortKind} {S:Keyed->Prop} {β:Type} {l:β->β->Bool} {key:Keyed->β}
theorem zrt {a:Array Keyed} {lo n:Nat} (h:Up l key a lo n) (hz:lo + n<=a.size):Srt (fun x y=>l (key x) (key y)) ((a.toList.drop lo).take n):=by
 refine List.pairwise_iff_getElem.mpr fun i j hi hj hij=>?_
 have hl:((a.toList.drop lo).take n).length=n:=by rw [List.length_take,List.length_drop,zb2]; omega
 have g:∀k,k < n->∀hk,((a.toList.drop lo).take n)[k]'hk=a.getD (lo + k) (Value.none,Value.none):=fun k hk hk'=>by
  rw [List.getElem_take,List.getElem_drop,Array.getElem_toList]
  simp [Array.getD,show lo + k < a.size by omega]
 rw [hl] at hi hj
 rw [g i hi,g j hj]
 exact h i j (by omega) hj
theorem zpP {lo:Nat} {a a':Array Keyed} {u v:List Keyed} (f:Fm lo a a') (e:a.toList=u++v) (hu:u.length=lo):a'.toList=u++a'.toList.drop lo:=by
 have t:a'.toList.take lo=u:=by
  have h1:a.toList.take lo=u:=by rw [e,<-hu]; exact List.take_left
  rw [<-h1]
  refine List.ext_getElem? fun i=>?_
  rcases Nat.lt_or_ge i lo with z | z
  ·rw [List.getElem?_take_of_lt z,List.getElem?_take_of_lt z,Array.getElem?_toList,Array.getElem?_toList]; exact f.keep i z
  ·rw [List.getElem?_eq_none (by rw [List.length_take]; omega),List.getElem?_eq_none (by rw [List.length_take]; omega)]
 rw [<-t]; exact (List.take_append_drop lo _).symm
theorem zrW (C:Cmp M A E s κ S fun x y=>l (key x) (key y)) (O:KO l) {st:SortSt} {lo n force:Nat} {c:Prop} [Decidable c] {t:String} {γ:Type} {p1 p2 bad:SM γ} {Q:γ->SortSt->Prop}
  (hκ:kindOf st = κ) (hS:∀x∈(arrOf st).toList,S x) (h1:1<=n) (hn:c->n<=force) (hz:c->lo + force<=(arrOf st).size) (hu:Up l key (arrOf st) lo n)
  (q1:∀a,c->Fm lo (arrOf st) a->Up l key a lo force->wpS M A E s p1 Q (setArr st a)) (q2:∀a,Fm lo (arrOf st) a->Up l key a lo n->wpS M A E s p2 Q (setArr st a)) :
  wpS M A E s (if c then (liftM (rule t):SM Unit) >>= fun _=>binarySort' lo force n >>= fun b=>if (! b)=true then bad else p1 else p2) Q st:=by
 by_cases hc:c
 ·rw [if_pos hc]
  exact wpS_bind (zeN (wpS_bind (ztz C O hκ hS h1 (hn hc) (hz hc) hu fun a f u=>q1 a hc f u)))
 ·rw [if_neg hc]
  exact q2 (arrOf st) .refl hu
theorem RS.push {T:List Keyed} {a:Array Keyed} {lo n t N:Nat} {st:SortSt} {rs:List (List Keyed)} (R:RS κ (fun x y=>l (key x) (key y)) T st rs (a.toList.drop lo)) (e:rs.flatten.length=lo) (n1:1<=n) (hn:lo + n<=a.size) (u:Up l key a lo n) (ht:t<=lo\/N<=lo) :
  ∃rs' rest lo',((none,lo + n):Option Unit × Nat)=(none,lo')/\RS κ (fun x y=>l (key x) (key y)) T (setPending st ((pendingOf st).push (lo,n,0))) rs' rest/\lo'=rs'.flatten.length/\(t + 1<=lo'\/N<=lo'):=by
 have hr:((a.toList.drop lo).take n).length=n:=by rw [List.length_take,List.length_drop,zb2]; omega
 have fl:(rs++[(a.toList.drop lo).take n]).flatten++(a.toList.drop lo).drop n=rs.flatten++a.toList.drop lo:=by
  rw [List.flatten_append,List.flatten_singleton,List.append_assoc,List.take_append_drop]
 refine ⟨rs++[(a.toList.drop lo).take n],(a.toList.drop lo).drop n,_,rfl,⟨R.k,R.f,by rw [fl]; exact R.arr,by rw [fl]; exact R.perm,?_,fun r hr'=>?_,fun r hr'=>?_⟩,by rw [List.flatten_append,List.flatten_singleton,List.length_append,hr,e],by omega⟩
 ·show Pos 0 ((pendingOf st).push (lo,n,0)).toList _
  rw [Array.toList_push]
  have:=R.pos.snoc (r:=(a.toList.drop lo).take n) (n:=lo) (pw:=0) (by omega)
  rw [hr] at this
  exact this
 ·rcases List.mem_append.mp hr' with z | z
  ·exact R.ne r z
  ·rw [List.mem_singleton.mp z]; intro n0; rw [n0] at hr; simp at hr; omega
 ·rcases List.mem_append.mp hr' with z | z
  ·exact R.srt r z
  ·rw [List.mem_singleton.mp z]; exact zrt u hn
theorem zs7 {c:Prop} [Decidable c] {p:Nat} (h:1 < p):(if c then p - 2 - 1 else p - 2) + 1 < p:=by split <;> omega
theorem sort_ok (C:Cmp M A E s κ S fun x y=>l (key x) (key y)) (O:KO l) {st:SortSt} (hκ:kindOf st = κ) (hf:failedOf st=none) (hp:pendingOf st = #[]) (hS:∀x∈(arrOf st).toList,S x) {Q:Unit->SortSt->Prop}
  (q:∀st',failedOf st'=none->Srt (fun x y=>l (key x) (key y)) (arrOf st').toList->(arrOf st').toList.Perm (arrOf st).toList->Q () st'):wpS M A E s sortRuns' Q st:=by
 have OO:Ord S fun x y=>l (key x) (key y):=O.ord
 have R0:RS κ (fun x y=>l (key x) (key y)) (arrOf st).toList st [] (arrOf st).toList:=⟨hκ,hf,rfl,.refl _,by rw [hp]; trivial,fun _ z=>(nomatch z),fun _ z=>(nomatch z)⟩
 refine wpS_bind (wpS_get ?_)
 generalize hN:(arrOf st).size=N
 refine wpS_bind (wpS_mono (wpS_forRange (I:=fun t c st'=>∃rs rest lo,c=(none,lo)/\RS κ (fun x y=>l (key x) (key y)) (arrOf st).toList st' rs rest/\lo=rs.flatten.length/\(t<=lo\/N<=lo))
  (Q:=fun c st'=>∃rs rest lo,c=(none,lo)/\RS κ (fun x y=>l (key x) (key y)) (arrOf st).toList st' rs rest/\lo=rs.flatten.length/\N<=lo) ?step ?fin ⟨[],_,0,rfl,R0,rfl,.inl (Nat.le_refl _)⟩) ?post)
 case fin=>
  rintro c st' ⟨rs,rest,lo,rfl,R,e,h⟩
  exact ⟨rs,rest,lo,rfl,R,e,by omega⟩
 case post=>
  rintro c st1 ⟨rs,rest,lo,rfl,R,e,h⟩
  dsimp only
  have hlen:N=rs.flatten.length + rest.length:=by rw [<-hN,<-zb2,<-R.perm.length_eq,List.length_append]
  have hrest:rest=[]:=List.eq_nil_of_length_eq_zero (by omega)
  subst hrest
  have hrs:rs.length<=N:=by
   rw [hlen,List.length_nil,Nat.add_zero]
   have:∀us:List (List Keyed),(∀r∈us,r≠[])->us.length<=us.flatten.length:=fun us=>by
    induction us with
    | nil=>intro _; exact Nat.le_refl _
    | cons u us ih=>
     intro hh
     have:=zkv (hh u List.mem_cons_self)
     have:=ih fun r hr=>hh r (List.mem_cons_of_mem _ hr)
     rw [List.length_cons,List.flatten_cons,List.length_append]; omega
   exact this rs R.ne
  refine wpS_bind (wpS_mono (wpS_forRange (I:=fun t c st'=>c=(none,())/\∃rs,RS κ (fun x y=>l (key x) (key y)) (arrOf st).toList st' rs []/\(rs.length + t<=N\/rs.length<=1))
   (Q:=fun c st'=>c=(none,())/\∃rs,RS κ (fun x y=>l (key x) (key y)) (arrOf st).toList st' rs []/\rs.length<=1) ?step1 ?fin1 ⟨rfl,rs,R,.inl (by omega)⟩) ?post1)
  case fin1=>
   rintro c st' ⟨rfl,rs,R,h⟩
   exact ⟨rfl,rs,R,by omega⟩
  case post1=>
   rintro c st' ⟨rfl,rs,R,h⟩
   refine wpS_pure (q st' R.f ?_ (by rw [R.arr]; exact R.perm))
   rw [R.arr,List.append_nil]
   match rs,h,R with
   | [],_,_=>exact .nil
   | [r],_,R=>simpa using R.srt r List.mem_cons_self
  case step1=>
   rintro t c st' _ ht ⟨rfl,rs,R,h⟩
   refine wpS_bind (wpS_get ?_)
   have hsz:(pendingOf st').size=rs.length:=R.size
   by_cases h1:(pendingOf st').size<=1
   ·rw [if_pos h1]
    exact wpS_pure ⟨rfl,rs,R,by omega⟩
   ·rw [if_neg h1]
    have h1':1 < (pendingOf st').size:=by omega
    refine wpS_bind (zjD C OO hS R (by rw [<-hsz]; exact zs7 h1') fun st2 rs2 R2 l2 _=>?_)
    exact wpS_pure ⟨rfl,rs2,R2,by omega⟩
 case step=>
  rintro t c st1 _ ht ⟨rs,rest,lo,rfl,R,e,h⟩
  dsimp only
  have hlen:N=rs.flatten.length + rest.length:=by rw [<-hN,<-zb2,<-R.perm.length_eq,List.length_append]
  have hsz1:(arrOf st1).size=N:=by rw [<-zb2,R.arr,List.length_append,hlen]
  have hS1:∀x∈(arrOf st1).toList,S x:=fun x hx=>hS x (R.perm.mem_iff.mp (by rw [<-R.arr]; exact hx))
  by_cases hge:lo >= N
  ·rw [if_pos hge]
   exact wpS_pure ⟨rs,rest,lo,rfl,R,e,hge⟩
  rw [if_neg hge]
  refine wpS_bind (zoT C O R.k hS1 (by omega) (by omega) fun k a k1 k2 f u=>?_)
  dsimp only
  have fs:=f.size
  refine zrW (c:=k < minRun' N N 0) (lo:=lo) (force:=min (N - lo) (minRun' N N 0)) (st:=setArr st1 a) C O R.k (f.all hS1) k1 (fun hc=>by omega) (fun hc=>by show _<=a.size; omega) u (fun a' hc f2 u2=>?_) fun a' f2 u2=>?_
  ·skip
   have f3:=f.trans f2
   have fs3:=f3.size
   have n1:1<=(min (N - lo) (minRun' N N 0)):=by omega
   have hn':lo + (min (N - lo) (minRun' N N 0))<=a'.size:=by omega
   have ca:=zpP f3 R.arr e.symm
   have R1:RS κ (fun x y=>l (key x) (key y)) (arrOf st).toList (setArr st1 a') rs (a'.toList.drop lo):=⟨R.k,R.f,ca,by rw [<-ca]; exact f3.perm.trans (by rw [R.arr]; exact R.perm),R.pos,R.ne,R.srt⟩
   refine wpS_bind (wpS_get ?_)
   cases hb:(pendingOf (setArr st1 a')).back? with
   | none=>
    dsimp only
    exact wpS_bind (wpS_modify (wpS_pure (RS.push R1 e.symm n1 hn' u2 h)))
   | some b=>
    obtain ⟨s1,n1',pw0⟩:=b
    dsimp only
    refine wpS_bind (wpS_mono (wpS_forRange (I:=fun _ c st'=>c=(none,())/\∃rs,RS κ (fun x y=>l (key x) (key y)) (arrOf st).toList st' rs (a'.toList.drop lo)/\rs.flatten.length=lo)
     (Q:=fun c st'=>c=(none,())/\∃rs,RS κ (fun x y=>l (key x) (key y)) (arrOf st).toList st' rs (a'.toList.drop lo)/\rs.flatten.length=lo) ?step2 ?fin2 ⟨rfl,rs,R1,e.symm⟩) ?post2)
    case fin2=>exact fun c st' h=>h
    case post2=>
     rintro c st2 ⟨rfl,rs2,R2,e2⟩
     dsimp only
     refine wpS_bind (wpS_modify ?_)
     have R3:RS κ (fun x y=>l (key x) (key y)) (arrOf st).toList (setPending st2 ((pendingOf st2).modify ((pendingOf st2).size - 1) fun x=>match x with | (a,b,_)=>(a,b,power' N (2 * s1 + n1') (2 * s1 + n1' + n1' + (min (N - lo) (minRun' N N 0))) N))) rs2 (a'.toList.drop lo):=
      ⟨R2.k,R2.f,R2.arr,R2.perm,by
       show Pos 0 ((pendingOf st2).modify _ _).toList _
       rw [Array.toList_modify]
       exact Pos.mod (fun a=>⟨rfl,rfl⟩) R2.pos,R2.ne,R2.srt⟩
     exact wpS_bind (wpS_modify (wpS_pure (RS.push R3 e2 n1 hn' u2 h)))
    case step2=>
     rintro t2 c st2 _ ht2 ⟨rfl,rs2,R2,e2⟩
     refine wpS_bind (wpS_get ?_)
     have hsz2:(pendingOf st2).size=rs2.length:=R2.size
     cases hp2:(if (pendingOf st2).size > 1 then (pendingOf st2)[(pendingOf st2).size - 2]? else none) with
     | none=>exact wpS_pure ⟨rfl,rs2,R2,e2⟩
     | some b=>
      obtain ⟨b1,b2,b3⟩:=b
      dsimp only
      have h1:(pendingOf st2).size > 1:=by
       by_cases h1:(pendingOf st2).size > 1
       ·exact h1
       ·rw [if_neg h1] at hp2; cases hp2
      split
      ·exact wpS_pure ⟨rfl,rs2,R2,e2⟩
      ·exact wpS_bind (zjD (i:=(pendingOf st2).size - 2) C OO hS R2 (by omega) fun st3 rs3 R3 l3 l4=>wpS_pure ⟨rfl,rs3,R3,by omega⟩)
  ·skip
   have f3:=f.trans f2
   have fs3:=f3.size
   have n1:1<=k:=by omega
   have hn':lo + k<=a'.size:=by omega
   have ca:=zpP f3 R.arr e.symm
   have R1:RS κ (fun x y=>l (key x) (key y)) (arrOf st).toList (setArr st1 a') rs (a'.toList.drop lo):=⟨R.k,R.f,ca,by rw [<-ca]; exact f3.perm.trans (by rw [R.arr]; exact R.perm),R.pos,R.ne,R.srt⟩
   refine wpS_bind (wpS_get ?_)
   cases hb:(pendingOf (setArr st1 a')).back? with
   | none=>
    dsimp only
    exact wpS_bind (wpS_modify (wpS_pure (RS.push R1 e.symm n1 hn' u2 h)))
   | some b=>
    obtain ⟨s1,n1',pw0⟩:=b
    dsimp only
    refine wpS_bind (wpS_mono (wpS_forRange (I:=fun _ c st'=>c=(none,())/\∃rs,RS κ (fun x y=>l (key x) (key y)) (arrOf st).toList st' rs (a'.toList.drop lo)/\rs.flatten.length=lo)
     (Q:=fun c st'=>c=(none,())/\∃rs,RS κ (fun x y=>l (key x) (key y)) (arrOf st).toList st' rs (a'.toList.drop lo)/\rs.flatten.length=lo) ?step2 ?fin2 ⟨rfl,rs,R1,e.symm⟩) ?post2)
    case fin2=>exact fun c st' h=>h
    case post2=>
     rintro c st2 ⟨rfl,rs2,R2,e2⟩
     dsimp only
     refine wpS_bind (wpS_modify ?_)
     have R3:RS κ (fun x y=>l (key x) (key y)) (arrOf st).toList (setPending st2 ((pendingOf st2).modify ((pendingOf st2).size - 1) fun x=>match x with | (a,b,_)=>(a,b,power' N (2 * s1 + n1') (2 * s1 + n1' + n1' + k) N))) rs2 (a'.toList.drop lo):=
      ⟨R2.k,R2.f,R2.arr,R2.perm,by
       show Pos 0 ((pendingOf st2).modify _ _).toList _
       rw [Array.toList_modify]
       exact Pos.mod (fun a=>⟨rfl,rfl⟩) R2.pos,R2.ne,R2.srt⟩
     exact wpS_bind (wpS_modify (wpS_pure (RS.push R3 e2 n1 hn' u2 h)))
    case step2=>
     rintro t2 c st2 _ ht2 ⟨rfl,rs2,R2,e2⟩
     refine wpS_bind (wpS_get ?_)
     have hsz2:(pendingOf st2).size=rs2.length:=R2.size
     cases hp2:(if (pendingOf st2).size > 1 then (pendingOf st2)[(pendingOf st2).size - 2]? else none) with
     | none=>exact wpS_pure ⟨rfl,rs2,R2,e2⟩
     | some b=>
      obtain ⟨b1,b2,b3⟩:=b
      dsimp only
      have h1:(pendingOf st2).size > 1:=by
       by_cases h1:(pendingOf st2).size > 1
       ·exact h1
       ·rw [if_neg h1] at hp2; cases hp2
      split
      ·exact wpS_pure ⟨rfl,rs2,R2,e2⟩
      ·exact wpS_bind (zjD (i:=(pendingOf st2).size - 2) C OO hS R2 (by omega) fun st3 rs3 R3 l3 l4=>wpS_pure ⟨rfl,rs3,R3,by omega⟩)
end
end BS
section
namespace BS
open PySem PyProof.Rows
theorem lx_ko:KO HT.lexLt where
 asym:=fun {x}=>by
  induction x with
  | nil=>intro y h; cases y <;> rfl
  | cons a x ih=>
   intro y h
   cases y with
   | nil=>cases h
   | cons b y=>
    rw [HT.lexLt_cons] at h ⊢
    by_cases e:a=b
    ·subst e; rw [if_pos rfl] at h ⊢; exact ih h
    ·rw [if_neg e] at h; rw [if_neg (Ne.symm e)]
     have:=of_decide_eq_true h
     exact decide_eq_false (by omega)
 tr:=fun {x}=>by
  induction x with
  | nil=>intro y z h k; cases z <;> rfl
  | cons a x ih=>
   intro y z h k
   cases y with
   | nil=>cases h
   | cons b y=>
    cases z with
    | nil=>cases k
    | cons c z=>
     rw [HT.lexLt_cons] at h k ⊢
     by_cases e:b=a
     ·subst e
      rw [if_pos rfl] at h
      by_cases e2:c=b
      ·subst e2; rw [if_pos rfl] at k ⊢; exact ih h k
      ·rw [if_neg e2] at k ⊢; exact k
     ·rw [if_neg e] at h
      have h':=of_decide_eq_false h
      by_cases e2:c=b
      ·subst e2; rw [if_neg e]; exact h
      ·rw [if_neg e2] at k
       have k':=of_decide_eq_false k
       rw [if_neg (by omega)]
       exact decide_eq_false (by omega)
 anti:=fun {x}=>by
  induction x with
  | nil=>intro y h k; cases y with
   | nil=>rfl
   | cons b y=>cases h
  | cons a x ih=>
   intro y h k
   cases y with
   | nil=>cases k
   | cons b y=>
    rw [HT.lexLt_cons] at h k
    by_cases e:a=b
    ·subst e; rw [if_pos rfl] at h k; rw [ih h k]
    ·rw [if_neg e] at h; rw [if_neg (Ne.symm e)] at k
     have:=of_decide_eq_false h; have:=of_decide_eq_false k
     omega
def srtK (kss:List (List Int)):List (List Int):=kss.mergeSort fun a b=>! HT.lexLt b a
theorem srtK_perm (kss:List (List Int)):(srtK kss).Perm kss:=List.mergeSort_perm _ _
theorem srtK_srt (kss:List (List Int)):(srtK kss).Pairwise fun a b=>HT.lexLt b a=false:=by
 have h:=List.pairwise_mergeSort (le:=fun a b=>! HT.lexLt b a) (fun a b c h1 h2=>by simp only [Bool.not_eq_true'] at h1 h2 ⊢; exact lx_ko.tr h1 h2) (fun a b=>by
  cases e:HT.lexLt b a with
  | false=>rfl
  | true=>rw [lx_ko.asym e]; rfl) kss
 exact h.imp fun h=>by simpa using h
theorem srt_uniq {β:Type} {l:β->β->Bool} (O:KO l):∀{x y:List β},x.Perm y->x.Pairwise (fun a b=>l b a=false)->y.Pairwise (fun a b=>l b a=false)->x=y
 | [],y,p,_,_=>(List.nil_perm.mp p).symm
 | a::x,[],p,_,_=>by have:=p.length_eq; simp at this
 | a::x,b::y,p,h,k=>by
  have e:a=b:=by
   rcases List.mem_cons.mp (p.mem_iff.mp List.mem_cons_self) with z | z
   ·exact z
   ·rcases List.mem_cons.mp (p.mem_iff.mpr (List.mem_cons_self (a:=b))) with w | w
    ·exact w.symm
    ·exact O.anti (List.rel_of_pairwise_cons k z) (List.rel_of_pairwise_cons h w)
  subst e
  rw [srt_uniq O (List.Perm.cons_inv p) h.of_cons k.of_cons]
theorem perm_map {α β:Type} {f:α->β} {L M:List β} (h:L.Perm M):∀l:List α,M=l.map f->∃l':List α,l'.Perm l/\L=l'.map f:=by
 induction h with
 | nil=>intro l e; exact ⟨l,.refl _,e⟩
 | @cons x a b _ ih=>
  intro l e
  cases l with
  | nil=>cases e
  | cons y l=>
   injection e with e1 e2
   obtain ⟨l',p,e3⟩:=ih l e2
   exact ⟨y::l',p.cons y,by rw [List.map_cons,e1,e3]⟩
 | swap x y a=>
  intro l e
  match l,e with
  | u::v::l,e=>
   simp only [List.map_cons,List.cons.injEq] at e
   exact ⟨v::u::l,.swap _ _ _,by simp [e.1,e.2.1,e.2.2]⟩
 | trans _ _ ih1 ih2=>
  intro l e
  obtain ⟨l1,p1,e1⟩:=ih2 l e
  obtain ⟨l2,p2,e2⟩:=ih1 l1 e1
  exact ⟨l2,p2.trans p1,e2⟩
end BS
namespace DL
open PySem PyProof.Rows PySem.W PySem.Calls L2 BS
section
variable {prog:Program} {w:World} {A:Around} {E:Value->Shared->Prop} {s:Shared}
theorem zmA {α β:Type} {R:α->β->Prop}:∀{xs:List α} {ys:List β},Paired R xs ys->∀{i:Nat} {y:β},ys[i]? = some y->∃x,xs[i]? = some x/\R x y:=by
 intro xs ys h
 induction h with
 | nil=>intro i y e; cases e
 | cons r _ ih=>
  intro i y e
  cases i with
  | zero=>cases e; exact ⟨_,rfl,r⟩
  | succ i=>exact ih e
theorem zq2:∀{us:List Value} {ns ms:List Int},IntsAre us ns->IntsAre us ms->ns=ms:=by
 intro us ns ms h k
 induction h generalizing ms with
 | nil=>cases k; rfl
 | cons _ _ _ ih=>cases k with
  | cons _ _ k=>rw [ih k]
theorem LisI.uniq {h:Heap} {u:Value} {ns ms:List Int} (x:LisI h u ns) (y:LisI h u ms):ns=ms:=by
 obtain ⟨a,its,rfl,⟨o,h1,h2,n,h3⟩,hi⟩:=x
 obtain ⟨b,its2,e,⟨o2,g1,g2,n2,g3⟩,gi⟩:=y
 cases e
 rw [h1] at g1; cases g1
 rw [h3] at g3; cases g3
 exact zq2 hi gi
open Classical in
def zlv (h:Heap) (x:Keyed):List Int:=if e:∃ns,LisI h x.1 ns then e.choose else []
theorem zh7 {h:Heap} {x:Keyed} {ns:List Int} (e:LisI h x.1 ns):zlv h x=ns:=by
 have e':∃ns,LisI h x.1 ns:=⟨ns,e⟩
 unfold zlv
 rw [dif_pos e']
 exact LisI.uniq e'.choose_spec e
theorem zrf (hu:A.units < cLine):Cmp (model prog w) A E s oneType' (fun x=>∃ns,LisI s.heap x.1 ns) fun x y=>HT.lexLt (zlv s.heap x) (zlv s.heap y) where
 ask:=fun {x y st Q} hx hy hk q=>by
  obtain ⟨ns,hx⟩:=hx
  obtain ⟨ms,hy⟩:=hy
  rw [zh7 hx,zh7 hy] at q
  rw [lt'_eq]
  refine wpS_bind (wpS_get ?_)
  rw [hk]
  exact wpS_bind (wpS_lift (wpAny_attempt (zsI hx hy hu ⟨rfl,wpS_pure q⟩)))
theorem zlY {a:Addr} {vs:List Value} {kss:List (List Int)} {n:Nat} {P:PySem.Fin->Shared->Prop} (hu:A.units < cLine) (ho:s.heap.get? a=some (seqObj "list" vs.toArray n)) (h2:2<=vs.length) (hb:vs.length<=1000)
  (hk:∀h',(∀b o,b≠a->s.heap.get? b=some o->h'.get? b=some o)->Paired (fun u ks=>LisI h' u ks) vs kss)
  (h:∀h' c (ix:List Nat),(∀b o,b≠a->s.heap.get? b=some o->h'.get? b=some o)->ix.Perm (List.range vs.length)->(ix.map fun i=>kss.getD i [])=srtK kss->h'.get? a=some (seqObj "list" (ix.map fun i=>vs.getD i Value.none).toArray c)->P (.done (.ret .none)) { s with heap:=h' }) :
  wpAny (model prog w) A (Builtin.«list.sort» ⟨[.ref a],[]⟩) P E s:=by
 have fits:vs.length<=sizeLine:=by rw [sizeLine_eq]; omega
 have up:=fun (h:Heap) (f:Array Value->Array Value)=>Heap.SameBut.update h a (Obj.mapSeq f)
 obtain ⟨e1,ho1⟩:∃e1,(s.heap.update a (Obj.mapSeq fun _=>(#[]:Array Value))).get? a=some (seqObj "list" #[] e1):=⟨_,get?_update_seq ho fun _=>#[]⟩
 rw [list_sort_plain]
 refine wpAny_bind (listItems_at ho rfl (wpAny_bind (listUpdate_at ho rfl ?_ (by rw [List.size_toArray]; exact fits) (Nat.zero_le _))))
 refine wpAny_bind (seqEpoch_at ho1 rfl (wpAny_bind (wpAny_newTuple (wpAny_bind (wpAny_newList (wpAny_holding ?_) (Nat.zero_le _))) (by show vs.length<=_; exact fits))))
 dsimp only
 have hlt:¬ vs.toArray.size < 2:=by rw [List.size_toArray]; omega
 rw [if_neg hlt,if_neg hlt]
 have keep3:∀b o,(s.heap.update a (Obj.mapSeq fun _=>(#[]:Array Value))).get? b=some o->(((s.heap.update a (Obj.mapSeq fun _=>(#[]:Array Value))).push (seqObj "tuple" vs.toArray 0)).push (seqObj "list" #[] 0)).get? b=some o:=fun b o e=>Heap.get?_push_of_some _ (Heap.get?_push_of_some _ e)
 have ho3:=keep3 _ _ ho1
 have kp3:∀b o,b≠a->s.heap.get? b=some o->(((s.heap.update a (Obj.mapSeq fun _=>(#[]:Array Value))).push (seqObj "tuple" vs.toArray 0)).push (seqObj "list" #[] 0)).get? b=some o:=fun b o hb e=>keep3 b o (((up _ _).2 b hb).trans e)
 have ps:=hk _ kp3
 generalize hH:((s.heap.update a (Obj.mapSeq fun _=>(#[]:Array Value))).push (seqObj "tuple" vs.toArray 0)).push (seqObj "list" #[] 0)=H3 at ps ho3 kp3 ⊢
 have hkl:=Paired.length ps
 refine wpAny_bind (zoD (s:={ s with heap:=H3 }) ps (by omega) ?_)
 have gi:∀i,i < vs.length->LisI H3 (vs.getD i Value.none) (kss.getD i []):=fun i hi=>by
  have hki:i < kss.length:=by omega
  obtain ⟨x,hx1,hx2⟩:=zmA ps (List.getElem?_eq_getElem hki)
  rw [List.getD_eq_getElem?_getD,hx1,List.getD_eq_getElem?_getD,List.getElem?_eq_getElem hki]
  exact hx2
 have hpairs:(vs.toArray.zip vs.toArray).toList=(List.range vs.length).map fun i=>((vs.getD i Value.none,vs.getD i Value.none):Keyed):=by
  rw [Array.toList_zip]
  refine List.ext_getElem (by simp) fun i h1 h2=>?_
  simp at h1
  simp [h1]
 refine wpAny_bind (wpAny_mono (BS.sort_ok (s:={ s with heap:=H3 }) (E:=E) (st:=SortSt.mk' oneType' (vs.toArray.zip vs.toArray) #[] 7 none) (key:=zlv H3) (l:=HT.lexLt) (zrf hu) BS.lx_ko rfl rfl rfl (fun x hx=>?_)
  (Q:=fun _ st'=>failedOf st'=none/\∃ix:List Nat,ix.Perm (List.range vs.length)/\(ix.map fun i=>kss.getD i [])=srtK kss/\(arrOf st').toList=ix.map fun i=>((vs.getD i Value.none,vs.getD i Value.none):Keyed)) fun st' k1 k2 k3=>⟨k1,?_⟩) ?_ fun _ _ e=>e)
 ·have hx:x∈(vs.toArray.zip vs.toArray).toList:=hx
  rw [hpairs] at hx
  obtain ⟨i,hi,rfl⟩:=List.mem_map.mp hx
  exact ⟨_,gi i (List.mem_range.mp hi)⟩
 ·obtain ⟨ix,p1,p2⟩:=BS.perm_map k3 (List.range vs.length) hpairs
  refine ⟨ix,p1,?_,p2⟩
  have ek:(arrOf st').toList.map (zlv H3)=ix.map fun i=>kss.getD i []:=by
   rw [p2,List.map_map]
   exact List.map_congr_left fun i hi=>zh7 (gi i (List.mem_range.mp (p1.mem_iff.mp hi)))
  have er:(List.range vs.length).map (fun i=>kss.getD i [])=kss:=by
   refine List.ext_getElem (by simp; omega) fun i h1 h2=>?_
   simp [h2]
  refine BS.srt_uniq BS.lx_ko ?_ ?_ (BS.srtK_srt kss)
  ·refine List.Perm.trans ?_ (BS.srtK_perm kss).symm
   have:=p1.map fun i=>kss.getD i []
   rw [er] at this
   exact this
  ·rw [<-ek]
   exact List.pairwise_map.mpr k2
 ·rintro ⟨⟨⟩,st'⟩ s' ⟨rfl,hf,ix,p1,p2,p3⟩
  dsimp only
  have hout:(arrOf st').map (·.2)=(ix.map fun i=>vs.getD i Value.none).toArray:=by
   apply Array.ext'
   rw [Array.toList_map,p3,List.map_map]; rfl
  rw [hout]
  have hsz:(ix.map fun i=>vs.getD i Value.none).length=vs.length:=by rw [List.length_map,p1.length_eq,List.length_range]
  refine wpAny_bind (seqEpoch_at ho3 rfl (wpAny_bind (listUpdate_at ho3 rfl ?_ (Nat.zero_le _) (by show (ix.map fun i=>vs.getD i Value.none).length<=_; rw [hsz]; exact Nat.le_succ_of_le fits))))
  have hf':failedOf st'=none:=hf
  rw [hf']
  simp only [bne_self_eq_false,Bool.false_eq_true,if_false]
  refine wpAny_pure (h _ _ ix (fun b o hb e=>?_) p1 p2 (get?_update_seq ho3 fun _=>(ix.map fun i=>vs.getD i Value.none).toArray))
  exact ((up _ _).2 b hb).trans (kp3 b o hb e)
theorem zjr {l:Addr} {vs:List Value} {kss:List (List Int)} {Q:Value->Shared->Prop} (hu:A.in1.in1.units < cLine) (hl:s.heap.IsList l vs.toArray) (h2:2<=vs.length) (hb:vs.length<=1000) (hk:Paired (fun u ks=>LisI s.heap u ks) vs kss)
  (h:∀h' c D (ix:List Nat),(∀b o,s.heap.get? b=some o->h'.get? b=some o)->s.heap.objs.size<=D->ix.Perm (List.range vs.length)->(ix.map fun i=>kss.getD i [])=srtK kss->h'.get? D=some (seqObj "list" (ix.map fun i=>vs.getD i Value.none).toArray c)->Q (.ref D) { s with heap:=h' }) :
  wpAny (model prog w) A (call (.builtin "sorted") [.ref l]) Q E s:=by
 refine Calls.call_function_entry kind_sorted plain_sorted entry_sorted (args_sorted1 _) ?_
 unfold Builtin.«sorted»
 refine wpAny_bind (m:=checkCount "sorted" 1 1 _) (wpAny_pure (wpAny_bind (collect_list hl ?_ (by rw [sizeLine_eq]; omega))))
 refine wpAny_bind (wpAny_newList ?_ (by rw [sizeLine_eq]; omega))
 generalize hH:((s.heap.push (seqObj "list" #[] 0)).update s.heap.objs.size (Obj.mapSeq (·++vs.toArray)))=H1
 have hsz:H1.objs.size=s.heap.objs.size + 1:=by rw [<-hH,Heap.size_update,size_push']
 have keep:∀b o,s.heap.get? b=some o->(H1.push (seqObj "list" vs.toArray 0)).get? b=some o:=fun b o q=>by
  have hlt:b < s.heap.objs.size:=Heap.lt_size q
  refine Heap.get?_push_of_some _ ?_
  rw [<-hH,Heap.get?_update_ne _ _ _ _ (Nat.ne_of_lt hlt)]
  exact Heap.get?_push_of_some _ q
 have hoL:(H1.push (seqObj "list" vs.toArray 0)).get? H1.objs.size=some (seqObj "list" vs.toArray 0):=Heap.get?_push_size _ rfl
 have ne:∀{b:Addr} {o:Obj},s.heap.get? b=some o->b≠H1.objs.size:=fun e=>by rw [hsz]; exact Nat.ne_of_lt (Nat.lt_succ_of_lt (Heap.lt_size e))
 refine wpAny_bind (wpAny_holding (wpAny_call_entry slot_list_sort ⟨_,hoL,rfl⟩ entry_list_sort ?_ (args_list_sort _)))
 refine zlY (s:={ s with heap:=H1.push (seqObj "list" vs.toArray 0) }) (kss:=kss) hu hoL h2 hb (fun h' kp=>Paired.mono (fun u ks x=>?_) hk) fun h' c ix kp p1 p2 hD=>?_
 ·obtain ⟨b,its,rfl,⟨o,g1,g2,n,g3⟩,gi⟩:=x
  exact ⟨b,its,rfl,⟨o,kp _ _ (ne g1) (keep _ _ g1),g2,n,g3⟩,gi⟩
 ·exact ⟨_,rfl,wpAny_pure ⟨_,rfl,h h' c _ ix (fun b o e=>kp b o (ne e) (keep b o e)) (by rw [hsz]; exact Nat.le_succ _) p1 p2 hD⟩⟩
end
end DL
end
namespace DL
open PySem PySem.Spec PyProof.Rows L2
section
variable {X:Cx} {pz:List (Addr × Obj)} {σ:L2.St} {H:Hp} {s:Shared}
theorem znW {kss:List (List Int)} (h:kss.length < 2):BS.srtK kss=kss:=by
 match kss,h with
 | [],_=>unfold BS.srtK; exact List.mergeSort_nil
 | [k],_=>unfold BS.srtK; exact List.mergeSort_singleton _
theorem zhw {α:Type} (d:α) (l:List α):(List.range l.length).map (fun i=>l.getD i d)=l:=by
 refine List.ext_getElem (by simp) fun i h1 h2=>?_
 simp [h2]
theorem zjd {k:Nat} (hr:Room k X.A):zdV X (.builtin "sorted") (fun xs H Q=>∃p ys kss,xs=[.ref p]/\SqL X.K H p ys/\Paired (LI2 X.K H) ys kss/\ys.length<=1000/\∀l (ix:List Nat),H l=none->ix.Perm (List.range ys.length)->(ix.map fun i=>kss.getD i [])=BS.srtK kss->Q (.ref l) (upd H l (.lst (ix.map fun i=>ys.getD i .non)))):=by
 intro pz s σ H xs us Q I r h
 obtain ⟨p,ys,kss,rfl,hq,hk,hb,q⟩:=h
 obtain ⟨u,rfl,rx⟩:=zeK r
 cases rx
 obtain ⟨its,rv,pl,hz⟩:=I.list hq
 have hl:=rv.length
 have hkl:=Paired.length hk
 by_cases h2:its.length < 2
 ·refine zfG pl.isList h2 fun h' c D kp hD ho=>?_
  have hs:s.heap.get? D=none:=Heap.get?_none_of_le hD
  refine ⟨.ref D,_,Inv.laidN I hs (Nat.ne_of_gt (Nat.lt_of_lt_of_le I.lt hD)) (fun b o _ e=>kp b o e) (fun m ⟨o,es,ep,e,z⟩=>⟨o,es,ep,kp _ _ e,z⟩) ho rv (by omega) s.toks,rfl,?_⟩
  have:=q D (List.range ys.length) (I.hok.fresh hD) (.refl _) (by rw [znW (by omega),show ys.length=kss.length by omega]; exact zhw _ _)
  rw [zhw] at this
  exact this
 ·refine zjr (by have:=hr.un; show X.A.units + 1 + 1 < cLine; omega) pl.isList (by omega) (by omega) (zkD I hk rv) fun h' c D ix kp hD p1 p2 ho=>?_
  have hs:s.heap.get? D=none:=Heap.get?_none_of_le hD
  rw [show its.length=ys.length by omega] at p1
  have hix:∀i∈ix,i < ys.length:=fun i hi=>List.mem_range.mp (p1.mem_iff.mp hi)
  refine ⟨.ref D,_,Inv.laidN I hs (Nat.ne_of_gt (Nat.lt_of_lt_of_le I.lt hD)) (fun b o _ e=>kp b o e) (fun m ⟨o,es,ep,e,z⟩=>⟨o,es,ep,kp _ _ e,z⟩) ho (zgf rv ix hix) (by rw [List.length_map,p1.length_eq,List.length_range]; omega) s.toks,rfl,q D ix (I.hok.fresh hD) p1 p2⟩
end
abbrev LIk (k:List Int):D:=.lst (k.map .int)
def zkf:List D->Option D
 | [.lst ds]=>(zf0 ds).bind fun kss=>if ds.length<=1000 then some (.lst ((BS.srtK kss).map LIk)) else none
 | _=>none
theorem zjl:∀{ds:List D} {ns:List Int},zd4 ds=some ns->ds=ns.map .int
 | [],_,e=>by cases e; rfl
 | .int i::ds,ns,e=>by
  have e':(zd4 ds).map (i::·)=some ns:=e
  cases q:zd4 ds with
  | none=>rw [q] at e'; cases e'
  | some ms=>rw [q] at e'; cases e'; rw [zjl q]; rfl
theorem zkA:∀{ds:List D} {kss:List (List Int)},zf0 ds=some kss->ds=kss.map LIk
 | [],_,e=>by cases e; rfl
 | d::ds,kss,e=>by
  have e':(zhv d).bind (fun k=>(zf0 ds).map (k::·))=some kss:=e
  cases e1:zhv d with
  | none=>rw [e1] at e'; cases e'
  | some k=>
   rw [e1] at e'
   cases e2:zf0 ds with
   | none=>rw [e2] at e'; cases e'
   | some ks'=>
    rw [e2] at e'; cases e'
    cases d with
    | lst zs=>rw [zkA e2]; show D.lst zs::_=_; rw [zjl (ds:=zs) e1]; rfl
    | _=>cases e1
section
variable {X:Cx} {g:GE} {m:List Md} {a:Expr} {fl:Rho->Res (List D)} {pos p:Pos} {k:Nat}
theorem zmL (hr:Room k X.A) (hg:Gl X "sorted") (hm:X.mg "sorted" = none) (ha:SAB X g m [a] fl) (hs:starEach [a] X.env=(false,eval a X.env)::starEach [] X.env:=by rfl) :
  SO X g m (.Call (.Name "sorted" p) [a] [] pos) (fC fl zkf):=by
 refine zqc (R:=fun xs H Q=>∃p ys kss,xs=[.ref p]/\SqL X.K H p ys/\Paired (LI2 X.K H) ys kss/\ys.length<=1000/\∀l (ix:List Nat),H l=none->ix.Perm (List.range ys.length)->(ix.map fun i=>kss.getD i [])=BS.srtK kss->Q (.ref l) (upd H l (.lst (ix.map fun i=>ys.getD i .non)))) ?_ (zel (zjd hr) hg hm (by first | exact PyProof.Rows.boot_sorted | rfl) ha (by decide) (by decide) hs rfl)
 intro G H vs ds d Q gk rs e q
 unfold zkf at e
 split at e
 ·rename_i zs
  cases ek:zf0 zs with
  | none=>rw [ek] at e; cases e
  | some kss=>
   rw [ek] at e
   have e':(if zs.length<=1000 then some (D.lst ((BS.srtK kss).map LIk)) else none)=some d:=e
   by_cases hb:zs.length<=1000
   ·rw [if_pos hb] at e'
    cases e'
    cases rs with
    | cons r1 t=>
     cases t
     obtain ⟨b,xs,rfl,s,r⟩:=r1.lst gk
     have hl:=Paired.length r
     have hz:=zkA ek
     refine ⟨b,xs,kss,rfl,s,zmR gk r ek,by omega,fun l ix hl' p1 p2=>q l G _ (Grow.new gk hl' _) hl' ⟨gk.isN hl',.lst zam ?_⟩⟩
     have hix:∀i∈ix,i < zs.length:=fun i hi=>by have:=List.mem_range.mp (p1.mem_iff.mp hi); omega
     have rp:=zhV r ix hix
     have e3:(ix.map fun i=>zs.getD i .non)=(BS.srtK kss).map LIk:=by
      rw [<-p2,List.map_map]
      refine List.map_congr_left fun i hi=>?_
      have h1:=hix i hi
      have h2:i < kss.length:=by rw [hz,List.length_map] at h1; exact h1
      show zs.getD i .non=LIk (kss.getD i [])
      rw [List.getD_eq_getElem?_getD,List.getD_eq_getElem?_getD,hz,List.getElem?_map,List.getElem?_eq_getElem h2]; rfl
     rw [e3] at rp
     exact rp
   ·rw [if_neg hb] at e'; cases e'
 ·cases e
end
end DL
section
namespace Rg
theorem zcx {α:Type} [DecidableEq α]:∀{l m:List α},l.Nodup->(∀x∈l,x∈m)->l.length<=m.length
 | [],_,_,_=>Nat.zero_le _
 | a::l,m,hn,hs=>by
  have hn':=List.nodup_cons.mp hn
  have h1:=zcx (l:=l) (m:=m.erase a) hn'.2 fun x hx=>by
   have hxa:x≠a:=by rintro rfl; exact hn'.1 hx
   exact (List.mem_erase_of_ne hxa).mpr (hs x (List.mem_cons_of_mem _ hx))
  have ha:a∈m:=hs a List.mem_cons_self
  rw [List.length_erase_of_mem ha] at h1
  have:=List.length_pos_of_mem ha
  simp only [List.length_cons]; omega
theorem zee {α:Type} (p:α->Bool) (l:List α):(l.filter p).length + (l.filter fun x=>! p x).length=l.length:=by
 induction l with
 | nil=>rfl
 | cons a l ih=>
  simp only [List.filter_cons]
  cases p a <;> simp <;> omega
theorem zda {α:Type} {p:α->Bool} {l:List α} (h:l.Nodup):(l.filter p).Nodup:=List.Pairwise.filter p h
structure S where
 line:List Nat
 things:List Nat
section
variable (W:Nat->List Nat) (O:Nat->Option Nat)
def best (row things:List Nat):Nat:=(row.find? fun x=>decide (x∈things)).getD 0
def tgt (s:S) (h:Nat):Nat:=best (W h) s.things
def pt (s:S) (x:Nat):Nat:=(s.line.find? fun h=>decide (O h=some x)).getD (s.line.headD 0)
def nxt (s:S) (h:Nat):Nat:=pt O s (tgt W s h)
def minus (s:S) (C:List Nat):S:=⟨s.line.filter fun h=>decide (h∉C),s.things.filter fun x=>decide (x∉C.map (tgt W s))⟩
def it {α:Type} (f:α->α):Nat->α->α
 | 0,x=>x
 | n + 1,x=>it f n (f x)
theorem zed {α:Type} (f:α->α):∀(a b:Nat) (x:α),it f (a + b) x=it f b (it f a x)
 | 0,b,x=>by rw [Nat.zero_add]; rfl
 | a + 1,b,x=>by rw [Nat.add_right_comm]; exact zed f a b (f x)
theorem zcP {α:Type} (f:α->α) (n:Nat) (x:α):it f (n + 1) x=f (it f n x):=zed f n 1 x
theorem zm6 {α:Type} (f:α->α) {p:Nat} {x:α} (h:it f p x=x):∀k,it f (p * k) x=x
 | 0=>rfl
 | k + 1=>by rw [Nat.mul_succ,zed,zm6 f h k,h]
structure Ok (s:S):Prop where
 nl:s.line.Nodup
 nt:s.things.Nodup
 le:s.line.length<=s.things.length
 row:∀h∈s.line,∀x∈s.things,x∈W h
 inj:∀h k x,O h=some x->O k=some x->h=k
 own:∀h∈s.line,∀x,O h=some x->x∈s.things
structure Cyc (s:S) (C:List Nat):Prop where
 sub:∀h∈C,h∈s.line
 cl:∀h∈C,nxt W O s h∈C
 per:∀h∈C,∃k,it (nxt W O s) (k + 1) h=h
variable {W O}
theorem zo1 {row things:List Nat} (h:∃x∈row,x∈things):best row things∈things:=by
 unfold best
 cases e:row.find? fun x=>decide (x∈things) with
 | none=>
  obtain ⟨x,h1,h2⟩:=h
  have:=List.find?_eq_none.mp e x h1
  simp [h2] at this
 | some x=>have:=List.find?_some e; simpa using this
theorem zoZ {row things t':List Nat} (hs:∀x∈t',x∈things) (hb:best row things∈t') (hr:best row things∈row):best row t'=best row things:=by
 unfold best at *
 cases e:row.find? fun x=>decide (x∈things) with
 | none=>
  rw [e] at hb hr
  have:=List.find?_eq_none.mp e _ hr
  simp only [decide_eq_true_eq] at this
  exact absurd (hs _ hb) this
 | some x=>
  rw [e] at hb
  simp only [Option.getD_some] at hb ⊢
  obtain ⟨hx,as,bs,rfl,h2⟩:=List.find?_eq_some_iff_append.mp e
  rw [List.find?_append]
  have:as.find? (fun y=>decide (y∈t'))=none:=List.find?_eq_none.mpr fun y hy=>by
   have:=h2 y hy
   simp only [Bool.not_eq_true',decide_eq_false_iff_not] at this
   simp only [decide_eq_true_eq]
   exact fun z=>this (hs y z)
  rw [this]
  simp [List.find?_cons,hb]
theorem zo0 {row things:List Nat} (h:∃x∈row,x∈things):best row things∈row:=by
 unfold best
 cases e:row.find? fun x=>decide (x∈things) with
 | none=>
  obtain ⟨x,h1,h2⟩:=h
  have:=List.find?_eq_none.mp e x h1
  simp [h2] at this
 | some x=>exact List.mem_of_find?_eq_some e
variable {s:S}
theorem Ok.some_thing (k:Ok W O s) {h:Nat} (hh:h∈s.line):∃x∈W h,x∈s.things:=by
 have h1:=List.length_pos_of_mem hh
 have h2:0 < s.things.length:=Nat.lt_of_lt_of_le h1 k.le
 obtain ⟨x,hx⟩:=List.exists_mem_of_length_pos h2
 exact ⟨x,k.row h hh x hx,hx⟩
theorem Ok.tgt_mem (k:Ok W O s) {h:Nat} (hh:h∈s.line):tgt W s h∈s.things:=zo1 (k.some_thing hh)
theorem Ok.tgt_row (k:Ok W O s) {h:Nat} (hh:h∈s.line):tgt W s h∈W h:=zo0 (k.some_thing hh)
theorem zpk {x:Nat} (h:s.line≠[]):pt O s x∈s.line:=by
 unfold pt
 cases e:s.line.find? fun h=>decide (O h=some x) with
 | none=>
  cases q:s.line with
  | nil=>exact absurd q h
  | cons a l=>simp [List.headD]
 | some y=>exact List.mem_of_find?_eq_some e
theorem zsa (k:Ok W O s) {h x:Nat} (hh:h∈s.line) (ho:O h=some x):pt O s x=h:=by
 unfold pt
 cases e:s.line.find? fun h=>decide (O h=some x) with
 | none=>
  have:=List.find?_eq_none.mp e h hh
  simp [ho] at this
 | some y=>
  have:=List.find?_some e
  simp only [decide_eq_true_eq] at this
  exact k.inj y h x this ho
theorem zh1 {h:Nat} (hl:s.line≠[]):nxt W O s h∈s.line:=zpk hl
theorem Cyc.it_mem {C:List Nat} (c:Cyc W O s C) {h:Nat} (hh:h∈C):∀n,it (nxt W O s) n h∈C:=by
 intro n
 induction n generalizing h with
 | zero=>exact hh
 | succ n ih=>exact ih (c.cl h hh)
theorem zqy {α:Type} {f:α->α} {x y:α} {a b:Nat} (hx:it f (a + 1) x=x) (hy:it f (b + 1) y=y) (e:f x=f y):x=y:=by
 have h1:=zm6 f hx (b + 1)
 have h2:=zm6 f hy (a + 1)
 rw [Nat.mul_comm] at h2
 have h3:(a + 1) * (b + 1)=1 + (a * b + a + b):=by
  rw [Nat.add_mul,Nat.mul_add]; omega
 rw [h3,zed] at h1 h2
 have e1:it f 1 x=it f 1 y:=e
 rw [e1] at h1
 rw [<-h1,h2]
theorem Cyc.out {C E:List Nat} (c:Cyc W O s C) (e:Cyc W O s E) {h:Nat} (hc:h∈C) (he:h∉E):nxt W O s h∉E:=by
 intro z
 obtain ⟨k,hk⟩:=c.per h hc
 exact he (by rw [<-hk]; exact e.it_mem z k)
theorem zlV {C E:List Nat} (c:Cyc W O s C) (e:Cyc W O s E) {h k:Nat} (hc:h∈C) (he:k∈E) (q:tgt W s h=tgt W s k):h=k:=by
 obtain ⟨a,ha⟩:=c.per h hc
 obtain ⟨b,hb⟩:=e.per k he
 exact zqy ha hb (by unfold nxt; rw [q])
theorem zeY (k:Ok W O s) {C E:List Nat} (c:Cyc W O s C) (e:Cyc W O s E) {h:Nat} (he:h∈E) (hc:h∉C):tgt W (minus W s C) h=tgt W s h:=by
 have hl:=e.sub h he
 refine zoZ (fun x hx=>(List.mem_filter.mp hx).1) ?_ (k.tgt_row hl)
 refine List.mem_filter.mpr ⟨k.tgt_mem hl,?_⟩
 simp only [decide_eq_true_eq]
 intro z
 obtain ⟨h',h1,h2⟩:=List.mem_map.mp z
 have:=zlV c e h1 he h2
 rw [this] at h1
 exact hc h1
theorem zjR {p:Nat->Bool}:∀{l:List Nat} {a:Nat},l.headD 0=a->l≠[]->p a=true->(l.filter p).headD 0=a
 | [],_,_,h,_=>absurd rfl h
 | b::l,a,e,_,hp=>by
  have:b=a:=e
  subst this
  rw [List.filter_cons,if_pos hp]; rfl
theorem zkb (k:Ok W O s) {C E:List Nat} (c:Cyc W O s C) (e:Cyc W O s E) {h:Nat} (he:h∈E) (hc:h∉C):nxt W O (minus W s C) h=nxt W O s h:=by
 unfold nxt
 rw [zeY k c e he hc]
 have hl:=e.sub h he
 have hne:s.line≠[]:=List.ne_nil_of_mem hl
 have ho:pt O s (tgt W s h)∉C:=e.out c he hc
 have hm:pt O s (tgt W s h)∈s.line:=zpk hne
 unfold pt at *
 show ((s.line.filter fun h=>decide (h∉C)).find? _).getD ((s.line.filter fun h=>decide (h∉C)).headD 0)=_
 cases q:s.line.find? fun k=>decide (O k=some (tgt W s h)) with
 | none=>
  rw [q] at ho
  simp only [Option.getD_none] at ho ⊢
  have:(s.line.filter fun h=>decide (h∉C)).find? (fun k=>decide (O k=some (tgt W s h)))=none:=List.find?_eq_none.mpr fun y hy=>List.find?_eq_none.mp q y (List.mem_filter.mp hy).1
  rw [this]
  exact zjR rfl hne (by simpa using ho)
 | some y=>
  rw [q] at ho
  simp only [Option.getD_some] at ho ⊢
  have hy:=List.find?_some q
  simp only [decide_eq_true_eq] at hy
  have hyl:=List.mem_of_find?_eq_some q
  cases q2:(s.line.filter fun h=>decide (h∉C)).find? (fun k=>decide (O k=some (tgt W s h))) with
  | none=>
   have:=List.find?_eq_none.mp q2 y (List.mem_filter.mpr ⟨hyl,by simpa using ho⟩)
   simp [hy] at this
  | some z=>
   have hz:=List.find?_some q2
   simp only [decide_eq_true_eq] at hz
   exact k.inj z y _ hz hy
theorem zh3 (k:Ok W O s) {C:List Nat} (c:Cyc W O s C):Ok W O (minus W s C) where
 nl:=zda k.nl
 nt:=zda k.nt
 le:=by
  have h1:=zee (fun h=>decide (h∉C)) s.line
  have h2:=zee (fun x=>decide (x∉C.map (tgt W s))) s.things
  have h3:(s.things.filter fun x=>! decide (x∉C.map (tgt W s))).length<=((s.line.filter fun h=>! decide (h∉C)).map (tgt W s)).length:=by
   refine zcx (zda k.nt) fun x hx=>?_
   obtain ⟨_,hx⟩:=List.mem_filter.mp hx
   simp only [decide_not,Bool.not_not,decide_eq_true_eq] at hx
   obtain ⟨h,h1,h2⟩:=List.mem_map.mp hx
   exact List.mem_map.mpr ⟨h,List.mem_filter.mpr ⟨c.sub h h1,by simpa using h1⟩,h2⟩
  rw [List.length_map] at h3
  have:=k.le
  show (s.line.filter _).length<=(s.things.filter _).length
  omega
 row:=fun h hh x hx=>k.row h (List.mem_filter.mp hh).1 x (List.mem_filter.mp hx).1
 inj:=k.inj
 own:=fun h hh x hx=>by
  obtain ⟨h1,h2⟩:=List.mem_filter.mp hh
  simp only [decide_eq_true_eq] at h2
  refine List.mem_filter.mpr ⟨k.own h h1 x hx,?_⟩
  simp only [decide_eq_true_eq]
  intro z
  obtain ⟨b,b1,b2⟩:=List.mem_map.mp z
  have:=c.cl b b1
  unfold nxt at this
  rw [b2,zsa k h1 hx] at this
  exact h2 this
def less (E C:List Nat):List Nat:=E.filter fun h=>decide (h∉C)
theorem zbQ {E C:List Nat} {h:Nat}:h∈less E C↔h∈E/\h∉C:=by simp [less,List.mem_filter]
theorem zkE (k:Ok W O s) {C E:List Nat} (c:Cyc W O s C) (e:Cyc W O s E):Cyc W O (minus W s C) (less E C):=by
 have stay:∀n h,h∈less E C->it (nxt W O (minus W s C)) n h=it (nxt W O s) n h:=by
  intro n
  induction n with
  | zero=>intro h _; rfl
  | succ n ih=>
   intro h hh
   obtain ⟨h1,h2⟩:=zbQ.mp hh
   show it _ n (nxt W O (minus W s C) h)=it _ n (nxt W O s h)
   rw [zkb k c e h1 h2]
   exact ih _ (zbQ.mpr ⟨e.cl h h1,e.out c h1 h2⟩)
 refine ⟨fun h hh=>?_,fun h hh=>?_,fun h hh=>?_⟩
 ·obtain ⟨h1,h2⟩:=zbQ.mp hh
  exact List.mem_filter.mpr ⟨e.sub h h1,by simpa using h2⟩
 ·obtain ⟨h1,h2⟩:=zbQ.mp hh
  rw [zkb k c e h1 h2]
  exact zbQ.mpr ⟨e.cl h h1,e.out c h1 h2⟩
 ·obtain ⟨h1,h2⟩:=zbQ.mp hh
  obtain ⟨n,hn⟩:=e.per h h1
  exact ⟨n,by rw [stay _ _ hh]; exact hn⟩
theorem zef {p q:Nat->Bool} {l:List Nat} (h:∀x∈l,p x=q x):l.filter p=l.filter q:=by
 induction l with
 | nil=>rfl
 | cons a l ih=>
  rw [List.filter_cons,List.filter_cons,h a List.mem_cons_self,ih fun x hx=>h x (List.mem_cons_of_mem _ hx)]
theorem zgE (k:Ok W O s) {C E:List Nat} (c:Cyc W O s C) (e:Cyc W O s E):minus W (minus W s C) (less E C)=minus W s (C++E):=by
 have h1:(minus W (minus W s C) (less E C)).line=(minus W s (C++E)).line:=by
  show ((s.line.filter _).filter _)=s.line.filter _
  rw [List.filter_filter]
  refine zef fun x _=>?_
  by_cases hc:x∈C <;> by_cases he:x∈E <;> simp [zbQ,hc,he]
 have h2:(minus W (minus W s C) (less E C)).things=(minus W s (C++E)).things:=by
  show ((s.things.filter _).filter _)=s.things.filter _
  rw [List.filter_filter]
  refine zef fun x _=>?_
  have key:x∈(less E C).map (tgt W (minus W s C))↔∃h,h∈E/\h∉C/\tgt W s h=x:=by
   rw [List.mem_map]
   constructor
   ·rintro ⟨h,hh,q⟩
    obtain ⟨a,b⟩:=zbQ.mp hh
    exact ⟨h,a,b,by rw [<-q,zeY k c e a b]⟩
   ·rintro ⟨h,a,b,q⟩
    exact ⟨h,zbQ.mpr ⟨a,b⟩,by rw [zeY k c e a b]; exact q⟩
  have key2:x∈(C++E).map (tgt W s)↔x∈C.map (tgt W s)\/x∈(less E C).map (tgt W (minus W s C)):=by
   rw [key,List.map_append,List.mem_append]
   constructor
   ·rintro (z | z)
    ·exact .inl z
    ·obtain ⟨h,a,b⟩:=List.mem_map.mp z
     by_cases hc:h∈C
     ·exact .inl (List.mem_map.mpr ⟨h,hc,b⟩)
     ·exact .inr ⟨h,a,hc,b⟩
   ·rintro (z | ⟨h,a,_,b⟩)
    ·exact .inl z
    ·exact .inr (List.mem_map.mpr ⟨h,a,b⟩)
  rw [Bool.eq_iff_iff]
  simp only [Bool.and_eq_true,decide_eq_true_eq]
  rw [key2]
  constructor
  ·rintro ⟨a,b⟩ (z | z)
   ·exact b z
   ·exact a z
  ·intro z
   exact ⟨fun q=>z (.inr q),fun q=>z (.inl q)⟩
 cases e1:minus W (minus W s C) (less E C)
 cases e2:minus W s (C++E)
 rw [e1,e2] at h1 h2
 simp only at h1 h2
 rw [h1,h2]
theorem zlq (k:Ok W O s) {C E:List Nat} (c:Cyc W O s C) (e:Cyc W O s E):minus W (minus W s C) (less E C)=minus W (minus W s E) (less C E):=by
 rw [zgE k c e,zgE k e c]
 unfold minus
 congr 1
 ·exact zef fun x _=>by rw [Bool.eq_iff_iff]; simp [and_comm]
 ·refine zef fun x _=>?_
  rw [Bool.eq_iff_iff]
  simp only [decide_eq_true_eq,List.map_append,List.mem_append]
  constructor <;> intro z q <;> exact z q.symm
inductive TTC (W:Nat->List Nat) (O:Nat->Option Nat) (a:Nat->Nat):S->Prop where
 | nil {s:S}:s.line=[]->TTC W O a s
 | step {s:S} (C:List Nat):Cyc W O s C->(∀h∈C,a h=tgt W s h)->TTC W O a (minus W s C)->TTC W O a s
theorem ztH {a:Nat->Nat} (t:TTC W O a s):∀(k:Ok W O s) {E:List Nat},Cyc W O s E->TTC W O a (minus W s E)/\∀h∈E,a h=tgt W s h:=by
 induction t with
 | nil h0=>
  intro k E e
  refine ⟨.nil (by unfold minus; rw [h0]; rfl),fun h hh=>?_⟩
  have:=e.sub h hh
  rw [h0] at this; cases this
 | step C c ha t ih=>
  intro k E e
  obtain ⟨h1,h2⟩:=ih (zh3 k c) (zkE k c e)
  refine ⟨.step (less C E) (zkE k e c) (fun h hh=>?_) (by rw [<-zlq k c e]; exact h1),fun h hh=>?_⟩
  ·obtain ⟨z1,z2⟩:=zbQ.mp hh
   rw [zeY k e c z1 z2]
   exact ha h z1
  ·by_cases hc:h∈C
   ·exact ha h hc
   ·rw [h2 h (zbQ.mpr ⟨hh,hc⟩),zeY k c e hh hc]
end
end Rg
end
section
namespace Rg
section
variable {W:Nat->List Nat} {O:Nat->Option Nat} {s:S} {a:Nat->Nat}
theorem zp2 (t:TTC W O a s) (k:Ok W O s):∀h∈s.line,a h∈s.things:=by
 induction t with
 | nil h0=>intro h hh; rw [h0] at hh; cases hh
 | step C c ha t ih=>
  intro h hh
  by_cases hc:h∈C
  ·rw [ha h hc]; exact k.tgt_mem hh
  ·exact (List.mem_filter.mp (ih (zh3 k c) h (List.mem_filter.mpr ⟨hh,by simpa using hc⟩))).1
theorem ztK (t:TTC W O a s) (k:Ok W O s):∀h∈s.line,∀l∈s.line,a h=a l->h=l:=by
 induction t with
 | nil h0=>intro h hh; rw [h0] at hh; cases hh
 | @step s C c ha t ih=>
  intro h hh l hl e
  have k':=zh3 k c
  have rest:∀h∈s.line,h∉C->h∈(minus W s C).line:=fun h hh hc=>List.mem_filter.mpr ⟨hh,by simpa using hc⟩
  have outs:∀h∈s.line,h∉C->a h∉C.map (tgt W s):=fun h hh hc=>by
   have:=(List.mem_filter.mp (zp2 t k' h (rest h hh hc))).2
   simpa using this
  by_cases hc:h∈C
  ·by_cases lc:l∈C
   ·rw [ha h hc,ha l lc] at e; exact zlV c c hc lc e
   ·exact absurd (List.mem_map.mpr ⟨h,hc,by rw [<-ha h hc,e]⟩) (outs l hl lc)
  ·by_cases lc:l∈C
   ·exact absurd (List.mem_map.mpr ⟨l,lc,by rw [<-ha l lc,e]⟩) (outs h hh hc)
   ·exact ih k' h (rest h hh hc) l (rest l hl lc) e
theorem zpn {f:Nat->Nat} {l:List Nat} (hcl:∀h∈l,f h∈l) {x:Nat} (hx:x∈l):∃i j,i < j/\j<=l.length/\it f i x=it f j x:=by
 have mem:∀i,it f i x∈l:=by
  intro i
  induction i with
  | zero=>exact hx
  | succ i ih=>rw [zcP]; exact hcl _ ih
 by_cases hn:((List.range (l.length + 1)).map fun i=>it f i x).Nodup
 ·have:=zcx hn (m:=l) fun y hy=>by
   obtain ⟨i,_,rfl⟩:=List.mem_map.mp hy
   exact mem i
  simp at this
  omega
 ·apply Classical.byContradiction
  intro h
  apply hn
  rw [List.nodup_iff_pairwise_ne] at *
  rw [List.pairwise_map]
  refine List.Pairwise.imp_of_mem (R:=fun i j=>i < j) (fun hi hj hij e=>?_) List.pairwise_lt_range
  exact h ⟨_,_,hij,by have:=List.mem_range.mp hj; omega,e⟩
theorem zsN {P:Nat->Prop}:(∃n,P n)->∃n,P n/\∀k,k < n->¬ P k:=by
 rintro ⟨n,hn⟩
 induction n using Nat.strongRecOn with
 | _ n ih=>
  by_cases h:∃k,k < n/\P k
  ·obtain ⟨k,h1,h2⟩:=h; exact ih k h1 h2
  ·exact ⟨n,hn,fun k hk hp=>h ⟨k,hk,hp⟩⟩
theorem zjP {α:Type} (f:α->α) (a b:Nat) (x:α):it f a (it f b x)=it f b (it f a x):=by
 rw [<-zed,<-zed,Nat.add_comm]
theorem zlt {f:Nat->Nat} {l:List Nat} (hcl:∀h∈l,f h∈l) (hne:l≠[]):∃z p,z∈l/\0 < p/\p<=l.length/\it f p z=z/\∀i,0 < i->i < p->z < it f i z:=by
 have mem:∀x∈l,∀i,it f i x∈l:=by
  intro x hx i
  induction i with
  | zero=>exact hx
  | succ i ih=>rw [zcP]; exact hcl _ ih
 obtain ⟨x,hx⟩:=List.exists_mem_of_ne_nil l hne
 obtain ⟨i,j,hij,_,e⟩:=zpn hcl hx
 obtain ⟨z,⟨hz,k,hk⟩,hmin⟩:=zsN (P:=fun z=>z∈l/\∃k,it f (k + 1) z=z) ⟨it f i x,mem x hx i,j - i - 1,by
  rw [<-zed,show i + (j - i - 1 + 1)=j by omega]; exact e.symm⟩
 obtain ⟨p,hp,hpm⟩:=zsN (P:=fun p=>it f (p + 1) z=z) ⟨k,hk⟩
 have ge:∀i,z<=it f i z:=fun i=>by
  have:=hmin (it f i z)
  apply Classical.byContradiction
  intro h
  exact this (by omega) ⟨mem z hz i,p,by rw [zjP,hp]⟩
 have ne:∀i,0 < i->i < p + 1->it f i z≠z:=fun i h1 h2 q=>hpm (i - 1) (by omega) (by rw [show i - 1 + 1=i by omega]; exact q)
 refine ⟨z,p + 1,hz,Nat.succ_pos _,?_,hp,fun i h1 h2=>by have:=ge i; have:=ne i h1 h2; omega⟩
 obtain ⟨i,j,hij,hj,e⟩:=zpn hcl hz
 apply Classical.byContradiction
 intro h
 have:it f (p + 1 - j + i) z=z:=by
  have h1:it f (p + 1 - j) (it f j z)=z:=by rw [<-zed,show j + (p + 1 - j)=p + 1 by omega]; exact hp
  rw [<-e,<-zed] at h1
  rw [Nat.add_comm]; exact h1
 exact ne _ (by omega) (by omega) this
def ziw (f:Nat->Nat) (n first:Nat):Nat->List Nat->Nat->Option (List Nat)
 | 0,_,_=>none
 | k + 1,ring,hand=>if first < hand/\ring.length < n then ziw f n first k (ring++[hand]) (f hand) else if hand=first then some ring else none
def zkm (f:Nat->Nat) (n first:Nat):Option (List Nat):=ziw f n first (n + 1) [first] (f first)
def orb (f:Nat->Nat) (x n:Nat):List Nat:=(List.range n).map fun i=>it f i x
theorem zf5 (f:Nat->Nat) (x n:Nat):orb f x (n + 1)=orb f x n++[it f n x]:=by
 unfold orb; rw [List.range_succ,List.map_append]; rfl
theorem zgA (f:Nat->Nat) (x n:Nat):(orb f x n).length=n:=by simp [orb]
theorem zlc {f:Nat->Nat} {n first:Nat}:∀{k i:Nat} {r:List Nat},ziw f n first k (orb f first i) (it f i first)=some r->∃j,i<=j/\r=orb f first j/\it f j first=first:=by
 intro k
 induction k with
 | zero=>intro i r h; cases h
 | succ k ih=>
  intro i r h
  unfold ziw at h
  split at h
  ·rw [<-zf5,<-zcP f] at h
   obtain ⟨j,h1,h2⟩:=ih h
   exact ⟨j,by omega,h2⟩
  ·split at h
   ·rename_i e
    cases h
    exact ⟨i,Nat.le_refl _,rfl,e⟩
   ·cases h
theorem zgw {f:Nat->Nat} {n first:Nat} {r:List Nat} (h:zkm f n first=some r):∃j,0 < j/\r=orb f first j/\it f j first=first:=by
 have h':ziw f n first (n + 1) (orb f first 1) (it f 1 first)=some r:=h
 obtain ⟨j,h1,h2⟩:=zlc h'
 exact ⟨j,by omega,h2⟩
theorem zjC {f:Nat->Nat} {n z p:Nat} (hp:p<=n) (he:it f p z=z) (hg:∀i,0 < i->i < p->z < it f i z):∀{k i:Nat},0 < i->i<=p->p < k + i->ziw f n z k (orb f z i) (it f i z)=some (orb f z p):=by
 intro k
 induction k with
 | zero=>intro i h1 h2 h3; omega
 | succ k ih=>
  intro i h1 h2 h3
  unfold ziw
  by_cases hi:i=p
  ·subst hi
   rw [if_neg (by rw [he]; omega),if_pos he]
  ·rw [if_pos ⟨hg i h1 (by omega),by rw [zgA]; omega⟩,<-zf5,<-zcP f]
   exact ih (by omega) (by omega) (by omega)
theorem ziF {f:Nat->Nat} {n z p:Nat} (h0:0 < p) (hp:p<=n) (he:it f p z=z) (hg:∀i,0 < i->i < p->z < it f i z):zkm f n z=some (orb f z p):=by
 show ziw f n z (n + 1) (orb f z 1) (it f 1 z)=_
 exact zjC hp he hg (by omega) h0 (by omega)
def zgv (W:Nat->List Nat) (O:Nat->Option Nat) (s:S):List (List Nat):=s.line.filterMap fun h=>zkm (nxt W O s) s.line.length h
theorem zmi {C:List Nat} (hC:∀h,h∈C->∃r∈zgv W O s,h∈r) (hC':∀r∈zgv W O s,∀h∈r,h∈C):Cyc W O s C:=by
 have one:∀r∈zgv W O s,∃x j,x∈s.line/\0 < j/\r=orb (nxt W O s) x j/\it (nxt W O s) j x=x:=fun r hr=>by
  obtain ⟨x,h1,h2⟩:=List.mem_filterMap.mp hr
  obtain ⟨j,h3,h4,h5⟩:=zgw h2
  exact ⟨x,j,h1,h3,h4,h5⟩
 have hm:∀x∈s.line,∀i,it (nxt W O s) i x∈s.line:=by
  intro x hx i
  induction i with
  | zero=>exact hx
  | succ i ih=>rw [zcP]; exact zh1 (List.ne_nil_of_mem hx)
 refine ⟨fun h hh=>?_,fun h hh=>?_,fun h hh=>?_⟩
 ·obtain ⟨r,hr,h1⟩:=hC h hh
  obtain ⟨x,j,hx,hj,rfl,he⟩:=one r hr
  obtain ⟨i,_,rfl⟩:=List.mem_map.mp h1
  exact hm x hx i
 ·obtain ⟨r,hr,h1⟩:=hC h hh
  obtain ⟨x,j,hx,hj,rfl,he⟩:=one r hr
  obtain ⟨i,hi,rfl⟩:=List.mem_map.mp h1
  have hi:=List.mem_range.mp hi
  refine hC' _ hr _ ?_
  rw [<-zcP (nxt W O s)]
  by_cases q:i + 1=j
  ·rw [q,he]; exact List.mem_map.mpr ⟨0,List.mem_range.mpr hj,rfl⟩
  ·exact List.mem_map.mpr ⟨i + 1,List.mem_range.mpr (by omega),rfl⟩
 ·obtain ⟨r,hr,h1⟩:=hC h hh
  obtain ⟨x,j,hx,hj,rfl,he⟩:=one r hr
  obtain ⟨i,hi,rfl⟩:=List.mem_map.mp h1
  exact ⟨j - 1,by rw [show j - 1 + 1=j by omega,zjP,he]⟩
theorem zlk (hne:s.line≠[]):zgv W O s≠[]:=by
 obtain ⟨z,p,h1,h2,h3,h4,h5⟩:=zlt (f:=nxt W O s) (l:=s.line) (fun h hh=>zh1 hne) hne
 exact List.ne_nil_of_mem (List.mem_filterMap.mpr ⟨z,h1,ziF h2 h3 h4 h5⟩)
def gone (W:Nat->List Nat) (O:Nat->Option Nat) (s:S):List Nat:=(zgv W O s).flatten
theorem zkK:Cyc W O s (gone W O s):=zmi (fun h hh=>List.mem_flatten.mp hh) (fun r hr h hh=>List.mem_flatten.mpr ⟨r,hr,hh⟩)
theorem zmk {f:Nat->Nat} {n x:Nat} {r:List Nat} (h:zkm f n x=some r):r≠[]:=by
 obtain ⟨j,h1,rfl,_⟩:=zgw h
 intro z
 have:=zgA f x j
 rw [z] at this
 simp at this; omega
theorem zne (hne:s.line≠[]):gone W O s≠[]:=by
 have h:=zlk (W:=W) (O:=O) hne
 cases q:zgv W O s with
 | nil=>exact absurd q h
 | cons r t=>
  have hr:r∈zgv W O s:=by rw [q]; exact List.mem_cons_self
  obtain ⟨x,_,h2⟩:=List.mem_filterMap.mp hr
  unfold gone
  rw [q,List.flatten_cons]
  intro z
  exact zmk h2 (List.append_eq_nil_iff.mp z).1
theorem znf (hne:s.line≠[]):(minus W s (gone W O s)).line.length < s.line.length:=by
 have h:=zne (W:=W) (O:=O) hne
 obtain ⟨x,hx⟩:=List.exists_mem_of_ne_nil _ h
 have hx2:=(zkK (W:=W) (O:=O) (s:=s)).sub x hx
 have:=zee (fun h=>decide (h∉gone W O s)) s.line
 have h3:0 < (s.line.filter fun h=>! decide (h∉gone W O s)).length:=List.length_pos_of_mem (List.mem_filter.mpr ⟨hx2,by simpa using hx⟩)
 show (s.line.filter _).length < _
 omega
def deal (W:Nat->List Nat) (O:Nat->Option Nat):Nat->S->Nat->Nat
 | 0,_,_=>0
 | n + 1,s,h=>if h∈gone W O s then tgt W s h else deal W O n (minus W s (gone W O s)) h
theorem zlU {b:Nat->Nat} (t:TTC W O a s):(∀h∈s.line,b h=a h)->TTC W O b s:=by
 induction t with
 | nil h0=>exact fun _=>.nil h0
 | @step s C c ha t ih=>exact fun e=>.step C c (fun h hh=>by rw [e h (c.sub h hh)]; exact ha h hh) (ih fun h hh=>e h (List.mem_filter.mp hh).1)
theorem ztI:∀(n:Nat) (s:S),s.line.length < n->TTC W O (deal W O n s) s:=by
 intro n
 induction n with
 | zero=>intro s h; omega
 | succ n ih=>
  intro s h
  by_cases hl:s.line=[]
  ·exact .nil hl
  ·have hlt:=znf (W:=W) (O:=O) hl
   refine .step (gone W O s) zkK (fun h hh=>?_) (zlU (ih _ (by omega)) fun h hh=>?_)
   ·show (if h∈gone W O s then _ else _)=_
    rw [if_pos hh]
   ·have:=(List.mem_filter.mp hh).2
    simp only [decide_eq_true_eq] at this
    show (if h∈gone W O s then _ else _)=_
    rw [if_neg this]
end
end Rg
end
section
namespace Rg
section
variable {W W':Nat->List Nat} {O:Nat->Option Nat} {s:S} {a b:Nat->Nat}
theorem zqD {x j:Nat} (hx:x∈s.line) (hj:0 < j) (he:it (nxt W O s) j x=x):Cyc W O s (orb (nxt W O s) x j):=by
 have hm:∀i,it (nxt W O s) i x∈s.line:=by
  intro i
  induction i with
  | zero=>exact hx
  | succ i ih=>rw [zcP]; exact zh1 (List.ne_nil_of_mem hx)
 refine ⟨fun h hh=>?_,fun h hh=>?_,fun h hh=>?_⟩ <;> obtain ⟨i,hi,rfl⟩:=List.mem_map.mp hh
 ·exact hm i
 ·have hi:=List.mem_range.mp hi
  show nxt W O s (it (nxt W O s) i x)∈_
  rw [<-zcP (nxt W O s)]
  by_cases q:i + 1=j
  ·rw [q,he]; exact List.mem_map.mpr ⟨0,List.mem_range.mpr hj,rfl⟩
  ·exact List.mem_map.mpr ⟨i + 1,List.mem_range.mpr (by omega),rfl⟩
 ·exact ⟨j - 1,by rw [show j - 1 + 1=j by omega,zjP,he]⟩
theorem zkO {l:List Nat} {h:Nat} (hn:l.Nodup):l.erase h=l.filter fun x=>decide (x≠h):=by
 induction l with
 | nil=>rfl
 | cons b l ih=>
  have hn':=List.nodup_cons.mp hn
  by_cases q:b=h
  ·subst q
   rw [List.erase_cons_head,List.filter_cons,if_neg (by simp)]
   symm
   rw [List.filter_eq_self]
   intro x hx
   have:x≠b:=by rintro rfl; exact hn'.1 hx
   simpa using this
  ·rw [List.erase_cons_tail (by simpa using q),List.filter_cons,if_pos (by simpa using q),ih hn'.2]
theorem zjS:∀{C l:List Nat},l.Nodup->C.foldl (fun l h=>l.erase h) l=l.filter fun x=>decide (x∉C)
 | [],l,_=>by symm; simp [List.filter_eq_self]
 | h::C,l,hn=>by
  rw [List.foldl_cons,zjS (by rw [zkO hn]; exact zda hn),zkO hn,List.filter_filter]
  refine zef fun x _=>?_
  by_cases q:x=h <;> by_cases z:x∈C <;> simp [q,z]
def zmz (f:Nat->Nat):Nat->List Nat->Nat->List Nat × Nat
 | 0,path,here=>(path,here)
 | n + 1,path,here=>if here∈path then (path,here) else zmz f n (path++[here]) (f here)
theorem zro {f:Nat->Nat} {x:Nat} {l:List Nat} (hcl:∀h∈l,f h∈l) (hx:x∈l):∀(n i:Nat),(orb f x i).Nodup->l.length < n + i->∃k,(orb f x k).Nodup/\it f k x∈orb f x k/\zmz f n (orb f x i) (it f i x)=(orb f x k,it f k x):=by
 have mem:∀i,it f i x∈l:=by
  intro i
  induction i with
  | zero=>exact hx
  | succ i ih=>rw [zcP]; exact hcl _ ih
 intro n
 induction n with
 | zero=>
  intro i hn hl
  have:=zcx hn (m:=l) fun y hy=>by obtain ⟨j,_,rfl⟩:=List.mem_map.mp hy; exact mem j
  rw [zgA] at this; omega
 | succ n ih=>
  intro i hn hl
  unfold zmz
  by_cases q:it f i x∈orb f x i
  ·rw [if_pos q]; exact ⟨i,hn,q,rfl⟩
  ·rw [if_neg q,<-zf5,<-zcP f]
   refine ih (i + 1) ?_ (by omega)
   rw [zf5]
   refine List.nodup_append.mpr ⟨hn,by simp,fun y hy z hz=>?_⟩
   rw [List.mem_singleton] at hz
   rw [hz]
   rintro rfl
   exact q hy
theorem zok (f:Nat->Nat) (x:Nat):∀(k i:Nat),i<=k->(orb f x k).drop i=orb f (it f i x) (k - i):=by
 intro k i h
 refine List.ext_getElem? fun j=>?_
 unfold orb
 rw [List.getElem?_drop,List.getElem?_map,List.getElem?_map]
 by_cases hj:i + j < k
 ·rw [List.getElem?_range hj,List.getElem?_range (by omega)]
  simp only [Option.map_some]
  rw [zed]
 ·rw [List.getElem?_eq_none (by simp; omega),List.getElem?_eq_none (by simp; omega)]
  rfl
theorem zso {x:Nat} {k:Nat} (hx:x∈s.line) (hn:(orb (nxt W O s) x k).Nodup) (hm:it (nxt W O s) k x∈orb (nxt W O s) x k) :
  Cyc W O s ((orb (nxt W O s) x k).drop ((orb (nxt W O s) x k).idxOf (it (nxt W O s) k x)))/\(orb (nxt W O s) x k).drop ((orb (nxt W O s) x k).idxOf (it (nxt W O s) k x))≠[]:=by
 have hi:=List.idxOf_lt_length_of_mem hm
 generalize hq:(orb (nxt W O s) x k).idxOf (it (nxt W O s) k x)=i at *
 rw [zgA] at hi
 have e:it (nxt W O s) i x=it (nxt W O s) k x:=by
  have h1:=List.getElem_idxOf (List.idxOf_lt_length_of_mem hm)
  simp only [hq] at h1
  simpa [orb] using h1
 rw [zok _ _ _ _ (by omega)]
 have hm':∀i,it (nxt W O s) i x∈s.line:=by
  intro i
  induction i with
  | zero=>exact hx
  | succ i ih=>rw [zcP]; exact zh1 (List.ne_nil_of_mem hx)
 refine ⟨zqD (hm' i) (by omega) (by rw [<-zed,show i + (k - i)=k by omega,e]),fun z=>?_⟩
 have:=zgA (nxt W O s) (it (nxt W O s) i x) (k - i)
 rw [z] at this; simp at this; omega
end
end Rg
end
section
namespace Rg
end Rg
end
section
namespace Fq
theorem zkL (a:Int) (b:Nat):Int.gcd a b=Int.gcd b (a % (b:Int)):=by
 refine Nat.dvd_antisymm (Int.dvd_gcd (Int.gcd_dvd_right _ _) ?_) (Int.dvd_gcd ?_ (Int.gcd_dvd_left _ _))
 ·rw [Int.emod_def]
  exact Int.dvd_sub (Int.gcd_dvd_left _ _) (Int.dvd_trans (Int.gcd_dvd_right a b) (Int.dvd_mul_right _ _))
 ·have h:=Int.mul_ediv_add_emod a b
  rw [<-h]
  exact Int.dvd_add (Int.dvd_trans (Int.gcd_dvd_left (b:Int) _) (Int.dvd_mul_right _ _)) (by rw [h]; exact Int.gcd_dvd_right _ _)
theorem zia (t:Int) {b:Nat} (h:0 < b):0 < Int.gcd t b:=Nat.pos_of_ne_zero fun z=>by
 have:=Int.gcd_eq_zero_iff.mp z
 omega
def low (t:Int) (b:Nat):Int × Nat:=(t / (Int.gcd t b:Int),b / Int.gcd t b)
def Same (a b:Int × Nat):Prop:=a.1 * (b.2:Int)=b.1 * (a.2:Int)
theorem zqX (t:Int) {b:Nat} (h:0 < b):Int.gcd (low t b).1 ((low t b).2:Nat)=1:=by
 have:=Int.gcd_ediv_gcd_ediv_gcd (zia t h)
 unfold low
 rw [Int.natCast_ediv]
 exact this
theorem zqW (t:Int) {b:Nat} (h:0 < b):0 < (low t b).2:=by
 have h1:Int.gcd t b ∣ b:=Int.natCast_dvd_natCast.mp (Int.gcd_dvd_right t b)
 exact Nat.div_pos (Nat.le_of_dvd h h1) (zia t h)
theorem zsH (t:Int) (b:Nat):(low t b).2<=b:=Nat.div_le_self _ _
theorem zqV (t:Int) (b:Nat):(low t b).1.natAbs<=t.natAbs:=Int.natAbs_ediv_le_natAbs _ _
structure Bd (k:Nat) (a:Int × Nat):Prop where
 pos:0 < a.2
 bot:a.2 < 2 ^ k
 top:a.1.natAbs < 2 ^ k
theorem Bd.mono {k l:Nat} {a:Int × Nat} (h:Bd k a) (hl:k<=l):Bd l a:=
 ⟨h.pos,Nat.lt_of_lt_of_le h.bot (Nat.pow_le_pow_right (by omega) hl),Nat.lt_of_lt_of_le h.top (Nat.pow_le_pow_right (by omega) hl)⟩
theorem Bd.low {k:Nat} {t:Int} {b:Nat} (h:0 < b) (h1:b < 2 ^ k) (h2:t.natAbs < 2 ^ k):Bd k (low t b):=
 ⟨zqW t h,Nat.lt_of_le_of_lt (zsH t b) h1,Nat.lt_of_le_of_lt (zqV t b) h2⟩
def zuk (a b:Int × Nat):Bool:=decide (a.1 * (b.2:Int) < b.1 * (a.2:Int))
end Fq
end
section
namespace Rg
end Rg
namespace Fq
def W (N:Nat) (a:Int × Nat) (S:Nat):Prop:=0 < a.2/\a.1 * (N:Int)=(S:Int) * (a.2:Int)
theorem W.ge {N S S':Nat} {a b:Int × Nat} (hN:0 < N) (ha:W N a S) (hb:W N b S') (h:S'<=S):zuk a b=false:=by
 refine decide_eq_false fun hlt=>?_
 have h1:=Int.mul_lt_mul_of_pos_right hlt (show (0:Int) < (N:Int) by omega)
 have e1:a.1 * (b.2:Int) * (N:Int)=(S:Int) * ((a.2:Int) * (b.2:Int)):=by
  rw [Int.mul_assoc,Int.mul_comm (b.2:Int),<-Int.mul_assoc,ha.2,Int.mul_assoc]
 have e2:b.1 * (a.2:Int) * (N:Int)=(S':Int) * ((a.2:Int) * (b.2:Int)):=by
  rw [Int.mul_assoc,Int.mul_comm (a.2:Int),<-Int.mul_assoc,hb.2,Int.mul_assoc,Int.mul_comm (b.2:Int)]
 rw [e1,e2] at h1
 have hp:(0:Int)<=(a.2:Int) * (b.2:Int):=by
  rw [<-Int.natCast_mul]; exact Int.natCast_nonneg _
 have:=Int.lt_of_mul_lt_mul_right h1 hp
 omega
end Fq
end
section
namespace Rg
section
variable (W:Nat->List Nat) (d:Nat->Nat)
def Mn (o:List Nat) (x:Nat):Prop:=best (W x) (o.map d)=d x
def Ps (v:Nat) (o:List Nat) (f:Nat->Nat) (c:Nat):Prop:=c∈o/\∀k,Mn W d (v::o) (it f k c)
inductive Bl:List Nat->(Nat->Nat)->Prop where
 | nil:Bl [] id
 | alone {v:Nat} {o:List Nat} {f:Nat->Nat}:Bl o f->(∀c,Ps W d v o f c->v < c)->Bl (v::o) (fun x=>if x=v then v else f x)
 | ins {v c:Nat} {o:List Nat} {f:Nat->Nat}:Bl o f->Ps W d v o f c->(∀b,Ps W d v o f b->c<=b)->c < v->Bl (v::o) (fun x=>if x=v then f c else if x=c then v else f x)
variable {W d}
end
end Rg
end
section
namespace Rg
section
variable {W:Nat->List Nat} {d:Nat->Nat} {O O':Nat->Option Nat} {L:List Nat}
def st (L:List Nat) (d:Nat->Nat) (o:List Nat):S:=⟨L.filter fun h=>decide (h∈o),L.filter fun x=>decide (x∈o.map d)⟩
structure Sce (W:Nat->List Nat) (L:List Nat) (d:Nat->Nat) (o:List Nat):Prop where
 nl:L.Nodup
 no:o.Nodup
 ol:∀h∈o,h∈L
 dl:∀h∈o,d h∈L
 di:∀h∈o,∀l∈o,d h=d l->h=l
 row:∀h∈o,∀x∈L,x∈W h
structure Owns (O:Nat->Option Nat) (d:Nat->Nat) (o:List Nat) (f:Nat->Nat):Prop where
 inj:∀h k x,O h=some x->O k=some x->h=k
 by_:∀h∈o,O (f h)=some (d h)
end
end Rg
end
section
namespace Rg
def cl:Nat->List (List Nat)
 | 0=>[[]]
 | n + 1=>(cl n).flatMap fun r=>(List.range (n + 1)).map fun a=>r.take a++[n]++r.drop a
section
variable {W:Nat->List Nat} {n:Nat}
theorem zuC {w:List Nat} (hW:∀h,h < n->∀x,x < n->x∈W h) (hw:w.Perm (List.range n)):Ok W (fun k=>w[k]?) ⟨List.range n,List.range n⟩ where
 nl:=List.nodup_range
 nt:=List.nodup_range
 le:=Nat.le_refl _
 row:=fun h hh x hx=>hW h (List.mem_range.mp hh) x (List.mem_range.mp hx)
 inj:=fun h k x e1 e2=>by
  have hl:=(List.getElem?_eq_some_iff.mp e1).1
  exact (List.getElem?_inj hl (hw.nodup_iff.mpr List.nodup_range)).mp (e1.trans e2.symm)
 own:=fun h _ x e=>hw.mem_iff.mp (List.mem_of_getElem? e)
end
end Rg
end
namespace Law
open PySem PySem.Spec PyProof.Rows L2 DL
abbrev gv (i:Nat):DL.FE:=fun r=>DL.getV r i
abbrev ci (i:Int):DL.FE:=fun _=>.ok (.int i)
abbrev q0:List DL.Md:=[.bw,.bw]
abbrev q101:List DL.Md:=[.sh,.sh,.sh]
abbrev q102:List DL.Md:=[.bw,.bw,.bw,.sh]
abbrev q103:List DL.Md:=[.bw,.bw,.sh,.sh]
abbrev q104:List DL.Md:=[.bw,.sh,.sh,.sh,.sh,.sh]
abbrev q105:List DL.Md:=[.bw,.bw,.bw,.ow,.ow,.ow,.sh,.ow,.sh,.sh]
abbrev q106:List DL.Md:=[.bw,.bw,.ow,.sh,.sh]
abbrev q107:List DL.Md:=[.bw,.bw,.bw]
abbrev q108:List DL.Md:=[.bw,.sh]
abbrev q109:List DL.Md:=[.sh,.sh]
abbrev q110:List DL.Md:=[.bw,.bw,.sh]
abbrev q111:List DL.Md:=[.sh,.bw,.bw,.ow,.sh]
abbrev q112:List DL.Md:=[.bw,.bw,.bw,.sh,.sh,.ow,.sh,.sh,.sh]
abbrev q113:List DL.Md:=[.sh,.sh,.sh,.sh,.sh,.sh,.sh,.sh,.sh,.sh]
abbrev q114:List DL.Md:=[.bw,.bw,.bw,.bw]
abbrev q115:List DL.Md:=[.bw,.sh,.sh,.ow,.sh,.sh]
abbrev q116:List DL.Md:=[.bw,.bw,.bw,.ow,.ow,.ow,.sh,.sh,.sh,.sh]
abbrev q117:List DL.Md:=[.sh,.bw,.ow,.sh]
abbrev q118:List DL.Md:=[.bw,.bw,.bw,.bw,.ow,.ow,.sh,.sh]
abbrev q119:List DL.Md:=[.bw,.bw,.bw,.sh,.sh,.sh,.sh,.sh,.sh]
abbrev q120:List DL.Md:=[.bw,.bw,.sh,.ow,.sh]
abbrev q121:List DL.Md:=[.sh,.sh,.sh,.bw,.sh,.sh,.sh,.sh,.sh,.sh]
abbrev q122:List DL.Md:=[.bw,.bw,.sh,.sh,.sh]
abbrev q123:List DL.Md:=[.bw,.ow,.sh,.sh,.sh]
abbrev q124:List DL.Md:=[.bw,.sh,.sh,.sh,.sh]
abbrev q125:List DL.Md:=[.bw,.bw,.bw,.bw,.ow,.ow,.sh,.ow]
abbrev q126:List DL.Md:=[.bw,.bw,.bw,.ow,.sh,.ow,.sh,.sh,.sh]
abbrev q127:List DL.Md:=[.bw,.bw,.bw,.ow,.ow,.ow,.sh,.sh,.sh]
abbrev q128:List DL.Md:=[.bw,.bw,.bw,.bw,.bw,.bw,.sh,.bw,.sh,.sh]
abbrev q129:List DL.Md:=[.bw,.bw,.bw,.ow,.ow,.sh,.sh,.sh,.sh,.sh]
theorem zgK {α:Type} (us:List α) (h:us.length=1):∃a0,us=[a0]:=by
 match us,h with
 | [_],_=>exact ⟨_,rfl⟩
theorem zeQ {α:Type} (us:List α) (h:us.length=2):∃a0 a1,us=[a0,a1]:=by
 match us,h with
 | [_,_],_=>exact ⟨_,_,rfl⟩
theorem zjN {α:Type} (us:List α) (h:us.length=3):∃a0 a1 a2,us=[a0,a1,a2]:=by
 match us,h with
 | [_,_,_],_=>exact ⟨_,_,_,rfl⟩
theorem zsM {α:Type} (us:List α) (h:us.length=4):∃a0 a1 a2 a3,us=[a0,a1,a2,a3]:=by
 match us,h with
 | [_,_,_,_],_=>exact ⟨_,_,_,_,rfl⟩
def top (i:Nat):Stmt:=PySem.Challenge.pw_ringtrade_k24_lots_by_ownings.main.body.getD i (.Pass ⟨0,0,0,0⟩)
structure Txt (K:W.Frag) (mg:Str->Option Value):Prop where
 b_range:mg "range" = none
 b_tuple:mg "tuple" = none
 b_len:mg "len" = none
 b_sorted:mg "sorted" = none
 b_abs:mg "abs" = none
 b_isinstance:mg "isinstance" = none
 b_bool:mg "bool" = none
 b_int:mg "int" = none
 b_enumerate:mg "enumerate" = none
 b_list:mg "list" = none
 b_all:mg "all" = none
 k_MOST_HANDS_IN_LOTS:∃t,mg "MOST_HANDS_IN_LOTS" = some (.int 5 t)
abbrev zgm:Stmt:=top 38
abbrev zhI:List Str:=["_law_cell_here","_law_m","_law_row_here","_law_thing"]
abbrev zfx:List Str:=["_law_cell_here","_law_m"]
theorem zdG:FnScope zhI zfx (zab zgm):=⟨rfl,rfl,rfl,by decide +kernel,rfl,by decide +kernel,by decide +kernel⟩
abbrev zfU:FS:=
 (seqF (mutF "list" q117 2 (zac (f2 (gv 0) (f2 (gv 3) (ci 1) addA) modI) (zac (gv 3) lNil)) insD) (seqF (setF q117 0 (f2 (gv 0) (f2 (gv 3) (ci 1) addA) znl)) zak))
def zes:FS:=
 (seqF (setF [.sh,.bw,.sh,.sh] 2 (mkL lNil)) (seqF (zch q117 (fRng rng1 (zac (gv 1) lNil)) (ftN 3) zfU) (seqF (retF q117 (fC (zac (gv 2) lNil) tupD)) zak)))
def zdB:List D->Res D:=fun ds=>outR false (zes (zao zhI.length ds))
variable {P:Program} {w:World} {K:W.Frag} {mg:Str->Option Value} {base:Heap}
theorem zqO (T:Txt K mg) (A:DefAt K mg "_law_row" zgm):Callee P w K mg base "_law_row" zfx [] 1 false [.sh,.bw] zdB:=by
 refine zaM (k:=0) (fs:=zes) (m':=q117) A zdG rfl (fun _ _ _ _ _ _ us hl=>by obtain ⟨u0,u1,rfl⟩:=zeQ us hl; kernel_rfl) fun f cdv A outer s H g E hr=>?_
 have hu1:=zbi hr
 have hu64:=hr.units
 exact (zaa (zcN 2 zdG.nd (by rfl) (lc_ rfl) (zfn zb3))
   (zaa (zfk PassesOwn.never rfl (zbS (by rfl) T.b_range (zal (vb_ 1) zax)) (zau 3 zdG.nd (by rfl) (lc_ rfl)) (zaa (zgt 2 rfl PySem.F.plainAttrs_list PySem.F.slot_list_insert PySem.F.type_list_insert zmO zs3 (by rfl) (vs_ rfl) (zba (zha (vb_ 0) (SE.toB (zeB (vb_ 3) (SE.toB zaL)))) (zba (v_ 3) zb3)))
   (zaa (zbk 0 zdG.nd (by rfl) (lc_ rfl) (zrP (vb_ 0) (SE.toB (zeB (vb_ 3) (SE.toB zaL)))))
   zaf)))
   (zaa (zaV (zdp (by rfl) T.b_tuple (zal (vb_ 2) zax)))
   zaf)))
abbrev zfE:Stmt:=top 37
abbrev zg6:List Str:=["_law_script","_law_k","_law_cell_here","_law_stirred"]
abbrev zdP:List Str:=["_law_script","_law_k"]
theorem zc9:FnScope zg6 zdP (zab zfE):=⟨rfl,rfl,rfl,by decide +kernel,rfl,by decide +kernel,by decide +kernel⟩
def zc2:FS:=
 (seqF (setF q103 2 (ci 0)) (seqF (ifF q103 (zaH (f2 (gv 1) (fC (zac (gv 0) lNil) lenD) ltI)) (seqF (setF q103 2 (f2 (f2 (gv 0) (gv 1) ixA) (f2 (ci 10) (ci 60) powI) modI)) zak) zak) (seqF (ifF q103 (fAnd (zaH (f2 (fC (zac (gv 0) lNil) lenD) (ci 0) gtI)) (zaH (f2 (f2 (f2 (gv 0) (ci 0) ixA) (ci 2) modI) (ci 0) eqD))) (seqF (retF q103 (gv 2)) zak) zak) (seqF (setF q103 3 (f2 (f2 (f2 (f2 (f2 (f2 (f2 (gv 2) (f2 (f2 (ci 7) (gv 1) mulI) (gv 1) mulI) addA) (f2 (ci 13) (gv 1) mulI) addA) (ci 5) addA) (ci 48271) mulI) (ci 2147483647) modI) (ci 69621) mulI) (ci 1000000007) modI)) (seqF (retF q103 (f2 (f2 (f2 (f2 (f2 (gv 3) (ci 1) addA) (ci 40692) mulI) (ci 2147483629) modI) (ci 39373) mulI) (ci 999999937) modI)) zak)))))
def zbI:List D->Res D:=fun ds=>outR false (zc2 (zao zg6.length ds))
theorem zpx (T:Txt K mg) (A:DefAt K mg "_law_cell" zfE):Callee P w K mg base "_law_cell" zdP [] 1 false q0 zbI:=by
 refine zaM (k:=0) (fs:=zc2) (m':=q103) A zc9 rfl (fun _ _ _ _ _ _ us hl=>by obtain ⟨u0,u1,rfl⟩:=zeQ us hl; kernel_rfl) fun f cdv A outer s H g E hr=>?_
 have hu1:=zbi hr
 have hu64:=hr.units
 exact (zaa (zbk 2 zc9.nd (by rfl) (lc_ rfl) zaL)
   (zaa (s_if (q_lt (vb_ 1) (SE.toB (zcO (by rfl) T.b_len (zal (vb_ 0) zax)))) (zaa (zbk 2 zc9.nd (by rfl) (lc_ rfl) (zha (SE.toB (zcl hu1 (vb_ 0) (vb_ 1))) (SE.toB (ztW (SE.toB zaL) (SE.toB zaL)))))
   zaf)
   zaf)
   (zaa (s_if (SW.toQ (zr6 (q_gt (SE.toB (zcO (by rfl) T.b_len (zal (vb_ 0) zax))) (SE.toB zaL)) (zpi (q_eq hu64 (SE.toB (zha (SE.toB (zcl hu1 (vb_ 0) (SE.toB zaL))) (SE.toB zaL))) (SE.toB zaL))))) (zaa (zaV (v_ 2))
   zaf)
   zaf)
   (zaa (zbk 3 zc9.nd (by rfl) (lc_ rfl) (zha (SE.toB (zjz (SE.toB (zha (SE.toB (zjz (SE.toB (zeB (SE.toB (zeB (SE.toB (zeB (vb_ 2) (SE.toB (zjz (SE.toB (zjz (SE.toB zaL) (vb_ 1))) (vb_ 1))))) (SE.toB (zjz (SE.toB zaL) (vb_ 1))))) (SE.toB zaL))) (SE.toB zaL))) (SE.toB zaL))) (SE.toB zaL))) (SE.toB zaL)))
   (zaa (zaV (zha (SE.toB (zjz (SE.toB (zha (SE.toB (zjz (SE.toB (zeB (vb_ 3) (SE.toB zaL))) (SE.toB zaL))) (SE.toB zaL))) (SE.toB zaL))) (SE.toB zaL)))
   zaf)))))
abbrev zcc:Stmt:=top 39
abbrev zcz:List Str:=["_law_script","_law_at","_law_n","_law_m"]
abbrev zdO:List Str:=["_law_script","_law_at","_law_n","_law_m"]
theorem zeA:FnScope zcz zdO (zab zcc):=⟨rfl,rfl,rfl,by decide +kernel,rfl,by decide +kernel,by decide +kernel⟩
def zcD:FS:=
 (seqF (retF q114 (fC (zac (zbz 1 [3,0,1] (fRng rng1 (zac (gv 2) lNil)) (ftN 0) (fun _=>Res.ok true) (zaE (zac (zaE (zac (gv 2) (zac (f2 (gv 3) (gv 0) addA) lNil)) [] zbI) (zac (gv 1) lNil)) [] zdB)) lNil) tupD)) zak)
def zcB:List D->Res D:=fun ds=>outR false (zcD (zao zcz.length ds))
theorem znP (T:Txt K mg) (A:DefAt K mg "_law_wishes" zcc) (c__law_cell:Callee P w K mg base "_law_cell" zdP [] 1 false q0 zbI) (c__law_row:Callee P w K mg base "_law_row" zfx [] 1 false [.sh,.bw] zdB):Callee P w K mg base "_law_wishes" zdO [] 2 false q114 zcB:=by
 refine zaM (k:=1) (fs:=zcD) (m':=q114) A zeA rfl (fun _ _ _ _ _ _ us hl=>by obtain ⟨u0,u1,u2,u3,rfl⟩:=zsM us hl; kernel_rfl) fun f cdv A outer s H g E hr=>?_
 have hu1:=zbi hr
 have hu64:=hr.units
 exact (zaa (zaV (zdp (by rfl) T.b_tuple (zal (SO.toB (zeD (X:=(cxOf CX0 P w K mg base zcz "_law_wishes" (zab zcc) f cdv A outer s H E).nox) (N':=["_law_hand","_law_m","_law_script","_law_at"]) (nl:=1) (cap:=[3,0,1]) zeA.nd rfl (zaO (osc:=(zab zcc)) (ON:=zcz) rfl rfl (by decide +kernel)) (SIt.toC (zbS (by rfl) T.b_range (zal (vb_ 2) zax))) (fun _ _ _ _ _ _=>(zau 0 (show List.Nodup (["_law_hand","_law_m","_law_script","_law_at"]:List Str) by decide +kernel) (by rfl) (lc_ rfl))) (zcp (by decide)) (fun _ _ _ _ _ _=>zd3) (fun _ _ _ _ _ _=>(zar (dds:=[]) c__law_row (hr.mono (by decide)) (m_sh (zar (dds:=[]) c__law_cell (hr.mono (by decide)) (m_bw (vb_ 2) (m_bw (SE.toB (zeB (vb_ 3) (vb_ 0))) zaQ))) (m_bw (vb_ 1) zaQ)))))) zax)))
   zaf)
abbrev zc6:Stmt:=top 40
abbrev zdy:List Str:=["_law_n","_law_found","_law_one","_law_longer","_law_row_here","_law_at"]
abbrev zb9:List Str:=["_law_n"]
theorem zaw:FnScope zdy zb9 (zab zc6):=⟨rfl,rfl,rfl,by decide +kernel,rfl,by decide +kernel,by decide +kernel⟩
abbrev zc0:FS:=
 (seqF (mutF "list" q115 3 (zac (f2 (f2 (fSl (gv 4) (fun _=>Res.ok none) (zhf (gv 5))) (mkL (zac (gv 2) lNil)) addE) (fSl (gv 4) (zhf (gv 5)) (fun _=>Res.ok none)) addE) lNil) appD) zak)
abbrev zcZ:FS:=
 (seqF (zch q115 (fRng rng1 (zac (f2 (fC (zac (gv 4) lNil) lenD) (ci 1) addA) lNil)) (ftN 5) zc0) zak)
abbrev zcY:FS:=
 (seqF (setF q104 3 (mkL lNil)) (seqF (zch q115 (fSeq za7 (gv 1)) (ftN 4) zcZ) (seqF (setF q104 1 (gv 3)) zak)))
def zbt:FS:=
 (seqF (setF q104 1 (mkL (zac (mkL lNil) lNil))) (seqF (zch q104 (fRng rng1 (zac (gv 0) lNil)) (ftN 2) zcY) (seqF (retF q104 (fC (zac (gv 1) lNil) zkf)) zak)))
def zbr:List D->Res D:=fun ds=>outR false (zbt (zao zdy.length ds))
theorem zkt (T:Txt K mg) (A:DefAt K mg "_law_all_orders" zc6):Callee P w K mg base "_law_all_orders" zb9 [] 1 false [Md.bw] zbr:=by
 refine zaM (k:=0) (fs:=zbt) (m':=q104) A zaw rfl (fun _ _ _ _ _ _ us hl=>by obtain ⟨u0,rfl⟩:=zgK us hl; kernel_rfl) fun f cdv A outer s H g E hr=>?_
 have hu1:=zbi hr
 have hu64:=hr.units
 exact (zaa (zbk 1 zaw.nd (by rfl) (lc_ rfl) (SO.toE (zfn (zba (SO.toE (zfn zb3)) zb3))))
   (zaa (zfk PassesOwn.never rfl (zbS (by rfl) T.b_range (zal (vb_ 0) zax)) (zau 2 zaw.nd (by rfl) (lc_ rfl)) (zaa (zcN 3 zaw.nd (by rfl) (lc_ rfl) (zfn zb3))
   (zaa (zfk PassesOwn.never rfl (zi1 (v_ 1)) (zau 4 zaw.nd (by rfl) (lc_ rfl)) (zaa (zfk PassesOwn.never rfl (zbS (by rfl) T.b_range (zal (SE.toB (zeB (SE.toB (zcO (by rfl) T.b_len (zal (vb_ 4) zax))) (SE.toB zaL))) zax)) (zau 5 zaw.nd (by rfl) (lc_ rfl)) (zaa (zgt 3 rfl PySem.F.plainAttrs_list PySem.F.slot_list_append PySem.F.type_list_append zcg zhA (by rfl) (vs_ rfl) (zba (zki (SE.toB (zki (SE.toB (zla (vb_ 4) zhm (zhl (vb_ 5)))) (SO.toB (zfn (zba (v_ 2) zb3))))) (SE.toB (zla (vb_ 4) (zhl (vb_ 5)) zhm))) zb3))
   zaf))
   zaf))
   (zaa (znZ 3 rfl (zbk 1 zaw.nd (by rfl) (lc_ rfl) (v_ 3)))
   zaf))))
   (zaa (zaV (SO.toE (zmL hr (by rfl) T.b_sorted (zal (vb_ 1) zax))))
   zaf)))
abbrev zfA:Stmt:=top 12
abbrev zg3:List Str:=["wishes"]
abbrev zcU:List Str:=["wishes"]
theorem zit:FnScope zg3 zcU (zab zfA):=⟨rfl,rfl,rfl,by decide +kernel,rfl,by decide +kernel,by decide +kernel⟩
def zdW:FS:=
 (seqF (retF [Md.bw] (fC (zac (f2 (gv 0) (ci 0) ixA) lNil) lenD)) zak)
def za8:List D->Res D:=fun ds=>outR false (zdW (zao zg3.length ds))
theorem zpr (T:Txt K mg) (A:DefAt K mg "things_in" zfA):Callee P w K mg base "things_in" zcU [] 1 false [Md.bw] za8:=by
 refine zaM (k:=0) (fs:=zdW) (m':=[Md.bw]) A zit rfl (fun _ _ _ _ _ _ us hl=>by obtain ⟨u0,rfl⟩:=zgK us hl; kernel_rfl) fun f cdv A outer s H g E hr=>?_
 have hu1:=zbi hr
 have hu64:=hr.units
 exact (zaa (zaV (zcO (by rfl) T.b_len (zal (SE.toB (zcl hu1 (vb_ 0) (SE.toB zaL))) zax)))
   zaf)
abbrev zfD:Stmt:=top 13
abbrev zg5:List Str:=["wishes"]
abbrev zeT:List Str:=["wishes"]
theorem ziu:FnScope zg5 zeT (zab zfD):=⟨rfl,rfl,rfl,by decide +kernel,rfl,by decide +kernel,by decide +kernel⟩
def zdZ:FS:=
 (seqF (retF [Md.bw] (f2 (zaE (zac (gv 0) lNil) [] za8) (fC (zac (gv 0) lNil) lenD) eqD)) zak)
def zdT:List D->Res D:=fun ds=>outR false (zdZ (zao zg5.length ds))
theorem zpu (T:Txt K mg) (A:DefAt K mg "is_square" zfD) (c_things_in:Callee P w K mg base "things_in" zcU [] 1 false [Md.bw] za8):Callee P w K mg base "is_square" zeT [] 2 false [Md.bw] zdT:=by
 refine zaM (k:=1) (fs:=zdZ) (m':=[Md.bw]) A ziu rfl (fun _ _ _ _ _ _ us hl=>by obtain ⟨u0,rfl⟩:=zgK us hl; kernel_rfl) fun f cdv A outer s H g E hr=>?_
 have hu1:=zbi hr
 have hu64:=hr.units
 exact (zaa (zaV (s_eq hu64 (SE.toB (zar (dds:=[]) c_things_in (hr.mono (by decide)) (m_bw (vb_ 0) zaQ))) (SE.toB (zcO (by rfl) T.b_len (zal (vb_ 0) zax)))))
   zaf)
abbrev zbN:Stmt:=top 14
abbrev zb4:List Str:=["wishes"]
abbrev zbc:List Str:=["wishes"]
theorem zdF:FnScope zb4 zbc (zab zbN):=⟨rfl,rfl,rfl,by decide +kernel,rfl,by decide +kernel,by decide +kernel⟩
def zaA:FS:=
 (seqF (ifF [Md.bw] (fNot (fTru (zaE (zac (gv 0) lNil) [] zdT))) (seqF (fun _=>Out.stuck) zak) zak) zak)
def zaP:List D->Res D:=fun ds=>outR false (zaA (zao zb4.length ds))
theorem zhZ (T:Txt K mg) (A:DefAt K mg "refuse_unless_square" zbN) (c_is_square:Callee P w K mg base "is_square" zeT [] 2 false [Md.bw] zdT):Callee P w K mg base "refuse_unless_square" zbc [] 3 false [Md.bw] zaP:=by
 refine zaM (k:=2) (fs:=zaA) (m':=[Md.bw]) A zdF rfl (fun _ _ _ _ _ _ us hl=>by obtain ⟨u0,rfl⟩:=zgK us hl; kernel_rfl) fun f cdv A outer s H g E hr=>?_
 have hu1:=zbi hr
 have hu64:=hr.units
 exact (zaa (s_if (zhd (zfY (SE.toB (zar (dds:=[]) c_is_square (hr.mono (by decide)) (m_bw (vb_ 0) zaQ))))) (zaa zhR
   zaf)
   zaf)
   zaf)
abbrev zbj:Stmt:=top 32
abbrev zbu:List Str:=["wishes"]
abbrev zaS:List Str:=["wishes"]
theorem zcL:FnScope zbu zaS (zab zbj):=⟨rfl,rfl,rfl,by decide +kernel,rfl,by decide +kernel,by decide +kernel⟩
def zas:FS:=
 (seqF (ifF [Md.bw] (zaH (f2 (fC (zac (gv 0) lNil) lenD) (ci 5) gtI)) (seqF (fun _=>Out.stuck) zak) zak) zak)
def zay:List D->Res D:=fun ds=>outR false (zas (zao zbu.length ds))
theorem zgC (T:Txt K mg) (A:DefAt K mg "refuse_too_many_for_lots" zbj):Callee P w K mg base "refuse_too_many_for_lots" zaS [] 1 false [Md.bw] zay:=by
 refine zaM (k:=0) (fs:=zas) (m':=[Md.bw]) A zcL rfl (fun _ _ _ _ _ _ us hl=>by obtain ⟨u0,rfl⟩:=zgK us hl; kernel_rfl) fun f cdv A outer s H g E hr=>?_
 have hu1:=zbi hr
 have hu64:=hr.units
 exact (zaa (s_if (q_gt (SE.toB (zcO (by rfl) T.b_len (zal (vb_ 0) zax))) (SE.toB (zqb (by rfl) T.k_MOST_HANDS_IN_LOTS))) (zaa zhR
   zaf)
   zaf)
   zaf)
abbrev zcJ:Stmt:=top 17
abbrev zde:List Str:=["one","other","rest"]
abbrev zbT:List Str:=["one","other"]
theorem za5:FnScope zde zbT (zab zcJ):=⟨rfl,rfl,rfl,by decide +kernel,rfl,by decide +kernel,by decide +kernel⟩
abbrev zew:FQ:=
 (zaH (f2 (gv 1) (ci 0) neD))
abbrev zex:FS:=
 (seqF (setF q101 2 (f2 (gv 0) (gv 1) modI)) (seqF (setF q101 0 (gv 1)) (seqF (setF q101 1 (gv 2)) zak)))
def zdl:FS:=
 (seqF (za9 q101 zew zex 1000) (seqF (retF q101 (fC (zac (gv 0) lNil) absD)) zak))
def zbe:List D->Res D:=fun ds=>outR false (zdl (zao zde.length ds))
theorem zjF (T:Txt K mg) (A:DefAt K mg "greatest_divisor" zcJ):Callee P w K mg base "greatest_divisor" zbT [] 1 false q109 zbe:=by
 refine zaM (k:=0) (fs:=zdl) (m':=q101) A za5 rfl (fun _ _ _ _ _ _ us hl=>by obtain ⟨u0,u1,rfl⟩:=zeQ us hl; kernel_rfl) fun f cdv A outer s H g E hr=>?_
 have hu1:=zbi hr
 have hu64:=hr.units
 exact (zaa (zfj 1000 PassesOwn.never (q_ne hu64 (vb_ 1) (SE.toB zaL)) (zaa (zbk 2 za5.nd (by rfl) (lc_ rfl) (zha (vb_ 0) (vb_ 1)))
   (zaa (zbk 0 za5.nd (by rfl) (lc_ rfl) (v_ 1))
   (zaa (zbk 1 za5.nd (by rfl) (lc_ rfl) (v_ 2))
   zaf))))
   (zaa (zaV (zrS (by rfl) T.b_abs (zal (vb_ 0) zax)))
   zaf))
abbrev zgj:Stmt:=top 7
abbrev zhE:List Str:=["value"]
abbrev zem:List Str:=["value"]
theorem zjw:FnScope zhE zem (zab zgj):=⟨rfl,rfl,rfl,by decide +kernel,rfl,by decide +kernel,by decide +kernel⟩
def zhN:FS:=
 (seqF (retF [Md.bw] (vAnd (f1 (gv 0) (isiD "int")) (vNot (f1 (gv 0) (isiD "bool"))))) zak)
def zbM:List D->Res D:=fun ds=>outR false (zhN (zao zhE.length ds))
theorem zqK (T:Txt K mg) (A:DefAt K mg "is_whole" zgj):Callee P w K mg base "is_whole" zem [] 1 false [Md.bw] zbM:=by
 refine zaM (k:=0) (fs:=zhN) (m':=[Md.bw]) A zjw rfl (fun _ _ _ _ _ _ us hl=>by obtain ⟨u0,rfl⟩:=zgK us hl; kernel_rfl) fun f cdv A outer s H g E hr=>?_
 have hu1:=zbi hr
 have hu64:=hr.units
 exact (zaa (zaV (zl7 (zjA "int" "int" rfl (zmY _) (by rfl) T.b_isinstance (by rfl) T.b_int (vb_ 0)) (zl5 (ztX (zjA "bool" "bool" rfl (zkG _) (by rfl) T.b_isinstance (by rfl) T.b_bool (vb_ 0))))))
   zaf)
abbrev zgl:Stmt:=top 18
abbrev zhG:List Str:=["top","bottom","divisor"]
abbrev zfw:List Str:=["top","bottom"]
theorem zeM:FnScope zhG zfw (zab zgl):=⟨rfl,rfl,rfl,by decide +kernel,rfl,by decide +kernel,by decide +kernel⟩
def zer:FS:=
 (seqF (ifF q101 (fOr (fNot (fTru (zaE (zac (gv 0) lNil) [] zbM))) (fOr (fNot (fTru (zaE (zac (gv 1) lNil) [] zbM))) (zaH (f2 (gv 1) (ci 0) eqD)))) (seqF (fun _=>Out.stuck) zak) zak) (seqF (setF q101 2 (zaE (zac (gv 0) (zac (gv 1) lNil)) [] zbe)) (seqF (ifF q101 (zaH (f2 (gv 1) (ci 0) ltI)) (seqF (setF q101 2 (f1 (gv 2) negI)) zak) zak) (seqF (retF q101 (mkT (zac (f2 (gv 0) (gv 2) zjV) (zac (f2 (gv 1) (gv 2) zjV) lNil)))) zak))))
def zep:List D->Res D:=fun ds=>outR false (zer (zao zhG.length ds))
theorem zqM (T:Txt K mg) (A:DefAt K mg "fraction" zgl) (c_is_whole:Callee P w K mg base "is_whole" zem [] 1 false [Md.bw] zbM) (c_greatest_divisor:Callee P w K mg base "greatest_divisor" zbT [] 1 false q109 zbe):Callee P w K mg base "fraction" zfw [] 2 false q109 zep:=by
 refine zaM (k:=1) (fs:=zer) (m':=q101) A zeM rfl (fun _ _ _ _ _ _ us hl=>by obtain ⟨u0,u1,rfl⟩:=zeQ us hl; kernel_rfl) fun f cdv A outer s H g E hr=>?_
 have hu1:=zbi hr
 have hu64:=hr.units
 exact (zaa (s_if (SW.toQ (q_or (zhd (zfY (SE.toB (zar (dds:=[]) c_is_whole (hr.mono (by decide)) (m_bw (vb_ 0) zaQ))))) (q_or (zhd (zfY (SE.toB (zar (dds:=[]) c_is_whole (hr.mono (by decide)) (m_bw (vb_ 1) zaQ))))) (zlm (q_eq hu64 (vb_ 1) (SE.toB zaL)))))) (zaa zhR
   zaf)
   zaf)
   (zaa (zbk 2 zeM.nd (by rfl) (lc_ rfl) (zar (dds:=[]) c_greatest_divisor (hr.mono (by decide)) (m_sh (v_ 0) (m_sh (v_ 1) zaQ))))
   (zaa (s_if (q_lt (vb_ 1) (SE.toB zaL)) (zaa (zbk 2 zeM.nd (by rfl) (lc_ rfl) (ztY (vb_ 2)))
   zaf)
   zaf)
   (zaa (zaV (znY (zba (zhS (vb_ 0) (vb_ 2)) (zba (zhS (vb_ 1) (vb_ 2)) zb3))))
   zaf))))
abbrev zbJ:Stmt:=top 34
abbrev zca:List Str:=["dealings","things","table","hand","got"]
abbrev zeR:List Str:=["dealings","things"]
theorem zbK:FnScope zca zeR (zab zbJ):=⟨rfl,rfl,rfl,by decide +kernel,rfl,by decide +kernel,by decide +kernel⟩
abbrev zff:FS:=
 (seqF (setF q106 4 (zbz 1 [3] (fSeq za7 (gv 0)) (ftN 0) (fun _=>Res.ok true) (f2 (gv 0) (gv 1) ixA))) (seqF (mutF "list" q106 2 (zac (fC (zac (zbz 1 [0,4] (fRng rng1 (zac (gv 1) lNil)) (ftN 0) (fun _=>Res.ok true) (zaE (zac (fM "list" (gv 2) (zac (gv 0) lNil) zkR) (zac (fC (zac (gv 1) lNil) lenD) lNil)) [] zep)) lNil) tupD) lNil) appD) zak))
def zdX:FS:=
 (seqF (setF q122 2 (mkL lNil)) (seqF (zch q106 (fRng rng1 (zac (fC (zac (f2 (gv 0) (ci 0) ixA) lNil) lenD) lNil)) (ftN 3) zff) (seqF (retF q106 (fC (zac (gv 2) lNil) tupD)) zak)))
def zdR:List D->Res D:=fun ds=>outR false (zdX (zao zca.length ds))
theorem zps (T:Txt K mg) (A:DefAt K mg "shares_in" zbJ) (c_fraction:Callee P w K mg base "fraction" zfw [] 2 false q109 zep):Callee P w K mg base "shares_in" zeR [] 3 false q0 zdR:=by
 refine zaM (k:=2) (fs:=zdX) (m':=q106) A zbK rfl (fun _ _ _ _ _ _ us hl=>by obtain ⟨u0,u1,rfl⟩:=zeQ us hl; kernel_rfl) fun f cdv A outer s H g E hr=>?_
 have hu1:=zbi hr
 have hu64:=hr.units
 exact (zaa (zcN 2 zbK.nd (by rfl) (lc_ rfl) (zfn zb3))
   (zaa (zfk PassesOwn.never rfl (zbS (by rfl) T.b_range (zal (SE.toB (zcO (by rfl) T.b_len (zal (SE.toB (zcl hu1 (vb_ 0) (SE.toB zaL))) zax))) zax)) (zau 3 zbK.nd (by rfl) (lc_ rfl)) (zaa (zbk 4 zbK.nd (by rfl) (lc_ rfl) (SO.toE (zeD (X:=(cxOf CX0 P w K mg base zca "shares_in" (zab zbJ) f cdv A outer s H E).nox) (N':=["dealing","hand"]) (nl:=1) (cap:=[3]) zbK.nd rfl (zaO (osc:=(zab zbJ)) (ON:=zca) rfl rfl (by decide +kernel)) (zco (vb_ 0)) (fun _ _ _ _ _ _=>(zau 0 (show List.Nodup (["dealing","hand"]:List Str) by decide +kernel) (by rfl) (lc_ rfl))) (zcp (by decide)) (fun _ _ _ _ _ _=>zd3) (fun _ _ _ _ _ _=>(zcl hu1 (vb_ 0) (vb_ 1))))))
   (zaa (zgt 2 rfl PySem.F.plainAttrs_list PySem.F.slot_list_append PySem.F.type_list_append zcg zhA (by rfl) (vs_ rfl) (zba (zdp (by rfl) T.b_tuple (zal (SO.toB (zeD (X:=(cxOf CX0 P w K mg base zca "shares_in" (zab zbJ) f cdv A outer s H E).nox) (N':=["thing","dealings","got"]) (nl:=1) (cap:=[0,4]) zbK.nd rfl (zaO (osc:=(zab zbJ)) (ON:=zca) rfl rfl (by decide +kernel)) (SIt.toC (zbS (by rfl) T.b_range (zal (vb_ 1) zax))) (fun _ _ _ _ _ _=>(zau 0 (show List.Nodup (["thing","dealings","got"]:List Str) by decide +kernel) (by rfl) (lc_ rfl))) (zcp (by decide)) (fun _ _ _ _ _ _=>zd3) (fun _ _ _ _ _ _=>(zar (dds:=[]) c_fraction (hr.mono (by decide)) (m_sh (s_bm PySem.F.plainAttrs_list PySem.F.slot_list_count PySem.F.type_list_count zmP zny (vb_ 2) (zal (vb_ 0) zax)) (m_sh (zcO (by rfl) T.b_len (zal (vb_ 1) zax)) zaQ)))))) zax)) zb3))
   zaf)))
   (zaa (zaV (zdp (by rfl) T.b_tuple (zal (vb_ 2) zax)))
   zaf)))
abbrev zgk:Stmt:=top 8
abbrev zhF:List Str:=["value","bound"]
abbrev zfv:List Str:=["value","bound"]
theorem zjx:FnScope zhF zfv (zab zgk):=⟨rfl,rfl,rfl,by decide +kernel,rfl,by decide +kernel,by decide +kernel⟩
def zeq:FS:=
 (seqF (retF q0 (vAnd (zaE (zac (gv 0) lNil) [] zbM) (zi6 (ci 0) (gv 0) (gv 1) leI ltI))) zak)
def zdA:List D->Res D:=fun ds=>outR false (zeq (zao zhF.length ds))
theorem zqL (T:Txt K mg) (A:DefAt K mg "is_below" zgk) (c_is_whole:Callee P w K mg base "is_whole" zem [] 1 false [Md.bw] zbM):Callee P w K mg base "is_below" zfv [] 2 false q0 zdA:=by
 refine zaM (k:=1) (fs:=zeq) (m':=q0) A zjx rfl (fun _ _ _ _ _ _ us hl=>by obtain ⟨u0,u1,rfl⟩:=zeQ us hl; kernel_rfl) fun f cdv A outer s H g E hr=>?_
 have hu1:=zbi hr
 have hu64:=hr.units
 exact (zaa (zaV (zl7 (zar (dds:=[]) c_is_whole (hr.mono (by decide)) (m_bw (vb_ 0) zaQ)) (zl5 (zn0 zua zst zuc zub (SE.toB zaL) (vb_ 0) (vb_ 1)))))
   zaf)
abbrev zey:Stmt:=top 9
abbrev zfd:List Str:=["numbers","bound","ahead","place","number"]
abbrev zdN:List Str:=["numbers","bound"]
theorem zcd:FnScope zfd zdN (zab zey):=⟨rfl,rfl,rfl,by decide +kernel,rfl,by decide +kernel,by decide +kernel⟩
abbrev zcX:FS:=
 (seqF (ifF q106 (fOr (fNot (fTru (zaE (zac (gv 4) (zac (gv 1) lNil)) [] zdA))) (zaH (f2 (gv 4) (gv 2) inD))) (seqF (retF q106 (gv 3)) zak) zak) (seqF (putF q106 2 (gv 4) (fun _=>Res.ok (D.bl true))) zak))
def zcC:FS:=
 (seqF (setF q122 2 (fun _=>Res.ok (D.dic []))) (seqF (zch q106 (fEnu (gv 0)) (ftT (zcQ (ftN 3) (zcQ (ftN 4) zi2))) zcX) (seqF (retF q106 (fC (zac (gv 0) lNil) lenD)) zak)))
def zcA:List D->Res D:=fun ds=>outR false (zcC (zao zfd.length ds))
theorem znO (T:Txt K mg) (A:DefAt K mg "first_wrong" zey) (c_is_below:Callee P w K mg base "is_below" zfv [] 2 false q0 zdA):Callee P w K mg base "first_wrong" zdN [] 3 false q0 zcA:=by
 refine zaM (k:=2) (fs:=zcC) (m':=q106) A zcd rfl (fun _ _ _ _ _ _ us hl=>by obtain ⟨u0,u1,rfl⟩:=zeQ us hl; kernel_rfl) fun f cdv A outer s H g E hr=>?_
 have hu1:=zbi hr
 have hu64:=hr.units
 exact (zaa (zcN 2 zcd.nd (by rfl) (lc_ rfl) zho)
   (zaa (zl6 PassesOwn.never rfl (zq3 (by rfl) T.b_enumerate (vw_ 0)) (zq5 rfl (zhx (zau 3 zcd.nd (by rfl) (lc_ rfl)) (zhx (zau 4 zcd.nd (by rfl) (lc_ rfl)) zq6))) (zaa (s_if (SW.toQ (q_or (zhd (zfY (SE.toB (zar (dds:=[]) c_is_below (hr.mono (by decide)) (m_bw (vb_ 4) (m_bw (vb_ 1) zaQ)))))) (zlm (q_in hu1 (vb_ 4) (vb_ 2))))) (zaa (zaV (v_ 3))
   zaf)
   zaf)
   (zaa (zl4 2 hu1 rfl (by rfl) (vs_ rfl) (vb_ 4) s_bl)
   zaf)))
   (zaa (zaV (zcO (by rfl) T.b_len (zal (vb_ 0) zax)))
   zaf)))
abbrev ze0:Stmt:=top 10
abbrev zfR:List Str:=["numbers","bound"]
abbrev zei:List Str:=["numbers","bound"]
theorem zhQ:FnScope zfR zei (zab ze0):=⟨rfl,rfl,rfl,by decide +kernel,rfl,by decide +kernel,by decide +kernel⟩
def zdn:FS:=
 (seqF (retF q0 (f2 (zaE (zac (gv 0) (zac (gv 1) lNil)) [] zcA) (fC (zac (gv 0) lNil) lenD) eqD)) zak)
def zdj:List D->Res D:=fun ds=>outR false (zdn (zao zfR.length ds))
theorem zoo (T:Txt K mg) (A:DefAt K mg "are_unlike" ze0) (c_first_wrong:Callee P w K mg base "first_wrong" zdN [] 3 false q0 zcA):Callee P w K mg base "are_unlike" zei [] 4 false q0 zdj:=by
 refine zaM (k:=3) (fs:=zdn) (m':=q0) A zhQ rfl (fun _ _ _ _ _ _ us hl=>by obtain ⟨u0,u1,rfl⟩:=zeQ us hl; kernel_rfl) fun f cdv A outer s H g E hr=>?_
 have hu1:=zbi hr
 have hu64:=hr.units
 exact (zaa (zaV (s_eq hu64 (SE.toB (zar (dds:=[]) c_first_wrong (hr.mono (by decide)) (m_bw (vb_ 0) (m_bw (vb_ 1) zaQ)))) (SE.toB (zcO (by rfl) T.b_len (zal (vb_ 0) zax)))))
   zaf)
abbrev zd2:Stmt:=top 11
abbrev zek:List Str:=["numbers","bound"]
abbrev zcV:List Str:=["numbers","bound"]
theorem zfX:FnScope zek zcV (zab zd2):=⟨rfl,rfl,rfl,by decide +kernel,rfl,by decide +kernel,by decide +kernel⟩
def zb0:FS:=
 (seqF (retF q0 (vAnd (f2 (fC (zac (gv 0) lNil) lenD) (gv 1) eqD) (zaE (zac (gv 0) (zac (gv 1) lNil)) [] zdj))) zak)
def zbY:List D->Res D:=fun ds=>outR false (zb0 (zao zek.length ds))
theorem zlN (T:Txt K mg) (A:DefAt K mg "has_each_once" zd2) (c_are_unlike:Callee P w K mg base "are_unlike" zei [] 4 false q0 zdj):Callee P w K mg base "has_each_once" zcV [] 5 false q0 zbY:=by
 refine zaM (k:=4) (fs:=zb0) (m':=q0) A zfX rfl (fun _ _ _ _ _ _ us hl=>by obtain ⟨u0,u1,rfl⟩:=zeQ us hl; kernel_rfl) fun f cdv A outer s H g E hr=>?_
 have hu1:=zbi hr
 have hu64:=hr.units
 exact (zaa (zaV (zl7 (s_eq hu64 (SE.toB (zcO (by rfl) T.b_len (zal (vb_ 0) zax))) (vb_ 1)) (zl5 (zar (dds:=[]) c_are_unlike (hr.mono (by decide)) (m_bw (vb_ 0) (m_bw (vb_ 1) zaQ))))))
   zaf)
abbrev zgi:Stmt:=top 15
abbrev zhD:List Str:=["wishes","order"]
abbrev zfu:List Str:=["wishes","order"]
theorem zjv:FnScope zhD zfu (zab zgi):=⟨rfl,rfl,rfl,by decide +kernel,rfl,by decide +kernel,by decide +kernel⟩
def zcI:FS:=
 (seqF (ifF q0 (zaH (f2 (gv 1) (fun _=>Res.ok D.non) isD)) (seqF (retF q0 (fC (zac (fC (zac (gv 0) lNil) lenD) lNil) zh5)) zak) zak) (seqF (ifF q0 (fNot (fTru (zaE (zac (gv 1) (zac (fC (zac (gv 0) lNil) lenD) lNil)) [] zbY))) (seqF (fun _=>Out.stuck) zak) zak) (seqF (retF q0 (fC (zac (gv 1) lNil) zjM)) zak)))
def zcG:List D->Res D:=fun ds=>outR false (zcI (zao zhD.length ds))
theorem zqJ (T:Txt K mg) (A:DefAtD K mg "order_of" zgi [Value.none]) (c_has_each_once:Callee P w K mg base "has_each_once" zcV [] 5 false q0 zbY):Callee P w K mg base "order_of" zfu [] 6 false q0 zcG:=by
 refine zh2 (ds:=[]) (k:=5) (fs:=zcI) (m':=q0) A zjv rfl 2 rfl (fun _ _ _ _ _ _ _ us hl=>by obtain ⟨u0,u1,rfl⟩:=zeQ us hl; exact ⟨_,rfl,rfl⟩) fun f cdv A outer s H g E hr=>?_
 have hu1:=zbi hr
 have hu64:=hr.units
 exact (zaa (s_if (q_is (vb_ 1) (SE.toB zjy)) (zaa (zaV (SO.toE (zh0 rfl (by rfl) T.b_list (by rfl) T.b_range (zal (SE.toB (zcO (by rfl) T.b_len (zal (vb_ 0) zax))) zax))))
   zaf)
   zaf)
   (zaa (s_if (zhd (zfY (SE.toB (zar (dds:=[]) c_has_each_once (hr.mono (by decide)) (m_bw (vb_ 1) (m_bw (SE.toB (zcO (by rfl) T.b_len (zal (vb_ 0) zax))) zaQ)))))) (zaa zhR
   zaf)
   zaf)
   (zaa (zaV (SO.toE (zpz (by rfl) T.b_list (zal (vb_ 1) zax))))
   zaf)))
abbrev zc5:Stmt:=top 20
abbrev zdQ:List Str:=["row","things"]
abbrev zeU:List Str:=["row","things"]
theorem zfI:FnScope zdQ zeU (zab zc5):=⟨rfl,rfl,rfl,by decide +kernel,rfl,by decide +kernel,by decide +kernel⟩
def zd0:FS:=
 (seqF (retF q0 (f2 (zbz 1 [1] (fSeq za7 (gv 0)) (ftN 0) (zaH (f2 (gv 0) (gv 1) inD)) (gv 0)) (ci 0) ixA)) zak)
def zcb:List D->Res D:=fun ds=>outR false (zd0 (zao zdQ.length ds))
theorem zpw (T:Txt K mg) (A:DefAt K mg "best_left" zc5):Callee P w K mg base "best_left" zeU [] 1 false q0 zcb:=by
 refine zaM (k:=0) (fs:=zd0) (m':=q0) A zfI rfl (fun _ _ _ _ _ _ us hl=>by obtain ⟨u0,u1,rfl⟩:=zeQ us hl; kernel_rfl) fun f cdv A outer s H g E hr=>?_
 have hu1:=zbi hr
 have hu64:=hr.units
 exact (zaa (zaV (zcl hu1 (SO.toB (zeD (X:=(cxOf CX0 P w K mg base zdQ "best_left" (zab zc5) f cdv A outer s H E).nox) (N':=["thing","things"]) (nl:=1) (cap:=[1]) zfI.nd rfl (zaO (osc:=(zab zc5)) (ON:=zdQ) rfl rfl (by decide +kernel)) (zco (vb_ 0)) (fun _ _ _ _ _ _=>(zau 0 (show List.Nodup (["thing","things"]:List Str) by decide +kernel) (by rfl) (lc_ rfl))) (zcp (by decide)) (fun _ _ _ _ _ _=>(zkn (q_in hu1 (vb_ 0) (vb_ 1)))) (fun _ _ _ _ _ _=>(v_ 0)))) (SE.toB zaL)))
   zaf)
abbrev zeZ:Stmt:=top 21
abbrev zfQ:List Str:=["owns","line","thing","hand"]
abbrev zeh:List Str:=["owns","line","thing"]
theorem ze3:FnScope zfQ zeh (zab zeZ):=⟨rfl,rfl,rfl,by decide +kernel,rfl,by decide +kernel,by decide +kernel⟩
abbrev zbA:FS:=
 (seqF (ifF q102 (zaH (f2 (f2 (gv 0) (gv 3) ixA) (gv 2) eqD)) (seqF (retF q102 (gv 3)) zak) zak) zak)
def zdk:FS:=
 (seqF (zch q102 (fSeq za7 (gv 1)) (ftN 3) zbA) (seqF (retF q102 (fun _=>Res.ok D.non)) zak))
def zdi:List D->Res D:=fun ds=>outR false (zdk (zao zfQ.length ds))
theorem zom (T:Txt K mg) (A:DefAt K mg "owner_left" zeZ):Callee P w K mg base "owner_left" zeh [] 1 false q107 zdi:=by
 refine zaM (k:=0) (fs:=zdk) (m':=q102) A ze3 rfl (fun _ _ _ _ _ _ us hl=>by obtain ⟨u0,u1,u2,rfl⟩:=zjN us hl; kernel_rfl) fun f cdv A outer s H g E hr=>?_
 have hu1:=zbi hr
 have hu64:=hr.units
 exact (zaa (ziv PassesOwn.never rfl (zco (vb_ 1)) (fun _=>(zau 3 ze3.nd (by rfl) (lc_ rfl))) (fun _=>(zaa (s_if (q_eq hu64 (SE.toB (zcl hu1 (vb_ 0) (vb_ 3))) (vb_ 2)) (zaa (zaV (v_ 3))
   zaf)
   zaf)
   zaf)))
   (zaa (zaV zjy)
   zaf))
abbrev zc4:Stmt:=top 25
abbrev zdx:List Str:=["owns","line","thing","owner"]
abbrev zb8:List Str:=["owns","line","thing"]
theorem zc8:FnScope zdx zb8 (zab zc4):=⟨rfl,rfl,rfl,by decide +kernel,rfl,by decide +kernel,by decide +kernel⟩
def zbs:FS:=
 (seqF (setF q102 3 (zaE (zac (gv 0) (zac (gv 1) (zac (gv 2) lNil))) [] zdi)) (seqF (retF q102 (fIf (zaH (f2 (gv 3) (fun _=>Res.ok D.non) isD)) (f2 (gv 1) (ci 0) ixA) (gv 3))) zak))
def za2:List D->Res D:=fun ds=>outR false (zbs (zao zdx.length ds))
theorem zks (T:Txt K mg) (A:DefAt K mg "hand_pointed_at" zc4) (c_owner_left:Callee P w K mg base "owner_left" zeh [] 1 false q107 zdi):Callee P w K mg base "hand_pointed_at" zb8 [] 2 false q107 za2:=by
 refine zaM (k:=1) (fs:=zbs) (m':=q102) A zc8 rfl (fun _ _ _ _ _ _ us hl=>by obtain ⟨u0,u1,u2,rfl⟩:=zjN us hl; kernel_rfl) fun f cdv A outer s H g E hr=>?_
 have hu1:=zbi hr
 have hu64:=hr.units
 exact (zaa (zbk 3 zc8.nd (by rfl) (lc_ rfl) (zar (dds:=[]) c_owner_left (hr.mono (by decide)) (m_bw (vb_ 0) (m_bw (vb_ 1) (m_bw (vb_ 2) zaQ)))))
   (zaa (zaV (zrN (q_is (vb_ 3) (SE.toB zjy)) (zcl hu1 (vb_ 1) (SE.toB zaL)) (v_ 3)))
   zaf))
abbrev zfB:Stmt:=top 26
abbrev zg4:List Str:=["first","targets","behind","ring","hand"]
abbrev zeS:List Str:=["first","targets","behind"]
theorem zc7:FnScope zg4 zeS (zab zfB):=⟨rfl,rfl,rfl,by decide +kernel,rfl,by decide +kernel,by decide +kernel⟩
abbrev zdM:FQ:=
 (fAnd (zaH (f2 (gv 4) (gv 0) gtI)) (zaH (f2 (fC (zac (gv 3) lNil) lenD) (fC (zac (gv 1) lNil) lenD) ltI)))
abbrev zfg:FS:=
 (seqF (mutF "list" q111 3 (zac (mkT (zac (gv 4) (zac (f2 (gv 1) (gv 4) ixA) lNil))) lNil) appD) (seqF (setF q111 4 (f2 (gv 2) (gv 4) ixA)) zak))
def zdY:FS:=
 (seqF (setF [.sh,.bw,.bw,.sh,.sh] 3 (mkL (zac (mkT (zac (gv 0) (zac (f2 (gv 1) (gv 0) ixA) lNil))) lNil))) (seqF (setF q111 4 (f2 (gv 2) (gv 0) ixA)) (seqF (za9 q111 zdM zfg 64) (seqF (retF q111 (fIf (zaH (f2 (gv 4) (gv 0) eqD)) (fC (zac (gv 3) lNil) tupD) (fun _=>Res.ok D.non))) zak))))
def zdS:List D->Res D:=fun ds=>outR false (zdY (zao zg4.length ds))
theorem zpt (T:Txt K mg) (A:DefAt K mg "ring_from" zfB):Callee P w K mg base "ring_from" zeS [] 1 false [.sh,.bw,.bw] zdS:=by
 refine zaM (k:=0) (fs:=zdY) (m':=q111) A zc7 rfl (fun _ _ _ _ _ _ us hl=>by obtain ⟨u0,u1,u2,rfl⟩:=zjN us hl; kernel_rfl) fun f cdv A outer s H g E hr=>?_
 have hu1:=zbi hr
 have hu64:=hr.units
 exact (zaa (zcN 3 zc7.nd (by rfl) (lc_ rfl) (zfn (zba (znY (zba (v_ 0) (zba (zcl hu1 (vb_ 1) (vb_ 0)) zb3))) zb3)))
   (zaa (zbk 4 zc7.nd (by rfl) (lc_ rfl) (zcl hu1 (vb_ 2) (vb_ 0)))
   (zaa (zfj 64 PassesOwn.never (SW.toQ (zr6 (q_gt (vb_ 4) (vb_ 0)) (zpi (q_lt (SE.toB (zcO (by rfl) T.b_len (zal (vb_ 3) zax))) (SE.toB (zcO (by rfl) T.b_len (zal (vb_ 1) zax))))))) (zaa (zgt 3 rfl PySem.F.plainAttrs_list PySem.F.slot_list_append PySem.F.type_list_append zcg zhA (by rfl) (vs_ rfl) (zba (znY (zba (v_ 4) (zba (zcl hu1 (vb_ 1) (vb_ 4)) zb3))) zb3))
   (zaa (zbk 4 zc7.nd (by rfl) (lc_ rfl) (zcl hu1 (vb_ 2) (vb_ 4)))
   zaf)))
   (zaa (zaV (zrN (q_eq hu64 (vb_ 4) (vb_ 0)) (zdp (by rfl) T.b_tuple (zal (vb_ 3) zax)) zjy))
   zaf))))
abbrev zaJ:Stmt:=top 27
abbrev zaT:List Str:=["wishes","owns","line","things","targets","behind","hand","walks"]
abbrev zcm:List Str:=["wishes","owns","line","things"]
theorem zaK:FnScope zaT zcm (zab zaJ):=⟨rfl,rfl,rfl,by decide +kernel,rfl,by decide +kernel,by decide +kernel⟩
abbrev zdh:FS:=
 (seqF (putF q118 4 (gv 6) (zaE (zac (f2 (gv 0) (gv 6) ixA) (zac (gv 3) lNil)) [] zcb)) (seqF (putF q118 5 (gv 6) (zaE (zac (gv 1) (zac (gv 2) (zac (f2 (gv 4) (gv 6) ixA) lNil))) [] za2)) zak))
def zbF:FS:=
 (seqF (setF [.bw,.bw,.bw,.bw,.sh,.sh,.sh,.sh] 4 (fun _=>Res.ok (D.dic []))) (seqF (setF [.bw,.bw,.bw,.bw,.ow,.sh,.sh,.sh] 5 (fun _=>Res.ok (D.dic []))) (seqF (zch q118 (fSeq za7 (gv 2)) (ftN 6) zdh) (seqF (setF q118 7 (zbz 1 [4,5] (fSeq za7 (gv 2)) (ftN 0) (fun _=>Res.ok true) (zaE (zac (gv 0) (zac (gv 1) (zac (gv 2) lNil))) [] zdS))) (seqF (retF q125 (fC (zac (zbz 1 [] (fSeq za7 (gv 7)) (ftN 0) (zaH (f2 (gv 0) (fun _=>Res.ok D.non) isnD)) (gv 0)) lNil) znX)) zak)))))
def zbD:List D->Res D:=fun ds=>outR false (zbF (zao zaT.length ds))
theorem zlo (T:Txt K mg) (A:DefAt K mg "rings_of_round" zaJ) (c_best_left:Callee P w K mg base "best_left" zeU [] 1 false q0 zcb) (c_hand_pointed_at:Callee P w K mg base "hand_pointed_at" zb8 [] 2 false q107 za2) (c_ring_from:Callee P w K mg base "ring_from" zeS [] 1 false [.sh,.bw,.bw] zdS):Callee P w K mg base "rings_of_round" zcm [] 3 false q114 zbD:=by
 refine zaM (k:=2) (fs:=zbF) (m':=q125) A zaK rfl (fun _ _ _ _ _ _ us hl=>by obtain ⟨u0,u1,u2,u3,rfl⟩:=zsM us hl; kernel_rfl) fun f cdv A outer s H g E hr=>?_
 have hu1:=zbi hr
 have hu64:=hr.units
 exact (zaa (zcN 4 zaK.nd (by rfl) (lc_ rfl) zho)
   (zaa (zcN 5 zaK.nd (by rfl) (lc_ rfl) zho)
   (zaa (zl6 PassesOwn.never rfl (zpG (vw_ 2)) (zau 6 zaK.nd (by rfl) (lc_ rfl)) (zaa (zl4 4 hu1 rfl (by rfl) (vs_ rfl) (vb_ 6) (zar (dds:=[]) c_best_left (hr.mono (by decide)) (m_bw (SE.toB (zcl hu1 (vb_ 0) (vb_ 6))) (m_bw (vb_ 3) zaQ))))
   (zaa (zl4 5 hu1 rfl (by rfl) (vs_ rfl) (vb_ 6) (zar (dds:=[]) c_hand_pointed_at (hr.mono (by decide)) (m_bw (vb_ 1) (m_bw (vb_ 2) (m_bw (SE.toB (zcl hu1 (vb_ 4) (vb_ 6))) zaQ)))))
   zaf)))
   (zaa (zd8 7 (X:=(cxOf CX0 P w K mg base zaT "rings_of_round" (zab zaJ) f cdv A outer s H E).nox) (m:=q118) (N':=["hand","targets","behind"]) (nl:=1) (cap:=[4,5]) zaK.nd rfl (by rfl) (by rfl) (zaO (osc:=(zab zaJ)) (ON:=zaT) rfl rfl (by decide +kernel)) (zco (vb_ 2)) (fun _ _ _ _ _ _=>(zau 0 (show List.Nodup (["hand","targets","behind"]:List Str) by decide +kernel) (by rfl) (lc_ rfl))) (zcp (by decide)) (fun _ _ _ _ _ _=>zd3) (fun _ _ _ _ _ _=>(zar (dds:=[]) c_ring_from (hr.mono (by decide)) (m_sh (v_ 0) (m_bw (vb_ 1) (m_bw (vb_ 2) zaQ))))))
   (zaa (zaV (SO.toE (zoq hr (by rfl) T.b_sorted (zal (SO.toB (zeD (X:=(cxOf CX0 P w K mg base zaT "rings_of_round" (zab zaJ) f cdv A outer s H E).nox) (N':=["ring"]) (nl:=1) (cap:=[]) zaK.nd rfl (zaO (osc:=(zab zaJ)) (ON:=zaT) rfl rfl (by decide +kernel)) (zco (vb_ 7)) (fun _ _ _ _ _ _=>(zau 0 (show List.Nodup (["ring"]:List Str) by decide +kernel) (by rfl) (lc_ rfl))) (zcp (by decide)) (fun _ _ _ _ _ _=>(zkn (zt3 (vb_ 0) (SE.toB zjy)))) (fun _ _ _ _ _ _=>(v_ 0)))) zax))))
   zaf)))))
abbrev zio:Stmt:=top 22
abbrev zk0:List Str:=["rings","got","ring","hand","thing"]
abbrev zfc:List Str:=["rings"]
theorem zd7:FnScope zk0 zfc (zab zio):=⟨rfl,rfl,rfl,by decide +kernel,rfl,by decide +kernel,by decide +kernel⟩
abbrev zhM:FS:=
 (seqF (putF q123 1 (gv 3) (gv 4)) zak)
abbrev zhL:FS:=
 (seqF (zch q123 (fSeq za7 (gv 2)) (ftT (zcQ (ftN 3) (zcQ (ftN 4) zi2))) zhM) zak)
def zgc:FS:=
 (seqF (setF q124 1 (fun _=>Res.ok (D.dic []))) (seqF (zch q123 (fSeq za7 (gv 0)) (ftN 2) zhL) (seqF (retF q124 (gv 1)) zak)))
def zdU:List D->Res D:=fun ds=>outR false (zgc (zao zk0.length ds))
theorem zsA (T:Txt K mg) (A:DefAt K mg "got_in" zio):Callee P w K mg base "got_in" zfc [] 1 false [Md.bw] zdU:=by
 refine zaM (k:=0) (fs:=zgc) (m':=q124) A zd7 rfl (fun _ _ _ _ _ _ us hl=>by obtain ⟨u0,rfl⟩:=zgK us hl; kernel_rfl) fun f cdv A outer s H g E hr=>?_
 have hu1:=zbi hr
 have hu64:=hr.units
 exact (zaa (zcN 1 zd7.nd (by rfl) (lc_ rfl) zho)
   (zaa (zl6 PassesOwn.never rfl (zpG (vw_ 0)) (zau 2 zd7.nd (by rfl) (lc_ rfl)) (zaa (zfk PassesOwn.never rfl (zi1 (v_ 2)) (zq5 rfl (zhx (zau 3 zd7.nd (by rfl) (lc_ rfl)) (zhx (zau 4 zd7.nd (by rfl) (lc_ rfl)) zq6))) (zaa (zl4 1 hu1 rfl (by rfl) (vs_ rfl) (vb_ 3) (v_ 4))
   zaf))
   zaf))
   (zaa (znZ 1 rfl (zaV (v_ 1)))
   zaf)))
abbrev zdr:Stmt:=top 28
abbrev zeo:List Str:=["wishes","owns","order","line","things","told","rings","got","taken"]
abbrev zf9:List Str:=["wishes","owns","order"]
theorem zbO:FnScope zeo zf9 (zab zdr):=⟨rfl,rfl,rfl,by decide +kernel,rfl,by decide +kernel,by decide +kernel⟩
abbrev zhC:FQ:=
 (fTru (gv 3))
abbrev zhK:FS:=
 (seqF (setF q112 6 (zaE (zac (gv 0) (zac (gv 1) (zac (gv 3) (zac (gv 4) lNil)))) [] zbD)) (seqF (setF q112 7 (zaE (zac (gv 6) lNil) [] zdU)) (seqF (setF q112 8 (f1 (gv 7) zpX)) (seqF (setF q112 3 (zbz 1 [7] (fSeq za7 (gv 3)) (ftN 0) (zaH (f2 (gv 0) (gv 1) ninD)) (gv 0))) (seqF (setF q126 4 (zbz 1 [8] (fSeq za7 (gv 4)) (ftN 0) (zaH (f2 (gv 0) (gv 1) ninD)) (gv 0))) (seqF (mutF "list" q127 5 (zac (gv 6) lNil) appD) zak))))))
def zgb:FS:=
 (seqF (setF q119 3 (zaE (zac (gv 0) (zac (gv 2) lNil)) [] zcG)) (seqF (setF q119 4 (fC (zac (zaE (zac (gv 0) lNil) [] za8) lNil) zh5)) (seqF (setF q119 5 (mkL lNil)) (seqF (za9 q112 zhC zhK 64) (seqF (retF q119 (gv 5)) zak)))))
def zfh:List D->Res D:=fun ds=>outR false (zgb (zao zeo.length ds))
theorem zsz (T:Txt K mg) (A:DefAtD K mg "rounds" zdr [Value.none]) (c_order_of:Callee P w K mg base "order_of" zfu [] 6 false q0 zcG) (c_things_in:Callee P w K mg base "things_in" zcU [] 1 false [Md.bw] za8) (c_rings_of_round:Callee P w K mg base "rings_of_round" zcm [] 3 false q114 zbD) (c_got_in:Callee P w K mg base "got_in" zfc [] 1 false [Md.bw] zdU):Callee P w K mg base "rounds" zf9 [] 7 false q107 zfh:=by
 refine zh2 (ds:=[]) (k:=6) (fs:=zgb) (m':=q119) A zbO rfl 3 rfl (fun _ _ _ _ _ _ _ us hl=>by obtain ⟨u0,u1,u2,rfl⟩:=zjN us hl; exact ⟨_,rfl,rfl⟩) fun f cdv A outer s H g E hr=>?_
 have hu1:=zbi hr
 have hu64:=hr.units
 exact (zaa (zbk 3 zbO.nd (by rfl) (lc_ rfl) (zar (dds:=[]) c_order_of (hr.mono (by decide)) (m_bw (vb_ 0) (m_bw (vb_ 2) zaQ))))
   (zaa (zbk 4 zbO.nd (by rfl) (lc_ rfl) (SO.toE (zh0 rfl (by rfl) T.b_list (by rfl) T.b_range (zal (SE.toB (zar (dds:=[]) c_things_in (hr.mono (by decide)) (m_bw (vb_ 0) zaQ))) zax))))
   (zaa (zcN 5 zbO.nd (by rfl) (lc_ rfl) (zfn zb3))
   (zaa (zfj 64 PassesOwn.never (zfY (vb_ 3)) (zgo (m':=[.bw,.bw,.bw,.sh,.ow,.ow,.sh,.sh,.sh]) 4 (zgo (m':=q127) 3 (zaa (zbk 6 zbO.nd (by rfl) (lc_ rfl) (zar (dds:=[]) c_rings_of_round (hr.mono (by decide)) (m_bw (vb_ 0) (m_bw (vb_ 1) (m_bw (vb_ 3) (m_bw (vb_ 4) zaQ))))))
   (zaa (zbk 7 zbO.nd (by rfl) (lc_ rfl) (zar (dds:=[]) c_got_in (hr.mono (by decide)) (m_bw (vb_ 6) zaQ)))
   (zaa (zbk 8 zbO.nd (by rfl) (lc_ rfl) (SO.toE (zsB rfl (by rfl) T.b_list (vb_ 7))))
   (zaa (zd8 3 (X:=(cxOf CX0 P w K mg base zeo "rounds" (zab zdr) f cdv A outer s H E).nox) (m:=q112) (N':=["hand","got"]) (nl:=1) (cap:=[7]) zbO.nd rfl (by rfl) (by rfl) (zaO (osc:=(zab zdr)) (ON:=zeo) rfl rfl (by decide +kernel)) (zco (vb_ 3)) (fun _ _ _ _ _ _=>(zau 0 (show List.Nodup (["hand","got"]:List Str) by decide +kernel) (by rfl) (lc_ rfl))) (zcp (by decide)) (fun _ _ _ _ _ _=>(zkn (zqp hu1 (vb_ 0) (vb_ 1)))) (fun _ _ _ _ _ _=>(v_ 0)))
   (zaa (zd8 4 (X:=(cxOf CX0 P w K mg base zeo "rounds" (zab zdr) f cdv A outer s H E).nox) (m:=q126) (N':=["thing","taken"]) (nl:=1) (cap:=[8]) zbO.nd rfl (by rfl) (by rfl) (zaO (osc:=(zab zdr)) (ON:=zeo) rfl rfl (by decide +kernel)) (zco (vb_ 4)) (fun _ _ _ _ _ _=>(zau 0 (show List.Nodup (["thing","taken"]:List Str) by decide +kernel) (by rfl) (lc_ rfl))) (zcp (by decide)) (fun _ _ _ _ _ _=>(zkn (zqp hu1 (vb_ 0) (vb_ 1)))) (fun _ _ _ _ _ _=>(v_ 0)))
   (zaa (zgt 5 rfl PySem.F.plainAttrs_list PySem.F.slot_list_append PySem.F.type_list_append zcg zhA (by rfl) (vs_ rfl) (zba (v_ 6) zb3))
   zaf)))))) rfl) rfl))
   (zaa (znZ 5 rfl (zaV (v_ 5)))
   zaf)))))
abbrev zcw:Stmt:=top 23
abbrev zdf:List Str:=["got"]
abbrev zdd:List Str:=["got"]
theorem ze4:FnScope zdf zdd (zab zcw):=⟨rfl,rfl,rfl,by decide +kernel,rfl,by decide +kernel,by decide +kernel⟩
def zdm:FS:=
 (seqF (retF [Md.bw] (fC (zac (zbz 1 [0] (fRng rng1 (zac (fC (zac (gv 0) lNil) lenD) lNil)) (ftN 0) (fun _=>Res.ok true) (f2 (gv 1) (gv 0) ixA)) lNil) tupD)) zak)
def zci:List D->Res D:=fun ds=>outR false (zdm (zao zdf.length ds))
theorem zon (T:Txt K mg) (A:DefAt K mg "dealing_of" zcw):Callee P w K mg base "dealing_of" zdd [] 1 false [Md.bw] zci:=by
 refine zaM (k:=0) (fs:=zdm) (m':=[Md.bw]) A ze4 rfl (fun _ _ _ _ _ _ us hl=>by obtain ⟨u0,rfl⟩:=zgK us hl; kernel_rfl) fun f cdv A outer s H g E hr=>?_
 have hu1:=zbi hr
 have hu64:=hr.units
 exact (zaa (zaV (zdp (by rfl) T.b_tuple (zal (SO.toB (zeD (X:=(cxOf CX0 P w K mg base zdf "dealing_of" (zab zcw) f cdv A outer s H E).nox) (N':=["hand","got"]) (nl:=1) (cap:=[0]) ze4.nd rfl (zaO (osc:=(zab zcw)) (ON:=zdf) rfl rfl (by decide +kernel)) (SIt.toC (zbS (by rfl) T.b_range (zal (SE.toB (zcO (by rfl) T.b_len (zal (vb_ 0) zax))) zax))) (fun _ _ _ _ _ _=>(zau 0 (show List.Nodup (["hand","got"]:List Str) by decide +kernel) (by rfl) (lc_ rfl))) (zcp (by decide)) (fun _ _ _ _ _ _=>zd3) (fun _ _ _ _ _ _=>(zcl hu1 (vb_ 1) (vb_ 0))))) zax)))
   zaf)
abbrev zeL:Stmt:=top 29
abbrev zhH:List Str:=["wishes","owns","order","got","rings"]
abbrev zen:List Str:=["wishes","owns","order"]
theorem zb6:FnScope zhH zen (zab zeL):=⟨rfl,rfl,rfl,by decide +kernel,rfl,by decide +kernel,by decide +kernel⟩
abbrev zfT:FS:=
 (seqF (mutF "dict" q120 3 (zac (zaE (zac (gv 4) lNil) [] zdU) lNil) updD) zak)
def zdD:FS:=
 (seqF (setF q122 3 (fun _=>Res.ok (D.dic []))) (seqF (zch q120 (fSeq za7 (zaE (zac (gv 0) (zac (gv 1) (zac (gv 2) lNil))) [] zfh)) (ftN 4) zfT) (seqF (retF q120 (zaE (zac (gv 3) lNil) [] zci)) zak)))
def zcH:List D->Res D:=fun ds=>outR false (zdD (zao zhH.length ds))
theorem zqN (T:Txt K mg) (A:DefAtD K mg "by_rings" zeL [Value.none]) (c_rounds:Callee P w K mg base "rounds" zf9 [] 7 false q107 zfh) (c_got_in:Callee P w K mg base "got_in" zfc [] 1 false [Md.bw] zdU) (c_dealing_of:Callee P w K mg base "dealing_of" zdd [] 1 false [Md.bw] zci):Callee P w K mg base "by_rings" zen [] 8 false q110 zcH:=by
 refine zh2 (ds:=[]) (k:=7) (fs:=zdD) (m':=q120) A zb6 rfl 3 rfl (fun _ _ _ _ _ _ _ us hl=>by obtain ⟨u0,u1,u2,rfl⟩:=zjN us hl; exact ⟨_,rfl,rfl⟩) fun f cdv A outer s H g E hr=>?_
 have hu1:=zbi hr
 have hu64:=hr.units
 exact (zaa (zcN 3 zb6.nd (by rfl) (lc_ rfl) zho)
   (zaa (zfk PassesOwn.never rfl (zi1 (zar (dds:=[]) c_rounds (hr.mono (by decide)) (m_bw (vb_ 0) (m_bw (vb_ 1) (m_bw (vb_ 2) zaQ))))) (zau 4 zb6.nd (by rfl) (lc_ rfl)) (zaa (zgt 3 rfl PySem.F.plainAttrs_dict PySem.F.slot_dict_update PySem.F.type_dict_update ziQ zo8 (by rfl) (vs_ rfl) (zba (zar (dds:=[]) c_got_in (hr.mono (by decide)) (m_bw (vb_ 4) zaQ)) zb3))
   zaf))
   (zaa (zaV (zar (dds:=[]) c_dealing_of (hr.mono (by decide)) (m_bw (vb_ 3) zaQ)))
   zaf)))
theorem zpv (T:Txt K mg) (A:DefAtD K mg "by_rings" zeL [Value.none]) (c_rounds:Callee P w K mg base "rounds" zf9 [] 7 false q107 zfh) (c_got_in:Callee P w K mg base "got_in" zfc [] 1 false [Md.bw] zdU) (c_dealing_of:Callee P w K mg base "dealing_of" zdd [] 1 false [Md.bw] zci):Callee P w K mg base "by_rings" zen [Value.none] 8 false q110 zcH:=by
 refine zh2 (ds:=[Value.none]) (k:=7) (fs:=zdD) (m':=q120) A zb6 rfl 2 rfl (fun _ _ _ _ _ _ _ us hl=>by obtain ⟨u0,u1,rfl⟩:=zeQ us hl; exact ⟨_,rfl,rfl⟩) fun f cdv A outer s H g E hr=>?_
 have hu1:=zbi hr
 have hu64:=hr.units
 exact (zaa (zcN 3 zb6.nd (by rfl) (lc_ rfl) zho)
   (zaa (zfk PassesOwn.never rfl (zi1 (zar (dds:=[]) c_rounds (hr.mono (by decide)) (m_bw (vb_ 0) (m_bw (vb_ 1) (m_bw (vb_ 2) zaQ))))) (zau 4 zb6.nd (by rfl) (lc_ rfl)) (zaa (zgt 3 rfl PySem.F.plainAttrs_dict PySem.F.slot_dict_update PySem.F.type_dict_update ziQ zo8 (by rfl) (vs_ rfl) (zba (zar (dds:=[]) c_got_in (hr.mono (by decide)) (m_bw (vb_ 4) zaQ)) zb3))
   zaf))
   (zaa (zaV (zar (dds:=[]) c_dealing_of (hr.mono (by decide)) (m_bw (vb_ 3) zaQ)))
   zaf)))
abbrev ze1:Stmt:=top 33
abbrev zfS:List Str:=["many","orders","number","longer","order","place"]
abbrev zej:List Str:=["many"]
theorem za6:FnScope zfS zej (zab ze1):=⟨rfl,rfl,rfl,by decide +kernel,rfl,by decide +kernel,by decide +kernel⟩
abbrev zeJ:FS:=
 (seqF (mutF "list" q115 3 (zac (f2 (f2 (fSl (gv 4) (fun _=>Res.ok none) (zhf (gv 5))) (mkL (zac (gv 2) lNil)) addE) (fSl (gv 4) (zhf (gv 5)) (fun _=>Res.ok none)) addE) lNil) appD) zak)
abbrev zeI:FS:=
 (seqF (zch q115 (fRng rng1 (zac (f2 (gv 2) (ci 1) addA) lNil)) (ftN 5) zeJ) zak)
abbrev zeH:FS:=
 (seqF (setF q104 3 (mkL lNil)) (seqF (zch q115 (fSeq za7 (gv 1)) (ftN 4) zeI) (seqF (setF q104 1 (gv 3)) zak)))
def zdo:FS:=
 (seqF (setF q104 1 (mkL (zac (mkL lNil) lNil))) (seqF (zch q104 (fRng rng1 (zac (gv 0) lNil)) (ftN 2) zeH) (seqF (retF q104 (gv 1)) zak)))
def zcj:List D->Res D:=fun ds=>outR false (zdo (zao zfS.length ds))
theorem zop (T:Txt K mg) (A:DefAt K mg "all_orders" ze1):Callee P w K mg base "all_orders" zej [] 1 false [Md.bw] zcj:=by
 refine zaM (k:=0) (fs:=zdo) (m':=q104) A za6 rfl (fun _ _ _ _ _ _ us hl=>by obtain ⟨u0,rfl⟩:=zgK us hl; kernel_rfl) fun f cdv A outer s H g E hr=>?_
 have hu1:=zbi hr
 have hu64:=hr.units
 exact (zaa (zbk 1 za6.nd (by rfl) (lc_ rfl) (SO.toE (zfn (zba (SO.toE (zfn zb3)) zb3))))
   (zaa (zfk PassesOwn.never rfl (zbS (by rfl) T.b_range (zal (vb_ 0) zax)) (zau 2 za6.nd (by rfl) (lc_ rfl)) (zaa (zcN 3 za6.nd (by rfl) (lc_ rfl) (zfn zb3))
   (zaa (zfk PassesOwn.never rfl (zi1 (v_ 1)) (zau 4 za6.nd (by rfl) (lc_ rfl)) (zaa (zfk PassesOwn.never rfl (zbS (by rfl) T.b_range (zal (SE.toB (zeB (vb_ 2) (SE.toB zaL))) zax)) (zau 5 za6.nd (by rfl) (lc_ rfl)) (zaa (zgt 3 rfl PySem.F.plainAttrs_list PySem.F.slot_list_append PySem.F.type_list_append zcg zhA (by rfl) (vs_ rfl) (zba (zki (SE.toB (zki (SE.toB (zla (vb_ 4) zhm (zhl (vb_ 5)))) (SO.toB (zfn (zba (v_ 2) zb3))))) (SE.toB (zla (vb_ 4) (zhl (vb_ 5)) zhm))) zb3))
   zaf))
   zaf))
   (zaa (znZ 3 rfl (zbk 1 za6.nd (by rfl) (lc_ rfl) (v_ 3)))
   zaf))))
   (zaa (zaV (v_ 1))
   zaf)))
abbrev zbp:Stmt:=top 35
abbrev zbC:List Str:=["wishes","dealings"]
abbrev zcn:List Str:=["wishes"]
theorem zds:FnScope zbC zcn (zab zbp):=⟨rfl,rfl,rfl,by decide +kernel,rfl,by decide +kernel,by decide +kernel⟩
def zbG:FS:=
 (seqF (znq q108 (zaE (zac (gv 0) lNil) [] zaP)) (seqF (znq q108 (zaE (zac (gv 0) lNil) [] zay)) (seqF (setF q108 1 (zbz 1 [0] (fSeq za7 (zaE (zac (fC (zac (gv 0) lNil) lenD) lNil) [] zcj)) (ftN 0) (fun _=>Res.ok true) (zaE (zac (gv 1) (zac (fC (zac (gv 0) lNil) tupD) lNil)) [D.non] zcH))) (seqF (retF [.bw,.ow] (zaE (zac (gv 1) (zac (zaE (zac (gv 0) lNil) [] za8) lNil)) [] zdR)) zak))))
def zbE:List D->Res D:=fun ds=>outR false (zbG (zao zbC.length ds))
theorem zlp (T:Txt K mg) (A:DefAt K mg "lot_of_ownings" zbp) (c_refuse_unless_square:Callee P w K mg base "refuse_unless_square" zbc [] 3 false [Md.bw] zaP) (c_refuse_too_many_for_lots:Callee P w K mg base "refuse_too_many_for_lots" zaS [] 1 false [Md.bw] zay) (c_all_orders:Callee P w K mg base "all_orders" zej [] 1 false [Md.bw] zcj) (c_by_rings':Callee P w K mg base "by_rings" zen [Value.none] 8 false q110 zcH) (c_things_in:Callee P w K mg base "things_in" zcU [] 1 false [Md.bw] za8) (c_shares_in:Callee P w K mg base "shares_in" zeR [] 3 false q0 zdR):Callee P w K mg base "lot_of_ownings" zcn [] 9 false [Md.bw] zbE:=by
 refine zaM (k:=8) (fs:=zbG) (m':=[.bw,.ow]) A zds rfl (fun _ _ _ _ _ _ us hl=>by obtain ⟨u0,rfl⟩:=zgK us hl; kernel_rfl) fun f cdv A outer s H g E hr=>?_
 have hu1:=zbi hr
 have hu64:=hr.units
 exact (zaa (zpc (zar (dds:=[]) c_refuse_unless_square (hr.mono (by decide)) (m_bw (vb_ 0) zaQ)))
   (zaa (zpc (zar (dds:=[]) c_refuse_too_many_for_lots (hr.mono (by decide)) (m_bw (vb_ 0) zaQ)))
   (zaa (zd8 1 (X:=(cxOf CX0 P w K mg base zbC "lot_of_ownings" (zab zbp) f cdv A outer s H E).nox) (m:=q108) (N':=["things","wishes"]) (nl:=1) (cap:=[0]) zds.nd rfl (by rfl) (by rfl) (zaO (osc:=(zab zbp)) (ON:=zbC) rfl rfl (by decide +kernel)) (zco (SE.toB (zar (dds:=[]) c_all_orders (hr.mono (by decide)) (m_bw (SE.toB (zcO (by rfl) T.b_len (zal (vb_ 0) zax))) zaQ)))) (fun _ _ _ _ _ _=>(zau 0 (show List.Nodup (["things","wishes"]:List Str) by decide +kernel) (by rfl) (lc_ rfl))) (zcp (by decide)) (fun _ _ _ _ _ _=>zd3) (fun _ _ _ _ _ _=>(zar (dvs:=[.non]) (dds:=[D.non]) c_by_rings' (hr.mono (by decide)) (m_bw (vb_ 1) (m_bw (SE.toB (zdp (by rfl) T.b_tuple (zal (vb_ 0) zax))) zaQ)) (hd:=.cons rfl .nil) (hsc:=.cons .non .nil))))
   (zaa (zaV (zar (dds:=[]) c_shares_in (hr.mono (by decide)) (m_bw (vb_ 1) (m_bw (SE.toB (zar (dds:=[]) c_things_in (hr.mono (by decide)) (m_bw (vb_ 0) zaQ))) zaQ))))
   zaf))))
abbrev zez:Stmt:=top 43
abbrev zfe:List Str:=["_law_one","_law_other","_law_rest"]
abbrev zcy:List Str:=["_law_one","_law_other"]
theorem zce:FnScope zfe zcy (zab zez):=⟨rfl,rfl,rfl,by decide +kernel,rfl,by decide +kernel,by decide +kernel⟩
abbrev zbn:FQ:=
 (zaH (f2 (gv 1) (ci 0) neD))
abbrev zbo:FS:=
 (seqF (setF q101 2 (f2 (gv 0) (gv 1) modI)) (seqF (setF q101 0 (gv 1)) (seqF (setF q101 1 (gv 2)) zak)))
def zcE:FS:=
 (seqF (za9 q101 zbn zbo 1000) (seqF (retF q101 (fC (zac (gv 0) lNil) absD)) zak))
def zbq:List D->Res D:=fun ds=>outR false (zcE (zao zfe.length ds))
theorem znQ (T:Txt K mg) (A:DefAt K mg "_law_common" zez):Callee P w K mg base "_law_common" zcy [] 1 false q109 zbq:=by
 refine zaM (k:=0) (fs:=zcE) (m':=q101) A zce rfl (fun _ _ _ _ _ _ us hl=>by obtain ⟨u0,u1,rfl⟩:=zeQ us hl; kernel_rfl) fun f cdv A outer s H g E hr=>?_
 have hu1:=zbi hr
 have hu64:=hr.units
 exact (zaa (zfj 1000 PassesOwn.never (q_ne hu64 (vb_ 1) (SE.toB zaL)) (zaa (zbk 2 zce.nd (by rfl) (lc_ rfl) (zha (vb_ 0) (vb_ 1)))
   (zaa (zbk 0 zce.nd (by rfl) (lc_ rfl) (v_ 1))
   (zaa (zbk 1 zce.nd (by rfl) (lc_ rfl) (v_ 2))
   zaf))))
   (zaa (zaV (zrS (by rfl) T.b_abs (zal (vb_ 0) zax)))
   zaf))
abbrev zcK:Stmt:=top 45
abbrev zdg:List Str:=["_law_found","_law_one"]
abbrev zbV:List Str:=["_law_found"]
theorem zcM:FnScope zdg zbV (zab zcK):=⟨rfl,rfl,rfl,by decide +kernel,rfl,by decide +kernel,by decide +kernel⟩
abbrev zcv:FS:=
 (seqF (ifF q108 (fOr (fNot (fTru (f1 (gv 1) (isiD "int")))) (fTru (f1 (gv 1) (isiD "bool")))) (seqF (retF q108 (fun _=>Res.ok (D.bl false))) zak) zak) zak)
def zbh:FS:=
 (seqF (ifF q108 (fOr (fNot (fTru (f1 (gv 0) (isiD "tuple")))) (zaH (f2 (fC (zac (gv 0) lNil) lenD) (ci 2) neD))) (seqF (retF q108 (fun _=>Res.ok (D.bl false))) zak) zak) (seqF (zch q108 (fSeq za7 (gv 0)) (ftN 1) zcv) (seqF (retF q108 (vAnd (f2 (f2 (gv 0) (ci 1) ixA) (ci 0) gtI) (f2 (zaE (zac (f2 (gv 0) (ci 0) ixA) (zac (f2 (gv 0) (ci 1) ixA) lNil)) [] zbq) (ci 1) eqD))) zak)))
def zbf:List D->Res D:=fun ds=>outR false (zbh (zao zdg.length ds))
theorem zjH (T:Txt K mg) (A:DefAt K mg "_law_is_fraction" zcK) (c__law_common:Callee P w K mg base "_law_common" zcy [] 1 false q109 zbq):Callee P w K mg base "_law_is_fraction" zbV [] 2 false [Md.bw] zbf:=by
 refine zaM (k:=1) (fs:=zbh) (m':=q108) A zcM rfl (fun _ _ _ _ _ _ us hl=>by obtain ⟨u0,rfl⟩:=zgK us hl; kernel_rfl) fun f cdv A outer s H g E hr=>?_
 have hu1:=zbi hr
 have hu64:=hr.units
 exact (zaa (s_if (SW.toQ (q_or (zhd (zfY (SE.toB (zjA "tuple" "tuple" rfl (zgM _) (by rfl) T.b_isinstance (by rfl) T.b_tuple (vb_ 0))))) (zlm (q_ne hu64 (SE.toB (zcO (by rfl) T.b_len (zal (vb_ 0) zax))) (SE.toB zaL))))) (zaa (zaV s_bl)
   zaf)
   zaf)
   (zaa (ziv PassesOwn.never rfl (zco (vb_ 0)) (fun _=>(zau 1 zcM.nd (by rfl) (lc_ rfl))) (fun _=>(zaa (s_if (SW.toQ (q_or (zhd (zfY (SE.toB (zjA "int" "int" rfl (zmY _) (by rfl) T.b_isinstance (by rfl) T.b_int (vb_ 1))))) (zlm (zfY (SE.toB (zjA "bool" "bool" rfl (zkG _) (by rfl) T.b_isinstance (by rfl) T.b_bool (vb_ 1))))))) (zaa (zaV s_bl)
   zaf)
   zaf)
   zaf)))
   (zaa (zaV (zl7 (s_gt (SE.toB (zcl hu1 (vb_ 0) (SE.toB zaL))) (SE.toB zaL)) (zl5 (s_eq hu64 (SE.toB (zar (dds:=[]) c__law_common (hr.mono (by decide)) (m_sh (zcl hu1 (vb_ 0) (SE.toB zaL)) (m_sh (zcl hu1 (vb_ 0) (SE.toB zaL)) zaQ)))) (SE.toB zaL)))))
   zaf)))
abbrev zbB:Stmt:=top 46
abbrev zbW:List Str:=["_law_found","_law_n","_law_m","_law_row_here"]
abbrev zcW:List Str:=["_law_found","_law_n","_law_m"]
theorem zck:FnScope zbW zcW (zab zbB):=⟨rfl,rfl,rfl,by decide +kernel,rfl,by decide +kernel,by decide +kernel⟩
abbrev zdz:FS:=
 (seqF (ifF q102 (fOr (fNot (fTru (f1 (gv 3) (isiD "tuple")))) (fOr (zaH (f2 (fC (zac (gv 3) lNil) lenD) (gv 2) neD)) (fNot (fTru (fC (zac (zbz 1 [] (fSeq za7 (gv 3)) (ftN 0) (fun _=>Res.ok true) (zaE (zac (gv 0) lNil) [] zbf)) lNil) allD))))) (seqF (retF q102 (fun _=>Res.ok (D.bl false))) zak) zak) zak)
def zb1:FS:=
 (seqF (ifF q102 (fOr (fNot (fTru (f1 (gv 0) (isiD "tuple")))) (zaH (f2 (fC (zac (gv 0) lNil) lenD) (gv 1) neD))) (seqF (retF q102 (fun _=>Res.ok (D.bl false))) zak) zak) (seqF (zch q102 (fSeq za7 (gv 0)) (ftN 3) zdz) (seqF (retF q102 (fun _=>Res.ok (D.bl true))) zak)))
def zbZ:List D->Res D:=fun ds=>outR false (zb1 (zao zbW.length ds))
theorem zlO (T:Txt K mg) (A:DefAt K mg "_law_is_table" zbB) (c__law_is_fraction:Callee P w K mg base "_law_is_fraction" zbV [] 2 false [Md.bw] zbf):Callee P w K mg base "_law_is_table" zcW [] 3 false q107 zbZ:=by
 refine zaM (k:=2) (fs:=zb1) (m':=q102) A zck rfl (fun _ _ _ _ _ _ us hl=>by obtain ⟨u0,u1,u2,rfl⟩:=zjN us hl; kernel_rfl) fun f cdv A outer s H g E hr=>?_
 have hu1:=zbi hr
 have hu64:=hr.units
 exact (zaa (s_if (SW.toQ (q_or (zhd (zfY (SE.toB (zjA "tuple" "tuple" rfl (zgM _) (by rfl) T.b_isinstance (by rfl) T.b_tuple (vb_ 0))))) (zlm (q_ne hu64 (SE.toB (zcO (by rfl) T.b_len (zal (vb_ 0) zax))) (vb_ 1))))) (zaa (zaV s_bl)
   zaf)
   zaf)
   (zaa (ziv PassesOwn.never rfl (zco (vb_ 0)) (fun _=>(zau 3 zck.nd (by rfl) (lc_ rfl))) (fun _=>(zaa (s_if (SW.toQ (q_or (zhd (zfY (SE.toB (zjA "tuple" "tuple" rfl (zgM _) (by rfl) T.b_isinstance (by rfl) T.b_tuple (vb_ 3))))) (q_or (q_ne hu64 (SE.toB (zcO (by rfl) T.b_len (zal (vb_ 3) zax))) (vb_ 2)) (zlm (zhd (zfY (SE.toB (ztZ rfl (by rfl) T.b_all (zal (SO.toB (zeD (X:=(cxOf CX0 P w K mg base zbW "_law_is_table" (zab zbB) f cdv A outer s H E).nox) (N':=["_law_one"]) (nl:=1) (cap:=[]) zck.nd rfl (zaO (osc:=(zab zbB)) (ON:=zbW) rfl rfl (by decide +kernel)) (zco (vb_ 3)) (fun _ _ _ _ _ _=>(zau 0 (show List.Nodup (["_law_one"]:List Str) by decide +kernel) (by rfl) (lc_ rfl))) (zcp (by decide)) (fun _ _ _ _ _ _=>zd3) (fun _ _ _ _ _ _=>(zar (dds:=[]) c__law_is_fraction (hr.mono (by decide)) (m_bw (vb_ 0) zaQ))))) zax))))))))) (zaa (zaV s_bl)
   zaf)
   zaf)
   zaf)))
   (zaa (zaV s_bl)
   zaf)))
abbrev zfF:Stmt:=top 41
abbrev zg7:List Str:=["_law_row_here","_law_left","_law_thing"]
abbrev zeV:List Str:=["_law_row_here","_law_left"]
theorem zfJ:FnScope zg7 zeV (zab zfF):=⟨rfl,rfl,rfl,by decide +kernel,rfl,by decide +kernel,by decide +kernel⟩
abbrev zbX:FS:=
 (seqF (ifF q110 (zaH (f2 (gv 2) (gv 1) inD)) (seqF (retF q110 (gv 2)) zak) zak) zak)
def zd1:FS:=
 (seqF (zch q110 (fSeq za7 (gv 0)) (ftN 2) zbX) (seqF (retF q110 (fun _=>Res.ok D.non)) zak))
def zc1:List D->Res D:=fun ds=>outR false (zd1 (zao zg7.length ds))
theorem zpy (T:Txt K mg) (A:DefAt K mg "_law_best" zfF):Callee P w K mg base "_law_best" zeV [] 1 false q0 zc1:=by
 refine zaM (k:=0) (fs:=zd1) (m':=q110) A zfJ rfl (fun _ _ _ _ _ _ us hl=>by obtain ⟨u0,u1,rfl⟩:=zeQ us hl; kernel_rfl) fun f cdv A outer s H g E hr=>?_
 have hu1:=zbi hr
 have hu64:=hr.units
 exact (zaa (ziv PassesOwn.never rfl (zco (vb_ 0)) (fun _=>(zau 2 zfJ.nd (by rfl) (lc_ rfl))) (fun _=>(zaa (s_if (q_in hu1 (vb_ 2) (vb_ 1)) (zaa (zaV (v_ 2))
   zaf)
   zaf)
   zaf)))
   (zaa (zaV zjy)
   zaf))
abbrev za4:Stmt:=top 42
abbrev zbd:List Str:=["_law_wishes_here","_law_owns","_law_order","_law_things","_law_line","_law_got","_law_here","_law_path","_law_thing","_law_hand"]
abbrev zbU:List Str:=["_law_wishes_here","_law_owns","_law_order"]
theorem zaj:FnScope zbd zbU (zab za4):=⟨rfl,rfl,rfl,by decide +kernel,rfl,by decide +kernel,by decide +kernel⟩
abbrev zbx:FQ:=
 (zaH (f2 (gv 6) (gv 7) ninD))
abbrev zbw:FQ:=
 (zaH (f2 (fC (zac (gv 4) lNil) lenD) (ci 0) gtI))
abbrev zcu:FS:=
 (seqF (ifF q128 (zaH (f2 (f2 (gv 1) (gv 9) ixA) (gv 8) eqD)) (seqF (setF q128 6 (gv 9)) zak) zak) zak)
abbrev zct:FS:=
 (seqF (mutF "list" q105 7 (zac (gv 6) lNil) appD) (seqF (setF q105 8 (zaE (zac (f2 (gv 0) (gv 6) ixA) (zac (gv 3) lNil)) [] zc1)) (seqF (setF q105 6 (f2 (gv 4) (ci 0) ixA)) (seqF (zch q105 (fSeq za7 (gv 4)) (ftN 9) zcu) zak))))
abbrev zcs:FS:=
 (seqF (putF q105 5 (gv 9) (zaE (zac (f2 (gv 0) (gv 9) ixA) (zac (gv 3) lNil)) [] zc1)) zak)
abbrev zcr:FS:=
 (seqF (mutF "list" q105 4 (zac (gv 9) lNil) remD) (seqF (mutF "list" q105 3 (zac (f2 (gv 5) (gv 9) ixA) lNil) remD) zak))
abbrev zcq:FS:=
 (seqF (setF q116 6 (f2 (gv 4) (ci 0) ixA)) (seqF (setF q116 7 (mkL lNil)) (seqF (za9 q105 zbx zct 64) (seqF (zch q105 (fSeq za7 (fSl (gv 7) (zhf (fM "list" (gv 7) (zac (gv 6) lNil) zgP)) (fun _=>Res.ok none))) (ftN 9) zcs) (seqF (zch q105 (fSeq za7 (fSl (gv 7) (zhf (fM "list" (gv 7) (zac (gv 6) lNil) zgP)) (fun _=>Res.ok none))) (ftN 9) zcr) zak)))))
def zbg:FS:=
 (seqF (setF [.bw,.bw,.bw,.sh,.sh,.sh,.sh,.sh,.sh,.sh] 3 (fC (zac (fC (zac (f2 (gv 0) (ci 0) ixA) lNil) lenD) lNil) zh5)) (seqF (setF [.bw,.bw,.bw,.ow,.sh,.sh,.sh,.sh,.sh,.sh] 4 (fC (zac (gv 2) lNil) zjM)) (seqF (setF q129 5 (zbz 1 [] (fSeq za7 (gv 4)) (ftN 0) (fun _=>Res.ok true) (fun _=>Res.ok D.non))) (seqF (za9 q116 zbw zcq 64) (seqF (retF q116 (fC (zac (gv 5) lNil) tupD)) zak)))))
def zaU:List D->Res D:=fun ds=>outR false (zbg (zao zbd.length ds))
theorem zjG (T:Txt K mg) (A:DefAt K mg "_law_rings_dealt" za4) (c__law_best:Callee P w K mg base "_law_best" zeV [] 1 false q0 zc1):Callee P w K mg base "_law_rings_dealt" zbU [] 2 false q107 zaU:=by
 refine zaM (k:=1) (fs:=zbg) (m':=q116) A zaj rfl (fun _ _ _ _ _ _ us hl=>by obtain ⟨u0,u1,u2,rfl⟩:=zjN us hl; kernel_rfl) fun f cdv A outer s H g E hr=>?_
 have hu1:=zbi hr
 have hu64:=hr.units
 exact (zaa (zcN 3 zaj.nd (by rfl) (lc_ rfl) (zh0 rfl (by rfl) T.b_list (by rfl) T.b_range (zal (SE.toB (zcO (by rfl) T.b_len (zal (SE.toB (zcl hu1 (vb_ 0) (SE.toB zaL))) zax))) zax)))
   (zaa (zcN 4 zaj.nd (by rfl) (lc_ rfl) (zpz (by rfl) T.b_list (zal (vb_ 2) zax)))
   (zaa (zd8 5 (X:=(cxOf CX0 P w K mg base zbd "_law_rings_dealt" (zab za4) f cdv A outer s H E).nox) (m:=q129) (N':=["_law_hand"]) (nl:=1) (cap:=[]) zaj.nd rfl (by rfl) (by rfl) (zaO (osc:=(zab za4)) (ON:=zbd) rfl rfl (by decide +kernel)) (zco (vb_ 4)) (fun _ _ _ _ _ _=>(zau 0 (show List.Nodup (["_law_hand"]:List Str) by decide +kernel) (by rfl) (lc_ rfl))) (zcp (by decide)) (fun _ _ _ _ _ _=>zd3) (fun _ _ _ _ _ _=>zjy))
   (zaa (zfj 64 PassesOwn.never (q_gt (SE.toB (zcO (by rfl) T.b_len (zal (vb_ 4) zax))) (SE.toB zaL)) (zgo (m':=q105) 7 (zaa (zbk 6 zaj.nd (by rfl) (lc_ rfl) (zcl hu1 (vb_ 4) (SE.toB zaL)))
   (zaa (zcN 7 zaj.nd (by rfl) (lc_ rfl) (zfn zb3))
   (zaa (zfj 64 PassesOwn.never (zqp hu1 (vb_ 6) (vb_ 7)) (zaa (zgt 7 rfl PySem.F.plainAttrs_list PySem.F.slot_list_append PySem.F.type_list_append zcg zhA (by rfl) (vs_ rfl) (zba (v_ 6) zb3))
   (zaa (zbk 8 zaj.nd (by rfl) (lc_ rfl) (zar (dds:=[]) c__law_best (hr.mono (by decide)) (m_bw (SE.toB (zcl hu1 (vb_ 0) (vb_ 6))) (m_bw (vb_ 3) zaQ))))
   (zaa (zbk 6 zaj.nd (by rfl) (lc_ rfl) (zcl hu1 (vb_ 4) (SE.toB zaL)))
   (zaa (ziv PassesOwn.never rfl (zco (vb_ 4)) (fun _=>(zau 9 zaj.nd (by rfl) (lc_ rfl))) (fun _=>(zaa (s_if (q_eq hu64 (SE.toB (zcl hu1 (vb_ 1) (vb_ 9))) (vb_ 8)) (zaa (zbk 6 zaj.nd (by rfl) (lc_ rfl) (v_ 9))
   zaf)
   zaf)
   zaf)))
   zaf)))))
   (zaa (zfk PassesOwn.never rfl (zi1 (zla (vb_ 7) (zhl (SE.toB (s_bm PySem.F.plainAttrs_list PySem.F.slot_list_index PySem.F.type_list_index ziS zi0 (vb_ 7) (zal (vb_ 6) zax)))) zhm)) (zau 9 zaj.nd (by rfl) (lc_ rfl)) (zaa (zl4 5 hu1 rfl (by rfl) (vs_ rfl) (vb_ 9) (zar (dds:=[]) c__law_best (hr.mono (by decide)) (m_bw (SE.toB (zcl hu1 (vb_ 0) (vb_ 9))) (m_bw (vb_ 3) zaQ))))
   zaf))
   (zaa (zfk PassesOwn.never rfl (zi1 (zla (vb_ 7) (zhl (SE.toB (s_bm PySem.F.plainAttrs_list PySem.F.slot_list_index PySem.F.type_list_index ziS zi0 (vb_ 7) (zal (vb_ 6) zax)))) zhm)) (zau 9 zaj.nd (by rfl) (lc_ rfl)) (zaa (zgt 4 rfl PySem.F.plainAttrs_list PySem.F.slot_list_remove PySem.F.type_list_remove ziR zpf (by rfl) (vs_ rfl) (zba (v_ 9) zb3))
   (zaa (zgt 3 rfl PySem.F.plainAttrs_list PySem.F.slot_list_remove PySem.F.type_list_remove ziR zpf (by rfl) (vs_ rfl) (zba (zcl hu1 (vb_ 5) (vb_ 9)) zb3))
   zaf)))
   zaf))))) rfl))
   (zaa (zaV (zdp (by rfl) T.b_tuple (zal (vb_ 5) zax)))
   zaf)))))
abbrev zgn:Stmt:=top 44
abbrev zhJ:List Str:=["_law_top","_law_bottom","_law_by"]
abbrev zfy:List Str:=["_law_top","_law_bottom"]
theorem zgs:FnScope zhJ zfy (zab zgn):=⟨rfl,rfl,rfl,by decide +kernel,rfl,by decide +kernel,by decide +kernel⟩
def zet:FS:=
 (seqF (setF q101 2 (zaE (zac (gv 0) (zac (gv 1) lNil)) [] zbq)) (seqF (retF q101 (mkT (zac (f2 (gv 0) (gv 2) zjV) (zac (f2 (gv 1) (gv 2) zjV) lNil)))) zak))
def zdC:List D->Res D:=fun ds=>outR false (zet (zao zhJ.length ds))
theorem zqP (T:Txt K mg) (A:DefAt K mg "_law_low" zgn) (c__law_common:Callee P w K mg base "_law_common" zcy [] 1 false q109 zbq):Callee P w K mg base "_law_low" zfy [] 2 false q109 zdC:=by
 refine zaM (k:=1) (fs:=zet) (m':=q101) A zgs rfl (fun _ _ _ _ _ _ us hl=>by obtain ⟨u0,u1,rfl⟩:=zeQ us hl; kernel_rfl) fun f cdv A outer s H g E hr=>?_
 have hu1:=zbi hr
 have hu64:=hr.units
 exact (zaa (zbk 2 zgs.nd (by rfl) (lc_ rfl) (zar (dds:=[]) c__law_common (hr.mono (by decide)) (m_sh (v_ 0) (m_sh (v_ 1) zaQ))))
   (zaa (zaV (znY (zba (zhS (vb_ 0) (vb_ 2)) (zba (zhS (vb_ 1) (vb_ 2)) zb3))))
   zaf))
abbrev zfC:Stmt:=top 47
abbrev zlM:List Str:=["_law_script","_law_n","_law_wanted","_law_counts","_law_ways","_law_owns","_law_hand","_law_thing","_law_due","_law_found"]
abbrev ztE:List Str:=["_law_script"]
theorem zd6:FnScope zlM ztE (zab zfC):=⟨rfl,rfl,rfl,by decide +kernel,rfl,by decide +kernel,by decide +kernel⟩
def zo5:FS:=
 (seqF (setF q113 1 (f2 (ci 1) (f2 (zaE (zac (gv 0) (zac (ci 1) lNil)) [] zbI) (ci 5) modI) addA)) (seqF (setF q113 2 (zaE (zac (gv 0) (zac (ci 2) (zac (gv 1) (zac (gv 1) lNil)))) [] zcB)) (zmM (zmg 3 (zbz 1 [1] (fRng rng1 (zac (gv 1) lNil)) (ftN 0) (fun _=>Res.ok true) (zbz 1 [] (fRng rng1 (zac (gv 1) lNil)) (ftN 0) (fun _=>Res.ok true) (ci 0)))) (zlK (embF (setF q121 4 (zaE (zac (gv 1) lNil) [] zbr))) (zlK (zgI (fSeq za7 (gv 4)) (ftN 5) (zis (zgI (fEnu (zaE (zac (gv 2) (zac (gv 5) (zac (fC (zac (gv 1) lNil) zh5) lNil))) [] zaU)) (ftT (zcQ (ftN 6) (zcQ (ftN 7) zi2))) (zis (zoI 6 7 1) (fun r w=>some (r,w)))) (fun r w=>some (r,w)))) (ztq 3 (seqF (setF q113 8 (fC (zac (zbz 1 [4] (fSeq za7 (gv 3)) (ftN 0) (fun _=>Res.ok true) (fC (zac (zbz 1 [1] (fSeq za7 (gv 0)) (ftN 0) (fun _=>Res.ok true) (zaE (zac (gv 0) (zac (fC (zac (gv 1) lNil) lenD) lNil)) [] zdC)) lNil) tupD)) lNil) tupD)) (seqF (setF q113 9 (zaE (zac (gv 2) lNil) [] zbE)) (seqF (retF q113 (vAnd (zaE (zac (gv 9) (zac (gv 1) (zac (gv 1) lNil))) [] zbZ) (f2 (gv 9) (gv 8) eqD))) zak)))))))))
def ztF:List D->Res D:=fun ds=>outR false (zo5 (zao zlM.length ds))
theorem zuD (T:Txt K mg) {fa:Addr} {fd:FuncData} (A:Fun K "law" "law" zfC fa fd) (c__law_cell:Callee P w K mg base "_law_cell" zdP [] 1 false q0 zbI) (c__law_wishes:Callee P w K mg base "_law_wishes" zdO [] 2 false q114 zcB) (c__law_all_orders:Callee P w K mg base "_law_all_orders" zb9 [] 1 false [Md.bw] zbr) (c__law_rings_dealt:Callee P w K mg base "_law_rings_dealt" zbU [] 2 false q107 zaU) (c__law_low:Callee P w K mg base "_law_low" zfy [] 2 false q109 zdC) (c_lot_of_ownings:Callee P w K mg base "lot_of_ownings" zcn [] 9 false [Md.bw] zbE) (c__law_is_table:Callee P w K mg base "_law_is_table" zcW [] 3 false q107 zbZ):FnOk P w K mg base CX0 10 fa fd ztE (spM K false [Md.sh] ztF):=by
 refine zpO (k:=9) (fs:=zo5) (m':=q113) A zd6 rfl fun cdv A outer s H g E hr=>?_
 have hu1:=zbi hr
 have hu64:=hr.units
 exact (zaa (zbk 1 zd6.nd (by rfl) (lc_ rfl) (zeB (SE.toB zaL) (SE.toB (zha (SE.toB (zar (dds:=[]) c__law_cell (hr.mono (by decide)) (m_bw (vb_ 0) (m_bw (SE.toB zaL) zaQ)))) (SE.toB zaL)))))
   (zaa (zbk 2 zd6.nd (by rfl) (lc_ rfl) (zar (dds:=[]) c__law_wishes (hr.mono (by decide)) (m_bw (vb_ 0) (m_bw (SE.toB zaL) (m_bw (vb_ 1) (m_bw (vb_ 1) zaQ))))))
   (zrH (i:=3) (by rfl) (zlb 3 (X:=(cxOf CX0 P w K mg base zlM "law" (zab zfC) fa cdv A outer s H E).nox) (m:=q113) (N':=["_law_hand","_law_n"]) (nl:=1) (cap:=[1]) (by decide) zd6.nd rfl (by rfl) (by rfl) (zaO (osc:=(zab zfC)) (ON:=zlM) rfl rfl (by decide +kernel)) (SIt.toC (zbS (by rfl) T.b_range (zal (vb_ 1) zax))) (fun _ _ _ _ _ _=>(zau 0 (show List.Nodup (["_law_hand","_law_n"]:List Str) by decide +kernel) (by rfl) (lc_ rfl))) (zcp (by decide)) (fun _ _ _ _ _ _=>zd3) (fun _ _ _ _ _ _=>(zeD (N':=["_law_thing"]) (nl:=1) (cap:=[]) (show List.Nodup (["_law_hand","_law_n"]:List Str) by decide +kernel) rfl (zhy (osc:=(zab zfC)) (ON:=(["_law_hand","_law_n"]:List Str)) rfl rfl (by decide +kernel)) (SIt.toC (zbS (by rfl) T.b_range (zal (vb_ 1) zax))) (fun _ _ _ _ _ _=>(zau 0 (show List.Nodup (["_law_thing"]:List Str) by decide +kernel) (by rfl) (lc_ rfl))) (zcp (by decide)) (fun _ _ _ _ _ _=>zd3) (fun _ _ _ _ _ _=>zaL))))
   (zkd (by rfl) (zrV (ro:=false) (mb:=q121) (m:=q121) (m':=q121) (fun _=>(zbk 4 zd6.nd (by rfl) (lc_ rfl) (zar (dds:=[]) c__law_all_orders (hr.mono (by decide)) (m_bw (vb_ 1) zaQ)))) (by rfl))
   (zkd (by rfl) (zpd PassesOwn.never rfl (fun _=>(zi1 (v_ 4))) (fun _=>(zau 5 zd6.nd (by rfl) (lc_ rfl))) (zke (zpd PassesOwn.never rfl (fun _=>(zs8 (by rfl) T.b_enumerate (zar (dds:=[]) c__law_rings_dealt (hr.mono (by decide)) (m_bw (vb_ 2) (m_bw (vb_ 5) (m_bw (SO.toB (zh0 rfl (by rfl) T.b_list (by rfl) T.b_range (zal (vb_ 1) zax))) zaQ)))))) (fun _=>(zq5 rfl (zhx (zau 6 zd6.nd (by rfl) (lc_ rfl)) (zhx (zau 7 zd6.nd (by rfl) (lc_ rfl)) zq6)))) (zke (zrU 6 7 1 (by rfl) (zsC (by decide)) (by rfl) (by rfl) (by rfl) (vs_ rfl) (by rfl) (vs_ rfl) (by rfl) (vs_ rfl)) zlX) (by rfl)) zlX) (by rfl))
   (zp7 (zaa (zbk 8 zd6.nd (by rfl) (lc_ rfl) (zdp (by rfl) T.b_tuple (zal (SO.toB (zeD (X:=(cxOf CX0 P w K mg base zlM "law" (zab zfC) fa cdv A outer s H E).nox) (N':=["_law_row_here","_law_ways"]) (nl:=1) (cap:=[4]) zd6.nd rfl (zaO (osc:=(zab zfC)) (ON:=zlM) rfl rfl (by decide +kernel)) (zco (vb_ 3)) (fun _ _ _ _ _ _=>(zau 0 (show List.Nodup (["_law_row_here","_law_ways"]:List Str) by decide +kernel) (by rfl) (lc_ rfl))) (zcp (by decide)) (fun _ _ _ _ _ _=>zd3) (fun _ _ _ _ _ _=>(zdp (by rfl) T.b_tuple (zal (SO.toB (zeD (N':=["_law_count","_law_ways"]) (nl:=1) (cap:=[1]) (show List.Nodup (["_law_row_here","_law_ways"]:List Str) by decide +kernel) rfl (zhy (osc:=(zab zfC)) (ON:=(["_law_row_here","_law_ways"]:List Str)) rfl rfl (by decide +kernel)) (zco (vb_ 0)) (fun _ _ _ _ _ _=>(zau 0 (show List.Nodup (["_law_count","_law_ways"]:List Str) by decide +kernel) (by rfl) (lc_ rfl))) (zcp (by decide)) (fun _ _ _ _ _ _=>zd3) (fun _ _ _ _ _ _=>(zar (dds:=[]) c__law_low (hr.mono (by decide)) (m_sh (v_ 0) (m_sh (zcO (by rfl) T.b_len (zal (vb_ 1) zax)) zaQ)))))) zax))))) zax)))
   (zaa (zbk 9 zd6.nd (by rfl) (lc_ rfl) (zar (dds:=[]) c_lot_of_ownings (hr.mono (by decide)) (m_bw (vb_ 2) zaQ)))
   (zaa (zaV (zl7 (zar (dds:=[]) c__law_is_table (hr.mono (by decide)) (m_bw (vb_ 9) (m_bw (vb_ 1) (m_bw (vb_ 1) zaQ)))) (zl5 (s_eq hu64 (vb_ 9) (vb_ 8)))))
   zaf))) (zsC (by decide))))))))
end Law
namespace Law
open PySem L2 DL
abbrev nD (k:Nat):D:=.int (k:Int)
abbrev LN (l:List Nat):D:=.lst (l.map nD)
abbrev TN (l:List Nat):D:=.tup (l.map nD)
def oD:Option Nat->D
 | none=>.non
 | some k=>nD k
abbrev WD (rz:List (List Nat)):D:=.tup (rz.map TN)
abbrev OD (oz:List (Option Nat)):D:=.tup (oz.map oD)
theorem szOk {ds:List D} (h:ds.length<=1000):sz ds=some ds:=ztT (Nat.le_trans h (by rw [sizeLine_eq]; decide))
@[simp] theorem addA_int (a b:Int):addA (.int a) (.int b)=some (.int (a + b)):=rfl
theorem zqS {a b:Int} (h:CMul a b):mulI (.int a) (.int b)=some (.int (a * b)):=by rw [mulI,intsC_int,if_pos h]
theorem zjI {a b:Int} (h:0 < b):modI (.int a) (.int b)=some (.int (a % b)):=by rw [modI,intsC_int,if_pos h]
theorem zoN {a b:Int} (h:CDiv a b):znl (.int a) (.int b)=some (.int (a / b)):=by rw [znl,intsC_int,if_pos h]
theorem zad {s1 s2:FS} {r r':Rho} (h:s1 r=.nx r'):seqF s1 s2 r=s2 r':=by unfold seqF; rw [h]
theorem zav {s1 s2:FS} {r:Rho} {d:D} (h:s1 r=.rt d):seqF s1 s2 r=.rt d:=by unfold seqF; rw [h]
theorem zat {m:List Md} {i:Nat} {f:FE} {r:Rho} {d:D} (h:f r=.ok d):setF m i f r=.nx (r.set i (some d)):=by unfold setF; rw [h]; rfl
theorem zaD {m:List Md} {f:FE} {r:Rho} {d:D} (h:f r=.ok d):retF m f r=.rt d:=by unfold retF; rw [h]; rfl
theorem zlA {m:List Md} {p:FQ} {s1 s2:FS} {r:Rho} {b:Bool} (h:p r=.ok b):ifF m p s1 s2 r=if b=true then s1 r else s2 r:=by unfold ifF; rw [h]; rfl
theorem if_t {m:List Md} {p:FQ} {s1 s2:FS} {r:Rho} (h:p r=.ok true):ifF m p s1 s2 r=s1 r:=by rw [zlA h,if_pos rfl]
theorem if_f {m:List Md} {p:FQ} {s1 s2:FS} {r:Rho} (h:p r=.ok false):ifF m p s1 s2 r=s2 r:=by rw [zlA h,if_neg Bool.false_ne_true]
theorem zth {p:FQ} {f f':FE} {r:Rho} (h:p r=.ok true):fIf p f f' r=f r:=by unfold fIf; rw [h]; rfl
theorem zti {p:FQ} {f f':FE} {r:Rho} (h:p r=.ok false):fIf p f f' r=f' r:=by unfold fIf; rw [h]; rfl
theorem zkw {fl:Rho->Res (List D)} {r:Rho} {ds:List D} (h:fl r=.ok ds) (hl:ds.length<=1000):mkT fl r=.ok (.tup ds):=by unfold mkT; rw [h,bind_ok,szOk hl]; rfl
theorem zdu {fl:Rho->Res (List D)} {r:Rho} {ds:List D} (h:fl r=.ok ds) (hl:ds.length<=1000):mkL fl r=.ok (.lst ds):=by unfold mkL; rw [h,bind_ok,szOk hl]; rfl
theorem zft {ds:List D} {d:D} (h:ds.length<=1000):appD (.lst ds) [d]=some (.lst (ds++[d])):=by
 show (if ds.length < sizeLine then some (D.lst (ds++[d])) else none)=_
 rw [if_pos (by rw [sizeLine_eq]; omega)]
theorem zan {fl:Rho->Res (List D)} {dds zs:List D} {F:List D->Res D} {r:Rho} {d:D} (h1:fl r=.ok zs) (h2:F (zs++dds)=.ok d):zaE fl dds F r=.ok d:=by unfold zaE; rw [h1,bind_ok,h2]; rfl
theorem zlC {f:FE} {k:D->Option D} {r:Rho} {a d:D} (h1:f r=.ok a) (h2:k a=some d):f1 f k r=.ok d:=by unfold f1; rw [h1,bind_ok,h2]; rfl
theorem zap {f f':FE} {k:D->D->Option D} {r:Rho} {a b d:D} (h1:f r=.ok a) (h2:f' r=.ok b) (h3:k a b=some d):f2 f f' k r=.ok d:=by unfold f2; rw [h1,bind_ok,h2,bind_ok,h3]; rfl
theorem zaX {fl:Rho->Res (List D)} {k:List D->Option D} {r:Rho} {ds:List D} {d:D} (h1:fl r=.ok ds) (h2:k ds=some d):fC fl k r=.ok d:=by unfold fC; rw [h1,bind_ok,h2]; rfl
theorem zae {f:FE} {fl:Rho->Res (List D)} {r:Rho} {d:D} {ds:List D} (h1:f r=.ok d) (h2:fl r=.ok ds):zac f fl r=.ok (d::ds):=by unfold zac; rw [h1,bind_ok,h2]; rfl
theorem zah {r:Rho}:lNil r=.ok []:=rfl
theorem zaF {f:FE} {r:Rho} {b:Bool} (h:f r=.ok (.bl b)):zaH f r=.ok b:=by unfold zaH; rw [h]; rfl
theorem zb5 {f:FE} {r:Rho} {d:D} {b:Bool} (h:f r=.ok d) (h2:truD d=some b):fTru f r=.ok b:=by unfold fTru; rw [h,bind_ok,h2]; rfl
theorem zeE {p:FQ} {r:Rho} {b:Bool} (h:p r=.ok b):fNot p r=.ok (! b):=by unfold fNot; rw [h]; rfl
theorem zrk {p q:FQ} {r:Rho} (h:p r=.ok true):fAnd p q r=q r:=by unfold fAnd; rw [h]; rfl
theorem ztB {p q:FQ} {r:Rho} (h:p r=.ok false):fAnd p q r=.ok false:=by unfold fAnd; rw [h]; rfl
theorem or_f {p q:FQ} {r:Rho} (h:p r=.ok false):fOr p q r=q r:=by unfold fOr; rw [h]; rfl
theorem zj6 {f f':FE} {r:Rho} (h:f r=.ok (.bl true)):vAnd f f' r=f' r:=by unfold vAnd; rw [h]; rfl
theorem zaW {m:List Md} {fi:FI} {ft:FT} {b:FS} {r:Rho} {ds:List D} (h:fi r=.ok ds):zch m fi ft b r=forF ft b ds r:=by unfold zch; rw [h]; rfl
theorem zfH {f:FE} {r:Rho} {d:D} {ds:List D} (h:f r=.ok d) (h2:za7 d=some ds):fSeq za7 f r=.ok ds:=by unfold fSeq; rw [h,bind_ok,h2]; rfl
theorem zaY {ft:FT} {b:FS} {r:Rho}:forF ft b [] r=.nx r:=by unfold forF; rfl
theorem zby {ft:FT} {b:FS} {r r1 r':Rho} {d:D} {ds:List D} (h1:ft d r=some r1) (h2:b r1=.nx r'):forF ft b (d::ds) r=forF ft b ds r':=by
 conv=>lhs; unfold forF
 simp only [h1,h2]
theorem zpN {ft:FT} {b:FS} {r r1:Rho} {d v:D} {ds:List D} (h1:ft d r=some r1) (h2:b r1=.rt v):forF ft b (d::ds) r=.rt v:=by
 conv=>lhs; unfold forF
 simp only [h1,h2]
theorem zge {m:List Md} {p:FQ} {b:FS} {n:Nat} {r:Rho} (h:p r=.ok false):za9 m p b (n + 1) r=.nx r:=by unfold za9; rw [h]; rfl
theorem zgd {m:List Md} {p:FQ} {b:FS} {n:Nat} {r r':Rho} (h:p r=.ok true) (h2:b r=.nx r'):za9 m p b (n + 1) r=za9 m p b n r':=by
 conv=>lhs; unfold za9
 rw [h,onE_ok,if_pos rfl,h2]
theorem zeF {T:String} {m:List Md} {i:Nat} {fl:Rho->Res (List D)} {mk:D->List D->Option D} {r:Rho} {d d':D} {ds:List D} (h1:r[i]? = some (some d)) (h2:tyB T d=true) (h3:fl r=.ok ds) (h4:mk d ds=some d'):mutF T m i fl mk r=.nx (r.set i (some d')):=by
 unfold mutF; rw [h1]; simp only [h2,if_true,h3,onE_ok,h4]
theorem put_ok {m:List Md} {i:Nat} {fk fv:FE} {r:Rho} {d k v d':D} (h1:r[i]? = some (some d)) (h2:fv r=.ok v) (h3:fk r=.ok k) (h4:stoD d k v=some d'):DL.putF m i fk fv r=.nx (r.set i (some d')):=by
 unfold DL.putF; rw [h2,onE_ok]; simp only [h1,h3,onE_ok,h4]
theorem zrg {fa fb fc:FE} {k k':D->D->Option D} {r:Rho} {x y w d:D} (h1:fa r=.ok x) (h2:fb r=.ok y) (h3:k x y=some (.bl true)) (h4:fc r=.ok w) (h5:k' y w=some d):zi6 fa fb fc k k' r=.ok d:=by
 unfold zi6; rw [h1,bind_ok,h2,bind_ok,h3,opt_some,bind_ok]
 show (fc r).bind _=_
 rw [h4,bind_ok,h5]; rfl
theorem znz {ft:FT} {q:FQ} {fe:FE} {r0:Rho}:zcT ft q fe r0 []=.ok []:=by unfold zcT; rfl
theorem zjb {ft:FT} {q:FQ} {fe:FE} {r0:Rho} {α:Type} (e:α->D) (keep:α->Bool) (g:α->D):∀(l:List α),(∀a∈l,∃r1,ft (e a) r0=some r1/\q r1=.ok (keep a)/\(keep a=true->fe r1=.ok (g a)))->zcT ft q fe r0 (l.map e)=.ok ((l.filter keep).map g)
 | [],_=>znz
 | a::l,h=>by
  obtain ⟨r1,h1,h2,h3⟩:=h a List.mem_cons_self
  have ih:=zjb (ft:=ft) (q:=q) (fe:=fe) (r0:=r0) e keep g l fun b hb=>h b (List.mem_cons_of_mem _ hb)
  rw [List.map_cons]
  conv=>lhs; unfold zcT
  rw [h1,opt_some,bind_ok,h2,bind_ok]
  cases k:keep a with
  | true=>rw [if_pos rfl,h3 k,bind_ok,ih,bind_ok,List.filter_cons,if_pos k]; rfl
  | false=>rw [if_neg Bool.false_ne_true,ih,List.filter_cons,if_neg (by rw [k]; exact Bool.false_ne_true)]
theorem zdL {nl:Nat} {cap:List Nat} {fi:FI} {ft:FT} {q:FQ} {fe:FE} {r:Rho} {α:Type} {l:List α} (e:α->D) (keep:α->Bool) (g:α->D) (h1:fi r=.ok (l.map e)) (hl:l.length<=1000)
  (h:∀a∈l,∃r1,ft (e a) (capR nl cap r)=some r1/\q r1=.ok (keep a)/\(keep a=true->fe r1=.ok (g a))):zbz nl cap fi ft q fe r=.ok (.lst ((l.filter keep).map g)):=by
 unfold zbz
 rw [h1,bind_ok,szOk (by simpa using hl),opt_some,bind_ok,zjb e keep g l h,noXL_ok,bind_ok]
theorem zul (k:Nat):leI (.int 0) (nD k)=some (.bl true):=by
 show some (D.bl (decide ((0:Int)<=(k:Int))))=_
 rw [decide_eq_true (Int.natCast_nonneg k)]
theorem zox (a b:Nat):ltI (nD a) (nD b)=some (.bl (decide (a < b))):=by
 show some (D.bl (decide ((a:Int) < (b:Int))))=_
 simp only [Int.ofNat_lt]
theorem znd (a b:Nat):gtI (nD a) (nD b)=some (.bl (decide (b < a))):=by
 show some (D.bl (decide ((b:Int) < (a:Int))))=_
 simp only [Int.ofNat_lt]
theorem znn (a b:Nat):eqD (nD a) (nD b)=some (.bl (decide (a=b))):=by
 unfold eqD
 rw [eqB_int]
 show some (D.bl ((a:Int) == (b:Int)))=_
 have:((a:Int) == (b:Int))=decide (a=b):=by rw [Bool.eq_iff_iff,beq_iff_eq,decide_eq_true_iff]; exact Int.ofNat_inj
 rw [this]
theorem zot (a b:Nat):neD (nD a) (nD b)=some (.bl (! decide (a=b))):=by
 unfold neD
 rw [eqB_int]
 show some (D.bl (!((a:Int) == (b:Int))))=_
 have:((a:Int) == (b:Int))=decide (a=b):=by rw [Bool.eq_iff_iff,beq_iff_eq,decide_eq_true_iff]; exact Int.ofNat_inj
 rw [this]
theorem zaI {B:FS} {n:Nat} {ds:List D} {d:D} (h:B (zao n ds)=.rt d):outR false (B (zao n ds))=.ok d:=by rw [h]; rfl
abbrev kI (k:Nat):Key:=Sum.inl (k:Int)
theorem zpK (kz:List (Nat × D)) (k:Nat):hasK (kz.map fun p=>(kI p.1,p.2)) (kI k)=decide (k∈kz.map (·.1)):=by
 unfold hasK
 rw [List.any_map,Bool.eq_iff_iff,List.any_eq_true,decide_eq_true_iff,List.mem_map]
 constructor
 ·rintro ⟨p,h1,h2⟩
  refine ⟨p,h1,?_⟩
  simp only [Function.comp_apply,decide_eq_true_eq] at h2
  have:((p.1:Nat):Int)=(k:Int):=Sum.inl.inj h2
  exact Int.ofNat.inj this
 ·rintro ⟨p,h1,rfl⟩
  exact ⟨p,h1,by simp⟩
theorem zn8 (kz:List (Nat × D)) (k:Nat) (d:D) (h:k∉kz.map (·.1)):putD (kz.map fun p=>(kI p.1,p.2)) (kI k) d=(kz++[(k,d)]).map fun p=>(kI p.1,p.2):=by
 unfold putD
 have e:((kz.map fun p=>(kI p.1,p.2)).any fun kv=>decide (kv.1=kI k))=decide (k∈kz.map (·.1)):=zpK kz k
 rw [e,decide_eq_false h,if_neg Bool.false_ne_true,List.map_append]
 rfl
@[simp] theorem e_seq (s1 s2:FS) (r:Rho):seqF s1 s2 r=(match s1 r with | .nx r'=>s2 r' | o=>o):=rfl
@[simp] theorem e_skip (r:Rho):zak r=.nx r:=rfl
@[simp] theorem e_set (m:List Md) (i:Nat) (f:FE) (r:Rho):setF m i f r=onE m r (f r) fun d=>.nx (r.set i (some d)):=rfl
@[simp] theorem e_ret (m:List Md) (f:FE) (r:Rho):retF m f r=onE m r (f r) fun d=>.rt d:=rfl
@[simp] theorem e_if (m:List Md) (p:FQ) (s1 s2:FS) (r:Rho):ifF m p s1 s2 r=onE m r (p r) fun c=>if c=true then s1 r else s2 r:=rfl
@[simp] theorem e_getV (r:Rho) (i:Nat):getV r i=(match r[i]? with | some (some d)=>.ok d | _=>.stuck):=rfl
@[simp] theorem e_f1 (f:FE) (k:D->Option D) (r:Rho):f1 f k r=(f r).bind fun d=>opt (k d):=rfl
@[simp] theorem e_f2 (f f':FE) (k:D->D->Option D) (r:Rho):f2 f f' k r=(f r).bind fun a=>(f' r).bind fun b=>opt (k a b):=rfl
@[simp] theorem e_fC (fl:Rho->Res (List D)) (k:List D->Option D) (r:Rho):fC fl k r=(fl r).bind fun ds=>opt (k ds):=rfl
@[simp] theorem e_lN (r:Rho):lNil r=.ok []:=rfl
@[simp] theorem e_lC (f:FE) (fl:Rho->Res (List D)) (r:Rho):zac f fl r=(f r).bind fun d=>(fl r).bind fun ds=>.ok (d::ds):=rfl
@[simp] theorem e_test (f:FE) (r:Rho):zaH f r=(f r).bind fun d=>opt (asB d):=rfl
@[simp] theorem e_tru (f:FE) (r:Rho):fTru f r=(f r).bind fun d=>opt (truD d):=rfl
@[simp] theorem e_not (p:FQ) (r:Rho):fNot p r=(p r).bind fun c=>.ok (! c):=rfl
@[simp] theorem e_and (p q:FQ) (r:Rho):fAnd p q r=(p r).bind fun c=>if c=true then q r else .ok false:=rfl
@[simp] theorem e_or (p q:FQ) (r:Rho):fOr p q r=(p r).bind fun c=>if c=true then .ok true else q r:=rfl
@[simp] theorem e_vand (f f':FE) (r:Rho):vAnd f f' r=(f r).bind fun d=>(opt (asB d)).bind fun c=>if c=true then f' r else .ok (.bl false):=rfl
@[simp] theorem e_vor (f f':FE) (r:Rho):vOr f f' r=(f r).bind fun d=>(opt (asB d)).bind fun c=>if c=true then .ok (.bl true) else f' r:=rfl
@[simp] theorem e_vnot (f:FE) (r:Rho):vNot f r=(f r).bind fun d=>(opt (asB d)).bind fun c=>.ok (.bl (! c)):=rfl
@[simp] theorem e_fIf (p:FQ) (f f':FE) (r:Rho):fIf p f f' r=(p r).bind fun c=>if c=true then f r else f' r:=rfl
@[simp] theorem e_call (fl:Rho->Res (List D)) (dds:List D) (F:List D->Res D) (r:Rho):zaE fl dds F r=(fl r).bind fun ds=>noX (F (ds++dds)):=rfl
@[simp] theorem e_asB (b:Bool):asB (.bl b)=some b:=rfl
@[simp] theorem e_truB (b:Bool):truD (.bl b)=some b:=rfl
@[simp] theorem e_truL (ds:List D):truD (.lst ds)=some (! ds.isEmpty):=rfl
@[simp] theorem e_loop (m:List Md) (fi:FI) (ft:FT) (b:FS) (r:Rho):zch m fi ft b r=onE m r (fi r) fun ds=>forF ft b ds r:=rfl
@[simp] theorem e_fSeq (k:D->Option (List D)) (f:FE) (r:Rho):fSeq k f r=(f r).bind fun d=>opt (k d):=rfl
@[simp] theorem e_asL (ds:List D):za7 (.lst ds)=some ds:=rfl
@[simp] theorem e_asT (ds:List D):za7 (.tup ds)=some ds:=rfl
@[simp] theorem e_mkT (fl:Rho->Res (List D)) (r:Rho):mkT fl r=(fl r).bind fun ds=>(opt (sz ds)).bind fun ds=>.ok (.tup ds):=rfl
@[simp] theorem e_mkL (fl:Rho->Res (List D)) (r:Rho):mkL fl r=(fl r).bind fun ds=>(opt (sz ds)).bind fun ds=>.ok (.lst ds):=rfl
@[simp] theorem e_lenL (ds:List D):lenD [.lst ds]=some (.int ds.length):=rfl
@[simp] theorem e_lenT (ds:List D):lenD [.tup ds]=some (.int ds.length):=rfl
@[simp] theorem e_lenK (ds:List (Key × D)):lenD [.dic ds]=some (.int ds.length):=rfl
@[simp] theorem e_tupL (ds:List D):tupD [.lst ds]=some (.tup ds):=rfl
@[simp] theorem e_listL (ds:List D):zjM [.lst ds]=some (.lst ds):=rfl
@[simp] theorem e_listT (ds:List D):zjM [.tup ds]=some (.lst ds):=rfl
@[simp] theorem e_isNN:isD .non .non=some (.bl true):=rfl
@[simp] theorem e_isLN (ds:List D):isD (.lst ds) .non=some (.bl false):=rfl
@[simp] theorem e_isn1:isnD .non .non=some (.bl false):=rfl
@[simp] theorem e_isn2 (i:Int):isnD (.int i) .non=some (.bl true):=rfl
@[simp] theorem e_isn3 (ds:List D):isnD (.tup ds) .non=some (.bl true):=rfl
@[simp] theorem e_valsD (kz:List (Key × D)):zpX (.dic kz)=some (.lst (kz.map (·.2))):=rfl
theorem zjO {ds:List D} {i:Nat} {d:D} (h:ds[i]? = some d):ixA (.tup ds) (nD i)=some d:=by
 have hl:i < ds.length:=(List.getElem?_eq_some_iff.mp h).1
 show atI ds (i:Int)=some d
 unfold atI ixN
 rw [if_pos (Int.natCast_nonneg i),if_pos (by omega)]
 simpa using h
theorem zoE {ds:List D} {i:Nat} {d:D} (h:ds[i]? = some d):ixA (.lst ds) (nD i)=some d:=by
 have hl:i < ds.length:=(List.getElem?_eq_some_iff.mp h).1
 show atI ds (i:Int)=some d
 unfold atI ixN
 rw [if_pos (Int.natCast_nonneg i),if_pos (by omega)]
 simpa using h
@[simp] theorem ixA_L0 (d:D) (ds:List D):ixA (.lst (d::ds)) (.int 0)=some d:=zoE (i:=0) rfl
@[simp] theorem ixA_T0 (d:D) (ds:List D):ixA (.tup (d::ds)) (.int 0)=some d:=zjO (i:=0) rfl
theorem zs0 {kz:List (Key × D)} {k:Nat} {d:D} (h:getK kz (kI k)=some d):ixA (.dic kz) (nD k)=some d:=h
theorem anyE (l:List Nat) (k:Nat):(l.map nD).any (fun y=>eqs y (nD k))=decide (k∈l):=by
 rw [List.any_map,Bool.eq_iff_iff,List.any_eq_true,decide_eq_true_iff]
 constructor
 ·rintro ⟨x,h1,h2⟩
  have:(((x:Nat):Int) == (k:Int))=true:=h2
  have:=Int.ofNat_inj.mp (eq_of_beq this)
  subst this; exact h1
 ·intro h
  exact ⟨k,h,by show (((k:Nat):Int) == (k:Int))=true; simp⟩
theorem zoM (l:List Nat):(l.map nD).all zbm=true:=by
 rw [List.all_eq_true]
 intro x hx
 obtain ⟨k,_,rfl⟩:=List.mem_map.mp hx
 rfl
theorem zs6 (l:List Nat) (k:Nat):inD (nD k) (LN l)=some (.bl (decide (k∈l))):=by
 show (if zbm (nD k)=true/\(l.map nD).all zbm=true then some ((l.map nD).any fun y=>eqs y (nD k)) else none).map D.bl=_
 rw [if_pos ⟨rfl,zoM l⟩,anyE]; rfl
theorem zpA (l:List Nat) (k:Nat):ninD (nD k) (LN l)=some (.bl (! decide (k∈l))):=by
 show (if zbm (nD k)=true/\(l.map nD).all zbm=true then some ((l.map nD).any fun y=>eqs y (nD k)) else none).map (fun b=>D.bl (! b))=_
 rw [if_pos ⟨rfl,zoM l⟩,anyE]; rfl
theorem ziz (k:Nat):zbM [nD k]=.ok (.bl true):=rfl
theorem ziB (k b:Nat):zdA [nD k,nD b]=.ok (.bl (decide (k < b))):=by
 refine zaI (B:=zeq) (n:=2) ?_
 unfold zeq
 refine zav (zaD ?_)
 rw [zj6 (zan (zae (d:=nD k) rfl zah) (ziz k))]
 exact zrg rfl rfl (zul k) rfl (zox k b)
theorem zdb {α:Type} (f:α->D) (l:List α):lenD [.tup (l.map f)]=some (nD l.length):=by
 show some (D.int ((l.map f).length:Int))=_
 rw [List.length_map]
theorem zcf {α:Type} (f:α->D) (l:List α):lenD [.lst (l.map f)]=some (nD l.length):=by
 show some (D.int ((l.map f).length:Int))=_
 rw [List.length_map]
theorem zkF {α:Type} (f:α->Key × D) (l:List α):lenD [.dic (l.map f)]=some (nD l.length):=by
 show some (D.int ((l.map f).length:Int))=_
 rw [List.length_map]
theorem zf8 (n:Nat):eqD (nD n) (nD n)=some (.bl true):=by
 have e:=znn n n
 rw [decide_eq_true rfl] at e; exact e
theorem zpe (n:Nat):rngD 0 n=(List.range n).map nD:=by
 unfold rngD
 refine List.map_congr_left fun i _=>?_
 show D.int (0 + (i:Int))=D.int (i:Int)
 rw [Int.zero_add]
theorem zoy (j:Int):zh5 [.int j]=if -(2 ^ 62)<=j/\j < 2 ^ 62/\j.toNat<=sizeLine then some (.lst (rngD 0 j.toNat)) else none:=rfl
theorem zh4 {n:Nat} (h:n<=1000):zh5 [nD n]=some (LN (List.range n)):=by
 have hs:(n:Int).toNat<=sizeLine:=by rw [Int.toNat_natCast,sizeLine_eq]; omega
 rw [zoy,if_pos ⟨by omega,by omega,hs⟩,Int.toNat_natCast,zpe]
theorem zqj (j:Int):rng1 [.int j]=if -(2 ^ 62)<=j/\j < 2 ^ 62 then some (rngD 0 j.toNat) else none:=rfl
theorem zd9 {n:Nat} (h:n<=1000):rng1 [nD n]=some ((List.range n).map nD):=by
 rw [zqj,if_pos ⟨by omega,by omega⟩,Int.toNat_natCast,zpe]
theorem zcR {fl:Rho->Res (List D)} {k:List D->Option (List D)} {r:Rho} {ds es:List D} (h1:fl r=.ok ds) (h2:k ds=some es):fRng k fl r=.ok es:=by unfold fRng; rw [h1,bind_ok,h2]; rfl
theorem zgU {p:Nat->Bool}:∀(l:List Nat),l.find? p=(l.filter p).head?
 | []=>rfl
 | a::l=>by
  rw [List.find?_cons,List.filter_cons]
  cases h:p a with
  | true=>simp
  | false=>simpa using zgU l
theorem ztn (o:Option Nat) (x:Nat):eqD (oD o) (nD x)=some (.bl (decide (o=some x))):=by
 cases o with
 | none=>
  unfold eqD oD
  rw [eqB_non_int]
  simp
 | some k=>
  show eqD (nD k) (nD x)=_
  rw [znn]
  simp
def own (oz:List (Option Nat)) (h:Nat):Option Nat:=(oz[h]?).join
theorem zpq {oz:List (Option Nat)} {h:Nat} (hh:h < oz.length):(oz.map oD)[h]? = some (oD (own oz h)):=by
 rw [List.getElem?_map,List.getElem?_eq_getElem hh]
 unfold own
 rw [List.getElem?_eq_getElem hh]
 rfl
theorem zhj {row:List Nat} {rest:List (List Nat)}:za8 [WD (row::rest)]=.ok (nD row.length):=by
 refine zaI (B:=zdW) (n:=1) ?_
 unfold zdW
 exact zav (zaD (zaX (zae (zap (a:=WD (row::rest)) (b:=.int 0) rfl rfl (ixA_T0 _ _)) zah) (zdb _ _)))
theorem zkk {row things:List Nat} (h:∃x∈row,x∈things) (hl:row.length<=1000):zcb [TN row,LN things]=.ok (nD (Rg.best row things)):=by
 refine zaI (B:=zd0) (n:=2) ?_
 unfold zd0
 have hc:(zbz 1 [1] (fSeq za7 (gv 0)) (ftN 0) (zaH (f2 (gv 0) (gv 1) inD)) (gv 0)) [some (TN row),some (LN things)]=.ok (LN (row.filter fun x=>decide (x∈things))):=by
  refine zdL nD (fun x=>decide (x∈things)) nD (l:=row) rfl hl fun a _=>⟨[some (nD a),some (LN things)],rfl,?_,fun _=>rfl⟩
  exact zaF (zap (a:=nD a) (b:=LN things) rfl rfl (zs6 _ _))
 have hb:∃t,(row.filter fun x=>decide (x∈things))=Rg.best row things::t:=by
  unfold Rg.best
  rw [zgU]
  cases e:row.filter fun x=>decide (x∈things) with
  | nil=>
   obtain ⟨x,h1,h2⟩:=h
   have:x∈row.filter fun x=>decide (x∈things):=List.mem_filter.mpr ⟨h1,by simpa using h2⟩
   rw [e] at this; cases this
  | cons a t=>exact ⟨t,rfl⟩
 obtain ⟨t,ht⟩:=hb
 rw [ht] at hc
 exact zav (zaD (zap hc (b:=.int 0) rfl (ixA_L0 _ _)))
abbrev zg9 (pre:List Nat):D:=.dic ((pre.map fun k=>(k,D.bl true)).map fun p=>(kI p.1,p.2))
theorem znh (b:Nat) (num:D):∀(suf pre:List Nat) (x y:Option D),(pre++suf).Nodup->(∀k∈suf,k < b)->(pre++suf).length<=1000 ->
  ∃x' y',forF (ftT (zcQ (ftN 3) (zcQ (ftN 4) zi2))) zcX (enuD pre.length (suf.map nD)) [some num,some (nD b),some (zg9 pre),x,y]=.nx [some num,some (nD b),some (zg9 (pre++suf)),x',y']
 | [],pre,x,y,_,_,_=>⟨x,y,by rw [List.append_nil]; exact zaY⟩
 | k::suf,pre,x,y,hn,hb,hl=>by
  have hk:k∉pre:=fun z=>(List.nodup_append.mp hn).2.2 k z k List.mem_cons_self rfl
  obtain ⟨x',y',ih⟩:=znh b num suf (pre++[k]) (some (nD pre.length)) (some (nD k)) (by simpa using hn) (fun j hj=>hb j (List.mem_cons_of_mem _ hj)) (by simpa using hl)
  refine ⟨x',y',?_⟩
  rw [show (pre++[k]).length=pre.length + 1 by simp] at ih
  rw [show pre++k::suf=(pre++[k])++suf by simp,<-ih]
  show forF _ _ (.tup [.int ((pre.length:Nat):Int),nD k]::enuD (pre.length + 1) (suf.map nD)) _=_
  refine zby (r1:=[some num,some (nD b),some (zg9 pre),some (nD pre.length),some (nD k)]) rfl ?_
  have c2:inD (nD k) (zg9 pre)=some (.bl false):=by
   show (some (hasK _ (kI k))).map D.bl=_
   rw [zpK,List.map_map]
   have:decide (k∈pre.map ((fun p:Nat × D=>p.1) ∘ fun k=>(k,D.bl true)))=false:=by
    rw [decide_eq_false_iff_not]
    simpa [Function.comp_def] using hk
   rw [this]; rfl
  have c3:stoD (zg9 pre) (nD k) (.bl true)=some (zg9 (pre++[k])):=by
   show (if _ then some (D.dic (putD _ (kI k) (.bl true))) else none)=_
   rw [if_pos (by rw [List.length_map,List.length_map,sizeLine_eq]; simp at hl; omega),zn8 _ _ _ (by rw [List.map_map]; simpa [Function.comp_def] using hk)]
   simp
  have c1:decide (k < b)=true:=decide_eq_true (hb k List.mem_cons_self)
  unfold zcX
  have hif:(fOr (fNot (fTru (zaE (zac (gv 4) (zac (gv 1) lNil)) [] zdA))) (zaH (f2 (gv 4) (gv 2) inD))) [some num,some (nD b),some (zg9 pre),some (nD pre.length),some (nD k)]=.ok false:=by
   have h0:=ziB k b
   rw [c1] at h0
   rw [or_f (zeE (zb5 (b:=true) (zan (zae (d:=nD k) rfl (zae (d:=nD b) rfl zah)) h0) rfl))]
   exact zaF (zap (a:=nD k) (b:=zg9 pre) rfl rfl c2)
  refine (zad (zlA hif)).trans ?_
  exact zad (put_ok (d:=zg9 pre) (k:=nD k) rfl rfl rfl c3)
theorem zgu {l:List Nat} {b:Nat} (hn:l.Nodup) (hb:∀k∈l,k < b) (hl:l.length<=1000):zcA [LN l,nD b]=.ok (nD l.length):=by
 obtain ⟨x',y',h⟩:=znh b (LN l) l [] none none hn hb hl
 refine zaI (B:=zcC) (n:=5) ?_
 unfold zcC
 refine (zad (r':=[some (LN l),some (nD b),some (zg9 []),none,none]) rfl).trans ?_
 refine (zad ((zaW (ds:=enuD 0 (l.map nD)) rfl).trans h)).trans ?_
 exact zav (zaD (zaX (zae (d:=LN l) rfl zah) (zcf _ _)))
theorem zle {l:List Nat} {n:Nat} (hn:l.Nodup) (hb:∀k∈l,k < n) (h8:l.length<=1000):zdj [LN l,nD n]=.ok (.bl true):=by
 refine zaI (B:=zdn) (n:=2) ?_
 unfold zdn
 exact zav (zaD (zap (a:=nD l.length) (b:=nD l.length) (zan (zae (d:=LN l) rfl (zae (d:=nD n) rfl zah)) (zgu hn hb h8)) (zaX (zae (d:=LN l) rfl zah) (zcf _ _)) (zf8 _)))
theorem zqf {l:List Nat} {n:Nat} (hn:l.Nodup) (hb:∀k∈l,k < n) (hl:l.length=n) (h8:n<=1000):zbY [LN l,nD n]=.ok (.bl true):=by
 refine zaI (B:=zb0) (n:=2) ?_
 unfold zb0
 subst hl
 refine zav (zaD ?_)
 rw [zj6 (zap (a:=nD l.length) (b:=nD l.length) (zaX (zae (d:=LN l) rfl zah) (zcf _ _)) rfl (zf8 _))]
 exact zan (zae (d:=LN l) rfl (zae (d:=nD l.length) rfl zah)) (zle hn hb h8)
theorem zhb {rz:List (List Nat)} (h:rz.length<=1000):zcG [WD rz,.non]=.ok (LN (List.range rz.length)):=by
 refine zaI (B:=zcI) (n:=2) ?_
 unfold zcI
 refine zav ((zlA (b:=true) rfl).trans ?_)
 rw [if_pos rfl]
 exact zav (zaD (zaX (ds:=[nD rz.length]) (zae (zaX (zae (d:=WD rz) rfl zah) (zdb _ _)) zah) (zh4 h)))
theorem zmc {rz:List (List Nat)} {l:List Nat} (hn:l.Nodup) (hb:∀k∈l,k < rz.length) (hl:l.length=rz.length) (h8:rz.length<=1000):zcG [WD rz,LN l]=.ok (LN l):=by
 refine zaI (B:=zcI) (n:=2) ?_
 unfold zcI
 refine (zad (r':=[some (WD rz),some (LN l)]) ((zlA (b:=false) rfl).trans rfl)).trans ?_
 refine (zad (r':=[some (WD rz),some (LN l)]) ((zlA (b:=false) (zeE (b:=true) (zb5 (zan (zae (d:=LN l) rfl (zae (zaX (zae (d:=WD rz) rfl zah) (zdb _ _)) zah)) (zqf hn hb hl h8)) rfl))).trans rfl)).trans ?_
 exact zav (zaD (zaX (zae (d:=LN l) rfl zah) rfl))
theorem znb (oz:List (Option Nat)) (line:List Nat) (x:Nat):∀(l:List Nat) (y:Option D),(∀h∈l,h < oz.length) ->
  (match l.find? (fun h=>decide (own oz h=some x)) with
   | some h=>forF (ftN 3) zbA (l.map nD) [some (OD oz),some (LN line),some (nD x),y]=.rt (nD h)
   | none=>∃y',forF (ftN 3) zbA (l.map nD) [some (OD oz),some (LN line),some (nD x),y]=.nx [some (OD oz),some (LN line),some (nD x),y'])
 | [],y,_=>⟨y,zaY⟩
 | h::l,y,hl=>by
  have c:(zaH (f2 (f2 (gv 0) (gv 3) ixA) (gv 2) eqD)) [some (OD oz),some (LN line),some (nD x),some (nD h)]=.ok (decide (own oz h=some x)):=
   zaF (zap (zap (a:=OD oz) (b:=nD h) rfl rfl (zjO (zpq (hl h List.mem_cons_self)))) (b:=nD x) rfl (ztn _ _))
  rw [List.find?_cons]
  cases e:decide (own oz h=some x) with
  | true=>
   rw [e] at c
   refine zpN (r1:=[some (OD oz),some (LN line),some (nD x),some (nD h)]) rfl ?_
   exact zav ((if_t c).trans (zav (zaD (d:=nD h) rfl)))
  | false=>
   rw [e] at c
   have ih:=znb oz line x l (some (nD h)) fun k hk=>hl k (List.mem_cons_of_mem _ hk)
   have st:forF (ftN 3) zbA ((h::l).map nD) [some (OD oz),some (LN line),some (nD x),y]=forF (ftN 3) zbA (l.map nD) [some (OD oz),some (LN line),some (nD x),some (nD h)]:=
    zby (r1:=[some (OD oz),some (LN line),some (nD x),some (nD h)]) rfl ((zad (if_f c)).trans rfl)
   rw [st]
   exact ih
theorem zmb {oz:List (Option Nat)} {line:List Nat} {x:Nat} (hl:∀h∈line,h < oz.length):zdi [OD oz,LN line,nD x]=.ok (oD (line.find? fun h=>decide (own oz h=some x))):=by
 refine zaI (B:=zdk) (n:=4) ?_
 unfold zdk
 have h:=znb oz line x line none hl
 cases e:line.find? fun h=>decide (own oz h=some x) with
 | some k=>
  rw [e] at h
  exact zav ((zaW (ds:=line.map nD) rfl).trans h)
 | none=>
  rw [e] at h
  obtain ⟨y',h⟩:=h
  exact (zad ((zaW (ds:=line.map nD) rfl).trans h)).trans (zav (zaD (d:=.non) rfl))
theorem zun (o:Option Nat):isD (oD o) .non=some (.bl (decide (o=none))):=by cases o <;> rfl
theorem zli {oz:List (Option Nat)} {line:List Nat} {x:Nat} (hl:∀h∈line,h < oz.length) (hne:line≠[]):za2 [OD oz,LN line,nD x]=.ok (nD ((line.find? fun h=>decide (own oz h=some x)).getD (line.headD 0))):=by
 refine zaI (B:=zbs) (n:=4) ?_
 unfold zbs
 refine (zad (zat (zan (zae (d:=OD oz) rfl (zae (d:=LN line) rfl (zae (d:=nD x) rfl zah))) (zmb hl)))).trans ?_
 refine zav (zaD ?_)
 have c:=zaF (zap (f:=gv 3) (f':=fun _=>Res.ok D.non) (r:=[some (OD oz),some (LN line),some (nD x),some (oD (line.find? fun h=>decide (own oz h=some x)))]) rfl rfl (zun (line.find? fun h=>decide (own oz h=some x))))
 cases e:line.find? fun h=>decide (own oz h=some x) with
 | some k=>
  rw [e,decide_eq_false (by simp)] at c
  exact (zti c).trans rfl
 | none=>
  rw [e,decide_eq_true rfl] at c
  refine (zth c).trans ?_
  cases line with
  | nil=>exact absurd rfl hne
  | cons a l=>exact zap (a:=LN (a::l)) (b:=.int 0) rfl rfl (ixA_L0 _ _)
abbrev KD (kz:List (Nat × Nat)):D:=.dic (kz.map fun p=>(kI p.1,nD p.2))
abbrev FD (l:List Nat) (f:Nat->Nat):List (Nat × Nat):=l.map fun h=>(h,f h)
theorem zm4 {a b:Nat} (h:kI a=kI b):a=b:=Int.ofNat_inj.mp (Sum.inl.inj h)
theorem zgR:∀{kz:List (Nat × Nat)} {h:Nat} {f:Nat->Nat},(∀p∈kz,p.2=f p.1)->h∈kz.map (·.1)->getK (kz.map fun p=>(kI p.1,nD p.2)) (kI h)=some (nD (f h))
 | [],_,_,_,hh=>by cases hh
 | p::kz,h,f,hf,hh=>by
  by_cases e:p.1=h
  ·have:=hf p List.mem_cons_self
   subst e
   simp [getK,List.find?_cons,this]
  ·have hne:¬ kI p.1=kI h:=fun z=>e (zm4 z)
   have hh':h∈kz.map (·.1):=by
    rcases List.mem_cons.mp hh with z | z
    ·exact absurd z.symm e
    ·exact z
   have ih:=zgR (f:=f) (fun q hq=>hf q (List.mem_cons_of_mem _ hq)) hh'
   have e1:getK ((p::kz).map fun p=>(kI p.1,nD p.2)) (kI h)=getK (kz.map fun p=>(kI p.1,nD p.2)) (kI h):=by
    simp only [getK,List.map_cons,List.find?_cons]
    rw [decide_eq_false hne]
   rw [e1]; exact ih
theorem zjW (l:List Nat) (f:Nat->Nat):(FD l f).map (·.1)=l:=by simp [FD,Function.comp_def]
theorem zi4 {l:List Nat} {f:Nat->Nat} {h:Nat} (hh:h∈l):ixA (KD (FD l f)) (nD h)=some (nD (f h)):=
 zs0 (zgR (f:=f) (fun p hp=>by obtain ⟨x,_,rfl⟩:=List.mem_map.mp hp; rfl) (by rw [zjW]; exact hh))
def putN (kz:List (Nat × Nat)) (k v:Nat):List (Nat × Nat):=if k∈kz.map (·.1) then kz.map fun p=>if p.1=k then (p.1,v) else p else kz++[(k,v)]
theorem hasN (kz:List (Nat × Nat)) (k:Nat):((kz.map fun p=>(kI p.1,nD p.2)).any fun kv=>decide (kv.1=kI k))=decide (k∈kz.map (·.1)):=by
 rw [List.any_map,Bool.eq_iff_iff,List.any_eq_true,decide_eq_true_iff,List.mem_map]
 constructor
 ·rintro ⟨p,h1,h2⟩
  simp only [Function.comp_apply,decide_eq_true_eq] at h2
  exact ⟨p,h1,zm4 h2⟩
 ·rintro ⟨p,h1,rfl⟩
  exact ⟨p,h1,by simp⟩
theorem zpj (kz:List (Nat × Nat)) (k v:Nat):putD (kz.map fun p=>(kI p.1,nD p.2)) (kI k) (nD v)=(putN kz k v).map fun p=>(kI p.1,nD p.2):=by
 unfold putD putN
 rw [hasN]
 by_cases h:k∈kz.map (·.1)
 ·rw [decide_eq_true h,if_pos rfl,if_pos h,List.map_map,List.map_map]
  refine List.map_congr_left fun p _=>?_
  simp only [Function.comp_apply]
  by_cases e:p.1=k
  ·rw [if_pos (by rw [e]),if_pos e]
  ·rw [if_neg (fun z=>e (zm4 z)),if_neg e]
 ·rw [decide_eq_false h,if_neg Bool.false_ne_true,if_neg h,List.map_append]
  rfl
theorem zmr (kz:List (Nat × Nat)) (k v j:Nat):j∈(putN kz k v).map (·.1)↔j∈kz.map (·.1)\/j=k:=by
 unfold putN
 by_cases h:k∈kz.map (·.1)
 ·rw [if_pos h,List.map_map]
  have:((fun p:Nat × Nat=>p.1) ∘ fun p=>if p.1=k then (p.1,v) else p)=fun p=>p.1:=by
   funext p
   simp only [Function.comp_apply]
   split <;> rfl
  rw [this]
  constructor
  ·exact .inl
  ·rintro (z | rfl)
   ·exact z
   ·exact h
 ·rw [if_neg h]; simp
theorem zn7 {kz:List (Nat × Nat)} {k v:Nat} {f:Nat->Nat} (h:∀p∈kz,p.2=f p.1) (hv:v=f k):∀p∈putN kz k v,p.2=f p.1:=by
 intro p hp
 unfold putN at hp
 split at hp
 ·obtain ⟨q,h1,rfl⟩:=List.mem_map.mp hp
  split
  ·rename_i e; simp only; rw [e]; exact hv
  ·exact h q h1
 ·rcases List.mem_append.mp hp with z | z
  ·exact h p z
  ·rw [List.mem_singleton.mp z]; exact hv
theorem zlW {kz:List (Nat × Nat)} {k v:Nat} (hl:kz.length<=1000):stoD (KD kz) (nD k) (nD v)=some (KD (putN kz k v)):=by
 show (if (kz.map fun p=>(kI p.1,nD p.2)).length < sizeLine then some (D.dic (putD _ (kI k) (nD v))) else none)=_
 rw [if_pos (by rw [List.length_map,sizeLine_eq]; omega),zpj]
structure GI (t:Nat->Nat) (kz:List (Nat × Nat)) (L:List Nat):Prop where
 nd:(kz.map (·.1)).Nodup
 val:∀p∈kz,p.2=t p.1
 key:∀h,h∈kz.map (·.1)↔h∈L
theorem zqs {kz:List (Nat × Nat)} {k v:Nat} (h:(kz.map (·.1)).Nodup):((putN kz k v).map (·.1)).Nodup:=by
 unfold putN
 split
 ·rw [List.map_map]
  have:((fun p:Nat × Nat=>p.1) ∘ fun p=>if p.1=k then (p.1,v) else p)=fun p=>p.1:=by
   funext p
   simp only [Function.comp_apply]
   split <;> rfl
  rw [this]; exact h
 ·rename_i hk
  rw [List.map_append]
  refine List.nodup_append.mpr ⟨h,by simp,fun a ha b hb=>?_⟩
  simp at hb
  rintro rfl
  exact hk (hb ▸ ha)
theorem GI.put {t:Nat->Nat} {kz:List (Nat × Nat)} {L:List Nat} (g:GI t kz L) (k:Nat):GI t (putN kz k (t k)) (L++[k]):=
 ⟨zqs g.nd,zn7 g.val rfl,fun h=>by rw [zmr,g.key]; simp⟩
theorem GI.len {t:Nat->Nat} {kz:List (Nat × Nat)} {L line:List Nat} (g:GI t kz L) (hs:∀h∈L,h∈line):kz.length<=line.length:=by
 have:=Rg.zcx (m:=line) g.nd fun h hh=>hs h ((g.key h).mp hh)
 simpa using this
theorem GI.congr {t t':Nat->Nat} {kz:List (Nat × Nat)} {L:List Nat} (g:GI t kz L) (h:∀x∈L,t' x=t x):GI t' kz L:=
 ⟨g.nd,fun p hp=>by rw [g.val p hp,h p.1 ((g.key _).mp (List.mem_map.mpr ⟨p,hp,rfl⟩))],g.key⟩
theorem GI.mem {t:Nat->Nat} {kz:List (Nat × Nat)} {L M:List Nat} (g:GI t kz L) (h:∀x,x∈L↔x∈M):GI t kz M:=⟨g.nd,g.val,fun x=>(g.key x).trans (h x)⟩
theorem GI.nil (t:Nat->Nat):GI t [] []:=⟨by simp,fun _ hp=>(nomatch hp),fun h=>by simp⟩
theorem zeg {α:Type} (l:List α):l.filter (fun _=>true)=l:=List.filter_eq_self.mpr fun _ _=>rfl
theorem GI.full {t:Nat->Nat} {kz:List (Nat × Nat)} {L:List Nat} {n:Nat} (g:GI t kz L) (h:∀x,x∈L↔x < n):kz.length=n:=by
 have h1:=g.len (line:=List.range n) fun x hx=>List.mem_range.mpr ((h x).mp hx)
 have h2:=Rg.zcx (l:=List.range n) (m:=kz.map (·.1)) List.nodup_range fun x hx=>(g.key x).mpr ((h x).mpr (List.mem_range.mp hx))
 simp at h1 h2; omega
def Wr (rz:List (List Nat)) (h:Nat):List Nat:=(rz[h]?).getD []
theorem zmh {rz:List (List Nat)} {h:Nat} (hh:h < rz.length):(rz.map TN)[h]? = some (TN (Wr rz h)):=by
 rw [List.getElem?_map]
 unfold Wr
 rw [List.getElem?_eq_getElem hh]; rfl
theorem zko {kz:List (Nat × Nat)} {k v:Nat} (h:k∉kz.map (·.1)):putN kz k v=kz++[(k,v)]:=by
 unfold putN; rw [if_neg h]
theorem zhc {a:Nat->Nat} {kz:List (Nat × Nat)} {L:List Nat} {n:Nat} (g:GI a kz L) (h:∀x,x∈L↔x < n) (h8:n<=60):zci [KD kz]=.ok (TN ((List.range n).map a)):=by
 have hl:=g.full h
 refine zaI (B:=zdm) (n:=1) ?_
 unfold zdm
 refine zav (zaD (zaX (zae (zdL (l:=List.range n) nD (fun _=>true) (fun h=>nD (a h)) (zcR (ds:=[nD n]) (zae (zaX (zae (d:=KD kz) rfl zah) (by rw [zkF,hl])) zah) (zd9 (by omega))) (by simp; omega) fun x hx=>⟨[some (nD x),some (KD kz)],rfl,rfl,fun _=>zap (a:=KD kz) (b:=nD x) rfl rfl (zs0 (zgR g.val ((g.key x).mpr ((h x).mpr (List.mem_range.mp hx)))))⟩) zah) ?_))
 rw [zeg,e_tupL]
 show some (D.tup _)=some (D.tup _)
 rw [List.map_map]; rfl
abbrev zdt (t:Nat->Nat) (h:Nat):D:=.tup [nD h,nD (t h)]
abbrev zdH (t:Nat->Nat) (ring:List Nat):D:=.tup (ring.map (zdt t))
def zeW (t:Nat->Nat):Option (List Nat)->D
 | some ring=>zdH t ring
 | none=>.non
section
variable {t f:Nat->Nat} {line:List Nat} {first:Nat} (hcl:∀h∈line,f h∈line) (hn:line.length<=60)
include hcl hn
theorem zql:∀(j:Nat) (ring:List Nat) (hand:Nat),hand∈line->ring.length<=line.length->line.length < j + ring.length ->
  ∃ring' hand',za9 q111 zdM zfg j [some (nD first),some (KD (FD line t)),some (KD (FD line f)),some (.lst (ring.map (zdt t))),some (nD hand)]=.nx [some (nD first),some (KD (FD line t)),some (KD (FD line f)),some (.lst (ring'.map (zdt t))),some (nD hand')] /\
   ∀k,line.length < k + ring.length->Rg.ziw f line.length first k ring hand=if hand'=first then some ring' else none:=by
 intro j
 induction j with
 | zero=>intro ring hand _ h1 h2; omega
 | succ j ih=>
  intro ring hand hh h1 h2
  have c1:(zaH (f2 (gv 4) (gv 0) gtI)) [some (nD first),some (KD (FD line t)),some (KD (FD line f)),some (.lst (ring.map (zdt t))),some (nD hand)]=.ok (decide (first < hand)):=
   zaF (zap (a:=nD hand) (b:=nD first) rfl rfl (znd _ _))
  have c2:(zaH (f2 (fC (zac (gv 3) lNil) lenD) (fC (zac (gv 1) lNil) lenD) ltI)) [some (nD first),some (KD (FD line t)),some (KD (FD line f)),some (.lst (ring.map (zdt t))),some (nD hand)]=.ok (decide (ring.length < line.length)):=by
   refine zaF (zap (a:=nD ring.length) (b:=nD line.length) (zaX (zae rfl zah) (zcf _ _)) (zaX (zae (d:=KD (FD line t)) rfl zah) ?_) (zox _ _))
   rw [zkF,List.length_map]
  by_cases hc:first < hand/\ring.length < line.length
  ·have cq:zdM [some (nD first),some (KD (FD line t)),some (KD (FD line f)),some (.lst (ring.map (zdt t))),some (nD hand)]=.ok true:=by
    rw [decide_eq_true hc.1] at c1
    rw [decide_eq_true hc.2] at c2
    exact (zrk c1).trans c2
   obtain ⟨ring',hand',i1,i2⟩:=ih (ring++[hand]) (f hand) (hcl hand hh) (by simp; omega) (by simp; omega)
   refine ⟨ring',hand',?_,fun k hk=>?_⟩
   ·rw [zgd cq (r':=[some (nD first),some (KD (FD line t)),some (KD (FD line f)),some (.lst ((ring++[hand]).map (zdt t))),some (nD (f hand))]) ?_]
    ·exact i1
    ·refine (zad (zeF (d:=.lst (ring.map (zdt t))) (ds:=[zdt t hand]) rfl rfl (zae (zkw (zae (d:=nD hand) rfl (zae (zap (a:=KD (FD line t)) (b:=nD hand) rfl rfl (zi4 hh)) zah)) (by simp)) zah) (zft (by simp; omega)))).trans ?_
     refine (zad (zat (d:=nD (f hand)) (zap (a:=KD (FD line f)) (b:=nD hand) rfl rfl (zi4 hh)))).trans ?_
     show Out.nx [_,_,_,some (D.lst (ring.map (zdt t)++[zdt t hand])),_]=_
     rw [List.map_append]; rfl
   ·cases k with
    | zero=>omega
    | succ k=>
     unfold Rg.ziw
     rw [if_pos hc]
     exact i2 k (by simp; omega)
  ·refine ⟨ring,hand,zge ?_,fun k hk=>?_⟩
   ·by_cases hc1:first < hand
    ·rw [decide_eq_true hc1] at c1
     rw [decide_eq_false (fun z=>hc ⟨hc1,z⟩)] at c2
     exact (zrk c1).trans c2
    ·rw [decide_eq_false hc1] at c1
     exact ztB c1
   ·cases k with
    | zero=>omega
    | succ k=>
     unfold Rg.ziw
     rw [if_neg hc]
theorem zn1 (hf:first∈line):zdS [nD first,KD (FD line t),KD (FD line f)]=.ok (zeW t (Rg.zkm f line.length first)):=by
 refine zaI (B:=zdY) (n:=5) ?_
 unfold zdY
 have hpos:=List.length_pos_of_mem hf
 obtain ⟨ring',hand',h1,h2⟩:=zql (t:=t) (first:=first) hcl hn 64 [first] (f first) (hcl first hf) (by show 1<=_; omega) (by simp; omega)
 refine (zad (zat (d:=.lst ([first].map (zdt t))) (zdu (zae (zkw (zae (d:=nD first) rfl (zae (zap (a:=KD (FD line t)) (b:=nD first) rfl rfl (zi4 hf)) zah)) (by simp)) zah) (by simp)))).trans ?_
 refine (zad (zat (d:=nD (f first)) (zap (a:=KD (FD line f)) (b:=nD first) rfl rfl (zi4 hf)))).trans ?_
 refine (zad h1).trans ?_
 have hr:Rg.zkm f line.length first=if hand'=first then some ring' else none:=h2 _ (by simp; omega)
 rw [hr]
 have c:=zaF (zap (f:=gv 4) (f':=gv 0) (r:=[some (nD first),some (KD (FD line t)),some (KD (FD line f)),some (.lst (ring'.map (zdt t))),some (nD hand')]) (a:=nD hand') (b:=nD first) rfl rfl (znn hand' first))
 by_cases e:hand'=first
 ·rw [decide_eq_true e] at c
  rw [if_pos e]
  exact zav (zaD ((zth c).trans (zaX (zae (d:=.lst (ring'.map (zdt t))) rfl zah) rfl)))
 ·rw [decide_eq_false e] at c
  rw [if_neg e]
  exact zav (zaD ((zti c).trans rfl))
end
structure Snd (rz:List (List Nat)) (oz:List (Option Nat)) (s:Rg.S):Prop where
 ok:Rg.Ok (Wr rz) (own oz) s
 inr:∀h∈s.line,h < rz.length
 ino:∀h∈s.line,h < oz.length
 wid:∀h∈s.line,(Wr rz h).length<=1000
 nl:s.line.length<=60
 nt:s.things.length<=60
section
variable {rz:List (List Nat)} {oz:List (Option Nat)} {s:Rg.S}
theorem Snd.tg (S:Snd rz oz s) {h:Nat} (hh:h∈s.line):zcb [TN (Wr rz h),LN s.things]=.ok (nD (Rg.tgt (Wr rz) s h)):=
 zkk (S.ok.some_thing hh) (S.wid h hh)
theorem Snd.pts (S:Snd rz oz s) {x h:Nat} (hh:h∈s.line):za2 [OD oz,LN s.line,nD x]=.ok (nD (Rg.pt (own oz) s x)):=
 zli S.ino (List.ne_nil_of_mem hh)
abbrev tS (rz:List (List Nat)) (s:Rg.S):Nat->Nat:=Rg.tgt (Wr rz) s
abbrev fS (rz:List (List Nat)) (oz:List (Option Nat)) (s:Rg.S):Nat->Nat:=Rg.nxt (Wr rz) (own oz) s
theorem zmf (S:Snd rz oz s):∀(suf pre:List Nat) (y:Option D),pre++suf=s.line ->
  ∃y',forF (ftN 6) zdh (suf.map nD) [some (WD rz),some (OD oz),some (LN s.line),some (LN s.things),some (KD (FD pre (tS rz s))),some (KD (FD pre (fS rz oz s))),y,none]
   = .nx [some (WD rz),some (OD oz),some (LN s.line),some (LN s.things),some (KD (FD s.line (tS rz s))),some (KD (FD s.line (fS rz oz s))),y',none]
 | [],pre,y,e=>⟨y,by rw [List.append_nil] at e; rw [e]; exact zaY⟩
 | h::suf,pre,y,e=>by
  obtain ⟨y',ih⟩:=zmf S suf (pre++[h]) (some (nD h)) (by simpa using e)
  have hh:h∈s.line:=by rw [<-e]; simp
  have hn:=S.ok.nl
  rw [<-e] at hn
  have hk:h∉pre:=fun z=>(List.nodup_append.mp hn).2.2 h z h List.mem_cons_self rfl
  have hpl:pre.length<=1000:=by
   have:=S.nl
   rw [<-e] at this; simp at this; omega
  refine ⟨y',?_⟩
  rw [<-ih]
  refine zby (r1:=[some (WD rz),some (OD oz),some (LN s.line),some (LN s.things),some (KD (FD pre (tS rz s))),some (KD (FD pre (fS rz oz s))),some (nD h),none]) rfl ?_
  have c1:stoD (KD (FD pre (tS rz s))) (nD h) (nD (tS rz s h))=some (KD (FD (pre++[h]) (tS rz s))):=by
   rw [zlW (by simpa using hpl),zko (by rw [zjW]; exact hk)]
   unfold FD; rw [List.map_append]; rfl
  have c2:stoD (KD (FD pre (fS rz oz s))) (nD h) (nD (fS rz oz s h))=some (KD (FD (pre++[h]) (fS rz oz s))):=by
   rw [zlW (by simpa using hpl),zko (by rw [zjW]; exact hk)]
   unfold FD; rw [List.map_append]; rfl
  refine (zad (put_ok (d:=KD (FD pre (tS rz s))) (k:=nD h) (v:=nD (tS rz s h)) rfl (zan (zae (zap (a:=WD rz) (b:=nD h) rfl rfl (zjO (zmh (S.inr h hh)))) (zae (d:=LN s.things) rfl zah)) (S.tg hh)) rfl c1)).trans ?_
  refine (zad (put_ok (d:=KD (FD pre (fS rz oz s))) (k:=nD h) (v:=nD (fS rz oz s h)) rfl (zan (zae (d:=OD oz) rfl (zae (d:=LN s.line) rfl (zae (zap (a:=KD (FD (pre++[h]) (tS rz s))) (b:=nD h) rfl rfl (zi4 (by simp))) zah))) (S.pts hh)) rfl c2)).trans ?_
  rfl
theorem zjT {α:Type} (t:Nat->Nat) (f:α->Option (List Nat)):∀(l:List α),(((l.map f).filter Option.isSome).map (zeW t))=(l.filterMap f).map (zdH t)
 | []=>rfl
 | a::l=>by
  rw [List.map_cons,List.filter_cons,List.filterMap_cons]
  cases e:f a with
  | none=>simpa using zjT t f l
  | some r=>simpa [zeW] using zjT t f l
theorem zjQ (t:Nat->Nat) (h:Nat):zfO (zdt t h)=some [(h:Int),(t h:Int)]:=rfl
theorem zj8 (t:Nat->Nat):∀(ring:List Nat),zg8 (ring.map (zdt t))=some (ring.map fun h:Nat=>[(h:Int),(t h:Int)])
 | []=>rfl
 | h::ring=>by
  show (zfO (zdt t h)).bind _=_
  rw [zjQ,zj8 t ring]; rfl
theorem ziE (t:Nat->Nat):∀(rs:List (List Nat)),(∀r∈rs,r≠[])->∃kss,zfK (rs.map (zdH t))=some kss
 | [],_=>⟨[],rfl⟩
 | r::rs,h=>by
  obtain ⟨kss,e⟩:=ziE t rs fun x hx=>h x (List.mem_cons_of_mem _ hx)
  have hr:=h r List.mem_cons_self
  cases r with
  | nil=>exact absurd rfl hr
  | cons a r=>
   refine ⟨((a::r).map fun h:Nat=>[(h:Int),(t h:Int)])::kss,?_⟩
   show (zg8 ((a::r).map (zdt t))).bind _=_
   rw [zj8,e]; rfl
theorem zk8 (t:Nat->Nat) (rs:List (List Nat)) (h:∀r∈rs,r≠[]) (hl:rs.length < 64):∃rs':List (List Nat),rs'.Perm rs/\znX [.lst (rs.map (zdH t))]=some (.lst (rs'.map (zdH t))):=by
 obtain ⟨kss,e⟩:=ziE t rs h
 refine ⟨(zgq (rs.map (zdH t)).length fun i j=>lexR (kss.getD i []) (kss.getD j [])).map fun i=>rs.getD i [],?_,?_⟩
 ·have:=(zfi (rs.map (zdH t)).length fun i j=>lexR (kss.getD i []) (kss.getD j [])).map fun i=>rs.getD i []
  refine this.trans ?_
  rw [List.length_map]
  have e2:(List.range rs.length).map (fun i=>rs.getD i [])=rs:=by
   refine List.ext_getElem? fun i=>?_
   rw [List.getElem?_map]
   by_cases hi:i < rs.length
   ·rw [List.getElem?_range hi]; simp [List.getElem?_eq_getElem hi]
   ·rw [List.getElem?_eq_none (by simp; omega),List.getElem?_eq_none (by omega)]; rfl
  rw [e2]
 ·show (zfK (rs.map (zdH t))).bind _=_
  rw [e]
  show (if _ then _ else _)=_
  rw [if_pos (by rw [List.length_map]; exact hl)]
  unfold ziq
  rw [List.map_map]
  congr 2
  refine List.map_congr_left fun i hi=>?_
  have hi:=zgp hi
  rw [List.length_map] at hi
  simp [List.getD,List.getElem?_eq_getElem hi]
theorem zmj {W:Nat->List Nat} {O:Nat->Option Nat}:∀r∈Rg.zgv W O s,r≠[]:=by
 intro r hr
 obtain ⟨x,_,h2⟩:=List.mem_filterMap.mp hr
 exact Rg.zmk h2
theorem zoF (t:Nat->Nat) (o:Option (List Nat)):isnD (zeW t o) .non=some (.bl o.isSome):=by cases o <;> rfl
theorem zl9 (S:Snd rz oz s):∃rs:List (List Nat),rs.Perm (Rg.zgv (Wr rz) (own oz) s)/\zbD [WD rz,OD oz,LN s.line,LN s.things]=.ok (.lst (rs.map (zdH (tS rz s)))):=by
 obtain ⟨y',hloop⟩:=zmf S s.line [] none rfl
 have hcl:∀h∈s.line,fS rz oz s h∈s.line:=fun h hh=>Rg.zh1 (List.ne_nil_of_mem hh)
 have hlen:(Rg.zgv (Wr rz) (own oz) s).length<=s.line.length:=List.length_filterMap_le _ _
 obtain ⟨rs',hp,hs⟩:=zk8 (tS rz s) (Rg.zgv (Wr rz) (own oz) s) zmj (by have:=S.nl; omega)
 refine ⟨rs',hp,zaI (B:=zbF) (n:=8) ?_⟩
 unfold zbF
 refine (zad (r':=[some (WD rz),some (OD oz),some (LN s.line),some (LN s.things),some (KD (FD [] (tS rz s))),none,none,none]) rfl).trans ?_
 refine (zad (r':=[some (WD rz),some (OD oz),some (LN s.line),some (LN s.things),some (KD (FD [] (tS rz s))),some (KD (FD [] (fS rz oz s))),none,none]) rfl).trans ?_
 refine (zad ((zaW (ds:=s.line.map nD) rfl).trans hloop)).trans ?_
 refine (zad (zat (zdL (l:=s.line) nD (fun _=>true) (fun h=>zeW (tS rz s) (Rg.zkm (fS rz oz s) s.line.length h)) rfl (by have:=S.nl; omega) fun h hh=>⟨[some (nD h),some (KD (FD s.line (tS rz s))),some (KD (FD s.line (fS rz oz s)))],rfl,rfl,fun _=>zan (zae (d:=nD h) rfl (zae (d:=KD (FD s.line (tS rz s))) rfl (zae (d:=KD (FD s.line (fS rz oz s))) rfl zah))) (zn1 hcl S.nl hh)⟩))).trans ?_
 rw [zeg]
 refine zav (zaD (zaX (zae (zdL (l:=s.line.map (Rg.zkm (fS rz oz s) s.line.length)) (zeW (tS rz s)) Option.isSome (zeW (tS rz s)) ?_ (by have:=S.nl; simp; omega) fun o _=>⟨[some (zeW (tS rz s) o)],rfl,zaF (zap (a:=zeW (tS rz s) o) (b:=.non) rfl rfl (zoF _ _)),fun _=>rfl⟩) zah) ?_))
 ·rw [List.map_map]; rfl
 ·rw [zjT]; exact hs
theorem zta {t:Nat->Nat} {line:List Nat} (hl:line.length<=60) (rg d:D):∀(ring L:List Nat) (kz:List (Nat × Nat)) (x y:Option D),GI t kz L->(∀h∈L++ring,h∈line) ->
  ∃kvs' x' y',GI t kvs' (L++ring)/\forF (ftT (zcQ (ftN 3) (zcQ (ftN 4) zi2))) zhM (ring.map (zdt t)) [some rg,some (KD kz),some d,x,y]=.nx [some rg,some (KD kvs'),some d,x',y']
 | [],L,kz,x,y,g,hs=>⟨kz,x,y,by rw [List.append_nil]; exact g,zaY⟩
 | h::ring,L,kz,x,y,g,hs=>by
  obtain ⟨kvs',x',y',g',ih⟩:=zta hl rg d ring (L++[h]) (putN kz h (t h)) (some (nD h)) (some (nD (t h))) (g.put h) (by simpa using hs)
  refine ⟨kvs',x',y',by simpa using g',?_⟩
  rw [<-ih]
  have hk:=g.len (line:=line) fun x hx=>hs x (List.mem_append_left _ hx)
  exact zby (r1:=[some rg,some (KD kz),some d,some (nD h),some (nD (t h))]) rfl (zad (put_ok (d:=KD kz) (k:=nD h) (v:=nD (t h)) rfl rfl rfl (zlW (by omega))))
theorem zpL {t:Nat->Nat} {line:List Nat} (hl:line.length<=60) (rg:D):∀(rs:List (List Nat)) (L:List Nat) (kz:List (Nat × Nat)) (z x y:Option D),GI t kz L->(∀h∈L++rs.flatten,h∈line) ->
  ∃kvs' z' x' y',GI t kvs' (L++rs.flatten)/\forF (ftN 2) zhL (rs.map (zdH t)) [some rg,some (KD kz),z,x,y]=.nx [some rg,some (KD kvs'),z',x',y']
 | [],L,kz,z,x,y,g,hs=>⟨kz,z,x,y,by simpa using g,zaY⟩
 | r::rs,L,kz,z,x,y,g,hs=>by
  obtain ⟨kvs1,x1,y1,g1,h1⟩:=zta hl rg (zdH t r) r L kz x y g fun h hh=>hs h (by
   rw [List.flatten_cons]
   rcases List.mem_append.mp hh with q | q
   ·exact List.mem_append_left _ q
   ·exact List.mem_append_right _ (List.mem_append_left _ q))
  obtain ⟨kvs',z',x',y',g',ih⟩:=zpL hl rg rs (L++r) kvs1 (some (zdH t r)) x1 y1 g1 (by rw [List.append_assoc]; simpa using hs)
  refine ⟨kvs',z',x',y',by rw [List.append_assoc] at g'; simpa using g',?_⟩
  rw [<-ih]
  exact zby (r1:=[some rg,some (KD kz),some (zdH t r),x,y]) rfl (zad ((zaW (ds:=r.map (zdt t)) rfl).trans h1))
theorem zme {t:Nat->Nat} {line:List Nat} {rs:List (List Nat)} (hl:line.length<=60) (hs:∀h∈rs.flatten,h∈line):∃kz,GI t kz rs.flatten/\zdU [.lst (rs.map (zdH t))]=.ok (KD kz):=by
 obtain ⟨kvs',z',x',y',g',h⟩:=zpL hl (.lst (rs.map (zdH t))) rs [] [] none none none ⟨by simp,fun _ hp=>(nomatch hp),fun h=>by simp⟩ (by simpa using hs)
 refine ⟨kvs',by simpa using g',zaI (B:=zgc) (n:=5) ?_⟩
 unfold zgc
 refine (zad (r':=[some (.lst (rs.map (zdH t))),some (KD []),none,none,none]) rfl).trans ?_
 refine (zad ((zaW (ds:=rs.map (zdH t)) rfl).trans h)).trans ?_
 exact zav (zaD (d:=KD kvs') rfl)
end
section
variable {rz:List (List Nat)} {oz:List (Option Nat)}
inductive Ch (rz:List (List Nat)) (oz:List (Option Nat)):Rg.S->List (List (List Nat) × Rg.S)->Prop where
 | nil {s:Rg.S}:s.line=[]->Ch rz oz s []
 | cons {s:Rg.S} {rs:List (List Nat)} {l:List (List (List Nat) × Rg.S)}:rs.Perm (Rg.zgv (Wr rz) (own oz) s)->Ch rz oz (Rg.minus (Wr rz) s rs.flatten) l->Ch rz oz s ((rs,s)::l)
abbrev zfV (rz:List (List Nat)) (p:List (List Nat) × Rg.S):D:=.lst (p.1.map (zdH (tS rz p.2)))
theorem zkq {s:Rg.S} {rs:List (List Nat)} (hp:rs.Perm (Rg.zgv (Wr rz) (own oz) s)):Rg.Cyc (Wr rz) (own oz) s rs.flatten:=
 Rg.zmi (fun h hh=>by obtain ⟨r,h1,h2⟩:=List.mem_flatten.mp hh; exact ⟨r,hp.mem_iff.mp h1,h2⟩) (fun r hr h hh=>List.mem_flatten.mpr ⟨r,hp.mem_iff.mpr hr,hh⟩)
theorem Snd.minus {s:Rg.S} (S:Snd rz oz s) {C:List Nat} (c:Rg.Cyc (Wr rz) (own oz) s C):Snd rz oz (Rg.minus (Wr rz) s C) where
 ok:=Rg.zh3 S.ok c
 inr:=fun h hh=>S.inr h (List.mem_filter.mp hh).1
 ino:=fun h hh=>S.ino h (List.mem_filter.mp hh).1
 wid:=fun h hh=>S.wid h (List.mem_filter.mp hh).1
 nl:=Nat.le_trans (List.length_filter_le _ _) S.nl
 nt:=Nat.le_trans (List.length_filter_le _ _) S.nt
theorem zkx {s:Rg.S} {C:List Nat} (c:Rg.Cyc (Wr rz) (own oz) s C) (hne:C≠[]):(Rg.minus (Wr rz) s C).line.length < s.line.length:=by
 obtain ⟨x,hx⟩:=List.exists_mem_of_ne_nil _ hne
 have:=Rg.zee (fun h=>decide (h∉C)) s.line
 have h3:0 < (s.line.filter fun h=>! decide (h∉C)).length:=List.length_pos_of_mem (List.mem_filter.mpr ⟨c.sub x hx,by simpa using hx⟩)
 show (s.line.filter _).length < _
 omega
theorem ziK {s:Rg.S} {rs:List (List Nat)} (hp:rs.Perm (Rg.zgv (Wr rz) (own oz) s)) (hne:s.line≠[]):rs.flatten≠[]:=by
 obtain ⟨x,hx⟩:=List.exists_mem_of_ne_nil _ (Rg.zne (W:=Wr rz) (O:=own oz) hne)
 obtain ⟨r,h1,h2⟩:=List.mem_flatten.mp hx
 exact List.ne_nil_of_mem (List.mem_flatten.mpr ⟨r,hp.mem_iff.mpr h1,h2⟩)
theorem zue {kz:List (Nat × Nat)} {L:List Nat} {t:Nat->Nat} (g:GI t kz L) (h:Nat):ninD (nD h) (KD kz)=some (.bl (decide (h∉L))):=by
 show (some (hasK _ (kI h))).map (fun b=>D.bl (! b))=_
 have e:hasK (kz.map fun p=>(kI p.1,nD p.2)) (kI h)=decide (h∈kz.map (·.1)):=hasN kz h
 rw [e]
 have:decide (h∈kz.map (·.1))=decide (h∈L):=by rw [decide_eq_decide]; exact g.key h
 rw [this]
 show some (D.bl (! decide (h∈L)))=_
 rw [decide_not]
theorem GI.vals {kz:List (Nat × Nat)} {L:List Nat} {t:Nat->Nat} (g:GI t kz L) (x:Nat):x∈kz.map (·.2)↔x∈L.map t:=by
 constructor
 ·intro hx
  obtain ⟨p,h1,rfl⟩:=List.mem_map.mp hx
  exact List.mem_map.mpr ⟨p.1,(g.key _).mp (List.mem_map.mpr ⟨p,h1,rfl⟩),(g.val p h1).symm⟩
 ·intro hx
  obtain ⟨h,h1,rfl⟩:=List.mem_map.mp hx
  obtain ⟨p,h2,rfl⟩:=List.mem_map.mp ((g.key h).mpr h1)
  exact List.mem_map.mpr ⟨p,h2,g.val p h2⟩
theorem zud {kz:List (Nat × Nat)} {L:List Nat} {t:Nat->Nat} (g:GI t kz L) (x:Nat):ninD (nD x) (LN (kz.map (·.2)))=some (.bl (decide (x∉L.map t))):=by
 rw [zpA,decide_not]
 congr 3
 rw [decide_eq_decide]; exact g.vals x
theorem zqm (od:D):∀(j:Nat) (s:Rg.S) (told:List D) (x y z:Option D),Snd rz oz s->s.line.length < j->told.length + s.line.length<=60 ->
  ∃(s':Rg.S) (l:List (List (List Nat) × Rg.S)) (x' y' z':Option D),Ch rz oz s l/\l.length<=s.line.length /\
   za9 q112 zhC zhK j [some (WD rz),some (OD oz),some od,some (LN s.line),some (LN s.things),some (.lst told),x,y,z]
    = .nx [some (WD rz),some (OD oz),some od,some (LN s'.line),some (LN s'.things),some (.lst (told++l.map (zfV rz))),x',y',z']:=by
 intro j
 induction j with
 | zero=>intro s told x y z _ h; omega
 | succ j ih=>
  intro s told x y z S hj ht
  by_cases hne:s.line=[]
  ·refine ⟨s,[],x,y,z,.nil hne,Nat.zero_le _,?_⟩
   rw [List.map_nil,List.append_nil]
   refine zge (zb5 (d:=LN s.line) rfl ?_)
   rw [hne]; rfl
  ·obtain ⟨rs,hp,hr⟩:=zl9 S
   have c:=zkq hp
   obtain ⟨kz,g,hg⟩:=zme (t:=tS rz s) S.nl c.sub
   have hlt:=zkx c (ziK hp hne)
   obtain ⟨s',l,x',y',z',h1,h2,h3⟩:=ih (Rg.minus (Wr rz) s rs.flatten) (told++[zfV rz (rs,s)]) (some (zfV rz (rs,s))) (some (KD kz)) (some (LN (kz.map (·.2)))) (S.minus c) (by omega) (by simp; omega)
   refine ⟨s',(rs,s)::l,x',y',z',.cons hp h1,by simp; omega,?_⟩
   rw [List.append_assoc] at h3
   rw [List.map_cons]
   refine Eq.trans (zgd (zb5 (b:=true) (d:=LN s.line) rfl ?_) ?_) h3
   ·cases q:s.line with
    | nil=>exact absurd q hne
    | cons a t=>rfl
   ·refine (zad (zat (zan (zae (d:=WD rz) rfl (zae (d:=OD oz) rfl (zae (d:=LN s.line) rfl (zae (d:=LN s.things) rfl zah)))) hr))).trans ?_
    refine (zad (zat (zan (zae (d:=.lst (rs.map (zdH (tS rz s)))) rfl zah) hg))).trans ?_
    refine (zad (zat (d:=LN (kz.map (·.2))) (zlC (a:=KD kz) rfl ?_))).trans ?_
    ·rw [e_valsD,List.map_map]; show some (D.lst _)=some (D.lst ((kz.map (·.2)).map nD)); rw [List.map_map]; rfl
    refine (zad (zat (zdL (l:=s.line) nD (fun h=>decide (h∉rs.flatten)) nD rfl (by have:=S.nl; omega) fun h hh=>⟨[some (nD h),some (KD kz)],rfl,zaF (zap (a:=nD h) (b:=KD kz) rfl rfl (zue g h)),fun _=>rfl⟩))).trans ?_
    refine (zad (zat (zdL (l:=s.things) nD (fun x=>decide (x∉rs.flatten.map (tS rz s))) nD rfl (by have:=S.nt; omega) fun h hh=>⟨[some (nD h),some (LN (kz.map (·.2)))],rfl,zaF (zap (a:=nD h) (b:=LN (kz.map (·.2))) rfl rfl (zud g h)),fun _=>rfl⟩))).trans ?_
    refine (zad (zeF (d:=.lst told) (ds:=[zfV rz (rs,s)]) rfl rfl (zae (d:=zfV rz (rs,s)) rfl zah) (zft (by omega)))).trans ?_
    rfl
def ordD:Option (List Nat)->D
 | none=>.non
 | some l=>LN l
def s0 (rz:List (List Nat)) (o:Option (List Nat)):Rg.S:=⟨o.getD (List.range rz.length),List.range (rz.headD []).length⟩
theorem zlj {o:Option (List Nat)} (ho:∀l,o=some l->l.Nodup/\(∀k∈l,k < rz.length)/\l.length=rz.length) (h8:rz.length<=60):zcG [WD rz,ordD o]=.ok (LN (s0 rz o).line):=by
 cases o with
 | none=>exact zhb (by omega)
 | some l=>
  obtain ⟨h1,h2,h3⟩:=ho l rfl
  exact zmc h1 h2 h3 (by omega)
theorem zlg {o:Option (List Nat)} (ho:∀l,o=some l->l.Nodup/\(∀k∈l,k < rz.length)/\l.length=rz.length) (hr:rz≠[]) (h8:rz.length<=60) (S:Snd rz oz (s0 rz o)) :
  ∃l,Ch rz oz (s0 rz o) l/\l.length<=60/\zfh [WD rz,OD oz,ordD o]=.ok (.lst (l.map (zfV rz))):=by
 obtain ⟨s',l,x',y',z',h1,h2,h3⟩:=zqm (rz:=rz) (oz:=oz) (ordD o) 64 (s0 rz o) [] none none none S (by have:=S.nl; omega) (by have:=S.nl; simp; omega)
 refine ⟨l,h1,by have:=S.nl; omega,zaI (B:=zgb) (n:=9) ?_⟩
 unfold zgb
 cases rz with
 | nil=>exact absurd rfl hr
 | cons row rest=>
  refine (zad (zat (zan (zae (d:=WD (row::rest)) rfl (zae (d:=ordD o) rfl zah)) (zlj ho h8)))).trans ?_
  refine (zad (zat (d:=LN (s0 (row::rest) o).things) (zaX (zae (zan (zae (d:=WD (row::rest)) rfl zah) zhj) zah) (zh4 (by have:=S.nt; unfold s0 at this; simp at this; omega))))).trans ?_
  refine (zad (zat (d:=.lst []) (zdu zah (by simp)))).trans ?_
  refine (zad h3).trans ?_
  exact zav (zaD (d:=.lst (l.map (zfV (row::rest)))) rfl)
theorem zmQ:∀(more kz:List (Nat × Nat)),ziT (kz.map fun p=>(kI p.1,nD p.2)) (more.map fun p=>(kI p.1,nD p.2))=(more.foldl (fun acc p=>putN acc p.1 p.2) kz).map fun p=>(kI p.1,nD p.2)
 | [],kz=>rfl
 | p::more,kz=>by
  have ih:=zmQ more (putN kz p.1 p.2)
  rw [List.foldl_cons,<-ih,<-zpj]; rfl
theorem zky {t:Nat->Nat}:∀(more kz:List (Nat × Nat)) (L:List Nat),GI t kz L->(∀p∈more,p.2=t p.1)->GI t (more.foldl (fun acc p=>putN acc p.1 p.2) kz) (L++more.map (·.1))
 | [],kz,L,g,_=>by simpa using g
 | p::more,kz,L,g,h=>by
  have:=zky more (putN kz p.1 p.2) (L++[p.1]) (by rw [h p List.mem_cons_self]; exact g.put p.1) fun q hq=>h q (List.mem_cons_of_mem _ hq)
  rw [List.append_assoc] at this
  exact this
theorem znG {a:Nat->Nat} {line:List Nat} (hl:line.length<=60) (od:D):∀(l:List (List (List Nat) × Rg.S)) (L:List Nat) (kz:List (Nat × Nat)) (z:Option D),GI a kz L->(∀h∈L,h∈line) ->
  (∀p∈l,∀h∈p.1.flatten,a h=tS rz p.2 h/\h∈line) ->
  ∃kvs' z',GI a kvs' (L++l.flatMap fun p=>p.1.flatten)/\forF (ftN 4) zfT (l.map (zfV rz)) [some (WD rz),some (OD oz),some od,some (KD kz),z]=.nx [some (WD rz),some (OD oz),some od,some (KD kvs'),z']
 | [],L,kz,z,g,_,_=>⟨kz,z,by simpa using g,zaY⟩
 | p::l,L,kz,z,g,hL,hp=>by
  have h0:=hp p List.mem_cons_self
  obtain ⟨more,g1,hg⟩:=zme (t:=tS rz p.2) (rs:=p.1) hl fun h hh=>(h0 h hh).2
  have g2:=g1.congr (t':=a) fun x hx=>(h0 x hx).1
  have g3:=(zky more kz L g g2.val).mem (M:=L++p.1.flatten) fun x=>by rw [List.mem_append,List.mem_append,g2.key]
  obtain ⟨kvs',z',g',ih⟩:=znG hl od l (L++p.1.flatten) _ (some (zfV rz p)) g3 (fun h hh=>by
   rcases List.mem_append.mp hh with q | q
   ·exact hL h q
   ·exact (h0 h q).2) fun q hq=>hp q (List.mem_cons_of_mem _ hq)
  refine ⟨kvs',z',by rw [List.append_assoc] at g'; simpa using g',?_⟩
  rw [<-ih]
  refine zby (r1:=[some (WD rz),some (OD oz),some od,some (KD kz),some (zfV rz p)]) rfl (zad (zeF (d:=KD kz) (ds:=[KD more]) rfl rfl (zae (zan (zae (d:=zfV rz p) rfl zah) hg) zah) ?_))
  have l1:=g.len hL
  have l2:=g1.len (line:=line) fun h hh=>(h0 h hh).2
  show (if _ then some (D.dic (ziT _ _)) else none)=_
  rw [if_pos (by rw [List.length_map,List.length_map,sizeLine_eq]; omega),zmQ]
theorem zrh {a:Nat->Nat} {s:Rg.S} {l:List (List (List Nat) × Rg.S)} (c:Ch rz oz s l):Rg.Ok (Wr rz) (own oz) s->Rg.TTC (Wr rz) (own oz) a s->(∀p∈l,∀h∈p.1.flatten,a h=tS rz p.2 h/\h∈s.line)/\∀h∈s.line,∃p∈l,h∈p.1.flatten:=by
 induction c with
 | nil h0=>exact fun _ _=>⟨fun _ hp=>(nomatch hp),fun h hh=>by rw [h0] at hh; cases hh⟩
 | @cons s rs l hp c ih=>
  intro k t
  have cy:=zkq hp
  obtain ⟨t1,t2⟩:=Rg.ztH t k cy
  obtain ⟨i1,i2⟩:=ih (Rg.zh3 k cy) t1
  refine ⟨fun p hp' h hh=>?_,fun h hh=>?_⟩
  ·rcases List.mem_cons.mp hp' with rfl | q
   ·exact ⟨t2 h hh,cy.sub h hh⟩
   ·exact ⟨(i1 p q h hh).1,(List.mem_filter.mp (i1 p q h hh).2).1⟩
  ·by_cases hc:h∈rs.flatten
   ·exact ⟨(rs,s),List.mem_cons_self,hc⟩
   ·obtain ⟨p,h1,h2⟩:=i2 h (List.mem_filter.mpr ⟨hh,by simpa using hc⟩)
    exact ⟨p,List.mem_cons_of_mem _ h1,h2⟩
theorem ziD {o:Option (List Nat)} {a:Nat->Nat} (ho:∀l,o=some l->l.Nodup/\(∀k∈l,k < rz.length)/\l.length=rz.length) (hr:rz≠[]) (h8:rz.length<=60) (S:Snd rz oz (s0 rz o))
  (hall:∀h,h < rz.length->h∈(s0 rz o).line) (t:Rg.TTC (Wr rz) (own oz) a (s0 rz o)) :
  zcH [WD rz,OD oz,ordD o]=.ok (TN ((List.range rz.length).map a)):=by
 obtain ⟨l,hc,hl,hrun⟩:=zlg ho hr h8 S
 obtain ⟨c1,c2⟩:=zrh hc S.ok t
 obtain ⟨kvs',z',g,hloop⟩:=znG (rz:=rz) (oz:=oz) (a:=a) S.nl (ordD o) l [] [] none ⟨by simp,fun _ hp=>(nomatch hp),fun h=>by simp⟩ (fun _ hh=>(nomatch hh)) c1
 refine zaI (B:=zdD) (n:=5) ?_
 unfold zdD
 refine (zad (r':=[some (WD rz),some (OD oz),some (ordD o),some (KD []),none]) rfl).trans ?_
 refine (zad ((zaW (ds:=l.map (zfV rz)) (zfH (zan (zae (d:=WD rz) rfl (zae (d:=OD oz) rfl (zae (d:=ordD o) rfl zah))) hrun) rfl)).trans hloop)).trans ?_
 refine zav (zaD (zan (zae (d:=KD kvs') rfl zah) (zhc g (n:=rz.length) (fun x=>?_) h8)))
 rw [List.nil_append,List.mem_flatMap]
 constructor
 ·rintro ⟨p,h1,h2⟩
  exact S.inr x (c1 p h1 x h2).2
 ·intro hx
  obtain ⟨p,h1,h2⟩:=c2 x (hall x hx)
  exact ⟨p,h1,h2⟩
end
theorem zpB {a b:Nat} (h:0 < b):modI (nD a) (nD b)=some (nD (a % b)):=by
 rw [zjI (by omega:(0:Int) < (b:Int))]
 show some (D.int _)=some (D.int _)
 rw [Int.natCast_emod]
theorem zq9 {a b:Nat} (h:0 < b) (h2:b < 1000):znl (nD a) (nD b)=some (nD (a / b)):=by
 rw [zoN (⟨by omega,by omega⟩:CDiv (a:Int) (b:Int))]
 show some (D.int _)=some (D.int _)
 rw [Int.natCast_ediv]
theorem zhB (a b:Nat):addA (nD a) (nD b)=some (nD (a + b)):=by
 rw [addA_int]
 show some (D.int _)=some (D.int _)
 rw [Int.natCast_add]
section
variable {f f':FE} {r:Rho}
theorem zlD {b:Int} (h:∃i:Int,f r=.ok (.int i)) (h':f' r=.ok (.int b)) (hb:0 < b):∃c:Nat,f2 f f' modI r=.ok (nD c):=by
 obtain ⟨i,hi⟩:=h
 refine ⟨(i % b).toNat,zap hi h' ?_⟩
 rw [zjI hb]
 show some (D.int _)=some (D.int _)
 rw [Int.toNat_of_nonneg (Int.emod_nonneg _ (by omega))]
theorem exN (h:∃c:Nat,f r=.ok (nD c)):∃i:Int,f r=.ok (.int i):=let ⟨c,e⟩:=h; ⟨c,e⟩
theorem zgV {b:Int} (h:∃i:Int,f r=.ok (.int i)) (h':f' r=.ok (.int b)) (hb : -(2 ^ 64) < b/\b < 2 ^ 64):∃i:Int,f2 f f' mulI r=.ok (.int i):=by
 obtain ⟨i,hi⟩:=h
 exact ⟨i * b,zap hi h' (zqS (.inr hb))⟩
theorem zoP (h:∃i:Int,f r=.ok (.int i)) (h':∃i:Int,f' r=.ok (.int i)):∃i:Int,f2 f f' addA r=.ok (.int i):=by
 obtain ⟨i,hi⟩:=h
 obtain ⟨j,hj⟩:=h'
 exact ⟨i + j,zap hi hj rfl⟩
end
theorem ztj {m:List Md} {i:Nat} {f:FE} {s2:FS} {r:Rho} (h:∃c:Nat,f r=.ok (nD c)) (k:∀c:Nat,∃d:Nat,s2 (r.set i (some (nD c)))=.rt (nD d)):∃d:Nat,seqF (setF m i f) s2 r=.rt (nD d):=by
 obtain ⟨c,hc⟩:=h
 obtain ⟨d,hd⟩:=k c
 exact ⟨d,(zad (zat hc)).trans hd⟩
abbrev IN (ns:List Int):D:=.lst (ns.map .int)
theorem zkj (ns:List Int) (k:Nat) (hk:k<=1000):∃c:Nat,zbI [IN ns,nD k]=.ok (nD c):=by
 suffices h:∃c:Nat,zc2 (zao 4 [IN ns,nD k])=.rt (nD c) by
  obtain ⟨c,hc⟩:=h
  exact ⟨c,zaI (B:=zc2) (n:=4) hc⟩
 unfold zc2
 have st:seqF (setF q103 2 (ci 0))=seqF (setF q103 2 (fun _=>Res.ok (nD 0))):=rfl
 rw [st]
 refine ztj ⟨0,rfl⟩ fun c1=>?_
 show ∃d:Nat,seqF _ _ [some (IN ns),some (nD k),some (nD c1),none]=_
 have key:∃c2:Nat,(ifF q103 (zaH (f2 (gv 1) (fC (zac (gv 0) lNil) lenD) ltI)) (seqF (setF q103 2 (f2 (f2 (gv 0) (gv 1) ixA) (f2 (ci 10) (ci 60) powI) modI)) zak) zak) [some (IN ns),some (nD k),some (nD c1),none]=.nx [some (IN ns),some (nD k),some (nD c2),none]:=by
  have t:=zaF (zap (f:=gv 1) (r:=[some (IN ns),some (nD k),some (nD c1),none]) (a:=nD k) rfl (zaX (zae (f:=gv 0) (d:=IN ns) rfl zah) (zcf _ _)) (zox k ns.length))
  by_cases hlt:k < ns.length
  ·rw [decide_eq_true hlt] at t
   have hx:(ns.map D.int)[k]? = some (.int ns[k]):=by rw [List.getElem?_map,List.getElem?_eq_getElem hlt]; rfl
   have hp:powI (.int 10) (.int 60)=some (.int (10 ^ 60)):=by
    show zh9 CPow _ _ _=_
    rw [intsC_int,if_pos (by unfold CPow; decide)]
    rfl
   obtain ⟨c2,h2⟩:=zlD (f:=f2 (gv 0) (gv 1) ixA) (f':=f2 (ci 10) (ci 60) powI) (r:=[some (IN ns),some (nD k),some (nD c1),none]) ⟨ns[k],zap (a:=IN ns) (b:=nD k) rfl rfl (zoE hx)⟩ (zap rfl rfl hp) (by decide)
   exact ⟨c2,(if_t t).trans ((zad (zat h2)).trans rfl)⟩
  ·rw [decide_eq_false hlt] at t
   exact ⟨c1,(if_f t).trans rfl⟩
 obtain ⟨c2,h2⟩:=key
 rw [zad h2]
 have kq:∃b,(fAnd (zaH (f2 (fC (zac (gv 0) lNil) lenD) (ci 0) gtI)) (zaH (f2 (f2 (f2 (gv 0) (ci 0) ixA) (ci 2) modI) (ci 0) eqD))) [some (IN ns),some (nD k),some (nD c2),none]=.ok b:=by
  have t:=zaF (zap (f:=fC (zac (gv 0) lNil) lenD) (f':=fun _=>Res.ok (D.int 0)) (r:=[some (IN ns),some (nD k),some (nD c2),none]) (b:=nD 0) (zaX (zae (d:=IN ns) rfl zah) (zcf _ _)) rfl (znd ns.length 0))
  cases ns with
  | nil=>exact ⟨false,ztB t⟩
  | cons a ns=>
   rw [decide_eq_true (by simp)] at t
   obtain ⟨c3,h3⟩:=zlD (f:=f2 (gv 0) (ci 0) ixA) (f':=fun _=>Res.ok (D.int 2)) (r:=[some (IN (a::ns)),some (nD k),some (nD c2),none]) ⟨a,zap (a:=IN (a::ns)) (b:=.int 0) rfl rfl (ixA_L0 _ _)⟩ rfl (by decide)
   exact ⟨_,(zrk t).trans (zaF (zap h3 (b:=nD 0) rfl (znn c3 0)))⟩
 obtain ⟨b,hb⟩:=kq
 cases b with
 | true=>exact ⟨c2,zav ((if_t hb).trans (zav (zaD (d:=nD c2) rfl)))⟩
 | false=>
  rw [zad ((if_f (s2:=zak) hb).trans (e_skip _))]
  refine ztj (zlD (zgV (exN (zlD (zgV (zoP (zoP (zoP ⟨(c2:Int),rfl⟩ (zgV (b:=(k:Int)) (zgV (b:=(k:Int)) ⟨7,rfl⟩ rfl (by omega)) rfl (by omega))) (zgV (b:=(k:Int)) ⟨13,rfl⟩ rfl (by omega))) ⟨5,rfl⟩) rfl (by decide)) rfl (by decide))) rfl (by decide)) rfl (by decide)) fun c3=>?_
  obtain ⟨c4,h4⟩:=zlD (f:=(f2 (f2 (f2 (f2 (gv 3) (ci 1) addA) (ci 40692) mulI) (ci 2147483629) modI) (ci 39373) mulI)) (f':=fun _=>Res.ok (D.int 999999937)) (r:=[some (IN ns),some (nD k),some (nD c2),some (nD c3)]) (zgV (exN (zlD (zgV (zoP ⟨(c3:Int),rfl⟩ ⟨1,rfl⟩) rfl (by decide)) rfl (by decide))) rfl (by decide)) rfl (by decide)
  exact ⟨c4,zav (zaD h4)⟩
theorem zoG {row:List Nat} {i:Int} {x:Nat}:insL (row.map nD) i (nD x)=(insL row i x).map nD:=by
 unfold insL
 rw [List.length_map,List.map_append,List.map_cons,List.map_take,List.map_drop]
theorem zm8 {row:List Nat} {i:Int} {x:Nat}:(insL row i x).Perm (x::row):=by
 unfold insL
 refine List.perm_middle.trans ?_
 rw [List.take_append_drop]
theorem zkl (m:Nat):∀(j i c:Nat) (row:List Nat) (x:Option D),row.Perm (List.range i)->i + j<=60 ->
  ∃(c':Nat) (row':List Nat) (x':Option D),row'.Perm (List.range (i + j))/\forF (ftN 3) zfU ((List.range' i j).map nD) [some (nD c),some (nD m),some (LN row),x]=.nx [some (nD c'),some (nD m),some (LN row'),x']
 | 0,i,c,row,x,hp,_=>⟨c,row,x,hp,zaY⟩
 | j + 1,i,c,row,x,hp,hl=>by
  have hlen:row.length=i:=by rw [hp.length_eq]; simp
  obtain ⟨c',row',x',h1,h2⟩:=zkl m j (i + 1) (c / (i + 1)) (insL row ((c % (i + 1):Nat):Int) i) (some (nD i)) (by
   refine zm8.trans ?_
   rw [List.range_succ]
   exact (List.Perm.cons i hp).trans (List.perm_append_singleton i _).symm) (by omega)
  refine ⟨c',row',x',by rw [show i + (j + 1)=i + 1 + j by omega]; exact h1,?_⟩
  rw [<-h2]
  have hmod:c % (i + 1) < i + 1:=Nat.mod_lt _ (by omega)
  refine zby (r1:=[some (nD c),some (nD m),some (LN row),some (nD i)]) rfl ?_
  refine (zad (zeF (d:=LN row) (ds:=[nD (c % (i + 1)),nD i]) (d':=LN (insL row ((c % (i + 1):Nat):Int) i)) rfl rfl (zae (zap (a:=nD c) (b:=nD (i + 1)) rfl (zap (a:=nD i) (b:=nD 1) rfl rfl (zhB i 1)) (zpB (by omega))) (zae (d:=nD i) rfl zah)) ?_)).trans ?_
  ·show (if _ then some (D.lst (insL _ _ _)) else none)=_
   rw [if_pos ⟨by rw [List.length_map,sizeLine_eq]; omega,by omega,by omega⟩,zoG]
  ·exact zad (zat (d:=nD (c / (i + 1))) (zap (a:=nD c) (b:=nD (i + 1)) rfl (zap (a:=nD i) (b:=nD 1) rfl rfl (zhB i 1)) (zq9 (by omega) (by omega))))
theorem zqd (c m:Nat) (hm:m<=60):∃row:List Nat,row.Perm (List.range m)/\zdB [nD c,nD m]=.ok (TN row):=by
 obtain ⟨c',row',x',h1,h2⟩:=zkl m m 0 c [] none (by simp) (by omega)
 rw [Nat.zero_add] at h1
 rw [<-List.range_eq_range'] at h2
 refine ⟨row',h1,zaI (B:=zes) (n:=4) ?_⟩
 unfold zes
 refine (zad (zat (d:=LN []) (zdu zah (by simp)))).trans ?_
 refine (zad ((zaW (ds:=(List.range m).map nD) (zcR (zae (d:=nD m) rfl zah) (zd9 (by omega)))).trans h2)).trans ?_
 exact zav (zaD (zaX (zae (d:=LN row') rfl zah) rfl))
theorem zld (ns:List Int) (at' n m:Nat) (ha:at'<=60) (hn:n<=60) (hm:m<=60):∃rz:List (List Nat),rz.length=n/\(∀row∈rz,row.Perm (List.range m))/\zcB [IN ns,nD at',nD n,nD m]=.ok (WD rz):=by
 have h:∀h:Nat,∃row:List Nat,h<=60->row.Perm (List.range m)/\∃c:Nat,zbI [IN ns,nD (at' + h)]=.ok (nD c)/\zdB [nD c,nD m]=.ok (TN row):=by
  intro h
  by_cases hh:h<=60
  ·obtain ⟨c,hc⟩:=zkj ns (at' + h) (by omega)
   obtain ⟨row,h1,h2⟩:=zqd c m hm
   exact ⟨row,fun _=>⟨h1,c,hc,h2⟩⟩
  ·exact ⟨[],fun z=>absurd z hh⟩
 obtain ⟨g,hg⟩:=Classical.axiomOfChoice h
 refine ⟨(List.range n).map g,by simp,fun row hr=>?_,zaI (B:=zcD) (n:=4) ?_⟩
 ·obtain ⟨i,hi,rfl⟩:=List.mem_map.mp hr
  exact (hg i (by have:=List.mem_range.mp hi; omega)).1
 ·unfold zcD
  refine zav (zaD (zaX (zae (zdL (l:=List.range n) nD (fun _=>true) (fun h=>TN (g h)) (zcR (zae (d:=nD n) rfl zah) (zd9 (by omega))) (by simp; omega) fun h hh=>⟨[some (nD h),some (nD m),some (IN ns),some (nD at')],rfl,rfl,fun _=>?_⟩) zah) ?_))
  ·obtain ⟨_,c,h1,h2⟩:=hg h (by have:=List.mem_range.mp hh; omega)
   exact zan (zae (zan (zae (d:=IN ns) rfl (zae (zap (a:=nD at') (b:=nD h) rfl rfl (zhB at' h)) zah)) h1) (zae (d:=nD m) rfl zah)) h2
  ·rw [zeg,e_tupL]
   show some (D.tup _)=some (D.tup _)
   rw [List.map_map]; rfl
end Law
namespace Law
open PySem PyProof.Rows L2 DL
theorem ztl (a b:Nat):eqs (nD a) (nD b)=decide (a=b):=by
 show (((a:Nat):Int) == (b:Int))=_
 rw [Bool.eq_iff_iff,beq_iff_eq,decide_eq_true_iff]; exact Int.ofNat_inj
theorem zjU (k:Nat):∀l:List Nat,k∈l->zfr (nD k) (l.map nD)=some (l.idxOf k)
 | [],h=>by cases h
 | a::l,h=>by
  show (if eqs (nD a) (nD k)=true then some 0 else (zfr (nD k) (l.map nD)).map (· + 1))=_
  rw [ztl]
  by_cases e:a=k
  ·rw [if_pos (by simpa using e)]; subst e; simp
  ·rw [if_neg (by simpa using e),zjU k l ((List.mem_cons.mp h).resolve_left fun z=>e z.symm)]
   have hf:(a == k)=false:=by simpa using e
   rw [List.idxOf_cons,hf]; rfl
theorem znm (k:Nat):∀l:List Nat,(l.map nD).eraseIdx (l.idxOf k)=(l.erase k).map nD
 | []=>rfl
 | a::l=>by
  by_cases e:a=k
  ·subst e; simp
  ·rw [List.idxOf_cons,List.erase_cons_tail (by simpa using e)]
   have:(a == k)=false:=by simpa using e
   rw [this]
   show nD a::(l.map nD).eraseIdx (l.idxOf k)=_
   rw [znm k l]; rfl
theorem zpg {k:Nat} {l:List Nat} (h:k∈l):remD (LN l) [nD k]=some (LN (l.erase k)):=by
 show (if (l.map nD).all isInt=true then (zfr (nD k) (l.map nD)).map fun j=>D.lst ((l.map nD).eraseIdx j) else none)=_
 rw [if_pos (by rw [List.all_eq_true]; intro x hx; obtain ⟨y,_,rfl⟩:=List.mem_map.mp hx; rfl),zjU k l h]
 show some (D.lst _)=some (D.lst _)
 rw [znm]
theorem ztg {T:String} {fo:FE} {fl:Rho->Res (List D)} {k:D->List D->Option D} {r:Rho} {d d':D} {ds:List D} (h1:fo r=.ok d) (ht:tyM T d=true) (h2:fl r=.ok ds) (h3:k d ds=some d'):fM T fo fl k r=.ok d':=by
 unfold fM; rw [h1,bind_ok,if_pos ht,h2,bind_ok,h3]; rfl
theorem zoH {k:Nat} {l:List Nat} (h:k∈l):zgP (LN l) [nD k]=some (nD (l.idxOf k)):=by
 show (if zbm (nD k)=true/\(l.map nD).all zbm=true then (zfr (nD k) (l.map nD)).map fun j=>D.int j else none)=_
 rw [if_pos ⟨rfl,zoM l⟩,zjU k l h]; rfl
theorem zjt {l:List Nat} {i:Nat} (h:i<=l.length):slD (LN l) (some (i:Int)) none=some (LN (l.drop i)):=by
 show some (D.lst (cutL (l.map nD) (some (i:Int)) none))=_
 unfold cutL
 rw [HT.sIx_nat,HT.sIx_none,List.length_map,Nat.min_eq_left h]
 rw [List.take_of_length_le (by simp)]
 show some (D.lst _)=some (D.lst ((l.drop i).map nD))
 rw [List.map_drop]
theorem zgy {f:FE} {r:Rho} {i:Int} (h:f r=.ok (.int i)):zhf f r=.ok (some i):=by unfold zhf; rw [h]; rfl
theorem zlZ {fa:FE} {fl fh:FP} {r:Rho} {d d':D} {lo hi:Option Int} (h1:fa r=.ok d) (h2:fl r=.ok lo) (h3:fh r=.ok hi) (h4:slD d lo hi=some d'):fSl fa fl fh r=.ok d':=by
 unfold fSl; rw [h1,bind_ok,h2,bind_ok,h3,bind_ok,h4]; rfl
theorem zdc {nl:Nat} {cap:List Nat} {fi:FI} {ft:FT} {fe:FE} {r:Rho} {α:Type} {l:List α} (e:α->D) (g:α->D) (h1:fi r=.ok (l.map e)) (hl:l.length<=1000)
  (h:∀a∈l,∃r1,ft (e a) (capR nl cap r)=some r1/\fe r1=.ok (g a)):zbz nl cap fi ft (fun _=>Res.ok true) fe r=.ok (.lst (l.map g)):=by
 have:=zdL (q:=fun _=>Res.ok true) e (fun _=>true) g h1 hl fun a ha=>by
  obtain ⟨r1,q1,q2⟩:=h a ha
  exact ⟨r1,q1,rfl,fun _=>q2⟩
 rw [this,zeg]
theorem zmU (row things:List Nat) (fst:D):∀(l:List Nat) (y:Option D),
  (match l.find? (fun h=>decide (h∈things)) with
   | some h=>forF (ftN 2) zbX (l.map nD) [some fst,some (LN things),y]=.rt (nD h)
   | none=>∃y',forF (ftN 2) zbX (l.map nD) [some fst,some (LN things),y]=.nx [some fst,some (LN things),y'])
 | [],y=>⟨y,zaY⟩
 | h::l,y=>by
  have c:(zaH (f2 (gv 2) (gv 1) inD)) [some fst,some (LN things),some (nD h)]=.ok (decide (h∈things)):=zaF (zap (a:=nD h) (b:=LN things) rfl rfl (zs6 _ _))
  rw [List.find?_cons]
  cases e:decide (h∈things) with
  | true=>
   rw [e] at c
   refine zpN (r1:=[some fst,some (LN things),some (nD h)]) rfl ?_
   exact zav ((if_t c).trans (zav (zaD (d:=nD h) rfl)))
  | false=>
   rw [e] at c
   have ih:=zmU row things fst l (some (nD h))
   have st:forF (ftN 2) zbX ((h::l).map nD) [some fst,some (LN things),y]=forF (ftN 2) zbX (l.map nD) [some fst,some (LN things),some (nD h)]:=
    zby (r1:=[some fst,some (LN things),some (nD h)]) rfl ((zad (if_f c)).trans rfl)
   rw [st]
   exact ih
theorem ziy {row things:List Nat} (h:∃x∈row,x∈things):zc1 [TN row,LN things]=.ok (nD (Rg.best row things)):=by
 refine zaI (B:=zd1) (n:=3) ?_
 unfold zd1
 have hl:=zmU row things (TN row) row none
 unfold Rg.best
 cases e:row.find? fun x=>decide (x∈things) with
 | none=>
  obtain ⟨x,h1,h2⟩:=h
  have:=List.find?_eq_none.mp e x h1
  simp [h2] at this
 | some k=>
  rw [e] at hl
  exact zav ((zaW (ds:=row.map nD) rfl).trans hl)
end Law
section
set_option exponentiation.threshold 3000
namespace Law
open PySem PyProof.Rows L2 DL Fq
abbrev FR (x:Int × Nat):D:=.tup [.int x.1,nD x.2]
abbrev TF (l:List (Int × Nat)):D:=.tup (l.map FR)
theorem zri:BIG=2 ^ 2000:=rfl
theorem zsG {a k:Nat} (h:a < 2 ^ k) (hk:k<=2000):a < BIG:=by
 rw [zri]; exact Nat.lt_of_lt_of_le h (Nat.pow_le_pow_right (by omega) hk)
theorem zf7 {a:Int} {b k:Nat} (h0:0 < b) (h1:b < 2 ^ k) (hk:k<=2000):zjV (.int a) (nD b)=some (.int (a / (b:Int))):=by
 rw [zjV,intsC_int,if_pos ⟨by omega,by rw [Int.natAbs_natCast]; exact zsG h1 hk⟩]
theorem zsF (b:Nat):neD (nD b) (.int 0)=some (.bl (! decide (b=0))):=zot b 0
theorem zoL {m:List Md}:∀(k n:Nat) (a:Int) (b:Nat) (x:Option D),b < 2 ^ k->2 * k + 1<=n ->
  ∃(a':Int) (y:Option D),za9 m zbn zbo n [some (.int a),some (nD b),x]=.nx [some (.int a'),some (nD 0),y]/\a'.natAbs=Int.gcd a b:=by
 have z0:∀(n:Nat) (a:Int) (x:Option D),1<=n->∃(a':Int) (y:Option D),za9 m zbn zbo n [some (.int a),some (nD 0),x]=.nx [some (.int a'),some (nD 0),y]/\a'.natAbs=Int.gcd a 0:=by
  intro n a x hn
  obtain ⟨n,rfl⟩:∃k,n=k + 1:=⟨n - 1,by omega⟩
  exact ⟨a,x,zge (zaF (zap (a:=nD 0) (b:=.int 0) rfl rfl (zsF 0))),by simp⟩
 have st:∀(n:Nat) (a:Int) (b:Nat) (x:Option D),0 < b->za9 m zbn zbo (n + 1) [some (.int a),some (nD b),x]=za9 m zbn zbo n [some (nD b),some (nD (a % (b:Int)).toNat),some (nD (a % (b:Int)).toNat)]:=by
  intro n a b x hb
  have hne:=zsF b
  rw [decide_eq_false (by omega)] at hne
  refine zgd (zaF (zap (a:=nD b) (b:=.int 0) rfl rfl hne)) ?_
  refine (zad (zat (d:=nD (a % (b:Int)).toNat) (zap (a:=.int a) (b:=nD b) rfl rfl ?_))).trans ?_
  ·rw [zjI (by omega)]
   show some (D.int _)=some (D.int _)
   rw [Int.toNat_of_nonneg (Int.emod_nonneg _ (by omega))]
  refine (zad (zat (d:=nD b) rfl)).trans ?_
  exact zad (zat (d:=nD (a % (b:Int)).toNat) rfl)
 have hr:∀(a:Int) (b:Nat),0 < b->(((a % (b:Int)).toNat:Nat):Int)=a % (b:Int)/\(a % (b:Int)).toNat < b:=by
  intro a b hb
  have h1:=Int.emod_nonneg a (show (b:Int)≠0 by omega)
  have h2:=Int.emod_lt_of_pos a (show (0:Int) < b by omega)
  exact ⟨Int.toNat_of_nonneg h1,by omega⟩
 intro k
 induction k with
 | zero=>
  intro n a b x hb hn
  have:b=0:=by
   have:(2:Nat) ^ 0=1:=rfl
   omega
  subst this
  exact z0 n a x (by omega)
 | succ k ih=>
  intro n a b x hb hn
  by_cases h0:b=0
  ·subst h0; exact z0 n a x (by omega)
  ·have hbp:0 < b:=by omega
   obtain ⟨n,rfl⟩:∃j,n=j + 2:=⟨n - 2,by omega⟩
   obtain ⟨r1,r2⟩:=hr a b hbp
   have e1:=st (n + 1) a b x hbp
   generalize (a % (b:Int)).toNat=r at r1 r2 e1
   rw [e1,zkL a b,<-r1]
   by_cases hz:r=0
   ·subst hz
    exact z0 (n + 1) b _ (by omega)
   ·obtain ⟨s1,s2⟩:=hr (b:Int) r (by omega)
    have e2:=st n (b:Int) r (some (nD r)) (by omega)
    have hs:((b:Int) % (r:Int)).toNat=b % r:=by omega
    rw [hs] at s1 s2 e2
    rw [e2,zkL (b:Int) r,<-s1]
    refine ih n (r:Int) (b % r) _ ?_ (by omega)
    have h3:b % r < r:=Nat.mod_lt _ (by omega)
    have h4:b % r<=b - r:=by
     have:=Nat.mod_eq_sub_mod (show r<=b by omega)
     rw [this]; exact Nat.mod_le _ _
    rw [Nat.pow_succ] at hb
    omega
theorem zfl {a:Int} {b k:Nat} (hb:b < 2 ^ k) (hk:k<=499):zbq [.int a,nD b]=.ok (nD (Int.gcd a b)):=by
 obtain ⟨a',y,h1,h2⟩:=zoL (m:=q101) k 1000 a b none hb (by omega)
 refine zaI (B:=zcE) (n:=3) ?_
 unfold zcE
 refine (zad h1).trans (zav (zaD (zaX (zae (d:=.int a') rfl zah) ?_)))
 show some (D.int (if a' < 0 then -a' else a'))=some (D.int _)
 rw [<-h2]
 split <;> congr 2 <;> omega
theorem zqe {t:Int} {b k:Nat} (h0:0 < b) (hb:b < 2 ^ k) (hk:k<=499):zdC [.int t,nD b]=.ok (FR (low t b)):=by
 refine zaI (B:=zet) (n:=3) ?_
 unfold zet
 have hg:=zia t h0
 have hgb:Int.gcd t b < 2 ^ k:=by
  have h1:Int.gcd t b ∣ b:=Int.natCast_dvd_natCast.mp (Int.gcd_dvd_right t b)
  have:=Nat.le_of_dvd h0 h1
  omega
 refine (zad (zat (zan (zae (d:=.int t) rfl (zae (d:=nD b) rfl zah)) (zfl hb hk)))).trans ?_
 refine zav (zaD (zkw (zae (zap (a:=.int t) (b:=nD (Int.gcd t b)) rfl rfl (zf7 hg hgb (by omega))) (zae (zap (a:=nD b) (b:=nD (Int.gcd t b)) rfl rfl (zf7 hg hgb (by omega))) zah)) (by simp)))
theorem zsX (x:Int × Nat):ixA (FR x) (.int 0)=some (.int x.1):=rfl
theorem zpF (x:Int × Nat):ixA (FR x) (.int 1)=some (nD x.2):=zjO (i:=1) rfl
section
variable {k l:Nat} {a b:Int × Nat}
theorem zn3 (ha:Bd k a) (hc:Int.gcd a.1 (a.2:Nat)=1) (hk:k<=499):zbf [FR a]=.ok (.bl true):=by
 refine zaI (B:=zbh) (n:=2) ?_
 unfold zbh
 refine (zad ((if_f ?_).trans (e_skip _))).trans ?_
 ·rw [or_f (zeE (b:=true) (zb5 (zlC (a:=FR a) (d:=.bl true) rfl rfl) rfl))]
  exact zaF (zap (a:=nD 2) (b:=nD 2) (zaX (zae (d:=FR a) rfl zah) rfl) rfl (zot 2 2))
 have stp:∀(i:Int),zcv [some (FR a),some (.int i)]=.nx [some (FR a),some (.int i)]:=by
  intro i
  refine zad ((if_f ?_).trans (e_skip _))
  rw [or_f (zeE (b:=true) (zb5 (zlC (a:=.int i) (d:=.bl true) rfl rfl) rfl))]
  exact zb5 (zlC (a:=.int i) (d:=.bl false) rfl rfl) rfl
 refine (zad ((zaW (zfH (d:=FR a) rfl rfl)).trans ((zby (r1:=[some (FR a),some (.int a.1)]) rfl (stp a.1)).trans ((zby (r1:=[some (FR a),some (nD a.2)]) rfl (stp a.2)).trans zaY)))).trans ?_
 have hp:=ha.pos
 have hg:=znd a.2 0
 rw [decide_eq_true hp] at hg
 refine zav (zaD ?_)
 rw [zj6 (zap (zap (a:=FR a) rfl rfl (zpF a)) (b:=nD 0) rfl hg)]
 refine zap (a:=nD 1) (b:=nD 1) (zan (zae (zap (a:=FR a) rfl rfl (zsX a)) (zae (zap (a:=FR a) rfl rfl (zpF a)) zah)) ?_) rfl (zf8 1)
 have:=zfl (a:=a.1) ha.bot hk
 rw [hc] at this
 exact this
end
theorem zkP:∀l:List (Int × Nat),PyData.eqvAll (zeu (l.map FR)) (zeu (l.map FR))=true
 | []=>by simp [zeu,PyData.eqvAll]
 | x::l=>by
  have ih:=zkP l
  simp only [List.map_cons,zeu,toPy,PyData.eqvAll,PyData.eqv,ih]
  simp
theorem ztU {l:List (Int × Nat)} {k:Nat}:∀d∈l.map FR,Shp (k + 1) d:=by
 intro d hd
 obtain ⟨x,_,rfl⟩:=List.mem_map.mp hd
 refine zgr.mpr ?_
 intro e he
 simp at he
 rcases he with rfl | rfl <;> (cases k <;> trivial)
theorem zty {α:Type} (p:α->Bool):∀l:List α,zim (l.map fun x=>D.bl (p x))=some (l.map p)
 | []=>rfl
 | x::l=>by
  show (zim (l.map fun x=>D.bl (p x))).map _=_
  rw [zty p l]; rfl
theorem zuA {α:Type} (p:α->Bool) (l:List α):allD [.lst (l.map fun x=>D.bl (p x))]=some (.bl (l.all p)):=by
 show (zim (l.map fun x=>D.bl (p x))).map _=_
 rw [zty]
 show some (D.bl ((l.map p).all id))=_
 rw [List.all_map]; rfl
theorem zix (i:Int):zbM [.int i]=.ok (.bl true):=rfl
theorem zrX {a:Int} {b k:Nat} (hb:b < 2 ^ k) (hk:k<=499):zbe [.int a,nD b]=.ok (nD (Int.gcd a b)):=zfl hb hk
theorem ziC {t:Int} {b k:Nat} (h0:0 < b) (hb:b < 2 ^ k) (hk:k<=499):zep [.int t,nD b]=.ok (FR (low t b)):=by
 refine zaI (B:=zer) (n:=3) ?_
 unfold zer
 have hg:=zia t h0
 have hgb:Int.gcd t b < 2 ^ k:=by
  have h1:Int.gcd t b ∣ b:=Int.natCast_dvd_natCast.mp (Int.gcd_dvd_right t b)
  have:=Nat.le_of_dvd h0 h1
  omega
 refine (zad ((if_f ?_).trans (e_skip _))).trans ?_
 ·rw [or_f (zeE (b:=true) (zb5 (zan (zae (d:=.int t) rfl zah) (zix t)) rfl)),or_f (zeE (b:=true) (zb5 (zan (zae (d:=nD b) rfl zah) (zix b)) rfl))]
  have:=znn b 0
  rw [decide_eq_false (by omega)] at this
  exact zaF (zap (a:=nD b) (b:=nD 0) rfl rfl this)
 refine (zad (zat (zan (zae (d:=.int t) rfl (zae (d:=nD b) rfl zah)) (zrX hb hk)))).trans ?_
 refine (zad ((if_f ?_).trans (e_skip _))).trans ?_
 ·have:=zox b 0
  rw [decide_eq_false (by omega)] at this
  exact zaF (zap (a:=nD b) (b:=nD 0) rfl rfl this)
 refine zav (zaD (zkw (zae (zap (a:=.int t) (b:=nD (Int.gcd t b)) rfl rfl (zf7 hg hgb (by omega))) (zae (zap (a:=nD b) (b:=nD (Int.gcd t b)) rfl rfl (zf7 hg hgb (by omega))) zah)) (by simp)))
end Law
end
namespace Law
open PySem PyProof.Rows L2 DL
structure Rws (rz:List (List Nat)) (n m:Nat):Prop where
 n1:1<=n
 n7:n<=7
 nm:n<=m
 m8:m<=8
 rl:rz.length=n
 rp:∀row∈rz,row.Perm (List.range m)
section
variable {rz:List (List Nat)} {n m:Nat}
theorem Rws.row (R:Rws rz n m) {h:Nat} (hh:h < n):(Wr rz h).Perm (List.range m):=by
 unfold Wr
 rw [List.getElem?_eq_getElem (by rw [R.rl]; exact hh)]
 exact R.rp _ (List.getElem_mem _)
theorem Rws.has (R:Rws rz n m) {h x:Nat} (hh:h < n) (hx:x < m):x∈Wr rz h:=(R.row hh).mem_iff.mpr (List.mem_range.mpr hx)
theorem Rws.one (R:Rws rz n m) {h:Nat} {T:List Nat} (hh:h < n) (hT:0 < T.length) (hm:∀x∈T,x < m):∃x∈Wr rz h,x∈T:=
 ⟨T[0],R.has hh (hm _ (List.getElem_mem _)),List.getElem_mem _⟩
theorem Rws.best (R:Rws rz n m) {h:Nat} {T:List Nat} (hh:h < n) (hT:0 < T.length) (hm:∀x∈T,x < m):zcb [TN (Wr rz h),LN T]=.ok (nD (Rg.best (Wr rz h) T)):=
 zkk (R.one hh hT hm) (by rw [(R.row hh).length_eq]; have:=R.m8; simp; omega)
theorem Rws.at0 (R:Rws rz n m):∃r rest,rz=r::rest/\r.length=m:=by
 cases e:rz with
 | nil=>have:=R.rl; have:=R.n1; rw [e] at *; simp at *; omega
 | cons r rest=>exact ⟨r,rest,rfl,by rw [(R.rp r (by rw [e]; exact List.mem_cons_self)).length_eq]; simp⟩
theorem Rws.things (R:Rws rz n m):za8 [WD rz]=.ok (nD m):=by
 obtain ⟨r,rest,e,hl⟩:=R.at0
 rw [e,zhj,hl]
theorem Rws.ix0 (R:Rws rz n m):∃r0,ixA (WD rz) (.int 0)=some (TN r0)/\lenD [TN r0]=some (nD m):=by
 obtain ⟨r,rest,e,hl⟩:=R.at0
 exact ⟨r,by rw [e]; exact ixA_T0 _ _,by rw [zdb,hl]⟩
theorem Rws.len (R:Rws rz n m):lenD [WD rz]=some (nD n):=by rw [zdb,R.rl]
end
theorem zpb {l:List Nat} {i:Nat} (h:i<=l.length):slD (LN l) none (some (i:Int))=some (LN (l.take i)):=by
 show some (D.lst (cutL (l.map nD) none (some (i:Int))))=_
 unfold cutL
 rw [HT.sIx_nat,HT.sIx_none,List.length_map,Nat.min_eq_left h,List.drop_zero,Nat.sub_zero]
 show some (D.lst _)=some (D.lst ((l.take i).map nD))
 rw [List.map_take]
theorem zkZ {a b:List Nat} (h:a.length + b.length<=2000):addE (LN a) (LN b)=some (LN (a++b)):=by
 show (if (a.map nD).length + (b.map nD).length<=sizeLine then some (D.lst (a.map nD++b.map nD)) else none)=some (D.lst ((a++b).map nD))
 rw [if_pos (by rw [List.length_map,List.length_map,sizeLine_eq]; omega),List.map_append]
def fc:Nat->Nat
 | 0=>1
 | i + 1=>fc i * (i + 1)
theorem zlB {i:Nat} (h:i<=5):fc i<=120:=by
 match i,h with
 | 0,_=>decide
 | 1,_=>decide
 | 2,_=>decide
 | 3,_=>decide
 | 4,_=>decide
 | 5,_=>decide
theorem zkN:∀i,0 < fc i
 | 0=>by decide
 | i + 1=>Nat.mul_pos (zkN i) (by omega)
theorem zll {i:Nat} {row:List Nat} (hp:row.Perm (List.range i)) (at':Nat):(row.take at'++[i]++row.drop at').Perm (List.range (i + 1)):=by
 have h1:(row.take at'++[i]++row.drop at').Perm (i::row):=by
  rw [List.append_assoc,List.singleton_append]
  refine List.perm_middle.trans ?_
  rw [List.take_append_drop]
 refine h1.trans ?_
 rw [List.range_succ]
 exact (List.Perm.cons i hp).trans (List.perm_append_singleton i _).symm
abbrev LL (l:List (List Nat)):D:=.lst (l.map LN)
def ins (i:Nat) (row:List Nat) (a:Nat):List Nat:=row.take a++[i]++row.drop a
def ext (i:Nat) (row:List Nat):List (List Nat):=(List.range (i + 1)).map (ins i row)
def lvl:Nat->List (List Nat)
 | 0=>[[]]
 | i + 1=>(lvl i).flatMap (ext i)
theorem zjX (i:Nat) (row:List Nat):(ext i row).length=i + 1:=by unfold ext; simp
theorem zeO:∀i,(lvl i).length=fc i
 | 0=>rfl
 | i + 1=>by
  have:∀l:List (List Nat),(l.flatMap (ext i)).length=l.length * (i + 1):=fun l=>by
   induction l with
   | nil=>simp
   | cons r l ih=>rw [List.flatMap_cons,List.length_append,zjX,ih,List.length_cons,Nat.succ_mul]; omega
  show ((lvl i).flatMap (ext i)).length=fc i * (i + 1)
  rw [this,zeO i]
theorem ze6:∀(i:Nat) (r:List Nat),r∈lvl i->r.Perm (List.range i)
 | 0,r,h=>by rw [List.mem_singleton.mp h]; exact .refl _
 | i + 1,r,h=>by
  obtain ⟨row,h1,h2⟩:=List.mem_flatMap.mp h
  obtain ⟨a,_,rfl⟩:=List.mem_map.mp h2
  exact zll (ze6 i row h1) a
theorem ao_0 (kd fnd:Option D) {i:Nat} {row:List Nat} (hlen:row.length=i) (hi:i<=10):∀(l:List Nat) (lg:List (List Nat)) (y:Option D),(∀a∈l,a<=i)->lg.length + l.length<=200 ->
  ∃y':Option D,forF (ftN 5) zeJ (l.map nD) [kd,fnd,some (nD i),some (LL lg),some (LN row),y]=.nx [kd,fnd,some (nD i),some (LL (lg++l.map (ins i row))),some (LN row),y']
 | [],lg,y,_,_=>⟨y,by rw [List.map_nil,List.map_nil,List.append_nil]; exact zaY⟩
 | a::l,lg,y,ha,hl=>by
  obtain ⟨y',h3⟩:=ao_0 kd fnd hlen hi l (lg++[ins i row a]) (some (nD a)) (fun x hx=>ha x (List.mem_cons_of_mem _ hx)) (by simp at hl ⊢; omega)
  refine ⟨y',Eq.trans ?_ (h3.trans (by rw [List.append_assoc]; rfl))⟩
  have ha':=ha a List.mem_cons_self
  refine zby (r1:=[kd,fnd,some (nD i),some (LL lg),some (LN row),some (nD a)]) rfl ?_
  refine (zad (zeF (d:=LL lg) (ds:=[LN (row.take a++[i]++row.drop a)]) (d':=LL (lg++[row.take a++[i]++row.drop a])) rfl rfl (zae (zap (a:=LN (row.take a++[i])) (b:=LN (row.drop a)) (zap (a:=LN (row.take a)) (b:=LN [i]) (zlZ (d:=LN row) rfl rfl (zgy (i:=(a:Int)) rfl) (zpb (by omega))) (zdu (zae (d:=nD i) rfl zah) (by simp)) (zkZ (by simp; omega))) (zlZ (d:=LN row) rfl (zgy (i:=(a:Int)) rfl) rfl (zjt (by omega))) (zkZ (by simp; omega))) zah) ?_)).trans rfl
  rw [zft (by simp at hl ⊢; omega)]
  show some (D.lst _)=some (D.lst _)
  rw [List.map_append]; rfl
theorem ao_1 (kd fnd:Option D) {i:Nat} (hi:i<=10):∀(l:List (List Nat)) (lg:List (List Nat)) (x y:Option D),(∀r∈l,r.length=i)->lg.length + l.length * (i + 1)<=200 ->
  ∃x' y':Option D,forF (ftN 4) zeI (l.map LN) [kd,fnd,some (nD i),some (LL lg),x,y]=.nx [kd,fnd,some (nD i),some (LL (lg++l.flatMap (ext i))),x',y']
 | [],lg,x,y,_,_=>⟨x,y,by rw [List.map_nil,List.flatMap_nil,List.append_nil]; exact zaY⟩
 | row::l,lg,x,y,hp,hl=>by
  have hlen:=hp row List.mem_cons_self
  have hm:(row::l).length * (i + 1)=l.length * (i + 1) + (i + 1):=by rw [List.length_cons,Nat.succ_mul]
  obtain ⟨y1,h3⟩:=ao_0 kd fnd hlen hi (List.range (i + 1)) lg y (fun a ha=>by have:=List.mem_range.mp ha; omega) (by simp; omega)
  obtain ⟨x',y',i3⟩:=ao_1 kd fnd hi l (lg++ext i row) (some (LN row)) y1 (fun r hr=>hp r (List.mem_cons_of_mem _ hr)) (by rw [List.length_append,zjX]; omega)
  refine ⟨x',y',Eq.trans ?_ (i3.trans (by rw [List.flatMap_cons,List.append_assoc]))⟩
  exact zby (r1:=[kd,fnd,some (nD i),some (LL lg),some (LN row),y]) rfl (zad ((zaW (ds:=(List.range (i + 1)).map nD) (zcR (zae (zap (a:=nD i) (b:=nD 1) rfl rfl (zhB i 1)) zah) (zd9 (by omega)))).trans h3))
theorem ao_2 (kd:Option D):∀(j i:Nat) (x2 x3 x4 x5:Option D),i + j<=5 ->
  ∃y2 y3 y4 y5:Option D,forF (ftN 2) zeH ((List.range' i j).map nD) [kd,some (LL (lvl i)),x2,x3,x4,x5]=.nx [kd,some (LL (lvl (i + j))),y2,y3,y4,y5]
 | 0,i,x2,x3,x4,x5,_=>⟨x2,x3,x4,x5,zaY⟩
 | j + 1,i,x2,x3,x4,x5,hj=>by
  have hb:fc (i + 1)<=120:=zlB (by omega)
  have hfc:fc (i + 1)=fc i * (i + 1):=rfl
  obtain ⟨z4,z5,h3⟩:=ao_1 kd (some (LL (lvl i))) (i:=i) (by omega) (lvl i) [] x4 x5 (fun r hr=>by rw [(ze6 i r hr).length_eq,List.length_range]) (by rw [zeO,<-hfc]; simp; omega)
  rw [List.nil_append] at h3
  obtain ⟨y2,y3,y4,y5,i3⟩:=ao_2 kd j (i + 1) (some (nD i)) (some (LL (lvl (i + 1)))) z4 z5 (by omega)
  refine ⟨y2,y3,y4,y5,Eq.trans ?_ (i3.trans (by rw [show i + 1 + j=i + (j + 1) by omega]))⟩
  refine zby (r1:=[kd,some (LL (lvl i)),some (nD i),x3,x4,x5]) rfl ?_
  refine (zad (zat (d:=LL []) (zdu zah (by simp)))).trans ?_
  refine (zad ((zaW (ds:=(lvl i).map LN) rfl).trans h3)).trans ?_
  exact zad (zat (d:=LL (lvl (i + 1))) rfl)
theorem la_0 (kd fnd:Option D) {i:Nat} {row:List Nat} (hlen:row.length=i) (hi:i<=10):∀(l:List Nat) (lg:List (List Nat)) (y:Option D),(∀a∈l,a<=i)->lg.length + l.length<=200 ->
  ∃y':Option D,forF (ftN 5) zc0 (l.map nD) [kd,fnd,some (nD i),some (LL lg),some (LN row),y]=.nx [kd,fnd,some (nD i),some (LL (lg++l.map (ins i row))),some (LN row),y']
 | [],lg,y,_,_=>⟨y,by rw [List.map_nil,List.map_nil,List.append_nil]; exact zaY⟩
 | a::l,lg,y,ha,hl=>by
  obtain ⟨y',h3⟩:=la_0 kd fnd hlen hi l (lg++[ins i row a]) (some (nD a)) (fun x hx=>ha x (List.mem_cons_of_mem _ hx)) (by simp at hl ⊢; omega)
  refine ⟨y',Eq.trans ?_ (h3.trans (by rw [List.append_assoc]; rfl))⟩
  have ha':=ha a List.mem_cons_self
  refine zby (r1:=[kd,fnd,some (nD i),some (LL lg),some (LN row),some (nD a)]) rfl ?_
  refine (zad (zeF (d:=LL lg) (ds:=[LN (row.take a++[i]++row.drop a)]) (d':=LL (lg++[row.take a++[i]++row.drop a])) rfl rfl (zae (zap (a:=LN (row.take a++[i])) (b:=LN (row.drop a)) (zap (a:=LN (row.take a)) (b:=LN [i]) (zlZ (d:=LN row) rfl rfl (zgy (i:=(a:Int)) rfl) (zpb (by omega))) (zdu (zae (d:=nD i) rfl zah) (by simp)) (zkZ (by simp; omega))) (zlZ (d:=LN row) rfl (zgy (i:=(a:Int)) rfl) rfl (zjt (by omega))) (zkZ (by simp; omega))) zah) ?_)).trans rfl
  rw [zft (by simp at hl ⊢; omega)]
  show some (D.lst _)=some (D.lst _)
  rw [List.map_append]; rfl
theorem la_1 (kd fnd:Option D) {i:Nat} (hi:i<=10):∀(l:List (List Nat)) (lg:List (List Nat)) (x y:Option D),(∀r∈l,r.length=i)->lg.length + l.length * (i + 1)<=200 ->
  ∃x' y':Option D,forF (ftN 4) zcZ (l.map LN) [kd,fnd,some (nD i),some (LL lg),x,y]=.nx [kd,fnd,some (nD i),some (LL (lg++l.flatMap (ext i))),x',y']
 | [],lg,x,y,_,_=>⟨x,y,by rw [List.map_nil,List.flatMap_nil,List.append_nil]; exact zaY⟩
 | row::l,lg,x,y,hp,hl=>by
  have hlen:=hp row List.mem_cons_self
  have hm:(row::l).length * (i + 1)=l.length * (i + 1) + (i + 1):=by rw [List.length_cons,Nat.succ_mul]
  obtain ⟨y1,h3⟩:=la_0 kd fnd hlen hi (List.range (i + 1)) lg y (fun a ha=>by have:=List.mem_range.mp ha; omega) (by simp; omega)
  obtain ⟨x',y',i3⟩:=la_1 kd fnd hi l (lg++ext i row) (some (LN row)) y1 (fun r hr=>hp r (List.mem_cons_of_mem _ hr)) (by rw [List.length_append,zjX]; omega)
  refine ⟨x',y',Eq.trans ?_ (i3.trans (by rw [List.flatMap_cons,List.append_assoc]))⟩
  exact zby (r1:=[kd,fnd,some (nD i),some (LL lg),some (LN row),y]) rfl (zad ((zaW (ds:=(List.range (i + 1)).map nD) (zcR (zae (zap (a:=nD i) (b:=nD 1) (zaX (zae (d:=LN row) rfl zah) (by rw [zcf,hlen])) rfl (zhB i 1)) zah) (zd9 (by omega)))).trans h3))
theorem la_2 (kd:Option D):∀(j i:Nat) (x2 x3 x4 x5:Option D),i + j<=5 ->
  ∃y2 y3 y4 y5:Option D,forF (ftN 2) zcY ((List.range' i j).map nD) [kd,some (LL (lvl i)),x2,x3,x4,x5]=.nx [kd,some (LL (lvl (i + j))),y2,y3,y4,y5]
 | 0,i,x2,x3,x4,x5,_=>⟨x2,x3,x4,x5,zaY⟩
 | j + 1,i,x2,x3,x4,x5,hj=>by
  have hb:fc (i + 1)<=120:=zlB (by omega)
  have hfc:fc (i + 1)=fc i * (i + 1):=rfl
  obtain ⟨z4,z5,h3⟩:=la_1 kd (some (LL (lvl i))) (i:=i) (by omega) (lvl i) [] x4 x5 (fun r hr=>by rw [(ze6 i r hr).length_eq,List.length_range]) (by rw [zeO,<-hfc]; simp; omega)
  rw [List.nil_append] at h3
  obtain ⟨y2,y3,y4,y5,i3⟩:=la_2 kd j (i + 1) (some (nD i)) (some (LL (lvl (i + 1)))) z4 z5 (by omega)
  refine ⟨y2,y3,y4,y5,Eq.trans ?_ (i3.trans (by rw [show i + 1 + j=i + (j + 1) by omega]))⟩
  refine zby (r1:=[kd,some (LL (lvl i)),some (nD i),x3,x4,x5]) rfl ?_
  refine (zad (zat (d:=LL []) (zdu zah (by simp)))).trans ?_
  refine (zad ((zaW (ds:=(lvl i).map LN) rfl).trans h3)).trans ?_
  exact zad (zat (d:=LL (lvl (i + 1))) rfl)
theorem zqg {k:Nat} (hk:k<=5):zcj [nD k]=.ok (LL (lvl k)):=by
 obtain ⟨y2,y3,y4,y5,h3⟩:=ao_2 (some (nD k)) k 0 none none none none (by omega)
 rw [Nat.zero_add,<-List.range_eq_range'] at h3
 refine zaI (B:=zdo) (n:=6) ?_
 unfold zdo
 refine (zad (zat (d:=LL [[]]) (zdu (zae (zdu zah (by simp)) zah) (by simp)))).trans ?_
 refine (zad ((zaW (ds:=(List.range k).map nD) (zcR (zae (d:=nD k) rfl zah) (zd9 (by omega)))).trans h3)).trans ?_
 exact zav (zaD (d:=LL (lvl k)) rfl)
theorem zkY:∀r:List Nat,zd4 (r.map nD)=some (r.map fun k:Nat=>(k:Int))
 | []=>rfl
 | a::r=>by
  show (zd4 (r.map nD)).map _=_
  rw [zkY r]; rfl
theorem zkz:∀rs:List (List Nat),zf0 (rs.map LN)=some (rs.map fun r=>r.map fun k:Nat=>(k:Int))
 | []=>rfl
 | r::l=>by
  show (zd4 (r.map nD)).bind _=_
  rw [zkY]
  show (zf0 (l.map LN)).map _=_
  rw [zkz l]; rfl
theorem zjs (rs:List (List Nat)) (hl:rs.length<=1000):∃rs':List (List Nat),rs'.Perm rs/\zkf [LL rs]=some (LL rs'):=by
 obtain ⟨rs',p,e⟩:=BS.perm_map (BS.srtK_perm (rs.map fun r=>r.map fun k:Nat=>(k:Int))) rs rfl
 refine ⟨rs',p,?_⟩
 show (zf0 (rs.map LN)).bind _=_
 rw [zkz]
 show (if _ then _ else _)=_
 rw [if_pos (by rw [List.length_map]; exact hl),e,List.map_map]
 show some (D.lst _)=some (D.lst _)
 congr 2
 refine List.map_congr_left fun r _=>?_
 show D.lst ((r.map fun k:Nat=>(k:Int)).map .int)=D.lst (r.map nD)
 rw [List.map_map]; rfl
theorem zn2 {k:Nat} (hk:k<=5):∃rs:List (List Nat),rs.Perm (lvl k)/\zbr [nD k]=.ok (LL rs):=by
 obtain ⟨y2,y3,y4,y5,h3⟩:=la_2 (some (nD k)) k 0 none none none none (by omega)
 rw [Nat.zero_add,<-List.range_eq_range'] at h3
 obtain ⟨rs,p,hs⟩:=zjs (lvl k) (by rw [zeO]; have:=zlB hk; omega)
 refine ⟨rs,p,zaI (B:=zbt) (n:=6) ?_⟩
 unfold zbt
 refine (zad (zat (d:=LL [[]]) (zdu (zae (zdu zah (by simp)) zah) (by simp)))).trans ?_
 refine (zad ((zaW (ds:=(List.range k).map nD) (zcR (zae (d:=nD k) rfl zah) (zd9 (by omega)))).trans h3)).trans ?_
 exact zav (zaD (zaX (zae (d:=LL (lvl k)) rfl zah) hs))
end Law
section
set_option exponentiation.threshold 3000
namespace Law
open PySem PyProof.Rows L2 DL Fq
theorem zrd (l:List Nat) (t:Nat):zkR (LN l) [nD t]=some (nD (l.count t)):=by
 show (if zbm (nD t)=true/\(l.map nD).all zbm=true then some (D.int (((l.map nD).countP fun z=>eqs z (nD t):Nat):Int)) else none)=_
 rw [if_pos ⟨rfl,zoM l⟩,List.countP_map]
 show some (D.int ((l.countP ((fun z=>eqs z (nD t)) ∘ nD):Nat):Int))=some (D.int ((l.count t:Nat):Int))
 have:(fun z=>eqs z (nD t)) ∘ nD=fun z=>z == t:=by
  funext z
  show eqs (nD z) (nD t)=_
  rw [ztl]
  by_cases h:z=t <;> simp [h]
 rw [this]; rfl
abbrev TTF (l:List (List (Int × Nat))):D:=.tup (l.map TF)
abbrev LTF (l:List (List (Int × Nat))):D:=.lst (l.map TF)
def col (dls:List (List Nat)) (i:Nat):List Nat:=dls.map fun dl=>dl.getD i 0
def shr (dls:List (List Nat)) (m h:Nat):List (Int × Nat):=(List.range m).map fun t=>low (((col dls h).count t:Nat):Int) dls.length
theorem zl1 {dls:List (List Nat)} {n m:Nat} (hN:0 < dls.length) (hN2:dls.length<=120) (hd:∀dl∈dls,dl.length=n) (hm:m<=60):∀(j i:Nat) (tb:List (List (Int × Nat))) (x y:Option D),i + j<=n->n<=60->tb.length=i ->
  ∃x' y',forF (ftN 3) zff ((List.range' i j).map nD) [some (.lst (dls.map TN)),some (nD m),some (LTF tb),x,y]=.nx [some (.lst (dls.map TN)),some (nD m),some (LTF (tb++(List.range' i j).map (shr dls m))),x',y']
 | 0,i,tb,x,y,_,_,_=>⟨x,y,by rw [show (List.range' i 0).map (shr dls m)=[] from rfl,List.append_nil]; exact zaY⟩
 | j + 1,i,tb,x,y,hij,hn,hl=>by
  obtain ⟨x',y',ih⟩:=zl1 hN hN2 hd hm j (i + 1) (tb++[shr dls m i]) (some (nD i)) (some (LN (col dls i))) (by omega) hn (by simp [hl])
  refine ⟨x',y',?_⟩
  rw [List.append_assoc,List.singleton_append] at ih
  rw [List.range'_succ,List.map_cons,List.map_cons,<-ih]
  refine zby (r1:=[some (.lst (dls.map TN)),some (nD m),some (LTF tb),some (nD i),y]) rfl ?_
  refine (zad (zat (d:=LN (col dls i)) ?_)).trans ?_
  ·have:=zdc (nl:=1) (cap:=[3]) (fi:=fSeq za7 (gv 0)) (ft:=ftN 0) (fe:=f2 (gv 0) (gv 1) ixA) (r:=[some (.lst (dls.map TN)),some (nD m),some (LTF tb),some (nD i),y]) (l:=dls) TN (fun dl=>nD (dl.getD i 0)) rfl (by omega) fun dl hdl=>⟨[some (TN dl),some (nD i)],rfl,zap (a:=TN dl) (b:=nD i) rfl rfl (zjO ?_)⟩
   ·rw [this]
    show Res.ok (D.lst _)=Res.ok (D.lst _)
    unfold col; rw [List.map_map]; rfl
   ·have hi:i < dl.length:=by rw [hd dl hdl]; omega
    rw [List.getElem?_map,List.getElem?_eq_getElem hi,List.getD_eq_getElem?_getD,List.getElem?_eq_getElem hi]; rfl
  have ef:LTF (tb++[shr dls m i])=D.lst (tb.map TF++[TF (shr dls m i)]):=by
   show D.lst ((tb++[shr dls m i]).map TF)=_
   rw [List.map_append]; rfl
  rw [ef]
  refine zad (zeF (d:=LTF tb) (ds:=[TF (shr dls m i)]) rfl rfl (zae (zaX (zae (zdc (l:=List.range m) nD (fun t=>FR (low (((col dls i).count t:Nat):Int) dls.length)) (zcR (zae (d:=nD m) rfl zah) (zd9 (by omega))) (by simp; omega) fun t ht=>⟨[some (nD t),some (.lst (dls.map TN)),some (LN (col dls i))],rfl,?_⟩) zah) ?_) zah) (zft (by rw [List.length_map]; omega)))
  ·exact zan (zae (ztg (d:=LN (col dls i)) rfl rfl (zae (d:=nD t) rfl zah) (zrd (col dls i) t)) (zae (zaX (zae (d:=.lst (dls.map TN)) rfl zah) (zcf _ _)) zah)) (ziC (t:=(((col dls i).count t:Nat):Int)) (k:=7) hN (by omega) (by omega))
  ·rw [e_tupL]
   show some (D.tup _)=some (D.tup ((shr dls m i).map FR))
   unfold shr
   rw [List.map_map]; rfl
theorem zhU {dls:List (List Nat)} {n m:Nat} (hN:0 < dls.length) (hN2:dls.length<=120) (hd:∀dl∈dls,dl.length=n) (hm:m<=60) (hn:n<=60):zdR [.lst (dls.map TN),nD m]=.ok (TTF ((List.range n).map (shr dls m))):=by
 obtain ⟨x',y',h⟩:=zl1 hN hN2 hd hm n 0 [] none none (by omega) hn rfl
 rw [<-List.range_eq_range',List.nil_append] at h
 refine zaI (B:=zdX) (n:=5) ?_
 unfold zdX
 refine (zad (zat (d:=LTF []) (zdu zah (by simp)))).trans ?_
 cases hx:dls with
 | nil=>rw [hx] at hN; simp at hN
 | cons d0 rest=>
  have h0:d0.length=n:=hd d0 (by rw [hx]; exact List.mem_cons_self)
  rw [<-hx]
  refine (zad ((zaW (ds:=(List.range n).map nD) (zcR (zae (zaX (zae (zap (a:=.lst (dls.map TN)) (b:=.int 0) (d:=TN d0) rfl rfl (by rw [hx]; exact ixA_L0 _ _)) zah) (by rw [zdb,h0])) zah) (zd9 (by omega)))).trans h)).trans ?_
  exact zav (zaD (zaX (zae (d:=LTF ((List.range n).map (shr dls m))) rfl zah) rfl))
theorem znp {m:List Md} {f:FE} {r:Rho} {d:D} (h:f r=.ok d):znq m f r=.nx r:=by unfold znq; rw [h]; rfl
section
variable {rz:List (List Nat)} {n m:Nat}
theorem zlh (R:Rws rz n m) (h5:n<=5):zay [WD rz]=.ok .non:=by
 show outR false (zas (zao 1 [WD rz]))=_
 have:zas (zao 1 [WD rz])=.nx [some (WD rz)]:=by
  unfold zas
  have hg:=znd n 5
  rw [decide_eq_false (by omega)] at hg
  exact zad ((if_f (zaF (zap (b:=nD 5) (zaX (zae (d:=WD rz) rfl zah) R.len) rfl hg))).trans (e_skip _))
 rw [this]; rfl
end
end Law
end
section
set_option exponentiation.threshold 3000
namespace Law
open PySem PyProof.Rows L2 DL Fq
theorem zf4 (w:List Nat):own (w.map some)=fun k=>w[k]?:=by
 funext k
 unfold own
 rw [List.getElem?_map]
 cases w[k]? <;> rfl
theorem zrn (w:List Nat):OD (w.map some)=TN w:=by
 show D.tup _=D.tup _
 rw [List.map_map]; rfl
section
variable {rz:List (List Nat)} {n:Nat}
theorem Rws.hW (R:Rws rz n n):∀h,h < n->∀x,x < n->x∈Wr rz h:=fun h hh x hx=>R.has hh hx
theorem Rws.s0 (R:Rws rz n n):Law.s0 rz none=⟨List.range n,List.range n⟩:=by
 obtain ⟨r,rest,e,hl⟩:=R.at0
 unfold Law.s0
 rw [R.rl,e]
 show Rg.S.mk (List.range n) (List.range r.length)=_
 rw [hl]
def rw' (rz:List (List Nat)) (n:Nat) (w:List Nat):Nat->Nat:=Rg.deal (Wr rz) (fun k=>w[k]?) (n + 1) ⟨List.range n,List.range n⟩
def zbP (rz:List (List Nat)) (n:Nat) (w:List Nat):List Nat:=(List.range n).map (rw' rz n w)
theorem zl8 (rz:List (List Nat)) (n:Nat) (w:List Nat):Rg.TTC (Wr rz) (fun k=>w[k]?) (rw' rz n w) ⟨List.range n,List.range n⟩:=Rg.ztI (n + 1) _ (by simp)
theorem zma (R:Rws rz n n) {w:List Nat} (hw:w.Perm (List.range n)):zcH [WD rz,TN w,.non]=.ok (TN (zbP rz n w)):=by
 have hn7:=R.n7
 have hn1:=R.n1
 have hs:=R.s0
 have ok:=Rg.zuC (W:=Wr rz) R.hW hw
 have lw:w.length=n:=by rw [hw.length_eq]; simp
 have S:Snd rz (w.map some) (Law.s0 rz none):=by
  rw [hs]
  refine ⟨by rw [zf4]; exact ok,fun h hh=>by rw [R.rl]; exact List.mem_range.mp hh,fun h hh=>by rw [List.length_map,lw]; exact List.mem_range.mp hh,fun h hh=>?_,by simp; omega,by simp; omega⟩
  rw [(R.row (List.mem_range.mp hh)).length_eq]; simp; omega
 have:=ziD (rz:=rz) (oz:=w.map some) (o:=none) (a:=rw' rz n w) (fun l e=>(nomatch e)) (by
  intro e
  have:=R.rl
  rw [e] at this; simp at this; omega) (by rw [R.rl]; omega) S (fun h hh=>by rw [hs]; exact List.mem_range.mpr (by rw [<-R.rl]; exact hh)) (by rw [hs,zf4]; exact zl8 rz n w)
 rw [zrn,R.rl] at this
 exact this
theorem zlf (R:Rws rz n n):zaP [WD rz]=.ok .non:=by
 have hq:zdT [WD rz]=.ok (.bl true):=by
  refine zaI (B:=zdZ) (n:=1) ?_
  unfold zdZ
  exact zav (zaD (zap (zan (zae (d:=WD rz) rfl zah) R.things) (zaX (zae (d:=WD rz) rfl zah) R.len) (zf8 n)))
 show outR false (zaA (zao 1 [WD rz]))=_
 have:zaA (zao 1 [WD rz])=.nx [some (WD rz)]:=by
  unfold zaA
  exact zad ((if_f (zeE (b:=true) (zb5 (zan (zae (d:=WD rz) rfl zah) hq) rfl))).trans (e_skip _))
 rw [this]; rfl
def ownT (rs:List (List Nat)) (rz:List (List Nat)) (n:Nat):List (List (Int × Nat)):=(List.range n).map (shr (rs.map (zbP rz n)) n)
theorem zjE (R:Rws rz n n) (h5:n<=5) {rs:List (List Nat)} (h1:∀r∈rs,r.Perm (List.range n)) (h2:rs.length=fc n) (h3:zcj [nD n]=.ok (LL rs)):zbE [WD rz]=.ok (TTF (ownT rs rz n)):=by
 have hfc:=zlB h5
 have hfp:=zkN n
 refine zaI (B:=zbG) (n:=2) ?_
 unfold zbG
 refine (zad (znp (zan (zae (d:=WD rz) rfl zah) (zlf R)))).trans ?_
 refine (zad (znp (zan (zae (d:=WD rz) rfl zah) (zlh R h5)))).trans ?_
 refine (zad (zat (zdc (l:=rs) LN (fun w=>TN (zbP rz n w)) (zfH (zan (zae (zaX (zae (d:=WD rz) rfl zah) R.len) zah) h3) rfl) (by omega) fun w hw=>⟨[some (LN w),some (WD rz)],rfl,zan (zae (d:=WD rz) rfl (zae (zaX (zae (d:=LN w) rfl zah) (e_tupL _)) zah)) (zma R (h1 w hw))⟩))).trans ?_
 have e:rs.map (fun w=>TN (zbP rz n w))=(rs.map (zbP rz n)).map TN:=by rw [List.map_map]; rfl
 rw [e]
 refine zav (zaD (zan (zae (d:=.lst ((rs.map (zbP rz n)).map TN)) rfl (zae (zan (zae (d:=WD rz) rfl zah) R.things) zah)) (zhU (by rw [List.length_map]; omega) (by rw [List.length_map]; omega) (fun dl hdl=>?_) (by omega) (by omega))))
 obtain ⟨o,_,rfl⟩:=List.mem_map.mp hdl
 unfold zbP; simp
end
end Law
end
namespace Law
open PySem PyProof.Rows L2 DL
abbrev OL (oz:List (Option Nat)):D:=.lst (oz.map oD)
def zlu (oz:List (Option Nat)) (x:Nat) (l:List Nat) (here:Nat):Nat:=l.foldl (fun acc h=>if own oz h=some x then h else acc) here
theorem zhs {oz:List (Option Nat)} {x:Nat}:∀{l:List Nat} {here:Nat},(∀h∈l,own oz h≠some x)->zlu oz x l here=here
 | [],_,_=>rfl
 | a::l,here,h=>by
  show zlu oz x l (if own oz a=some x then a else here)=here
  rw [if_neg (h a List.mem_cons_self)]
  exact zhs fun k hk=>h k (List.mem_cons_of_mem _ hk)
theorem zhr {oz:List (Option Nat)} {x k:Nat} (hk:own oz k=some x) (hu:∀h,own oz h=some x->h=k):∀{l:List Nat} {here:Nat},k∈l\/here=k->zlu oz x l here=k
 | [],_,h=>by
  rcases h with z | z
  ·cases z
  ·exact z
 | a::l,here,h=>by
  show zlu oz x l (if own oz a=some x then a else here)=k
  refine zhr hk hu ?_
  by_cases e:own oz a=some x
  ·rw [if_pos e]; exact .inr (hu a e)
  ·rw [if_neg e]
   rcases h with z | z
   ·rcases List.mem_cons.mp z with rfl | z
    ·exact absurd hk e
    ·exact .inl z
   ·exact .inr z
section
variable {rz:List (List Nat)} {oz:List (Option Nat)} {s:Rg.S}
theorem zoC (k:Rg.Ok (Wr rz) (own oz) s) (x:Nat):zlu oz x s.line (s.line.headD 0)=Rg.pt (own oz) s x:=by
 unfold Rg.pt
 cases e:s.line.find? fun h=>decide (own oz h=some x) with
 | none=>exact zhs fun h hh=>by simpa using List.find?_eq_none.mp e h hh
 | some h=>
  have h1:=List.find?_some e
  simp only [decide_eq_true_eq] at h1
  exact zhr h1 (fun j hj=>k.inj j h x hj h1) (.inl (List.mem_of_find?_eq_some e))
theorem zmv (w od th ln g path:Option D) (x:Nat):∀(l:List Nat) (here:Nat) (y:Option D),(∀h∈l,h < oz.length) ->
  ∃y',forF (ftN 9) zcu (l.map nD) [w,some (OL oz),od,th,ln,g,some (nD here),path,some (nD x),y]=.nx [w,some (OL oz),od,th,ln,g,some (nD (zlu oz x l here)),path,some (nD x),y']
 | [],here,y,_=>⟨y,zaY⟩
 | h::l,here,y,hl=>by
  obtain ⟨y',ih⟩:=zmv w od th ln g path x l (if own oz h=some x then h else here) (some (nD h)) fun k hk=>hl k (List.mem_cons_of_mem _ hk)
  refine ⟨y',Eq.trans ?_ ih⟩
  have c:(zaH (f2 (f2 (gv 1) (gv 9) ixA) (gv 8) eqD)) [w,some (OL oz),od,th,ln,g,some (nD here),path,some (nD x),some (nD h)]=.ok (decide (own oz h=some x)):=
   zaF (zap (zap (a:=OL oz) (b:=nD h) rfl rfl (zoE (zpq (hl h List.mem_cons_self)))) (b:=nD x) rfl (ztn _ _))
  refine zby (r1:=[w,some (OL oz),od,th,ln,g,some (nD here),path,some (nD x),some (nD h)]) rfl ?_
  by_cases e:own oz h=some x
  ·rw [decide_eq_true e] at c
   rw [if_pos e]
   exact (zad ((if_t c).trans (zad (zat (d:=nD h) rfl)))).trans rfl
  ·rw [decide_eq_false e] at c
   rw [if_neg e]
   exact (zad ((if_f c).trans (e_skip _))).trans rfl
theorem zqq (S:Snd rz oz s) (od g:Option D):∀(j:Nat) (path:List Nat) (here:Nat) (x y:Option D),here∈s.line->path.length<=s.line.length->path.Nodup->(∀h∈path,h∈s.line)->s.line.length < j + path.length ->
  ∃x' y',za9 q105 zbx zct j [some (WD rz),some (OL oz),od,some (LN s.things),some (LN s.line),g,some (nD here),some (LN path),x,y]
   = .nx [some (WD rz),some (OL oz),od,some (LN s.things),some (LN s.line),g,some (nD (Rg.zmz (fS rz oz s) j path here).2),some (LN (Rg.zmz (fS rz oz s) j path here).1),x',y']:=by
 intro j
 induction j with
 | zero=>intro path here x y _ h1 _ _ h2; omega
 | succ j ih=>
  intro path here x y hh hl hn hs hj
  have q:zbx [some (WD rz),some (OL oz),od,some (LN s.things),some (LN s.line),g,some (nD here),some (LN path),x,y]=.ok (! decide (here∈path)):=zaF (zap (a:=nD here) (b:=LN path) rfl rfl (zpA _ _))
  by_cases c:here∈path
  ·rw [decide_eq_true c] at q
   refine ⟨x,y,(zge q).trans ?_⟩
   unfold Rg.zmz
   rw [if_pos c]
  ·rw [decide_eq_false c] at q
   have hn':(path++[here]).Nodup:=List.nodup_append.mpr ⟨hn,by simp,fun a ha b hb=>by rw [List.mem_singleton.mp hb]; rintro rfl; exact c ha⟩
   have hs':∀h∈path++[here],h∈s.line:=fun h hh'=>by
    rcases List.mem_append.mp hh' with z | z
    ·exact hs h z
    ·rw [List.mem_singleton.mp z]; exact hh
   obtain ⟨y1,hp⟩:=zmv (oz:=oz) (some (WD rz)) od (some (LN s.things)) (some (LN s.line)) g (some (LN (path++[here]))) (tS rz s here) s.line (s.line.headD 0) y S.ino
   rw [zoC S.ok] at hp
   have hf:fS rz oz s here∈s.line:=Rg.zh1 (List.ne_nil_of_mem hh)
   obtain ⟨x',y',h3⟩:=ih (path++[here]) (fS rz oz s here) (some (nD (tS rz s here))) y1 hf (Rg.zcx hn' hs') hn' hs' (by simp; omega)
   refine ⟨x',y',(zgd q ?_).trans (h3.trans ?_)⟩
   ·have hap:appD (LN path) [nD here]=some (LN (path++[here])):=by
     rw [zft (by have:=S.nl; simp; omega)]
     show some (D.lst _)=some (D.lst _)
     rw [List.map_append]; rfl
    refine (zad (zeF (d:=LN path) (ds:=[nD here]) rfl rfl (zae (d:=nD here) rfl zah) hap)).trans ?_
    refine (zad (zat (d:=nD (tS rz s here)) (zan (zae (zap (a:=WD rz) (b:=nD here) rfl rfl (zjO (zmh (S.inr here hh)))) (zae (d:=LN s.things) rfl zah)) (ziy (S.ok.some_thing hh))))).trans ?_
    refine (zad (zat (d:=nD (s.line.headD 0)) (zap (a:=LN s.line) (b:=.int 0) rfl rfl ?_))).trans ?_
    ·cases e:s.line with
     | nil=>rw [e] at hh; cases hh
     | cons b t=>exact ixA_L0 _ _
    exact zad ((zaW (ds:=s.line.map nD) rfl).trans hp)
   ·have e:Rg.zmz (fS rz oz s) (j + 1) path here=Rg.zmz (fS rz oz s) j (path++[here]) (fS rz oz s here):=by
     conv=>lhs; unfold Rg.zmz
     rw [if_neg c]
    rw [e]
theorem zmW (S:Snd rz oz s) {a:Nat->Nat} {n:Nat} (od ln here path thing:Option D):∀(C:List Nat) (g:List (Option Nat)) (y:Option D),g.length=n->(∀h∈C,h∈s.line/\h < n/\a h=tS rz s h) ->
  ∃(g':List (Option Nat)) (y':Option D),g'.length=n/\(∀h,h∈C->g'[h]? = some (some (a h)))/\(∀h,h∉C->g'[h]? = g[h]?) /\
   forF (ftN 9) zcs (C.map nD) [some (WD rz),some (OL oz),od,some (LN s.things),ln,some (.lst (g.map oD)),here,path,thing,y]=.nx [some (WD rz),some (OL oz),od,some (LN s.things),ln,some (.lst (g'.map oD)),here,path,thing,y']
 | [],g,y,hg,_=>⟨g,y,hg,fun h hh=>(nomatch hh),fun _ _=>rfl,zaY⟩
 | h::C,g,y,hg,hC=>by
  obtain ⟨h1,h2,h3⟩:=hC h List.mem_cons_self
  obtain ⟨g',y',i1,i2,i3,i4⟩:=zmW S (a:=a) (n:=n) od ln here path thing C (g.set h (some (a h))) (some (nD h)) (by simpa using hg) fun k hk=>hC k (List.mem_cons_of_mem _ hk)
  refine ⟨g',y',i1,fun k hk=>?_,fun k hk=>?_,Eq.trans ?_ i4⟩
  ·by_cases z:k∈C
   ·exact i2 k z
   ·have:k=h:=(List.mem_cons.mp hk).resolve_right z
    subst this
    rw [i3 k z,List.getElem?_set_self (by omega)]
  ·rw [i3 k fun z=>hk (List.mem_cons_of_mem _ z),List.getElem?_set_ne (by rintro rfl; exact hk List.mem_cons_self)]
  ·refine zby (r1:=[some (WD rz),some (OL oz),od,some (LN s.things),ln,some (.lst (g.map oD)),here,path,thing,some (nD h)]) rfl ?_
   refine (zad (put_ok (d:=.lst (g.map oD)) (k:=nD h) (v:=nD (tS rz s h)) (d':=.lst ((g.set h (some (a h))).map oD)) rfl (zan (zae (zap (a:=WD rz) (b:=nD h) rfl rfl (zjO (zmh (S.inr h h1)))) (zae (d:=LN s.things) rfl zah)) (ziy (S.ok.some_thing h1))) rfl ?_)).trans rfl
   show (ixN (g.map oD).length (h:Int)).map (fun j=>D.lst ((g.map oD).set j (nD (tS rz s h))))=_
   unfold ixN
   rw [if_pos (Int.natCast_nonneg h),if_pos (by rw [List.length_map]; omega),List.map_set,h3]
   rfl
theorem zmV {a:Nat->Nat} (w ow od here path thing:Option D) (g:List (Option Nat)):∀(C L T:List Nat) (y:Option D),C.Nodup->(C.map a).Nodup->(∀h∈C,h∈L/\a h∈T/\g[h]? = some (some (a h))) ->
  ∃y',forF (ftN 9) zcr (C.map nD) [w,ow,od,some (LN T),some (LN L),some (.lst (g.map oD)),here,path,thing,y]=.nx [w,ow,od,some (LN ((C.map a).foldl (fun l h=>l.erase h) T)),some (LN (C.foldl (fun l h=>l.erase h) L)),some (.lst (g.map oD)),here,path,thing,y']
 | [],L,T,y,_,_,_=>⟨y,zaY⟩
 | h::C,L,T,y,n1,n2,hC=>by
  have n1':=List.nodup_cons.mp n1
  have n2':=List.nodup_cons.mp n2
  obtain ⟨h1,h2,h3⟩:=hC h List.mem_cons_self
  obtain ⟨y',ih⟩:=zmV (a:=a) w ow od here path thing g C (L.erase h) (T.erase (a h)) (some (nD h)) n1'.2 n2'.2 fun k hk=>by
   obtain ⟨z1,z2,z3⟩:=hC k (List.mem_cons_of_mem _ hk)
   refine ⟨(List.mem_erase_of_ne ?_).mpr z1,(List.mem_erase_of_ne ?_).mpr z2,z3⟩
   ·rintro rfl; exact n1'.1 hk
   ·intro q; exact n2'.1 (by rw [<-q]; exact List.mem_map.mpr ⟨k,hk,rfl⟩)
  refine ⟨y',Eq.trans ?_ ih⟩
  refine zby (r1:=[w,ow,od,some (LN T),some (LN L),some (.lst (g.map oD)),here,path,thing,some (nD h)]) rfl ?_
  refine (zad (zeF (d:=LN L) (ds:=[nD h]) rfl rfl (zae (d:=nD h) rfl zah) (zpg h1))).trans ?_
  refine (zad (zeF (d:=LN T) (ds:=[nD (a h)]) rfl rfl (zae (zap (a:=.lst (g.map oD)) (b:=nD h) (d:=nD (a h)) rfl rfl (zoE (by rw [List.getElem?_map,h3]; rfl))) zah) (zpg h2))).trans rfl
end
section
variable {rz:List (List Nat)} {oz:List (Option Nat)}
theorem zqi {a:Nat->Nat} {n:Nat} (od:Option D):∀(j:Nat) (s:Rg.S) (g:List (Option Nat)) (x1 x2 x3 x4:Option D),Snd rz oz s->Rg.TTC (Wr rz) (own oz) a s->s.line.length < j->(∀h∈s.line,h < n)->g.length=n->(∀h,h < n->h∉s.line->g[h]? = some (some (a h))) ->
  ∃(g':List (Option Nat)) (T':List Nat) (y1 y2 y3 y4:Option D),g'.length=n/\(∀h,h < n->g'[h]? = some (some (a h))) /\
   za9 q116 zbw zcq j [some (WD rz),some (OL oz),od,some (LN s.things),some (LN s.line),some (.lst (g.map oD)),x1,x2,x3,x4]
    = .nx [some (WD rz),some (OL oz),od,some (LN T'),some (LN []),some (.lst (g'.map oD)),y1,y2,y3,y4]:=by
 intro j
 induction j with
 | zero=>intro s g x1 x2 x3 x4 _ _ h; omega
 | succ j ih=>
  intro s g x1 x2 x3 x4 S t hj hin hg hd
  have q:zbw [some (WD rz),some (OL oz),od,some (LN s.things),some (LN s.line),some (.lst (g.map oD)),x1,x2,x3,x4]=.ok (decide (0 < s.line.length)):=zaF (zap (b:=nD 0) (zaX (zae (d:=LN s.line) rfl zah) (zcf _ _)) rfl (znd s.line.length 0))
  cases hq:s.line with
  | nil=>
   rw [hq] at q hd
   exact ⟨g,s.things,x1,x2,x3,x4,hg,fun h hh=>hd h hh (fun z=>(nomatch z)),zge q⟩
  | cons f rest=>
   have hf:f∈s.line:=by rw [hq]; exact List.mem_cons_self
   rw [decide_eq_true (List.length_pos_of_mem hf)] at q
   have hcl:∀h∈s.line,fS rz oz s h∈s.line:=fun h hh=>Rg.zh1 (List.ne_nil_of_mem hh)
   obtain ⟨k,k1,k2,k3⟩:=Rg.zro hcl hf 64 0 (by simp [Rg.orb]) (by have:=S.nl; omega)
   have e0:Rg.orb (fS rz oz s) f 0=[]:=rfl
   have e1:Rg.it (fS rz oz s) 0 f=f:=rfl
   rw [e0,e1] at k3
   obtain ⟨c,hne⟩:=Rg.zso hf k1 k2
   obtain ⟨x',y',hw⟩:=zqq S od (some (.lst (g.map oD))) 64 [] f x3 x4 hf (Nat.zero_le _) (by simp) (fun h hh=>(nomatch hh)) (by have:=S.nl; simp; omega)
   rw [k3] at hw
   have hmem:=List.idxOf_lt_length_of_mem k2
   generalize hC:(Rg.orb (fS rz oz s) f k).drop ((Rg.orb (fS rz oz s) f k).idxOf (Rg.it (fS rz oz s) k f))=C at c hne
   have nC:C.Nodup:=by rw [<-hC]; exact List.Nodup.sublist (List.drop_sublist _ _) k1
   obtain ⟨t1,t2⟩:=Rg.ztH t S.ok c
   have inj:=Rg.ztK t S.ok
   have nCa:(C.map a).Nodup:=by
    rw [List.nodup_iff_pairwise_ne,List.pairwise_map]
    exact List.Pairwise.imp_of_mem (fun ha hb h z=>h (inj _ (c.sub _ ha) _ (c.sub _ hb) z)) nC
   have ea:C.map a=C.map (tS rz s):=List.map_congr_left t2
   obtain ⟨g1,w1,i1,i2,i3,i4⟩:=zmW S (a:=a) (n:=n) od (some (LN s.line)) (some (nD (Rg.it (fS rz oz s) k f))) (some (LN (Rg.orb (fS rz oz s) f k))) x' C g y' hg fun h hh=>⟨c.sub h hh,hin h (c.sub h hh),t2 h hh⟩
   obtain ⟨w2,i5⟩:=zmV (a:=a) (some (WD rz)) (some (OL oz)) od (some (nD (Rg.it (fS rz oz s) k f))) (some (LN (Rg.orb (fS rz oz s) f k))) x' g1 C s.line s.things w1 nC nCa fun h hh=>⟨c.sub h hh,Rg.zp2 t S.ok h (c.sub h hh),i2 h hh⟩
   rw [Rg.zjS S.ok.nl,Rg.zjS S.ok.nt,ea] at i5
   have hlt:=zkx c hne
   obtain ⟨g',T',y1,y2,y3,y4,j1,j2,j3⟩:=ih (Rg.minus (Wr rz) s C) g1 (some (nD (Rg.it (fS rz oz s) k f))) (some (LN (Rg.orb (fS rz oz s) f k))) x' w2 (S.minus c) t1 (by omega) (fun h hh=>hin h (List.mem_filter.mp hh).1) i1 fun h hh hn=>by
    by_cases z:h∈C
    ·exact i2 h z
    ·rw [i3 h z]
     exact hd h hh fun w=>hn (List.mem_filter.mpr ⟨w,by simpa using z⟩)
   refine ⟨g',T',y1,y2,y3,y4,j1,j2,?_⟩
   rw [<-hq]
   refine (zgd q ?_).trans j3
   refine (zad (zat (d:=nD f) (zap (a:=LN s.line) (b:=.int 0) rfl rfl ?_))).trans ?_
   ·rw [hq]; exact ixA_L0 _ _
   refine (zad (zat (d:=LN []) (zdu zah (by simp)))).trans ?_
   refine (zad hw).trans ?_
   have sl:∀gg ww:Option D,∀th ln:List Nat,(fSeq za7 (fSl (gv 7) (zhf (fM "list" (gv 7) (zac (gv 6) lNil) zgP)) (fun _=>Res.ok none))) [some (WD rz),some (OL oz),od,some (LN th),some (LN ln),gg,some (nD (Rg.it (fS rz oz s) k f)),some (LN (Rg.orb (fS rz oz s) f k)),x',ww]=.ok (C.map nD):=by
    intro gg ww th ln
    refine zfH (d:=LN C) (zlZ (d:=LN (Rg.orb (fS rz oz s) f k)) rfl (zgy (i:=((Rg.orb (fS rz oz s) f k).idxOf (Rg.it (fS rz oz s) k f):Nat)) (ztg (d:=LN (Rg.orb (fS rz oz s) f k)) rfl rfl (zae (d:=nD (Rg.it (fS rz oz s) k f)) rfl zah) (zoH k2))) rfl ?_) rfl
    rw [zjt (by omega),hC]
   refine (zad ((zaW (sl _ _ _ _)).trans i4)).trans ?_
   exact zad ((zaW (sl _ _ _ _)).trans i5)
end
end Law
section
set_option exponentiation.threshold 3000
namespace Law
open PySem PyProof.Rows L2 DL Fq
section
variable {rz:List (List Nat)} {n:Nat}
theorem zrm (w:List Nat):OL (w.map some)=LN w:=by
 show D.lst _=D.lst _
 rw [List.map_map]; rfl
theorem zmd (R:Rws rz n n) {w:List Nat} (hw:w.Perm (List.range n)):zaU [WD rz,LN w,LN (List.range n)]=.ok (TN (zbP rz n w)):=by
 have hn7:=R.n7
 have hn1:=R.n1
 have ok:=Rg.zuC (W:=Wr rz) R.hW hw
 have lw:w.length=n:=by rw [hw.length_eq]; simp
 have S:Snd rz (w.map some) ⟨List.range n,List.range n⟩:=by
  refine ⟨by rw [zf4]; exact ok,fun h hh=>by rw [R.rl]; exact List.mem_range.mp hh,fun h hh=>by rw [List.length_map,lw]; exact List.mem_range.mp hh,fun h hh=>?_,by simp; omega,by simp; omega⟩
  rw [(R.row (List.mem_range.mp hh)).length_eq]; simp; omega
 obtain ⟨g',T',y1,y2,y3,y4,j1,j2,j3⟩:=zqi (rz:=rz) (oz:=w.map some) (a:=rw' rz n w) (n:=n) (some (LN (List.range n))) 64 ⟨List.range n,List.range n⟩ ((List.range n).map fun _=>none) none none none none S (by rw [zf4]; exact zl8 rz n w) (by simp; omega) (fun h hh=>List.mem_range.mp hh) (by simp) (fun h hh hn=>absurd (List.mem_range.mpr hh) hn)
 rw [zrm] at j3
 refine zaI (B:=zbg) (n:=10) ?_
 unfold zbg
 have hg:g'=(List.range n).map fun h=>some (rw' rz n w h):=by
  refine List.ext_getElem? fun h=>?_
  by_cases hh:h < n
  ·rw [j2 h hh,List.getElem?_map,List.getElem?_range hh]; rfl
  ·rw [List.getElem?_eq_none (by omega),List.getElem?_eq_none (by simp; omega)]
 have hfin:tupD [.lst (g'.map oD)]=some (TN (zbP rz n w)):=by
  rw [e_tupL,hg,List.map_map]
  show some (D.tup _)=some (D.tup _)
  unfold zbP
  rw [List.map_map]; rfl
 obtain ⟨r0,hr0,hr0m⟩:=R.ix0
 refine (zad (zat (d:=LN (List.range n)) (zaX (zae (d:=nD n) (zaX (zae (zap (a:=WD rz) (b:=.int 0) rfl rfl hr0) zah) hr0m) zah) (zh4 (by omega))))).trans ?_
 refine (zad (zat (d:=LN (List.range n)) (zaX (zae (d:=LN (List.range n)) rfl zah) rfl))).trans ?_
 refine (zad (zat (zdL (l:=List.range n) nD (fun _=>true) (fun _=>.non) rfl (by simp; omega) fun h hh=>⟨[some (nD h)],rfl,rfl,fun _=>rfl⟩))).trans ?_
 rw [zeg]
 have em:(List.range n).map (fun _=>D.non)=((List.range n).map fun _=>(none:Option Nat)).map oD:=by rw [List.map_map]; rfl
 rw [em]
 refine (zad j3).trans ?_
 exact zav (zaD (zaX (zae (d:=.lst (g'.map oD)) rfl zah) hfin))
end
end Law
end
section
set_option exponentiation.threshold 3000
namespace Law
open PySem PyProof.Rows L2 DL Fq
structure Tb (n m:Nat) (tb:List (List (Int × Nat))):Prop where
 len:tb.length=n
 row:∀r∈tb,r.length=m/\∀q∈r,Bd 7 q/\Int.gcd q.1 (q.2:Nat)=1
theorem ziA {n m:Nat} {tb:List (List (Int × Nat))} (T:Tb n m tb) (hm:m<=60):zbZ [TTF tb,nD n,nD m]=.ok (.bl true):=by
 refine zaI (B:=zb1) (n:=4) ?_
 unfold zb1
 refine (zad ((if_f ?_).trans (e_skip _))).trans ?_
 ·rw [or_f (zeE (b:=true) (zb5 (zlC (a:=TTF tb) (d:=.bl true) rfl rfl) rfl))]
  have:=zot n n
  rw [decide_eq_true rfl] at this
  exact zaF (zap (a:=nD n) (b:=nD n) (zaX (zae (d:=TTF tb) rfl zah) (by rw [zdb,T.len])) rfl this)
 have lp:∀(l:List (List (Int × Nat))) (x:Option D),(∀r∈l,r∈tb)->∃y,forF (ftN 3) zdz (l.map TF) [some (TTF tb),some (nD n),some (nD m),x]=.nx [some (TTF tb),some (nD n),some (nD m),y]:=by
  intro l
  induction l with
  | nil=>exact fun x _=>⟨x,zaY⟩
  | cons r l ih=>
   intro x hr
   obtain ⟨y,hy⟩:=ih (some (TF r)) fun z hz=>hr z (List.mem_cons_of_mem _ hz)
   refine ⟨y,?_⟩
   obtain ⟨h1,h2⟩:=T.row r (hr r List.mem_cons_self)
   rw [List.map_cons,<-hy]
   refine zby (r1:=[some (TTF tb),some (nD n),some (nD m),some (TF r)]) rfl ?_
   refine zad ((if_f ?_).trans (e_skip _))
   rw [or_f (zeE (b:=true) (zb5 (zlC (a:=TF r) (d:=.bl true) rfl rfl) rfl))]
   have hne:=zot m m
   rw [decide_eq_true rfl] at hne
   rw [or_f (zaF (zap (a:=nD m) (b:=nD m) (zaX (zae (d:=TF r) rfl zah) (by rw [zdb,h1])) rfl hne))]
   refine zeE (b:=true) (zb5 (d:=.bl true) (zaX (zae (zdc (l:=r) FR (fun _=>.bl true) (zfH (d:=TF r) rfl rfl) (by omega) fun q hq=>⟨[some (FR q)],rfl,?_⟩) zah) ?_) rfl)
   ·exact zan (zae (d:=FR q) rfl zah) (zn3 (h2 q hq).1 (h2 q hq).2 (by omega))
   ·have:=zuA (fun _:Int × Nat=>true) r
    rw [List.all_eq_true.mpr (fun _ _=>rfl)] at this
    exact this
 obtain ⟨y,hy⟩:=lp tb none fun r hr=>hr
 refine (zad ((zaW (zfH (d:=TTF tb) rfl rfl)).trans hy)).trans ?_
 exact zav (zaD (d:=.bl true) rfl)
theorem ztk (l:List (Int × Nat)):PyData.eqv (toPy (TF l)) (toPy (TF l))=true:=by
 simp only [toPy,PyData.eqv]; exact zkP l
theorem zi7:∀t:List (List (Int × Nat)),PyData.eqvAll (zeu (t.map TF)) (zeu (t.map TF))=true
 | []=>by simp [zeu,PyData.eqvAll]
 | l::t=>by
  have h1:=ztk l
  have h2:=zi7 t
  simp only [List.map_cons,zeu,PyData.eqvAll,h1,h2,Bool.and_self]
theorem zrb (t:List (List (Int × Nat))):eqB (TTF t) (TTF t)=some true:=by
 have sh:Shp 60 (TTF t):=zgr.mpr fun d hd=>by
  obtain ⟨l,_,rfl⟩:=List.mem_map.mp hd
  exact zgr.mpr ztU
 rw [zoQ rfl sh sh]
 unfold eqb
 simp only [toPy,PyData.eqv,zi7]
theorem zra (t:List (List (Int × Nat))):eqD (TTF t) (TTF t)=some (.bl true):=by unfold eqD; rw [zrb]; rfl
theorem ztr {s1:FS} {r r':Rho} {w:List (List D)} (h:s1 r=.nx r'):embF s1 r w=some (r',w):=by unfold embF; rw [h]
theorem zl2 {f1 f2:FS2} {r r':Rho} {w w':List (List D)} (h:f1 r w=some (r',w')):zis f1 f2 r w=f2 r' w':=by unfold zis; rw [h]; rfl
theorem znJ {f1:FS2} {F:Rho->List (List D)->Out} {r r':Rho} {w w':List (List D)} (h:f1 r w=some (r',w')):zlK f1 F r w=F r' w':=by unfold zlK; rw [h]
theorem zi3 {ft:FT} {b:FS2} {r r1 r':Rho} {w w':List (List D)} {d:D} {ds:List D} (h1:ft d r=some r1) (h2:b r1 w=some (r',w')):zgT ft b (d::ds) r w=zgT ft b ds r' w':=by
 show ((ft d r).bind fun r1=>(b r1 w).bind fun p=>zgT ft b ds p.1 p.2)=_
 rw [h1,Option.bind_some,h2]; rfl
theorem zkB {fi:FI} {ft:FT} {b:FS2} {r:Rho} {w:List (List D)} {ds:List D} (h:fi r=.ok ds):zgI fi ft b r w=zgT ft b ds r w:=by unfold zgI; rw [h]
theorem zos {i:Nat} {f:FE} {F:Rho->List (List D)->Out} {r:Rho} {w:List (List D)} (h:f r=.ok (.lst (w.map D.lst))):zmM (zmg i f) F r=F (r.set i none) w:=by
 unfold zmM zmg
 rw [h]
 simp only []
 rw [zlJ]; rfl
def MW (n m:Nat) (c:Nat->Nat->Nat):List (List D):=(List.range n).map fun h=>(List.range m).map fun t=>nD (c h t)
theorem zga {n m:Nat} {c c':Nat->Nat->Nat} (h:∀i,i < n->∀t,t < m->c i t=c' i t):MW n m c=MW n m c':=
 List.map_congr_left fun i hi=>List.map_congr_left fun t ht=>by rw [h i (List.mem_range.mp hi) t (List.mem_range.mp ht)]
def bmp (c:Nat->Nat->Nat) (h t:Nat):Nat->Nat->Nat:=fun i x=>if i=h/\x=t then c i x + 1 else c i x
theorem zsY {n h:Nat} (hh:h < n):ixN n (h:Int)=some h:=by
 unfold ixN
 rw [if_pos (by omega),if_pos (by omega),Int.toNat_natCast]
theorem ztJ {n m h t:Nat} (c:Nat->Nat->Nat) (hh:h < n) (ht:t < m):upAt (MW n m c) (h:Int) (t:Int) 1=some (MW n m (bmp c h t)):=by
 have l1:(MW n m c).length=n:=by unfold MW; simp
 have g1:(MW n m c)[h]? = some ((List.range m).map fun t=>nD (c h t)):=by unfold MW; rw [List.getElem?_map,List.getElem?_range hh]; rfl
 have l2:((List.range m).map fun t=>nD (c h t)).length=m:=by simp
 have g2:((List.range m).map fun t=>nD (c h t))[t]? = some (.int (c h t:Int)):=by rw [List.getElem?_map,List.getElem?_range ht]; rfl
 unfold upAt
 rw [l1,zsY hh,Option.bind_some,g1,Option.bind_some,l2,zsY ht,Option.bind_some,g2]
 show some _=some _
 congr 1
 refine List.ext_getElem? fun i=>?_
 by_cases hi:i=h
 ·subst hi
  rw [List.getElem?_set_self (by rw [l1]; exact hh)]
  unfold MW
  rw [List.getElem?_map,List.getElem?_range hh]
  show some _=some _
  congr 1
  refine List.ext_getElem? fun x=>?_
  by_cases hx:x=t
  ·subst hx
   rw [List.getElem?_set_self (by rw [l2]; exact ht),List.getElem?_map,List.getElem?_range ht]
   show some (D.int _)=some (D.int _)
   unfold bmp
   rw [if_pos ⟨rfl,rfl⟩]; rfl
  ·rw [List.getElem?_set_ne (fun z=>hx z.symm),List.getElem?_map,List.getElem?_map]
   rcases Nat.lt_or_ge x m with z | z
   ·rw [List.getElem?_range z]
    show some (nD _)=some (nD _)
    unfold bmp
    rw [if_neg fun q=>hx q.2]
   ·rw [List.getElem?_eq_none (by simpa using z)]; rfl
 ·rw [List.getElem?_set_ne (fun z=>hi z.symm)]
  unfold MW
  rw [List.getElem?_map,List.getElem?_map]
  rcases Nat.lt_or_ge i n with z | z
  ·rw [List.getElem?_range z]
   show some _=some _
   congr 1
   refine List.map_congr_left fun x _=>?_
   unfold bmp
   rw [if_neg fun q=>hi q.1]
  ·rw [List.getElem?_eq_none (by simpa using z)]; rfl
abbrev iB:FS2:=(zis (zoI 6 7 1) (fun r w=>some (r,w)))
abbrev oB:FS2:=(zis (zgI (fEnu (zaE (zac (gv 2) (zac (gv 5) (zac (fC (zac (gv 1) lNil) zh5) lNil))) [] zaU)) (ftT (zcQ (ftN 6) (zcQ (ftN 7) zi2))) iB) (fun r w=>some (r,w)))
theorem zt0 {rz:List (List Nat)} {n:Nat} (R:Rws rz n n) {w:List Nat} (hw:w.Perm (List.range n)) {h:Nat} (hh:h < n):rw' rz n w h < n:=
 List.mem_range.mp (Rg.zp2 (zl8 rz n w) (Rg.zuC (W:=Wr rz) R.hW hw) h (List.mem_range.mpr hh))
theorem zm9 {a0 a1 a2 a4 a5 a8 a9:Option D} {n m:Nat} (d:Nat->Nat):∀(j k:Nat) (c:Nat->Nat->Nat) (x7 x8:Option D),k + j<=n->(∀h,h < n->d h < m) ->
  ∃y7 y8,zgT (ftT (zcQ (ftN 6) (zcQ (ftN 7) zi2))) iB (enuD k ((List.range' k j).map fun h=>nD (d h))) [a0,a1,a2,none,a4,a5,x7,x8,a8,a9] (MW n m c)=some ([a0,a1,a2,none,a4,a5,y7,y8,a8,a9],MW n m fun h t=>c h t + if k<=h/\h < k + j/\d h=t then 1 else 0)
 | 0,k,c,x7,x8,_,_=>⟨x7,x8,by
  have e:MW n m c=MW n m fun h t=>c h t + if k<=h/\h < k + 0/\d h=t then 1 else 0:=zga fun i _ t _=>by rw [if_neg (fun q=>by omega)]; rfl
  rw [<-e]; rfl⟩
 | j + 1,k,c,x7,x8,hj,hd=>by
  obtain ⟨y7,y8,ih⟩:=zm9 (a0:=a0) (a1:=a1) (a2:=a2) (a4:=a4) (a5:=a5) (a8:=a8) (a9:=a9) d j (k + 1) (bmp c k (d k)) (some (nD k)) (some (nD (d k))) (by omega) hd
  refine ⟨y7,y8,?_⟩
  have e:MW n m (fun h t=>bmp c k (d k) h t + if k + 1<=h/\h < k + 1 + j/\d h=t then 1 else 0)=MW n m fun h t=>c h t + if k<=h/\h < k + (j + 1)/\d h=t then 1 else 0:=zga fun i _ t _=>by
   unfold bmp
   by_cases c1:i=k
   ·subst c1
    by_cases c2:t=d i
    ·subst c2
     rw [if_pos ⟨rfl,rfl⟩,if_neg (fun q=>by omega),if_pos ⟨Nat.le_refl _,by omega,rfl⟩]
    ·rw [if_neg (fun q=>c2 q.2),if_neg (fun q=>by omega),if_neg (fun q=>c2 q.2.2.symm)]
   ·rw [if_neg (fun q=>c1 q.1)]
    congr 1
    by_cases c2:k + 1<=i/\i < k + 1 + j/\d i=t
    ·rw [if_pos c2,if_pos ⟨by omega,by omega,c2.2.2⟩]
    ·rw [if_neg c2,if_neg fun q=>c2 ⟨by omega,by omega,q.2.2⟩]
  rw [<-e,<-ih]
  refine zi3 (r1:=[a0,a1,a2,none,a4,a5,some (nD k),some (nD (d k)),a8,a9]) rfl ((zl2 (r':=[a0,a1,a2,none,a4,a5,some (nD k),some (nD (d k)),a8,a9]) (w':=MW n m (bmp c k (d k))) ?_).trans rfl)
  show (upAt (MW n m c) (k:Int) (d k:Int) 1).map _=_
  rw [ztJ c (by omega) (hd k (by omega))]; rfl
theorem ztp {f:FE} {r:Rho} {d:D} {ds:List D} (h:f r=.ok d) (h2:za7 d=some ds):fEnu f r=.ok (enuD 0 ds):=by unfold fEnu; rw [h,bind_ok,h2]; rfl
theorem zkr {a0 a4 a8 a9:Option D} {rz:List (List Nat)} {n:Nat} (R:Rws rz n n):∀(l:List (List Nat)) (c:Nat->Nat->Nat) (x5 x6 x7:Option D),(∀o∈l,o.Perm (List.range n)) ->
  ∃y5 y6 y7,zgT (ftN 5) oB (l.map LN) [a0,some (nD n),some (WD rz),none,a4,x5,x6,x7,a8,a9] (MW n n c)=some ([a0,some (nD n),some (WD rz),none,a4,y5,y6,y7,a8,a9],MW n n fun h t=>c h t + l.countP fun o=>decide (rw' rz n o h=t))
 | [],c,x5,x6,x7,_=>⟨x5,x6,x7,rfl⟩
 | o::l,c,x5,x6,x7,hp=>by
  have ho:=hp o List.mem_cons_self
  have hn7:=R.n7
  obtain ⟨z6,z7,e1⟩:=zm9 (a0:=a0) (a1:=some (nD n)) (a2:=some (WD rz)) (a4:=a4) (a5:=some (LN o)) (a8:=a8) (a9:=a9) (m:=n) (rw' rz n o) n 0 c x6 x7 (by omega) (fun h hh=>zt0 R ho hh)
  obtain ⟨y5,y6,y7,ih⟩:=zkr (a0:=a0) (a4:=a4) (a8:=a8) (a9:=a9) R l (fun h t=>c h t + if 0<=h/\h < 0 + n/\rw' rz n o h=t then 1 else 0) (some (LN o)) z6 z7 (fun x hx=>hp x (List.mem_cons_of_mem _ hx))
  refine ⟨y5,y6,y7,?_⟩
  have e:MW n n (fun h t=>(c h t + if 0<=h/\h < 0 + n/\rw' rz n o h=t then 1 else 0) + l.countP fun o=>decide (rw' rz n o h=t))=MW n n fun h t=>c h t + (o::l).countP fun o=>decide (rw' rz n o h=t):=zga fun i hi t _=>by
   rw [List.countP_cons]
   by_cases c1:rw' rz n o i=t
   ·rw [if_pos ⟨Nat.zero_le _,by omega,c1⟩,if_pos (decide_eq_true c1)]; omega
   ·rw [if_neg (fun q=>c1 q.2.2),if_neg (by rw [decide_eq_false c1]; simp)]; omega
  rw [<-e,<-ih]
  refine zi3 (r1:=[a0,some (nD n),some (WD rz),none,a4,some (LN o),x6,x7,a8,a9]) rfl ((zl2 ((zkB (ds:=enuD 0 ((List.range' 0 n).map fun h=>nD (rw' rz n o h))) ?_).trans e1)).trans rfl)
  refine ztp (zan (zae (d:=WD rz) rfl (zae (d:=LN o) rfl (zae (d:=LN (List.range n)) (zaX (zae (d:=nD n) rfl zah) (zh4 (by omega))) zah))) (zmd R ho)) ?_
  rw [<-List.range_eq_range']
  show some ((zbP rz n o).map nD)=_
  unfold zbP
  rw [List.map_map]; rfl
end Law
end
section
set_option exponentiation.threshold 3000
namespace Law
open PySem PyProof.Rows L2 DL Fq
theorem zt1 {rz:List (List Nat)} {n h:Nat} {o:List Nat} (hh:h < n):(zbP rz n o).getD h 0=rw' rz n o h:=by
 unfold zbP
 rw [List.getD_eq_getElem?_getD,List.getElem?_map,List.getElem?_range hh]; rfl
theorem zre {rz:List (List Nat)} {n:Nat} {rs:List (List Nat)} {h:Nat} (hh:h < n) (t:Nat):(col (rs.map (zbP rz n)) h).count t=rs.countP fun o=>decide (rw' rz n o h=t):=by
 unfold col
 rw [List.map_map,List.count_eq_countP,List.countP_map]
 refine List.countP_congr fun o _=>?_
 simp only [Function.comp_apply,zt1 hh]
 simp
theorem zts {rz:List (List Nat)} {n:Nat} {rs:List (List Nat)} (p:rs.Perm (lvl n)):(List.range n).map (fun h=>(List.range n).map fun t=>low ((rs.countP fun o=>decide (rw' rz n o h=t):Nat):Int) rs.length)=ownT (lvl n) rz n:=by
 unfold ownT shr
 refine List.map_congr_left fun h hh=>List.map_congr_left fun t _=>?_
 rw [zre (List.mem_range.mp hh),List.length_map,p.length_eq,p.countP_eq]
theorem zsp {rz:List (List Nat)} {n:Nat} {rs:List (List Nat)} (h5:n<=5) (h2:rs.length=fc n):Tb n n (ownT rs rz n):=by
 have hfc:=zlB h5
 have hfp:=zkN n
 refine ⟨by unfold ownT; simp,fun r hr=>?_⟩
 unfold ownT at hr
 obtain ⟨h,_,rfl⟩:=List.mem_map.mp hr
 refine ⟨by unfold shr; simp,fun q hq=>?_⟩
 unfold shr at hq
 obtain ⟨t,_,rfl⟩:=List.mem_map.mp hq
 have hN:0 < (rs.map (zbP rz n)).length:=by rw [List.length_map]; omega
 refine ⟨Bd.low hN (by rw [List.length_map]; omega) ?_,zqX _ hN⟩
 have:(col (rs.map (zbP rz n)) h).count t<=(col (rs.map (zbP rz n)) h).length:=List.count_le_length
 rw [show (col (rs.map (zbP rz n)) h).length=rs.length by unfold col; simp] at this
 rw [Int.natAbs_natCast]; omega
theorem zoR {a0 a1 a2 a5 a6 a7 a8 a9:Option D} {n m:Nat} {rs:List (List Nat)} {c:Nat->Nat->Nat} (hn:n<=60) (hm:m<=60) (h0:0 < rs.length) (h1:rs.length<=120) :
  fC (zac (zbz 1 [4] (fSeq za7 (gv 3)) (ftN 0) (fun _=>Res.ok true) (fC (zac (zbz 1 [1] (fSeq za7 (gv 0)) (ftN 0) (fun _=>Res.ok true) (zaE (zac (gv 0) (zac (fC (zac (gv 1) lNil) lenD) lNil)) [] zdC)) lNil) tupD)) lNil) tupD [a0,a1,a2,some (.lst ((MW n m c).map D.lst)),some (LL rs),a5,a6,a7,a8,a9]=.ok (TTF ((List.range n).map fun h=>(List.range m).map fun t=>low ((c h t:Nat):Int) rs.length)):=by
 refine zaX (zae (zdc (l:=List.range n) (fun h=>D.lst ((List.range m).map fun t=>nD (c h t))) (fun h=>TF ((List.range m).map fun t=>low ((c h t:Nat):Int) rs.length)) (zfH (d:=.lst ((MW n m c).map D.lst)) rfl (by unfold MW; rw [List.map_map]; rfl)) (by simp; omega) fun h _=>⟨[some (D.lst ((List.range m).map fun t=>nD (c h t))),some (LL rs)],rfl,zaX (zae (zdc (l:=List.range m) (fun t=>nD (c h t)) (fun t=>FR (low ((c h t:Nat):Int) rs.length)) (zfH (d:=D.lst ((List.range m).map fun t=>nD (c h t))) rfl rfl) (by simp; omega) fun t _=>⟨[some (nD (c h t)),some (LL rs)],rfl,zan (zae (d:=nD (c h t)) rfl (zae (d:=nD rs.length) (zaX (zae (d:=LL rs) rfl zah) (zcf _ _)) zah)) (zqe (k:=7) h0 (by omega) (by omega))⟩) zah) ?_⟩) zah) ?_
 ·rw [e_tupL]
  show some (D.tup _)=some (D.tup (List.map FR _))
  rw [List.map_map]; rfl
 ·rw [e_tupL]
  show some (D.tup _)=some (D.tup (List.map TF _))
  rw [List.map_map]; rfl
theorem zlP {a0 a2:Option D} {n:Nat} (hn:n<=60):zbz 1 [1] (fRng rng1 (zac (gv 1) lNil)) (ftN 0) (fun _=>Res.ok true) (zbz 1 [] (fRng rng1 (zac (gv 1) lNil)) (ftN 0) (fun _=>Res.ok true) (ci 0)) [a0,some (nD n),a2,none,none,none,none,none,none,none]=.ok (.lst ((MW n n fun _ _=>0).map D.lst)):=by
 have e:(MW n n fun _ _=>0).map D.lst=(List.range n).map fun _=>D.lst ((List.range n).map fun _=>nD 0):=by unfold MW; rw [List.map_map]; rfl
 rw [e]
 refine zdc (l:=List.range n) nD (fun _=>D.lst ((List.range n).map fun _=>nD 0)) (zcR (zae (d:=nD n) rfl zah) (zd9 (by omega))) (by simp; omega) fun h _=>⟨[some (nD h),some (nD n)],rfl,?_⟩
 exact zdc (l:=List.range n) nD (fun _=>nD 0) (zcR (zae (d:=nD n) rfl zah) (zd9 (by omega))) (by simp; omega) fun x _=>⟨[some (nD x)],rfl,rfl⟩
theorem main (ns:List Int) (_:ns.length<=63):ztF [.lst (ns.map .int)]=.ok (.bl true):=by
 obtain ⟨c1,h1⟩:=zkj ns 1 (by omega)
 have hn5:c1 % 5 < 5:=Nat.mod_lt _ (by omega)
 generalize hn:1 + c1 % 5=n
 obtain ⟨rz,r1,r2,r3⟩:=zld ns 2 n n (by omega) (by omega) (by omega)
 have R:Rws rz n n:=⟨by omega,by omega,by omega,by omega,r1,r2⟩
 obtain ⟨rs,p,ha⟩:=zn2 (k:=n) (by omega)
 have hl:rs.length=fc n:=by rw [p.length_eq,zeO]
 have hfc:=zlB (i:=n) (by omega)
 have hfp:=zkN n
 have hlot:=zjE R (by omega) (ze6 n) (zeO n) (zqg (k:=n) (by omega))
 obtain ⟨y5,y6,y7,hw⟩:=zkr (a0:=some (IN ns)) (a4:=some (LL rs)) (a8:=none) (a9:=none) R rs (fun _ _=>0) none none none (fun o ho=>ze6 n o (p.mem_iff.mp ho))
 refine zaI (B:=zo5) (n:=10) ?_
 unfold zo5
 refine (zad (zat (d:=nD n) (zap (a:=nD 1) (b:=nD (c1 % 5)) rfl (zap (a:=nD c1) (b:=nD 5) (zan (zae (d:=IN ns) rfl (zae (d:=nD 1) rfl zah)) h1) rfl (zpB (by decide))) (by rw [zhB,hn])))).trans ?_
 refine (zad (zat (d:=WD rz) (zan (zae (d:=IN ns) rfl (zae (d:=nD 2) rfl (zae (d:=nD n) rfl (zae (d:=nD n) rfl zah)))) r3))).trans ?_
 refine (zos (zlP (by omega))).trans ?_
 refine (znJ (ztr (zat (d:=LL rs) (zan (zae (d:=nD n) rfl zah) ha)))).trans ?_
 refine (znJ ((zkB (ds:=rs.map LN) rfl).trans hw)).trans ?_
 have dc:=zoR (a0:=some (IN ns)) (a1:=some (nD n)) (a2:=some (WD rz)) (a5:=y5) (a6:=y6) (a7:=y7) (a8:=none) (a9:=none) (n:=n) (m:=n) (rs:=rs) (c:=fun h t=>0 + rs.countP fun o=>decide (rw' rz n o h=t)) (by omega) (by omega) (by omega) (by omega)
 simp only [Nat.zero_add] at dc
 rw [zts p] at dc
 have e0:(MW n n fun h t=>0 + rs.countP fun o=>decide (rw' rz n o h=t))=MW n n fun h t=>rs.countP fun o=>decide (rw' rz n o h=t):=zga fun i _ t _=>Nat.zero_add _
 rw [e0]
 refine (zad (zat (d:=TTF (ownT (lvl n) rz n)) dc)).trans ?_
 refine (zad (zat (d:=TTF (ownT (lvl n) rz n)) (zan (zae (d:=WD rz) rfl zah) hlot))).trans ?_
 refine zav (zaD ?_)
 rw [zj6 (zan (zae (d:=TTF (ownT (lvl n) rz n)) rfl (zae (d:=nD n) rfl (zae (d:=nD n) rfl zah))) (ziA (zsp (by omega) (zeO n)) (by omega)))]
 exact zap (a:=TTF (ownT (lvl n) rz n)) (b:=TTF (ownT (lvl n) rz n)) rfl rfl (zra _)
end Law
end
open PySem PySem.W PyProof.Rows
abbrev P0:=PySem.Challenge.rw_ringtrade_k24_lots_by_ownings.prog
namespace PySem.W.Fast
def tw14484993524707368899:=0
def tw12678000505265138286:=0
def tw15348353364656959745:=0
def tw2000998192919499027:=0
def tw9789349934003413799:=0
def tw4641732357050200073:=0
def tw17473443085566723552:=0
def tw9153134715389879215:=0
def tw10230209849975392259:=0
def tw4557499955936846178:=0
def tw9256993484159460602:=0
def tw14248455359549515761:=0
def tw15183832968843314998:=0
def tw6105077892860865309:=0
def tw4706065529918220858:=0
def tw10046775437653765103:=0
def tw13718351995451528347:=0
def tw3243357938197050339:=0
def tw2998750800671453196:=0
def tw16184015803733261179:=0
def tw9536549594287745891:=0
def tw12018768572311716422:=0
def tw5904831582458267674:=0
def tw14385296297820679856:=0
def tw384809853699572865:=0
def tw12481551990499888776:=0
def tw16501436070874148098:=0
end PySem.W.Fast
set_option maxRecDepth 100000 in
set_option maxHeartbeats 0 in
theorem PySem.Challenge.cw_ringtrade_k24_lots_by_ownings_holds : PySem.Challenge.rw_ringtrade_k24_lots_by_ownings.Holds := by
 w_on; o_law; k_head; (case hw=>w_witness2)
 k_fill
 refine DL.zuH (l:=PySem.Challenge.rw_ringtrade_k24_lots_by_ownings) (k:=10) (x := "_law_script") (F:=Law.ztF) rfl rfl ⟨rfl,by decide,by decide,rfl⟩ (fun w h Y=>PySem.W.kIn_of Y) Law.main ?C
 intro w mg fa h KX G hmg
 have T:Law.Txt (L2.KOf KX) mg:=by
  dsimp only [L2.KOf]
  refine ⟨?uj,?uk,?ul,?um,?un,?uo,?up,?uq,?ur,?ut,?uu,?uv⟩
  case uj|uk|ul|um|un|uo|up|uq|ur|ut|uu=>(refine' PySem.W.mg_none_of KX G ?_; k_is)
  case uv=>(refine' DL.zuF KX G ?z; case z=>k_is)
 have uw:DL.DefAt (L2.KOf KX) mg "_law_row" Law.zgm:=by
  dsimp only [L2.KOf]
  refine' DL.zuG KX G ?a ?l ?c ?k
  case a|l|c|k=>k_is
 have ux:DL.DefAt (L2.KOf KX) mg "_law_cell" Law.zfE:=by
  dsimp only [L2.KOf]
  refine' DL.zuG KX G ?a ?l ?c ?k
  case a|l|c|k=>k_is
 have uy:DL.DefAt (L2.KOf KX) mg "_law_wishes" Law.zcc:=by
  dsimp only [L2.KOf]
  refine' DL.zuG KX G ?a ?l ?c ?k
  case a|l|c|k=>k_is
 have uz:DL.DefAt (L2.KOf KX) mg "_law_all_orders" Law.zc6:=by
  dsimp only [L2.KOf]
  refine' DL.zuG KX G ?a ?l ?c ?k
  case a|l|c|k=>k_is
 have u0:DL.DefAt (L2.KOf KX) mg "things_in" Law.zfA:=by
  dsimp only [L2.KOf]
  refine' DL.zuG KX G ?a ?l ?c ?k
  case a|l|c|k=>k_is
 have u1:DL.DefAt (L2.KOf KX) mg "is_square" Law.zfD:=by
  dsimp only [L2.KOf]
  refine' DL.zuG KX G ?a ?l ?c ?k
  case a|l|c|k=>k_is
 have u2:DL.DefAt (L2.KOf KX) mg "refuse_unless_square" Law.zbN:=by
  dsimp only [L2.KOf]
  refine' DL.zuG KX G ?a ?l ?c ?k
  case a|l|c|k=>k_is
 have u3:DL.DefAt (L2.KOf KX) mg "refuse_too_many_for_lots" Law.zbj:=by
  dsimp only [L2.KOf]
  refine' DL.zuG KX G ?a ?l ?c ?k
  case a|l|c|k=>k_is
 have u4:DL.DefAt (L2.KOf KX) mg "greatest_divisor" Law.zcJ:=by
  dsimp only [L2.KOf]
  refine' DL.zuG KX G ?a ?l ?c ?k
  case a|l|c|k=>k_is
 have u5:DL.DefAt (L2.KOf KX) mg "is_whole" Law.zgj:=by
  dsimp only [L2.KOf]
  refine' DL.zuG KX G ?a ?l ?c ?k
  case a|l|c|k=>k_is
 have u6:DL.DefAt (L2.KOf KX) mg "fraction" Law.zgl:=by
  dsimp only [L2.KOf]
  refine' DL.zuG KX G ?a ?l ?c ?k
  case a|l|c|k=>k_is
 have u7:DL.DefAt (L2.KOf KX) mg "shares_in" Law.zbJ:=by
  dsimp only [L2.KOf]
  refine' DL.zuG KX G ?a ?l ?c ?k
  case a|l|c|k=>k_is
 have u8:DL.DefAt (L2.KOf KX) mg "is_below" Law.zgk:=by
  dsimp only [L2.KOf]
  refine' DL.zuG KX G ?a ?l ?c ?k
  case a|l|c|k=>k_is
 have u9:DL.DefAt (L2.KOf KX) mg "first_wrong" Law.zey:=by
  dsimp only [L2.KOf]
  refine' DL.zuG KX G ?a ?l ?c ?k
  case a|l|c|k=>k_is
 have va:DL.DefAt (L2.KOf KX) mg "are_unlike" Law.ze0:=by
  dsimp only [L2.KOf]
  refine' DL.zuG KX G ?a ?l ?c ?k
  case a|l|c|k=>k_is
 have vb:DL.DefAt (L2.KOf KX) mg "has_each_once" Law.zd2:=by
  dsimp only [L2.KOf]
  refine' DL.zuG KX G ?a ?l ?c ?k
  case a|l|c|k=>k_is
 have vc:DL.DefAtD (L2.KOf KX) mg "order_of" Law.zgi [Value.none]:=by
  dsimp only [L2.KOf]
  refine' DL.zux KX G ?a ?l ?t ?c ?k
  case a|l|t|c|k=>k_is
 have vd:DL.DefAt (L2.KOf KX) mg "best_left" Law.zc5:=by
  dsimp only [L2.KOf]
  refine' DL.zuG KX G ?a ?l ?c ?k
  case a|l|c|k=>k_is
 have ve:DL.DefAt (L2.KOf KX) mg "owner_left" Law.zeZ:=by
  dsimp only [L2.KOf]
  refine' DL.zuG KX G ?a ?l ?c ?k
  case a|l|c|k=>k_is
 have vf:DL.DefAt (L2.KOf KX) mg "hand_pointed_at" Law.zc4:=by
  dsimp only [L2.KOf]
  refine' DL.zuG KX G ?a ?l ?c ?k
  case a|l|c|k=>k_is
 have vg:DL.DefAt (L2.KOf KX) mg "ring_from" Law.zfB:=by
  dsimp only [L2.KOf]
  refine' DL.zuG KX G ?a ?l ?c ?k
  case a|l|c|k=>k_is
 have vh:DL.DefAt (L2.KOf KX) mg "rings_of_round" Law.zaJ:=by
  dsimp only [L2.KOf]
  refine' DL.zuG KX G ?a ?l ?c ?k
  case a|l|c|k=>k_is
 have vi:DL.DefAt (L2.KOf KX) mg "got_in" Law.zio:=by
  dsimp only [L2.KOf]
  refine' DL.zuG KX G ?a ?l ?c ?k
  case a|l|c|k=>k_is
 have vj:DL.DefAtD (L2.KOf KX) mg "rounds" Law.zdr [Value.none]:=by
  dsimp only [L2.KOf]
  refine' DL.zux KX G ?a ?l ?t ?c ?k
  case a|l|t|c|k=>k_is
 have vk:DL.DefAt (L2.KOf KX) mg "dealing_of" Law.zcw:=by
  dsimp only [L2.KOf]
  refine' DL.zuG KX G ?a ?l ?c ?k
  case a|l|c|k=>k_is
 have uc:DL.DefAtD (L2.KOf KX) mg "by_rings" Law.zeL [Value.none]:=by
  dsimp only [L2.KOf]
  refine' DL.zux KX G ?a ?l ?t ?c ?k
  case a|l|t|c|k=>k_is
 have vl:DL.DefAt (L2.KOf KX) mg "all_orders" Law.ze1:=by
  dsimp only [L2.KOf]
  refine' DL.zuG KX G ?a ?l ?c ?k
  case a|l|c|k=>k_is
 have vm:DL.DefAt (L2.KOf KX) mg "lot_of_ownings" Law.zbp:=by
  dsimp only [L2.KOf]
  refine' DL.zuG KX G ?a ?l ?c ?k
  case a|l|c|k=>k_is
 have vn:DL.DefAt (L2.KOf KX) mg "_law_common" Law.zez:=by
  dsimp only [L2.KOf]
  refine' DL.zuG KX G ?a ?l ?c ?k
  case a|l|c|k=>k_is
 have vo:DL.DefAt (L2.KOf KX) mg "_law_is_fraction" Law.zcK:=by
  dsimp only [L2.KOf]
  refine' DL.zuG KX G ?a ?l ?c ?k
  case a|l|c|k=>k_is
 have vp:DL.DefAt (L2.KOf KX) mg "_law_is_table" Law.zbB:=by
  dsimp only [L2.KOf]
  refine' DL.zuG KX G ?a ?l ?c ?k
  case a|l|c|k=>k_is
 have vq:DL.DefAt (L2.KOf KX) mg "_law_best" Law.zfF:=by
  dsimp only [L2.KOf]
  refine' DL.zuG KX G ?a ?l ?c ?k
  case a|l|c|k=>k_is
 have vr:DL.DefAt (L2.KOf KX) mg "_law_rings_dealt" Law.za4:=by
  dsimp only [L2.KOf]
  refine' DL.zuG KX G ?a ?l ?c ?k
  case a|l|c|k=>k_is
 have vs:DL.DefAt (L2.KOf KX) mg "_law_low" Law.zgn:=by
  dsimp only [L2.KOf]
  refine' DL.zuG KX G ?a ?l ?c ?k
  case a|l|c|k=>k_is
 have vt:DL.DefAt (L2.KOf KX) mg "law" Law.zfC:=by
  dsimp only [L2.KOf]
  refine' DL.zuG KX G ?a ?l ?c ?k
  case a|l|c|k=>k_is
 refine DL.zuE hmg vt (fun _ _ _ _ _ _ us hl=>match us,hl with | [_],_=>rfl) fun f fd Fn base=>?_
 have vu:=Law.zqO (P:=P0) (w:=w) (base:=base) T uw
 have ud:=Law.zpx (P:=P0) (w:=w) (base:=base) T ux
 have vv:=Law.znP (P:=P0) (w:=w) (base:=base) T uy ud vu
 have vw:=Law.zkt (P:=P0) (w:=w) (base:=base) T uz
 have ua:=Law.zpr (P:=P0) (w:=w) (base:=base) T u0
 have vx:=Law.zpu (P:=P0) (w:=w) (base:=base) T u1 ua
 have vy:=Law.zhZ (P:=P0) (w:=w) (base:=base) T u2 vx
 have vz:=Law.zgC (P:=P0) (w:=w) (base:=base) T u3
 have v0:=Law.zjF (P:=P0) (w:=w) (base:=base) T u4
 have ue:=Law.zqK (P:=P0) (w:=w) (base:=base) T u5
 have v1:=Law.zqM (P:=P0) (w:=w) (base:=base) T u6 ue v0
 have v2:=Law.zps (P:=P0) (w:=w) (base:=base) T u7 v1
 have v3:=Law.zqL (P:=P0) (w:=w) (base:=base) T u8 ue
 have v4:=Law.znO (P:=P0) (w:=w) (base:=base) T u9 v3
 have v5:=Law.zoo (P:=P0) (w:=w) (base:=base) T va v4
 have v6:=Law.zlN (P:=P0) (w:=w) (base:=base) T vb v5
 have v7:=Law.zqJ (P:=P0) (w:=w) (base:=base) T vc v6
 have v8:=Law.zpw (P:=P0) (w:=w) (base:=base) T vd
 have v9:=Law.zom (P:=P0) (w:=w) (base:=base) T ve
 have wa:=Law.zks (P:=P0) (w:=w) (base:=base) T vf v9
 have wb:=Law.zpt (P:=P0) (w:=w) (base:=base) T vg
 have wc:=Law.zlo (P:=P0) (w:=w) (base:=base) T vh v8 wa wb
 have ub:=Law.zsA (P:=P0) (w:=w) (base:=base) T vi
 have uf:=Law.zsz (P:=P0) (w:=w) (base:=base) T vj v7 ua wc ub
 have ug:=Law.zon (P:=P0) (w:=w) (base:=base) T vk
 have uh:=Law.zqN (P:=P0) (w:=w) (base:=base) T uc uf ub ug
 have uh':=Law.zpv (P:=P0) (w:=w) (base:=base) T uc uf ub ug
 have wd:=Law.zop (P:=P0) (w:=w) (base:=base) T vl
 have we:=Law.zlp (P:=P0) (w:=w) (base:=base) T vm vy vz wd uh' ua v2
 have ui:=Law.znQ (P:=P0) (w:=w) (base:=base) T vn
 have wf:=Law.zjH (P:=P0) (w:=w) (base:=base) T vo ui
 have wg:=Law.zlO (P:=P0) (w:=w) (base:=base) T vp wf
 have wh:=Law.zpy (P:=P0) (w:=w) (base:=base) T vq
 have wi:=Law.zjG (P:=P0) (w:=w) (base:=base) T vr wh
 have wj:=Law.zqP (P:=P0) (w:=w) (base:=base) T vs ui
 exact Law.zuD T Fn ud vv vw wi wj we wg
end
