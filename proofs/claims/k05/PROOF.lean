import PyProof.Rows.All
import Wide.All
import OpenK.AllK
import Wide.FinOn
import Lean
import PyProof.EqAt
import PyProof.EqKinds
import PyProof.TupleCall
import PyProof.Rows.SetFrom
import KE.KSortTup
import PyProof.Draws
import PyProof.EnumMake
import PyProof.ListRange
import PyProof.Rows.EnumRows
import PyProof.SetRoads
import PyProof.Rows.MinMaxN
import PyProof.Rows.MaxTwoN
import PyProof.ZipIter
import PySem.Challenge.RW_ringtrade_k05_texts_refused
noncomputable section
set_option Elab.async false
set_option linter.all false
set_option maxRecDepth 100000
set_option maxHeartbeats 4000000
section
namespace L2
open PySem PySem.Spec PyProof.Rows
abbrev Key:=Sum Int Str
def zi2:Key->Value->Bool
 | .inl k,v=>Value.isInt k v
 | .inr x,v=>Value.isStrOf x v
def keyH (w:World):Key->Int
 | .inl k=>hashInt k
 | .inr x=>hashStr w x
theorem keyIs_shape:∀{k:Key} {v:Value},zi2 k v=true->(∃i t,k=Sum.inl i/\v=Value.int i t)\/(∃x t,k=Sum.inr x/\v=Value.str x t)
 | .inl i,v,h=>by
  obtain ⟨t,e⟩:=Value.isInt_shape (k:=i) (v:=v) h
  exact .inl ⟨i,t,rfl,e⟩
 | .inr x,v,h=>by
  obtain ⟨t,e⟩:=Value.isStrOf_shape (x:=x) (v:=v) h
  exact .inr ⟨x,t,rfl,e⟩
theorem zkv (i:Int) (t:Tok):zi2 (.inl i) (.int i t)=true:=by simp [zi2,Value.isInt]
theorem zku (x:Str) (t:Tok):zi2 (.inr x) (.str x t)=true:=by simp [zi2,Value.isStrOf]
theorem zqz (a b:Int):decide ((Sum.inl a:Key)=Sum.inl b)=(a == b):=by
 by_cases e:a=b
 ·subst e; simp
 ·have h:¬ (Sum.inl a:Key)=Sum.inl b:=fun q=>e (Sum.inl.inj q)
  rw [decide_eq_false h]
  exact (beq_eq_false_iff_ne.mpr e).symm
theorem zqw (a b:Str):decide ((Sum.inr a:Key)=Sum.inr b)=decide (a=b):=by
 by_cases e:a=b
 ·subst e; simp
 ·have h:¬ (Sum.inr a:Key)=Sum.inr b:=fun q=>e (Sum.inr.inj q)
  rw [decide_eq_false h,decide_eq_false e]
theorem zqy (a:Int) (b:Str):decide ((Sum.inl a:Key)=Sum.inr b)=false:=decide_eq_false (fun q=>nomatch q)
theorem zqx (a:Str) (b:Int):decide ((Sum.inr a:Key)=Sum.inl b)=false:=decide_eq_false (fun q=>nomatch q)
def zbB (prog:Program) (w:World):PySem.KeyKind prog w Key where
 is:=zi2
 hash:=keyH w
 inj:=fun v a b ha hb=>by
  rcases keyIs_shape ha with ⟨i,t,rfl,rfl⟩ | ⟨x,t,rfl,rfl⟩
  ·rcases keyIs_shape hb with ⟨j,u,rfl,e⟩ | ⟨y,u,rfl,e⟩
   ·injection e with e1 _; rw [e1]
   ·exact nomatch e
  ·rcases keyIs_shape hb with ⟨j,u,rfl,e⟩ | ⟨y,u,rfl,e⟩
   ·exact nomatch e
   ·injection e with e1 _; rw [e1]
 byValue:=fun k v h=>by
  rcases keyIs_shape h with ⟨i,t,rfl,rfl⟩ | ⟨x,t,rfl,rfl⟩ <;> rfl
 pyHash:=fun hv h=>by
  rcases keyIs_shape hv with ⟨i,t,rfl,rfl⟩ | ⟨x,t,rfl,rfl⟩
  ·exact wpAny_pyHash_int h
  ·exact wpAny_pyHash_str h
 eqBool:=fun hu hv h=>by
  rcases keyIs_shape hu with ⟨i,t,rfl,rfl⟩ | ⟨x,t,rfl,rfl⟩
  ·rcases keyIs_shape hv with ⟨j,u,rfl,rfl⟩ | ⟨y,u,rfl,rfl⟩
   ·rw [zqz] at h; exact wpAny_eqBool_int h
   ·rw [zqy] at h; exact SeqAt.EqAt.int_str i t y u _ _ _ _ h
  ·rcases keyIs_shape hv with ⟨j,u,rfl,rfl⟩ | ⟨y,u,rfl,rfl⟩
   ·rw [zqx] at h; exact SeqAt.EqAt.str_int x t j u _ _ _ _ h
   ·rw [zqw] at h; exact wpAny_eqBool_str h
 «strs»:=fun k x t v h=>by
  rcases keyIs_shape h with ⟨i,u,rfl,e⟩ | ⟨y,u,rfl,e⟩
  ·exact nomatch e
  ·injection e with e1 _
   subst e1
   cases v <;> rfl
theorem zhR (prog:Program) (w:World) (i:Int) (t:Tok):(zbB prog w).is (.inl i) (.int i t)=true:=zkv i t
theorem zhQ (prog:Program) (w:World) (x:Str) (t:Tok):(zbB prog w).is (.inr x) (.str x t)=true:=zku x t
inductive V where
 | non | bl (b:Bool) | int (i:Int) | str (x:Str) | byt (b:Array UInt8) | flt (b:UInt64) | ref (a:Addr) | ty (n:String)
 deriving DecidableEq
def RelV:V->Value->Prop
 | .non,u=>u=Value.none
 | .bl b,u=>u=Value.bool b
 | .int i,u=>∃t,u=Value.int i t
 | .str x,u=>∃t,u=Value.str x t
 | .byt b,u=>∃t,u=Value.bytes b t
 | .flt b,u=>∃t,u=Value.float b t
 | .ref a,u=>u=Value.ref a
 | .ty n,u=>u=Value.type n
abbrev Vals:List V->List Value->Prop:=Paired RelV
theorem Vals.length {xs:List V} {us:List Value} (r:Vals xs us):xs.length=us.length:=Paired.length r
theorem Vals.get:∀{xs:List V} {us:List Value} {i:Nat} {x:V},Vals xs us->xs[i]? = some x->∃u,us[i]? = some u/\RelV x u
 | _,_,_,_,.nil,e=>by simp at e
 | _,_,0,_,.cons r _,e=>by simp at e; subst e; exact ⟨_,rfl,r⟩
 | _,_,i + 1,x,.cons _ t,e=>by
  obtain ⟨u,h1,h2⟩:=Vals.get (i:=i) (x:=x) t (by simpa using e)
  exact ⟨u,by simpa using h1,h2⟩
theorem Vals.set {x:V} {u:Value} (r:RelV x u):∀{xs:List V} {us:List Value} (i:Nat),Vals xs us->Vals (xs.set i x) (us.set i u)
 | _,_,_,.nil=>.nil
 | _,_,0,.cons _ t=>.cons r t
 | _,_,i + 1,.cons q t=>.cons q (Vals.set r i t)
theorem Vals.append {xs ys:List V} {us ws:List Value} (h:Vals xs us) (h':Vals ys ws):Vals (xs++ys) (us++ws):=by
 induction h with
 | nil=>exact h'
 | cons r _ ih=>exact .cons r ih
theorem Vals.take:∀{xs:List V} {us:List Value} (n:Nat),Vals xs us->Vals (xs.take n) (us.take n)
 | _,_,0,_=>.nil
 | _,_,_ + 1,.nil=>.nil
 | _,_,n + 1,.cons r t=>.cons r (Vals.take n t)
theorem Vals.drop:∀{xs:List V} {us:List Value} (n:Nat),Vals xs us->Vals (xs.drop n) (us.drop n)
 | _,_,0,r=>r
 | _,_,_ + 1,.nil=>.nil
 | _,_,n + 1,.cons _ t=>Vals.drop n t
def RelO:Option V->Option Value->Prop
 | some v,some u=>RelV v u
 | none,none=>True
 | _,_=>False
def KV {κ:Type}:List (κ × V)->List (κ × Value)->Prop:=Paired fun (p:κ × V) (q:κ × Value)=>p.1=q.1/\RelV p.2 q.2
def kV:Key->V
 | .inl i=>.int i
 | .inr x=>.str x
inductive HO where
 | lst (xs:List V)
 | tup (xs:List V)
 | dK (kvs:List (Key × V)) | dT (kvs:List (List Key × V))
 | set (S:Int->Bool) (n:Nat)
 | ins (C dx:Addr) (fs:List (Str × V))
 | own (x:Addr)
 | xd (fs:List (Str × V))
 | met (f x:Addr)
 | rng (lo hi:Int)
 | frz (o:Obj) (u:HO)
 | tbl (ps:Array Value)
 | ext (φ:Heap->Prop)
abbrev Hp:=Addr->Option HO
def upd (H:Hp) (a:Addr) (o:HO):Hp:=fun b=>if b=a then some o else H b
theorem zam {H:Hp} {a:Addr} {o:HO}:upd H a o a=some o:=by unfold upd; rw [if_pos rfl]
theorem zal {H:Hp} {a b:Addr} {o:HO} (h:b≠a):upd H a o b=H b:=by unfold upd; rw [if_neg h]
theorem zr2 {H:Hp} {a b:Addr} {o u:HO} (h:H a=some o) (h':H b=some u) (d:o≠u):a≠b:=by
 intro e; subst e; rw [h] at h'; exact d (Option.some.inj h')
theorem zbw {H:Hp} {a b:Addr} {o:HO} (h:H a=some o) (h':H b=none):a≠b:=by
 intro e; subst e; rw [h] at h'; cases h'
section
variable (P:Program) (w:World)
def zbg (H:Hp) (h:Heap) (a:Addr):HO->Prop
 | .lst xs=>xs.length<=sizeLine/\∃(its:List Value) (n:Nat),Vals xs its/\h.get? a=some { cls:=.type "list",data:=.seq its.toArray n }
 | .tup xs=>xs.length<=sizeLine/\∃its:List Value,Vals xs its/\IsTup h a its.toArray/\∃o,h.get? a=some o/\o.dict=none
 | .dK kvs=>kvs.length<=sizeLine/\(a == sysModules)=false/\∃vs,KV kvs vs/\h.DictOf (zbB P w) a vs
 | .dT kvs=>kvs.length<=sizeLine/\(a == sysModules)=false/\∃xs:List (List Key × Addr × Value),
   Paired (fun (p:List Key × V) (q:List Key × Addr × Value)=>p.1=q.1/\H q.2.1=some (.tup (p.1.map kV))/\RelV p.2 q.2.2) kvs xs /\
   ∃o es ep,h.get? a=some o/\o.ExactDict/\o.data=.dict es ep/\es.toList=xs.map (entryOfKey (tupleKind (zbB P w)))/\(xs.map (·.1)).Nodup
 | .set S n=>h.SetOf (intKind P w) a S n
 | .ins C dx fs=>H dx=some (.own a)/\fs.length<=1000/\dx≠a/\h.get? a=some (W.instObj C dx) /\
   ∃mA,h.Ns1 dx mA/\(∀f,RelO (fs.lookup f) (mA f))/\PySem.Within mA (fs.map (·.1))
 | .own _=>∃o,h.get? a=some o
 | .xd fs=>∃mA,h.Ns1 a mA/\∀f,RelO (fs.lookup f) (mA f)
 | .rng lo hi=>∃t u v,h.get? a=some { cls:=.type "range",data:=.fields #[.int lo t,.int hi u,.int 1 v] }
 | .frz o u=>h.get? a=some o/\zbg H h a u
 | .tbl ps=>h.get? a=some { cls:=.none,data:=.fields ps }
 | .met f x=>h.get? a=some (W.methodObj (.ref f) (.ref x))
 | .ext φ=>φ h/\(∃o,h.get? a=some o)/\∀h1 h2:Heap,φ h1->(∀o,h1.get? a=some o->h2.get? a=some o)->φ h2
def HOk (H:Hp) (h:Heap):Prop:=∀a o,H a=some o->zbg P w H h a o
end
section
variable {P:Program} {w:World} {H H':Hp} {h h':Heap} {a:Addr} {o:HO}
theorem zbg.lt (x:zbg P w H h a o):a < h.objs.size:=by
 cases o with
 | lst xs=>obtain ⟨_,_,_,_,e⟩:=x; exact Heap.lt_size e
 | tup xs=>obtain ⟨_,_,_,p,_⟩:=x; exact p.lt
 | dK kvs=>obtain ⟨_,_,_,_,o,_,_,e,_⟩:=x; exact Heap.lt_size e
 | dT kvs=>obtain ⟨_,_,_,_,o,_,_,e,_⟩:=x; exact Heap.lt_size e
 | set S n=>obtain ⟨o,_,_,_,e,_⟩:=x; exact Heap.lt_size e
 | ins C dx fs=>obtain ⟨_,_,_,e,_⟩:=x; exact Heap.lt_size e
 | own y=>obtain ⟨_,e⟩:=x; exact Heap.lt_size e
 | xd fs=>obtain ⟨_,⟨_,_,_,e,_⟩,_⟩:=x; exact Heap.lt_size e
 | rng lo hi=>obtain ⟨_,_,_,e⟩:=x; exact Heap.lt_size e
 | frz ob u=>obtain ⟨e,_⟩:=x; exact Heap.lt_size e
 | tbl ps=>exact Heap.lt_size (show h.get? a=some _ from x)
 | met f y=>exact Heap.lt_size (show h.get? a=some _ from x)
 | ext φ=>obtain ⟨_,⟨_,e⟩,_⟩:=x; exact Heap.lt_size e
theorem Paired.mapP {α β:Type} {F G:α->β->Prop} {l₁:List α} {l₂:List β} (h:Paired F l₁ l₂) (f:∀a b,F a b->G a b):Paired G l₁ l₂:=by
 induction h with
 | nil=>exact .nil
 | cons r _ ih=>exact .cons (f _ _ r) ih
theorem zbg.stay (x:zbg P w H h a o) (k:∀b u,(b=a\/H b=some (.own a))->h.get? b=some u->h'.get? b=some u)
  (ho:∀b,H b=some (.own a)->H' b=some (.own a)) (ht:∀b xs,H b=some (.tup xs)->H' b=some (.tup xs)):zbg P w H' h' a o:=by
 induction o with
 | lst xs=>obtain ⟨z,its,n,r,e⟩:=x; exact ⟨z,its,n,r,k _ _ (.inl rfl) e⟩
 | tup xs=>obtain ⟨z,its,r,⟨ob,e,c⟩,ob2,e2,c2⟩:=x; exact ⟨z,its,r,⟨ob,k _ _ (.inl rfl) e,c⟩,ob2,k _ _ (.inl rfl) e2,c2⟩
 | dK kvs=>obtain ⟨z,y,vs,r,ob,es,ep,e,c⟩:=x; exact ⟨z,y,vs,r,ob,es,ep,k _ _ (.inl rfl) e,c⟩
 | dT kvs=>
  obtain ⟨z,y,xs,r,ob,es,ep,e,c⟩:=x
  exact ⟨z,y,xs,Paired.mapP r fun p q z=>⟨z.1,ht _ _ z.2.1,z.2.2⟩,ob,es,ep,k _ _ (.inl rfl) e,c⟩
 | set S n=>obtain ⟨ob,es,ep,t,e,c⟩:=x; exact ⟨ob,es,ep,t,k _ _ (.inl rfl) e,c⟩
 | ins C dx fs=>
  obtain ⟨d,z,ne,e,mA,⟨od,es,ep,e2,c⟩,r⟩:=x
  exact ⟨ho _ d,z,ne,k _ _ (.inl rfl) e,mA,⟨od,es,ep,k _ _ (.inr d) e2,c⟩,r⟩
 | own y=>obtain ⟨ob,e⟩:=x; exact ⟨ob,k _ _ (.inl rfl) e⟩
 | xd fs=>obtain ⟨mA,⟨od,es,ep,e,c⟩,r⟩:=x; exact ⟨mA,⟨od,es,ep,k _ _ (.inl rfl) e,c⟩,r⟩
 | rng lo hi=>obtain ⟨t,u,v,e⟩:=x; exact ⟨t,u,v,k _ _ (.inl rfl) e⟩
 | frz ob u ih=>obtain ⟨e,q⟩:=x; exact ⟨k _ _ (.inl rfl) e,ih q⟩
 | tbl ps=>
  have e:h.get? a=some { cls:=.none,data:=.fields ps }:=x
  show h'.get? a=some { cls:=.none,data:=.fields ps }
  exact k a _ (.inl rfl) e
 | met f y=>
  have e:h.get? a=some (W.methodObj (.ref f) (.ref y)):=x
  show h'.get? a=some (W.methodObj (.ref f) (.ref y))
  exact k a _ (.inl rfl) e
 | ext φ=>obtain ⟨p,⟨o,e⟩,st⟩:=x; exact ⟨st _ _ p fun o q=>k _ _ (.inl rfl) q,⟨o,k _ _ (.inl rfl) e⟩,st⟩
theorem HOk.lt (x:HOk P w H h) (e:H a=some o):a < h.objs.size:=(x a o e).lt
theorem HOk.fresh (x:HOk P w H h) (e:h.objs.size<=a):H a=none:=by
 cases q:H a with
 | none=>rfl
 | some u=>exact absurd (Nat.lt_of_lt_of_le (x.lt q) e) (Nat.lt_irrefl _)
theorem HOk.kept (x:HOk P w H h) (k:∀b u,h.get? b=some u->h'.get? b=some u):HOk P w H h':=fun a o e=>
 (x a o e).stay (fun b u _ q=>k b u q) (fun _ q=>q) fun _ _ q=>q
theorem HOk.laid (x:HOk P w H h) (k:∀b u,h.get? b=some u->h'.get? b=some u) (hp:h.objs.size<=a) (new:zbg P w (upd H a o) h' a o):HOk P w (upd H a o) h':=fun b u e=>by
 have hn:=x.fresh hp
 by_cases hb:b=a
 ·subst hb; rw [zam] at e; cases e; exact new
 ·rw [zal hb] at e
  exact (x b u e).stay (fun c v _ q=>k c v q) (fun c q=>by rw [zal (zbw q hn)]; exact q) fun c xs q=>by rw [zal (zbw q hn)]; exact q
end
def Rd (H:Hp) (a:Addr) (u:HO):Prop:=H a=some u\/∃o,H a=some (.frz o u)
theorem Rd.ok {P:Program} {w:World} {H:Hp} {h:Heap} {a:Addr} {u:HO} (r:Rd H a u) (x:HOk P w H h):zbg P w H h a u:=by
 rcases r with r | ⟨o,r⟩
 ·exact x a u r
 ·obtain ⟨_,q⟩:=x a _ r
  exact q
def Mut:Option HO->Prop
 | some (.lst _)=>True
 | some (.dK _)=>True
 | some (.dT _)=>True
 | some (.set _ _)=>True
 | some (.ins _ _ _)=>True
 | some (.ext _)=>True
 | _=>False
section
variable {P:Program} {w:World} {H:Hp} {h h':Heap} {x e:Addr} {o':HO}
theorem HOk.write (ok:HOk P w H h) (mu:Mut (H x)) (he:e=x\/H e=some (.own x)) (k:∀b u,b≠e->h.get? b=some u->h'.get? b=some u) (heo:∃u,h'.get? e=some u)
  (new:zbg P w (upd H x o') h' x o'):HOk P w (upd H x o') h':=fun b u q=>by
 have nown:∀c y,H c=some (.own y)->c≠x:=fun c y r z=>by subst z; rw [r] at mu; exact mu
 have ntup:∀c xs,H c=some (.tup xs)->c≠x:=fun c xs r z=>by subst z; rw [r] at mu; exact mu
 by_cases hb:b=x
 ·subst hb; rw [zam] at q; cases q; exact new
 ·rw [zal hb] at q
  by_cases hbe:b=e
  ·have q':H b=some (.own x):=by
    rcases he with z | z
    ·exact absurd (hbe.trans z) hb
    ·rw [hbe]; exact z
   rw [q] at q'; cases q'
   obtain ⟨v,hv⟩:=heo
   exact ⟨v,by rw [hbe]; exact hv⟩
  ·refine (ok b u q).stay (fun c v hc r=>k c v ?_ r) (fun c r=>by rw [zal (nown c b r)]; exact r) fun c xs r=>by rw [zal (ntup c xs r)]; exact r
   rcases hc with rfl | hc
   ·exact hbe
   ·rintro rfl
    rcases he with z | z
    ·exact nown c b hc z
    ·rw [hc] at z; cases z; exact hb rfl
end
structure Un (fs ex:List Addr) (H H':Hp) (h h':Heap):Prop where
 keep:∀b o,h.get? b=some o->H b=none->b∉fs->b∉ex->h'.get? b=some o
 slot:∀b o,h.get? b=some o->H b=none->b∈fs->b∉ex->∃sl,h'.get? b=some { o with slots:=sl }
 free:∀b o,h.get? b=some o->H b=none->b∉ex->H' b=none
 there:∀b o,h.get? b=some o->b∉ex->∃o',h'.get? b=some o'
 tups:∀b xs,H b=some (.tup xs)->H' b=some (.tup xs)
 frzs:∀b o u,H b=some (.frz o u)->H' b=some (.frz o u)
 tbls:∀b ps,H b=some (.tbl ps)->∃more,H' b=some (.tbl (ps++more))
section
variable {fs fs' ex ex':List Addr} {H H1 H2:Hp} {h h1 h2 h':Heap} {a x e:Addr} {o:HO}
theorem Un.any (u:Un fs ex H H1 h h1) {b:Addr} {ob:Obj} (q:h.get? b=some ob) (n:H b=none) (hx:b∉ex):∃sl,h1.get? b=some { ob with slots:=sl }:=by
 by_cases hb:b∈fs
 ·exact u.slot b ob q n hb hx
 ·exact ⟨ob.slots,u.keep b ob q n hb hx⟩
theorem Un.trans (a:Un fs ex H H1 h h1) (b:Un fs ex H1 H2 h1 h2):Un fs ex H H2 h h2 where
 keep:=fun c ob q n hc hx=>b.keep c ob (a.keep c ob q n hc hx) (a.free c ob q n hx) hc hx
 slot:=fun c ob q n hc hx=>by
  obtain ⟨sl,e1⟩:=a.slot c ob q n hc hx
  obtain ⟨sl',e2⟩:=b.slot c _ e1 (a.free c ob q n hx) hc hx
  exact ⟨sl',e2⟩
 free:=fun c ob q n hx=>by
  obtain ⟨o',e1⟩:=a.there c ob q hx
  exact b.free c o' e1 (a.free c ob q n hx) hx
 there:=fun c ob q hx=>by
  obtain ⟨o',e1⟩:=a.there c ob q hx
  exact b.there c o' e1 hx
 tups:=fun c xs q=>b.tups c xs (a.tups c xs q)
 frzs:=fun c ob xs q=>b.frzs c ob xs (a.frzs c ob xs q)
 tbls:=fun c ps q=>by
  obtain ⟨m1,e1⟩:=a.tbls c ps q
  obtain ⟨m2,e2⟩:=b.tbls c _ e1
  exact ⟨m1++m2,by rw [e2,Array.append_assoc]⟩
theorem Un.kept (k:∀b u,h.get? b=some u->h'.get? b=some u):Un fs ex H H h h':=
 ⟨fun b ob q _ _ _=>k b ob q,fun b ob q _ _ _=>⟨ob.slots,k b ob q⟩,fun _ _ _ n _=>n,fun b ob q _=>⟨ob,k b ob q⟩,fun _ _ q=>q,fun _ _ _ q=>q,fun _ ps q=>⟨#[],by rw [q]; simp⟩⟩
theorem Un.refl:Un fs ex H H h h:=Un.kept fun _ _ q=>q
theorem Un.laid (k:∀b u,h.get? b=some u->h'.get? b=some u) (hp:h.objs.size<=a) (hn:H a=none):Un fs ex H (upd H a o) h h' where
 keep:=fun b u q _ _ _=>k b u q
 slot:=fun b u q _ _ _=>⟨u.slots,k b u q⟩
 free:=fun b u q n _=>by rw [zal (Nat.ne_of_lt (Nat.lt_of_lt_of_le (Heap.lt_size q) hp))]; exact n
 there:=fun b u q _=>⟨u,k b u q⟩
 tups:=fun b xs q=>by rw [zal (zbw q hn)]; exact q
 frzs:=fun b u xs q=>by rw [zal (zbw q hn)]; exact q
 tbls:=fun b ps q=>⟨#[],by rw [zal (zbw q hn),q]; simp⟩
theorem Un.write (mu:Mut (H x)) (he:e=x\/H e=some (.own x)) (k:∀b u,b≠e->h.get? b=some u->h'.get? b=some u) (heo:∃u,h'.get? e=some u):Un fs ex H (upd H x o) h h':=by
 have hx:∀b,H b=none->b≠x:=fun b n z=>by subst z; rw [n] at mu; exact mu
 have hb:∀b,H b=none->b≠e:=fun b n z=>by
  subst z
  rcases he with r | r
  ·exact hx b n r
  ·rw [n] at r; cases r
 have hm:∀b u,H b=some u->¬ Mut (some u)->b≠x:=fun b u q nm z=>by subst z; rw [q] at mu; exact nm mu
 refine ⟨fun b u q n _ _=>k b u (hb b n) q,fun b u q n _ _=>⟨u.slots,k b u (hb b n) q⟩,fun b u q n _=>by rw [zal (hx b n)]; exact n,fun b u q _=>?_,
  fun b xs q=>by rw [zal (hm b _ q fun z=>z)]; exact q,fun b u xs q=>by rw [zal (hm b _ q fun z=>z)]; exact q,fun b ps q=>⟨#[],by rw [zal (hm b _ q fun z=>z),q]; simp⟩⟩
 by_cases hbe:b=e
 ·subst hbe; exact heo
 ·exact ⟨u,k b u hbe q⟩
theorem Un.mono (u:Un fs ex H H1 h h1) (hs:∀b∈fs,b∈fs') (hx:∀b∈ex,b∈ex'):Un fs' ex' H H1 h h1:=
 ⟨fun b ob q n hb he=>u.keep b ob q n (fun z=>hb (hs b z)) fun z=>he (hx b z),fun _ _ q n _ he=>u.any q n fun z=>he (hx _ z),fun b ob q n he=>u.free b ob q n fun z=>he (hx b z),fun b ob q he=>u.there b ob q fun z=>he (hx b z),u.tups,u.frzs,u.tbls⟩
end
def trk (h:Heap) (H:Hp):List Addr:=(List.range h.objs.size).filter fun a=>(H a).isSome
def hidT (h:Heap) (H:Hp):Heap:=W.hideAll h (trk h H)
theorem zkK (h:Heap) (H:Hp):(hidT h H).objs.size=h.objs.size:=W.hideAll_size _ _
theorem zl8 {h:Heap} {H:Hp} {b:Addr} {o:Obj} (e:h.get? b=some o) (n:H b=none):(hidT h H).get? b=some o:=
 W.hideAll_get _ e fun hm=>by
  have q:(H b).isSome=true:=(List.mem_filter.mp hm).2
  rw [n] at q; simp at q
theorem zn8 {h:Heap} {H:Hp} {b:Addr} {o:Obj} (e:(hidT h H).get? b=some o):h.get? b=some o/\H b=none:=by
 have e':h.get? b=some o:=W.of_hideAll (trk h H) e
 refine ⟨e',?_⟩
 cases q:H b with
 | none=>rfl
 | some x=>
  have hm:b∈trk h H:=List.mem_filter.mpr ⟨List.mem_range.mpr (Heap.lt_size e'),by simp [q]⟩
  have z:(hidT h H).get? b=none:=W.hideAll_none (trk h H) hm
  rw [z] at e; cases e
def zgG (g h:Heap) (L:Addr):List (Addr × Obj):=(List.range h.objs.size).filterMap fun a=>if a=L\/(g.get? a).isSome=true then none else (h.get? a).map fun o=>(a,o)
theorem zfk {g h:Heap} {L a:Addr} {o:Obj} (h1:a≠L) (h2:g.get? a=none) (h3:h.get? a=some o):(a,o)∈zgG g h L:=
 List.mem_filterMap.mpr ⟨a,List.mem_range.mpr (Heap.lt_size h3),by simp [h1,h2,h3]⟩
theorem zfR {g h:Heap} {L:Addr} {p:Addr × Obj} (hp:p∈zgG g h L):p.1≠L/\g.get? p.1=none/\h.get? p.1=some p.2:=by
 obtain ⟨b,_,e⟩:=List.mem_filterMap.mp hp
 split at e
 ·cases e
 ·rename_i hn
  cases q:h.get? b with
  | none=>rw [q] at e; simp at e
  | some u=>
   rw [q] at e
   simp only [Option.map_some,Option.some.injEq] at e
   subst e
   refine ⟨fun z=>hn (.inl z),?_,q⟩
   show g.get? b=none
   cases r:g.get? b with
   | none=>rfl
   | some v=>exact (hn (.inr (by simp [r]))).elim
def rest (g h:Heap) (L d:Addr):List (Addr × Obj):=(zgG g h L).filter fun p=>decide (p.1≠d)
theorem zlV {g h:Heap} {L:Addr}:News g L h (zgG g h L):=fun p hp=>let ⟨a,b,c⟩:=zfR hp; ⟨c,a,b⟩
structure Mod (K:W.Frag) (mg:Str->Option Value) (base:Heap):Prop where
 kin:K.In base
 glob:base.Ns mainGlobals mg
 blt:∃mb,base.Ns builtinsNs mb/\∀x:Str,x≠"__name__"->mb x=bootBuiltins x
 nolimit:base.NoLimit
structure Cx where
 prog:Program
 w:World
 K:W.Frag
 mg:Str->Option Value
 base:Heap
 A:Around
 N:List Str
 s₀:Shared
 H₀:Hp
 env:Env
 outer:List Env
 stack:List Env
 ex:List Addr
 fn:Str->Bool
 calm:Bool
 pn:List (Addr × Obj)
 xe:Value->Shared->Prop
def frs (l:List Env):List Addr:=l.filterMap (·.frame)
abbrev Cx.fs (X:Cx):List Addr:=frs X.outer
def Vis (sc:Scope) (x:Str):Prop:=sc.names.lookup x=some .local\/sc.names.lookup x=some .cell\/sc.names.lookup x=some .free
def Loc (sc:Scope) (x:Str):Prop:=sc.names.lookup x=some .local\/sc.names.lookup x=some .cell
def Look (env:Env) (h:Heap) (m:Str->Option Value) (x:Str) (u:Value):Prop:=
 (env.kindOf x=some .local/\m x=some u)\/((env.kindOf x=some .cell\/env.kindOf x=some .free)/\∃c,env.cells.lookup x=some c/\h.IsCell c (some u))
structure Cx.Ok (X:Cx):Prop where
 mod:Mod X.K X.mg X.base
 kind:X.env.scope.kind=.function
 glob:X.env.globals=mainGlobals
 blt:X.env.builtins=builtinsNs
 above:X.s₀.heap.objs.size<=X.env.locals
 inj:∀x y c,X.env.cells.lookup x=some c->X.env.cells.lookup y=some c->x=y
 has:∀x,(X.env.kindOf x=some .cell\/X.env.kindOf x=some .free)->∃c,X.env.cells.lookup x=some c
 cab:∀x c,X.fn x=true->X.env.cells.lookup x=some c->X.s₀.heap.objs.size<=c
 hd:X.calm=true->X.A.handled=none
 frames:X.A.frames=some X.stack
 stk:X.stack=X.outer\/(X.stack=X.env::X.outer/\X.env.frame=some X.env.locals)
 exf:∀b∈X.ex,b≠X.env.locals/\∀x c,X.env.cells.lookup x=some c->c≠b
 bs:∀b o,X.base.get? b=some o->X.s₀.heap.get? b=some o/\X.H₀ b=none
 bsz:X.base.objs.size<=X.s₀.heap.objs.size
 noex:∀b o,X.base.get? b=some o->b∉X.ex
 exfs:∀b∈X.ex,b∉X.fs
 funs:X.s₀.heap.FunFrames X.base X.outer
 frf:∀b∈X.fs,X.H₀ b=none
structure Inv (X:Cx) (pins:List (Addr × Obj)) (σ:List (Option V)) (H:Hp) (s:Shared):Prop where
 ok:X.Ok
 os:s.os=X.s₀.os
 bare:AllBare s.gens
 base:Un X.fs X.ex X.H₀ H X.s₀.heap s.heap
 loc:∃m,s.heap.Ns X.env.locals m/\∀(i:Nat) (x:Str) (v:V),X.N[i]? = some x->σ[i]? = some (some v)->Vis X.env.scope x->∃u,RelV v u/\Look X.env s.heap m x u
 cell:∀x c,X.env.cells.lookup x=some c->∃v,s.heap.IsCell c v
 free:H X.env.locals=none
 freeC:∀x c,X.env.cells.lookup x=some c->H c=none
 pin:∀p∈X.pn++pins,s.heap.get? p.1=some p.2/\H p.1=none/\p.1≠X.env.locals/\p.1∉X.fs/\∀v,p.2.data≠.cell v
 hok:HOk X.prog X.w H s.heap
 len:σ.length=X.N.length
section
variable {X:Cx} {pins:List (Addr × Obj)} {σ:List (Option V)} {H H':Hp} {s:Shared} {h':Heap}
theorem Cx.Ok.nofr (ok:X.Ok) {b:Addr} {o:Obj} (e:X.base.get? b=some o):b∉X.fs:=fun hb=>by
 have:=(ok.funs.mem hb).1
 rw [e] at this; cases this
theorem Inv.bs (I:Inv X pins σ H s):∀b o,X.base.get? b=some o->s.heap.get? b=some o/\H b=none:=fun b o e=>
 ⟨I.base.keep b o (I.ok.bs b o e).1 (I.ok.bs b o e).2 (I.ok.nofr e) (I.ok.noex b o e),I.base.free b o (I.ok.bs b o e).1 (I.ok.bs b o e).2 (I.ok.noex b o e)⟩
theorem Inv.bk (I:Inv X pins σ H s):∀b o,X.base.get? b=some o->s.heap.get? b=some o:=fun b o e=>(I.bs b o e).1
theorem Inv.mod (I:Inv X pins σ H s):Mod X.K X.mg X.base:=I.ok.mod
theorem Inv.kIn (I:Inv X pins σ H s):X.K.In s.heap:=I.ok.mod.kin.keeps I.bk
theorem Inv.nolimit (I:Inv X pins σ H s):s.heap.NoLimit:=I.ok.mod.nolimit.keeps I.bk
theorem Inv.fr (I:Inv X pins σ H s):∃m,Fr X.base X.env.locals s.heap m:=
 let ⟨m,hn,_⟩:=I.loc
 ⟨m,hn,I.bk,Nat.le_trans I.ok.bsz I.ok.above⟩
theorem Inv.lt (I:Inv X pins σ H s):X.env.locals < s.heap.objs.size:=let ⟨_,hn,_⟩:=I.loc; hn.lt
theorem Inv.sz (I:Inv X pins σ H s):X.s₀.heap.objs.size<=s.heap.objs.size:=Nat.le_trans I.ok.above (Nat.le_of_lt I.lt)
theorem Inv.nofs (I:Inv X pins σ H s) {a:Addr} (h:s.heap.objs.size<=a):a∉X.fs:=fun hb=>by
 obtain ⟨_,o,ho,_⟩:=I.ok.funs.mem hb
 exact absurd (Nat.lt_of_lt_of_le (Heap.lt_size ho) (Nat.le_trans I.sz h)) (Nat.lt_irrefl _)
theorem Inv.cne (I:Inv X pins σ H s):∀x c,X.env.cells.lookup x=some c->c≠X.env.locals:=fun x c e z=>by
 obtain ⟨v,o,ho,hd⟩:=I.cell x c e
 obtain ⟨m,⟨o',es,ep,ho',hd',_⟩,_⟩:=I.loc
 rw [z,ho'] at ho; cases ho; rw [hd'] at hd; cases hd
theorem Inv.funs (I:Inv X pins σ H s):s.heap.FunFrames X.base X.outer:=by
 have all:∀(l:List Env),(∀b∈frs l,b∈X.fs)->X.s₀.heap.FunFrames X.base l->s.heap.FunFrames X.base l:=by
  intro l
  induction l with
  | nil=>intro _ _; trivial
  | cons env r ih=>
   intro hs hl
   obtain ⟨hk,⟨L,o,hf,hn,ho,hd⟩,hr⟩:=hl
   have hL:L∈X.fs:=hs L (by unfold frs; rw [List.filterMap_cons,hf]; exact List.mem_cons_self)
   obtain ⟨sl,e⟩:=I.base.slot L o ho (I.ok.frf L hL) hL fun z=>I.ok.exfs L z hL
   exact ⟨hk,⟨L,_,hf,hn,e,hd⟩,ih (fun b hb=>hs b (by unfold frs; rw [List.filterMap_cons,hf]; exact List.mem_cons_of_mem _ hb)) hr⟩
 exact all X.outer (fun _ hb=>hb) I.ok.funs
theorem Inv.stack (I:Inv X pins σ H s):s.heap.FunFrames X.base X.stack:=by
 rcases I.ok.stk with e | ⟨e,hf⟩
 ·rw [e]; exact I.funs
 ·rw [e]
  obtain ⟨m,hn,_⟩:=I.loc
  refine .cons (by rw [I.ok.kind]; decide) hf hn ?_ I.funs
  exact Heap.get?_none_of_le (Nat.le_trans I.ok.bsz I.ok.above)
theorem Inv.stkSub (I:Inv X pins σ H s):∀b∈frs X.stack,b∈X.env.locals::X.fs:=fun b hb=>by
 rcases I.ok.stk with e | ⟨e,hf⟩
 ·rw [e] at hb; exact List.mem_cons_of_mem _ hb
 ·rw [e] at hb
  unfold frs at hb
  rw [List.filterMap_cons,hf] at hb
  exact hb
theorem Inv.stkFree (I:Inv X pins σ H s):∀b∈frs X.stack,H b=none:=fun b hb=>by
 rcases List.mem_cons.mp (I.stkSub b hb) with e | hb
 ·rw [e]; exact I.free
 ·obtain ⟨_,o,ho,_⟩:=I.ok.funs.mem hb
  exact I.base.free b o ho (I.ok.frf b hb) fun z=>I.ok.exfs b z hb
theorem Inv.step {g':Array GenState} {t':Nat} {d':Drawn} {ch:List Addr} (I:Inv X pins σ H s)
  (hch:∀b∈ch,(b∈X.ex\/X.s₀.heap.objs.size<=b)/\b≠X.env.locals/\(∀x c,X.env.cells.lookup x=some c->c≠b)/\∀p∈X.pn++pins,p.1≠b)
  (keep:∀b o,b≠X.env.locals->b∉X.fs->b∉ch->s.heap.get? b=some o->H b=none->h'.get? b=some o)
  (slot:∀b o,b≠X.env.locals->b∈X.fs->b∉ch->s.heap.get? b=some o->H b=none->∃sl,h'.get? b=some { o with slots:=sl }) (free:∀b o,b∉ch->s.heap.get? b=some o->H b=none->H' b=none)
  (there:∀b o,b∉ch->s.heap.get? b=some o->∃o',h'.get? b=some o')
  (tups:∀b xs,H b=some (.tup xs)->H' b=some (.tup xs)) (frzs:∀b o u,H b=some (.frz o u)->H' b=some (.frz o u)) (tbls:∀b ps,H b=some (.tbl ps)->∃more,H' b=some (.tbl (ps++more)))
  (ns:∀m,s.heap.Ns X.env.locals m->h'.Ns X.env.locals m) (hok:HOk X.prog X.w H' h') (hg:AllBare g') :
  Inv X pins σ H' { s with heap:=h',gens:=g',drawn:=d',toks:=t' }:=by
 have neL:∀b o,X.s₀.heap.get? b=some o->b≠X.env.locals:=fun b o e=>Nat.ne_of_lt (Nat.lt_of_lt_of_le (Heap.lt_size e) I.ok.above)
 have neC:∀b o,X.s₀.heap.get? b=some o->b∉X.ex->b∉ch:=fun b o e hx hb=>by
  rcases (hch b hb).1 with z | z
  ·exact hx z
  ·exact absurd (Nat.lt_of_lt_of_le (Heap.lt_size e) z) (Nat.lt_irrefl _)
 have cellK:∀x c,X.env.cells.lookup x=some c->∀v,s.heap.IsCell c v->h'.IsCell c v:=fun x c e v ⟨o,ho,hd⟩=>by
  have nch:c∉ch:=fun z=>(hch c z).2.2.1 x c e rfl
  by_cases hc:c∈X.fs
  ·obtain ⟨sl,q⟩:=slot c o (I.cne x c e) hc nch ho (I.freeC x c e)
   exact ⟨_,q,hd⟩
  ·exact ⟨o,keep c o (I.cne x c e) hc nch ho (I.freeC x c e),hd⟩
 refine ⟨I.ok,I.os,hg,⟨fun b o e n hb hx=>?_,fun b o e n hb hx=>?_,fun b o e n hx=>?_,fun b o e hx=>?_,fun b xs e=>tups b xs (I.base.tups b xs e),fun b o xs e=>frzs b o xs (I.base.frzs b o xs e),fun b ps e=>?_⟩,?_,fun x c e=>?_,?_,fun x c e=>?_,fun p hp=>?_,hok,I.len⟩
 ·exact keep b o (neL b o e) hb (neC b o e hx) (I.base.keep b o e n hb hx) (I.base.free b o e n hx)
 ·obtain ⟨sl,e1⟩:=I.base.slot b o e n hb hx
  obtain ⟨sl',e2⟩:=slot b _ (neL b o e) hb (neC b o e hx) e1 (I.base.free b o e n hx)
  exact ⟨sl',e2⟩
 ·obtain ⟨o',e1⟩:=I.base.there b o e hx
  exact free b o' (neC b o e hx) e1 (I.base.free b o e n hx)
 ·obtain ⟨o',e1⟩:=I.base.there b o e hx
  exact there b o' (neC b o e hx) e1
 ·obtain ⟨m1,e1⟩:=I.base.tbls b ps e
  obtain ⟨m2,e2⟩:=tbls b _ e1
  exact ⟨m1++m2,by rw [e2,Array.append_assoc]⟩
 ·obtain ⟨m,hn,hl⟩:=I.loc
  refine ⟨m,ns m hn,fun i x v e1 e2 e3=>?_⟩
  obtain ⟨u,r,l⟩:=hl i x v e1 e2 e3
  refine ⟨u,r,?_⟩
  rcases l with l | ⟨k,c,e,z⟩
  ·exact .inl l
  ·exact .inr ⟨k,c,e,cellK x c e _ z⟩
 ·obtain ⟨v,z⟩:=I.cell x c e
  exact ⟨v,cellK x c e v z⟩
 ·obtain ⟨m,⟨o,_,_,ho,_⟩,_⟩:=I.loc
  exact free _ o (fun z=>(hch _ z).2.1 rfl) ho I.free
 ·obtain ⟨v,o,ho,hd⟩:=I.cell x c e
  exact free c o (fun z=>(hch c z).2.2.1 x c e rfl) ho (I.freeC x c e)
 ·obtain ⟨e,n,ne,nf,d⟩:=I.pin p hp
  have nch:p.1∉ch:=fun z=>(hch p.1 z).2.2.2 p hp rfl
  exact ⟨keep p.1 p.2 ne nf nch e n,free p.1 p.2 nch e n,ne,nf,d⟩
theorem Inv.un {t':Nat} (I:Inv X pins σ H s) (u:Un X.fs [] H H' s.heap h') (hok:HOk X.prog X.w H' h'):Inv X pins σ H' { s with heap:=h',toks:=t' }:=by
 obtain ⟨m,⟨o,es,ep,ho,r⟩,_⟩:=id I.loc
 obtain ⟨sl,hL⟩:=u.any ho I.free (by simp)
 exact I.step (g':=s.gens) (d':=s.drawn) (ch:=[]) (fun _ z=>nomatch z) (fun b o _ hb _ e n=>u.keep b o e n hb (by simp)) (fun b o _ hb _ e n=>u.slot b o e n hb (by simp)) (fun b o _ e n=>u.free b o e n (by simp)) (fun b o _ e=>u.there b o e (by simp)) u.tups u.frzs u.tbls (fun m' hm=>by
  obtain ⟨o',es',ep',ho',r'⟩:=hm
  rw [ho] at ho'; cases ho'
  exact ⟨_,es',ep',hL,r'⟩) hok I.bare
theorem Inv.call {g':Array GenState} {t':Nat} {d':Drawn} {ch:List Addr} (I:Inv X pins σ H s) (u:Un (frs X.stack) ch H H' s.heap h') (hok:HOk X.prog X.w H' h') (hg:AllBare g')
  (hch:∀b∈ch,(b∈X.ex\/X.s₀.heap.objs.size<=b)/\b≠X.env.locals/\(∀x c,X.env.cells.lookup x=some c->c≠b)/\∀p∈X.pn++pins,p.1≠b) :
  Inv X pins σ H' { s with heap:=h',gens:=g',drawn:=d',toks:=t' }:=by
 obtain ⟨m,⟨o,es,ep,ho,r⟩,_⟩:=id I.loc
 obtain ⟨sl,hL⟩:=u.any ho I.free fun z=>(hch _ z).2.1 rfl
 exact I.step (ch:=ch) hch (fun b o hL hb hc e n=>u.keep b o e n (fun z=>(List.mem_cons.mp (I.stkSub b z)).elim hL hb) hc) (fun b o _ _ hc e n=>u.any e n hc) (fun b o hc e n=>u.free b o e n hc) (fun b o hc e=>u.there b o e hc) u.tups u.frzs u.tbls (fun m' hm=>by
  obtain ⟨o',es',ep',ho',r'⟩:=hm
  rw [ho] at ho'; cases ho'
  exact ⟨_,es',ep',hL,r'⟩) hok hg
theorem Inv.turned {t':Nat} {it:Addr} (I:Inv X pins σ H s) (k:∀b o,b≠it->s.heap.get? b=some o->h'.get? b=some o) (hn:H it=none) (hL:it≠X.env.locals)
  (h1:it∈X.ex\/X.s₀.heap.objs.size<=it) (h2:∀x c,X.env.cells.lookup x=some c->c≠it) (h3:∀p∈X.pn++pins,p.1≠it):Inv X pins σ H { s with heap:=h',toks:=t' }:=by
 have nit:∀b u,H b=some u->b≠it:=fun b u e z=>by rw [z,hn] at e; cases e
 refine I.step (g':=s.gens) (d':=s.drawn) (ch:=[it]) (fun b hb=>?_) (fun b o _ _ hc e _=>k b o (fun z=>hc (by simp [z])) e) (fun b o _ _ hc e _=>⟨o.slots,k b o (fun z=>hc (by simp [z])) e⟩) (fun _ _ _ _ n=>n)
  (fun b o hc e=>⟨o,k b o (fun z=>hc (by simp [z])) e⟩) (fun _ _ e=>e) (fun _ _ _ e=>e) (fun b ps e=>⟨#[],by rw [e]; simp⟩) (fun m hm=>?_) (fun b u e=>?_) I.bare
 ·have e:b=it:=by simpa using hb
  subst e
  exact ⟨h1,hL,h2,h3⟩
 ·obtain ⟨o,es,ep,ho,r⟩:=hm
  exact ⟨o,es,ep,k _ o (Ne.symm hL) ho,r⟩
 ·refine (I.hok b u e).stay (fun c v hc q=>k c v ?_ q) (fun _ q=>q) fun _ _ q=>q
  rcases hc with z | z
  ·rw [z]; exact nit b u e
  ·exact nit c _ z
theorem Inv.tok (I:Inv X pins σ H s) (t:Nat):Inv X pins σ H { s with toks:=t }:=I.un (h':=s.heap) (t':=t) Un.refl I.hok
theorem Inv.kept {t':Nat} (I:Inv X pins σ H s) (k:∀b u,s.heap.get? b=some u->h'.get? b=some u):Inv X pins σ H { s with heap:=h',toks:=t' }:=I.un (Un.kept k) (I.hok.kept k)
theorem Inv.laid {a:Addr} {o:HO} {t':Nat} (I:Inv X pins σ H s) (k:∀b u,s.heap.get? b=some u->h'.get? b=some u) (hp:s.heap.objs.size<=a) (new:zbg X.prog X.w (upd H a o) h' a o) :
  Inv X pins σ (upd H a o) { s with heap:=h',toks:=t' }:=I.un (Un.laid k hp (I.hok.fresh hp)) (I.hok.laid k hp new)
theorem Inv.write {x e:Addr} {o:HO} {t':Nat} (I:Inv X pins σ H s) (mu:Mut (H x)) (he:e=x\/H e=some (.own x)) (k:∀b u,b≠e->s.heap.get? b=some u->h'.get? b=some u) (heo:∃u,h'.get? e=some u)
  (new:zbg X.prog X.w (upd H x o) h' x o):Inv X pins σ (upd H x o) { s with heap:=h',toks:=t' }:=I.un (Un.write mu he k heo) (I.hok.write mu he k heo new)
theorem Inv.pins_of {pins':List (Addr × Obj)} (I:Inv X pins σ H s) (h:∀p∈pins',s.heap.get? p.1=some p.2/\H p.1=none/\p.1≠X.env.locals/\p.1∉X.fs/\∀v,p.2.data≠.cell v):Inv X pins' σ H s:=
 ⟨I.ok,I.os,I.bare,I.base,I.loc,I.cell,I.free,I.freeC,fun p hp=>(List.mem_append.mp hp).elim (fun z=>I.pin p (List.mem_append_left _ z)) (h p),I.hok,I.len⟩
theorem ziq {N:List Str} (hN:N.Nodup) {i j:Nat} {x:Str} (a:N[i]? = some x) (b:N[j]? = some x):i=j:=by
 obtain ⟨h1,e1⟩:=List.getElem?_eq_some_iff.mp a
 obtain ⟨h2,e2⟩:=List.getElem?_eq_some_iff.mp b
 exact (List.getElem_inj hN).mp (e1.trans e2.symm)
theorem zgN {M:Model} {A:Around} {E:Value->Shared->Prop} {i:Nat} {x:Str} {v:V} {u:Value} {Q:Unit->Shared->Prop} (I:Inv X pins σ H s) (hN:X.N.Nodup) (hi:X.N[i]? = some x) (hx:Loc X.env.scope x) (r:RelV v u)
  (h:∀s',Inv X pins (σ.set i (some v)) H s'->(∃a,Heap.SameBut a s.heap s'.heap/\(a=X.env.locals\/X.env.cells.lookup x=some a))->Q () s') (hf:X.fn x=true\/X.env.scope.names.lookup x=some .local:=by first | exact .inl rfl | exact .inr rfl | assumption):wpAny M A (storeName X.env x u) Q E s:=by
 obtain ⟨m,hn,hl⟩:=id I.loc
 have hcls:(X.env.scope.kind == .class || (X.env.scope.kind == .module && X.env.locals != X.env.globals))=false:=by rw [I.ok.kind]; rfl
 have hiσ:i < σ.length:=by rw [I.len]; exact (List.getElem?_eq_some_iff.mp hi).1
 have cne:=I.cne
 have tracked:∀{a:Addr} {h':Heap},(∃o,s.heap.get? a=some o/\H a=none)->Heap.SameBut a s.heap h'->HOk X.prog X.w H h':=fun {a h'} ha hs b ob e=>by
  obtain ⟨_,_,hfree⟩:=ha
  refine (I.hok b ob e).stay (fun c w' hc q=>(hs.2 c ?_).trans q) (fun _ q=>q) fun _ _ q=>q
  rintro rfl
  rcases hc with rfl | hc
  ·rw [hfree] at e; cases e
  ·rw [hfree] at hc; cases hc
 rcases hx with hk | hk
 ·refine wpAny_storeName_local hk hn (fun h' hn' hs=>?_) hcls
  obtain ⟨oL,_,_,hoL,_⟩:=id hn
  refine h _ ⟨I.ok,I.os,I.bare,⟨fun b o e n hb hx=>?_,fun b o e n hb hx=>?_,I.base.free,fun b o e hx=>?_,I.base.tups,I.base.frzs,I.base.tbls⟩,⟨_,hn',fun j y v' e1 e2 e3=>?_⟩,fun y c e=>?_,I.free,I.freeC,fun p hp=>?_,tracked ⟨oL,hoL,I.free⟩ hs,by simpa using I.len⟩ ⟨_,hs,.inl rfl⟩
  ·exact (hs.2 b (Nat.ne_of_lt (Nat.lt_of_lt_of_le (Heap.lt_size e) I.ok.above))).trans (I.base.keep b o e n hb hx)
  ·obtain ⟨sl,e1⟩:=I.base.slot b o e n hb hx
   exact ⟨sl,(hs.2 b (Nat.ne_of_lt (Nat.lt_of_lt_of_le (Heap.lt_size e) I.ok.above))).trans e1⟩
  ·obtain ⟨o',e1⟩:=I.base.there b o e hx
   exact ⟨o',(hs.2 b (Nat.ne_of_lt (Nat.lt_of_lt_of_le (Heap.lt_size e) I.ok.above))).trans e1⟩
  ·by_cases hj:j=i
   ·subst hj
    rw [hi] at e1; cases e1
    rw [List.getElem?_set_self hiσ] at e2
    cases e2
    exact ⟨u,r,.inl ⟨hk,by simp⟩⟩
   ·rw [List.getElem?_set_ne (Ne.symm hj)] at e2
    obtain ⟨u',r',q⟩:=hl j y v' e1 e2 e3
    refine ⟨u',r',?_⟩
    rcases q with ⟨k,e⟩ | ⟨k,c,e,z⟩
    ·refine .inl ⟨k,?_⟩
     have:y≠x:=fun e=>hj (ziq hN e1 (e ▸ hi))
     simp [this,e]
    ·exact .inr ⟨k,c,e,z.sameBut hs (cne y c e)⟩
  ·obtain ⟨w',z⟩:=I.cell y c e
   exact ⟨w',z.sameBut hs (cne y c e)⟩
  ·obtain ⟨e,n,ne,nf,d⟩:=I.pin p hp
   exact ⟨(hs.2 p.1 ne).trans e,n,ne,nf,d⟩
 ·have hfn:X.fn x=true:=by
   rcases hf with z | z
   ·exact z
   ·rw [z] at hk; cases hk
  obtain ⟨c,hc⟩:=I.ok.has x (.inl hk)
  obtain ⟨w',z⟩:=I.cell x c hc
  refine wpAny_storeName_cell I.ok.kind hk hc z (fun h' hc' hs=>?_)
  obtain ⟨oc,hoc,hocd⟩:=id z
  refine h { s with heap:=h' } ⟨I.ok,I.os,I.bare,⟨fun b o e n hb hx=>?_,fun b o e n hb hx=>?_,I.base.free,fun b o e hx=>?_,I.base.tups,I.base.frzs,I.base.tbls⟩,⟨m,hn.sameBut hs (Ne.symm (cne x c hc)),fun j y v' e1 e2 e3=>?_⟩,fun y c' e=>?_,I.free,I.freeC,fun p hp=>?_,tracked ⟨oc,hoc,I.freeC x c hc⟩ hs,by simpa using I.len⟩ ⟨c,hs,.inr hc⟩
  ·exact (hs.2 b (Nat.ne_of_lt (Nat.lt_of_lt_of_le (Heap.lt_size e) (I.ok.cab x c hfn hc)))).trans (I.base.keep b o e n hb hx)
  ·obtain ⟨sl,e1⟩:=I.base.slot b o e n hb hx
   exact ⟨sl,(hs.2 b (Nat.ne_of_lt (Nat.lt_of_lt_of_le (Heap.lt_size e) (I.ok.cab x c hfn hc)))).trans e1⟩
  ·obtain ⟨o',e1⟩:=I.base.there b o e hx
   exact ⟨o',(hs.2 b (Nat.ne_of_lt (Nat.lt_of_lt_of_le (Heap.lt_size e) (I.ok.cab x c hfn hc)))).trans e1⟩
  ·by_cases hj:j=i
   ·subst hj
    rw [hi] at e1; cases e1
    rw [List.getElem?_set_self hiσ] at e2
    cases e2
    exact ⟨u,r,.inr ⟨.inl hk,c,hc,hc'⟩⟩
   ·rw [List.getElem?_set_ne (Ne.symm hj)] at e2
    obtain ⟨u',r',q⟩:=hl j y v' e1 e2 e3
    refine ⟨u',r',?_⟩
    rcases q with q | ⟨k,c',e,z'⟩
    ·exact .inl q
    ·refine .inr ⟨k,c',e,z'.sameBut hs ?_⟩
     rintro rfl
     exact hj (ziq hN e1 (I.ok.inj _ _ _ e hc ▸ hi))
  ·by_cases hcc:c'=c
   ·subst hcc; exact ⟨_,hc'⟩
   ·obtain ⟨w2,z2⟩:=I.cell y c' e
    exact ⟨w2,z2.sameBut hs hcc⟩
  ·obtain ⟨e,n,ne,nf,d⟩:=I.pin p hp
   refine ⟨(hs.2 p.1 ?_).trans e,n,ne,nf,d⟩
   intro q
   rw [q,hoc] at e
   have q':oc=p.2:=Option.some.inj e
   exact d w' (by rw [<-q']; exact hocd)
theorem zeX {M:Model} {A:Around} {E:Value->Shared->Prop} {i:Nat} {x:Str} {v:V} {u:Value} {Q:Unit->Shared->Prop} (I:Inv X pins σ H s) (hN:X.N.Nodup) (hi:X.N[i]? = some x) (hx:Loc X.env.scope x) (r:RelV v u)
  (h:∀s',Inv X pins (σ.set i (some v)) H s'->Q () s') (hf:X.fn x=true\/X.env.scope.names.lookup x=some .local:=by first | exact .inl rfl | exact .inr rfl | assumption):wpAny M A (storeName X.env x u) Q E s:=
 zgN I hN hi hx r (fun s' I' _=>h s' I') hf
theorem Inv.call' {s':Shared} {ch:List Addr} (I:Inv X pins σ H s) (ho:s'.os=s.os) (u:Un (frs X.stack) ch H H' s.heap s'.heap) (hok:HOk X.prog X.w H' s'.heap) (hg:AllBare s'.gens)
  (hch:∀b∈ch,(b∈X.ex\/X.s₀.heap.objs.size<=b)/\b≠X.env.locals/\(∀x c,X.env.cells.lookup x=some c->c≠b)/\∀p∈X.pn++pins,p.1≠b):Inv X pins σ H' s':=by
 obtain ⟨h',g',d',t',o'⟩:=s'
 have e:o'=s.os:=ho
 subst e
 exact I.call (g':=g') (t':=t') (d':=d') u hok hg hch
end
abbrev XK:=Value->Option Addr->Hp->Prop
abbrev St:=List (Option V)
abbrev VK:=V->Hp->Prop
abbrev TE:=St->Hp->VK->Prop
abbrev TT:=St->Hp->(Bool->Hp->Prop)->Prop
abbrev TA:=St->Hp->(List V->Hp->Prop)->Prop
structure Ends where
 nx:St->Hp->Prop
 rt:VK
 bk:St->Hp->Prop:=fun _ _=>False
 ct:St->Hp->Prop:=fun _ _=>False
abbrev TS:=Ends->St->Hp->Prop
def EP (X:Cx) (pins:List (Addr × Obj)) (σ:St) (Q:VK) (u:Value) (s':Shared):Prop:=∃v H',Inv X pins σ H' s'/\RelV v u/\Q v H'
def TP (X:Cx) (pins:List (Addr × Obj)) (σ:St) (Q:Bool->Hp->Prop) (b:Bool) (s':Shared):Prop:=∃H',Inv X pins σ H' s'/\Q b H'
def AP (X:Cx) (pins:List (Addr × Obj)) (σ:St) (Q:List V->Hp->Prop) (us:List Value) (s':Shared):Prop:=∃vs H',Inv X pins σ H' s'/\Vals vs us/\Q vs H'
def SP (X:Cx) (pins:List (Addr × Obj)) (D:Ends) (f:Flow) (s':Shared):Prop:=
 match f with
 | .next=>∃σ' H',Inv X pins σ' H' s'/\D.nx σ' H'
 | .brk=>∃σ' H',Inv X pins σ' H' s'/\D.bk σ' H'
 | .cont=>∃σ' H',Inv X pins σ' H' s'/\D.ct σ' H'
 | .ret u=>∃v σ' H',Inv X pins σ' H' s'/\RelV v u/\D.rt v H'
def PE (X:Cx) (e:Expr) (t:TE):Prop:=
 ∀(pins:List (Addr × Obj)) (s:Shared) (σ:St) (H:Hp) (Q:VK),Inv X pins σ H s->t σ H Q->wpAny (model X.prog X.w) X.A (eval e X.env) (EP X pins σ Q) X.xe s
def PT (X:Cx) (e:Expr) (t:TT):Prop:=
 ∀(pins:List (Addr × Obj)) (s:Shared) (σ:St) (H:Hp) (Q:Bool->Hp->Prop),Inv X pins σ H s->t σ H Q->wpAny (model X.prog X.w) X.A (isTrue e X.env (eval e X.env)) (TP X pins σ Q) X.xe s
def PW (X:Cx) (e:Expr) (t:TT):Prop:=
 ∀(whole:Sem Value) (pins:List (Addr × Obj)) (s:Shared) (σ:St) (H:Hp) (Q:Bool->Hp->Prop),Inv X pins σ H s->t σ H Q->wpAny (model X.prog X.w) X.A (isTrue e X.env whole) (TP X pins σ Q) X.xe s
theorem PW.pt {X:Cx} {e:Expr} {t:TT} (h:PW X e t):PT X e t:=h _
def PA (X:Cx) (es:List Expr) (t:TA):Prop:=
 ∀(pos:Pos) (pins:List (Addr × Obj)) (s:Shared) (σ:St) (H:Hp) (Q:List V->Hp->Prop),Inv X pins σ H s->t σ H Q->wpAny (model X.prog X.w) X.A (spliced (backTo pos (starEach es X.env))) (AP X pins σ Q) X.xe s
def PS (X:Cx) (st:Stmt) (t:TS):Prop:=
 ∀(pins:List (Addr × Obj)) (s:Shared) (σ:St) (H:Hp) (D:Ends),Inv X pins σ H s->t D σ H->wpAny (model X.prog X.w) X.A (exec st X.env) (SP X pins D) X.xe s
def PSs (X:Cx) (st:List Stmt) (t:TS):Prop:=
 ∀(pins:List (Addr × Obj)) (s:Shared) (σ:St) (H:Hp) (D:Ends),Inv X pins σ H s->t D σ H->wpAny (model X.prog X.w) X.A (execs st X.env) (SP X pins D) X.xe s
theorem thn {α:Type} {t:Sem α} {Q Q':α->Shared->Prop} {M:Model} {A:Around} {E:Value->Shared->Prop} {s:Shared} (h:wpAny M A t Q E s) (hQ:∀a s,Q a s->Q' a s):wpAny M A t Q' E s:=wpAny_mono h hQ fun _ _ x=>x
section
variable {X:Cx}
def tVar (i:Nat):TE:=fun σ H Q=>∃v,σ[i]? = some (some v)/\Q v H
def tC (v:V):TE:=fun _ H Q=>Q v H
theorem zcf {i:Nat} {x:Str} {pos:Pos} (hN:X.N[i]? = some x) (hv:Vis X.env.scope x) (hd:(x == ("__debug__" : Str))=false:=by decide) (hcd:(x == ("__classdict__" : Str))=false:=by decide):PE X (.Name x pos) (tVar i):=by
 intro pins s σ H Q I h
 obtain ⟨v,e,h⟩:=h
 obtain ⟨m,hn,hl⟩:=I.loc
 obtain ⟨u,r,l⟩:=hl i x v hN e hv
 have fin:EP X pins σ Q u s:=⟨v,H,I,r,h⟩
 rcases l with ⟨hk,hm⟩ | ⟨hk,c,hc,hcell⟩
 ·exact wpAny_Name (wpAny_loadName_local I.ok.kind hk hn hm fin) hd
 ·rcases hk with hk | hk
  ·exact wpAny_Name (wpAny_loadName_cell I.ok.kind hk hc hcell fin) hd
  ·exact wpAny_Name (wpAny_loadName_free I.ok.kind hk hc hcell fin hcd) hd
theorem zp5 {i j pos}:PE X (.Constant (.int i) j pos) (tC (.int i)):=fun _ _ _ H _ I h=>wpAny_Constant_int ⟨.int i,H,I.tok _,⟨_,rfl⟩,h⟩
theorem zrT {b j pos}:PE X (.Constant (.bool b) j pos) (tC (.bl b)):=fun _ _ _ H _ I h=>Constant_bool ⟨.bl b,H,I,rfl,h⟩
theorem zp3 {j pos}:PE X (.Constant .none j pos) (tC .non):=fun _ _ _ H _ I h=>Constant_none ⟨.non,H,I,rfl,h⟩
theorem zmL {x j pos}:PE X (.Constant (.str x) j pos) (tC (.str x)):=fun _ _ _ H _ I h=>Calls.Constant_str ⟨.str x,H,I.tok _,⟨_,rfl⟩,h⟩
def Gl (X:Cx) (x:Str):Prop:=X.env.kindOf x=some .globalImplicit
theorem zdi {E:Value->Shared->Prop} {pins:List (Addr × Obj)} {s:Shared} {σ:St} {H:Hp} {x:Str} {u:Value} {pos:Pos} {Q:Value->Shared->Prop} (I:Inv X pins σ H s) (hg:Gl X x) (hm:X.mg x=some u) (h:Q u s)
  (hd:(x == ("__debug__" : Str))=false:=by decide):wpAny (model X.prog X.w) X.A (eval (.Name x pos) X.env) Q E s:=
 Calls.Name_function_global I.ok.kind hg (Calls.loadGlobal_global (by rw [I.ok.glob]; exact I.mod.glob.keeps I.bk) hm h) hd
theorem zf2 {E:Value->Shared->Prop} {pins:List (Addr × Obj)} {s:Shared} {σ:St} {H:Hp} {x:Str} {u:Value} {pos:Pos} {Q:Value->Shared->Prop} (I:Inv X pins σ H s) (hg:Gl X x) (hm:X.mg x=none) (hv:bootBuiltins x=some u) (h:Q u s)
  (hn:x≠"__name__" := by decide) (hd:(x == ("__debug__" : Str))=false:=by decide):wpAny (model X.prog X.w) X.A (eval (.Name x pos) X.env) Q E s:=by
 obtain ⟨mb,h1,h2⟩:=I.mod.blt
 exact Calls.Name_function_global I.ok.kind hg (Calls.loadGlobal_builtin (by rw [I.ok.glob]; exact I.mod.glob.keeps I.bk) hm (by rw [I.ok.blt]; exact h1.keeps I.bk) ((h2 x hn).trans hv) h) hd
theorem zjY {x:Str} {v:V} {u:Value} {pos:Pos} (hg:Gl X x) (hm:X.mg x=some u) (r:RelV v u) (hd:(x == ("__debug__" : Str))=false:=by decide):PE X (.Name x pos) (tC v):=
 fun _ _ _ H _ I h=>zdi I hg hm ⟨v,H,I,r,h⟩ hd
theorem zjZ {x:Str} {v:V} {u:Value} {pos:Pos} (hg:Gl X x) (hm:X.mg x=none) (hv:bootBuiltins x=some u) (r:RelV v u) (hn:x≠"__name__" := by decide) (hd:(x == ("__debug__" : Str))=false:=by decide):PE X (.Name x pos) (tC v):=
 fun _ _ _ H _ I h=>zf2 I hg hm hv ⟨v,H,I,r,h⟩ hn hd
variable {a b:Expr} {ta tb:TE} {pos:Pos}
variable {tA tB':TT} {rest:List Expr}
def tAnd (t u:TT):TT:=fun σ H Q=>t σ H fun c H1=>if c=true then u σ H1 Q else Q false H1
def tOr (t u:TT):TT:=fun σ H Q=>t σ H fun c H1=>if c=true then Q true H1 else u σ H1 Q
def tNot (t:TT):TT:=fun σ H Q=>t σ H fun c H1=>Q (! c) H1
theorem znH (ha:PT X a tA):PW X (.BoolOp .And [a] pos) tA:=by
 intro wh pins s σ H Q I h
 refine isTrue_and (thn (ha pins s σ H Q I h) fun c s1 e=>?_)
 cases c with
 | true=>exact isTrue_and_nil e
 | false=>exact e
theorem zpP (ha:PT X a tA):PW X (.BoolOp .Or [a] pos) tA:=by
 intro wh pins s σ H Q I h
 refine isTrue_or (thn (ha pins s σ H Q I h) fun c s1 e=>?_)
 cases c with
 | false=>exact isTrue_or_nil e
 | true=>exact e
theorem zpQ (ha:PT X a tA) (hb:PW X (.BoolOp .And (b::rest) pos) tB'):PW X (.BoolOp .And (a::b::rest) pos) (tAnd tA tB'):=by
 intro wh pins s σ H Q I h
 refine isTrue_and (thn (ha pins s σ H _ I h) fun c s1 ⟨H1,I1,q1⟩=>?_)
 cases c with
 | true=>exact hb wh pins s1 σ H1 Q I1 q1
 | false=>exact ⟨H1,I1,q1⟩
theorem zrO (ha:PT X a tA) (hb:PW X (.BoolOp .Or (b::rest) pos) tB'):PW X (.BoolOp .Or (a::b::rest) pos) (tOr tA tB'):=by
 intro wh pins s σ H Q I h
 refine isTrue_or (thn (ha pins s σ H _ I h) fun c s1 ⟨H1,I1,q1⟩=>?_)
 cases c with
 | true=>exact ⟨H1,I1,q1⟩
 | false=>exact hb wh pins s1 σ H1 Q I1 q1
theorem zpR (ha:PT X a tA):PT X (.UnaryOp .Not a pos) (tNot tA):=by
 intro pins s σ H Q I h
 exact isTrue_not (ha pins s σ H (fun c H1=>Q (! c) H1) I h)
def zrz (ta tb:TE):TE:=fun σ H Q=>ta σ H fun x H1=>∃c,x=.bl c/\if c=true then tb σ H1 Q else Q (.bl false) H1
def zrx (ta:TE):TE:=fun σ H Q=>ta σ H fun x H1=>∃c,x=.bl c/\Q (.bl (! c)) H1
theorem zp1 {op} {t:TE} (h:PE X a t):PE X (.BoolOp op [a] pos) t:=fun pins s σ H Q I hw=>BoolOp_one (h pins s σ H Q I hw)
theorem zp8 (ha:PE X a ta) (hb:PE X (.BoolOp .And (b::rest) pos) tb):PE X (.BoolOp .And (a::b::rest) pos) (zrz ta tb):=by
 intro pins s σ H Q I h
 refine BoolOp_and (thn (ha pins s σ H _ I h) fun v s1 ⟨x,H1,I1,r1,q1⟩=>?_)
 obtain ⟨c,rfl,q1⟩:=q1
 cases r1
 refine wpAny_truthy_bool ?_
 cases c with
 | true=>exact hb pins s1 σ H1 Q I1 q1
 | false=>exact ⟨.bl false,H1,I1,rfl,q1⟩
theorem zp2 (ha:PE X a ta):PE X (.UnaryOp .Not a pos) (zrx ta):=by
 intro pins s σ H Q I h
 refine UnaryOp_ (thn (ha pins s σ H _ I h) fun v s1 ⟨x,H1,I1,r1,q1⟩=>?_)
 obtain ⟨c,rfl,q1⟩:=q1
 cases r1
 exact not_of (wpAny_truthy_bool ⟨.bl (! c),H1,I1,rfl,q1⟩)
def tIf (t:TT) (ta tb:TE):TE:=fun σ H Q=>t σ H fun c H1=>if c=true then ta σ H1 Q else tb σ H1 Q
theorem zlM {c:Expr} (hc:PT X c tA) (ha:PE X a ta) (hb:PE X b tb):PE X (.IfExp c a b pos) (tIf tA ta tb):=by
 intro pins s σ H Q I h
 refine wpAny_IfExp (thn (hc pins s σ H _ I h) fun d s1 ⟨H1,I1,q1⟩=>?_)
 cases d with
 | true=>exact ha pins s1 σ H1 Q I1 q1
 | false=>exact hb pins s1 σ H1 Q I1 q1
end
def SqL (K:W.Frag) (H:Hp) (a:Addr) (xs:List V):Prop:=
 Rd H a (.lst xs) \/
  ∃(o:Obj) (its:Array Value) (n:Nat),K.lookup a=some o/\o.cls=.type "list"/\o.dict=none/\o.data=.seq its n/\its.size<=sizeLine/\Vals xs its.toList
def SqT (K:W.Frag) (H:Hp) (a:Addr) (xs:List V):Prop:=
 Rd H a (.tup xs) \/
  ∃(o:Obj) (its:Array Value) (n:Nat),K.lookup a=some o/\o.cls=.type "tuple"/\o.data=.seq its n/\its.size<=sizeLine/\Vals xs its.toList
def absV:Value->Option V
 | .none=>some .non
 | .bool b=>some (.bl b)
 | .int i _=>some (.int i)
 | .str x _=>some (.str x)
 | .bytes b _=>some (.byt b)
 | .float b _=>some (.flt b)
 | .ref a=>some (.ref a)
 | .type n=>some (.ty n)
 | _=>none
theorem RelV.abs {x:V} {u:Value} (r:RelV x u):absV u=some x:=by
 cases x with
 | non=>cases r; rfl
 | bl _=>cases r; rfl
 | int _=>obtain ⟨t,rfl⟩:=r; rfl
 | str _=>obtain ⟨t,rfl⟩:=r; rfl
 | byt _=>obtain ⟨t,rfl⟩:=r; rfl
 | flt _=>obtain ⟨t,rfl⟩:=r; rfl
 | ref _=>cases r; rfl
 | ty _=>cases r; rfl
theorem RelV.inj {x y:V} {u:Value} (r:RelV x u) (q:RelV y u):x=y:=Option.some.inj (r.abs.symm.trans q.abs)
theorem Vals.inj {xs ys:List V} {us:List Value} (h:Vals xs us) (h':Vals ys us):xs=ys:=by
 induction h generalizing ys with
 | nil=>cases h'; rfl
 | cons r t ih=>
  cases h' with
  | cons r' t'=>rw [r.inj r',ih t']
section
variable {X:Cx} {pins:List (Addr × Obj)} {σ:St} {H:Hp} {s:Shared} {a:Addr} {xs ys:List V}
theorem SqL.of {K:W.Frag} (h:H a=some (.lst xs)):SqL K H a xs:=.inl (.inl h)
theorem Inv.list (I:Inv X pins σ H s) (h:SqL X.K H a xs):∃its:List Value,Vals xs its/\PlainL s.heap a its.toArray/\xs.length<=sizeLine:=by
 rcases h with h | ⟨o,its,n,hk,hc,hd,hs,hz,r⟩
 ·obtain ⟨z,its,n,r,e⟩:=h.ok I.hok
  exact ⟨its,r,⟨_,n,e,rfl,rfl,rfl⟩,z⟩
 ·refine ⟨its.toList,r,⟨o,n,I.kIn a o hk,hc,hd,by simpa using hs⟩,?_⟩
  have e:=r.length
  simp only [Array.length_toList] at e
  omega
theorem Inv.tuple (I:Inv X pins σ H s) (h:SqT X.K H a xs):∃its:List Value,Vals xs its/\IsTup s.heap a its.toArray/\xs.length<=sizeLine:=by
 rcases h with h | ⟨o,its,n,hk,hc,hs,hz,r⟩
 ·obtain ⟨z,its,r,p,_⟩:=h.ok I.hok
  exact ⟨its,r,p,z⟩
 ·refine ⟨its.toList,r,⟨o,I.kIn a o hk,hc,n,by simpa using hs⟩,?_⟩
  have e:=r.length
  simp only [Array.length_toList] at e
  omega
theorem Inv.list_inj (I:Inv X pins σ H s) (h:SqL X.K H a xs) (h':SqL X.K H a ys):xs=ys:=by
 obtain ⟨its,r,⟨o,n,e,_,_,d⟩,_⟩:=I.list h
 obtain ⟨its',r',⟨o',n',e',_,_,d'⟩,_⟩:=I.list h'
 rw [e] at e'; cases e'
 rw [d] at d'
 injection d' with d1 _
 have:its=its':=by simpa using congrArg Array.toList d1
 subst this
 exact r.inj r'
theorem Inv.tuple_inj (I:Inv X pins σ H s) (h:SqT X.K H a xs) (h':SqT X.K H a ys):xs=ys:=by
 obtain ⟨its,r,⟨o,e,_,n,d⟩,_⟩:=I.tuple h
 obtain ⟨its',r',⟨o',e',_,n',d'⟩,_⟩:=I.tuple h'
 rw [e] at e'; cases e'
 rw [d] at d'
 injection d' with d1 _
 have:its=its':=by simpa using congrArg Array.toList d1
 subst this
 exact r.inj r'
end
abbrev Cx.wish (X:Cx) (E:Value->Shared->Prop):Cx:={ X with xe:=E }
abbrev Cx.nox (X:Cx):Cx:=X.wish fun _ _=>False
theorem Cx.Ok.wish {X:Cx} (ok:X.Ok) (E:Value->Shared->Prop):(X.wish E).Ok:=
 ⟨ok.mod,ok.kind,ok.glob,ok.blt,ok.above,ok.inj,ok.has,ok.cab,ok.hd,ok.frames,ok.stk,ok.exf,ok.bs,ok.bsz,ok.noex,ok.exfs,ok.funs,ok.frf⟩
theorem Cx.Ok.unwish {X:Cx} {E:Value->Shared->Prop} (ok:(X.wish E).Ok):X.Ok:=
 ⟨ok.mod,ok.kind,ok.glob,ok.blt,ok.above,ok.inj,ok.has,ok.cab,ok.hd,ok.frames,ok.stk,ok.exf,ok.bs,ok.bsz,ok.noex,ok.exfs,ok.funs,ok.frf⟩
section
variable {X:Cx} {pins:List (Addr × Obj)} {σ:St} {H:Hp} {s:Shared} {E:Value->Shared->Prop}
theorem Inv.wish (I:Inv X pins σ H s) (E:Value->Shared->Prop):Inv (X.wish E) pins σ H s:=⟨I.ok.wish E,I.os,I.bare,I.base,I.loc,I.cell,I.free,I.freeC,I.pin,I.hok,I.len⟩
theorem Inv.unwish (I:Inv (X.wish E) pins σ H s):Inv X pins σ H s:=⟨I.ok.unwish,I.os,I.bare,I.base,I.loc,I.cell,I.free,I.freeC,I.pin,I.hok,I.len⟩
theorem SP.unwish {D:Ends} {f:Flow} {s':Shared} (h:SP (X.wish E) pins D f s'):SP X pins D f s':=by
 cases f with
 | next=>obtain ⟨σ',H',I,q⟩:=h; exact ⟨σ',H',I.unwish,q⟩
 | brk=>obtain ⟨σ',H',I,q⟩:=h; exact ⟨σ',H',I.unwish,q⟩
 | cont=>obtain ⟨σ',H',I,q⟩:=h; exact ⟨σ',H',I.unwish,q⟩
 | ret u=>obtain ⟨v,σ',H',I,r,q⟩:=h; exact ⟨v,σ',H',I.unwish,r,q⟩
theorem PSs.nox {st:List Stmt} {t:TS} (h:PSs X.nox st t):PSs X st t:=fun pins s σ H D I hw=>
 wpAny_mono (h pins s σ H D (I.wish _) hw) (fun _ _ q=>q.unwish) fun _ _ z=>False.elim z
end
section
variable {X:Cx} {st:Stmt} {rest:List Stmt} {t u:TS} {e:Expr} {te:TE} {pos:Pos}
def zry:TS:=fun D σ H=>D.nx σ H
def tSeq (t u:TS):TS:=fun D σ H=>t { D with nx:=u D } σ H
theorem znJ:PSs X [] zry:=fun _ _ σ H _ I h=>wpAny_execs_nil ⟨σ,H,I,h⟩
theorem zeZ (h1:PS X st t) (h2:PSs X rest u):PSs X (st::rest) (tSeq t u):=by
 intro pins s σ H D I h
 refine wpAny_execs_cons (thn (h1 pins s σ H { D with nx:=u D } I h) fun f s1 q=>?_)
 cases f with
 | next=>
  obtain ⟨σ',H',I',q⟩:=q
  exact h2 pins s1 σ' H' D I' q
 | ret v=>exact q
 | brk=>exact q
 | cont=>exact q
theorem zhK (h1:PS X st t):PSs X [st] t:=by
 intro pins s σ H D I h
 refine wpAny_execs_cons (thn (h1 pins s σ H D I h) fun f s1 q=>?_)
 cases f with
 | next=>exact wpAny_execs_nil q
 | ret v=>exact q
 | brk=>exact q
 | cont=>exact q
theorem Inv.quiet {pins:List (Addr × Obj)} {σ:St} {H:Hp} {s:Shared} (I:Inv X pins σ H s):interactive X.env=false:=by simp [interactive,I.ok.kind]
def zpc (te:TE):TS:=fun D σ H=>te σ H fun _ H1=>D.nx σ H1
theorem zfj (he:PE X e te) (hs:swapsWith e none pos.line X.env=pure false:=by rfl):PS X (.Expr e pos) (zpc te):=by
 intro pins s σ H D I h
 exact wpAny_Expr_any (thn (he pins s σ H _ I h) fun v s1 ⟨x,H1,I1,r1,q1⟩=>⟨σ,H1,I1,q1⟩) I.quiet hs
def tRet (te:TE):TS:=fun D σ H=>te σ H D.rt
theorem zpS (he:PE X e te):PS X (.Return (some e) pos) (tRet te):=by
 intro pins s σ H D I h
 exact wpAny_Return_some (thn (he pins s σ H _ I h) fun v s1 ⟨x,H1,I1,r1,q1⟩=>⟨x,σ,H1,I1,r1,q1⟩)
def tIfS (c:TT) (t u:TS):TS:=fun D σ H=>c σ H fun b H1=>if b=true then t D σ H1 else u D σ H1
theorem zrQ {c:Expr} {a b:List Stmt} {tc:TT} (hc:PT X c tc) (ha:PSs X a t) (hb:PSs X b u):PS X (.If c a b pos) (tIfS tc t u):=by
 intro pins s σ H D I h
 refine wpAny_If (thn (hc pins s σ H _ I h) fun d s1 ⟨H1,I1,q1⟩=>?_)
 cases d with
 | true=>exact ha pins s1 σ H1 D I1 q1
 | false=>exact hb pins s1 σ H1 D I1 q1
end
abbrev TG:=V->St->Hp->(St->Hp->Prop)->Prop
abbrev TGs:=List V->St->Hp->(St->Hp->Prop)->Prop
def PG (X:Cx) (target:Expr) (t:TG):Prop:=
 ∀(pins:List (Addr × Obj)) (s:Shared) (σ:St) (H:Hp) (v:V) (u:Value) (Q:St->Hp->Prop),Inv X pins σ H s->RelV v u->t v σ H Q ->
  wpAny (model X.prog X.w) X.A (assign target X.env u) (fun _ s'=>∃σ' H',Inv X pins σ' H' s'/\Q σ' H') X.xe s
def PGs (X:Cx) (ts:List Expr) (t:TGs):Prop:=
 ∀(pins:List (Addr × Obj)) (s:Shared) (σ:St) (H:Hp) (vs:List V) (us:List Value) (Q:St->Hp->Prop),Inv X pins σ H s->Vals vs us->t vs σ H Q ->
  wpAny (model X.prog X.w) X.A (assignInOrder ((assignEach ts X.env).map (·.2)) us) (fun _ s'=>∃σ' H',Inv X pins σ' H' s'/\Q σ' H') X.xe s
abbrev TSet:=V->V->V->Hp->(Hp->Prop)->Prop
def PSet (X:Cx) (t:TSet):Prop:=
 ∀(pins:List (Addr × Obj)) (s:Shared) (σ:St) (H:Hp) (o i v:V) (ov iv u:Value) (Q:Hp->Prop),Inv X pins σ H s->RelV o ov->RelV i iv->RelV v u->t o i v H Q ->
  wpAny (model X.prog X.w) X.A (setItem ov iv u) (fun _ s'=>∃H',Inv X pins σ H' s'/\Q H') X.xe s
section
variable {X:Cx} {pos:Pos}
def zqY (i:Nat):TG:=fun v σ H Q=>Q (σ.set i (some v)) H
theorem znO {i:Nat} {x:Str} (hN:X.N.Nodup) (hi:X.N[i]? = some x) (hx:Loc X.env.scope x) (hf:X.fn x=true\/X.env.scope.names.lookup x=some .local:=by first | exact .inl rfl | exact .inr rfl | assumption):PG X (.Name x pos) (zqY i):=by
 intro pins s σ H v u Q I r h
 exact wpAny_assign_Name (zeX I hN hi hx r (fun s' I'=>⟨_,H,I',h⟩) hf)
def gNil:TGs:=fun vs σ H Q=>vs=[]/\Q σ H
def zsd (t:TG) (u:TGs):TGs:=fun vs σ H Q=>∃v r,vs=v::r/\t v σ H fun σ' H'=>u r σ' H' Q
theorem znN:PGs X [] gNil:=by
 intro pins s σ H vs us Q I r h
 obtain ⟨e,h⟩:=h
 subst e
 cases r
 exact assignInOrder_nil ⟨σ,H,I,h⟩
theorem zlL {e:Expr} {es:List Expr} {t:TG} {u:TGs} (h1:PG X e t) (h2:PGs X es u)
  (hs:(assignEach (e::es) X.env).map (·.2)=assign e X.env::(assignEach es X.env).map (·.2):=by rfl):PGs X (e::es) (zsd t u):=by
 intro pins s σ H vs us Q I r h
 obtain ⟨v,vr,e1,h⟩:=h
 subst e1
 cases r with
 | cons r rr=>
  rw [hs]
  refine assignInOrder_cons (thn (h1 pins s σ H _ _ _ I r h) fun _ s1 ⟨σ1,H1,I1,q1⟩=>?_)
  exact h2 pins s1 σ1 H1 _ _ Q I1 rr q1
def gTup (K:W.Frag) (n:Nat) (t:TGs):TG:=fun v σ H Q=>∃a xs,v=.ref a/\SqT K H a xs/\xs.length=n/\t xs σ H Q
theorem zpW {es:List Expr} {k:Nat} {t:TGs} {n:Nat} (hc:X.calm=true) (h:PGs X es t)
  (hn:(assignEach es X.env).length=n:=by rfl) (hst:(assignEach es X.env).findIdx? (·.1)=none:=by rfl):PG X (.Tuple es k pos) (gTup X.K n t):=by
 intro pins s σ H v u Q I r hw
 obtain ⟨a,xs,e1,hq,hl,hw⟩:=hw
 subst e1
 cases r
 obtain ⟨its,rv,ht,hz⟩:=I.tuple hq
 refine assign_Tuple_tuple (I.ok.hd hc) ht (by simp [hn,<-hl,rv.length]) hst fun h' hx=>?_
 have I1:Inv X pins σ H { s with heap:=h' }:=I.kept (t':=s.toks) fun b o e=>hx b o (Nat.ne_of_lt (Heap.lt_size e)) e
 exact h pins _ σ H xs _ Q I1 (by simpa using rv) hw
def gSub (to ti:TE) (t:TSet):TG:=fun v σ H Q=>to σ H fun o H1=>ti σ H1 fun i H2=>t o i v H2 fun H3=>Q σ H3
theorem zpX {o i:Expr} {to ti:TE} {t:TSet} (ho:PE X o to) (hi:PE X i ti) (hs:PSet X t)
  (ha:∀v,assign (.Subscript o i pos) X.env v=(do
   let ov <-holding [v] (eval o X.env)
   let iv <-holding [v,ov] (eval i X.env)
   standAt pos
   holding [v,ov,iv] (setItem ov iv v)
   release [v,ov,iv] []):=by intro _; rfl):PG X (.Subscript o i pos) (gSub to ti t):=by
 intro pins s σ H v u Q I r h
 rw [ha]
 refine wpAny_bind (wpAny_holding (thn (ho pins s σ H _ I h) fun ov s1 ⟨x,H1,I1,r1,q1⟩=>?_))
 refine wpAny_bind (wpAny_holding (thn (hi pins s1 σ H1 _ I1 q1) fun iv s2 ⟨y,H2,I2,r2,q2⟩=>?_))
 refine wpAny_bind (wpAny_standAt (wpAny_bind (wpAny_holding (thn (hs pins s2 σ H2 x y v ov iv u _ I2 r1 r2 r q2) fun _ s3 ⟨H3,I3,q3⟩=>?_))))
 exact wpAny_release ⟨σ,H3,I3,q3⟩
def tAsg (te:TE) (g:TG):TS:=fun D σ H=>te σ H fun x H1=>g x σ H1 D.nx
theorem zpT {tg e:Expr} {te:TE} {g:TG} (he:PE X e te) (hg:PG X tg g) (hs:swapsWithSole [tg] e pos.line X.env=pure false:=by rfl) (hw:swappedStores [tg] e X.env=pure none:=by rfl)
  (h1:(assignEach [tg] X.env).map (·.2)=[assign tg X.env]:=by rfl):PS X (.Assign [tg] e pos) (tAsg te g):=by
 intro pins s σ H D I h
 refine wpAny_Assign_stores (thn (he pins s σ H _ I h) fun v s1 ⟨x,H1,I1,r1,q1⟩=>?_) hs hw
 rw [h1]
 exact thn (hg pins s1 σ H1 x v _ I1 r1 q1) fun _ s2 q=>q
theorem zmJ {i:Nat} {x:Str} {e:Expr} {te:TE} {pos':Pos} (hN:X.N.Nodup) (hi:X.N[i]? = some x) (hx:Loc X.env.scope x) (he:PE X e te) (hs:swapsWith e (some (.Name x pos')) pos.line X.env=pure false:=by rfl) (hf:X.fn x=true\/X.env.scope.names.lookup x=some .local:=by first | exact .inl rfl | exact .inr rfl | assumption) :
  PS X (.Assign [.Name x pos'] e pos) (tAsg te (zqY i)):=by
 intro pins s σ H D I h
 refine wpAny_Assign_Name (thn (he pins s σ H _ I h) fun v s1 ⟨y,H1,I1,r1,q1⟩=>?_) hs
 exact zeX I1 hN hi hx r1 (fun s2 I2=>⟨_,H1,I2,q1⟩) hf
end
structure It where
 go:Nat->Hp->Prop
 yld:Nat->Hp->V->Hp->Prop
 stop:Nat->Hp->Prop
def FpOk (X:Cx) (pins:List (Addr × Obj)) (H:Hp) (b:Addr):Prop:=
 H b=none/\b≠X.env.locals/\b∉X.fs/\(b∈X.ex\/X.s₀.heap.objs.size<=b)/\(∀x c,X.env.cells.lookup x=some c->c≠b)/\∀p∈X.pn++pins,p.1≠b
theorem Inv.fpOk {X:Cx} {pins:List (Addr × Obj)} {σ:St} {H H':Hp} {s:Shared} {b:Addr} (I:Inv X pins σ H s) (hb:s.heap.objs.size<=b) (hn:H' b=none):FpOk X pins H' b:=by
 refine ⟨hn,Nat.ne_of_gt (Nat.lt_of_lt_of_le I.lt hb),I.nofs hb,.inr (Nat.le_trans I.sz hb),fun x c e z=>?_,fun p hp z=>?_⟩
 ·obtain ⟨v,q⟩:=I.cell x c e
  exact absurd (Nat.lt_of_lt_of_le q.lt (by rw [z]; exact hb)) (Nat.lt_irrefl _)
 ·exact absurd (Nat.lt_of_lt_of_le (Heap.lt_size (I.pin p hp).1) (by rw [z]; exact hb)) (Nat.lt_irrefl _)
structure Turn (P:Program) (w:World) (K:W.Frag) (tg:Expr) (J:It) (fp:List Addr) (it:Addr) (tn:Nat->Heap->Prop):Prop where
 mem:it∈fp
 obj:∀i h,tn i h->∀b∈fp,∃o,h.get? b=some o/\∀v,o.data≠.cell v
 keep:∀i h h',tn i h->(∀b∈fp,∀o,h.get? b=some o->h'.get? b=some o)->tn i h'
 item:∀(X:Cx),X.prog=P->X.w=w->X.K=K->X.calm=true->∀(i:Nat) (pins:List (Addr × Obj)) (s:Shared) (σ:St) (H:Hp) (E:Value->Shared->Prop),Inv X pins σ H s->(∀b∈fp,FpOk X pins H b)->tn i s.heap->J.go i H ->
  wpAny (model P w) X.A (pyNext (.ref it)) (fun r s1=>∃u,r=some u /\
   wpAny (model P w) X.A (letOwnedTupleGo tg (.ref it) u) (fun _ s2=>∃x H',Inv X pins σ H' s2/\RelV x u/\J.yld i H x H'/\tn (i + 1) s2.heap/\∀b∈fp,H' b=none) E s1) E s
 done:∀(X:Cx),X.prog=P->X.w=w->X.K=K->X.calm=true->∀(i:Nat) (pins:List (Addr × Obj)) (s:Shared) (σ:St) (H:Hp) (E:Value->Shared->Prop),Inv X pins σ H s->(∀b∈fp,FpOk X pins H b)->tn i s.heap->J.stop i H ->
  wpAny (model P w) X.A (pyNext (.ref it)) (fun r s1=>r=none/\Inv X pins σ H s1) E s
 self:∀(A:Around) (i:Nat) (s:Shared) (Q:Value->Shared->Prop) (E:Value->Shared->Prop),tn i s.heap->Q (.ref it) s->wpAny (model P w) A (pyIter (.ref it)) Q E s
abbrev TI:=St->Hp->(It->Hp->Prop)->Prop
def PIE (X:Cx) (pins:List (Addr × Obj)) (σ:St) (tg:Expr) (R:It->Hp->Prop) (itv:Value) (s2:Shared):Prop:=
 ∃(it:Addr) (fp:List Addr) (tn:Nat->Heap->Prop) (J:It) (H':Hp),itv=.ref it/\Inv X pins σ H' s2/\Turn X.prog X.w X.K tg J fp it tn/\tn 0 s2.heap/\(∀b∈fp,FpOk X pins H' b)/\R J H'
def PI (X:Cx) (tg iter:Expr) (wi:TI):Prop:=
 ∀(pins:List (Addr × Obj)) (s:Shared) (σ:St) (H:Hp) (R:It->Hp->Prop),Inv X pins σ H s->wi σ H R ->
  wpAny (model X.prog X.w) X.A (eval iter X.env) (fun v s1=>wpAny (model X.prog X.w) X.A (pyIter v) (PIE X pins σ tg R) X.xe s1) X.xe s
theorem zox {M:Model} {A:Around} {E:Value->Shared->Prop} {s:Shared} {tg:Expr} {it:Addr} {u:Value} {o:Obj} {n:String} {vs:Array Value} {Q:Unit->Shared->Prop} (ho:s.heap.get? it=some o) (hc:o.cls=.type n) (hd:o.data=.fields vs)
    (hn : ["enumerate","zip","dict_itemiterator","dict_reverseitemiterator","odict_iterator","itertools.zip_longest","itertools.pairwise"].contains n=false) (hQ:Q () s):wpAny M A (letOwnedTupleGo tg (.ref it) u) Q E s:=by
  unfold letOwnedTupleGo
  cases tg <;> first
    | exact wpAny_pure hQ
    | (cases u <;> first
        | exact wpAny_pure hQ
        | (refine wpAny_bind (wpAny_load ho ?_)
           rw [hc,hd]
           show wpAny M A (if (["enumerate","zip","dict_itemiterator","dict_reverseitemiterator","odict_iterator","itertools.zip_longest","itertools.pairwise"].contains n && vs[0]? == some (rawInt _))=true then _ else _) Q E s
           rw [if_neg (by intro h; rw [hn,Bool.false_and] at h; cases h)]
           exact wpAny_pure hQ))
def Itl (K:W.Frag) (a:Addr):It:=
 ⟨fun i H=>∃xs x,SqL K H a xs/\xs[i]? = some x,fun i H x H'=>H'=H/\∀xs,SqL K H a xs->xs[i]? = some x,fun i H=>∃xs,SqL K H a xs/\xs.length<=i⟩
def Itt (K:W.Frag) (a:Addr):It:=
 ⟨fun i H=>∃xs x,SqT K H a xs/\xs[i]? = some x,fun i H x H'=>H'=H/\∀xs,SqT K H a xs->xs[i]? = some x,fun i H=>∃xs,SqT K H a xs/\xs.length<=i⟩
def Itr (lo:Int) (n:Nat):It:=⟨fun i _=>i < n,fun i H x H'=>H'=H/\x=.int (lo + i),fun i _=>n<=i⟩
theorem zjm {P:Program} {w:World} {K:W.Frag} {tg:Expr} (a it:Addr):Turn P w K tg (Itl K a) [it] it (fun i h=>h.IsListIter it a i) where
 mem:=by simp
 obj:=fun i h st b hb=>by
  have e:b=it:=by simpa using hb
  subst e
  obtain ⟨o,e,c,d⟩:=st
  exact ⟨o,e,fun v z=>by rw [d] at z; cases z⟩
 keep:=fun i h h' st k=>st.at fun o e=>k it (by simp) o e
 item:=by
  intro X hP hw hK hc i pins s σ H E I hf st hg
  subst hP hw hK
  obtain ⟨xs,x,hq,hx⟩:=hg
  obtain ⟨its,rv,p,hz⟩:=I.list hq
  obtain ⟨u,hu,ru⟩:=rv.get hx
  obtain ⟨f0,f1,f2,f3,f4,f5⟩:=hf it (by simp)
  refine wpAny_pyNext_list_item st p.isList (x:=u) (by simpa using hu) fun h' st' sb=>?_
  have I1:Inv X pins σ H { s with heap:=h' }:=I.turned (t':=s.toks) (fun b o hb e=>(sb.2 b hb).trans e) f0 f1 f3 f4 f5
  obtain ⟨o,e,c,d⟩:=id st'
  exact ⟨u,rfl,zox (s:={ s with heap:=h' }) e c d (by decide) ⟨x,H,I1,ru,⟨rfl,fun ys hy=>by rw [I.list_inj hy hq]; exact hx⟩,st',fun b hb=>(hf b hb).1⟩⟩
 done:=by
  intro X hP hw hK hc i pins s σ H E I hf st hg
  subst hP hw hK
  obtain ⟨xs,hq,hx⟩:=hg
  obtain ⟨its,rv,p,hz⟩:=I.list hq
  obtain ⟨f0,f1,f2,f3,f4,f5⟩:=hf it (by simp)
  have hl:=rv.length
  exact wpAny_pyNext_list_end (I.ok.hd hc) st p.isList (by simp; omega) fun h' eb=>⟨rfl,I.turned (t':=s.toks) (fun b o hb e=>eb b o hb e) f0 f1 f3 f4 f5⟩
 self:=fun _ _ _ _ _ st h=>wpAny_pyIter_listiter st h
theorem ziI {P:Program} {w:World} {K:W.Frag} {tg:Expr} (a it:Addr):Turn P w K tg (Itt K a) [it] it (fun i h=>h.IsTupleIter it a i) where
 mem:=by simp
 obj:=fun i h st b hb=>by
  have e:b=it:=by simpa using hb
  subst e
  obtain ⟨o,e,c,d⟩:=st
  exact ⟨o,e,fun v z=>by rw [d] at z; cases z⟩
 keep:=fun i h h' st k=>st.at fun o e=>k it (by simp) o e
 item:=by
  intro X hP hw hK hc i pins s σ H E I hf st hg
  subst hP hw hK
  obtain ⟨xs,x,hq,hx⟩:=hg
  obtain ⟨its,rv,p,hz⟩:=I.tuple hq
  obtain ⟨u,hu,ru⟩:=rv.get hx
  obtain ⟨f0,f1,f2,f3,f4,f5⟩:=hf it (by simp)
  refine wpAny_pyNext_tuple_item st (show s.heap.IsTuple a its.toArray from p) (x:=u) (by simpa using hu) fun h' st' sb=>?_
  have I1:Inv X pins σ H { s with heap:=h' }:=I.turned (t':=s.toks) (fun b o hb e=>(sb.2 b hb).trans e) f0 f1 f3 f4 f5
  obtain ⟨o,e,c,d⟩:=id st'
  exact ⟨u,rfl,zox (s:={ s with heap:=h' }) e c d (by decide) ⟨x,H,I1,ru,⟨rfl,fun ys hy=>by rw [I.tuple_inj hy hq]; exact hx⟩,st',fun b hb=>(hf b hb).1⟩⟩
 done:=by
  intro X hP hw hK hc i pins s σ H E I hf st hg
  subst hP hw hK
  obtain ⟨xs,hq,hx⟩:=hg
  obtain ⟨its,rv,p,hz⟩:=I.tuple hq
  obtain ⟨f0,f1,f2,f3,f4,f5⟩:=hf it (by simp)
  have hl:=rv.length
  exact wpAny_pyNext_tuple_end (I.ok.hd hc) st (show s.heap.IsTuple a its.toArray from p) (by simp; omega) fun h' eb=>⟨rfl,I.turned (t':=s.toks) (fun b o hb e=>eb b o hb e) f0 f1 f3 f4 f5⟩
 self:=fun _ _ _ _ _ st h=>wpAny_pyIter_tupleiter st h
theorem ziJ {P:Program} {w:World} {K:W.Frag} {tg:Expr} (it:Addr) (lo:Int) (n:Nat):Turn P w K tg (Itr lo n) [it] it (fun i h=>IsRangeIter h it (lo + (i:Nat) * 1) ((n:Int) - (i:Nat)) 1) where
 mem:=by simp
 obj:=fun i h st b hb=>by
  have e:b=it:=by simpa using hb
  subst e
  exact ⟨_,st,fun v z=>by
   have z':Data.fields _=Data.cell v:=z
   cases z'⟩
 keep:=fun i h h' st k=>k it (by simp) _ st
 item:=by
  intro X hP hw hK hc i pins s σ H E I hf st hg
  subst hP hw hK
  obtain ⟨f0,f1,f2,f3,f4,f5⟩:=hf it (by simp)
  have W:=Walks.range (prog:=X.prog) (w:=X.w) (I.ok.hd hc) it lo 1 n
  refine W.item i s _ _ hg st fun v h' tk hv st' kk=>?_
  obtain ⟨t,rfl⟩:=hv
  have I1:Inv X pins σ H { s with heap:=h',toks:=tk }:=I.turned (fun b o hb e=>kk b o (by simpa using hb) e) f0 f1 f3 f4 f5
  refine ⟨_,rfl,zox (s:={ s with heap:=h',toks:=tk }) (n := "range_iterator") st' rfl rfl (by decide) ⟨.int (lo + i),H,I1,⟨t,?_⟩,⟨rfl,rfl⟩,st',fun b hb=>(hf b hb).1⟩⟩
  rw [Int.mul_one]
 done:=by
  intro X hP hw hK hc i pins s σ H E I hf st hg
  subst hP hw hK
  obtain ⟨f0,f1,f2,f3,f4,f5⟩:=hf it (by simp)
  exact wpAny_pyNext_range_end (I.ok.hd hc) st (by have:n<=i:=hg; omega) fun h' eb=>⟨rfl,I.turned (t':=s.toks) (fun b o hb e=>eb b o hb e) f0 f1 f3 f4 f5⟩
 self:=fun _ _ _ _ _ st h=>wpAny_pyIter_rangeiter st h
section
variable {X:Cx} {tg:Expr}
theorem zlC {pins:List (Addr × Obj)} {σ:St} {H:Hp} {s:Shared} {R:It->Hp->Prop} {E:Value->Shared->Prop} {lo hi:Int} {t u v:Tok} {tk:Nat} (I:Inv X pins σ H s) (h1 : -(2 ^ 62)<=lo) (h2:lo < 2 ^ 62) (h3 : -(2 ^ 62)<=hi) (h4:hi < 2 ^ 62)
  (q:R (Itr lo (hi - lo).toNat) H):wpAny (model X.prog X.w) X.A (pyIter (.ref s.heap.objs.size)) (PIE X pins σ tg R) E { s with heap:=s.heap.push { cls:=.type "range",data:=.fields #[.int lo t,.int hi u,.int 1 v] },toks:=tk }:=by
 refine wpAny_pyIter_range (IsRange.new ..) (small_one h1 h2 h3 h4) ?_
 have I1:Inv X pins σ H { s with heap:=s.heap.push { cls:=.type "range",data:=.fields #[.int lo t,.int hi u,.int 1 v] },toks:=tk }:=I.kept fun b o e=>Heap.get?_push_of_some _ e
 refine ⟨(s.heap.push { cls:=.type "range",data:=.fields #[.int lo t,.int hi u,.int 1 v] }).objs.size,[(s.heap.push { cls:=.type "range",data:=.fields #[.int lo t,.int hi u,.int 1 v] }).objs.size],_,_,H,rfl,
  I1.kept (t':=tk) fun b o e=>Heap.get?_push_of_some _ e,ziJ _ lo (hi - lo).toNat,?_,fun b hb=>?_,q⟩
 ·have e1:lo + ((0:Nat):Int) * 1=lo:=by simp
  have e2:(((hi - lo).toNat:Nat):Int) - ((0:Nat):Int)=Builtin.Range.rangeSize lo hi 1:=by rw [rangeSize_one]; split <;> omega
  show IsRangeIter _ _ (lo + ((0:Nat):Int) * 1) ((((hi - lo).toNat:Nat):Int) - ((0:Nat):Int)) 1
  rw [e1,e2]
  exact Heap.get?_push_size _ rfl
 ·have e:b=(s.heap.push { cls:=.type "range",data:=.fields #[.int lo t,.int hi u,.int 1 v] }).objs.size:=by simpa using hb
  subst e
  exact I1.fpOk (Nat.le_refl _) (I1.hok.fresh (Nat.le_refl _))
def zsb (ta:TA):TI:=fun σ H R=>ta σ H fun vs H1=>∃j:Int,vs=[.int j]/\-(2 ^ 62)<=j/\j < 2 ^ 62/\R (Itr 0 j.toNat) H1
theorem zjW {a:Expr} {ta:TA} {p pos:Pos} (hg:Gl X "range") (hm:X.mg "range" = none) (ha:PA X [a] ta) (hs:starEach [a] X.env=[(false,eval a X.env)]:=by rfl):PI X tg (.Call (.Name "range" p) [a] [] pos) (zsb ta):=by
 intro pins s σ H R I h
 refine Call_ (zf2 I hg hm boot_range (PyProof.Rows.callWith_type1 (thn (ha pos pins s σ H _ I h) fun us s1 ⟨vs,H1,I1,r1,q1⟩=>?_) hs rfl))
 obtain ⟨j,e,q1,q2,q⟩:=q1
 subst e
 cases r1 with
 | cons r rr=>
  cases rr
  obtain ⟨t,rfl⟩:=r
  exact call_range_1 (zlC I1 (by omega) (by omega) q1 q2 (by simpa using q))
def tFor (wi:TI) (g:TG) (tb:TS):TS:=fun D σ H=>wi σ H fun J H1=>∃W:Nat->Nat->St->Hp->Prop,(∃m,W 0 m σ H1)/\∀i m σ H,W i m σ H ->
 (J.stop i H/\D.nx σ H)\/(J.go i H/\∃N:St->Hp->Prop,(∀σ' H',N σ' H'->∃m',m' < m/\W (i + 1) m' σ' H')/\∀x H',J.yld i H x H'->g x σ H' fun σ2 H2=>tb { D with nx:=N,ct:=N,bk:=D.nx } σ2 H2)
def zf0 (fp:List Addr) (h:Heap):List (Addr × Obj):=fp.filterMap fun b=>(h.get? b).map fun o=>(b,o)
theorem zcc {fp:List Addr} {h:Heap} {b:Addr} {o:Obj} (hb:b∈fp) (e:h.get? b=some o):(b,o)∈zf0 fp h:=List.mem_filterMap.mpr ⟨b,hb,by rw [e]; rfl⟩
theorem zkc {fp:List Addr} {h:Heap} {p:Addr × Obj} (hp:p∈zf0 fp h):p.1∈fp/\h.get? p.1=some p.2:=by
 obtain ⟨b,hb,e⟩:=List.mem_filterMap.mp hp
 cases q:h.get? b with
 | none=>rw [q] at e; cases e
 | some o=>
  rw [q] at e
  have e':(b,o)=p:=Option.some.inj e
  subst e'
  exact ⟨hb,q⟩
theorem Inv.pinned {pins:List (Addr × Obj)} {σ:St} {H:Hp} {s:Shared} {fp:List Addr} (I:Inv X pins σ H s) (hf:∀b∈fp,FpOk X pins H b) (ho:∀b∈fp,∃o,s.heap.get? b=some o/\∀v,o.data≠.cell v):Inv X (pins++zf0 fp s.heap) σ H s:=
 I.pins_of fun p hp=>(List.mem_append.mp hp).elim (fun z=>I.pin p (List.mem_append_right _ z)) fun z=>by
  obtain ⟨hb,e⟩:=zkc z
  obtain ⟨f0,f1,f2,_⟩:=hf p.1 hb
  obtain ⟨o,e',d⟩:=ho p.1 hb
  rw [e] at e'; cases e'
  exact ⟨e,f0,f1,f2,d⟩
theorem Inv.unpinned {pins pl:List (Addr × Obj)} {σ:St} {H:Hp} {s:Shared} (I:Inv X (pins++pl) σ H s):Inv X pins σ H s:=I.pins_of fun p hp=>I.pin p (List.mem_append_right _ (List.mem_append_left _ hp))
theorem zjQ {iter:Expr} {body:List Stmt} {wi:TI} {g:TG} {tb:TS} {pos:Pos} (hp:PassesOwn (model X.prog X.w) X.A X.env X.xe) (hc:X.calm=true) (hi:PI X tg iter wi) (hg:PG X tg g) (hb:PSs X body tb)
  (hs:∀x,foldedSetIterable iter X.env x=pure x:=by intro _; rfl):PS X (.For tg iter body [] pos) (tFor wi g tb):=by
 intro pins s σ H D I h
 refine wpAny_For (thn (hi pins s σ H _ I h) fun v s1 h1=>thn h1 fun itv s2 h2=>?_) hs
 obtain ⟨it,fp,tn,J,H2,e,I2,T,st2,f2,W,⟨m0,w0⟩,turn⟩:=h2
 subst e
 have stat:∀{H':Hp},(∀b∈fp,H' b=none)->∀b∈fp,FpOk X pins H' b:=fun hn b hb=>⟨hn b hb,(f2 b hb).2⟩
 refine codeAny_forLoop_any (fun n s'=>∃i σ' H',Inv X pins σ' H' s'/\tn i s'.heap/\(∀b∈fp,H' b=none)/\W i n σ' H') ?_ m0 ⟨0,σ,H2,I2,st2,fun b hb=>(f2 b hb).1,w0⟩
 rintro n s3 ⟨i,σ3,H3,I3,st3,fr3,w3⟩
 rcases turn i n σ3 H3 w3 with ⟨stop,qn⟩ | ⟨go,N,hN,step⟩
 ·refine wpAny_passesOwn hp (thn (T.done X rfl rfl rfl hc i pins s3 σ3 H3 X.xe I3 (stat fr3) st3 stop) fun r s4 ⟨hr,I4⟩=>?_)
  subst hr
  exact wpAny_execs_nil ⟨σ3,H3,I4,qn⟩
 ·refine wpAny_passesOwn hp (thn (T.item X rfl rfl rfl hc i pins s3 σ3 H3 X.xe I3 (stat fr3) st3 go) fun r s4 ⟨u,hr,h4⟩=>?_)
  subst hr
  refine wpAny_passesOwn hp (thn h4 fun _ s5 ⟨x,H5,I5,r5,y5,st5,fr5⟩=>?_)
  have I5':=I5.pinned (stat fr5) (T.obj _ _ st5)
  refine wpAny_passesOwn hp (thn (hg _ s5 σ3 H5 x u _ I5' r5 (step x H5 y5)) fun _ s6 ⟨σ6,H6,I6,q6⟩=>?_)
  refine wpAny_passesOwn hp (thn (hb _ s6 σ6 H6 _ I6 q6) fun f s7 q7=>?_)
  have again:∀{σ7:St} {H7:Hp},Inv X (pins++zf0 fp s5.heap) σ7 H7 s7->N σ7 H7->∃m,m < n/\∃i σ' H',Inv X pins σ' H' s7/\tn i s7.heap/\(∀b∈fp,H' b=none)/\W i m σ' H':=fun {σ7 H7} I7 n7=>by
   obtain ⟨m',hm,w7⟩:=hN σ7 H7 n7
   refine ⟨m',hm,i + 1,σ7,H7,I7.unpinned,T.keep _ _ _ st5 fun b hb o e=>(I7.pin (b,o) (List.mem_append_right _ (List.mem_append_right _ (zcc hb e)))).1,fun b hb=>?_,w7⟩
   obtain ⟨o,e,d⟩:=T.obj _ _ st5 b hb
   exact (I7.pin (b,o) (List.mem_append_right _ (List.mem_append_right _ (zcc hb e)))).2.1
  cases f with
  | next=>obtain ⟨σ7,H7,I7,n7⟩:=q7; exact again I7 n7
  | cont=>obtain ⟨σ7,H7,I7,n7⟩:=q7; exact again I7 n7
  | brk=>obtain ⟨σ7,H7,I7,q7⟩:=q7; exact ⟨σ7,H7,I7.unpinned,q7⟩
  | ret v=>obtain ⟨x7,σ7,H7,I7,r7,q7⟩:=q7; exact ⟨x7,σ7,H7,I7.unpinned,r7,q7⟩
end
abbrev R2:=V->V->Hp->VK->Prop
def OpR (X:Cx) (f:Value->Value->Sem Value) (r:R2):Prop:=
 ∀(pins:List (Addr × Obj)) (s:Shared) (σ:St) (H:Hp) (x y:V) (v u:Value) (Q:VK),Inv X pins σ H s->RelV x v->RelV y u->r x y H Q ->
  wpAny (model X.prog X.w) X.A (f v u) (EP X pins σ Q) X.xe s
def UnR (X:Cx) (f:Value->Sem Value) (r:V->Hp->VK->Prop):Prop:=
 ∀(pins:List (Addr × Obj)) (s:Shared) (σ:St) (H:Hp) (x:V) (v:Value) (Q:VK),Inv X pins σ H s->RelV x v->r x H Q ->
  wpAny (model X.prog X.w) X.A (f v) (EP X pins σ Q) X.xe s
def zds (X:Cx) (f:Value) (r:List V->Hp->VK->Prop):Prop:=
 ∀(pins:List (Addr × Obj)) (s:Shared) (σ:St) (H:Hp) (xs:List V) (us:List Value) (Q:VK),Inv X pins σ H s->Vals xs us->r xs H Q ->
  wpAny (model X.prog X.w) X.A (call f us) (EP X pins σ Q) X.xe s
def TruR (X:Cx) (r:V->Hp->(Bool->Hp->Prop)->Prop):Prop:=
 ∀(pins:List (Addr × Obj)) (s:Shared) (σ:St) (H:Hp) (x:V) (v:Value) (Q:Bool->Hp->Prop),Inv X pins σ H s->RelV x v->r x H Q ->
  wpAny (model X.prog X.w) X.A (truthy v) (TP X pins σ Q) X.xe s
def tOp (r:R2) (ta tb:TE):TE:=fun σ H Q=>ta σ H fun x H1=>tb σ H1 fun y H2=>r x y H2 Q
def tUn (r:V->Hp->VK->Prop) (ta:TE):TE:=fun σ H Q=>ta σ H fun x H1=>r x H1 Q
def rI (C:Int->Int->Prop) (g:Int->Int->V):R2:=fun x y H Q=>∃i j,x=.int i/\y=.int j/\C i j/\Q (g i j) H
def rI0 (g:Int->Int->V):R2:=fun x y H Q=>∃i j,x=.int i/\y=.int j/\Q (g i j) H
def rU (g:Int->V):V->Hp->VK->Prop:=fun x H Q=>∃i,x=.int i/\Q (g i) H
section
variable {X:Cx} {a b c:Expr} {ta tb tc:TE} {pos:Pos}
theorem binT (ha:PE X a ta) (hb:PE X b tb) {pins:List (Addr × Obj)} {s:Shared} {σ:St} {H:Hp} {R:V->V->Hp->Prop} (I:Inv X pins σ H s)
  (h:ta σ H fun x H1=>tb σ H1 fun y H2=>R x y H2) {Q:Value->Shared->Prop} {f:Value->Value->Sem Value}
  (hf:∀v u s2 x y H2,Inv X pins σ H2 s2->RelV x v->RelV y u->R x y H2->wpAny (model X.prog X.w) X.A (f v u) Q X.xe s2) :
  wpAny (model X.prog X.w) X.A (eval a X.env) (fun v s₁=>wpAny (model X.prog X.w) X.A (eval b X.env) (fun u s₂=>wpAny (model X.prog X.w) X.A (f v u) Q X.xe s₂) X.xe s₁) X.xe s:=by
 refine thn (ha pins s σ H _ I h) fun v s1 ⟨x,H1,I1,r1,q1⟩=>?_
 refine thn (hb pins s1 σ H1 _ I1 q1) fun u s2 ⟨y,H2,I2,r2,q2⟩=>?_
 exact hf v u s2 x y H2 I2 r1 r2 q2
theorem zp0 {op:Operator} {r:R2} (ho:OpR X (binaryOp op) r) (ha:PE X a ta) (hb:PE X b tb):PE X (.BinOp a op b pos) (tOp r ta tb):=by
 intro pins s σ H Q I h
 exact wpAny_BinOp (binT ha hb I h fun v u s2 x y H2 I2 rx ry q=>ho pins s2 σ H2 x y v u Q I2 rx ry q)
theorem zrR {op:UnaryOp} {r:V->Hp->VK->Prop} (ho:UnR X (unaryOp op) r) (ha:PE X a ta):PE X (.UnaryOp op a pos) (tUn r ta):=by
 intro pins s σ H Q I h
 exact UnaryOp_ (thn (ha pins s σ H _ I h) fun v s1 ⟨x,H1,I1,r1,q1⟩=>ho pins s1 σ H1 x v Q I1 r1 q1)
theorem opI {f:Value->Value->Sem Value} {C:Int->Int->Prop} {g:Int->Int->Int}
  (rule:∀(i j:Int) (t u:Tok) (s:Shared) (Q:Value->Shared->Prop) (E:Value->Shared->Prop),C i j->Q (.int (g i j) s.toks) { s with toks:=s.toks + 1 }->wpAny (model X.prog X.w) X.A (f (.int i t) (.int j u)) Q E s) :
  OpR X f (rI C fun i j=>.int (g i j)):=by
 intro pins s σ H x y v u Q I rx ry h
 obtain ⟨i,j,rfl,rfl,hc,q⟩:=h
 obtain ⟨t,rfl⟩:=rx
 obtain ⟨t',rfl⟩:=ry
 exact rule i j t t' s _ _ hc ⟨.int (g i j),H,I.tok _,⟨_,rfl⟩,q⟩
theorem opI0 {f:Value->Value->Sem Value} {g:Int->Int->Int}
  (rule:∀(i j:Int) (t u:Tok) (s:Shared) (Q:Value->Shared->Prop) (E:Value->Shared->Prop),Q (.int (g i j) s.toks) { s with toks:=s.toks + 1 }->wpAny (model X.prog X.w) X.A (f (.int i t) (.int j u)) Q E s) :
  OpR X f (rI0 fun i j=>.int (g i j)):=by
 intro pins s σ H x y v u Q I rx ry h
 obtain ⟨i,j,rfl,rfl,q⟩:=h
 obtain ⟨t,rfl⟩:=rx
 obtain ⟨t',rfl⟩:=ry
 exact rule i j t t' s _ _ ⟨.int (g i j),H,I.tok _,⟨_,rfl⟩,q⟩
theorem opB0 {f:Value->Value->Sem Value} {g:Int->Int->Bool}
  (rule:∀(i j:Int) (t u:Tok) (s:Shared) (Q:Value->Shared->Prop) (E:Value->Shared->Prop),Q (.bool (g i j)) s->wpAny (model X.prog X.w) X.A (f (.int i t) (.int j u)) Q E s) :
  OpR X f (rI0 fun i j=>.bl (g i j)):=by
 intro pins s σ H x y v u Q I rx ry h
 obtain ⟨i,j,rfl,rfl,q⟩:=h
 obtain ⟨t,rfl⟩:=rx
 obtain ⟨t',rfl⟩:=ry
 exact rule i j t t' s _ _ ⟨.bl (g i j),H,I,rfl,q⟩
def CDiv (i j:Int):Prop:=0 < j/\j < 1073741824
def CPow (i j:Int):Prop:=0<=j/\j<=1000000/\i.natAbs < 2 ^ 64
def CMul (i j:Int):Prop:=(-(2 ^ 64) < i/\i < 2 ^ 64)\/(-(2 ^ 64) < j/\j < 2 ^ 64)
theorem CMul.ok {i j:Int} (h:CMul i j):IntMulOk i j:=by
 rcases h with ⟨h1,h2⟩ | ⟨h1,h2⟩
 ·exact .of_left (intBits_le_64 h1 h2)
 ·exact .of_right (intBits_le_64 h1 h2)
theorem zqj:OpR X (binaryOp .Add) (rI0 fun i j=>.int (i + j)):=opI0 fun _ _ _ _ _ _ _ q=>add_int q
theorem zqa:OpR X (binaryOp .Sub) (rI0 fun i j=>.int (i - j)):=opI0 fun _ _ _ _ _ _ _ q=>sub_int q
theorem zqd:OpR X (binaryOp .Mult) (rI CMul fun i j=>.int (i * j)):=opI fun _ _ _ _ _ _ _ hc q=>mul_int q hc.ok
theorem znZ:OpR X (binaryOp .FloorDiv) (rI CDiv fun i j=>.int (i / j)):=opI fun i j _ _ _ _ _ hc q=>by
 have h1:(0:Int) < j:=hc.1
 have h2:j < 1073741824:=hc.2
 exact floordiv_int (by omega) (by rw [Int.fdiv_eq_ediv_of_nonneg i (by omega)]; exact q) (.inl (PyProof.noPylong_small (by omega)))
theorem zqe:OpR X (binaryOp .Mod) (rI (fun _ j=>0 < j) fun i j=>.int (i % j)):=opI fun i j _ _ _ _ _ hc q=>by
 have h1:(0:Int) < j:=hc
 exact mod_int' (by omega) (by rw [Int.fmod_eq_emod_of_nonneg i (by omega)]; exact q)
theorem zqc:OpR X (binaryOp .Pow) (rI CPow fun i j=>.int (i ^ j.toNat)):=opI fun _ _ _ _ _ _ _ hc q=>pow_int_small hc.1 hc.2.1 hc.2.2 q
theorem unI {f:Value->Sem Value} {g:Int->Int}
  (rule:∀(i:Int) (t:Tok) (s:Shared) (Q:Value->Shared->Prop) (E:Value->Shared->Prop),Q (.int (g i) s.toks) { s with toks:=s.toks + 1 }->wpAny (model X.prog X.w) X.A (f (.int i t)) Q E s) :
  UnR X f (rU fun i=>.int (g i)):=by
 intro pins s σ H x v Q I rx h
 obtain ⟨i,rfl,q⟩:=h
 obtain ⟨t,rfl⟩:=rx
 exact rule i t s _ _ ⟨.int (g i),H,I.tok _,⟨_,rfl⟩,q⟩
theorem zo2:UnR X (unaryOp .USub) (rU fun i=>.int (-i)):=unI fun _ _ _ _ _ q=>neg_int q
end
def scal:V->V->Bool
 | .non,.non=>true | .non,.int _=>true | .int _,.non=>true | .non,.bl _=>true | .bl _,.non=>true | .non,.str _=>true | .str _,.non=>true
 | .int _,.int _=>true | .bl _,.bl _=>true | .str _,.str _=>true | .byt _,.byt _=>true
 | .int _,.str _=>true | .str _,.int _=>true | .bl _,.str _=>true | .str _,.bl _=>true
 | _,_=>false
def rEq:R2:=fun x y H Q=>scal x y=true/\Q (.bl (decide (x=y))) H
def rNe:R2:=fun x y H Q=>scal x y=true/\Q (.bl (! decide (x=y))) H
theorem zh2 {i j:Int}:decide (V.int i=V.int j)=(i == j):=by
 rw [Bool.eq_iff_iff]
 simp
theorem zkT {i j:Bool}:decide (V.bl i=V.bl j)=(i == j):=by
 rw [Bool.eq_iff_iff]
 simp
theorem zh1 {i j:Str}:decide (V.str i=V.str j)=(i == j):=by
 rw [Bool.eq_iff_iff]
 simp
theorem zkS {i j:Array UInt8}:decide (V.byt i=V.byt j)=(i.toList == j.toList):=by
 rw [Bool.eq_iff_iff]
 cases i
 cases j
 simp
section
variable {X:Cx} {a b c:Expr} {ta tb tc:TE} {pos:Pos}
theorem zaI {pins:List (Addr × Obj)} {σ:St} {H:Hp} {s:Shared} {Q:VK} {k k':Bool} (I:Inv X pins σ H s) (q:Q (.bl k) H) (e:k=k'):EP X pins σ Q (.bool k') s:=by
 subst e
 exact ⟨.bl k,H,I,rfl,q⟩
theorem zqi:OpR X (compareOp .Eq) rEq:=by
 intro pins s σ H x y v u Q I rx ry h
 obtain ⟨hs,q⟩:=h
 cases x with
 | non=>
  cases rx
  cases y with
  | non=>cases ry; exact PySem.EqNone.eq_none_none (zaI I q (by simp))
  | bl j=>cases ry; exact PySem.EqNone.eq_none_bool (zaI I q (by simp))
  | int j=>obtain ⟨t',rfl⟩:=ry; exact PySem.EqNone.eq_none_int (zaI I q (by simp))
  | str j=>obtain ⟨t',rfl⟩:=ry; exact PySem.EqNone.eq_none_str (zaI I q (by simp))
  | _=>exact absurd (show false=true from hs) Bool.false_ne_true
 | bl i=>
  cases rx
  cases y with
  | non=>cases ry; exact PySem.EqNone.eq_bool_none (zaI I q (by simp))
  | bl j=>cases ry; exact eq_bool (zaI I q zkT)
  | str j=>obtain ⟨t',rfl⟩:=ry; exact PySem.EqMixed.eq_bool_str (zaI I q (by simp))
  | _=>exact absurd (show false=true from hs) Bool.false_ne_true
 | int i=>
  obtain ⟨t,rfl⟩:=rx
  cases y with
  | non=>cases ry; exact PySem.EqNone.eq_int_none (zaI I q (by simp))
  | int j=>obtain ⟨t',rfl⟩:=ry; exact eq_int (zaI I q zh2)
  | str j=>obtain ⟨t',rfl⟩:=ry; exact PySem.EqMixed.eq_int_str (zaI I q (by simp))
  | _=>exact absurd (show false=true from hs) Bool.false_ne_true
 | str i=>
  obtain ⟨t,rfl⟩:=rx
  cases y with
  | non=>cases ry; exact PySem.EqNone.eq_str_none (zaI I q (by simp))
  | bl j=>cases ry; exact PySem.EqMixed.eq_str_bool (zaI I q (by simp))
  | int j=>obtain ⟨t',rfl⟩:=ry; exact PySem.EqMixed.eq_str_int (zaI I q (by simp))
  | str j=>obtain ⟨t',rfl⟩:=ry; exact eq_str (zaI I q zh1)
  | _=>exact absurd (show false=true from hs) Bool.false_ne_true
 | byt i=>
  obtain ⟨t,rfl⟩:=rx
  cases y with
  | byt j=>obtain ⟨t',rfl⟩:=ry; exact W.eq_bytes (zaI I q zkS)
  | _=>exact absurd (show false=true from hs) Bool.false_ne_true
 | _=>cases y <;> exact absurd (show false=true from hs) Bool.false_ne_true
theorem zrV:OpR X (compareOp .NotEq) rNe:=by
 intro pins s σ H x y v u Q I rx ry h
 obtain ⟨hs,q⟩:=h
 cases x with
 | non=>
  cases rx
  cases y with
  | non=>cases ry; exact PySem.EqNone.ne_none_none (zaI I q (by simp))
  | bl j=>cases ry; exact PySem.EqNone.ne_none_bool (zaI I q (by simp))
  | int j=>obtain ⟨t',rfl⟩:=ry; exact PySem.EqNone.ne_none_int (zaI I q (by simp))
  | str j=>obtain ⟨t',rfl⟩:=ry; exact PySem.EqNone.ne_none_str (zaI I q (by simp))
  | _=>exact absurd (show false=true from hs) Bool.false_ne_true
 | bl i=>
  cases rx
  cases y with
  | non=>cases ry; exact PySem.EqNone.ne_bool_none (zaI I q (by simp))
  | bl j=>cases ry; exact ne_bool (zaI I q (congrArg not zkT))
  | str j=>obtain ⟨t',rfl⟩:=ry; exact PySem.EqMixed.ne_bool_str (zaI I q (by simp))
  | _=>exact absurd (show false=true from hs) Bool.false_ne_true
 | int i=>
  obtain ⟨t,rfl⟩:=rx
  cases y with
  | non=>cases ry; exact PySem.EqNone.ne_int_none (zaI I q (by simp))
  | int j=>obtain ⟨t',rfl⟩:=ry; exact ne_int (zaI I q (congrArg not zh2))
  | str j=>obtain ⟨t',rfl⟩:=ry; exact PySem.EqMixed.ne_int_str (zaI I q (by simp))
  | _=>exact absurd (show false=true from hs) Bool.false_ne_true
 | str i=>
  obtain ⟨t,rfl⟩:=rx
  cases y with
  | non=>cases ry; exact PySem.EqNone.ne_str_none (zaI I q (by simp))
  | bl j=>cases ry; exact PySem.EqMixed.ne_str_bool (zaI I q (by simp))
  | int j=>obtain ⟨t',rfl⟩:=ry; exact PySem.EqMixed.ne_str_int (zaI I q (by simp))
  | str j=>obtain ⟨t',rfl⟩:=ry; exact ne_str (zaI I q (congrArg not zh1))
  | _=>exact absurd (show false=true from hs) Bool.false_ne_true
 | byt i=>
  obtain ⟨t,rfl⟩:=rx
  cases y with
  | byt j=>obtain ⟨t',rfl⟩:=ry; exact W.ne_bytes (zaI I q (congrArg not zkS))
  | _=>exact absurd (show false=true from hs) Bool.false_ne_true
 | _=>cases y <;> exact absurd (show false=true from hs) Bool.false_ne_true
theorem znY:OpR X (compareOp .Lt) (rI0 fun i j=>.bl (decide (i < j))):=opB0 fun _ _ _ _ _ _ _ q=>lt_int q
theorem zrW:OpR X (compareOp .LtE) (rI0 fun i j=>.bl (decide (i<=j))):=opB0 fun _ _ _ _ _ _ _ q=>le_int q
theorem zrX:OpR X (compareOp .Gt) (rI0 fun i j=>.bl (decide (j < i))):=opB0 fun _ _ _ _ _ _ _ q=>gt_int q
theorem zj7:OpR X (compareOp .In) (fun x y H Q=>∃i j,x=.str i/\y=.str j/\Q (.bl (!(Builtin.Str.occurrences j i 0 j.length 1).isEmpty)) H):=by
 intro pins s σ H x y v u Q I rx ry h
 obtain ⟨i,j,rfl,rfl,q⟩:=h
 obtain ⟨t,rfl⟩:=rx
 obtain ⟨t',rfl⟩:=ry
 exact in_str (zaI I q rfl)
theorem zqf:OpR X (compareOp .Is) (fun x y H Q=>y=.non/\Q (.bl (decide (x=.non))) H):=by
 intro pins s σ H x y v u Q I rx ry h
 obtain ⟨rfl,q⟩:=h
 cases ry
 refine is_none_gen (zaI I q ?_)
 cases x <;> first
  | (cases rx; rfl)
  | (obtain ⟨t,rfl⟩:=rx; rfl)
theorem znV:OpR X (compareOp .IsNot) (fun x y H Q=>y=.non/\Q (.bl (! decide (x=.non))) H):=by
 intro pins s σ H x y v u Q I rx ry h
 obtain ⟨rfl,q⟩:=h
 cases ry
 refine isnot_none_gen (zaI I q ?_)
 cases x <;> first
  | (cases rx; rfl)
  | (obtain ⟨t,rfl⟩:=rx; rfl)
theorem OpR.or {f:Value->Value->Sem Value} {r r':R2} (h:OpR X f r) (h':OpR X f r'):OpR X f (fun x y H Q=>r x y H Q\/r' x y H Q):=by
 intro pins s σ H x y v u Q I rx ry q
 rcases q with q | q
 ·exact h pins s σ H x y v u Q I rx ry q
 ·exact h' pins s σ H x y v u Q I rx ry q
theorem zeL (b:Expr) {op:CmpOp} (h:op≠.In:=by decide) (h2:op≠.NotIn:=by decide):behindInMarks op b=false:=by
 have e1:(op == CmpOp.In)=false:=by cases op <;> first | rfl | exact absurd rfl h
 have e2:(op == CmpOp.NotIn)=false:=by cases op <;> first | rfl | exact absurd rfl h2
 cases b <;> simp [behindInMarks,e1,e2]
theorem znQ {op:CmpOp} {r:R2} (ho:OpR X (compareOp op) r) (ha:PE X a ta) (hb:PE X b tb) (hm:behindInMarks op b=false):PE X (.Compare a [op] [b] pos) (tOp r ta tb):=by
 intro pins s σ H Q I h
 exact wpAny_Compare1 (binT ha hb I h fun v u s2 x y H2 I2 rx ry q=>ho pins s2 σ H2 x y v u Q I2 rx ry q) hm
def zrv (t:TE):TT:=fun σ H Q=>t σ H fun x H'=>∃k,x=.bl k/\Q k H'
theorem znI {op:CmpOp} {r:R2} (ho:OpR X (compareOp op) r) (ha:PE X a ta) (hb:PE X b tb) (hm:behindInMarks op b=false):PT X (.Compare a [op] [b] pos) (zrv (tOp r ta tb)):=by
 intro pins s σ H Q I h
 refine wpAny_isTrue_Compare1 (thn (ha pins s σ H _ I h) fun v s1 ⟨x,H1,I1,r1,q1⟩=>thn (hb pins s1 σ H1 _ I1 q1) fun u s2 ⟨y,H2,I2,r2,q2⟩=>
  thn (ho pins s2 σ H2 x y v u _ I2 r1 r2 q2) fun c s3 ⟨z,H3,I3,r3,k,e,q3⟩=>?_) hm
 subst e
 cases r3
 exact wpAny_truthy_bool ⟨H3,I3,q3⟩
def zmA (r r':R2) (ta tb tc:TE):TE:=fun σ H Q=>ta σ H fun x H1=>tb σ H1 fun y H2=>r x y H2 fun z H3=>∃k,z=.bl k /\
 (if k=true then tc σ H3 fun w' H4=>r' y w' H4 Q else Q (.bl false) H3)
theorem zlO {op op':CmpOp} {r r':R2} (ho:OpR X (compareOp op) r) (ho':OpR X (compareOp op') r') (ha:PE X a ta) (hb:PE X b tb) (hc:PE X c tc)
  (hm:lastMarks [op,op'] [b,c]=false:=by with_unfolding_all rfl):PE X (.Compare a [op,op'] [b,c] pos) (zmA r r' ta tb tc):=by
 intro pins s σ H Q I h
 refine Compare_chain (thn (ha pins s σ H _ I h) fun v s1 ⟨x,H1,I1,r1,q1⟩=>chain_link (thn (hb pins s1 σ H1 _ I1 q1) fun u s2 ⟨y,H2,I2,r2,q2⟩=>
  thn (ho pins s2 σ H2 x y v u _ I2 r1 r2 q2) fun d s3 ⟨z,H3,I3,r3,k,e,q3⟩=>?_)) hm
 subst e
 cases r3
 refine wpAny_truthy_bool ?_
 cases k with
 | false=>exact ite_ff ⟨.bl false,H3,I3,rfl,q3⟩
 | true=>exact ite_tt (chain_last (thn (hc pins s3 σ H3 _ I3 q3) fun w' s4 ⟨z',H4,I4,r4,q4⟩=>ho' pins s4 σ H4 y z' u w' Q I4 r2 r4 q4))
def TruV (K:W.Frag) (x:V) (H:Hp) (k:Bool):Prop:=
 match x with
 | .non=>k=false
 | .bl b=>k=b
 | .int i=>k=(i != 0)
 | .str y=>y.length<=sizeLine/\k=((y.length:Int) != 0)
 | .byt y=>y.size<=sizeLine/\k=((y.size:Int) != 0)
 | .ref p=>(∃xs,SqL K H p xs/\k = ! xs.isEmpty)\/(∃xs,SqT K H p xs/\k = ! xs.isEmpty)\/∃kvs,Rd H p (.dK kvs)/\k = ! kvs.isEmpty
 | _=>False
theorem zi4 {κ:Type} {kvs:List (κ × V)} {vs:List (κ × Value)} (r:KV kvs vs):(! vs.isEmpty) = ! kvs.isEmpty:=by
 cases r <;> rfl
theorem zf3 {xs:List V} {its:List Value} (r:Vals xs its):(! its.toArray.isEmpty) = ! xs.isEmpty:=by
 cases r <;> simp
theorem zf1:(sizeLine:Nat) < 2 ^ 63:=by rw [sizeLine_eq]; decide
theorem zpa:TruR X (fun x H Q=>∃k,TruV X.K x H k/\Q k H):=by
 intro pins s σ H x v Q I rx h
 obtain ⟨k,e,q⟩:=h
 have hl:=zf1
 have hs:sizeLine=16777216:=sizeLine_eq
 cases x with
 | non=>
  cases rx
  have e':k=false:=e
  subst e'
  exact truthy_none ⟨H,I,q⟩
 | bl b=>
  cases rx
  have e':k=b:=e
  subst e'
  exact wpAny_truthy_bool ⟨H,I,q⟩
 | int i=>
  obtain ⟨t,rfl⟩:=rx
  have e':k=(i != 0):=e
  subst e'
  exact PySem.P.truthy_int ⟨H,I,q⟩
 | str y=>
  obtain ⟨t,rfl⟩:=rx
  obtain ⟨hy,e'⟩:y.length<=sizeLine/\k=((y.length:Int) != 0):=e
  subst e'
  exact PySem.P.truthy_str (by omega) ⟨H,I.tok _,q⟩
 | byt y=>
  obtain ⟨t,rfl⟩:=rx
  obtain ⟨hy,e'⟩:y.size<=sizeLine/\k=((y.size:Int) != 0):=e
  subst e'
  exact W.truthy_bytes (by omega) ⟨H,I.tok _,q⟩
 | ref p=>
  cases rx
  have e':(∃xs,SqL X.K H p xs/\k = ! xs.isEmpty)\/(∃xs,SqT X.K H p xs/\k = ! xs.isEmpty)\/∃kvs,Rd H p (.dK kvs)/\k = ! kvs.isEmpty:=e
  rcases e' with ⟨xs,hx,e'⟩ | ⟨xs,hx,e'⟩ | ⟨kvs,hx,e'⟩
  ·subst e'
   obtain ⟨its,r,pl,hz⟩:=I.list hx
   have hlen:=r.length
   exact wpAny_truthy_list pl.isList (by simp only [List.size_toArray]; omega) ⟨H,I.tok _,by rw [zf3 r]; exact q⟩
  ·subst e'
   obtain ⟨its,r,pl,hz⟩:=I.tuple hx
   have hlen:=r.length
   exact truthy_tuple pl (by simp only [List.size_toArray]; omega) ⟨H,I.tok _,by rw [zf3 r]; exact q⟩
  ·subst e'
   obtain ⟨hz,hS,vs,r,m⟩:kvs.length<=sizeLine/\(p == sysModules)=false/\∃vs,KV kvs vs/\s.heap.DictOf (zbB X.prog X.w) p vs:=hx.ok I.hok
   have hlen:kvs.length=vs.length:=Paired.length r
   exact wpAny_truthy_dict hS m (by omega) ⟨H,I.tok _,by rw [zi4 r]; exact q⟩
 | _=>exact (show False from e).elim
theorem zlG (ha:PE X a ta) (he:∀whole,isTrue a X.env whole=(do let v <-whole; standAt a.pos; holding [v] (truthy v))) :
  PT X a (fun σ H Q=>ta σ H fun x H'=>∃k,TruV X.K x H' k/\Q k H'):=by
 intro pins s σ H Q I h
 exact isTrue_plain (thn (ha pins s σ H _ I h) fun v s1 ⟨x,H1,I1,r1,q1⟩=>zpa pins s1 σ H1 x v Q I1 r1 q1) (he _)
theorem ziW:OpR X (binaryOp .Add) (fun x y H Q=>∃i j,x=.str i/\y=.str j/\i.length + j.length<=sizeLine/\Q (.str (i++j)) H):=by
 intro pins s σ H x y v u Q I rx ry h
 obtain ⟨i,j,rfl,rfl,hz,q⟩:=h
 obtain ⟨t,rfl⟩:=rx
 obtain ⟨t',rfl⟩:=ry
 exact add_str (fun t' tk=>⟨.str (i++j),H,I.tok _,⟨_,rfl⟩,q⟩) hz
theorem zeR {x:V} {us:List Value} (r:Vals [x] us):∃u,us=[u]/\RelV x u:=by
 cases r with
 | cons r1 r2=>cases r2; exact ⟨_,rfl,r1⟩
theorem zlj {x y:V} {us:List Value} (r:Vals [x,y] us):∃u w',us=[u,w']/\RelV x u/\RelV y w':=by
 cases r with
 | cons r1 r2=>
  cases r2 with
  | cons r3 r4=>cases r4; exact ⟨_,_,rfl,r1,r3⟩
def LenV (K:W.Frag) (x:V) (H:Hp) (n:Nat):Prop:=
 match x with
 | .str y=>y.length<=sizeLine/\n=y.length
 | .byt y=>y.size<=sizeLine/\n=y.size
 | .ref p=>(∃xs,SqL K H p xs/\n=xs.length)\/∃xs,SqT K H p xs/\n=xs.length
 | _=>False
theorem zmo:zds X (.builtin "len") (fun xs H Q=>∃x n,xs=[x]/\LenV X.K x H n/\Q (.int n) H):=by
 intro pins s σ H xs us Q I r h
 obtain ⟨x,n,rfl,e,q⟩:=h
 obtain ⟨u,rfl,rx⟩:=zeR r
 have hl:=zf1
 have hs:sizeLine=16777216:=sizeLine_eq
 cases x with
 | str y=>
  obtain ⟨t,rfl⟩:=rx
  obtain ⟨hy,e'⟩:y.length<=sizeLine/\n=y.length:=e
  subst e'
  exact len_str (by omega) ⟨.int _,H,I.tok _,⟨_,rfl⟩,q⟩
 | byt y=>
  obtain ⟨t,rfl⟩:=rx
  obtain ⟨hy,e'⟩:y.size<=sizeLine/\n=y.size:=e
  subst e'
  exact W.len_bytes (by omega) ⟨.int _,H,I.tok _,⟨_,rfl⟩,q⟩
 | ref p=>
  cases rx
  have e':(∃xs,SqL X.K H p xs/\n=xs.length)\/∃xs,SqT X.K H p xs/\n=xs.length:=e
  rcases e' with ⟨xs,hx,e'⟩ | ⟨xs,hx,e'⟩
  ·subst e'
   obtain ⟨its,r',pl,hz⟩:=I.list hx
   have hlen:=r'.length
   exact Calls.call_len_list pl.isList (by simp only [List.size_toArray]; omega) ⟨.int xs.length,H,I.tok _,⟨_,by simp only [List.size_toArray]; rw [hlen]⟩,q⟩
  ·subst e'
   obtain ⟨its,r',pl,hz⟩:=I.tuple hx
   have hlen:=r'.length
   exact len_tuple pl (by simp only [List.size_toArray]; omega) ⟨.int xs.length,H,I.tok _,⟨_,by simp only [List.size_toArray]; rw [hlen]⟩,q⟩
 | _=>exact (show False from e).elim
end
structure ObjM (h:Heap) (x dx C:Addr) (mA:Str->Option Value):Prop where
 obj:h.get? x=some (W.instObj C dx)
 ns:h.Ns1 dx mA
 ne:dx≠x
theorem RelO.some_of {v:V} {o:Option Value} (r:RelO (some v) o):∃u,o=some u/\RelV v u:=by
 cases o with
 | none=>exact (show False from r).elim
 | some u=>exact ⟨u,rfl,r⟩
structure Cls (K:W.Frag) (C:Addr):Prop where
 pg:W.plainGet K C Str.empty=true
 hd:W.hasDictIn K C=true
 po:W.plainOver K C=true
 sa:W.findIn K (.ref C) "__setattr__" = some (some (.builtin "object.__setattr__"))
theorem Cls.get {K:W.Frag} {C:Addr} (c:Cls K C) (f:Str):W.plainGet K C f=true:=c.pg
structure Con (K:W.Frag) (C:Addr) (f:Str) (v:V) (u:Value):Prop where
 at_:W.findIn K (.ref C) f=some (some u)
 rel:RelV v u
 get:W.specialIn K u "__get__" = some none
 cp:W.copiedNames.contains f=false
structure Meth (K:W.Frag) (C:Addr) (m:Str) (f:Addr):Prop where
 at_:W.findIn K (.ref C) m=some (some (.ref f))
 fn:W.isFn K (.ref f)=true
 kp:W.keepIn K (.ref f)=true
section
variable {X:Cx} {pins:List (Addr × Obj)} {σ:St} {H:Hp} {s:Shared} {a C dx:Addr} {fs:List (Str × V)} {f:Str} {v:V} {A:Around} {E:Value->Shared->Prop}
theorem zoO {prog:Program} {w:World} {env:Env} {e:Expr} {f:Str} {pos:Pos} {s:Shared} {Q:Value->Shared->Prop} (hb:attributeBase e f env (eval e env)=eval e env)
  (h:wpAny (model prog w) A (eval e env) (fun o s₁=>wpAny (model prog w) A (getAttr o f true) Q E s₁) E s):wpAny (model prog w) A (eval (.Attribute e f pos) env) Q E s:=
 Attribute_any_ h (by rw [arm_eval_Attribute,hb])
end
section
variable {X:Cx} {pins:List (Addr × Obj)} {σ:St} {H:Hp} {s:Shared} {A:Around} {E:Value->Shared->Prop} {Q:Value->Shared->Prop} {c:Value} {b:Bool}
inductive TyOf (K:W.Frag) (H:Hp):V->Value->Prop where
 | non:TyOf K H .non (.type "NoneType")
 | bl (x:Bool):TyOf K H (.bl x) (.type "bool")
 | int (i:Int):TyOf K H (.int i) (.type "int")
 | str (x:Str):TyOf K H (.str x) (.type "str")
 | flt (x:UInt64):TyOf K H (.flt x) (.type "float")
 | lst {a:Addr} {xs:List V} (e:H a=some (.lst xs)):TyOf K H (.ref a) (.type "list")
 | frz {a:Addr} {o:Obj} {xs:List V} (e:H a=some (.frz o (.lst xs))):TyOf K H (.ref a) (.type "list")
 | tup {a:Addr} {xs:List V} (e:H a=some (.tup xs)):TyOf K H (.ref a) (.type "tuple")
 | dK {a:Addr} {kvs:List (Key × V)} (e:H a=some (.dK kvs)):TyOf K H (.ref a) (.type "dict")
 | dT {a:Addr} {kvs:List (List Key × V)} (e:H a=some (.dT kvs)):TyOf K H (.ref a) (.type "dict")
 | ins {a C dx:Addr} {fs:List (Str × V)} (e:H a=some (.ins C dx fs)) (cl:Cls K C) (ha:W.findIn K (.ref C) "__class__" = some (some (.builtin "object.__class__")))
   (hn:W.specialIn K (.builtin "object.__class__") "__get__" = some (some (.builtin "getset_descriptor.__get__"))) (htk:W.takesIn K (.builtin "object.__class__")=some true)
   (hm:W.mroIn K C (.type "object")=some true):TyOf K H (.ref a) (.ref C)
end
structure Room (k:Nat) (A:Around):Prop where
 hd:A.handled=none
 dp:A.depth + 3 * k + 5 < recursionLimit
 un:A.units + 16 * k + 200 < cLine
 gd:A.guards=some []
theorem Room.mono {j k:Nat} {A:Around} (r:Room k A) (h:j<=k):Room j A:=⟨r.hd,by have:=r.dp; omega,by have:=r.un; omega,r.gd⟩
theorem Room.deeper {k:Nat} {A:Around} (r:Room (k + 1) A) (env:Env):Room k (A.deeper env):=
 ⟨r.hd,by have:=r.dp; show A.depth + 1 + 3 * k + 5 < _; omega,by have:=r.un; show A.units + 3 + 16 * k + 200 < _; omega,r.gd⟩
theorem ziZ {A:Around} {C:Addr} {us:List Value} {kw:List (Str × Value)}:(A.under (.builtin "type.__call__" ⟨.ref C::us,kw⟩)).depth=A.depth + 1:=by
 first | rfl | simp [Around.under,Code.weight,Code.isCreation,Code.isGuard,Code.isCaller,Code.frames,Code.isFrame,guardIds]
theorem ziY {A:Around} {C:Addr} {us:List Value} {kw:List (Str × Value)}:(A.under (.builtin "type.__call__" ⟨.ref C::us,kw⟩)).units=A.units + 1:=by
 first | rfl | simp [Around.under,Code.cUnits,Code.frames,Code.isFrame]
theorem Room.make {k:Nat} {A:Around} (r:Room (k + 1) A) (C:Addr) (us:List Value) (kw:List (Str × Value)):Room k (A.under (.builtin "type.__call__" ⟨.ref C::us,kw⟩)):=
 ⟨r.hd,by have:=r.dp; rw [ziZ]; omega,by have:=r.un; rw [ziY]; omega,(by have:=r.gd; first | exact this | (simp [Around.under,Code.isGuard,guardIds]; exact this))⟩
theorem Room.depth {k:Nat} {A:Around} (r:Room k A):A.depth < recursionLimit:=by have:=r.dp; omega
theorem Room.units {k:Nat} {A:Around} (r:Room k A):A.units + 64 < cLine:=by have:=r.un; omega
def tNil:TA:=fun _ H Q=>Q [] H
def znk (ta:TE) (tr:TA):TA:=fun σ H Q=>ta σ H fun x H1=>tr σ H1 fun xs H2=>Q (x::xs) H2
section
variable {X:Cx} {e:Expr} {es:List Expr} {te:TE} {t:TA} {pos:Pos}
theorem zde:PA X [] tNil:=fun _ _ _ _ H Q I h=>Calls.spliced_nil ⟨[],H,I,.nil,h⟩
theorem zbb (ha:PE X e te) (hr:PA X es t) (hs:starEach (e::es) X.env=(false,eval e X.env)::starEach es X.env:=by rfl):PA X (e::es) (znk te t):=by
 intro pos pins s σ H Q I h
 rw [hs]
 show wpAny _ _ (spliced ((false,eval e X.env)::backTo pos (starEach es X.env))) _ _ s
 refine Calls.spliced_cons (thn (ha pins s σ H _ I h) fun u s1 ⟨x,H1,I1,r1,q1⟩=>?_)
 exact thn (hr pos pins s1 σ H1 _ I1 q1) fun us s2 ⟨xs,H2,I2,r2,q2⟩=>⟨x::xs,H2,I2,.cons r1 r2,q2⟩
def tTup (t:TA):TE:=fun σ H Q=>t σ H fun xs H1=>xs.length<=sizeLine/\∀p,H1 p=none->Q (.ref p) (upd H1 p (.tup xs))
def tLst (t:TA):TE:=fun σ H Q=>t σ H fun xs H1=>xs.length<=sizeLine/\∀p,H1 p=none->Q (.ref p) (upd H1 p (.lst xs))
theorem zpZ {x1} (h:PA X es t):PE X (.Tuple es x1 pos) (tTup t):=by
 intro pins s σ H Q I hq
 refine wpAny_Tuple_spliced (thn (h pos pins s σ H _ I hq) fun us s1 ⟨xs,H1,I1,r,z,q⟩=>⟨by rw [<-r.length]; exact z,?_⟩)
 have hf:H1 s1.heap.objs.size=none:=I1.hok.fresh (Nat.le_refl _)
 refine ⟨.ref s1.heap.objs.size,upd H1 s1.heap.objs.size (.tup xs),I1.laid (t':=s1.toks) (fun b u e=>Heap.get?_push_of_some _ e) (Nat.le_refl _) ?_,rfl,q _ hf⟩
 exact ⟨z,us,r,⟨_,Heap.get?_push_size _ rfl,rfl,_,rfl⟩,_,Heap.get?_push_size _ rfl,rfl⟩
theorem zp4 (h:PA X es t):PE X (.List es pos) (tLst t):=by
 intro pins s σ H Q I hq
 refine wpAny_List_spliced (thn (h pos pins s σ H _ I hq) fun us s1 ⟨xs,H1,I1,r,z,q⟩=>⟨by rw [<-r.length]; exact z,?_⟩)
 have hf:H1 s1.heap.objs.size=none:=I1.hok.fresh (Nat.le_refl _)
 refine ⟨.ref s1.heap.objs.size,upd H1 s1.heap.objs.size (.lst xs),I1.laid (t':=s1.toks) (fun b u e=>Heap.get?_push_of_some _ e) (Nat.le_refl _) ?_,rfl,q _ hf⟩
 exact ⟨z,us,0,r,Heap.get?_push_size _ rfl⟩
end
abbrev Sp:=List V->Hp->VK->XK->Prop
abbrev CXT:=List Env->Hp->Shared->XK->Value->Shared->Prop
structure Env0 (P:Program) (w:World) (K:W.Frag) (mg:Str->Option Value) (base:Heap) (A:Around) (outer:List Env) (s:Shared) (H:Hp):Prop where
 frames:A.frames=some outer
 mod:Mod K mg base
 bs:∀b o,base.get? b=some o->s.heap.get? b=some o/\H b=none
 bsz:base.objs.size<=s.heap.objs.size
 funs:s.heap.FunFrames base outer
 frf:∀b∈frs outer,H b=none
 hok:HOk P w H s.heap
 bare:AllBare s.gens
def CE (outer:List Env) (P:Program) (w:World) (H:Hp) (s:Shared) (Q:VK) (u:Value) (s':Shared):Prop:=
 ∃v H',s'.os=s.os/\AllBare s'.gens/\Un (frs outer) [] H H' s.heap s'.heap/\HOk P w H' s'.heap/\RelV v u/\Q v H'
def CR (CX:CXT) (outer:List Env) (P:Program) (w:World) (H:Hp) (s:Shared) (Q:VK) (E:XK) (r:Result) (s':Shared):Prop:=
 match r with
 | .ok (.ret u)=>CE outer P w H s Q u s'
 | .ok _=>False
 | .error e=>CX outer H s E e s'
structure FnOk (P:Program) (w:World) (K:W.Frag) (mg:Str->Option Value) (base:Heap) (CX:CXT) (k:Nat) (f:Addr) (fd:FuncData) (ps:List Str) (sp:Sp):Prop where
 len:∀vs H Q E,sp vs H Q E->vs.length=ps.length
 run:∀(A:Around) (outer:List Env) (s:Shared) (H:Hp) (args:Args) (us:List Value) (vs:List V) (Q:VK) (E:XK),Room k A->Env0 P w K mg base A outer s H->BindsTo s fd args (ps.zip us)->Vals vs us->sp vs H Q E ->
  codeAny (model P w) A (.call (.ref f) args) (CR CX outer P w H s Q E) s
theorem FnOk.mono {P:Program} {w:World} {K:W.Frag} {mg:Str->Option Value} {base:Heap} {CX:CXT} {j k:Nat} {f:Addr} {fd:FuncData} {ps:List Str} {sp:Sp} (F:FnOk P w K mg base CX j f fd ps sp) (h:j<=k) :
  FnOk P w K mg base CX k f fd ps sp:=⟨F.len,fun A outer s H args us vs Q E hr=>F.run A outer s H args us vs Q E (hr.mono h)⟩
theorem Env0.make {P:Program} {w:World} {K:W.Frag} {mg:Str->Option Value} {base:Heap} {A:Around} {outer:List Env} {s:Shared} {H:Hp} (e:Env0 P w K mg base A outer s H) (C:Addr) (us:List Value) (kw:List (Str × Value)) :
  Env0 P w K mg base (A.under (.builtin "type.__call__" ⟨.ref C::us,kw⟩)) outer s H:=⟨by first | exact e.frames | (simpa [Around.under,Code.envs,Code.isFrame,pushEnvs] using e.frames),e.mod,e.bs,e.bsz,e.funs,e.frf,e.hok,e.bare⟩
section
variable {X:Cx} {pins:List (Addr × Obj)} {σ:St} {H:Hp} {s s':Shared}
theorem Inv.env0 (I:Inv X pins σ H s):Env0 X.prog X.w X.K X.mg X.base X.A X.stack s H:=
 ⟨I.ok.frames,I.ok.mod,I.bs,Nat.le_trans I.ok.bsz I.sz,I.stack,I.stkFree,I.hok,I.bare⟩
theorem Inv.after {Q:VK} {u:Value} (I:Inv X pins σ H s) (h:CE X.stack X.prog X.w H s Q u s'):EP X pins σ Q u s':=by
 obtain ⟨v,H',os,bare,un,hok,r,q⟩:=h
 obtain ⟨hh,g,d,t,os'⟩:=s'
 obtain rfl:os'=s.os:=os
 exact ⟨v,H',I.call (h':=hh) (g':=g) (d':=d) (t':=t) (ch:=[]) un hok bare (fun b z=>absurd z (by simp)),r,q⟩
end
def zpe (sp:Sp) (dvs:List V) (E:XK) (t:TA):TE:=fun σ H Q=>t σ H fun vs H1=>sp (vs++dvs) H1 Q E
def zdB (K:W.Frag) (fd:FuncData) (ps:List Str) (ds:List Value):Prop:=
 ∀(s:Shared) (us:List Value),K.In s.heap->(us++ds).length=ps.length->BindsTo s fd ⟨us,[]⟩ (ps.zip (us++ds))
theorem zdB.all {K:W.Frag} {fd:FuncData} {ps:List Str} (h:∀us:List Value,us.length=ps.length->bindArgs fd ⟨us,[]⟩=pure (ps.zip us)):zdB K fd ps []:=fun s us _ hl=>by
 rw [List.append_nil] at hl ⊢
 exact .of_eq (h us hl)
def zhs (CX:CXT) (X:Cx) (E:XK):Prop:=∀(pins:List (Addr × Obj)) (σ:St) (H:Hp) (s:Shared) (e:Value) (s':Shared),Inv X pins σ H s->CX X.stack H s E e s'->X.xe e s'
section
variable {X:Cx} {CX:CXT} {k:Nat} {f C:Addr} {fd:FuncData} {ps:List Str} {sp:Sp} {dvs:List V} {ds:List Value} {E:XK} {x m:Str} {p pos apos:Pos} {e o:Expr} {es:List Expr} {ta:TE} {t:TA}
theorem zpA {pins:List (Addr × Obj)} {σ:St} {H:Hp} {s:Shared} {Q:VK} {us:List Value} {vs:List V} (F:FnOk X.prog X.w X.K X.mg X.base CX k f fd ps sp) (hr:Room k X.A) (hb:zdB X.K fd ps ds) (hd:Vals dvs ds) (hx:zhs CX X E)
  (I:Inv X pins σ H s) (r:Vals vs us) (h:sp (vs++dvs) H Q E):wpAny (model X.prog X.w) X.A (call (.ref f) us) (EP X pins σ Q) X.xe s:=by
 have r2:Vals (vs++dvs) (us++ds):=r.append hd
 have hl:(us++ds).length=ps.length:=by rw [<-r2.length]; exact F.len _ _ _ _ h
 refine wpAny_call (codeAny_mono (F.run X.A X.stack s H ⟨us,[]⟩ (us++ds) (vs++dvs) Q E hr I.env0 (hb s us I.kIn hl) r2 h) fun r s' hq=>?_)
 cases r with
 | error e=>exact hx pins σ H s e s' I hq
 | ok fl=>
  cases fl with
  | ret u=>exact I.after hq
  | next=>exact False.elim hq
  | brk=>exact False.elim hq
  | cont=>exact False.elim hq
theorem znR (F:FnOk X.prog X.w X.K X.mg X.base CX k f fd ps sp) (hr:Room k X.A) (hg:Gl X x) (hm:X.mg x=some (.ref f)) (hk:W.keepIn X.K (.ref f)=true) (hb:zdB X.K fd ps ds) (hd:Vals dvs ds) (hx:zhs CX X E)
  (ha:PA X (e::es) t) (hdb:(x == ("__debug__" : Str))=false:=by decide) (he:starEach (e::es) X.env=(false,eval e X.env)::starEach es X.env:=by rfl) (hpl:(backTo pos (starEach es X.env)).any (·.1)=false:=by rfl) :
  PE X (.Call (.Name x p) (e::es) [] pos) (zpe sp dvs E t):=by
 intro pins s σ H Q I h
 refine wpAny_Call_Name_kw (zdi I hg hm ?_ hdb)
 refine W.callWith_K (h₀:=X.base) I.ok.mod.kin hk (thn (ha pos pins s σ H _ I h) fun us s1 ⟨vs,H1,I1,r,q⟩=>⟨I1.kIn,?_⟩) he hpl
 exact zpA F hr hb hd hx I1 r q
structure Mk (K:W.Frag) (C f:Addr):Prop where
 makes:W.makesIn K C=true
 init:W.findIn K (.ref C) "__init__" = some (some (.ref f))
 fn:W.isFn K (.ref f)=true
 kp:W.keepIn K (.ref C)=true
end
section
variable {X:Cx} {CX:CXT} {k:Nat} {f C:Addr} {fd:FuncData} {ps ks:List Str} {sp:Sp} {E:XK} {x m:Str} {p pos apos kpos:Pos} {e o:Expr} {es:List Expr} {kws:List Keyword} {te ta:TE} {t tk:TA} {nm:Option Str}
structure KBinds (K:W.Frag) (fd:FuncData) (ps ks:List Str) (g:List Value->List Value->List Value) (gV:List V->List V->List V):Prop where
 to:∀(s:Shared) (us ws:List Value),K.In s.heap->(g us ws).length=ps.length->BindsTo s fd ⟨us,ks.zip ws⟩ (ps.zip (g us ws))
 rel:∀{vs:List V} {us:List Value} {zs:List V} {ws:List Value},Vals vs us->Vals zs ws->Vals (gV vs zs) (g us ws)
variable {g:List Value->List Value->List Value} {gV:List V->List V->List V}
end
structure FnScope (N P:List Str) (sc:Scope):Prop where
 kind:sc.kind=.function
 co:sc.isCoroutine=false
 gen:sc.isGenerator=false
 nd:N.Nodup
 pre:N.take P.length=P
 par:∀x∈P,sc.names.lookup x=some .local\/sc.names.lookup x=some .cell
 nofree:∀y∈sc.names,y.2≠.free
theorem zhq {kindOf:Str->Option NameKind} {x:Str}:∀{binds:List (Str × Value)} {m:Str->Option Value},(∀v,(x,v)∉binds)->bindL kindOf binds m x=m x
 | [],_,_=>rfl
 | (n,v)::r,m,h=>by
  unfold bindL
  rw [zhq fun w hw=>h w (List.mem_cons_of_mem _ hw)]
  split
  ·have:x≠n:=by rintro rfl; exact h v List.mem_cons_self
   simp [this]
  ·rfl
theorem zhr {kindOf:Str->Option NameKind} {x:Str}:∀{binds:List (Str × Value)} {m:Str->Option Value},(∀v,(x,v)∉binds)->bindC kindOf binds m x=m x
 | [],_,_=>rfl
 | (n,v)::r,m,h=>by
  unfold bindC
  rw [zhr fun w hw=>h w (List.mem_cons_of_mem _ hw)]
  split
  ·rfl
  ·have:x≠n:=by rintro rfl; exact h v List.mem_cons_self
   simp [this]
theorem zfB {kindOf:Str->Option NameKind} {x:Str} {v:Value}:∀{P:List Str} {vs:List Value} {i:Nat} {m:Str->Option Value},P.Nodup->P[i]? = some x->vs[i]? = some v->kindOf x=some .local ->
  bindL kindOf (P.zip vs) m x=some v
 | [],_,_,_,_,h,_,_=>by simp at h
 | _::_,[],_,_,_,_,h,_=>by simp at h
 | p::P,w::vs,0,m,nd,h1,h2,hk=>by
  simp at h1 h2; subst h1; subst h2
  show bindL kindOf ((p,w)::P.zip vs) m p=_
  unfold bindL
  rw [zhq fun v hv=>(List.nodup_cons.mp nd).1 (List.of_mem_zip hv).1,if_pos hk]
  simp
 | p::P,w::vs,i + 1,m,nd,h1,h2,hk=>by
  show bindL kindOf ((p,w)::P.zip vs) m x=_
  unfold bindL
  exact zfB (i:=i) (List.nodup_cons.mp nd).2 (by simpa using h1) (by simpa using h2) hk
theorem zfC {kindOf:Str->Option NameKind} {x:Str} {v:Value}:∀{P:List Str} {vs:List Value} {i:Nat} {m:Str->Option Value},P.Nodup->P[i]? = some x->vs[i]? = some v->kindOf x≠some .local ->
  bindC kindOf (P.zip vs) m x=some v
 | [],_,_,_,_,h,_,_=>by simp at h
 | _::_,[],_,_,_,_,h,_=>by simp at h
 | p::P,w::vs,0,m,nd,h1,h2,hk=>by
  simp at h1 h2; subst h1; subst h2
  show bindC kindOf ((p,w)::P.zip vs) m p=_
  unfold bindC
  rw [zhr fun v hv=>(List.nodup_cons.mp nd).1 (List.of_mem_zip hv).1,if_neg hk]
  simp
 | p::P,w::vs,i + 1,m,nd,h1,h2,hk=>by
  show bindC kindOf ((p,w)::P.zip vs) m x=_
  unfold bindC
  exact zfC (i:=i) (List.nodup_cons.mp nd).2 (by simpa using h1) (by simpa using h2) hk
def start (N:List Str) (vs:List V):St:=vs.map some++List.replicate (N.length - vs.length) none
def cxOf (CX:CXT) (P:Program) (w:World) (K:W.Frag) (mg:Str->Option Value) (base:Heap) (N:List Str) (qual:Str) (scope:Scope) (f:Addr) (cd:Value) (A:Around) (outer:List Env) (s:Shared) (H:Hp) (E:XK):Cx where
 prog:=P
 w:=w
 K:=K
 mg:=mg
 base:=base
 A:=A.deeper (envOfC qual scope s.heap.objs.size f cd)
 N:=N
 s₀:=s
 H₀:=H
 env:=envOfC qual scope s.heap.objs.size f cd
 outer:=outer
 stack:=envOfC qual scope s.heap.objs.size f cd::outer
 ex:=[]
 calm:=true
 fn:=fun _=>true
 pn:=[]
 xe:=fun e s'=>wpAny (model P w) (A.deeper (envOfC qual scope s.heap.objs.size f cd)) (leaving (envOfC qual scope s.heap.objs.size f cd) e) (fun _ s''=>CX outer H s E e s'') (fun e' s''=>CX outer H s E e' s'') s'
theorem ze4 {sc:Scope} {n:Nat} {x:Str} (h:sc.names.lookup x=some .cell):∃c,(cellsFrom n sc.names []).lookup x=some c:=by
 have q:=W.cellsFrom_some sc.names n [] (.inl h)
 exact Option.isSome_iff_exists.mp q
theorem zkE {CX:CXT} {P:Program} {w:World} {K:W.Frag} {mg:Str->Option Value} {base:Heap} {N ps:List Str} {qual:Str} {scope:Scope} {f:Addr} {cd:Value} {A:Around} {outer:List Env} {s s1:Shared} {H:Hp} {E:XK} {us:List Value} {vs:List V}
  (S:FnScope N ps scope) (hd:A.handled=none) (e0:Env0 P w K mg base A outer s H) (hl:vs.length=ps.length) (r:Vals vs us)
  (x:InCallC s s.heap.objs.size (bindL (envOfC qual scope s.heap.objs.size f cd).kindOf (ps.zip us) fun _=>none) (cellsFrom (s.heap.objs.size + 1) scope.names []) (bindC (envOfC qual scope s.heap.objs.size f cd).kindOf (ps.zip us) fun _=>none) s1) :
  Inv (cxOf CX P w K mg base N qual scope f cd A outer s H E) [] (start N vs) H s1:=by
 have hpl:ps.length<=N.length:=by have:=congrArg List.length S.pre; rw [List.length_take] at this; omega
 obtain ⟨h1,tk,rfl,hk⟩:=x.done
 have noA:∀b:Addr,b∉(cxOf CX P w K mg base N qual scope f cd A outer s H E).ex:=fun b z=>absurd (show b∈([]:List Addr) from z) (by simp)
 refine ⟨⟨e0.mod,S.kind,rfl,rfl,Nat.le_refl _,fun y z c h1 h2=>?_,fun y hy=>?_,fun y c _ h=>?_,fun _=>hd,Around.frames_deeper e0.frames,.inr ⟨rfl,rfl⟩,fun b z=>absurd z (noA b),e0.bs,e0.bsz,fun b _ _=>noA b,fun b z=>absurd z (noA b),e0.funs,e0.frf⟩,
  rfl,e0.bare,Un.kept hk,⟨_,x.toInCall.ns,fun i y v h1 h2 h3=>?_⟩,fun y c h=>⟨_,x.cell y c h⟩,e0.hok.fresh (Nat.le_refl _),fun y c h=>?_,fun p hp=>absurd (show p∈([]:List (Addr × Obj)) from hp) (by simp),e0.hok.kept hk,?_⟩
 ·exact name_of_addr x.apart (PySem.mem_of_lookup h1) (PySem.mem_of_lookup h2)
 ·have hy:scope.names.lookup y=some .cell\/scope.names.lookup y=some .free:=hy
  rcases hy with hy | hy
  ·exact ze4 hy
  ·exact absurd rfl (S.nofree _ (PySem.mem_of_lookup hy))
 ·exact Nat.le_of_lt (x.above y c (PySem.mem_of_lookup h))
 ·have hi:i < vs.length:=by
   unfold start at h2
   by_cases hi:i < vs.length
   ·exact hi
   ·rw [List.getElem?_append_right (by simpa using hi)] at h2
    rw [List.getElem?_replicate] at h2
    split at h2 <;> cases h2
  have ha:vs[i]? = some v:=by
   unfold start at h2
   rw [List.getElem?_append_left (by simpa using hi),List.getElem?_map] at h2
   cases e:vs[i]? with
   | none=>rw [e] at h2; cases h2
   | some a=>rw [e] at h2; cases h2; rfl
  obtain ⟨u,hu,rv⟩:=r.get ha
  have hp:ps[i]? = some y:=by
   rw [<-S.pre,List.getElem?_take_of_lt (by omega)]; exact h1
  have ndP:ps.Nodup:=by rw [<-S.pre]; exact S.nd.sublist (List.take_sublist _ _)
  refine ⟨u,rv,?_⟩
  rcases S.par y (List.mem_of_getElem? hp) with k | k
  ·exact .inl ⟨k,zfB ndP hp hu k⟩
  ·obtain ⟨c,e⟩:=ze4 (n:=s.heap.objs.size + 1) k
   refine .inr ⟨.inl k,c,e,?_⟩
   have q:=x.cell y c e
   rw [zfC ndP hp hu (by show scope.names.lookup y≠_; rw [k]; decide)] at q
   exact q
 ·exact e0.hok.fresh (Nat.le_of_lt (x.above y c (PySem.mem_of_lookup h)))
 ·unfold start
  show _=N.length
  rw [List.length_append,List.length_map,List.length_replicate]
  omega
theorem zq6 {CX:CXT} {P:Program} {w:World} {K:W.Frag} {mg:Str->Option Value} {base:Heap} {k:Nat} {f:Addr} {name qual:Str} {params:Arguments} {body:List Stmt} {scope:Scope} {dV kV doc pm cdv ct oc:Value} {an od:Option Addr}
  {osl:Array (Option Value)} {N ps:List Str} {sp:Sp} (lk:K.lookup f=some ⟨oc,od,.func (W.fnOf name qual params body scope dV kV doc pm an cdv ct),osl⟩) (hcd:W.codeIn K cdv qual=true) (S:FnScope N ps scope)
  (len:∀vs H Q E,sp vs H Q E->vs.length=ps.length)
  (hbody:∀(A:Around) (outer:List Env) (s:Shared) (H:Hp) (vs:List V) (Q:VK) (E:XK),Room k (A.deeper (envOfC qual scope s.heap.objs.size f cdv))->sp vs H Q E ->
   ∃t,PSs (cxOf CX P w K mg base N qual scope f cdv A outer s H E) body t/\t { nx:=fun _ H'=>Q .non H',rt:=Q } (start N vs) H) :
  FnOk P w K mg base CX (k + 1) f (W.fnOf name qual params body scope dV kV doc pm an cdv ct) ps sp:=by
 refine ⟨len,fun A outer s H args us vs Q E hr e0 hb r hsp=>?_⟩
 have hl:=len _ _ _ _ hsp
 have KX:K.In s.heap:=e0.mod.kin.keeps fun b o e=>(e0.bs b o e).1
 have lim:s.heap.NoLimit:=e0.mod.nolimit.keeps fun b o e=>(e0.bs b o e).1
 have hkind:∀y∈ps.zip us,scope.names.lookup y.1=some .local\/(scope.names.lookup y.1=some .cell/\((cellsFrom (s.heap.objs.size + 1) scope.names []).lookup y.1).isSome=true):=fun ⟨n,v⟩ hy=>by
  rcases S.par n (List.of_mem_zip hy).1 with q | q
  ·exact .inl q
  ·exact .inr ⟨q,W.cellsFrom_some _ _ _ (.inl q)⟩
 refine codeAny_call_function hr.depth (KX _ _ lk) rfl S.co S.gen rfl (W.codeRec_of KX hcd) (hb _ _ _ _ ?_)
 refine wpAny_newFunctionEnv_cells S.kind hkind fun env he s1 x=>?_
 subst he
 refine ⟨lim.keeps x.toInCall.keep,codeAny_func ?_⟩
 obtain ⟨t,ht,hq⟩:=hbody A outer s H vs Q E (hr.deeper _) hsp
 have I:Inv (cxOf CX P w K mg base N qual scope f cdv A outer s H E) [] (start N vs) H s1:=zkE S hr.hd e0 hl r x
 refine wpAny_mono (ht [] s1 (start N vs) H _ I hq) (fun fl s' hs=>?_) fun e s' hs=>hs
 have fin:∀{σ':St} {H':Hp} {v:V} {u:Value},Inv (cxOf CX P w K mg base N qual scope f cdv A outer s H E) [] σ' H' s'->RelV v u->Q v H'->CE outer P w H s Q u s':=
  fun {σ' H' v u} J rv q=>⟨v,H',J.os,J.bare,J.base,J.hok,rv,q⟩
 cases fl with
 | ret u=>
  obtain ⟨v,σ',H',J,rv,q⟩:=hs
  exact fin J rv q
 | next=>
  obtain ⟨σ',H',J,q⟩:=hs
  exact fin (v:=V.non) (u:=Value.none) J rfl q
 | brk=>
  obtain ⟨_,_,_,q⟩:=hs
  exact False.elim q
 | cont=>
  obtain ⟨_,_,_,q⟩:=hs
  exact False.elim q
section
variable {X:Cx} {x:Str} {p pos:Pos} {e:Expr} {es:List Expr} {t:TA} {id T:String} {r:List V->Hp->VK->Prop}
def tCB (r:List V->Hp->VK->Prop) (t:TA):TE:=fun σ H Q=>t σ H fun vs H1=>r vs H1 Q
theorem zee (hc:zds X (.builtin id) r) (hg:Gl X x) (hm:X.mg x=none) (hv:bootBuiltins x=some (.builtin id)) (ha:PA X (e::es) t) (hn:x≠"__name__" := by decide) (hdb:(x == ("__debug__" : Str))=false:=by decide)
  (he:starEach (e::es) X.env=(false,eval e X.env)::starEach es X.env:=by rfl) (hpl:(backTo pos (starEach es X.env)).any (·.1)=false:=by rfl):PE X (.Call (.Name x p) (e::es) [] pos) (tCB r t):=by
 intro pins s σ H Q I h
 refine wpAny_Call_Name_kw (zf2 I hg hm hv ?_ hn hdb)
 exact PyProof.Rows.callWith_builtin1 (thn (ha pos pins s σ H _ I h) fun us s1 ⟨vs,H1,I1,r1,q1⟩=>hc pins s1 σ H1 vs us Q I1 r1 q1) he hpl
theorem zed (hc:zds X (.type T) r) (hg:Gl X x) (hm:X.mg x=none) (hv:bootBuiltins x=some (.type T)) (ha:PA X (e::es) t) (hn:x≠"__name__" := by decide) (hdb:(x == ("__debug__" : Str))=false:=by decide)
  (he:starEach (e::es) X.env=(false,eval e X.env)::starEach es X.env:=by rfl) (hpl:(backTo pos (starEach es X.env)).any (·.1)=false:=by rfl):PE X (.Call (.Name x p) (e::es) [] pos) (tCB r t):=by
 intro pins s σ H Q I h
 refine wpAny_Call_Name_kw (zf2 I hg hm hv ?_ hn hdb)
 exact PyProof.Rows.callWith_type1 (thn (ha pos pins s σ H _ I h) fun us s1 ⟨vs,H1,I1,r1,q1⟩=>hc pins s1 σ H1 vs us Q I1 r1 q1) he hpl
end
end L2
namespace HT
open PySem PyProof.Rows
section
open PySem.SeqAt
open PySem.AutoSeq1 (wpAny_loadPart')
open PySem.MeetsSeq PySem.MeetsSeq2 PySem.MeetsSeq3
end
section
variable {prog:Program} {w:World} {A:Around} {E:Value->Shared->Prop} {s:Shared}
theorem cat_tup {t b:Addr} {vs ws:List Value} {Q:Value->Shared->Prop} (ht:IsTup s.heap t vs.toArray) (hb:IsTup s.heap b ws.toArray) (hv:vs≠[])
  (h1:ws=[]->Q (.ref t) s) (h2:ws≠[]->Q (.ref s.heap.objs.size) { s with heap:=s.heap.push { cls:=.type "tuple",data:=.seq (vs++ws).toArray } })
  (hsz:vs.length + ws.length<=sizeLine):wpAny (model prog w) A (binaryOp .Add (.ref t) (.ref b)) Q E s:=by
 obtain ⟨⟨cls,dd,data,sl⟩,ho,hc,n,hd⟩:=id ht
 obtain ⟨⟨cls2,dd2,data2,sl2⟩,ho2,hc2,n2,hd2⟩:=id hb
 simp only at hc hd hc2 hd2
 subst hc hd hc2 hd2
 have e:vs.toArray++ws.toArray=(vs++ws).toArray:=by simp
 by_cases hw:ws=[]
 ·exact concat_meets ⟨_,ho,rfl⟩ ⟨_,ho2,rfl⟩ noFill_tuple_add seq_tuple_add PySem.F.slot_tuple_add PySem.F.entry_tuple_add (PySem.F.args_tuple_add_2 _ _)
   (tuple_addW1 t b vs.toArray ws.toArray n n2 dd dd2 sl sl2 (by simpa using hv) (by simp [hw])) ⟨ho,ho2,h1 hw⟩
 ·refine concat_meets ⟨_,ho,rfl⟩ ⟨_,ho2,rfl⟩ noFill_tuple_add seq_tuple_add PySem.F.slot_tuple_add PySem.F.entry_tuple_add (PySem.F.args_tuple_add_2 _ _)
   (tuple_addW2 t b vs.toArray ws.toArray n n2 dd dd2 sl sl2 (by simpa using hv) (by simpa using hw) (by rw [List.size_toArray,List.size_toArray]; exact hsz)) ⟨ho,ho2,?_⟩
  rw [e]
  exact h2 hw
def sIx (n d:Nat):Option Int->Nat
 | none=>d
 | some v=>if v < 0 then (v + (n:Int)).toNat else min v.toNat n
theorem sIx_none (n d:Nat):sIx n d none=d:=rfl
theorem sIx_nat (n d k:Nat):sIx n d (some (k:Int))=min k n:=by
 show (if (k:Int) < 0 then ((k:Int) + (n:Int)).toNat else min (k:Int).toNat n)=min k n
 rw [if_neg (by omega),Int.toNat_natCast]
theorem zpu (n d:Nat) (hd:d<=n) (o:Option Int):sIx n d o<=n:=by
 cases o with
 | none=>exact hd
 | some v=>
  show (if v < 0 then (v + (n:Int)).toNat else min v.toNat n)<=n
  by_cases hv:v < 0
  ·rw [if_pos hv]; omega
  ·rw [if_neg hv]; exact Nat.min_le_right _ _
theorem zk0 (v:Int) (n d:Nat):(if v < 0 then max (v + (n:Int)) 0 else min v (n:Int))=((sIx n d (some v):Nat):Int):=by
 show (if v < 0 then max (v + (n:Int)) 0 else min v (n:Int))=(((if v < 0 then (v + (n:Int)).toNat else min v.toNat n):Nat):Int)
 by_cases hv:v < 0
 ·simp only [if_pos hv]; omega
 ·simp only [if_neg hv]; omega
theorem zjc (lo hi:Option Int) (n:Nat):Builtin.Slice.sliceAdjust lo hi 1 (n:Int)=(((sIx n 0 lo:Nat):Int),((sIx n n hi:Nat):Int)):=by
 have h1:¬ ((1:Int) < 0):=by omega
 unfold Builtin.Slice.sliceAdjust
 simp only [h1,if_false]
 refine Prod.ext ?_ ?_
 ·cases lo with
  | none=>rfl
  | some v=>exact zk0 v n 0
 ·cases hi with
  | none=>rfl
  | some v=>exact zk0 v n n
theorem ziV (i j:Nat):Builtin.Slice.slicePlaces (i:Int) (j:Int) 1=j - i:=by
 unfold Builtin.Slice.slicePlaces
 have h1:(1:Int) > 0:=by omega
 simp only [h1,if_true,Int.ediv_one]
 split <;> omega
theorem zfX {v:Value} {o:Option Int} {Q:Option Int->Shared->Prop} (p:IsPart v o) (h:Q o s):wpAny (model prog w) A (Builtin.Slice.slicePartIndex v) Q E s:=by
 cases p with
 | none=>exact slicePart_none h
 | int i t=>exact slicePart_int h
theorem sliceApplied_gen {sl:Addr} {vl vu:Value} {lo hi:Option Int} {n:Nat} {Q:Int × Int × Nat->Shared->Prop} (hs:s.heap.IsSliceOf sl vl vu .none) (pl:IsPart vl lo) (pu:IsPart vu hi)
  (h:Q (((sIx n 0 lo:Nat):Int),1,sIx n n hi - sIx n 0 lo) s):wpAny (model prog w) A (Builtin.Slice.sliceApplied (.ref sl) (pure (n:Int))) Q E s:=by
 obtain ⟨os,hos,hcs,hds⟩:=id hs
 unfold Builtin.Slice.sliceApplied Builtin.Slice.sliceFields
 refine wpAny_bind (wpAny_bind (wpAny_field hos hds (x:=vl) rfl (wpAny_bind (wpAny_field hos hds (x:=vu) rfl (wpAny_bind (wpAny_field hos hds (x:=.none) rfl (wpAny_pure ?_)))))))
 refine wpAny_bind (slicePart_none ?_)
 show wpAny _ _ (if ((1:Int) == 0)=true then _ else _) _ _ s
 rw [if_neg (by decide)]
 refine wpAny_bind (zfX pl (wpAny_bind (zfX pu (wpAny_bind (wpAny_pure ?_)))))
 show wpAny _ _ (match Builtin.Slice.sliceAdjust lo hi 1 (n:Int) with | (lo,hi)=>pure (lo,(1:Int),Builtin.Slice.slicePlaces lo hi 1)) _ _ s
 rw [zjc lo hi n]
 show wpAny _ _ (pure (((sIx n 0 lo:Nat):Int),(1:Int),Builtin.Slice.slicePlaces ((sIx n 0 lo:Nat):Int) ((sIx n n hi:Nat):Int) 1)) _ _ s
 rw [ziV]
 exact wpAny_pure h
theorem zlK (xs:Array Value) (i k:Nat):((List.range k).filterMap fun (m:Nat)=>xs[((i:Int) + (m:Int) * 1).toNat]?).toArray=((xs.toList.drop i).take k).toArray:=by
 have e:(fun (m:Nat)=>xs[((i:Int) + (m:Int) * 1).toNat]?)=fun m=>xs[i + m]?:=by
  funext m
  have:((i:Int) + (m:Int) * 1).toNat=i + m:=by omega
  rw [this]
 rw [e]
 have:=pick_run xs i k
 rw [List.filterMap_map] at this
 have e2:((fun x=>xs[x]?) ∘ fun x=>i + x)=fun m=>xs[i + m]?:=rfl
 rw [e2] at this
 rw [this]
theorem getItem_tuple_cut {t sl:Addr} {items:Array Value} {vl vu:Value} {lo hi:Option Int} {Q:Value->Shared->Prop} (ht:IsTup s.heap t items) (hs:s.heap.IsSliceOf sl vl vu .none) (pl:IsPart vl lo) (pu:IsPart vu hi)
  (hw:¬ (sIx items.size 0 lo=0/\sIx items.size items.size hi=items.size))
  (h:Q (.ref s.heap.objs.size) { s with heap:=s.heap.push { cls:=.type "tuple",data:=.seq ((items.toList.drop (sIx items.size 0 lo)).take (sIx items.size items.size hi - sIx items.size 0 lo)).toArray } })
  (hsz:items.size<=sizeLine):wpAny (model prog w) A (getItem (.ref t) (.ref sl)) Q E s:=by
 have htake:sizeOk (.seq ((items.toList.drop (sIx items.size 0 lo)).take (sIx items.size items.size hi - sIx items.size 0 lo)).toArray):=by
  show ((items.toList.drop (sIx items.size 0 lo)).take (sIx items.size items.size hi - sIx items.size 0 lo)).toArray.size<=sizeLine
  rw [List.size_toArray,List.length_take,List.length_drop,Array.length_toList]
  omega
 have hj:sIx items.size items.size hi<=items.size:=zpu _ _ (Nat.le_refl _) hi
 obtain ⟨os,hos,hcs,hds⟩:=id hs
 have hTs:s.TypeIs (.ref sl) "slice" := ⟨os,hos,hcs⟩
 unfold getItem
 try with_reducible refine wpAny_holding ?_
 first | refine wpAny_bind (wpAny_pure ?_) | skip
 refine wpAny_bind (wpAny_sequenceKey ht.typeIs (by decide) ?_)
 refine wpAny_bind (wpAny_callSpecial?_slot (name:=Str.ofString "__getitem__") ht.typeIs PyProof.Rows.slot_tuple_getitem
  (wpAny_call_entry PyProof.Rows.slot_tuple_getitem ht.typeIs entry_tuple_getitem ?_ (args_tuple_getitem _ _)))
 show wpAny _ _ (Builtin.Tuple.tupleItemsOf (.ref t) >>= _) _ _ s
 refine wpAny_bind (tupleItemsOf_ ht ?_)
 refine wpAny_bind (wpAny_typeOf hTs ?_)
 rw [if_pos (by decide)]
 refine wpAny_bind (sliceApplied_gen hs pl pu ?_)
 have hno:¬ ((((sIx items.size 0 lo:Nat):Int) == 0 && (1:Int) == 1 && (sIx items.size items.size hi - sIx items.size 0 lo) == items.size)=true):=by
  intro q
  rw [Bool.and_eq_true,Bool.and_eq_true] at q
  have q1:((sIx items.size 0 lo:Nat):Int)=0:=eq_of_beq q.1.1
  have q2:sIx items.size items.size hi - sIx items.size 0 lo=items.size:=eq_of_beq q.2
  exact hw ⟨by omega,by omega⟩
 show wpAny _ _ (if (((sIx items.size 0 lo:Nat):Int) == 0 && (1:Int) == 1 && (sIx items.size items.size hi - sIx items.size 0 lo) == items.size)=true then _ else _) _ _ s
 rw [if_neg hno,zlK]
 first
  | exact wpAny_bind (m:=Builtin.Tuple.tupleExact _) (wpAny_newObj_type (wpAny_pure ⟨_,rfl,wpAny_pure h⟩) htake)
  | exact wpAny_bind (m:=Builtin.Tuple.tupleExact _) (wpAny_newObj_type (wpAny_bind (wpAny_pure (wpAny_pure ⟨_,rfl,wpAny_pure h⟩))) htake)
  | exact wpAny_bind (wpAny_bind (m:=Builtin.Tuple.tupleExact _) (wpAny_newObj_type (wpAny_pure (wpAny_pure ⟨_,rfl,wpAny_pure h⟩)) htake))
  | exact wpAny_bind (wpAny_bind (m:=Builtin.Tuple.tupleExact _) (wpAny_newObj_type (wpAny_pure ⟨_,rfl,wpAny_pure h⟩) htake))
end
end HT
namespace L2
open PySem PySem.Spec PyProof.Rows
abbrev TO:=St->Hp->(Option Int->Hp->Prop)->Prop
def PO (X:Cx) (e:Option Expr) (t:TO):Prop:=
 ∀(pins:List (Addr × Obj)) (s:Shared) (σ:St) (H:Hp) (Q:Option Int->Hp->Prop),Inv X pins σ H s->t σ H Q ->
  wpAny (model X.prog X.w) X.A (evalPart e X.env) (fun u s'=>∃o H',Inv X pins σ H' s'/\IsPart u o/\Q o H') X.xe s
def znj:TO:=fun _ H Q=>Q none H
def zrw (t:TE):TO:=fun σ H Q=>t σ H fun x H1=>∃i,x=.int i/\Q (some i) H1
theorem zi6 {ns:List Int}:∀{us:List Value},Vals (ns.map V.int) us->IntsAre us ns:=by
 induction ns with
 | nil=>intro us r; rw [List.map_nil] at r; cases r; exact .nil
 | cons n ns ih=>
  intro us r
  rw [List.map_cons] at r
  cases r with
  | cons r1 r2=>
   obtain ⟨t,e⟩:=r1
   subst e
   exact .cons n t (ih r2)
section
variable {X:Cx} {e:Expr} {te:TE} {lo hi:Option Expr} {tl th:TO} {pos p2:Pos}
theorem znM:PO X none znj:=by
 intro pins s σ H Q I h
 rw [evalPart_none]
 exact wpAny_pure ⟨none,H,I,.none,h⟩
theorem znL (h:PE X e te):PO X (some e) (zrw te):=by
 intro pins s σ H Q I hw
 rw [evalPart_some]
 refine thn (h pins s σ H _ I hw) fun u s1 ⟨x,H1,I1,r1,q1⟩=>?_
 obtain ⟨i,rfl,q⟩:=q1
 obtain ⟨t,rfl⟩:=r1
 exact ⟨some i,H1,I1,.int i t,q⟩
def SlR (X:Cx) (r:V->Option Int->Option Int->Hp->VK->Prop):Prop:=
 ∀(pins:List (Addr × Obj)) (s:Shared) (σ:St) (H:Hp) (x:V) (v vl vu:Value) (lo hi:Option Int) (sl:Addr) (Q:VK),Inv X pins σ H s->RelV x v->s.heap.IsSliceOf sl vl vu .none->IsPart vl lo->IsPart vu hi->r x lo hi H Q ->
  ∃T id,typeLookup (.type T) "__getitem__" = pure (some (.builtin id))/\s.TypeIs v T/\wpAny (model X.prog X.w) X.A (getItem v (.ref sl)) (EP X pins σ Q) X.xe s
theorem SlR.or {r r':V->Option Int->Option Int->Hp->VK->Prop} (h:SlR X r) (h':SlR X r'):SlR X (fun x lo hi H Q=>r x lo hi H Q\/r' x lo hi H Q):=by
 intro pins s σ H x v vl vu lo hi sl Q I rx hs pl pu q
 rcases q with q | q
 ·exact h pins s σ H x v vl vu lo hi sl Q I rx hs pl pu q
 ·exact h' pins s σ H x v vl vu lo hi sl Q I rx hs pl pu q
def tSl (r:V->Option Int->Option Int->Hp->VK->Prop) (te:TE) (tl th:TO):TE:=fun σ H Q=>te σ H fun x H1=>tl σ H1 fun l H2=>th σ H2 fun u H3=>r x l u H3 Q
theorem zil {r:V->Option Int->Option Int->Hp->VK->Prop} (hr:SlR X r) (he:PE X e te) (hl:PO X lo tl) (hu:PO X hi th):PE X (.Subscript e (.Slice lo hi none p2) pos) (tSl r te tl th):=by
 intro pins s σ H Q I h
 refine Subscript_ (thn (he pins s σ H _ I h) fun v s1 ⟨x,H1,I1,r1,q1⟩=>?_)
 refine wpAny_Slice (thn (hl pins s1 σ H1 _ I1 q1) fun vl s2 ⟨l,H2,I2,pl,q2⟩=>thn (hu pins s2 σ H2 _ I2 q2) fun vu s3 ⟨u,H3,I3,pu,q3⟩=>?_)
 rw [evalPart_none]
 refine wpAny_pure ?_
 have I4:Inv X pins σ H3 { s3 with heap:=s3.heap.push { cls:=.type "slice",data:=.fields #[vl,vu,.none] } }:=I3.kept (t':=s3.toks) fun b ob q=>Heap.get?_push_of_some _ q
 obtain ⟨T,id,hT,ht,hg⟩:=hr pins { s3 with heap:=s3.heap.push { cls:=.type "slice",data:=.fields #[vl,vu,.none] } } σ H3 x v vl vu l u s3.heap.objs.size Q I4 r1 (Heap.IsSliceOf.new ..) pl pu q3
 show wpAny (model X.prog X.w) X.A (subscriptTail e (.Slice lo hi none p2) v (.ref s3.heap.objs.size)) (EP X pins σ Q) X.xe { s3 with heap:=s3.heap.push { cls:=.type "slice",data:=.fields #[vl,vu,.none] } }
 exact tail_any (ops:=[.ref s3.heap.objs.size,v]) ht hT hg (by with_unfolding_all rfl)
def cutV (xs:List V) (lo hi:Option Int):List V:=(xs.drop (HT.sIx xs.length 0 lo)).take (HT.sIx xs.length xs.length hi - HT.sIx xs.length 0 lo)
theorem zfy (xs:List V) (lo hi:Option Int):(cutV xs lo hi).length<=xs.length:=by
 unfold cutV
 rw [List.length_take,List.length_drop]
 omega
def rSlT (K:W.Frag):V->Option Int->Option Int->Hp->VK->Prop:=fun x lo hi H Q=>∃a xs,x=.ref a/\SqT K H a xs /\
 ¬ (HT.sIx xs.length 0 lo=0/\HT.sIx xs.length xs.length hi=xs.length)/\∀p,H p=none->Q (.ref p) (upd H p (.tup (cutV xs lo hi)))
theorem zpj:SlR X (rSlT X.K):=by
 intro pins s σ H x v vl vu lo hi sl Q I rx hs pl pu h
 obtain ⟨a,xs,rfl,hx,hw,q⟩:=h
 cases rx
 obtain ⟨its,r,ht,hz⟩:=I.tuple hx
 have hlen:its.toArray.size=xs.length:=by rw [List.size_toArray]; exact r.length.symm
 refine ⟨"tuple",_,PyProof.Rows.slot_tuple_getitem.lookup,ht.typeIs,?_⟩
 refine HT.getItem_tuple_cut ht hs pl pu (by rw [hlen]; exact hw) ?_ (by rw [hlen]; exact hz)
 rw [hlen]
 refine ⟨.ref s.heap.objs.size,_,I.laid (t':=s.toks) (o:=.tup (cutV xs lo hi)) (fun b ob q=>Heap.get?_push_of_some _ q) (Nat.le_refl _) ?_,rfl,q _ (I.hok.fresh (Nat.le_refl _))⟩
 exact ⟨Nat.le_trans (zfy xs lo hi) hz,_,(r.drop (HT.sIx xs.length 0 lo)).take (HT.sIx xs.length xs.length hi - HT.sIx xs.length 0 lo),IsTup.new _ _,_,Heap.get?_push_size _ rfl,rfl⟩
def zpK (K:W.Frag):R2:=fun x y H Q=>∃a b xs ys,x=.ref a/\y=.ref b/\SqT K H a xs/\SqT K H b ys/\xs≠[]/\xs.length + ys.length<=sizeLine /\
 (ys=[]->Q (.ref a) H)/\(ys≠[]->∀p,H p=none->Q (.ref p) (upd H p (.tup (xs++ys))))
theorem Vals.nil_iff {xs:List V} {us:List Value} (r:Vals xs us):us=[]↔xs=[]:=by
 cases r with
 | nil=>simp
 | cons _ _=>simp
theorem zn0:OpR X (binaryOp .Add) (zpK X.K):=by
 intro pins s σ H x y v u Q I rx ry h
 obtain ⟨a,b,xs,ys,rfl,rfl,ha,hb,hx,hz,q1,q2⟩:=h
 cases rx
 cases ry
 obtain ⟨its,r1,p1,_⟩:=I.tuple ha
 obtain ⟨its2,r2,p2,_⟩:=I.tuple hb
 refine HT.cat_tup p1 p2 (fun z=>hx (r1.nil_iff.mp z)) (fun z=>⟨.ref a,H,I,rfl,q1 (r2.nil_iff.mp z)⟩) (fun z=>?_) (by rw [<-r1.length,<-r2.length]; exact hz)
 refine ⟨.ref s.heap.objs.size,_,I.laid (t':=s.toks) (o:=.tup (xs++ys)) (fun b ob q=>Heap.get?_push_of_some _ q) (Nat.le_refl _) ?_,rfl,q2 (fun w=>z (r2.nil_iff.mpr w)) _ (I.hok.fresh (Nat.le_refl _))⟩
 exact ⟨by rw [List.length_append]; exact hz,_,r1.append r2,IsTup.new _ _,_,Heap.get?_push_size _ rfl,rfl⟩
end
def ixN (n:Nat) (i:Int):Option Nat:=if 0<=i then (if i < n then some i.toNat else none) else if -(n:Int)<=i then some (i + n).toNat else none
def atI {α:Type} (xs:List α) (i:Int):Option α:=(ixN xs.length i).bind fun j=>xs[j]?
theorem zkA {n:Nat} {i:Int} {j:Nat} (h:ixN n i=some j):seqIndex? i n=some j/\j < n/\-(n:Int)<=i/\i < n:=by
 unfold ixN at h
 by_cases h0:0<=i
 ·rw [if_pos h0] at h
  by_cases h1:i < n
  ·rw [if_pos h1] at h
   have e:i.toNat=j:=Option.some.inj h
   exact ⟨by rw [seqIndex_of h0 h1,e],by omega,by omega,h1⟩
  ·rw [if_neg h1] at h; cases h
 ·rw [if_neg h0] at h
  by_cases h1 : -(n:Int)<=i
  ·rw [if_pos h1] at h
   have e:(i + n).toNat=j:=Option.some.inj h
   exact ⟨by rw [seqIndex_neg (by omega) h1,e],by omega,h1,by omega⟩
  ·rw [if_neg h1] at h; cases h
theorem zh4 {α:Type} {xs:List α} {i:Int} {v:α} (h:atI xs i=some v):∃j,seqIndex? i xs.length=some j/\xs[j]? = some v/\j < xs.length/\-(xs.length:Int)<=i/\i < xs.length:=by
 unfold atI at h
 cases e:ixN xs.length i with
 | none=>rw [e] at h; cases h
 | some j=>
  rw [e] at h
  obtain ⟨h1,h2,h3,h4⟩:=zkA e
  exact ⟨j,h1,h,h2,h3,h4⟩
def zla (b:Expr):Prop:=∀o i,subscripted b false o i=operate [o,i] (getItem o i)
def IxR (X:Cx) (r:R2):Prop:=
 ∀(value slice:Expr) (pins:List (Addr × Obj)) (s:Shared) (σ:St) (H:Hp) (x y:V) (v u:Value) (Q:VK),Inv X pins σ H s->RelV x v->RelV y u->r x y H Q ->
  subscripted slice false v u=operate [v,u] (getItem v u)->wpAny (model X.prog X.w) X.A (subscriptTail value slice v u) (EP X pins σ Q) X.xe s
def MtR (X:Cx) (id:String) (r:V->List V->Hp->VK->Prop):Prop:=
 ∀(pins:List (Addr × Obj)) (s:Shared) (σ:St) (H:Hp) (x:V) (xs:List V) (v:Value) (us:List Value) (Q:VK),Inv X pins σ H s->RelV x v->Vals xs us->r x xs H Q ->
  wpAny (model X.prog X.w) X.A (call (.builtin id) (v::us)) (EP X pins σ Q) X.xe s
section
variable {X:Cx} {a b:Expr} {ta tb:TE} {pos:Pos}
theorem IxR.or {r r':R2} (h:IxR X r) (h':IxR X r'):IxR X (fun x y H Q=>r x y H Q\/r' x y H Q):=by
 intro value slice pins s σ H x y v u Q I rx ry q hs
 rcases q with q | q
 ·exact h value slice pins s σ H x y v u Q I rx ry q hs
 ·exact h' value slice pins s σ H x y v u Q I rx ry q hs
theorem zrS {r:R2} (hr:IxR X r) (ha:PE X a ta) (hb:PE X b tb) (hs:zla b):PE X (.Subscript a b pos) (tOp r ta tb):=by
 intro pins s σ H Q I h
 exact Subscript_ (binT ha hb I h fun v u s2 x y H2 I2 rx ry q=>hr a b pins s2 σ H2 x y v u Q I2 rx ry q (hs _ _))
def rIxL (K:W.Frag):R2:=fun x y H Q=>∃p xs i v,x=.ref p/\y=.int i/\SqL K H p xs/\atI xs i=some v/\Q v H
def rIxT (K:W.Frag):R2:=fun x y H Q=>∃p xs i v,x=.ref p/\y=.int i/\SqT K H p xs/\atI xs i=some v/\Q v H
def rIxS:R2:=fun x y H Q=>∃z i c,x=.str z/\y=.int i/\z.length<=sizeLine/\atI z.cps.toList i=some c/\Q (.str ⟨#[c]⟩) H
theorem zoq:IxR X (rIxL X.K):=by
 intro value slice pins s σ H x y v u Q I rx ry h hs
 obtain ⟨p,xs,i,z,rfl,rfl,hq,he,q⟩:=h
 cases rx
 obtain ⟨t,rfl⟩:=ry
 obtain ⟨its,r,pl,hz⟩:=I.list hq
 obtain ⟨j,h1,h2,h3,h4,h5⟩:=zh4 he
 obtain ⟨w,ew,rw'⟩:=r.get h2
 have hl:=r.length
 have hn:=zf1
 have fin:EP X pins σ Q w s:=⟨z,H,I,rw',q⟩
 by_cases h0:0<=i
 ·have hj:i.toNat=j:=by
   rw [seqIndex_of h0 h5] at h1
   exact Option.some.inj h1
  exact item_listR pl.isList h0 (by omega) (by rw [hj]; simpa using ew) fin hs
 ·have hj:(i + (its.toArray.size:Int)).toNat=j:=by
   rw [seqIndex_neg (by omega) h4] at h1
   rw [List.size_toArray,<-hl]
   exact Option.some.inj h1
  exact subscriptTail_builtinR (x:=w) pl.isList.typeIs slot_list_getitem.lookup
   (wpAny_getItem_list_neg (Q:=fun r s'=>r=w/\EP X pins σ Q r s') pl.isList (by omega) (by rw [List.size_toArray] <;> omega) (by omega) (by rw [hj]; simpa using ew) ⟨rfl,fin⟩) hs
theorem zqD:IxR X (rIxT X.K):=by
 intro value slice pins s σ H x y v u Q I rx ry h hs
 obtain ⟨p,xs,i,z,rfl,rfl,hq,he,q⟩:=h
 cases rx
 obtain ⟨t,rfl⟩:=ry
 obtain ⟨its,r,pl,hz⟩:=I.tuple hq
 obtain ⟨j,h1,h2,h3,h4,h5⟩:=zh4 he
 obtain ⟨w,ew,rw'⟩:=r.get h2
 have hl:=r.length
 have hn:=zf1
 have fin:EP X pins σ Q w s:=⟨z,H,I,rw',q⟩
 exact subscriptTail_builtinR (x:=w) pl.typeIs slot_tuple_getitem.lookup
  (getItem_tuple (j:=j) (Q:=fun r s'=>r=w/\EP X pins σ Q r s') pl (by omega) (by omega) (by rw [List.size_toArray,<-hl]; exact h1) (by simpa using ew) ⟨rfl,fin⟩) hs
theorem ix_str:IxR X rIxS:=by
 intro value slice pins s σ H x y v u Q I rx ry h hs
 obtain ⟨z,i,c,rfl,rfl,hz,he,q⟩:=h
 obtain ⟨t,rfl⟩:=rx
 obtain ⟨t',rfl⟩:=ry
 obtain ⟨j,h1,h2,h3,h4,h5⟩:=zh4 he
 have hl:z.cps.toList.length=z.length:=by simp [Str.length]
 rw [hl] at h1 h4 h5
 have hn:=zf1
 exact tail_any (typeIs_str s z t) slot_str_getitem.lookup (getItem_str (c:=c) (by
  have e1:decide (i < -(2 ^ 63:Int))=false:=decide_eq_false (by omega)
  have e2:decide (i >= 2 ^ 63)=false:=decide_eq_false (by omega)
  rw [e1,e2,Bool.or_false]) (by rw [h1]; simpa using h2) ⟨.str ⟨#[c]⟩,H,I.tok _,⟨_,rfl⟩,q⟩) hs
def rIx (K:W.Frag):R2:=fun x y H Q=>rIxL K x y H Q\/rIxT K x y H Q\/rIxS x y H Q
theorem zqE:IxR X (rIx X.K):=zoq.or (zqD.or ix_str)
theorem ziX (its:List Value) (n j:Nat) (u:Value):Obj.mapSeq (·.setIfInBounds j u) { cls:=.type "list",data:=.seq its.toArray n }={ cls:=.type "list",data:=.seq (its.set j u).toArray n }:=by
 simp [Obj.mapSeq]
theorem Inv.lst {pins:List (Addr × Obj)} {σ:St} {H:Hp} {s:Shared} {p:Addr} {xs:List V} (I:Inv X pins σ H s) (h:H p=some (.lst xs)) :
  ∃(its:List Value) (n:Nat),Vals xs its/\s.heap.get? p=some { cls:=.type "list",data:=.seq its.toArray n }/\xs.length<=sizeLine:=by
 obtain ⟨z,its,n,r,e⟩:=I.hok p _ h
 exact ⟨its,n,r,e,z⟩
theorem Inv.lstUpd {pins:List (Addr × Obj)} {σ:St} {H:Hp} {s:Shared} {p:Addr} {xs ys:List V} {its its':List Value} {n n':Nat} {f:Obj->Obj} (I:Inv X pins σ H s) (h:H p=some (.lst xs))
  (ho:s.heap.get? p=some { cls:=.type "list",data:=.seq its.toArray n }) (hf:f { cls:=.type "list",data:=.seq its.toArray n }={ cls:=.type "list",data:=.seq its'.toArray n' }) (r:Vals ys its') (hz:ys.length<=sizeLine) (t:Nat) :
  Inv X pins σ (upd H p (.lst ys)) { s with heap:=s.heap.update p f,toks:=t }:=by
 have e:(s.heap.update p f).get? p=some { cls:=.type "list",data:=.seq its'.toArray n' }:=by
  rw [Heap.get?_update_self f ho (by rw [hf] <;> rfl),hf]
 refine I.write (x:=p) (e:=p) (by rw [h]; trivial) (.inl rfl) (fun b u hb q=>(Heap.get?_update_other _ _ (Ne.symm hb)).trans q) ⟨_,e⟩ ?_
 exact ⟨hz,its',n',r,e⟩
def zpF:V->V->V->Hp->(Hp->Prop)->Prop:=fun o i v H Q=>∃p xs k j,o=.ref p/\i=.int k/\H p=some (.lst xs)/\ixN xs.length k=some j/\Q (upd H p (.lst (xs.set j v)))
theorem zlr:PSet X zpF:=by
 intro pins s σ H o i v ov iv u Q I ro ri rv h
 obtain ⟨p,xs,k,j,rfl,rfl,hp,hj,q⟩:=h
 cases ro
 obtain ⟨t,rfl⟩:=ri
 obtain ⟨its,n,r,ho,hz⟩:=I.lst hp
 obtain ⟨h1,h2,h3,h4⟩:=zkA hj
 have hl:=r.length
 have hn:=zf1
 have I':Inv X pins σ (upd H p (.lst (xs.set j v))) { s with heap:=s.heap.update p (Obj.mapSeq (·.setIfInBounds j u)) }:=
  I.lstUpd hp ho (ziX its n j u) (r.set rv j) (by rw [List.length_set]; exact hz) s.toks
 by_cases h0:0<=k
 ·have hk:k.toNat=j:=by
   rw [seqIndex_of h0 h4] at h1
   exact Option.some.inj h1
  exact W.ki_setAt ho h0 (by omega) (by rw [List.size_toArray,<-hl]; exact h4) (by rw [hk]; exact ⟨_,I',q⟩)
 ·have hk:(k + (its.toArray.size:Int)).toNat=j:=by
   rw [seqIndex_neg (by omega) h3] at h1
   rw [List.size_toArray,<-hl]
   exact Option.some.inj h1
  exact W.ki_setBack ho (by omega) (by rw [List.size_toArray,<-hl]; exact h3) (by omega) (by rw [hk]; exact ⟨_,I',q⟩)
theorem zgR (lo hi:Option Int) (n:Nat):(sliceBounds lo hi none n).1=((HT.sIx n 0 lo:Nat):Int)/\(sliceBounds lo hi none n).2.1=((HT.sIx n n hi:Nat):Int)/\(sliceBounds lo hi none n).2.2=1:=by
 refine ⟨?_,?_,rfl⟩
 ·cases lo with
  | none=>simp [sliceBounds,HT.sIx]
  | some i=>
   simp only [sliceBounds,HT.sIx,Option.getD_none,show (1:Int) > 0 by decide,if_true]
   by_cases h:i < 0
   ·simp only [h,if_true] <;> omega
   ·simp only [h,if_false] <;> omega
 ·cases hi with
  | none=>simp [sliceBounds,HT.sIx]
  | some i=>
   simp only [sliceBounds,HT.sIx,Option.getD_none,show (1:Int) > 0 by decide,if_true]
   by_cases h:i < 0
   ·simp only [h,if_true] <;> omega
   ·simp only [h,if_false] <;> omega
theorem zgh (its:List Value) (lo hi:Option Int):slicePick its.toArray lo hi none=((its.drop (HT.sIx its.length 0 lo)).take (HT.sIx its.length its.length hi - HT.sIx its.length 0 lo)).toArray:=by
 obtain ⟨h1,h2,h3⟩:=zgR lo hi its.toArray.size
 unfold slicePick
 rw [h1,h2,h3]
 simp only [sliceRange_one,pick_run,List.size_toArray] <;> rfl
def rSlL (K:W.Frag):V->Option Int->Option Int->Hp->VK->Prop:=fun x lo hi H Q=>∃a xs,x=.ref a/\SqL K H a xs/\∀p,H p=none->Q (.ref p) (upd H p (.lst (cutV xs lo hi)))
theorem znq:SlR X (rSlL X.K):=by
 intro pins s σ H x v vl vu lo hi sl Q I rx hs pl pu h
 obtain ⟨a,xs,rfl,hx,q⟩:=h
 cases rx
 obtain ⟨its,r,ht,hz⟩:=I.list hx
 have hlen:=r.length
 refine ⟨"list",_,slot_list_getitem.lookup,ht.isList.typeIs,?_⟩
 refine wpAny_getItem_list_slice ht.isList hs pl pu .none (by simp) ?_ (by rw [List.size_toArray] <;> omega)
 rw [zgh,<-hlen]
 refine ⟨.ref s.heap.objs.size,_,I.laid (t':=s.toks) (o:=.lst (cutV xs lo hi)) (fun b ob q=>Heap.get?_push_of_some _ q) (Nat.le_refl _) ?_,rfl,q _ (I.hok.fresh (Nat.le_refl _))⟩
 exact ⟨Nat.le_trans (zfy xs lo hi) hz,_,0,(r.drop (HT.sIx xs.length 0 lo)).take (HT.sIx xs.length xs.length hi - HT.sIx xs.length 0 lo),Heap.get?_push_size _ rfl⟩
def zfS:V->Bool
 | .non=>true
 | .bl _=>true
 | .int _=>true
 | .str _=>true
 | _=>false
def eqV:V->V->Bool
 | .non,.non=>true
 | .bl a,.bl b=>a == b
 | .bl a,.int b=>(if a then 1 else 0) == b
 | .int a,.bl b=>a == (if b then 1 else 0)
 | .int a,.int b=>a == b
 | .str a,.str b=>a == b
 | _,_=>false
theorem zrb {A:Around} {s:Shared} {y x:V} {u v:Value} (ry:RelV y u) (rx:RelV x v) (fy:zfS y=true) (fx:zfS x=true):SeqAt.EqAt A s u v (eqV y x):=by
 cases y with
 | non=>
  cases ry
  cases x with
  | non=>cases rx; exact SeqAt.EqAt.same _
  | bl b=>cases rx; exact SeqAt.EqAt.none_bool b
  | int b=>obtain ⟨t,rfl⟩:=rx; exact SeqAt.EqAt.none_int b t
  | str b=>obtain ⟨t,rfl⟩:=rx; exact SeqAt.EqAt.none_str b t
  | _=>exact absurd (show false=true from fx) Bool.false_ne_true
 | bl a=>
  cases ry
  cases x with
  | non=>cases rx; exact SeqAt.EqAt.bool_none a
  | bl b=>cases rx; exact SeqAt.EqAt.bool_bool a b
  | int b=>obtain ⟨t,rfl⟩:=rx; exact SeqAt.EqAt.bool_int a b t
  | str b=>obtain ⟨t,rfl⟩:=rx; exact SeqAt.EqAt.bool_str a b t
  | _=>exact absurd (show false=true from fx) Bool.false_ne_true
 | int a=>
  obtain ⟨t',rfl⟩:=ry
  cases x with
  | non=>cases rx; exact SeqAt.EqAt.int_none a t'
  | bl b=>cases rx; exact SeqAt.EqAt.int_bool a t' b
  | int b=>obtain ⟨t,rfl⟩:=rx; exact SeqAt.EqAt.int_int a t' b t
  | str b=>obtain ⟨t,rfl⟩:=rx; exact SeqAt.EqAt.int_str a t' b t
  | _=>exact absurd (show false=true from fx) Bool.false_ne_true
 | str a=>
  obtain ⟨t',rfl⟩:=ry
  cases x with
  | non=>cases rx; exact SeqAt.EqAt.str_none a t'
  | bl b=>cases rx; exact SeqAt.EqAt.str_bool a t' b
  | int b=>obtain ⟨t,rfl⟩:=rx; exact SeqAt.EqAt.str_int a t' b t
  | str b=>obtain ⟨t,rfl⟩:=rx; exact SeqAt.EqAt.str_str a t' b t
  | _=>exact absurd (show false=true from fx) Bool.false_ne_true
 | _=>exact absurd (show false=true from fy) Bool.false_ne_true
def eqU (x:V) (u:Value):Bool:=match u with
 | .none=>eqV .non x
 | .bool b=>eqV (.bl b) x
 | .int i _=>eqV (.int i) x
 | .str z _=>eqV (.str z) x
 | _=>false
theorem zm8 {x y:V} {u:Value} (r:RelV y u) (f:zfS y=true):eqU x u=eqV y x:=by
 cases y with
 | non=>cases r; rfl
 | bl b=>cases r; rfl
 | int i=>obtain ⟨t,rfl⟩:=r; rfl
 | str z=>obtain ⟨t,rfl⟩:=r; rfl
 | _=>exact absurd (show false=true from f) Bool.false_ne_true
theorem zfD {x:V}:∀{xs:List V} {us:List Value},Vals xs us->xs.all zfS=true->us.any (eqU x)=xs.any fun y=>eqV y x
 | _,_,.nil,_=>rfl
 | y::xs,u::us,.cons r t,f=>by
  rw [List.all_cons,Bool.and_eq_true] at f
  rw [List.any_cons,List.any_cons,zm8 r f.1,zfD t f.2]
theorem zeg {A:Around} {s:Shared} {x:V} {v:Value} (rx:RelV x v) (fx:zfS x=true):∀{xs:List V} {us:List Value},Vals xs us->xs.all zfS=true->∀u∈us,SeqAt.EqAt A s u v (eqU x u)
 | _,_,.nil,_=>fun u hu=>by cases hu
 | y::xs,u::us,.cons r t,f=>fun u' hu=>by
  rw [List.all_cons,Bool.and_eq_true] at f
  rcases List.mem_cons.mp hu with rfl | hu
  ·rw [zm8 r f.1]; exact zrb r rx f.1 fx
  ·exact zeg rx fx t f.2 u' hu
def inV (x:V) (xs:List V):Bool:=xs.any fun y=>eqV y x
def rIn (K:W.Frag) (neg:Bool):R2:=fun x y H Q=>∃p xs,y=.ref p/\(SqL K H p xs\/SqT K H p xs)/\zfS x=true/\xs.all zfS=true/\Q (.bl (if neg then ! inV x xs else inV x xs)) H
theorem zj8:OpR X (compareOp .In) (rIn X.K false):=by
 intro pins s σ H x y v u Q I rx ry h
 obtain ⟨p,xs,rfl,hq,fx,fs,q⟩:=h
 cases ry
 rcases hq with hq | hq
 ·obtain ⟨its,r,pl,hz⟩:=I.list hq
  refine SeqAt.in_listAt (eqU x) pl.isList (fun w hw=>zeg rx fx r fs w (by simpa using hw)) ⟨.bl _,H,I,rfl,?_⟩
  rw [show its.toArray.any (eqU x)=its.any (eqU x) by simp,zfD r fs]
  exact q
 ·obtain ⟨its,r,pl,hz⟩:=I.tuple hq
  refine SeqAt.in_tupleAt (eqU x) pl (fun w hw=>zeg rx fx r fs w (by simpa using hw)) ⟨.bl _,H,I,rfl,?_⟩
  rw [show its.toArray.any (eqU x)=its.any (eqU x) by simp,zfD r fs]
  exact q
theorem zg6:OpR X (compareOp .NotIn) (rIn X.K true):=by
 intro pins s σ H x y v u Q I rx ry h
 obtain ⟨p,xs,rfl,hq,fx,fs,q⟩:=h
 cases ry
 rcases hq with hq | hq
 ·obtain ⟨its,r,pl,hz⟩:=I.list hq
  refine SeqAt.notIn_listAt (eqU x) pl.isList (fun w hw=>zeg rx fx r fs w (by simpa using hw)) ⟨.bl _,H,I,rfl,?_⟩
  rw [show its.toArray.any (eqU x)=its.any (eqU x) by simp,zfD r fs]
  exact q
 ·obtain ⟨its,r,pl,hz⟩:=I.tuple hq
  refine SeqAt.notIn_tupleAt (eqU x) pl (fun w hw=>zeg rx fx r fs w (by simpa using hw)) ⟨.bl _,H,I,rfl,?_⟩
  rw [show its.toArray.any (eqU x)=its.any (eqU x) by simp,zfD r fs]
  exact q
theorem zg1:OpR X (compareOp .NotIn) (fun x y H Q=>∃i j,x=.str i/\y=.str j/\Q (.bl (!(!(Builtin.Str.occurrences j i 0 j.length 1).isEmpty))) H):=by
 intro pins s σ H x y v u Q I rx ry h
 obtain ⟨i,j,rfl,rfl,q⟩:=h
 obtain ⟨t,rfl⟩:=rx
 obtain ⟨t',rfl⟩:=ry
 exact notIn_str ⟨.bl _,H,I,rfl,q⟩
theorem zds.or {f:Value} {r r':List V->Hp->VK->Prop} (h:zds X f r) (h':zds X f r'):zds X f (fun xs H Q=>r xs H Q\/r' xs H Q):=by
 intro pins s σ H xs us Q I rs q
 rcases q with q | q
 ·exact h pins s σ H xs us Q I rs q
 ·exact h' pins s σ H xs us Q I rs q
theorem zgC:zds X (.type "tuple") (fun xs H Q=>∃p ys,xs=[.ref p]/\((SqL X.K H p ys/\∀l,H l=none->Q (.ref l) (upd H l (.tup ys)))\/(SqT X.K H p ys/\Q (.ref p) H))):=by
 intro pins s σ H xs us Q I r h
 obtain ⟨p,ys,rfl,h⟩:=h
 obtain ⟨u,rfl,rx⟩:=zeR r
 cases rx
 rcases h with ⟨hq,q⟩ | ⟨hq,q⟩
 ·obtain ⟨its,r',pl,hz⟩:=I.list hq
  have hlen:=r'.length
  refine call_tuple_list pl.isList (fun h' kp=>?_) (by simp only [List.size_toArray] <;> omega)
  have I1:Inv X pins σ H { s with heap:=h' }:=I.kept (t':=s.toks) kp
  have I2:Inv X pins σ (upd H h'.objs.size (.tup ys)) { s with heap:=h'.push { cls:=.type "tuple",data:=.seq its.toArray } }:=
   I1.laid (t':=s.toks) (fun b o e=>Heap.get?_push_of_some _ e) (Nat.le_refl _) (show zbg X.prog X.w _ _ _ (.tup ys) from ⟨hz,its,r',IsTup.new _ _,_,Heap.get?_push_size _ rfl,rfl⟩)
  exact ⟨.ref h'.objs.size,_,I2,rfl,q _ (I1.hok.fresh (Nat.le_refl _))⟩
 ·obtain ⟨its,r',pl,hz⟩:=I.tuple hq
  exact call_tuple_same pl ⟨.ref p,H,I,rfl,q⟩
def tyV (K:W.Frag) (T:String) (x:V) (H:Hp):Prop:=match x with
 | .str _=>T = "str"
 | .int _=>T = "int"
 | .ref p=>(T = "list"/\∃xs,SqL K H p xs)\/(T = "tuple"/\((∃o,K.lookup p=some o/\o.cls=.type "tuple"/\o.dict=none)\/∃xs,Rd H p (.tup xs))) \/
   (T = "dict"/\((∃kvs,Rd H p (.dK kvs))\/∃kvs,H p=some (.dT kvs)))\/(T = "set"/\∃S n,H p=some (.set S n))
 | _=>False
theorem zo4 {pins:List (Addr × Obj)} {σ:St} {H:Hp} {s:Shared} {T:String} {x:V} {v:Value} (I:Inv X pins σ H s) (r:RelV x v) (ty:tyV X.K T x H) :
  s.TypeIs v T/\∀a,v=.ref a->∃ob,s.heap.get? a=some ob/\ob.dict=none:=by
 cases x with
 | str z=>
  obtain ⟨t,rfl⟩:=r
  cases (show T = "str" from ty)
  exact ⟨typeIs_str s z t,fun _ e=>nomatch e⟩
 | int i=>
  obtain ⟨t,rfl⟩:=r
  cases (show T = "int" from ty)
  exact ⟨typeIs_int s i t,fun _ e=>nomatch e⟩
 | ref p=>
  cases r
  rcases ty with ⟨rfl,xs,hq⟩ | ⟨rfl,⟨o,hk,hc,hd⟩ | ⟨xs,hq⟩⟩ | ⟨rfl,hk⟩ | ⟨rfl,S,n,hk⟩
  ·obtain ⟨its,_,pl,_⟩:=I.list hq
   refine ⟨pl.isList.typeIs,fun a e=>?_⟩
   cases e
   obtain ⟨o,n,e,c,hd,_⟩:=pl
   exact ⟨o,e,hd⟩
  ·refine ⟨⟨o,I.kIn p o hk,hc⟩,fun a e=>?_⟩
   cases e
   exact ⟨o,I.kIn _ o hk,hd⟩
  ·obtain ⟨_,its,_,⟨o,ho,hc,_⟩,o2,ho2,hd2⟩:=hq.ok I.hok
   refine ⟨⟨o,ho,hc⟩,fun a e=>?_⟩
   cases e
   exact ⟨o2,ho2,hd2⟩
  ·have z:∃o,s.heap.get? p=some o/\o.ExactDict:=by
    rcases hk with ⟨kvs,hk⟩ | ⟨kvs,hk⟩
    ·obtain ⟨_,_,_,_,o,_,_,e,ex,_⟩:=(show zbg X.prog X.w H s.heap p (.dK kvs) from hk.ok I.hok)
     exact ⟨o,e,ex⟩
    ·obtain ⟨_,_,_,_,o,_,_,e,ex,_⟩:=I.hok p _ hk
     exact ⟨o,e,ex⟩
   obtain ⟨o,e,ex⟩:=z
   refine ⟨⟨o,e,ex.1⟩,fun a e2=>?_⟩
   cases e2
   exact ⟨o,e,ex.2.1⟩
  ·obtain ⟨o,_,_,_,e,ex,_⟩:=I.hok p _ hk
   refine ⟨⟨o,e,ex.1⟩,fun a e2=>?_⟩
   cases e2
   exact ⟨o,e,ex.2.1⟩
 | _=>exact False.elim ty
def tBM (K:W.Frag) (T:String) (r:V->List V->Hp->VK->Prop) (to:TE) (t:TA):TE:=fun σ H Q=>to σ H fun x H1=>tyV K T x H1/\t σ H1 fun xs H2=>r x xs H2 Q
variable {o e:Expr} {es:List Expr} {to:TE} {t:TA} {name:Str} {apos cpos:Pos} {T id:String} {r:V->List V->Hp->VK->Prop}
theorem zp7 (pa:PlainAttrs T) (slot:Slot T name id) (hty:typeOf (.builtin id)=pure (.type "method_descriptor")) (hm:MtR X id r) (ho:PE X o to) (ha:PA X (e::es) t)
  (hbase:attributeBase o name X.env (eval o X.env)=eval o X.env:=by rfl)
  (hfew:((backTo cpos (starEach (e::es) X.env)).all (fun x=>! x.1) && (backToKw cpos (keywordEach [] X.env)).all (fun x=>x.1.isSome)
   && decide ((e::es).length + ([]:List Keyword).length + (if ([]:List Keyword).isEmpty then 0 else 1) < 30))=true:=by rfl)
  (hline:(apos.endLine == cpos.line)=true:=by rfl) (hs:starEach (e::es) X.env=(false,eval e X.env)::starEach es X.env:=by rfl) (hplain:(backTo cpos (starEach es X.env)).any (·.1)=false:=by rfl) :
  PE X (.Call (.Attribute o name apos) (e::es) [] cpos) (tBM X.K T r to t):=by
 intro pins s σ H Q I h
 refine wpAny_Call_method_late hbase hfew hline rfl (thn (ho pins s σ H _ I h) fun v s1 ⟨x,H1,I1,r1,ty,q1⟩=>?_)
 obtain ⟨h1,h2⟩:=zo4 I1 r1 ty
 refine ⟨T,id,pa,slot,hty,h1,h2,?_⟩
 have hA:=ha cpos pins s1 σ H1 _ I1 q1
 rw [hs] at hA ⊢
 refine Calls.callWith_builtin (by show (false || (backTo cpos (starEach es X.env)).any (·.1))=false; rw [hplain] <;> rfl) (Calls.evalArgs_plain ?_)
 exact thn hA fun us s2 ⟨vs,H2,I2,r2,q2⟩=>hm pins s2 σ H2 x vs v us Q I2 r1 r2 q2
end
def MtM (X:Cx) (id:String) (r:V->List V->Hp->VK->Prop):Prop:=
 ∀(pins:List (Addr × Obj)) (s:Shared) (σ:St) (H:Hp) (x:V) (xs:List V) (v:Value) (us:List Value) (Q:VK),Inv X pins σ H s->RelV x v->Vals xs us->r x xs H Q ->
  wpAny (model X.prog X.w) X.A (call (.builtin id) (v::us)) (EP X pins σ Q) X.xe s
theorem Vals.one {x:V} {us:List Value} (h:Vals [x] us):∃u,us=[u]/\RelV x u:=by
 cases h with
 | cons r t=>cases t; exact ⟨_,rfl,r⟩
theorem Vals.zero:∀{us:List Value},Vals [] us->us=[]
 | _,.nil=>rfl
theorem Vals.rep {xs:List V} {us:List Value} (h:Vals xs us):∀k:Nat,Vals (List.replicate k xs).flatten (List.replicate k us).flatten
 | 0=>.nil
 | k + 1=>by
  rw [List.replicate_succ,List.replicate_succ,List.flatten_cons,List.flatten_cons]
  exact Vals.append h (Vals.rep h k)
theorem zhh (its:List Value):∀(k:Nat) (acc:List Value),
  List.foldl (fun x1 x2=>x1++x2) acc.toArray (List.replicate k its.toArray)=(acc++(List.replicate k its).flatten).toArray
 | 0,acc=>by simp
 | k + 1,acc=>by
  have e:acc.toArray++its.toArray=(acc++its).toArray:=by simp
  have e2:(acc++its)++(List.replicate k its).flatten=acc++(List.replicate (k + 1) its).flatten:=by
   rw [List.replicate_succ,List.flatten_cons,List.append_assoc]
  rw [<-e2,<-zhh its k (acc++its),<-e,List.replicate_succ,List.foldl_cons]
section
variable {X:Cx} {pins:List (Addr × Obj)} {σ:St} {H:Hp} {s:Shared} {l b:Addr} {xs ys zs:List V}
theorem Inv.lset {its its':List Value} {n:Nat} {f:Array Value->Array Value} {t':Nat} (I:Inv X pins σ H s) (hH:H l=some (.lst xs))
  (e:s.heap.get? l=some { cls:=.type "list",data:=.seq its.toArray n }) (hf:f its.toArray=its'.toArray) (hv:Vals ys its') (hz:ys.length<=sizeLine) :
  Inv X pins σ (upd H l (.lst ys)) { s with heap:=s.heap.update l (Obj.mapSeq f),toks:=t' }:=by
 have q:=PySem.IsL.update e f
 rw [hf] at q
 refine I.write (x:=l) (e:=l) (by rw [hH]; exact trivial) (.inl rfl) (fun b' u hb hu=>(Heap.get?_update_other s.heap (Obj.mapSeq f) (Ne.symm hb)).trans hu) ⟨_,q⟩ ?_
 exact ⟨hz,its',_,hv,q⟩
theorem Inv.lnew {its:List Value} {t':Nat} (I:Inv X pins σ H s) (hv:Vals ys its) (hz:ys.length<=sizeLine) :
  Inv X pins σ (upd H s.heap.objs.size (.lst ys)) { s with heap:=s.heap.push { cls:=.type "list",data:=.seq its.toArray },toks:=t' }:=
 I.laid (fun _ _ q=>Heap.get?_push_of_some _ q) (Nat.le_refl _) ⟨hz,its,0,hv,Heap.get?_push_size _ rfl⟩
theorem Inv.fresh (I:Inv X pins σ H s):H s.heap.objs.size=none:=I.hok.fresh (Nat.le_refl _)
theorem Inv.lstM (I:Inv X pins σ H s) (hH:H l=some (.lst xs)):xs.length<=sizeLine/\∃(its:List Value) (n:Nat),Vals xs its/\xs.length=its.length/\s.heap.get? l=some { cls:=.type "list",data:=.seq its.toArray n }:=by
 obtain ⟨z,its,n,r,e⟩:=I.hok l _ hH
 exact ⟨z,its,n,r,r.length,e⟩
theorem zlU {n:Nat} (h:n<=sizeLine):Builtin.List.listTooLong n=false:=by
 unfold Builtin.List.listTooLong
 exact decide_eq_false (by omega)
end
section
variable {X:Cx}
def zjN:V->List V->Hp->VK->Prop:=fun x vs H Q=>∃l xs y,x=.ref l/\vs=[y]/\H l=some (.lst xs)/\xs.length < sizeLine/\Q .non (upd H l (.lst (xs++[y])))
theorem za8:MtM X "list.append" zjN:=by
 intro pins s σ H x vs v us Q I rx rv h
 obtain ⟨l,xs,y,rfl,rfl,hH,hz,q⟩:=h
 cases rx
 obtain ⟨u,rfl,ru⟩:=rv.one
 obtain ⟨z,its,n,r,hl,e⟩:=I.lstM hH
 refine call_meets F.slot_list_append ⟨_,e,rfl⟩ F.entry_list_append (F.args_list_append_2 _ _) (PySem.list_append l its.toArray n u (by rw [List.size_toArray]; omega)) ⟨e,?_⟩
 refine ⟨.non,_,I.lset (its':=its++[u]) hH e (by simp) (r.append (.cons ru .nil)) ?_,rfl,q⟩
 rw [List.length_append,List.length_singleton]
 omega
def rRep:R2:=fun x y H Q=>∃l k xs,x=.ref l/\y=.int k/\H l=some (.lst xs)/\-(2 ^ 63)<=k/\k < 2 ^ 63/\xs.length * k.toNat<=sizeLine /\
 ∀p,H p=none->Q (.ref p) (upd H p (.lst (List.replicate k.toNat xs).flatten))
theorem zoi {α:Type} (xs:List α) (k:Nat):(List.replicate k xs).flatten.length=k * xs.length:=by
 induction k with
 | zero=>simp
 | succ k ih=>rw [List.replicate_succ,List.flatten_cons,List.length_append,ih,Nat.succ_mul,Nat.add_comm]
theorem zqb:OpR X (binaryOp .Mult) rRep:=by
 intro pins s σ H x y v u Q I rx ry h
 obtain ⟨l,k,xs,rfl,rfl,hH,h1,h2,hz,q⟩:=h
 cases rx
 obtain ⟨t,rfl⟩:=ry
 obtain ⟨z,its,n,r,hl,e⟩:=I.lstM hH
 have hlen:its.toArray.size * k.toNat<=sizeLine:=by rw [List.size_toArray,<-hl]; exact hz
 have hcap:¬ its.toArray.size * k.toNat > (2 ^ 63 - 1) / 8:=by
  have:(sizeLine:Nat)<=(2 ^ 63 - 1) / 8:=by decide
  omega
 have hfit:¬ (! Builtin.List.listFitsIndex k)=true:=by
  rw [fitsIndex_both h1 h2]
  exact Bool.false_ne_true
 have hlong:¬ Builtin.List.listTooLong (its.toArray.size * k.toNat)=true:=by
  rw [zlU hlen]
  exact Bool.false_ne_true
 have hnew:List.foldl (fun x1 x2=>x1++x2) #[] (List.replicate (if its.toArray.isEmpty=true then 0 else k.toNat) its.toArray)=(List.replicate k.toNat its).flatten.toArray:=by
  have f0:∀m:Nat,List.foldl (fun x1 x2=>x1++x2) #[] (List.replicate m its.toArray)=(List.replicate m its).flatten.toArray:=fun m=>by
   have:=zhh its m []
   rw [List.nil_append] at this
   exact this
  rw [f0]
  cases its with
  | nil=>simp
  | cons a r'=>rw [if_neg (by simp)]
 refine wpAny_binaryOp_repeat_ref (T := "list") (U := "int") (by decide) ⟨_,e,rfl⟩ (fun s'=>typeIs_int s' k t) noFill_list_mul F.fills_int_mul F.slot_int_rmul repeat_list F.slot_int_index.lookup
  (call_meets F.slot_int_rmul (typeIs_int s k t) F.entry_int_rmul (F.args_int_rmul_2 _ _) (int___rmul___int_list k t l its.toArray n)
   ⟨e,rfl,⟨_,e,rfl⟩,call_meets F.slot_list_mul ⟨_,e,rfl⟩ F.entry_list_mul (F.args_list_mul_2 _ _) (AutoListH.list___mul___list_int_3 l its.toArray n k t hfit hcap hlong) ⟨e,?_⟩⟩)
 rw [hnew]
 exact ⟨.ref _,_,I.lnew (t':=s.toks) (r.rep k.toNat) (by rw [zoi,Nat.mul_comm]; exact hz),rfl,q _ I.fresh⟩
end
section
variable {κ:Type} [DecidableEq κ]
def valV (kvs:List (κ × V)) (k:κ):Option V:=(kvs.find? fun kv=>decide (kv.1=k)).map (·.2)
def putK (kvs:List (κ × V)) (k:κ) (v:V):List (κ × V):=
 if (kvs.any fun kv=>decide (kv.1=k))=true then kvs.map (fun kv=>if kv.1=k then (kv.1,v) else kv) else kvs++[(k,v)]
theorem zeW {p:κ × V} {r:List (κ × V)} {k:κ} (e:p.1=k):valV (p::r) k=some p.2:=by simp [valV,List.find?_cons,e]
theorem zd2 {p:κ × V} {r:List (κ × V)} {k:κ} (e:¬ p.1=k):valV (p::r) k=valV r k:=by simp [valV,List.find?_cons,e]
theorem zh8 (k:κ):∀kvs:List (κ × V),(kvs.any fun kv=>decide (kv.1=k))=(valV kvs k).isSome
 | []=>rfl
 | p::r=>by
  rw [List.any_cons]
  by_cases e:p.1=k
  ·simp only [zeW e,decide_eq_true e,Bool.true_or,Option.isSome_some]
  ·rw [zd2 e,decide_eq_false e,Bool.false_or]; exact zh8 k r
theorem zfn (kvs:List (κ × V)) (k:κ) (v:V):(putK kvs k v).length<=kvs.length + 1:=by
 unfold putK
 split
 ·rw [List.length_map]; omega
 ·rw [List.length_append,List.length_cons,List.length_nil]; omega
theorem RelO.isSome_eq {o:Option V} {u:Option Value} (r:RelO o u):o.isSome=u.isSome:=by
 cases o with
 | none=>cases u with
  | none=>rfl
  | some _=>exact (show False from r).elim
 | some _=>cases u with
  | none=>exact (show False from r).elim
  | some _=>rfl
theorem RelO.getD {o:Option V} {u:Option Value} {d:V} {d':Value} (r:RelO o u) (rd:RelV d d'):RelV (o.getD d) (u.getD d'):=by
 cases o with
 | none=>cases u with
  | none=>exact rd
  | some _=>exact (show False from r).elim
 | some _=>cases u with
  | none=>exact (show False from r).elim
  | some _=>exact r
theorem KV.val {kvs:List (κ × V)} {vs:List (κ × Value)} (r:KV kvs vs) (k:κ):RelO (valV kvs k) (valueAt vs k):=by
 unfold KV at r
 induction r with
 | nil=>exact True.intro
 | @cons p q ps qs h t ih=>
  obtain ⟨h1,h2⟩:=h
  by_cases e:p.1=k
  ·have e':q.1=k:=h1.symm.trans e
   have b:valueAt (q::qs) k=some q.2:=by simp [valueAt,List.find?_cons,e']
   rw [zeW e,b]; exact h2
  ·have e':¬ q.1=k:=fun z=>e (h1.trans z)
   have b:valueAt (q::qs) k=valueAt qs k:=by simp [valueAt,List.find?_cons,e']
   rw [zd2 e,b]; exact ih
theorem KV.any {kvs:List (κ × V)} {vs:List (κ × Value)} (r:KV kvs vs) (k:κ):(kvs.any fun kv=>decide (kv.1=k))=vs.any fun kv=>decide (kv.1=k):=by
 unfold KV at r
 induction r with
 | nil=>rfl
 | cons h t ih=>rw [List.any_cons,List.any_cons,ih,h.1]
theorem KV.repl {kvs:List (κ × V)} {vs:List (κ × Value)} (r:KV kvs vs) (k:κ) {y:V} {u:Value} (ry:RelV y u) :
  KV (kvs.map fun kv=>if kv.1=k then (kv.1,y) else kv) (vs.map fun kv=>if kv.1=k then (kv.1,u) else kv):=by
 unfold KV at r ⊢
 induction r with
 | nil=>exact .nil
 | @cons p q ps qs h t ih=>
  rw [List.map_cons,List.map_cons]
  refine .cons ?_ ih
  obtain ⟨h1,h2⟩:=h
  by_cases e:p.1=k
  ·rw [if_pos e,if_pos (h1.symm.trans e)]; exact ⟨h1,ry⟩
  ·rw [if_neg e,if_neg (fun z=>e (h1.trans z))]; exact ⟨h1,h2⟩
theorem KV.put {kvs:List (κ × V)} {vs:List (κ × Value)} (r:KV kvs vs) (k:κ) {y:V} {u:Value} (ry:RelV y u):KV (putK kvs k y) (stored vs k u):=by
 unfold putK stored
 rw [r.any k]
 by_cases e:(vs.any fun kv=>decide (kv.1=k))=true
 ·rw [if_pos e,if_pos e]; exact r.repl k ry
 ·rw [if_neg e,if_neg e]; exact Paired.snoc r ⟨rfl,ry⟩
theorem KV.length {kvs:List (κ × V)} {vs:List (κ × Value)} (r:KV kvs vs):kvs.length=vs.length:=Paired.length r
end
theorem zkx {P:Program} {w:World} {k:Key} {u:Value} (r:RelV (kV k) u):(zbB P w).is k u=true:=by
 cases k with
 | inl i=>obtain ⟨t,e⟩:=(show ∃t,u=Value.int i t from r); subst e; exact zhR P w i t
 | inr x=>obtain ⟨t,e⟩:=(show ∃t,u=Value.str x t from r); subst e; exact zhQ P w x t
theorem zha {P:Program} {w:World}:∀{ks:List Key} {us:List Value},Vals (ks.map kV) us->ItemsAre (zbB P w) ks us
 | [],_,r=>by rw [List.map_nil] at r; cases r; exact .nil
 | k::ks,_,r=>by
  rw [List.map_cons] at r
  cases r with
  | cons h t=>exact .cons (zkx h) (zha t)
abbrev KT (H:Hp):List (List Key × V)->List (List Key × Addr × Value)->Prop:=Paired fun p q=>p.1=q.1/\H q.2.1=some (.tup (p.1.map kV))/\RelV p.2 q.2.2
theorem KT.val {H:Hp} {kvs:List (List Key × V)} {xs:List (List Key × Addr × Value)} (r:KT H kvs xs) (k:List Key):RelO (valV kvs k) ((atKey xs k).map (·.2)):=by
 induction r with
 | nil=>exact True.intro
 | @cons p q ps qs h t ih=>
  obtain ⟨h1,_,h2⟩:=h
  by_cases e:p.1=k
  ·have e':q.1=k:=h1.symm.trans e
   have b:atKey (q::qs) k=some q.2:=by simp [atKey,List.find?_cons,e']
   rw [zeW e,b]; exact h2
  ·have e':¬ q.1=k:=fun z=>e (h1.trans z)
   have b:atKey (q::qs) k=atKey qs k:=by simp [atKey,List.find?_cons,e']
   rw [zd2 e,b]; exact ih
theorem KT.repl {H:Hp} {kvs:List (List Key × V)} {xs:List (List Key × Addr × Value)} (r:KT H kvs xs) (k:List Key) {y:V} {u:Value} (ry:RelV y u) :
  KT H (kvs.map fun kv=>if kv.1=k then (kv.1,y) else kv) (xs.map (putAt k u)):=by
 induction r with
 | nil=>exact .nil
 | @cons p q ps qs h t ih=>
  rw [List.map_cons,List.map_cons]
  refine .cons ?_ ih
  obtain ⟨h1,h2,h3⟩:=h
  unfold putAt
  by_cases e:p.1=k
  ·rw [if_pos e,if_pos (h1.symm.trans e)]; exact ⟨h1,h2,ry⟩
  ·rw [if_neg e,if_neg (fun z=>e (h1.trans z))]; exact ⟨h1,h2,h3⟩
theorem KT.put {H:Hp} {kvs:List (List Key × V)} {xs:List (List Key × Addr × Value)} (r:KT H kvs xs) (k:List Key) {b:Addr} {y:V} {u:Value} (hb:H b=some (.tup (k.map kV))) (ry:RelV y u) :
  KT H (putK kvs k y) (storedH xs k b u):=by
 have e:(kvs.any fun kv=>decide (kv.1=k))=(atKey xs k).isSome:=by
  rw [zh8,(r.val k).isSome_eq,Option.isSome_map]
 unfold putK storedH
 rw [e]
 by_cases q:(atKey xs k).isSome=true
 ·rw [if_pos q,if_pos q]; exact r.repl k ry
 ·rw [if_neg q,if_neg q]; exact Paired.snoc r ⟨rfl,hb,ry⟩
theorem KT.keeps {H H':Hp} {kvs:List (List Key × V)} {xs:List (List Key × Addr × Value)} (r:KT H kvs xs) (ht:∀b ys,H b=some (.tup ys)->H' b=some (.tup ys)):KT H' kvs xs:=
 Paired.mapP r fun _ _ z=>⟨z.1,ht _ _ z.2.1,z.2.2⟩
section
variable {P:Program} {w:World} {H:Hp} {h:Heap} {a:Addr}
theorem zpE {u:HO} (ok:HOk P w H h) (e:Rd H a u):zbg P w H h a u:=e.ok ok
theorem zi9 {kvs:List (Key × V)} (ok:HOk P w H h) (e:Rd H a (.dK kvs)):kvs.length<=sizeLine/\(a == sysModules)=false/\∃vs,KV kvs vs/\h.DictOf (zbB P w) a vs:=
 show zbg P w H h a (.dK kvs) from zpE ok e
theorem zsk {kvs:List (Key × V)} (ok:HOk P w H h) (e:H a=some (.dK kvs)):kvs.length<=sizeLine/\(a == sysModules)=false/\∃vs,KV kvs vs/\h.DictOf (zbB P w) a vs:=zi9 ok (.inl e)
theorem zg8 {ks:List Key} (ok:HOk P w H h) (e:H a=some (.tup (ks.map kV))):(tupleKind (zbB P w)).is h ks a:=by
 obtain ⟨_,its,r,⟨o,h1,h2,n,h3⟩,_⟩:=(show zbg P w H h a (.tup (ks.map kV)) from ok a _ e)
 exact ⟨o,its.toArray,n,h1,h2,h3,by simpa using zha r⟩
theorem zkP {kvs:List (List Key × V)} (ok:HOk P w H h) (e:Rd H a (.dT kvs)):kvs.length<=sizeLine/\(a == sysModules)=false /\
  ∃xs,KT H kvs xs/\h.DictOfH (tupleKind (zbB P w)) a xs:=by
 obtain ⟨z,y,xs,r,o,es,ep,h1,h2,h3,h4,h5⟩:=(show zbg P w H h a (.dT kvs) from zpE ok e)
 refine ⟨z,y,xs,r,o,es,ep,h1,h2,h3,h4,fun x hx=>?_,h5⟩
 have all:∀{l:List (List Key × V)} {m:List (List Key × Addr × Value)},KT H l m->∀x∈m,(tupleKind (zbB P w)).is h x.1 x.2.1:=by
  intro l m q
  induction q with
  | nil=>intro x hx; exact nomatch hx
  | @cons p q ps qs hq t ih=>
   intro x hx
   rcases List.mem_cons.mp hx with e | hx
   ·subst e
    exact zg8 ok (by rw [<-hq.1]; exact hq.2.1)
   ·exact ih x hx
 exact all r x hx
theorem zsj {kvs:List (List Key × V)} (ok:HOk P w H h) (e:H a=some (.dT kvs)):kvs.length<=sizeLine/\(a == sysModules)=false /\
  ∃xs,KT H kvs xs/\h.DictOfH (tupleKind (zbB P w)) a xs:=zkP ok (.inl e)
end
def DGet (H:Hp) (a:Addr) (y:V) (r:Option V):Prop:=
 (∃kvs k,Rd H a (.dK kvs)/\y=kV k/\r=valV kvs k)\/∃kvs k b,Rd H a (.dT kvs)/\y=.ref b/\H b=some (.tup (k.map kV))/\r=valV kvs k
def DPut (H:Hp) (a:Addr) (y v:V) (H':Hp):Prop:=
 (∃kvs k,H a=some (.dK kvs)/\y=kV k/\kvs.length < sizeLine/\H'=upd H a (.dK (putK kvs k v))) \/
 ∃kvs k b,H a=some (.dT kvs)/\y=.ref b/\H b=some (.tup (k.map kV))/\kvs.length < sizeLine/\H'=upd H a (.dT (putK kvs k v))
theorem DGet.k {H:Hp} {a:Addr} {kvs:List (Key × V)} {k:Key} (e:H a=some (.dK kvs)):DGet H a (kV k) (valV kvs k):=.inl ⟨kvs,k,.inl e,rfl,rfl⟩
theorem DGet.t {H:Hp} {a b:Addr} {kvs:List (List Key × V)} {k:List Key} (e:H a=some (.dT kvs)) (eb:H b=some (.tup (k.map kV))):DGet H a (.ref b) (valV kvs k):=.inr ⟨kvs,k,b,.inl e,rfl,eb,rfl⟩
theorem DPut.k {H:Hp} {a:Addr} {kvs:List (Key × V)} {k:Key} {v:V} (e:H a=some (.dK kvs)) (hl:kvs.length < sizeLine):DPut H a (kV k) v (upd H a (.dK (putK kvs k v))):=.inl ⟨kvs,k,e,rfl,hl,rfl⟩
theorem DPut.t {H:Hp} {a b:Addr} {kvs:List (List Key × V)} {k:List Key} {v:V} (e:H a=some (.dT kvs)) (eb:H b=some (.tup (k.map kV))) (hl:kvs.length < sizeLine) :
  DPut H a (.ref b) v (upd H a (.dT (putK kvs k v))):=.inr ⟨kvs,k,b,e,rfl,eb,hl,rfl⟩
section
variable {X:Cx} {pins:List (Addr × Obj)} {σ:St} {H:Hp} {s:Shared} {a:Addr} {y v:V} {u r:Value} {o:Option V} {A:Around} {E:Value->Shared->Prop}
theorem Inv.big (I:Inv X pins σ H s):sysModules < s.heap.objs.size:=by
 have h:mainGlobals < s.heap.objs.size:=(I.mod.glob.keeps I.bk).lt
 exact Nat.lt_trans (by decide) h
theorem zkW {Q:Value->Shared->Prop} (hu:A.units + 1 < cLine) (I:Inv X pins σ H s) (g:DGet H a y (some v)) (ry:RelV y u) (h:∀w' s',Inv X pins σ H s'->RelV v w'->Q w' s') :
  wpAny (model X.prog X.w) A (getItem (.ref a) u) Q E s:=by
 rcases g with ⟨kvs,k,e,ey,l⟩ | ⟨kvs,k,b,e,ey,eb,l⟩
 ·subst ey
  obtain ⟨z,hd,vs,rel,dd⟩:=zi9 I.hok e
  obtain ⟨w',hw,rw'⟩:=RelO.some_of (v:=v) (o:=valueAt vs k) (by rw [l]; exact rel.val k)
  exact wpAny_getItem_of (zkx ry) dd.mapOf hw (h w' _ (I.tok _) rw')
 ·subst ey
  cases (show u=Value.ref b from ry)
  obtain ⟨z,hd,xs,rel,dd⟩:=zkP I.hok e
  obtain ⟨w',hw,rw'⟩:=RelO.some_of (v:=v) (o:=(atKey xs k).map (·.2)) (by rw [l]; exact rel.val k)
  obtain ⟨p,hp,hp2⟩:=Option.map_eq_some_iff.mp hw
  refine wpAny_getItem_heap (tupleKind_room_in1 hu) (zg8 I.hok eb) dd hp ?_
  rw [hp2]
  exact h w' _ (I.tok _) rw'
theorem d_in {Q:Value->Shared->Prop} (hu:A.units + 1 < cLine) (I:Inv X pins σ H s) (g:DGet H a y o) (ry:RelV y u) (h:∀s',Inv X pins σ H s'->Q (.bool o.isSome) s') :
  wpAny (model X.prog X.w) A (compareOp .In u (.ref a)) Q E s:=by
 rcases g with ⟨kvs,k,e,ey,l⟩ | ⟨kvs,k,b,e,ey,eb,l⟩
 ·subst ey
  obtain ⟨z,hd,vs,rel,dd⟩:=zi9 I.hok e
  refine wpAny_in_of (zkx ry) hd dd.mapOf ?_
  rw [<-(rel.val k).isSome_eq,<-l]
  exact h _ (I.tok _)
 ·subst ey
  cases (show u=Value.ref b from ry)
  obtain ⟨z,hd,xs,rel,dd⟩:=zkP I.hok e
  refine wpAny_in_heap (tupleKind_room_in1 hu) (zg8 I.hok eb) hd dd ?_
  have q:=(rel.val k).isSome_eq
  rw [Option.isSome_map] at q
  rw [<-q,<-l]
  exact h _ (I.tok _)
theorem zoF {Q:Value->Shared->Prop} (hu:A.units + 1 < cLine) (I:Inv X pins σ H s) (g:DGet H a y o) (ry:RelV y u) (h:∀s',Inv X pins σ H s'->Q (.bool (! o.isSome)) s') :
  wpAny (model X.prog X.w) A (compareOp .NotIn u (.ref a)) Q E s:=by
 rcases g with ⟨kvs,k,e,ey,l⟩ | ⟨kvs,k,b,e,ey,eb,l⟩
 ·subst ey
  obtain ⟨z,hd,vs,rel,dd⟩:=zi9 I.hok e
  refine wpAny_notIn_of (zkx ry) hd dd.mapOf ?_
  rw [<-(rel.val k).isSome_eq,<-l]
  exact h _ (I.tok _)
 ·subst ey
  cases (show u=Value.ref b from ry)
  obtain ⟨z,hd,xs,rel,dd⟩:=zkP I.hok e
  refine wpAny_notIn_heap (tupleKind_room_in1 hu) (zg8 I.hok eb) hd dd ?_
  have q:=(rel.val k).isSome_eq
  rw [Option.isSome_map] at q
  rw [<-q,<-l]
  exact h _ (I.tok _)
theorem zkU {h':Heap} {t':Nat} {ob:HO} (I:Inv X pins σ H s) (mu:Mut (H a)) (hs:Heap.SameBut a s.heap h') (he:∃q,h'.get? a=some q) (new:zbg X.prog X.w (upd H a ob) h' a ob) :
  Inv X pins σ (upd H a ob) { s with heap:=h',toks:=t' }:=
 I.write (x:=a) (e:=a) mu (.inl rfl) (fun b q hb z=>(hs.2 b hb).trans z) he new
theorem zrd {P:Program} {w:World} {H':Hp} {h':Heap} {kvs:List (Key × V)} {vs:List (Key × Value)} (z:kvs.length<=sizeLine) (hd:(a == sysModules)=false) (rel:KV kvs vs) (dd:h'.DictOf (zbB P w) a vs) :
  zbg P w H' h' a (.dK kvs):=⟨z,hd,vs,rel,dd⟩
theorem zkV {H':Hp} {Q:Unit->Shared->Prop} (hu:A.units + 1 < cLine) (I:Inv X pins σ H s) (g:DPut H a y v H') (ry:RelV y u) (rv:RelV v r) (h:∀s',Inv X pins σ H' s'->Q () s') :
  wpAny (model X.prog X.w) A (setItem (.ref a) u r) Q E s:=by
 rcases g with ⟨kvs,k,e,ey,l,eH⟩ | ⟨kvs,k,b,e,ey,eb,l,eH⟩
 ·subst ey eH
  obtain ⟨z,hd,vs,rel,dd⟩:=zsk I.hok e
  have hz:vs.length<=sizeLine:=by rw [<-rel.length]; exact z
  have hl:(putK kvs k v).length<=sizeLine:=by have:=zfn kvs k v; omega
  refine wpAny_setItem_pairs (hsz:=hz) (zkx ry) dd fun h' dd' hs=>h _ ?_
  have he:∃q,h'.get? a=some q:=let ⟨q,_,_,hq,_⟩:=dd'; ⟨q,hq⟩
  exact zkU I (by rw [e]; exact True.intro) hs he (zrd hl hd (rel.put k rv) dd')
 ·subst ey eH
  cases (show u=Value.ref b from ry)
  obtain ⟨z,hd,xs,rel,dd⟩:=zsj I.hok e
  have hz:xs.length<=sizeLine:=by rw [<-Paired.length rel]; exact z
  have hl:(putK kvs k v).length<=sizeLine:=by have:=zfn kvs k v; omega
  refine wpAny_setItem_heap (hsz:=hz) (tupleKind_room_in1 hu) (zg8 I.hok eb) dd fun h' dd' hs=>h _ ?_
  obtain ⟨q,es,ep,hq,h2,h3,h4,_,h5⟩:=dd'
  refine zkU I (by rw [e]; exact True.intro) hs ⟨q,hq⟩ ⟨hl,hd,_,(rel.put k eb rv).keeps fun c ys ec=>?_,q,es,ep,hq,h2,h3,h4,h5⟩
  rw [zal (zr2 ec e (fun z=>nomatch z))]
  exact ec
end
section
variable {X:Cx} {pins:List (Addr × Obj)} {σ:St} {H:Hp} {s:Shared} {a:Addr} {kvs:List (Key × V)} {k:Key} {u:Value} {A:Around} {E:Value->Shared->Prop}
theorem zsl {Q:Value->Shared->Prop} (I:Inv X pins σ H s) (e:Rd H a (.dK kvs)) (h:∀t s',Inv X pins σ H s'->Q (.int kvs.length t) s'):wpAny (model X.prog X.w) A (call (.builtin "len") [.ref a]) Q E s:=by
 obtain ⟨z,hd,vs,rel,dd⟩:=zi9 I.hok e
 refine call_len_dict hd dd (by rw [<-rel.length]; rw [sizeLine_eq] at z; omega) ?_
 rw [<-rel.length]
 exact h _ _ (I.tok _)
end
theorem zh0 {X:Cx} {pins:List (Addr × Obj)} {σ:St} {H:Hp} {s:Shared} {a:Addr} {y:V} {o:Option V} (I:Inv X pins σ H s) (g:DGet H a y o):s.TypeIs (.ref a) "dict" := by
 rcases g with ⟨kvs,k,e,_,_⟩ | ⟨kvs,k,b,e,_,_,_⟩
 ·obtain ⟨_,_,vs,_,dd⟩:=zi9 I.hok e
  exact dd.typeIs
 ·obtain ⟨_,_,xs,_,dd⟩:=zkP I.hok e
  exact dd.typeIs
theorem zmg {P:Program} {w:World} {H:Hp} (h:Heap) (hb:sysModules < h.objs.size):zbg P w H (h.push { cls:=.type "dict",data:=.dict #[] }) h.objs.size (.dK []):=
 ⟨Nat.zero_le _,beq_eq_false_iff_ne.mpr (Ne.symm (Nat.ne_of_lt hb)),[],.nil,Heap.DictOf.new h⟩
def zpd:TE:=fun _ H Q=>∀p,H p=none->Q (.ref p) (upd H p (.dK []))
section
variable {X:Cx} {pos:Pos}
theorem zlN:PE X (.Dict [] [] pos) zpd:=fun pins s σ H Q I h=>
 wpAny_Dict_empty ⟨.ref s.heap.objs.size,_,I.laid (a:=s.heap.objs.size) (o:=.dK []) (t':=s.toks) (fun _ _ q=>Heap.get?_push_of_some _ q) (Nat.le_refl _) (zmg s.heap I.big),rfl,h _ (I.hok.fresh (Nat.le_refl _))⟩
end
structure M1 (X:Cx) (o:Expr) (m:Str) (apos:Pos) (e:Expr) (cpos:Pos):Prop where
 base:attributeBase o m X.env (eval o X.env)=eval o X.env
 few:((backTo cpos (starEach [e] X.env)).all (fun x=>! x.1) && (backToKw cpos (keywordEach [] X.env)).all (fun x=>x.1.isSome)
  && decide (([e]:List Expr).length + ([]:List Keyword).length + (if ([]:List Keyword).isEmpty then 0 else 1) < 30))=true
 line:(apos.endLine == cpos.line)=true
 trees:backTo cpos (starEach [e] X.env)=[(false,eval e X.env)]
structure M2 (X:Cx) (o:Expr) (m:Str) (apos:Pos) (e f:Expr) (cpos:Pos):Prop where
 base:attributeBase o m X.env (eval o X.env)=eval o X.env
 few:((backTo cpos (starEach [e,f] X.env)).all (fun x=>! x.1) && (backToKw cpos (keywordEach [] X.env)).all (fun x=>x.1.isSome)
  && decide (([e,f]:List Expr).length + ([]:List Keyword).length + (if ([]:List Keyword).isEmpty then 0 else 1) < 30))=true
 line:(apos.endLine == cpos.line)=true
 trees:backTo cpos (starEach [e,f] X.env)=[(false,eval e X.env),(false,eval f X.env)]
end L2
namespace Att
open PySem PySem.W PySem.Calls PyProof.Rows
theorem zfr {P:Params} {h:Heap}:∀(ns:List Int) (vs:List Value),WellAll P h vs (ns.map WData.int)->IntsAre vs ns:=by
 intro ns
 induction ns with
 | nil=>
  intro vs w
  rw [List.map_nil] at w
  cases w
  exact .nil
 | cons n ns ih=>
  intro vs w
  rw [List.map_cons] at w
  cases w with
  | cons a b=>
   cases a
   exact .cons _ _ (ih _ b)
theorem zjt {l:OpenLaw} {n:Nat} (hn:l.most=some n) {P:Params} {h:Heap} {args:List WData} {vals:List Value}
  (hpre:l.row.toRowW.claim.pre args=true) (hwl:WellAll P h vals args) :
  ∃a vs ns,vals=[Value.ref a]/\args=[WData.list (ns.map WData.int)]/\h.get? a=some { cls:=.type "list",data:=.seq vs.toArray }/\IntsAre vs ns/\ns.length<=n:=by
 have hsh:WShape.hasAll [] args [.list .int]=true:=(pre_splitW hpre).1
 have hc:l.pre.holds [] { args:=args }=true:=(pre_splitW hpre).2
 obtain ⟨d,r,rfl,h1,h2⟩:=hasAllW_cons hsh
 obtain rfl:=hasAllW_nil h2
 obtain ⟨xs,rfl,h3⟩:=hasW_list h1
 obtain ⟨ns,rfl⟩:=items_int h3
 have hlen:ns.length<=n:=by
  unfold OpenLaw.pre at hc
  have h4:(WTm.not (.lt (.lit (.int (n:Int))) (.len (.arg 0)))).holds [] { args:=[.list (ns.map .int)] }=true:=by
   have h4:=(holds_andW hc).1
   rw [hn] at h4
   exact h4
  have h5:=condW_of h4 (w_not (w_lt w_lit (w_len_list (w_arg rfl))))
  rw [List.length_map] at h5
  refine Nat.le_of_not_lt fun q=>?_
  have q':(n:Int) < ((ns.length:Nat):Int):=by omega
  first
   | (rw [decide_eq_true q'] at h5; exact absurd h5 (by decide))
   | (simp at h5; omega)
 cases hwl with
 | cons w1 w2=>
  cases w2
  cases w1 with
  | list ho hall=>exact ⟨_,_,ns,rfl,rfl,ho,zfr ns _ hall,hlen⟩
theorem zjR (l:OpenLaw) (args:List WData):l.row.toRowW.claim.post args (.bool true) args=true:=
 postW_of (r:=l.row.toRowW) (X:=(true == true))
  (show WShape.has [] (.bool true) .bool=true by first | rfl | decide | simp [WShape.has,WShape.arms,WShape.armsAll])
  (show (WTm.eq .res (.lit (.bool true))).value [] { args:=args,res:=some (.bool true),after:=args }=some (.bool (true == true)) from w_eq_bool (w_res rfl) w_lit) rfl
theorem attach_call {l:OpenLaw} {n:Nat} {q:Program} {loose:List Str} {XP:(Str->Option Value)->Heap->Prop} {YP:World->Heap->Prop} {d:DefRec}
  (hn:l.most=some n) (hdf:d.params.defaults=[])
  (call:∀(w:World) (s₀ s₁:Shared) (mg mb:Str->Option Value) (fa:Addr) (o:Obj) (pm cd doc:Value) (a:Addr) (vs:List Value) (ns:List Int),
   Ground q loose [] XP w s₀ mg mb s₁.heap->YP w s₁.heap ->
   s₁.heap.get? fa=some o->o.data=.func (docDef d.name d.params d.body d.scope pm cd doc)->s₁.heap.CodeRec cd d.name->mg d.name=some (.ref fa) ->
   s₁.heap.get? a=some { cls:=.type "list",data:=.seq vs.toArray }->IntsAre vs ns->ns.length<=n->s₁.gens = #[] ->
   codeAny (model l.prog w) callerA (.call (.ref fa) ⟨[.ref a],[]⟩) (fun r s'=>r=.ok (.ret (.bool true))/\OldK s₁.heap s'.heap/\s'.os=s₁.os/\AllBare s'.gens) s₁) :
  WalkO q loose XP YP l.row.toRowW d [] (fun f vs=>PySem.call f vs):=by
 intro w s₀ s₁ mg mb G Y fa o pm cd doc dV kV ho hd hcd hD hmg hg args vals as hpre hlay hrd hwl hlo
 obtain rfl:dV=.none:=Dflts.none hD hdf
 obtain rfl:kV=.none:=Dflts.noKw hD
 obtain ⟨a,vs,ns,rfl,rfl,hobj,hints,hlen⟩:=zjt hn hpre hwl
 refine enter_call (codeAny_mono (call w s₀ s₁ mg mb fa o pm cd doc a vs ns G Y ho (fd_plain hd) hcd hmg hobj hints hlen hg) fun r s' hq=>?_)
 obtain ⟨rfl,h2,h3,h4⟩:=hq
 exact ⟨.inl ⟨.bool true,.bool true,[],rfl,fun _=>rfl,.bool true,zjR l _,fun _=>⟨List.Pairwise.nil,fun _ hm=>(nomatch hm)⟩⟩,h2,h3,h4⟩
end Att
namespace L2
open PySem PySem.Spec PyProof.Rows
theorem ze9:∀{vs:List Value} {ns:List Int},IntsAre vs ns->Vals (ns.map V.int) vs
 | _,_,.nil=>.nil
 | _,_,.cons n t h=>.cons ⟨t,rfl⟩ (ze9 h)
def Only (H:Hp):Prop:=∀b,H b=none\/∃o xs,H b=some (.frz o (.lst xs))
theorem zl2 {P:Program} {w:World} {K:W.Frag} {mg mb:Str->Option Value} {CX:CXT} {k:Nat} {fa a:Addr} {fd:FuncData} {x:Str} {sp:Sp} {s₁:Shared} {vs:List Value} {ns:List Int}
  (KX:K.In s₁.heap) (hns:s₁.heap.Ns mainGlobals mg) (hb:s₁.heap.Ns builtinsNs mb) (hbb:∀x:Str,x≠"__name__"->mb x=bootBuiltins x) (hlim:s₁.heap.NoLimit) (hg:s₁.gens = #[])
  (ha:s₁.heap.get? a=some { cls:=.type "list",data:=.seq vs.toArray }) (hi:IntsAre vs ns) (hl:ns.length<=sizeLine) (hr:Room k callerA)
  (F:∀base:Heap,K.In base->base.Ns mainGlobals mg->FnOk P w K mg base CX k fa fd [x] sp) (hbind:∀(s:Shared) (u:Value),BindsTo s fd ⟨[u],[]⟩ [(x,u)])
  (hsp:∀H:Hp,Only H->SqL K H a (ns.map V.int)->sp [.ref a] H (fun v _=>v=.bl true) fun _ _ _=>False)
  (hCX:∀H e s',CX [] H s₁ (fun _ _ _=>False) e s'->False) :
  codeAny (model P w) callerA (.call (.ref fa) ⟨[.ref a],[]⟩) (fun r s'=>r=.ok (.ret (.bool true))/\OldK s₁.heap s'.heap/\s'.os=s₁.os/\AllBare s'.gens) s₁:=by
 have rv:=ze9 hi
 have lenV:=hi.length
 have core:∀H:Hp,Only H->SqL K H a (ns.map V.int)->HOk P w H s₁.heap->(∀b,H b≠none->b=a)->(H a≠none->K.lookup a=none) ->
   codeAny (model P w) callerA (.call (.ref fa) ⟨[.ref a],[]⟩) (fun r s'=>r=.ok (.ret (.bool true))/\OldK s₁.heap s'.heap/\s'.os=s₁.os/\AllBare s'.gens) s₁:=by
  intro H hO hS hok hA hK
  have base_of:∀{b:Addr} {o:Obj},s₁.heap.get? b=some o->H b=none->(hidT s₁.heap H).get? b=some o:=fun e n=>zl8 e n
  have noA:∀{b:Addr} {o:Obj} {es:Array DictEntry} {ep:Nat},s₁.heap.get? b=some o->o.data=.dict es ep->H b=none:=fun {b o es ep} e d=>by
   cases q:H b with
   | none=>rfl
   | some u=>
    have e':b=a:=hA b (by rw [q]; simp)
    subst e'
    rw [ha] at e; cases e
    have d':Data.seq vs.toArray _=Data.dict es ep:=d
    cases d'
  have nsK:∀{b:Addr} {m:Str->Option Value},s₁.heap.Ns b m->(hidT s₁.heap H).Ns b m:=fun {b m} ⟨o,es,ep,e,d,r⟩=>⟨o,es,ep,base_of e (noA e d),d,r⟩
  have hKb:K.In (hidT s₁.heap H):=fun b o e=>base_of (KX b o e) (by
   cases q:H b with
   | none=>rfl
   | some u=>
    have e':b=a:=hA b (by rw [q]; simp)
    subst e'
    rw [hK (by rw [q]; simp)] at e; cases e)
  have hM:Mod K mg (hidT s₁.heap H):=⟨hKb,nsK hns,⟨mb,nsK hb,hbb⟩,let ⟨mc,h1,h2⟩:=hlim; ⟨mc,nsK h1,h2⟩⟩
  have e0:Env0 P w K mg (hidT s₁.heap H) callerA [] s₁ H:=⟨rfl,hM,fun b o e=>zn8 e,Nat.le_of_eq (zkK _ _),trivial,fun b hb=>absurd (show b∈([]:List Addr) from hb) (by simp),hok,.of_eq hg⟩
  refine codeAny_mono ((F _ hKb (nsK hns)).run callerA [] s₁ H ⟨[.ref a],[]⟩ [.ref a] [.ref a] _ _ hr e0 (hbind s₁ (.ref a)) (.cons rfl .nil) (hsp H hO hS)) fun r s' h=>?_
  cases r with
  | error e=>exact (hCX H e s' h).elim
  | ok fl=>
   cases fl with
   | next=>exact False.elim h
   | brk=>exact False.elim h
   | cont=>exact False.elim h
   | ret u=>
    obtain ⟨v,H',os,bare,un,hok',r',q⟩:=h
    have q':v=.bl true:=q
    subst q'
    obtain rfl:u=Value.bool true:=r'
    refine ⟨rfl,OldK.of_keep fun b o e=>?_,os,bare⟩
    cases q:H b with
    | none=>exact un.keep b o e q (by intro z; exact absurd (show b∈([]:List Addr) from z) (by simp)) (by simp)
    | some u=>
     rcases hO b with z | ⟨ob,xs,z⟩
     ·rw [q] at z; cases z
     ·have z2:=un.frzs b ob _ z
      obtain ⟨e1,_⟩:=hok b _ z
      obtain ⟨e2,_⟩:=hok' b _ z2
      rw [e] at e1; cases e1
      exact e2
 cases hk:K.lookup a with
 | some o=>
  have e:=KX a o hk
  rw [ha] at e
  cases e
  refine core (fun _=>none) (fun _=>.inl rfl) (.inr ⟨_,vs.toArray,_,hk,rfl,rfl,rfl,by rw [List.size_toArray,lenV]; exact hl,by simpa using rv⟩) (fun b u z=>by have z':(none:Option HO)=some u:=z; cases z') (fun b z=>absurd rfl z) fun z=>absurd rfl z
 | none=>
  refine core (fun b=>if b=a then some (.frz { cls:=.type "list",data:=.seq vs.toArray } (.lst (ns.map V.int))) else none) (fun b=>?_) (.inl (.inr ⟨{ cls:=.type "list",data:=.seq vs.toArray },if_pos rfl⟩)) (fun b u z=>?_) (fun b z=>?_) fun _=>hk
  ·by_cases hb:b=a
   ·exact .inr ⟨_,_,if_pos hb⟩
   ·exact .inl (if_neg hb)
  ·by_cases hb:b=a
   ·have z':=(if_pos hb).symm.trans z
    cases z'
    subst hb
    exact ⟨ha,by rw [List.length_map]; exact hl,vs,_,rv,ha⟩
   ·have z':=(if_neg hb).symm.trans z
    cases z'
  ·by_cases hb:b=a
   ·exact hb
   ·exact absurd (if_neg hb) z
abbrev KOf {K:W.Frag} {h:Heap} (_:K.In h):W.Frag:=K
theorem walk_of {l:W.OpenLaw} {n k:Nat} {q:Program} {loose:List Str} {XP:(Str->Option Value)->Heap->Prop} {YP:World->Heap->Prop} {d:DefRec} {K:Params->W.Frag} {CX:World->CXT} {sp:World->Sp} {x:Str}
  (hn:l.most=some n) (hn2:n<=sizeLine) (hdf:d.params.defaults=[]) (hr:Room k callerA)
  (hY:∀(w:World) (h:Heap),YP w h->(K w.params).In h)
  (F:∀(w:World) (mg:Str->Option Value) (fa:Addr) (h:Heap),(K w.params).In h->h.Ns mainGlobals mg->mg d.name=some (.ref fa) ->
   ∃fd:FuncData,(∀(s:Shared) (u:Value),BindsTo s fd ⟨[u],[]⟩ [(x,u)]) /\
    ∀base:Heap,(K w.params).In base->base.Ns mainGlobals mg->FnOk l.prog w (K w.params) mg base (CX w) k fa fd [x] (sp w))
  (hsp:∀(w:World) (H:Hp) (a:Addr) (ns:List Int),ns.length<=n->Only H->SqL (K w.params) H a (ns.map V.int)->sp w [.ref a] H (fun v _=>v=.bl true) fun _ _ _=>False)
  (hCX:∀(w:World) (H:Hp) (s:Shared) (e:Value) (s':Shared),CX w [] H s (fun _ _ _=>False) e s'->False) :
  W.WalkO q loose XP YP l.row.toRowW d [] (fun f vs=>PySem.call f vs):=by
 refine Att.attach_call hn hdf fun w s₀ s₁ mg mb fa o pm cd doc a vs ns G Y ho hd hcd hmg hobj hints hlen hg=>?_
 have KX:=hY w _ Y
 obtain ⟨fd,hb,hF⟩:=F w mg fa _ KX G.T.g hmg
 exact zl2 KX G.T.g G.T.b G.T.builtins G.T.nolimit hg hobj hints (Nat.le_trans hlen hn2) hr hF hb (fun H hO hS=>hsp w H a ns hlen hO hS) fun H e s'=>hCX w H s₁ e s'
def defArgs (s:Stmt):Arguments:=match s with
 | .FunctionDef _ a _ _ _ _ _ _ _ _=>a
 | _=>{ posonlyargs:=[],args:=[],vararg:=none,kwonlyargs:=[],kw_defaults:=[],kwarg:=none,defaults:=[] }
def defBody (s:Stmt):List Stmt:=match s with
 | .FunctionDef _ _ b _ _ _ _ _ _ _=>b
 | _=>[]
def defScope (s:Stmt):Scope:=match s with
 | .FunctionDef _ _ _ _ _ _ sc _ _ _=>sc
 | _=>{ kind:=.function,names:=[],isGenerator:=false,isCoroutine:=false }
abbrev CX0:CXT:=fun _ _ _ _ _ _=>False
abbrev E0:XK:=fun _ _ _=>False
theorem zp9 {X:Cx}:zhs CX0 X E0:=fun _ _ _ _ _ _ _ h=>h.elim
structure Fun (K:W.Frag) (x qual:Str) (st:Stmt) (f:Addr) (fd:FuncData):Prop where
 ex:∃(oc:Value) (od:Option Addr) (kV doc pm:Value) (an:Option Addr) (cdv ct:Value) (osl:Array (Option Value)),
  fd=W.fnOf x qual (defArgs st) (defBody st) (defScope st) .none kV doc pm an cdv ct/\K.lookup f=some ⟨oc,od,.func fd,osl⟩/\W.codeIn K cdv qual=true
 kp:W.keepIn K (.ref f)=true
section
variable {P:Program} {w:World} {K:W.Frag} {mg:Str->Option Value} {base:Heap}
theorem Fun.ok {x qual:Str} {st:Stmt} {f:Addr} {fd:FuncData} {N ps:List Str} {k:Nat} {sp:Sp} (F:Fun K x qual st f fd) (S:FnScope N ps (defScope st)) (len:∀vs H Q E,sp vs H Q E->vs.length=ps.length)
  (hbody:∀(cdv:Value) (A:Around) (outer:List Env) (s:Shared) (H:Hp) (vs:List V) (Q:VK) (E:XK),Room k (A.deeper (envOfC qual (defScope st) s.heap.objs.size f cdv))->sp vs H Q E ->
   ∃t,PSs (cxOf CX0 P w K mg base N qual (defScope st) f cdv A outer s H E).nox (defBody st) t/\t { nx:=fun _ H'=>Q .non H',rt:=Q } (start N vs) H):FnOk P w K mg base CX0 (k + 1) f fd ps sp:=by
 obtain ⟨oc,od,kV,doc,pm,an,cdv,ct,osl,rfl,lk,hcd⟩:=F.ex
 refine zq6 lk hcd S len fun A outer s H vs Q E hr hsp=>?_
 obtain ⟨t,h,q⟩:=hbody cdv A outer s H vs Q E hr hsp
 exact ⟨t,h.nox,q⟩
theorem Fun.binds {x qual:Str} {st:Stmt} {f:Addr} {fd:FuncData} {ps:List Str} (F:Fun K x qual st f fd)
  (h:∀(kV doc pm:Value) (an:Option Addr) (cdv ct:Value) (us:List Value),us.length=ps.length->bindArgs (W.fnOf x qual (defArgs st) (defBody st) (defScope st) .none kV doc pm an cdv ct) ⟨us,[]⟩=pure (ps.zip us)):zdB K fd ps []:=by
 obtain ⟨oc,od,kV,doc,pm,an,cdv,ct,osl,rfl,lk,hcd⟩:=F.ex
 exact .all (h kV doc pm an cdv ct)
theorem fun_mk {x qual:Str} {st:Stmt} {f:Addr} {oc:Value} {od an:Option Addr} {osl:Array (Option Value)} {kV doc pm cdv ct:Value} (l:K.lookup f=some ⟨oc,od,.func (W.fnOf x qual (defArgs st) (defBody st) (defScope st) .none kV doc pm an cdv ct),osl⟩)
  (c:W.codeIn K cdv qual=true) (k:W.keepIn K (.ref f)=true):Fun K x qual st f (W.fnOf x qual (defArgs st) (defBody st) (defScope st) .none kV doc pm an cdv ct):=⟨⟨oc,od,kV,doc,pm,an,cdv,ct,osl,rfl,l,c⟩,k⟩
end
theorem zbI {A:Around} {k:Nat} (hr:Room k A):A.units + 1 < cLine:=Nat.lt_of_le_of_lt (Nat.add_le_add_left (by decide:1<=64) _) hr.units
section
variable {X:Cx}
theorem zk4:zds X (.builtin "len") (fun xs H Q=>∃a kvs,xs=[V.ref a]/\Rd H a (.dK kvs)/\Q (.int kvs.length) H):=by
 intro pins s σ H xs us Q I r h
 obtain ⟨a,kvs,rfl,ha,q⟩:=h
 obtain ⟨u,rfl,ru⟩:=zeR r
 cases ru
 exact zsl I ha fun t s' I'=>⟨.int kvs.length,H,I',⟨t,rfl⟩,q⟩
end
def Same (H H':Hp):Prop:=∀b o,H b=some o->H' b=some o
theorem Same.refl (H:Hp):Same H H:=fun _ _ h=>h
theorem Same.trans {H H1 H2:Hp} (a:Same H H1) (b:Same H1 H2):Same H H2:=fun c o h=>b c o (a c o h)
theorem Same.free {H H':Hp} (e:Same H H') {l:Addr} (h:H' l=Option.none):H l=Option.none:=by
 cases q:H l with
 | none=>rfl
 | some o=>
  rw [e l o q] at h
  cases h
theorem Same.seq {K:W.Frag} {H H':Hp} {a:Addr} {xs:List V} (e:Same H H') (h:SqL K H a xs):SqL K H' a xs:=by
 rcases h with (h | ⟨o,h⟩) | h
 ·exact .inl (.inl (e _ _ h))
 ·exact .inl (.inr ⟨o,e _ _ h⟩)
 ·exact .inr h
end L2
end
namespace DL
open PySem
section
open PySem.SeqAt
open PySem.AutoSeq1 (wpAny_loadPart')
open PySem.MeetsSeq PySem.MeetsSeq2 PySem.MeetsSeq3
end
end DL
namespace DL
open PySem PyProof.Rows
end DL
namespace DL
open PySem PyProof.Rows PySem.W
def zmZ {α:Type} (c:Nat->Nat->Bool):KasT α->α
 | .ret a=>a
 | .ask i j k=>zmZ c (k (c i j))
inductive Asks (n:Nat) {α:Type} (P:α->Prop):KasT α->Prop where
 | ret {a:α}:P a->Asks n P (.ret a)
 | ask {i j:Nat} {k:Bool->KasT α}:i < n->j < n->(∀b,Asks n P (k b))->Asks n P (.ask i j k)
theorem Asks.bind {n:Nat} {α β:Type} {P:α->Prop} {P':β->Prop} {t:KasT α} {f:α->KasT β} (h:Asks n P t) (hf:∀a,P a->Asks n P' (f a)):Asks n P' (t.bind f):=by
 induction h with
 | ret h=>exact hf _ h
 | ask h1 h2 _ ih=>exact .ask h1 h2 ih
theorem Asks.run {n:Nat} {α:Type} {P:α->Prop} {t:KasT α} (h:Asks n P t) (c:Nat->Nat->Bool):P (zmZ c t):=by
 induction h with
 | ret h=>exact h
 | ask _ _ _ ih=>exact ih _
theorem Asks.mono {n:Nat} {α:Type} {P P':α->Prop} {t:KasT α} (h:Asks n P t) (hp:∀a,P a->P' a):Asks n P' t:=by
 induction h with
 | ret h=>exact .ret (hp _ h)
 | ask h1 h2 _ ih=>exact .ask h1 h2 ih
section
variable {n:Nat} (hn:0 < n)
include hn
end
end DL
namespace DL
open PySem PyProof.Rows PySem.W PySem.Calls
end DL
namespace DL
open PySem PySem.Spec PyProof.Rows L2 PySem.W PySem.Calls
structure Lft (fr:List Addr) (a:Addr) (oe:Obj) (vs:Array Value) (T:Option Addr) (v:Value) (h h':Heap):Prop where
 keep:∀b o,b∉fr->b≠a->T≠some b->h.get? b=some o->h'.get? b=some o
 slot:∀b o,h.get? b=some o->(∀vs:Array Value,o.data≠Data.fields vs)->∃sl,h'.get? b=some { cls:=o.cls,dict:=o.dict,data:=o.data,slots:=sl }
 obj:∃tb ot ts,(h.get? tb=none\/T=some tb)/\tb≠a/\h'.get? a=some { cls:=oe.cls,dict:=oe.dict,data:=.fields (vs.setIfInBounds 1 (.ref tb)),slots:=oe.slots }/\h'.get? tb=some ot/\ot.data=.fields ts/\ts[3]? = some v
def zmv (a:Addr) (h:Heap):Prop:=∃oe vs tb,h.get? a=some oe/\oe.data=Data.fields vs/\vs[1]? = some (Value.ref tb)
abbrev flV (fl:Option Addr):Value:=fl.elim Value.none fun f=>rawInt f
section
variable {M:Model} {A:Around} {E:Value->Shared->Prop} {s:Shared} {B:Heap} {env:Env} {outer:List Env} {L a:Addr} {oe:Obj} {vs:Array Value} {Q:Unit->Shared->Prop}
theorem zkg {head:Value} {had:Bool} {fl:Option Addr} (hf:A.frames=some (env::outer)) (ff:s.heap.FunFrames B (env::outer)) (hL:env.frame=some L) (e0:s.heap.get? a=some oe) (hd:oe.data=.fields vs) (hs:1 < vs.size)
  (q:∀h',Lft (frs (env::outer)) a oe vs none (flV fl) s.heap h'->Q () { heap:=h',gens:=s.gens,drawn:=s.drawn,toks:=s.toks,os:=s.os }) :
  wpAny M A (do
   let f <-PySem.frameOf env
   let pl <-entryPlaceOf L had
   let b <-EntryCells.newEntry head f Value.none (rawInt ↑L) Value.none pl
   setField (Value.ref a) 1 b) (fun _ s'=>zmv a s'.heap/\wpAny M A (setFlight (Value.ref a) fl) Q E s') E s:=by
 have haf:a∉frs (env::outer):=fun z=>by
  obtain ⟨_,o,e1,nf⟩:=ff.mem z
  rw [e0] at e1; cases e1
  exact nf vs hd
 refine wpAny_bind (wpAny_frameOf_fun hf ff hL fun h2 so=>?_)
 refine wpAny_bind (wpAny_entryPlaceOf fun pl hpl=>?_)
 obtain ⟨so1,so2,so3⟩:=so
 have e2:h2.get? a=some oe:=(so2 a haf).trans e0
 have key:∀fs:List Value,fs.length<=100->fs[3]? = some (rawInt ↑L)->wpAny M A ((do
   let b <-newFields "traceback" fs
   setField (Value.ref a) 1 b)) (fun _ s'=>zmv a s'.heap/\wpAny M A (setFlight (Value.ref a) fl) Q E s') E { heap:=h2,gens:=s.gens,drawn:=s.drawn,toks:=s.toks,os:=s.os }:=fun fs hlen h3=>by
  refine wpAny_bind ?_
  unfold newFields
  have hsz:sizeOk (Data.fields fs.toArray):=by
   show fs.toArray.size<=_
   have:fs.toArray.size<=100:=by simpa using hlen
   exact Nat.le_trans this (by decide)
  refine wpAny_newObj_type (T := "traceback") (data:=.fields fs.toArray) (dict:=none) ?_ hsz
  have hat:a < h2.objs.size:=Heap.lt_size e2
  have htb:h2.get? h2.objs.size=none:=by
   cases z:h2.get? h2.objs.size with
   | none=>rfl
   | some o=>exact absurd (Heap.lt_size z) (Nat.lt_irrefl _)
  have hne:h2.objs.size≠a:=fun z=>by rw [z] at hat; exact absurd hat (Nat.lt_irrefl _)
  generalize htbn:h2.objs.size=tb at *
  have e3:(h2.push { cls:=.type "traceback",dict:=none,data:=.fields fs.toArray }).get? a=some oe:=Heap.get?_push_of_some _ e2
  have e3t:(h2.push { cls:=.type "traceback",dict:=none,data:=.fields fs.toArray }).get? tb=some { cls:=.type "traceback",dict:=none,data:=.fields fs.toArray }:=by rw [<-htbn]; exact Heap.get?_push_size _ rfl
  generalize hh3:h2.push { cls:=.type "traceback",dict:=none,data:=.fields fs.toArray }=h3' at *
  refine wpAny_setField (a:=a) (o:=oe) (vs:=vs) (i:=1) e3 hd hs ?_
  have mf:∀g,Obj.mapFields g oe={ cls:=oe.cls,dict:=oe.dict,data:=.fields (g vs),slots:=oe.slots }:=fun g=>by
   obtain ⟨c,d,da,sl⟩:=oe
   have:da=.fields vs:=hd
   subst this
   rfl
  have e4:=Heap.get?_update_self (h:=h3') (Obj.mapFields fun v=>v.setIfInBounds 1 (.ref tb)) e3 (by rw [mf]; rfl)
  rw [mf] at e4
  have e4t:(h3'.update a (Obj.mapFields fun v=>v.setIfInBounds 1 (.ref tb))).get? tb=some { cls:=.type "traceback",dict:=none,data:=.fields fs.toArray }:=by rw [Heap.get?_update_ne _ _ _ _ hne]; exact e3t
  have e4o:∀b,b≠a->(h3'.update a (Obj.mapFields fun v=>v.setIfInBounds 1 (.ref tb))).get? b=h3'.get? b:=fun b hb=>Heap.get?_update_ne _ _ _ _ hb
  generalize h3'.update a (Obj.mapFields fun v=>v.setIfInBounds 1 (.ref tb))=h4 at *
  refine ⟨⟨_,_,tb,e4,rfl,Array.getElem?_setIfInBounds_self_of_lt hs⟩,?_⟩
  unfold setFlight
  refine wpAny_bind (wpAny_field (o:={ cls:=oe.cls,dict:=oe.dict,data:=.fields (vs.setIfInBounds 1 (.ref tb)),slots:=oe.slots }) (x:=.ref tb) e4 rfl ?_ ?_)
  ·rw [Array.getElem?_setIfInBounds_self_of_lt hs]
  ·rw [if_pos (by rfl)]
   refine wpAny_setField (a:=tb) (vs:=fs.toArray) (i:=3) e4t rfl ?_ ?_
   ·have:=(List.getElem?_eq_some_iff.mp h3).1
    simpa using this
   have e5:=Heap.get?_update_self (h:=h4) (Obj.mapFields fun v=>v.setIfInBounds 3 (flV fl)) e4t rfl
   have e5o:∀b,b≠tb->(h4.update tb (Obj.mapFields fun v=>v.setIfInBounds 3 (flV fl))).get? b=h4.get? b:=fun b hb=>Heap.get?_update_ne _ _ _ _ hb
   refine q (h4.update tb (Obj.mapFields fun v=>v.setIfInBounds 3 (flV fl))) ⟨fun b o nf ne _ e=>?_,fun b o e nf=>?_,tb,_,_,.inl ?_,hne,?_,e5,rfl,?_⟩
   ·have hb2:h2.get? b=some o:=(so2 b nf).trans e
    have hbt:b≠tb:=fun z=>by rw [z,htb] at hb2; cases hb2
    rw [e5o b hbt,e4o b ne,<-hh3]
    exact Heap.get?_push_of_some _ hb2
   ·obtain ⟨sl,e1⟩:=so3 b o e
    have hbt:b≠tb:=fun z=>by rw [z,htb] at e1; cases e1
    have hba:b≠a:=fun z=>by rw [z,e0] at e; cases e; exact nf vs hd
    refine ⟨sl,?_⟩
    rw [e5o b hbt,e4o b hba,<-hh3]
    exact Heap.get?_push_of_some _ e1
   ·cases z:s.heap.get? tb with
    | none=>rfl
    | some o=>
     obtain ⟨sl,e1⟩:=so3 tb o z
     rw [htb] at e1; cases e1
   ·rw [e5o a (Ne.symm hne)]; exact e4
   ·show (fs.toArray.setIfInBounds 3 _)[3]? = _
    rw [Array.getElem?_setIfInBounds_self_of_lt (by have:=(List.getElem?_eq_some_iff.mp h3).1; simpa using this)]
 unfold EntryCells.newEntry
 refine key _ ?_ rfl
 rcases hpl with rfl | ⟨x1,x2,x3,x4,x5,x6,_,rfl⟩ <;> simp
theorem zef {T fl:Option Addr} (hf:A.frames=some (env::outer)) (ff:s.heap.FunFrames B (env::outer)) (hL:env.frame=some L) (e0:s.heap.get? a=some oe) (hd:oe.data=.fields vs)
  (h1:(vs[1]? = some Value.none/\T=none)\/(∃T' oT ts,T=some T'/\vs[1]? = some (.ref T')/\T'≠a/\s.heap.get? T'=some oT/\oT.data=.fields ts/\ts[3]? = some Value.none)\/∃T' oT ts,T=some T'/\vs[1]? = some (.ref T')/\T'≠a/\s.heap.get? T'=some oT/\oT.data=.fields ts/\ts[3]? = some (rawInt ↑L))
  (q:∀h',Lft (frs (env::outer)) a oe vs T (flV fl) s.heap h'->Q () { heap:=h',gens:=s.gens,drawn:=s.drawn,toks:=s.toks,os:=s.os }):wpAny M A (noteFrame (.ref a) env) (fun _ s'=>zmv a s'.heap/\wpAny M A (setFlight (.ref a) fl) Q E s') E s:=by
 have hs:1 < vs.size:=by
  rcases h1 with ⟨z,_⟩ | ⟨_,_,_,_,z,_⟩ | ⟨_,_,_,_,z,_⟩ <;> exact (Array.getElem?_eq_some_iff.mp z).1
 unfold noteFrame
 simp only [hL]
 rcases h1 with ⟨z,rfl⟩ | ⟨T',oT,ts,rfl,z,hTa,eT,hT,h3⟩ | ⟨T',oT,ts,rfl,z,hTa,eT,hT,h3⟩
 ·refine wpAny_bind (wpAny_field e0 hd z ?_)
  rw [if_neg (by decide)]
  exact zkg hf ff hL e0 hd hs q
 ·refine wpAny_bind (wpAny_field e0 hd z ?_)
  rw [if_pos (by rfl)]
  refine wpAny_bind (wpAny_field eT hT h3 ?_)
  rw [if_neg (by intro z; cases z)]
  have h3s:3 < ts.size:=(Array.getElem?_eq_some_iff.mp h3).1
  refine wpAny_bind (wpAny_setField eT hT h3s ?_)
  have eo:∀b,b≠T'->(s.heap.update T' (Obj.mapFields fun v=>v.setIfInBounds 3 Value.none)).get? b=s.heap.get? b:=fun b hb=>Heap.get?_update_ne _ _ _ _ hb
  refine zkg (s:={ heap:=s.heap.update T' (Obj.mapFields fun v=>v.setIfInBounds 3 Value.none),gens:=s.gens,drawn:=s.drawn,toks:=s.toks,os:=s.os }) hf (ff.of_keeps fun b o e nf=>?_) hL ((eo a (Ne.symm hTa)).trans e0) hd hs fun h' l=>q h' ⟨fun b o nf ne hT' e=>?_,fun b o e nf=>?_,?_⟩
  ·have hb:b≠T':=fun z=>by rw [z,eT] at e; cases e; exact nf ts hT
   exact ⟨o,(eo b hb).trans e,rfl⟩
  ·have hb:b≠T':=fun z=>hT' (by rw [z])
   exact l.keep b o nf ne (by simp) ((eo b hb).trans e)
  ·have hb:b≠T':=fun z=>by rw [z,eT] at e; cases e; exact nf ts hT
   exact l.slot b o ((eo b hb).trans e) nf
  ·obtain ⟨tb,ot,ts',t1,t2⟩:=l.obj
   refine ⟨tb,ot,ts',.inl ?_,t2⟩
   have t1:=t1.resolve_right (by simp)
   by_cases hb:tb=T'
   ·have mf:Obj.mapFields (fun v=>v.setIfInBounds 3 Value.none) oT={ cls:=oT.cls,dict:=oT.dict,data:=.fields (ts.setIfInBounds 3 Value.none),slots:=oT.slots }:=by
     obtain ⟨c,d,da,sl⟩:=oT
     have:da=.fields ts:=hT
     subst this
     rfl
    have:=Heap.get?_update_self (h:=s.heap) (Obj.mapFields fun v=>v.setIfInBounds 3 Value.none) eT (by rw [mf]; rfl)
    rw [hb] at t1
    exact absurd (t1.symm.trans this) (by simp)
   ·exact (eo tb hb).symm.trans t1
 ·refine wpAny_bind (wpAny_field e0 hd z ?_)
  rw [if_pos (by rfl)]
  refine wpAny_bind (wpAny_field eT hT h3 ?_)
  rw [if_pos (by simp)]
  refine wpAny_pure ⟨⟨oe,vs,T',e0,hd,z⟩,?_⟩
  have h3s:3 < ts.size:=(Array.getElem?_eq_some_iff.mp h3).1
  have mf:∀g,Obj.mapFields g oT={ cls:=oT.cls,dict:=oT.dict,data:=.fields (g ts),slots:=oT.slots }:=fun g=>by
   obtain ⟨c,d,da,sl⟩:=oT
   have:da=.fields ts:=hT
   subst this
   rfl
  unfold setFlight
  refine wpAny_bind (wpAny_field e0 hd z ?_)
  rw [if_pos (by rfl)]
  refine wpAny_setField eT hT h3s ?_
  have eo:∀b,b≠T'->(s.heap.update T' (Obj.mapFields fun v=>v.setIfInBounds 3 (flV fl))).get? b=s.heap.get? b:=fun b hb=>Heap.get?_update_ne _ _ _ _ hb
  have es:=Heap.get?_update_self (h:=s.heap) (Obj.mapFields fun v=>v.setIfInBounds 3 (flV fl)) eT (by rw [mf]; rfl)
  rw [mf] at es
  refine q _ ⟨fun b o nf ne hT' e=>(eo b fun z=>hT' (by rw [z])).trans e,fun b o e nf=>?_,T',_,_,.inr rfl,hTa,?_,es,rfl,?_⟩
  ·have hb:b≠T':=fun z=>by rw [z,eT] at e; cases e; exact nf ts hT
   exact ⟨o.slots,(eo b hb).trans e⟩
  ·rw [eo a (Ne.symm hTa),e0]
   obtain ⟨c,d,da,sl⟩:=oe
   have:da=.fields vs:=hd
   subst this
   have:vs.setIfInBounds 1 (.ref T')=vs:=by
    apply Array.ext_getElem?
    intro i
    rw [Array.getElem?_setIfInBounds]
    split
    ·rename_i h; subst h
     exact z.symm
    ·rfl
   rw [this]
  ·show (ts.setIfInBounds 3 _)[3]? = _
   rw [Array.getElem?_setIfInBounds_self_of_lt h3s]
theorem zfo {T:Option Addr} (hf:A.frames=some (env::outer)) (ff:s.heap.FunFrames B (env::outer)) (hL:env.frame=some L) (e0:s.heap.get? a=some oe) (hd:oe.data=.fields vs)
  (h1:(vs[1]? = some Value.none/\T=none)\/(∃T' oT ts,T=some T'/\vs[1]? = some (.ref T')/\T'≠a/\s.heap.get? T'=some oT/\oT.data=.fields ts/\ts[3]? = some Value.none)\/∃T' oT ts,T=some T'/\vs[1]? = some (.ref T')/\T'≠a/\s.heap.get? T'=some oT/\oT.data=.fields ts/\ts[3]? = some (rawInt ↑L))
  (q:∀h',Lft (frs (env::outer)) a oe vs T Value.none s.heap h'->Q () { heap:=h',gens:=s.gens,drawn:=s.drawn,toks:=s.toks,os:=s.os }):wpAny M A (leaving env (.ref a)) Q E s:=
 wpAny_bind (wpAny_mono (zef (fl:=none) hf ff hL e0 hd h1 q) (fun _ _ z=>z.2) fun _ _ z=>z)
end
def zsn (h B:Heap) (a:Addr) (cls:Value) (od L:Option Addr):Prop:=
 ∃oe vs,h.get? a=some oe/\oe.cls=cls/\(∀dx,od=some dx->oe.dict=some dx)/\oe.data=.fields vs /\
  (vs[1]? = some Value.none\/(∃T oT ts,vs[1]? = some (.ref T)/\B.get? T=none/\T≠a/\h.get? T=some oT/\oT.data=.fields ts/\ts[3]? = some Value.none) \/
   ∃l T oT ts,L=some l/\vs[1]? = some (.ref T)/\B.get? T=none/\T≠a/\h.get? T=some oT/\oT.data=.fields ts/\ts[3]? = some (rawInt ↑l))
def topF (st:List Env):Option Addr:=st.head?.bind (·.frame)
structure Fly (P:Program) (w:World) (st:List Env) (H:Hp) (s:Shared) (H':Hp) (a:Addr) (cls:Value) (od:Option Addr) (s':Shared):Prop where
 os:s'.os=s.os
 bare:AllBare s'.gens
 un:Un (frs st) [] H H' s.heap s'.heap
 hok:HOk P w H' s'.heap
 ex:∃B:Heap,B.StaysIn s'.heap/\B.get? a=none/\s'.heap.FunFrames B st/\zsn s'.heap B a cls od (topF st) /\
  (∀b o,s.heap.get? b=some o->b∉frs st->∃o',B.get? b=some o')/\∀b u,H' b=some u->∃o',B.get? b=some o'
section
variable {X:Cx} {pins:List (Addr × Obj)} {σ:L2.St} {H H':Hp} {s s':Shared} {a:Addr} {cls:Value} {od:Option Addr} {M:Model} {E:Value->Shared->Prop}
theorem Fly.inv (F:Fly X.prog X.w X.stack H s H' a cls od s') (I:Inv X pins σ H s):Inv X pins σ H' s':=I.call' F.os F.un F.hok F.bare fun b z=>absurd z (by simp)
theorem Fly.leaves {Q:Unit->Shared->Prop} (F:Fly X.prog X.w X.stack H s H' a cls od s') (I:Inv X pins σ H s) (hst:X.stack=X.env::X.outer) (hfr:X.env.frame=some X.env.locals) (hex:X.ex=[])
  (q:∀s'',Fly X.prog X.w X.outer X.H₀ X.s₀ H' a cls od s''->Q () s''):wpAny M X.A (leaving X.env (.ref a)) Q E s':=by
 have I':=F.inv I
 obtain ⟨B,hB,hBa,hff,⟨oe,vs,r1,r2,r3,r4,r5⟩,hd,hH⟩:=F.ex
 have hfs:frs X.stack=X.env.locals::frs X.outer:=by rw [hst]; unfold frs; rw [List.filterMap_cons,hfr]
 have inB:∀b o,X.s₀.heap.get? b=some o->b∉frs X.outer->∃o',B.get? b=some o':=fun b o e n=>by
  obtain ⟨o1,e1⟩:=I.base.there b o e (by rw [hex]; simp)
  refine hd b o1 e1 ?_
  rw [hfs]
  intro z
  rcases List.mem_cons.mp z with z | z
  ·have h1:=Heap.lt_size e
   have h2:=I.ok.above
   rw [z] at h1
   exact absurd h1 (Nat.not_lt.mpr h2)
  ·exact n z
 rw [hst] at hff
 have fin:∀(T:Option Addr) h',(∀b,T=some b->B.get? b=none)->Lft (frs (X.env::X.outer)) a oe vs T Value.none s'.heap h'->Q () { heap:=h',gens:=s'.gens,drawn:=s'.drawn,toks:=s'.toks,os:=s'.os }:=fun T h' hT l=>by
  have same:∀b o,(∃o',B.get? b=some o')->s'.heap.get? b=some o->h'.get? b=some o:=fun b o ⟨o',e⟩ h=>by
   refine l.keep b o (fun z=>?_) (fun z=>by rw [z,hBa] at e; cases e) (fun z=>by rw [hT b z] at e; cases e) h
   rw [(hff.mem z).1] at e
   cases e
  have hso:=(show X.env.scope.kind≠ScopeKind.module/\(∃L o,X.env.frame=some L/\B.get? L=none/\s'.heap.get? L=some o/\∀(vs:Array Value),o.data≠Data.fields vs)/\s'.heap.FunFrames B X.outer by unfold Heap.FunFrames at hff; exact hff).2.2
  have ho:h'.FunFrames B X.outer:=hso.of_keeps fun b o e nf=>by
   obtain ⟨sl,e1⟩:=l.slot b o e nf
   exact ⟨_,e1,rfl⟩
  obtain ⟨tb,ot,ts,t1,t2,t3,t4,t5,t6⟩:=l.obj
  have htB:B.get? tb=none:=by
   rcases t1 with t1 | t1
   ·cases z:B.get? tb with
    | none=>rfl
    | some o=>have:=hB tb o z; rw [t1] at this; cases this
   ·exact hT tb t1
  have hs1:1 < vs.size:=by
   rcases r5 with z | ⟨_,_,_,z,_⟩ | ⟨_,_,_,_,_,z,_⟩ <;> exact (Array.getElem?_eq_some_iff.mp z).1
  refine q _ ⟨I'.os,F.bare,⟨fun b o e n f z=>?_,fun b o e n f z=>?_,fun b o e n z=>?_,fun b o e z=>?_,I'.base.tups,I'.base.frzs,I'.base.tbls⟩,fun b u e=>?_,B,fun b o e=>same b o ⟨o,e⟩ (hB b o e),hBa,ho,
   ⟨_,_,t3,r2,r3,rfl,.inr (.inl ⟨tb,ot,ts,Array.getElem?_setIfInBounds_self_of_lt hs1,htB,t2,t4,t5,t6⟩)⟩,inB,hH⟩
  ·exact same b o (inB b o e f) (I'.base.keep b o e n f (by rw [hex]; exact z))
  ·obtain ⟨sl,e1⟩:=I'.base.slot b o e n f (by rw [hex]; exact z)
   obtain ⟨_,o2,e2,nf⟩:=hso.mem f
   rw [e1] at e2
   cases e2
   obtain ⟨sl2,e3⟩:=l.slot b _ e1 nf
   exact ⟨sl2,e3⟩
  ·exact I'.base.free b o e n (by rw [hex]; exact z)
  ·obtain ⟨o1,e1⟩:=I'.base.there b o e (by rw [hex]; exact z)
   by_cases f:b∈frs X.outer
   ·obtain ⟨_,o2,e2,nf⟩:=hso.mem f
    obtain ⟨sl,e3⟩:=l.slot b _ e2 nf
    exact ⟨_,e3⟩
   ·exact ⟨o1,same b o1 (inB b o e f) e1⟩
  ·refine (F.hok b u e).stay (fun c v hc e1=>same c v ?_ e1) (fun _ z=>z) fun _ _ z=>z
   rcases hc with hc | hc
   ·rw [hc]; exact hH b u e
   ·exact hH c _ hc
 rcases r5 with z | ⟨T,oT,ts,z1,z2,z3,z4,z5,z6⟩ | ⟨l,T,oT,ts,zl,z1,z2,z3,z4,z5,z6⟩
 ·exact zfo (T:=none) (by rw [I.ok.frames,hst]) hff hfr r1 r4 (.inl ⟨z,rfl⟩) fun h' l=>fin none h' (fun b e=>nomatch e) l
 ·exact zfo (T:=some T) (by rw [I.ok.frames,hst]) hff hfr r1 r4 (.inr (.inl ⟨T,oT,ts,rfl,z1,z3,z4,z5,z6⟩)) fun h' l=>fin (some T) h' (fun b e=>by cases e; exact z2) l
 ·have hl:l=X.env.locals:=by
   unfold topF at zl
   rw [hst] at zl
   exact (Option.some.inj (hfr.symm.trans (show X.env.frame=some l from zl))).symm
  subst hl
  exact zfo (T:=some T) (by rw [I.ok.frames,hst]) hff hfr r1 r4 (.inr (.inr ⟨T,oT,ts,rfl,z1,z3,z4,z5,z6⟩)) fun h' l=>fin (some T) h' (fun b e=>by cases e; exact z2) l
end
def CXR (P:Program) (w:World):CXT:=fun outer H s E e s'=>∃a cls H' od,e=.ref a/\Fly P w outer H s H' a cls od s'/\E cls od H'
theorem zio {P:Program} {w:World} {H:Hp} {h:Heap} {a:Addr} {o:HO} (x:zbg P w H h a o):∃u,h.get? a=some u:=by
 cases o with
 | lst xs=>obtain ⟨_,_,_,_,e⟩:=x; exact ⟨_,e⟩
 | tup xs=>obtain ⟨_,_,_,_,o,e,_⟩:=x; exact ⟨_,e⟩
 | dK kvs=>obtain ⟨_,_,_,_,o,_,_,e,_⟩:=x; exact ⟨_,e⟩
 | dT kvs=>obtain ⟨_,_,_,_,o,_,_,e,_⟩:=x; exact ⟨_,e⟩
 | set S n=>obtain ⟨o,_,_,_,e,_⟩:=x; exact ⟨_,e⟩
 | ins C dx fs=>obtain ⟨_,_,_,e,_⟩:=x; exact ⟨_,e⟩
 | own y=>exact x
 | xd fs=>obtain ⟨_,⟨_,_,_,e,_⟩,_⟩:=x; exact ⟨_,e⟩
 | rng lo hi=>obtain ⟨_,_,_,e⟩:=x; exact ⟨_,e⟩
 | frz ob u=>obtain ⟨e,_⟩:=x; exact ⟨_,e⟩
 | tbl ps=>exact ⟨_,(show h.get? a=some _ from x)⟩
 | met f y=>exact ⟨_,(show h.get? a=some _ from x)⟩
 | ext φ=>exact x.2.1
abbrev vErr:List Value:=[Value.type "ValueError",Value.type "Exception",Value.type "BaseException",Value.type "object"]
theorem zge {h:Heap} {bmB bm:List Value} {v:Value} (t:OwnTail h bmB bm) (hb:bmB.contains v=true):bm.contains v=true:=by
 induction t with
 | base=>exact hb
 | own _ _ _ _ ih=>rw [List.contains_cons,ih,Bool.or_true]
theorem zoC {K:W.Frag} {h:Heap} {C:Addr} {bmB:List Value} {newId:String} (k:K.In h) (e:excIn K C bmB newId=true):∃bm N nm q bs hdct sn sub ab col dd k0 k1 k2 k3 k5 mN,
  h.get? C=some (excClassObj nm q C N bs bm hdct sn sub ab col dd k0 k1 k2 k3 k5 newId)/\h.Ns N mN/\mN (Str.ofString "__init__")=none/\OwnTail h bmB bm:=by
 unfold excIn at e
 split at e
 ·rename_i dict cd sl hk
  split at e
  ·rename_i C' bm k0 k1 k2 k3 n k5 hm hs
   simp only [Bool.and_eq_true,beq_iff_eq,Bool.not_eq_true'] at e
   obtain ⟨⟨⟨⟨⟨rfl,rfl⟩,hd⟩,ht⟩,hn⟩,hi⟩:=e
   have hns:=isNs_of_in k hn
   obtain ⟨nm,bs,mro,ns,q,hdct,sn,sub,ab,col,hdel⟩:=cd
   have e1:mro=Value.ref C'::bm:=hm
   have e2:hdel=false:=hd
   subst e1 e2
   have e3:sl = #[k0,k1,k2,k3,some (Value.builtin n),k5]:=by
    cases sl with
    | mk l=>exact congrArg Array.mk hs
   subst e3
   exact ⟨bm,ns,nm,q,bs,hdct,sn,sub,ab,col,dict,k0,k1,k2,k3,k5,h.nsMap ns,k _ _ hk,Heap.Ns.of_isNs hns,nsMap_none_of_in k hn hi,tail_of_in k ht⟩
  ·cases e
 ·cases e
structure XC (K:W.Frag) (mg:Str->Option Value) (x:Str) (C:Addr):Prop where
 bound:mg x=some (.ref C)
 exc:excIn K C vErr "ValueError.__new__" = true
section
variable {X:Cx} {pins:List (Addr × Obj)} {σ:L2.St} {H:Hp} {s:Shared} {x:Str} {C:Addr} {np cpos pos:Pos} {e₀:Expr} {rest:List Expr} {t:TA}
theorem Fly.made {h':Heap} {e:Addr} {cls:Value} {vs:List Value} (I:Inv X pins σ H s) (m:s.heap.MadeExcOf h' e cls vs):Fly X.prog X.w X.stack H s H e cls none { heap:=h',gens:=s.gens,drawn:=s.drawn,toks:=s.toks,os:=s.os }:=by
 obtain ⟨t,m1,m2,m3⟩:=m.there
 have hst:∀b o,(hideAll s.heap (frs X.stack)).get? b=some o->h'.get? b=some o:=fun b o e=>m.keeps b o (of_hideAll _ e)
 refine ⟨rfl,I.bare,Un.kept m.keeps,I.hok.kept m.keeps,hideAll s.heap (frs X.stack),hst,?_,?_,⟨_,_,m1,rfl,(fun _ e=>nomatch e),rfl,.inl rfl⟩,fun b o e n=>⟨o,hideAll_get _ e n⟩,fun b u e=>?_⟩
 ·cases q:(hideAll s.heap (frs X.stack)).get? e with
  | none=>rfl
  | some o=>have:=of_hideAll _ q; rw [m.new] at this; cases this
 ·have ff:=I.stack
  have key:∀l:List Env,(∀b∈frs l,b∈frs X.stack)->s.heap.FunFrames X.base l->h'.FunFrames (hideAll s.heap (frs X.stack)) l:=by
   intro l
   induction l with
   | nil=>intro _ _; unfold Heap.FunFrames; trivial
   | cons env l ih=>
    intro hs hf
    unfold Heap.FunFrames at hf ⊢
    obtain ⟨f1,⟨L,o,f2,f3,f4,f5⟩,f6⟩:=hf
    refine ⟨f1,⟨L,o,f2,hideAll_none _ (hs L ?_),m.keeps _ _ f4,f5⟩,ih (fun b hb=>hs b ?_) f6⟩
    ·unfold frs; rw [List.filterMap_cons,f2]; exact List.mem_cons_self
    ·unfold frs; rw [List.filterMap_cons,f2]; exact List.mem_cons_of_mem _ hb
  exact key X.stack (fun _ hb=>hb) ff
 ·obtain ⟨o,eo⟩:=zio (I.hok b u e)
  exact ⟨o,hideAll_get _ eo fun z=>by rw [I.stkFree b z] at e; cases e⟩
theorem zlD {Q:Flow->Shared->Prop} (I:Inv X pins σ H s) (hc:X.calm=true) (c:XC X.K X.mg x C) (hg:Gl X x) (ha:PA X (e₀::rest) t)
  (h:t σ H fun vs H1=>vs.length<=sizeLine/\∀s1 a s',Inv X pins σ H1 s1->Fly X.prog X.w X.stack H1 s1 H1 a (.ref C) none s'->X.xe (.ref a) s')
  (hdb:(x == ("__debug__" : Str))=false:=by decide) (he:starEach (e₀::rest) X.env=(false,eval e₀ X.env)::starEach rest X.env:=by rfl) (hpl:(backTo cpos (starEach rest X.env)).any (·.1)=false:=by rfl) :
  wpAny (model X.prog X.w) X.A (exec (.Raise (some (.Call (.Name x np) (e₀::rest) [] cpos)) none pos) X.env) Q X.xe s:=by
 obtain ⟨bm,N,nm,q,bs,hdct,sn,sub,ab,col,dd,k0,k1,k2,k3,k5,mN,c1,c2,c3,c4⟩:=zoC I.ok.mod.kin c.exc
 refine wpAny_Raise_call_subT (nm:=nm) (q:=q) (C:=C) (N:=N) (bs:=bs) (bm:=bm) (hdct:=hdct) (sn:=sn) (sub:=sub) (ab:=ab) (col:=col) (dd:=dd) (k0:=k0) (k1:=k1) (k2:=k2) (k3:=k3) (k5:=k5) (mN:=mN) F.excBase_ValueError (zge c4 (by decide +kernel)) (I.ok.hd hc) ?_ c3 ?_
 ·rw [he]; exact hpl
 refine zdi I hg c.bound ⟨rfl,?_⟩ hdb
 rw [he]
 refine evalArgs_plain ?_
 have hp:=ha cpos pins s σ H _ I h
 rw [he] at hp
 refine thn hp fun us s1 ⟨vs,H1,I1,r,hl,q⟩=>⟨rfl,?_,I1.bk _ _ c1,?_,?_,fun h' e m=>q s1 e _ I1 (Fly.made I1 m)⟩
 ·show us.length<=sizeLine
  rw [<-r.length]; exact hl
 ·exact c2.keeps I1.bk
 ·exact c4.keeps I1.bk
end
end DL
namespace DL
open PySem PySem.Spec PyProof.Rows L2
inductive D where
 | non | bl (b:Bool) | int (i:Int) | str (x:Str)
 | tup (ds:List D) | lst (ds:List D)
 | dic (kvs:List (Key × D))
 | obj (c:Nat) (fs:List (Str × D))
instance:Inhabited D:=⟨.non⟩
inductive Res (α:Type) where
 | ok (a:α) | exc (x:D) | stuck
def Res.bind {α β:Type} (r:Res α) (f:α->Res β):Res β:=match r with
 | .ok a=>f a
 | .exc x=>.exc x
 | .stuck=>.stuck
@[simp] theorem bind_ok {α β:Type} (a:α) (f:α->Res β):(Res.ok a).bind f=f a:=rfl
@[simp] theorem bind_exc {α β:Type} (x:D) (f:α->Res β):(Res.exc x:Res α).bind f=.exc x:=rfl
@[simp] theorem bind_stuck {α β:Type} (f:α->Res β):(Res.stuck:Res α).bind f=.stuck:=rfl
def fin {α:Type} (r:Res α) (q:α->Prop) (x:D->Prop):Prop:=match r with
 | .ok a=>q a
 | .exc e=>x e
 | .stuck=>False
theorem zag {α:Type} {r:Res α} {q q':α->Prop} {x:D->Prop} (h:fin r q x) (hq:∀a,q a->q' a):fin r q' x:=by
 cases r with
 | ok a=>exact hq a h
 | exc e=>exact h
 | stuck=>exact h
theorem zaf {α β:Type} {r:Res α} {f:α->Res β} {q:β->Prop} {x:D->Prop} (h:fin (r.bind f) q x):fin r (fun a=>fin (f a) q x) x:=by
 cases r with
 | ok a=>exact h
 | exc e=>exact h
 | stuck=>exact h
abbrev GH:=Addr->Option D
inductive Scl:V->D->Prop where
 | non:Scl .non .non
 | bl (b:Bool):Scl (.bl b) (.bl b)
 | int (i:Int):Scl (.int i) (.int i)
 | str (x:Str):Scl (.str x) (.str x)
inductive KC (K:W.Frag) (a:Addr):D->Prop where
 | lst {xs:List V} {ds:List D}:SqL K (fun _=>none) a xs->Paired Scl xs ds->KC K a (.lst ds)
 | tup {xs:List V} {ds:List D}:SqT K (fun _=>none) a xs->Paired Scl xs ds->(∃o,K.lookup a=some o/\o.cls=.type "tuple"/\o.dict=none)->KC K a (.tup ds)
inductive RG (K:W.Frag) (G:GH):V->D->Prop where
 | scl {v:V} {d:D}:Scl v d->RG K G v d
 | ref {a:Addr} {d:D}:G a=some d->RG K G (.ref a) d
 | kc {a:Addr} {d:D}:KC K a d->RG K G (.ref a) d
abbrev RGs (K:W.Frag) (G:GH):List V->List D->Prop:=Paired (RG K G)
abbrev RKs (K:W.Frag) (G:GH):List (Key × V)->List (Key × D)->Prop:=Paired fun p q=>p.1=q.1/\RG K G p.2 q.2
abbrev xD (nm:Str) (ds:List (Str × D)):D:=.obj 0 (("__class__",.str nm)::ds)
def XN (K:W.Frag) (nm:Str) (C:Addr):Prop:=∃o cd,K.lookup C=some o/\o.data=Data.cls cd/\cd.name=nm
def XcO (a C:Addr) (od:Option Addr):Heap->Prop:=fun h=>∃oe vs,h.get? a=some oe/\oe.cls=.ref C/\(∀dx,od=some dx->oe.dict=some dx)/\oe.data=.fields vs
def XF (G:GH) (od:Option Addr) (ds:List (Str × D)):Prop:=match od with
 | none=>ds=[]
 | some dx=>G dx=some (.obj 1 ds)
theorem XF.mono {G G':GH} {od:Option Addr} {ds:List (Str × D)} (h:XF G od ds) (ge:∀a d,G a=some d->G' a=some d):XF G' od ds:=by
 cases od with
 | none=>exact h
 | some dx=>exact ge _ _ h
abbrev RFs (K:W.Frag) (G:GH):List (Str × V)->List (Str × D)->Prop:=Paired fun p q=>p.1=q.1/\RG K G p.2 q.2
inductive OB (K:W.Frag) (G:GH) (H:Hp) (a:Addr):D->Prop where
 | lst {xs:List V} {ds:List D}:Rd H a (.lst xs)->RGs K G xs ds->OB K G H a (.lst ds)
 | tup {xs:List V} {ds:List D}:Rd H a (.tup xs)->RGs K G xs ds->OB K G H a (.tup ds)
 | dic {ob:Obj} {ps:List (Key × V)} {kvs:List (Key × D)}:H a=some (.frz ob (.dK ps))->RKs K G ps kvs->OB K G H a (.dic kvs)
 | exc {nm:Str} {C:Addr} {od:Option Addr} {ds:List (Str × D)}:H a=some (.ext (XcO a C od))->XN K nm C->XF G od ds->OB K G H a (xD nm ds)
 | fld {fs:List (Str × V)} {ds:List (Str × D)}:H a=some (.xd fs)->RFs K G fs ds->OB K G H a (.obj 1 ds)
def GOk (K:W.Frag) (G:GH) (H:Hp):Prop:=∀a d,G a=some d->OB K G H a d
inductive OwnO (K:W.Frag) (G:GH) (H:Hp) (a:Addr):D->Prop where
 | lst {xs:List V} {ds:List D}:H a=some (.lst xs)->RGs K G xs ds->OwnO K G H a (.lst ds)
 | dic {ps:List (Key × V)} {kvs:List (Key × D)}:H a=some (.dK ps)->RKs K G ps kvs->OwnO K G H a (.dic kvs)
structure Own (K:W.Frag) (G:GH) (H:Hp) (a:Addr) (d:D):Prop where
 un:G a=none
 ob:OwnO K G H a d
structure Grow (K:W.Frag) (G:GH) (H:Hp) (G':GH) (H':Hp):Prop where
 ok:GOk K G' H'
 he:∀a o,H a=some o->H' a=some o
 ge:∀a d,G a=some d->G' a=some d
 gf:∀a,H a≠none->G' a=G a
section
variable {K:W.Frag} {G G' G1 G2:GH} {H H' H1 H2:Hp} {a p:Addr} {d:D} {v:V}
theorem Rd.mono {u:HO} (h:Rd H a u) (he:∀a o,H a=some o->H' a=some o):Rd H' a u:=by
 rcases h with h | ⟨o,h⟩
 ·exact .inl (he _ _ h)
 ·exact .inr ⟨o,he _ _ h⟩
theorem Rd.isS {u:HO} (h:Rd H a u):H a≠none:=by
 rcases h with h | ⟨o,h⟩ <;> rw [h] <;> simp
theorem RG.mono (h:RG K G v d) (ge:∀a d,G a=some d->G' a=some d):RG K G' v d:=by
 cases h with
 | scl s=>exact .scl s
 | ref e=>exact .ref (ge _ _ e)
 | kc k=>exact .kc k
theorem RGs.mono {xs:List V} {ds:List D} (h:RGs K G xs ds) (ge:∀a d,G a=some d->G' a=some d):RGs K G' xs ds:=Paired.mono (fun _ _ r=>r.mono ge) h
theorem RKs.mono {xs:List (Key × V)} {ds:List (Key × D)} (h:RKs K G xs ds) (ge:∀a d,G a=some d->G' a=some d):RKs K G' xs ds:=Paired.mono (fun _ _ r=>⟨r.1,r.2.mono ge⟩) h
theorem OB.mono (h:OB K G H a d) (ge:∀a d,G a=some d->G' a=some d) (he:∀o,H a=some o->H' a=some o):OB K G' H' a d:=by
 have rd:∀{u:HO},Rd H a u->Rd H' a u:=fun r=>by
  rcases r with r | ⟨o,r⟩
  ·exact .inl (he _ r)
  ·exact .inr ⟨o,he _ r⟩
 cases h with
 | lst r s=>exact .lst (rd r) (s.mono ge)
 | tup r s=>exact .tup (rd r) (s.mono ge)
 | dic r s=>exact .dic (he _ r) (RKs.mono s ge)
 | exc r n f=>exact .exc (he _ r) n (f.mono ge)
 | fld r s=>exact .fld (he _ r) (Paired.mono (fun _ _ r=>⟨r.1,r.2.mono ge⟩) s)
theorem OB.isS (h:OB K G H a d):H a≠none:=by
 cases h with
 | lst r s=>exact Rd.isS r
 | tup r s=>exact Rd.isS r
 | dic r s=>rw [r]; simp
 | exc r n f=>rw [r]; simp
 | fld r s=>rw [r]; simp
theorem GOk.isN (g:GOk K G H) (h:H p=none):G p=none:=by
 cases e:G p with
 | none=>rfl
 | some d=>exact absurd h (g p d e).isS
theorem OwnO.isS (h:OwnO K G H a d):H a≠none:=by
 cases h with
 | lst r s=>rw [r]; simp
 | dic r s=>rw [r]; simp
theorem OwnO.mono (h:OwnO K G H a d) (ge:∀a d,G a=some d->G' a=some d) (he:∀o,H a=some o->H' a=some o):OwnO K G' H' a d:=by
 cases h with
 | lst r s=>exact .lst (he _ r) (s.mono ge)
 | dic r s=>exact .dic (he _ r) (RKs.mono s ge)
theorem Own.mono (h:Own K G H a d) (w:Grow K G H G' H'):Own K G' H' a d:=
 ⟨by rw [w.gf a h.ob.isS]; exact h.un,h.ob.mono w.ge fun o e=>w.he _ _ e⟩
def fz (H:Hp) (a:Addr) (ob:Obj):Hp:=match H a with
 | some (.dK ps)=>upd H a (.frz ob (.dK ps))
 | _=>H
theorem zkM {b:Addr} {ob:Obj} (h:b≠a):fz H a ob b=H b:=by
 unfold fz
 cases e:H a with
 | none=>rfl
 | some u=>cases u <;> first | rfl | exact zal h
theorem zq1 {xs:List V} {ob:Obj} (h:H a=some (.lst xs)):fz H a ob=H:=by
 unfold fz
 rw [h]
theorem zq2 {ps:List (Key × V)} {ob:Obj} (h:H a=some (.dK ps)):fz H a ob a=some (.frz ob (.dK ps)):=by
 unfold fz
 rw [h]; exact zam
theorem OwnO.fast (h:OwnO K G H a d) (ob:Obj):OB K G (fz H a ob) a d:=by
 cases h with
 | lst r s=>rw [zq1 r]; exact .lst (.inl r) s
 | dic r s=>exact .dic (zq2 r) s
theorem GOk.fast (g:GOk K G H) (hn:G a=none) (ob:Obj):GOk K G (fz H a ob):=fun b d e=>by
 have hb:b≠a:=by rintro rfl; rw [hn] at e; cases e
 exact (g b d e).mono (fun _ _ z=>z) fun o z=>by rw [zkM hb]; exact z
theorem Grow.refl (g:GOk K G H):Grow K G H G H:=⟨g,fun _ _ e=>e,fun _ _ e=>e,fun _ _=>rfl⟩
theorem Grow.trans (x:Grow K G H G1 H1) (y:Grow K G1 H1 G2 H2):Grow K G H G2 H2:=
 ⟨y.ok,fun a o e=>y.he _ _ (x.he _ _ e),fun a d e=>y.ge _ _ (x.ge _ _ e),fun a h=>by
  have h1:H1 a≠Option.none:=by
   cases e:H a with
   | none=>exact absurd e h
   | some o=>rw [x.he _ _ e]; simp
  rw [y.gf a h1,x.gf a h]⟩
def gset (G:GH) (a:Addr) (d:D):GH:=fun b=>if b=a then some d else G b
theorem zaq:gset G a d a=some d:=if_pos rfl
theorem zaV {b:Addr} (h:b≠a):gset G a d b=G b:=if_neg h
theorem zbc (hn:G a=none):∀b e,G b=some e->gset G a d b=some e:=fun b e h=>by
 have:b≠a:=by rintro rfl; rw [hn] at h; cases h
 rw [zaV this]; exact h
theorem GOk.gset (g:GOk K G H) (hn:G a=none) (o:OB K G H a d):GOk K (gset G a d) H:=fun b e h=>by
 by_cases hb:b=a
 ·subst hb; rw [zaq] at h; cases h
  exact o.mono (zbc hn) fun _ q=>q
 ·rw [zaV hb] at h
  exact (g b e h).mono (zbc hn) fun _ q=>q
theorem zmz (hn:H p=none) {o:HO}:∀a u,H a=some u->upd H p o a=some u:=fun a u e=>by
 rw [zal (zbw e hn)]; exact e
theorem Grow.new (g:GOk K G H) (hn:H p=none) (o:HO):Grow K G H G (upd H p o):=
 ⟨fun a d e=>(g a d e).mono (fun _ _ q=>q) fun u q=>zmz hn _ _ q,fun a u e=>zmz hn _ _ e,fun _ _ e=>e,fun _ _=>rfl⟩
theorem Grow.newF (g:GOk K G H) (hn:H p=none) {o:HO} (ob:OB K G (upd H p o) p d):Grow K G H (gset G p d) (upd H p o):=by
 have w:=Grow.new g hn o
 have gn:=g.isN hn
 exact ⟨w.ok.gset gn ob,w.he,fun a e h=>zbc gn a e h,fun a h=>zaV (by rintro rfl; exact h hn)⟩
theorem Grow.frz (w:Grow K G H G' H') (hn:H a=none) (o:Own K G' H' a d) (ob:Obj):Grow K G H (gset G' a d) (fz H' a ob):=
 ⟨(w.ok.fast o.un ob).gset o.un (o.ob.fast ob),fun b u e=>by rw [zkM (by rintro rfl; rw [hn] at e; cases e)]; exact w.he b u e,fun b e h=>zbc o.un b e (w.ge b e h),fun b h=>by rw [zaV (by rintro rfl; exact h hn)]; exact w.gf b h⟩
theorem RG.lst {ds:List D} (g:GOk K G H) (h:RG K G v (.lst ds)):∃a xs,v=.ref a/\SqL K H a xs/\RGs K G xs ds:=by
 cases h with
 | scl s=>cases s
 | ref e=>
  cases g _ _ e with
  | lst r s=>exact ⟨_,_,rfl,.inl r,s⟩
 | kc k=>
  cases k with
  | lst r s=>
   refine ⟨_,_,rfl,?_,Paired.mono (fun _ _ z=>.scl z) s⟩
   rcases r with (r | ⟨o,r⟩) | r
   ·cases r
   ·cases r
   ·exact .inr r
theorem RG.tup {ds:List D} (g:GOk K G H) (h:RG K G v (.tup ds)):∃a xs,v=.ref a/\SqT K H a xs/\RGs K G xs ds:=by
 cases h with
 | scl s=>cases s
 | ref e=>
  cases g _ _ e with
  | tup r s=>exact ⟨_,_,rfl,.inl r,s⟩
 | kc k=>
  cases k with
  | tup r s _=>
   refine ⟨_,_,rfl,?_,Paired.mono (fun _ _ z=>.scl z) s⟩
   rcases r with (r | ⟨o,r⟩) | r
   ·cases r
   ·cases r
   ·exact .inr r
theorem RG.dic {kvs:List (Key × D)} (g:GOk K G H) (h:RG K G v (.dic kvs)):∃a ps,v=.ref a/\Rd H a (.dK ps)/\RKs K G ps kvs:=by
 cases h with
 | scl s=>cases s
 | ref e=>
  cases g _ _ e with
  | dic r s=>exact ⟨_,_,rfl,.inr ⟨_,r⟩,s⟩
 | kc k=>cases k
theorem RG.int {i:Int} (g:GOk K G H) (h:RG K G v (.int i)):v=.int i:=by
 cases h with
 | scl s=>cases s; rfl
 | ref e=>cases g _ _ e
 | kc k=>cases k
theorem RG.str {x:Str} (g:GOk K G H) (h:RG K G v (.str x)):v=.str x:=by
 cases h with
 | scl s=>cases s; rfl
 | ref e=>cases g _ _ e
 | kc k=>cases k
theorem RG.bl {b:Bool} (g:GOk K G H) (h:RG K G v (.bl b)):v=.bl b:=by
 cases h with
 | scl s=>cases s; rfl
 | ref e=>cases g _ _ e
 | kc k=>cases k
theorem RG.non (g:GOk K G H) (h:RG K G v .non):v=.non:=by
 cases h with
 | scl s=>cases s; rfl
 | ref e=>cases g _ _ e
 | kc k=>cases k
def RB (K:W.Frag) (G:GH) (H:Hp) (v:V) (d:D):Prop:=RG K G v d\/∃a,v=.ref a/\Own K G H a d
theorem RG.rb (h:RG K G v d):RB K G H v d:=.inl h
theorem RB.mono (h:RB K G H v d) (w:Grow K G H G' H'):RB K G' H' v d:=by
 rcases h with h | ⟨a,e,h⟩
 ·exact .inl (h.mono w.ge)
 ·exact .inr ⟨a,e,h.mono w⟩
theorem RB.lst {ds:List D} (g:GOk K G H) (h:RB K G H v (.lst ds)):∃a xs,v=.ref a/\SqL K H a xs/\RGs K G xs ds:=by
 rcases h with h | ⟨a,e,h⟩
 ·exact h.lst g
 ·cases h.ob with
  | lst r s=>exact ⟨a,_,e,SqL.of r,s⟩
theorem RB.tup {ds:List D} (g:GOk K G H) (h:RB K G H v (.tup ds)):∃a xs,v=.ref a/\SqT K H a xs/\RGs K G xs ds:=by
 rcases h with h | ⟨a,e,h⟩
 ·exact h.tup g
 ·cases h.ob
theorem RB.dic {kvs:List (Key × D)} (g:GOk K G H) (h:RB K G H v (.dic kvs)):∃a ps,v=.ref a/\Rd H a (.dK ps)/\RKs K G ps kvs:=by
 rcases h with h | ⟨a,e,h⟩
 ·exact h.dic g
 ·cases h.ob with
  | dic r s=>exact ⟨a,_,e,.inl r,s⟩
theorem RB.int {i:Int} (g:GOk K G H) (h:RB K G H v (.int i)):v=.int i:=by
 rcases h with h | ⟨a,e,h⟩
 ·exact h.int g
 ·cases h.ob
theorem RB.str {x:Str} (g:GOk K G H) (h:RB K G H v (.str x)):v=.str x:=by
 rcases h with h | ⟨a,e,h⟩
 ·exact h.str g
 ·cases h.ob
theorem RB.bl {b:Bool} (g:GOk K G H) (h:RB K G H v (.bl b)):v=.bl b:=by
 rcases h with h | ⟨a,e,h⟩
 ·exact h.bl g
 ·cases h.ob
theorem RB.non (g:GOk K G H) (h:RB K G H v .non):v=.non:=by
 rcases h with h | ⟨a,e,h⟩
 ·exact h.non g
 ·cases h.ob
theorem Paired.get {α β:Type} {F:α->β->Prop}:∀{l:List α} {r:List β} {i:Nat} {b:β},Paired F l r->r[i]? = some b->∃a,l[i]? = some a/\F a b
 | _,_,_,_,.nil,e=>by simp at e
 | _,_,0,_,.cons h _,e=>by simp at e; subst e; exact ⟨_,rfl,h⟩
 | _,_,i + 1,b,.cons _ t,e=>by
  obtain ⟨a,h1,h2⟩:=Paired.get (i:=i) t (by simpa using e)
  exact ⟨a,by simpa using h1,h2⟩
theorem Paired.app {α β:Type} {F:α->β->Prop} {l l':List α} {r r':List β} (h:Paired F l r) (q:Paired F l' r'):Paired F (l++l') (r++r'):=by
 induction h with
 | nil=>exact q
 | cons h _ ih=>exact .cons h ih
theorem Paired.tk {α β:Type} {F:α->β->Prop} {l:List α} {r:List β} (n:Nat) (h:Paired F l r):Paired F (l.take n) (r.take n):=by
 induction h generalizing n with
 | nil=>cases n <;> exact .nil
 | cons h _ ih=>cases n with
  | zero=>exact .nil
  | succ n=>exact .cons h (ih n)
theorem Paired.dr {α β:Type} {F:α->β->Prop} {l:List α} {r:List β} (n:Nat) (h:Paired F l r):Paired F (l.drop n) (r.drop n):=by
 induction h generalizing n with
 | nil=>cases n <;> exact .nil
 | cons h t ih=>cases n with
  | zero=>exact .cons h t
  | succ n=>exact ih n
theorem Paired.st {α β:Type} {F:α->β->Prop} {a:α} {b:β} (h:F a b) {l:List α} {r:List β} (n:Nat) (p:Paired F l r):Paired F (l.set n a) (r.set n b):=by
 induction p generalizing n with
 | nil=>exact .nil
 | cons q t ih=>cases n with
  | zero=>exact .cons h t
  | succ n=>exact .cons q (ih n)
end
inductive Md where
 | sh | ow | bw
 deriving DecidableEq
abbrev Rho:=List (Option D)
structure GE where
 gh:GH
 h0:Hp
 hd:Nat->Option (Option V × Option D)
def Bw (K:W.Frag) (h0:Hp) (G:GH) (H:Hp) (v:V) (d:D):Prop:=RG K G v d\/∃a,v=V.ref a/\Own K G H a d/\h0 a≠none
theorem Bw.grow {K:W.Frag} {h0:Hp} {G G':GH} {H H':Hp} {v:V} {d:D} (h:Bw K h0 G H v d) (w:Grow K G H G' H'):Bw K h0 G' H' v d:=by
 rcases h with h | ⟨a,e,h1,h2⟩
 ·exact .inl (h.mono w.ge)
 ·exact .inr ⟨a,e,h1.mono w,h2⟩
theorem Bw.rb {K:W.Frag} {h0:Hp} {G:GH} {H:Hp} {v:V} {d:D} (h:Bw K h0 G H v d):RB K G H v d:=by
 rcases h with h | ⟨a,e,h1,h2⟩
 ·exact .inl h
 ·exact .inr ⟨a,e,h1⟩
def Lk (r:Rho) (st:L2.St) (i:Nat) (o:Option V × Option D):Prop:=st[i]? = some o.1/\∀d,r[i]? = some (some d)->o.2=some d
structure SI (X:Cx) (g:GE) (m:List Md) (r:Rho) (G:GH) (st:L2.St) (H:Hp):Prop where
 gok:GOk X.K G H
 old:∀a o,g.h0 a=some o->H a=some o
 ge:∀a d,g.gh a=some d->G a=some d
 gf:∀a,g.h0 a≠none->G a=g.gh a
 lm:m.length=st.length
 lr:r.length=st.length
 sh:∀(i:Nat) d,r[i]? = some (some d)->m[i]? = some .sh->∃v,st[i]? = some (some v)/\RG X.K G v d
 ow:∀(i:Nat) d,r[i]? = some (some d)->m[i]? = some .ow->∃a,st[i]? = some (some (V.ref a))/\Own X.K G H a d/\g.h0 a=none
 bw:∀(i:Nat) d,r[i]? = some (some d)->m[i]? = some .bw->∃v,st[i]? = some (some v)/\Bw X.K g.h0 G H v d
 dis:∀(i j:Nat) a d e,i≠j->r[i]? = some (some d)->r[j]? = some (some e)->m[i]? = some .ow->m[j]? = some .ow->st[i]? = some (some (V.ref a))->st[j]? = some (some (V.ref a))->False
 lk:∀(i:Nat) o,g.hd i=some o->m[i]? = some .bw->Lk r st i o
section
variable {X:Cx} {g:GE} {m:List Md} {r:Rho} {G G':GH} {st:L2.St} {H H':Hp}
theorem SI.grow (s:SI X g m r G st H) (w:Grow X.K G H G' H'):SI X g m r G' st H' where
 gok:=w.ok
 old:=fun a o e=>w.he _ _ (s.old a o e)
 ge:=fun a d e=>w.ge _ _ (s.ge a d e)
 gf:=fun a h=>by
  have h1:H a≠none:=by
   cases e:g.h0 a with
   | none=>exact absurd e h
   | some o=>rw [s.old _ _ e]; simp
  rw [w.gf a h1,s.gf a h]
 lm:=s.lm
 lr:=s.lr
 sh:=fun i d h1 h2=>by obtain ⟨v,h3,h4⟩:=s.sh i d h1 h2; exact ⟨v,h3,h4.mono w.ge⟩
 ow:=fun i d h1 h2=>by obtain ⟨a,h3,h4,h5⟩:=s.ow i d h1 h2; exact ⟨a,h3,h4.mono w,h5⟩
 bw:=fun i d h1 h2=>by obtain ⟨v,h3,h4⟩:=s.bw i d h1 h2; exact ⟨v,h3,h4.grow w⟩
 dis:=s.dis
 lk:=s.lk
theorem SI.grown (s:SI X g m r G st H):Grow X.K g.gh g.h0 G H:=⟨s.gok,s.old,s.ge,s.gf⟩
theorem SI.frz (s:SI X g m r G st H) (i:Nat) (hi:m[i]? = some .ow):(∃G',(∀a d,G a=some d->G' a=some d)/\SI X g (m.set i .sh) r G' st H)\/∃a,∀ob,∃G',(∀a d,G a=some d->G' a=some d)/\SI X g (m.set i .sh) r G' st (fz H a ob):=by
 have hlt:i < m.length:=(List.getElem?_eq_some_iff.mp hi).1
 by_cases hb:∃d,r[i]? = some (some d)
 ·obtain ⟨d,hd⟩:=hb
  obtain ⟨a,h1,h2,h3⟩:=s.ow i d hd hi
  refine .inr ⟨a,fun ob=>⟨gset G a d,zbc h2.un,(s.gok.fast h2.un ob).gset h2.un (h2.ob.fast ob),fun b o e=>by rw [zkM (by rintro rfl; rw [h3] at e; cases e)]; exact s.old b o e,fun b e h=>zbc h2.un b e (s.ge b e h),fun b h=>?_,by simpa using s.lm,s.lr,?_,?_,?_,?_,fun j o hj hm=>?_⟩⟩
  ·rw [zaV (by rintro rfl; exact h h3)]; exact s.gf b h
  ·intro j e hj hm
   by_cases hij:i=j
   ·subst hij
    rw [hd] at hj; cases hj
    exact ⟨_,h1,.ref zaq⟩
   ·rw [List.getElem?_set_ne hij] at hm
    obtain ⟨v,q1,q2⟩:=s.sh j e hj hm
    exact ⟨v,q1,q2.mono (zbc h2.un)⟩
  ·intro j e hj hm
   by_cases hij:i=j
   ·subst hij
    rw [List.getElem?_set_self hlt] at hm; cases hm
   ·rw [List.getElem?_set_ne hij] at hm
    obtain ⟨b,q1,q2,q3⟩:=s.ow j e hj hm
    have hba:b≠a:=by
     rintro rfl
     exact s.dis i j b d e hij hd hj hi hm h1 q1
    exact ⟨b,q1,⟨by rw [zaV hba]; exact q2.un,q2.ob.mono (zbc h2.un) fun _ z=>by rw [zkM hba]; exact z⟩,q3⟩
  ·intro j e hj hm
   by_cases hij:i=j
   ·subst hij
    rw [List.getElem?_set_self hlt] at hm; cases hm
   ·rw [List.getElem?_set_ne hij] at hm
    obtain ⟨v,q1,q2⟩:=s.bw j e hj hm
    refine ⟨v,q1,?_⟩
    rcases q2 with q2 | ⟨b,rfl,q2,q3⟩
    ·exact .inl (q2.mono (zbc h2.un))
    ·have hba:b≠a:=by rintro rfl; exact q3 h3
     exact .inr ⟨b,rfl,⟨by rw [zaV hba]; exact q2.un,q2.ob.mono (zbc h2.un) fun _ z=>by rw [zkM hba]; exact z⟩,q3⟩
  ·intro j k b e e' hjk hj hk hm hm' q1 q2
   have hij:i≠j:=by
    rintro rfl
    rw [List.getElem?_set_self hlt] at hm; cases hm
   have hik:i≠k:=by
    rintro rfl
    rw [List.getElem?_set_self hlt] at hm'; cases hm'
   rw [List.getElem?_set_ne hij] at hm
   rw [List.getElem?_set_ne hik] at hm'
   exact s.dis j k b e e' hjk hj hk hm hm' q1 q2
  ·refine s.lk j o hj ?_
   by_cases hij:i=j
   ·subst hij; rw [List.getElem?_set_self hlt] at hm; cases hm
   ·rw [List.getElem?_set_ne hij] at hm; exact hm
 ·refine .inl ⟨G,fun _ _ z=>z,s.gok,s.old,s.ge,s.gf,by simpa using s.lm,s.lr,?_,?_,?_,?_,fun j o hj hm=>?_⟩
  ·intro j e hj hm
   have hij:i≠j:=by rintro rfl; exact hb ⟨e,hj⟩
   rw [List.getElem?_set_ne hij] at hm
   exact s.sh j e hj hm
  ·intro j e hj hm
   have hij:i≠j:=by rintro rfl; exact hb ⟨e,hj⟩
   rw [List.getElem?_set_ne hij] at hm
   exact s.ow j e hj hm
  ·intro j e hj hm
   have hij:i≠j:=by rintro rfl; exact hb ⟨e,hj⟩
   rw [List.getElem?_set_ne hij] at hm
   exact s.bw j e hj hm
  ·intro j k b e e' hjk hj hk hm hm' q1 q2
   have hij:i≠j:=by rintro rfl; exact hb ⟨e,hj⟩
   have hik:i≠k:=by rintro rfl; exact hb ⟨e',hk⟩
   rw [List.getElem?_set_ne hij] at hm
   rw [List.getElem?_set_ne hik] at hm'
   exact s.dis j k b e e' hjk hj hk hm hm' q1 q2
  ·refine s.lk j o hj ?_
   by_cases hij:i=j
   ·subst hij; rw [List.getElem?_set_self hlt] at hm; cases hm
   ·rw [List.getElem?_set_ne hij] at hm; exact hm
end
theorem PE.imp {X:Cx} {e:Expr} {t t':TE} (h:PE X e t) (i:∀σ H Q,t' σ H Q->t σ H Q):PE X e t':=fun pins s σ H Q I q=>h pins s σ H Q I (i σ H Q q)
theorem PT.imp {X:Cx} {e:Expr} {t t':TT} (h:PT X e t) (i:∀σ H Q,t' σ H Q->t σ H Q):PT X e t':=fun pins s σ H Q I q=>h pins s σ H Q I (i σ H Q q)
theorem PW.imp {X:Cx} {e:Expr} {t t':TT} (h:PW X e t) (i:∀σ H Q,t' σ H Q->t σ H Q):PW X e t':=fun whole pins s σ H Q I q=>h whole pins s σ H Q I (i σ H Q q)
theorem PA.imp {X:Cx} {e:List Expr} {t t':TA} (h:PA X e t) (i:∀σ H Q,t' σ H Q->t σ H Q):PA X e t':=fun pos pins s σ H Q I q=>h pos pins s σ H Q I (i σ H Q q)
theorem PS.imp {X:Cx} {e:Stmt} {t t':TS} (h:PS X e t) (i:∀D σ H,t' D σ H->t D σ H):PS X e t':=fun pins s σ H D I q=>h pins s σ H D I (i D σ H q)
theorem PSs.imp {X:Cx} {e:List Stmt} {t t':TS} (h:PSs X e t) (i:∀D σ H,t' D σ H->t D σ H):PSs X e t':=fun pins s σ H D I q=>h pins s σ H D I (i D σ H q)
def ExV (X:Cx) (σ:L2.St) (G:GH) (H':Hp) (e:Value) (x:D) (s':Shared):Prop:=
 ∃pins s H1 a C od nm ds,e=.ref a/\x=xD nm ds/\XN X.K nm C/\XF G od ds/\Inv X pins σ H1 s/\Fly X.prog X.w X.stack H1 s H' a (.ref C) od s'
def XW (X:Cx) (σ:L2.St) (G:GH) (H:Hp) (x:D):Prop:=∀pins e s' G' H',Grow X.K G H G' H'->Inv X pins σ H' s'->ExV X σ G' H' e x s'->X.xe e s'
theorem XW.grow {X:Cx} {σ:L2.St} {G G1:GH} {H H1:Hp} {x:D} (h:XW X σ G H x) (w:Grow X.K G H G1 H1):XW X σ G1 H1 x:=fun pins e s' G' H' w' I q=>h pins e s' G' H' (w.trans w') I q
abbrev FE:=Rho->Res D
def tE (X:Cx) (g:GE) (m:List Md) (f:FE):TE:=fun σ H Q=>∃r G,SI X g m r G σ H/\fin (f r) (fun d=>∀v G' H',Grow X.K G H G' H'->RG X.K G' v d->Q v H') (XW X σ G H)
def tB (X:Cx) (g:GE) (m:List Md) (f:FE):TE:=fun σ H Q=>∃r G,SI X g m r G σ H/\fin (f r) (fun d=>∀v G' H',Grow X.K G H G' H'->RB X.K G' H' v d->Q v H') (XW X σ G H)
def tO (X:Cx) (g:GE) (m:List Md) (f:FE):TE:=fun σ H Q=>∃r G,SI X g m r G σ H/\fin (f r) (fun d=>∀a G' H',Grow X.K G H G' H'->H a=none->Own X.K G' H' a d->Q (.ref a) H') (XW X σ G H)
def tQ (X:Cx) (g:GE) (m:List Md) (f:Rho->Res Bool):TT:=fun σ H Q=>∃r G,SI X g m r G σ H/\fin (f r) (fun b=>∀G' H',Grow X.K G H G' H'->Q b H') (XW X σ G H)
def tL (X:Cx) (g:GE) (m:List Md) (f:Rho->Res (List D)):TA:=fun σ H Q=>∃r G,SI X g m r G σ H/\fin (f r) (fun ds=>∀vs G' H',Grow X.K G H G' H'->RGs X.K G' vs ds->Q vs H') (XW X σ G H)
def tLB (X:Cx) (g:GE) (m:List Md) (f:Rho->Res (List D)):TA:=fun σ H Q=>∃r G,SI X g m r G σ H/\fin (f r) (fun ds=>∀vs G' H',Grow X.K G H G' H'->Paired (RB X.K G' H') vs ds->Q vs H') (XW X σ G H)
def SE (X:Cx) (g:GE) (m:List Md) (e:Expr) (f:FE):Prop:=PE X e (tE X g m f)
def SB (X:Cx) (g:GE) (m:List Md) (e:Expr) (f:FE):Prop:=PE X e (tB X g m f)
def SO (X:Cx) (g:GE) (m:List Md) (e:Expr) (f:FE):Prop:=PE X e (tO X g m f)
def SQ (X:Cx) (g:GE) (m:List Md) (e:Expr) (f:Rho->Res Bool):Prop:=PT X e (tQ X g m f)
def SW (X:Cx) (g:GE) (m:List Md) (e:Expr) (f:Rho->Res Bool):Prop:=PW X e (tQ X g m f)
def SA (X:Cx) (g:GE) (m:List Md) (es:List Expr) (f:Rho->Res (List D)):Prop:=PA X es (tL X g m f)
def SAB (X:Cx) (g:GE) (m:List Md) (es:List Expr) (f:Rho->Res (List D)):Prop:=PA X es (tLB X g m f)
section
variable {X:Cx} {g:GE} {m:List Md} {e a b c:Expr} {f fa fb fc:FE} {pos:Pos}
theorem SE.toB (h:SE X g m e f):SB X g m e f:=PE.imp h fun σ H Q ⟨r,G,si,q⟩=>⟨r,G,si,zag q fun d k v G' H' w z=>k v G' H' w z.rb⟩
theorem Inv.fast {pins:List (Addr × Obj)} {σ:L2.St} {H:Hp} {s:Shared} (I:Inv X pins σ H s) (a:Addr):∃ob,Inv X pins σ (fz H a ob) s:=by
 cases e:H a with
 | none=>exact ⟨{ cls:=.none,data:=.fields #[] },by unfold fz; rw [e]; exact I⟩
 | some u=>
  cases u with
  | dK ps=>
   obtain ⟨z1,z2,vs,z3,o,es,ep,z4,z5⟩:=(show zbg X.prog X.w H s.heap a (.dK ps) from I.hok a _ e)
   have ef:fz H a o=upd H a (.frz o (.dK ps)):=by unfold fz; rw [e]
   refine ⟨o,?_⟩
   rw [ef]
   exact I.write (t':=s.toks) (h':=s.heap) (x:=a) (e:=a) (by rw [e]; exact trivial) (.inl rfl) (fun b u _ q=>q) ⟨o,z4⟩ (show zbg X.prog X.w _ s.heap a (.frz o (.dK ps)) from ⟨z4,z1,z2,vs,z3,o,es,ep,z4,z5⟩)
  | _=>exact ⟨{ cls:=.none,data:=.fields #[] },by unfold fz; rw [e]; exact I⟩
theorem SO.toE (h:SO X g m e f):SE X g m e f:=by
 intro pins s σ H Q I ⟨r,G,si,q⟩
 refine thn (h pins s σ H (fun v H'=>∃a,v=.ref a/\∀ob,Q v (fz H' a ob)) I ⟨r,G,si,zag q fun d k a G' H' w hn o=>⟨a,rfl,fun ob=>k _ _ _ (w.frz hn o ob) (.ref zaq)⟩⟩) fun u s' ⟨v,H',I',rv,a,_,z⟩=>?_
 obtain ⟨ob,I2⟩:=Inv.fast I' a
 exact ⟨v,_,I2,rv,z ob⟩
theorem SO.toB (h:SO X g m e f):SB X g m e f:=h.toE.toB
theorem zfi {v:V} {d:D} (h:PE X e (tC v)) (s:Scl v d):SE X g m e fun _=>.ok d:=
 PE.imp h fun σ H Q ⟨r,G,si,q⟩=>q v G H (Grow.refl si.gok) (.scl s)
theorem zat {i:Int} {j}:SE X g m (.Constant (.int i) j pos) fun _=>.ok (.int i):=zfi zp5 (.int i)
theorem s_bl {i:Bool} {j}:SE X g m (.Constant (.bool i) j pos) fun _=>.ok (.bl i):=zfi zrT (.bl i)
theorem zeT {j}:SE X g m (.Constant .none j pos) fun _=>.ok .non:=zfi zp3 .non
theorem zax {i:Str} {j}:SE X g m (.Constant (.str i) j pos) fun _=>.ok (.str i):=zfi zmL (.str i)
def getV (r:Rho) (i:Nat):Res D:=match r[i]? with
 | some (some d)=>.ok d
 | _=>.stuck
theorem zgz {r:Rho} {i:Nat} {q:D->Prop} {x:D->Prop} (h:fin (getV r i) q x):∃d,r[i]? = some (some d)/\q d:=by
 unfold getV at h
 split at h
 ·rename_i d e; exact ⟨d,e,h⟩
 ·exact h.elim
theorem zrB (i:Nat) {x:Str} (hm:m[i]? = some .sh) (hN:X.N[i]? = some x) (hv:Vis X.env.scope x) (hd:(x == ("__debug__" : Str))=false:=by decide) (hcd:(x == ("__classdict__" : Str))=false:=by decide) :
  SE X g m (.Name x pos) fun r=>getV r i:=by
 refine PE.imp (zcf hN hv hd hcd) fun σ H Q ⟨r,G,si,q⟩=>?_
 obtain ⟨d,e,k⟩:=zgz q
 obtain ⟨v,e1,e2⟩:=si.sh i d e hm
 exact ⟨v,e1,k v G H (Grow.refl si.gok) e2⟩
theorem zpm (i:Nat) {x:Str} (hm:i < m.length) (hN:X.N[i]? = some x) (hv:Vis X.env.scope x) (hd:(x == ("__debug__" : Str))=false:=by decide) (hcd:(x == ("__classdict__" : Str))=false:=by decide) :
  SB X g m (.Name x pos) fun r=>getV r i:=by
 refine PE.imp (zcf hN hv hd hcd) fun σ H Q ⟨r,G,si,q⟩=>?_
 obtain ⟨d,e,k⟩:=zgz q
 have hm':m[i]? = some m[i]:=List.getElem?_eq_getElem hm
 cases h:m[i] with
 | sh=>
  obtain ⟨v,e1,e2⟩:=si.sh i d e (hm'.trans (by rw [h]))
  exact ⟨v,e1,k v G H (Grow.refl si.gok) e2.rb⟩
 | ow=>
  obtain ⟨v,e1,e2,_⟩:=si.ow i d e (hm'.trans (by rw [h]))
  exact ⟨_,e1,k _ G H (Grow.refl si.gok) (.inr ⟨v,rfl,e2⟩)⟩
 | bw=>
  obtain ⟨v,e1,e2⟩:=si.bw i d e (hm'.trans (by rw [h]))
  exact ⟨_,e1,k _ G H (Grow.refl si.gok) e2.rb⟩
theorem zmD {x:Str} {v:V} {u:Value} {d:D} (hg:Gl X x) (hm:X.mg x=some u) (r:RelV v u) (s:Scl v d) (hd:(x == ("__debug__" : Str))=false:=by decide):SE X g m (.Name x pos) fun _=>.ok d:=zfi (zjY hg hm r hd) s
theorem seq2 {β:Type} {k:D->D->Res β} {q:β->Prop} {R:V->V->Hp->Prop} {r:Rho} {G:GH} {σ:L2.St} {H:Hp} (si:SI X g m r G σ H)
  (h:fin ((fa r).bind fun d1=>(fb r).bind fun d2=>k d1 d2) q (XW X σ G H))
  (hk:∀d1 d2 v1 v2 G2 H2,Grow X.K G H G2 H2->RB X.K G2 H2 v1 d1->RB X.K G2 H2 v2 d2->fin (k d1 d2) q (XW X σ G H)->R v1 v2 H2) :
  tB X g m fa σ H fun v1 H1=>tB X g m fb σ H1 fun v2 H2=>R v1 v2 H2:=by
 refine ⟨r,G,si,zag (zaf h) fun d1 h1 v1 G1 H1 w1 r1=>⟨r,G1,si.grow w1,?_⟩⟩
 cases e:fb r with
 | ok d2=>
  rw [e] at h1
  exact fun v2 G2 H2 w2 r2=>hk d1 d2 v1 v2 G2 H2 (w1.trans w2) (r1.mono w2) r2 h1
 | exc x=>
  rw [e] at h1
  exact (show XW X σ G H x from h1).grow w1
 | stuck=>
  rw [e] at h1
  exact h1
def opt {α:Type}:Option α->Res α
 | some a=>.ok a
 | none=>.stuck
@[simp] theorem opt_some {α:Type} (a:α):opt (some a)=.ok a:=rfl
@[simp] theorem opt_none {α:Type}:opt (none:Option α)=.stuck:=rfl
theorem zaw {α:Type} {o:Option α} {q:α->Prop} {x:D->Prop} (h:fin (opt o) q x):∃a,o=some a/\q a:=by
 cases o with
 | none=>exact h.elim
 | some a=>exact ⟨a,rfl,h⟩
def OpD (K:W.Frag) (r:R2) (k:D->D->Option D):Prop:=∀(G:GH) (H:Hp) (v1 v2:V) (d1 d2 d:D) (Q:VK),GOk K G H->RB K G H v1 d1->RB K G H v2 d2->k d1 d2=some d ->
 (∀v G' H',Grow K G H G' H'->RG K G' v d->Q v H')->r v1 v2 H Q
def f2 (fa fb:FE) (k:D->D->Option D):FE:=fun r=>(fa r).bind fun d1=>(fb r).bind fun d2=>opt (k d1 d2)
theorem znw {R:R2} {k:D->D->Option D} (ho:OpD X.K R k) (h:PE X e (tOp R (tB X g m fa) (tB X g m fb))):SE X g m e (f2 fa fb k):=by
 refine PE.imp h fun σ H Q ⟨r,G,si,q⟩=>?_
 refine seq2 si q fun d1 d2 v1 v2 G2 H2 w r1 r2 q2=>?_
 obtain ⟨d,e,q2⟩:=zaw q2
 exact ho G2 H2 v1 v2 d1 d2 d Q w.ok r1 r2 e fun v G' H' w' z=>q2 v G' H' (w.trans w') z
theorem zhD {op:Operator} {R:R2} {k:D->D->Option D} (hr:OpR X (binaryOp op) R) (ho:OpD X.K R k) (ha:SB X g m a fa) (hb:SB X g m b fb):SE X g m (.BinOp a op b pos) (f2 fa fb k):=znw ho (zp0 hr ha hb)
theorem znx {op:CmpOp} {R:R2} {k:D->D->Option D} (hr:OpR X (compareOp op) R) (ho:OpD X.K R k) (ha:SB X g m a fa) (hb:SB X g m b fb) (hm:behindInMarks op b=false):SE X g m (.Compare a [op] [b] pos) (f2 fa fb k):=znw ho (znQ hr ha hb hm)
def asB:D->Option Bool
 | .bl b=>some b
 | _=>none
def fTest (f:FE):Rho->Res Bool:=fun r=>(f r).bind fun d=>opt (asB d)
theorem zgo {op:CmpOp} {R:R2} {k:D->D->Option D} (hr:OpR X (compareOp op) R) (ho:OpD X.K R k) (ha:SB X g m a fa) (hb:SB X g m b fb) (hm:behindInMarks op b=false):SQ X g m (.Compare a [op] [b] pos) (fTest (f2 fa fb k)):=by
 refine PT.imp (znI hr ha hb hm) fun σ H Q ⟨r,G,si,q⟩=>?_
 have e:fTest (f2 fa fb k) r=(fa r).bind fun d1=>(fb r).bind fun d2=>(opt (k d1 d2)).bind fun d=>opt (asB d):=by
  unfold fTest f2
  cases fa r with
  | ok d1=>cases fb r <;> rfl
  | exc _=>rfl
  | stuck=>rfl
 rw [e] at q
 refine seq2 (R:=fun x y H2=>R x y H2 fun x H'=>∃k,x=V.bl k/\Q k H') si q fun d1 d2 v1 v2 G2 H2 w r1 r2 q3=>?_
 obtain ⟨d,e,q3⟩:=zaw (zaf q3)
 obtain ⟨b,eb,q3⟩:=zaw q3
 cases d with
 | bl b'=>
  cases eb
  exact ho G2 H2 v1 v2 d1 d2 _ _ w.ok r1 r2 e fun v G' H' w' z=>⟨_,z.bl w'.ok,q3 G' H' (w.trans w')⟩
 | _=>cases eb
end
instance decMul (i j:Int):Decidable (CMul i j):=by unfold CMul; infer_instance
instance decDiv (i j:Int):Decidable (CDiv i j):=by unfold CDiv; infer_instance
instance decPow (i j:Int):Decidable (CPow i j):=by unfold CPow; infer_instance
def zhT (k:Int->Int->D):D->D->Option D
 | .int a,.int b=>some (k a b)
 | _,_=>none
def zhb (C:Int->Int->Prop) [∀a b,Decidable (C a b)] (k:Int->Int->D):D->D->Option D
 | .int a,.int b=>if C a b then some (k a b) else none
 | _,_=>none
@[simp] theorem ints2_int (k:Int->Int->D) (a b:Int):zhT k (.int a) (.int b)=some (k a b):=rfl
@[simp] theorem intsC_int (C:Int->Int->Prop) [∀a b,Decidable (C a b)] (k:Int->Int->D) (a b:Int):zhb C k (.int a) (.int b)=if C a b then some (k a b) else none:=rfl
section
variable {K:W.Frag}
theorem zeu {gv:Int->Int->V} {gd:Int->Int->D} (hs:∀i j,Scl (gv i j) (gd i j)):OpD K (rI0 gv) (zhT gd):=by
 intro G H v1 v2 d1 d2 d Q g r1 r2 e q
 unfold zhT at e
 split at e
 ·cases e
  exact ⟨_,_,r1.int g,r2.int g,q _ G H (Grow.refl g) (.scl (hs _ _))⟩
 ·cases e
theorem ze0 {C:Int->Int->Prop} [∀a b,Decidable (C a b)] {gv:Int->Int->V} {gd:Int->Int->D} (hs:∀i j,Scl (gv i j) (gd i j)):OpD K (rI C gv) (zhb C gd):=by
 intro G H v1 v2 d1 d2 d Q g r1 r2 e q
 unfold zhb at e
 split at e
 ·split at e
  ·rename_i hc
   cases e
   exact ⟨_,_,r1.int g,r2.int g,hc,q _ G H (Grow.refl g) (.scl (hs _ _))⟩
  ·cases e
 ·cases e
end
abbrev subI:D->D->Option D:=zhT fun a b=>.int (a - b)
abbrev mulI:D->D->Option D:=zhb CMul fun a b=>.int (a * b)
abbrev zdA:D->D->Option D:=zhb CDiv fun a b=>.int (a / b)
abbrev modI:D->D->Option D:=zhb (fun _ b=>0 < b) fun a b=>.int (a % b)
abbrev powI:D->D->Option D:=zhb CPow fun a b=>.int (a ^ b.toNat)
abbrev ltI:D->D->Option D:=zhT fun a b=>.bl (decide (a < b))
abbrev leI:D->D->Option D:=zhT fun a b=>.bl (decide (a<=b))
abbrev gtI:D->D->Option D:=zhT fun a b=>.bl (decide (b < a))
section
variable {X:Cx} {g:GE} {m:List Md} {e a b c:Expr} {f fa fb fc:FE} {pos:Pos}
theorem zrD (ha:SB X g m a fa) (hb:SB X g m b fb):SE X g m (.BinOp a .Sub b pos) (f2 fa fb subI):=zhD zqa (zeu fun _ _=>.int _) ha hb
theorem zhB (ha:SB X g m a fa) (hb:SB X g m b fb):SE X g m (.BinOp a .Mult b pos) (f2 fa fb mulI):=zhD zqd (ze0 fun _ _=>.int _) ha hb
theorem zeJ (ha:SB X g m a fa) (hb:SB X g m b fb):SE X g m (.BinOp a .FloorDiv b pos) (f2 fa fb zdA):=zhD znZ (ze0 fun _ _=>.int _) ha hb
theorem zdd (ha:SB X g m a fa) (hb:SB X g m b fb):SE X g m (.BinOp a .Mod b pos) (f2 fa fb modI):=zhD zqe (ze0 fun _ _=>.int _) ha hb
theorem zrF (ha:SB X g m a fa) (hb:SB X g m b fb):SE X g m (.BinOp a .Pow b pos) (f2 fa fb powI):=zhD zqc (ze0 fun _ _=>.int _) ha hb
theorem s_lt (ha:SB X g m a fa) (hb:SB X g m b fb):SE X g m (.Compare a [.Lt] [b] pos) (f2 fa fb ltI):=znx znY (zeu fun _ _=>.bl _) ha hb (zeL _)
theorem q_lt (ha:SB X g m a fa) (hb:SB X g m b fb):SQ X g m (.Compare a [.Lt] [b] pos) (fTest (f2 fa fb ltI)):=zgo znY (zeu fun _ _=>.bl _) ha hb (zeL _)
theorem q_gt (ha:SB X g m a fa) (hb:SB X g m b fb):SQ X g m (.Compare a [.Gt] [b] pos) (fTest (f2 fa fb gtI)):=zgo zrX (zeu fun _ _=>.bl _) ha hb (zeL _)
def f1 (fa:FE) (k:D->Option D):FE:=fun r=>(fa r).bind fun d=>opt (k d)
def negI:D->Option D
 | .int a=>some (.int (-a))
 | _=>none
@[simp] theorem negI_int (a:Int):negI (.int a)=some (.int (-a)):=rfl
theorem zls (ha:SB X g m a fa):SE X g m (.UnaryOp .USub a pos) (f1 fa negI):=by
 refine PE.imp (zrR zo2 ha) fun σ H Q ⟨r,G,si,q⟩=>⟨r,G,si,zag (zaf q) fun d q1 v G1 H1 w1 r1=>?_⟩
 obtain ⟨d',e,q2⟩:=zaw q1
 cases d with
 | int i=>
  cases e
  exact ⟨i,r1.int w1.ok,q2 _ G1 H1 w1 (.scl (.int _))⟩
 | _=>cases e
def truD:D->Option Bool
 | .non=>some false
 | .bl b=>some b
 | .int i=>some (i != 0)
 | .str y=>if y.length<=sizeLine then some ((y.length:Int) != 0) else none
 | .lst ds=>some (! ds.isEmpty)
 | .tup ds=>some (! ds.isEmpty)
 | .dic kvs=>some (! kvs.isEmpty)
 | .obj _ _=>none
theorem zfq {α β:Type} {F:α->β->Prop} {l:List α} {r:List β} (h:Paired F l r):l.isEmpty=r.isEmpty:=by cases h <;> rfl
theorem znh {K:W.Frag} {G:GH} {H:Hp} {v:V} {d:D} {b:Bool} (gk:GOk K G H) (h:RB K G H v d) (e:truD d=some b):TruV K v H b:=by
 cases d with
 | non=>cases e; rw [h.non gk]; rfl
 | bl b'=>cases e; rw [h.bl gk]; rfl
 | int i=>cases e; rw [h.int gk]; rfl
 | str y=>
  rw [h.str gk]
  have e':(if y.length<=sizeLine then some ((y.length:Int) != 0) else none)=some b:=e
  by_cases hy:y.length<=sizeLine
  ·rw [if_pos hy] at e'; cases e'; exact ⟨hy,rfl⟩
  ·rw [if_neg hy] at e'; cases e'
 | lst ds=>
  cases e
  obtain ⟨a,xs,rfl,s,r⟩:=h.lst gk
  exact .inl ⟨xs,s,by rw [zfq r]⟩
 | tup ds=>
  cases e
  obtain ⟨a,xs,rfl,s,r⟩:=h.tup gk
  exact .inr (.inl ⟨xs,s,by rw [zfq r]⟩)
 | dic kvs=>
  cases e
  obtain ⟨a,xs,rfl,s,r⟩:=h.dic gk
  exact .inr (.inr ⟨xs,s,by rw [zfq r]⟩)
 | obj _ _=>cases e
def fTru (f:FE):Rho->Res Bool:=fun r=>(f r).bind fun d=>opt (truD d)
theorem zec (ha:SB X g m a fa) (he:∀whole,isTrue a X.env whole=(do let v <-whole; standAt a.pos; holding [v] (truthy v)):=by intro _; rfl):SQ X g m a (fTru fa):=by
 refine PT.imp (zlG ha he) fun σ H Q ⟨r,G,si,q⟩=>⟨r,G,si,zag (zaf q) fun d q1 v G1 H1 w1 r1=>?_⟩
 obtain ⟨b,e,q2⟩:=zaw q1
 exact ⟨b,znh w1.ok r1 e,q2 G1 H1 w1⟩
abbrev FQ:=Rho->Res Bool
def fAnd (p q:FQ):FQ:=fun r=>(p r).bind fun c=>if c=true then q r else .ok false
def fOr (p q:FQ):FQ:=fun r=>(p r).bind fun c=>if c=true then .ok true else q r
def fNot (p:FQ):FQ:=fun r=>(p r).bind fun c=>.ok (! c)
variable {p q:FQ} {rest:List Expr}
theorem zsg {α:Type} {r:Res α} {q:α->Prop} {x x':D->Prop} (h:fin r q x) (hx:∀e,x e->x' e):fin r q x':=by
 cases r with
 | ok a=>exact h
 | exc e=>exact hx e h
 | stuck=>exact h
theorem zaD {α:Type} {r:Res α} {σ:L2.St} {G G1:GH} {H H1:Hp} {P P':α->Prop} (h:fin r P (XW X σ G H)) (w:Grow X.K G H G1 H1) (hp:∀a,P a->P' a):fin r P' (XW X σ G1 H1):=zsg (zag h hp) fun _ x=>x.grow w
theorem zmH (ha:SQ X g m a p):SW X g m (.BoolOp .And [a] pos) p:=znH ha
theorem zhH (ha:SQ X g m a p):SW X g m (.BoolOp .Or [a] pos) p:=zpP ha
theorem zpO (ha:SQ X g m a p) (hb:SW X g m (.BoolOp .And (b::rest) pos) q):SW X g m (.BoolOp .And (a::b::rest) pos) (fAnd p q):=by
 refine PW.imp (zpQ ha hb) fun σ H Q ⟨r,G,si,k⟩=>⟨r,G,si,zag (zaf k) fun c k1 G1 H1 w1=>?_⟩
 cases c with
 | true=>rw [if_pos rfl] at k1 ⊢; exact ⟨r,G1,si.grow w1,zaD k1 w1 fun b z G' H' w'=>z G' H' (w1.trans w')⟩
 | false=>rw [if_neg Bool.false_ne_true] at k1 ⊢; exact k1 G1 H1 w1
theorem q_or (ha:SQ X g m a p) (hb:SW X g m (.BoolOp .Or (b::rest) pos) q):SW X g m (.BoolOp .Or (a::b::rest) pos) (fOr p q):=by
 refine PW.imp (zrO ha hb) fun σ H Q ⟨r,G,si,k⟩=>⟨r,G,si,zag (zaf k) fun c k1 G1 H1 w1=>?_⟩
 cases c with
 | true=>rw [if_pos rfl] at k1 ⊢; exact k1 G1 H1 w1
 | false=>rw [if_neg Bool.false_ne_true] at k1 ⊢; exact ⟨r,G1,si.grow w1,zaD k1 w1 fun b z G' H' w'=>z G' H' (w1.trans w')⟩
theorem SW.toQ (h:SW X g m e p):SQ X g m e p:=PW.pt h
theorem zhI (ha:SQ X g m a p):SQ X g m (.UnaryOp .Not a pos) (fNot p):=
 PT.imp (zpR ha) fun σ H Q ⟨r,G,si,k⟩=>⟨r,G,si,zag (zaf k) fun c k1 G1 H1 w1=>k1 G1 H1 w1⟩
def vAnd (fa fb:FE):FE:=fun r=>(fa r).bind fun d=>(opt (asB d)).bind fun c=>if c=true then fb r else .ok (.bl false)
def vOr (fa fb:FE):FE:=fun r=>(fa r).bind fun d=>(opt (asB d)).bind fun c=>if c=true then .ok (.bl true) else fb r
def vNot (fa:FE):FE:=fun r=>(fa r).bind fun d=>(opt (asB d)).bind fun c=>.ok (.bl (! c))
theorem zjx {op} (h:SE X g m a fa):SE X g m (.BoolOp op [a] pos) fa:=zp1 h
theorem zjB (ha:SE X g m a fa) (hb:SE X g m (.BoolOp .And (b::rest) pos) fb):SE X g m (.BoolOp .And (a::b::rest) pos) (vAnd fa fb):=by
 refine PE.imp (zp8 ha hb) fun σ H Q ⟨r,G,si,k⟩=>⟨r,G,si,zag (zaf k) fun d k1 v G1 H1 w1 r1=>?_⟩
 obtain ⟨c,e,k2⟩:=zaw (zaf k1)
 cases d with
 | bl c'=>
  cases e
  refine ⟨_,r1.bl w1.ok,?_⟩
  cases c with
  | true=>rw [if_pos rfl] at k2 ⊢; exact ⟨r,G1,si.grow w1,zaD k2 w1 fun b z v G' H' w'=>z v G' H' (w1.trans w')⟩
  | false=>rw [if_neg Bool.false_ne_true] at k2 ⊢; exact k2 _ G1 H1 w1 (.scl (.bl _))
 | _=>cases e
theorem zrG (ha:SE X g m a fa):SE X g m (.UnaryOp .Not a pos) (vNot fa):=by
 refine PE.imp (zp2 ha) fun σ H Q ⟨r,G,si,k⟩=>⟨r,G,si,zag (zaf k) fun d k1 v G1 H1 w1 r1=>?_⟩
 obtain ⟨c,e,k2⟩:=zaw (zaf k1)
 cases d with
 | bl c'=>cases e; exact ⟨_,r1.bl w1.ok,k2 _ G1 H1 w1 (.scl (.bl _))⟩
 | _=>cases e
def fIf (p:FQ) (fa fb:FE):FE:=fun r=>(p r).bind fun c=>if c=true then fa r else fb r
theorem zrH (hc:SQ X g m c p) (ha:SE X g m a fa) (hb:SE X g m b fb):SE X g m (.IfExp c a b pos) (fIf p fa fb):=by
 refine PE.imp (zlM hc ha hb) fun σ H Q ⟨r,G,si,k⟩=>⟨r,G,si,zag (zaf k) fun c k1 G1 H1 w1=>?_⟩
 cases c with
 | true=>rw [if_pos rfl] at k1 ⊢; exact ⟨r,G1,si.grow w1,zaD k1 w1 fun b z v G' H' w'=>z v G' H' (w1.trans w')⟩
 | false=>rw [if_neg Bool.false_ne_true] at k1 ⊢; exact ⟨r,G1,si.grow w1,zaD k1 w1 fun b z v G' H' w'=>z v G' H' (w1.trans w')⟩
variable {es:List Expr} {fl fr:Rho->Res (List D)}
def lNil:Rho->Res (List D):=fun _=>.ok []
def zab (fa:FE) (fl:Rho->Res (List D)):Rho->Res (List D):=fun r=>(fa r).bind fun d=>(fl r).bind fun ds=>.ok (d::ds)
theorem zaE:SA X g m [] lNil:=PA.imp zde fun σ H Q ⟨r,G,si,k⟩=>k [] G H (Grow.refl si.gok) .nil
theorem zah (ha:SE X g m e fa) (hr:SA X g m es fl) (hs:starEach (e::es) X.env=(false,eval e X.env)::starEach es X.env:=by rfl):SA X g m (e::es) (zab fa fl):=by
 refine PA.imp (zbb ha hr hs) fun σ H Q ⟨r,G,si,k⟩=>⟨r,G,si,zag (zaf k) fun d k1 v G1 H1 w1 r1=>⟨r,G1,si.grow w1,?_⟩⟩
 exact zaD (zaf k1) w1 fun ds z vs G2 H2 w2 r2=>z (v::vs) G2 H2 (w1.trans w2) (.cons (r1.mono w2.ge) r2)
theorem zaH:SAB X g m [] lNil:=PA.imp zde fun σ H Q ⟨r,G,si,k⟩=>k [] G H (Grow.refl si.gok) .nil
theorem zar (ha:SB X g m e fa) (hr:SAB X g m es fl) (hs:starEach (e::es) X.env=(false,eval e X.env)::starEach es X.env:=by rfl):SAB X g m (e::es) (zab fa fl):=by
 refine PA.imp (zbb ha hr hs) fun σ H Q ⟨r,G,si,k⟩=>⟨r,G,si,zag (zaf k) fun d k1 v G1 H1 w1 r1=>⟨r,G1,si.grow w1,?_⟩⟩
 exact zaD (zaf k1) w1 fun ds z vs G2 H2 w2 r2=>z (v::vs) G2 H2 (w1.trans w2) (.cons (r1.mono w2) r2)
def sz (ds:List D):Option (List D):=if ds.length<=sizeLine then some ds else none
theorem znl {ds ds':List D} (h:sz ds=some ds'):ds'=ds/\ds.length<=sizeLine:=by
 unfold sz at h; split at h
 ·rename_i hl; cases h; exact ⟨rfl,hl⟩
 ·cases h
theorem zrA {ds:List D} (h:ds.length<=sizeLine):sz ds=some ds:=if_pos h
def mkT (fl:Rho->Res (List D)):FE:=fun r=>(fl r).bind fun ds=>(opt (sz ds)).bind fun ds=>.ok (.tup ds)
def mkL (fl:Rho->Res (List D)):FE:=fun r=>(fl r).bind fun ds=>(opt (sz ds)).bind fun ds=>.ok (.lst ds)
theorem zdP {x1} (h:SA X g m es fl):SE X g m (.Tuple es x1 pos) (mkT fl):=by
 refine PE.imp (zpZ h) fun σ H Q ⟨r,G,si,k⟩=>⟨r,G,si,zag (zaf k) fun ds k1 vs G1 H1 w1 r1=>?_⟩
 obtain ⟨ds',e,k2⟩:=zaw (zaf k1)
 obtain ⟨rfl,hl⟩:=znl e
 have hlen:=Paired.length r1
 refine ⟨by omega,fun p hp=>?_⟩
 exact k2 _ _ _ (w1.trans (Grow.newF (d:=.tup ds') w1.ok hp (.tup (.inl zam) r1))) (.ref zaq)
theorem zc5 (h:SA X g m es fl):SO X g m (.List es pos) (mkL fl):=by
 refine PE.imp (zp4 h) fun σ H Q ⟨r,G,si,k⟩=>⟨r,G,si,zag (zaf k) fun ds k1 vs G1 H1 w1 r1=>?_⟩
 obtain ⟨ds',e,k2⟩:=zaw (zaf k1)
 obtain ⟨rfl,hl⟩:=znl e
 have hlen:=Paired.length r1
 refine ⟨by omega,fun p hp=>?_⟩
 have hn:H p=none:=by
  cases q:H p with
  | none=>rfl
  | some o=>rw [w1.he _ _ q] at hp; cases hp
 exact k2 p G1 _ (w1.trans (Grow.new w1.ok hp _)) hn ⟨w1.ok.isN hp,.lst zam r1⟩
end
def zlc (K:W.Frag) (r:List V->Hp->VK->Prop) (k:List D->Option D):Prop:=∀(G:GH) (H:Hp) (vs:List V) (ds:List D) (d:D) (Q:VK),GOk K G H->Paired (RB K G H) vs ds->k ds=some d ->
 (∀v G' H',Grow K G H G' H'->RG K G' v d->Q v H')->r vs H Q
def zso (K:W.Frag) (r:List V->Hp->VK->Prop) (k:List D->Option D):Prop:=∀(G:GH) (H:Hp) (vs:List V) (ds:List D) (d:D) (Q:VK),GOk K G H->Paired (RB K G H) vs ds->k ds=some d ->
 (∀a G' H',Grow K G H G' H'->H a=none->Own K G' H' a d->Q (.ref a) H')->r vs H Q
def fC (fl:Rho->Res (List D)) (k:List D->Option D):FE:=fun r=>(fl r).bind fun ds=>opt (k ds)
theorem Grow.back {K:W.Frag} {G G1:GH} {H H1:Hp} (w:Grow K G H G1 H1) {a:Addr} (hn:H1 a=none):H a=none:=by
 cases q:H a with
 | none=>rfl
 | some o=>rw [w.he _ _ q] at hn; cases hn
section
variable {X:Cx} {g:GE} {m:List Md} {e a b c:Expr} {f fa fb fc:FE} {pos p p2:Pos} {es:List Expr} {fl:Rho->Res (List D)} {x:Str} {id T:String} {R:List V->Hp->VK->Prop} {k:List D->Option D}
theorem s_cb (hk:zlc X.K R k) (h:PE X e (tCB R (tLB X g m fl))):SE X g m e (fC fl k):=by
 refine PE.imp h fun σ H Q ⟨r,G,si,q⟩=>⟨r,G,si,zag (zaf q) fun ds q1 vs G1 H1 w1 r1=>?_⟩
 obtain ⟨d,e,q2⟩:=zaw q1
 exact hk G1 H1 vs ds d Q w1.ok r1 e fun v G' H' w' z=>q2 v G' H' (w1.trans w') z
theorem zrI (hk:zso X.K R k) (h:PE X e (tCB R (tLB X g m fl))):SO X g m e (fC fl k):=by
 refine PE.imp h fun σ H Q ⟨r,G,si,q⟩=>⟨r,G,si,zag (zaf q) fun ds q1 vs G1 H1 w1 r1=>?_⟩
 obtain ⟨d,e,q2⟩:=zaw q1
 exact hk G1 H1 vs ds d Q w1.ok r1 e fun v G' H' w' hn z=>q2 v G' H' (w1.trans w') (w1.back hn) z
def lenD:List D->Option D
 | [.str y]=>if y.length<=sizeLine then some (.int y.length) else none
 | [.lst ds]=>some (.int ds.length)
 | [.tup ds]=>some (.int ds.length)
 | [.dic kvs]=>some (.int kvs.length)
 | _=>none
theorem zqu {K:W.Frag}:zlc K (fun xs H Q=>(∃x n,xs=[x]/\LenV K x H n/\Q (.int n) H)\/∃a kvs,xs=[V.ref a]/\Rd H a (.dK kvs)/\Q (.int kvs.length) H) lenD:=by
 intro G H vs ds d Q gk rs e q
 unfold lenD at e
 split at e
 ·split at e
  ·cases e
   cases rs with
   | cons r t=>cases t; exact .inl ⟨_,_,rfl,by rw [r.str gk]; exact ⟨by assumption,rfl⟩,q _ G H (Grow.refl gk) (.scl (.int _))⟩
  ·cases e
 ·cases e
  cases rs with
  | cons r t=>
   cases t
   obtain ⟨a,xs,rfl,s,r⟩:=r.lst gk
   have:=Paired.length r
   exact .inl ⟨_,_,rfl,.inl ⟨xs,s,rfl⟩,q _ G H (Grow.refl gk) (.scl (by rw [this]; exact .int _))⟩
 ·cases e
  cases rs with
  | cons r t=>
   cases t
   obtain ⟨a,xs,rfl,s,r⟩:=r.tup gk
   have:=Paired.length r
   exact .inl ⟨_,_,rfl,.inr ⟨xs,s,rfl⟩,q _ G H (Grow.refl gk) (.scl (by rw [this]; exact .int _))⟩
 ·cases e
  cases rs with
  | cons r t=>
   cases t
   obtain ⟨a,xs,rfl,s,r⟩:=r.dic gk
   have:=Paired.length r
   exact .inr ⟨_,_,rfl,s,q _ G H (Grow.refl gk) (.scl (by rw [this]; exact .int _))⟩
 ·cases e
theorem zb2 (hg:Gl X "len") (hm:X.mg "len" = none) (ha:SAB X g m (e::es) fl) (he:starEach (e::es) X.env=(false,eval e X.env)::starEach es X.env:=by rfl) (hpl:(backTo pos (starEach es X.env)).any (·.1)=false:=by rfl) :
  SE X g m (.Call (.Name "len" p) (e::es) [] pos) (fC fl lenD):=s_cb zqu (zee (zds.or zmo zk4) hg hm PySem.boot_len ha (by decide) (by decide) he hpl)
def zqt:List D->Option D
 | [.lst ds]=>some (.lst ds)
 | [.tup ds]=>some (.lst ds)
 | _=>none
def tupD:List D->Option D
 | [.lst ds]=>some (.tup ds)
 | [.tup ds]=>some (.tup ds)
 | _=>none
theorem zo8 {K:W.Frag}:zlc K (fun xs H Q=>∃p ys,xs=[.ref p]/\((SqL K H p ys/\∀l,H l=none->Q (.ref l) (upd H l (.tup ys)))\/(SqT K H p ys/\Q (.ref p) H))) tupD:=by
 intro G H vs ds d Q gk rs e q
 unfold tupD at e
 split at e
 ·cases e
  cases rs with
  | cons r t=>
   cases t
   obtain ⟨a,xs,rfl,s,r⟩:=r.lst gk
   exact ⟨a,xs,rfl,.inl ⟨s,fun l hl=>q _ _ _ (Grow.newF gk hl (.tup (.inl zam) r)) (.ref zaq)⟩⟩
 ·cases e
  cases rs with
  | cons r t=>
   cases t
   rcases r with r | ⟨a,_,o⟩
   ·obtain ⟨a,xs,rfl,s,r'⟩:=r.tup gk
    exact ⟨a,xs,rfl,.inr ⟨s,q _ G H (Grow.refl gk) r⟩⟩
   ·cases o.ob
 ·cases e
theorem zes (hg:Gl X "tuple") (hm:X.mg "tuple" = none) (ha:SAB X g m (e::es) fl) (he:starEach (e::es) X.env=(false,eval e X.env)::starEach es X.env:=by rfl) (hpl:(backTo pos (starEach es X.env)).any (·.1)=false:=by rfl) :
  SE X g m (.Call (.Name "tuple" p) (e::es) [] pos) (fC fl tupD):=s_cb zo8 (zed zgC hg hm rfl ha (by decide) (by decide) he hpl)
def ixD:D->D->Option D
 | .lst ds,.int i=>atI ds i
 | .tup ds,.int i=>atI ds i
 | .str z,.int i=>if z.length<=sizeLine then (atI z.cps.toList i).map fun c=>.str ⟨#[c]⟩ else none
 | _,_=>none
theorem zrj {K:W.Frag} {G:GH} {xs:List V} {ds:List D} {i:Int} {d:D} (r:RGs K G xs ds) (h:atI ds i=some d):∃v,atI xs i=some v/\RG K G v d:=by
 unfold atI at h ⊢
 rw [Paired.length r]
 cases e:ixN ds.length i with
 | none=>rw [e] at h; cases h
 | some j=>
  rw [e] at h
  exact Paired.get r h
theorem zop {K:W.Frag}:OpD K (rIx K) ixD:=by
 intro G H v1 v2 d1 d2 d Q gk r1 r2 e q
 unfold ixD at e
 split at e
 ·obtain ⟨a,xs,rfl,s,r⟩:=r1.lst gk
  obtain ⟨v,ev,rv⟩:=zrj r e
  exact .inl ⟨a,xs,_,v,rfl,r2.int gk,s,ev,q v G H (Grow.refl gk) rv⟩
 ·obtain ⟨a,xs,rfl,s,r⟩:=r1.tup gk
  obtain ⟨v,ev,rv⟩:=zrj r e
  exact .inr (.inl ⟨a,xs,_,v,rfl,r2.int gk,s,ev,q v G H (Grow.refl gk) rv⟩)
 ·split at e
  ·rename_i z i hz
   cases ec:atI z.cps.toList i with
   | none=>rw [ec] at e; cases e
   | some c=>
    rw [ec] at e; cases e
    exact .inr (.inr ⟨z,i,c,r1.str gk,r2.int gk,hz,ec,q _ G H (Grow.refl gk) (.scl (.str _))⟩)
  ·cases e
 ·cases e
def cutL {α:Type} (xs:List α) (lo hi:Option Int):List α:=(xs.drop (HT.sIx xs.length 0 lo)).take (HT.sIx xs.length xs.length hi - HT.sIx xs.length 0 lo)
theorem zrf {α β:Type} {F:α->β->Prop} {xs:List α} {ds:List β} (r:Paired F xs ds) (lo hi:Option Int):Paired F (cutL xs lo hi) (cutL ds lo hi):=by
 unfold cutL
 rw [Paired.length r]
 exact Paired.tk _ (Paired.dr _ r)
abbrev FP:=Rho->Res (Option Int)
def tP (X:Cx) (g:GE) (m:List Md) (f:FP):TO:=fun σ H Q=>∃r G,SI X g m r G σ H/\fin (f r) (fun o=>∀G' H',Grow X.K G H G' H'->Q o H') (XW X σ G H)
def SP1 (X:Cx) (g:GE) (m:List Md) (e:Option Expr) (f:FP):Prop:=PO X e (tP X g m f)
theorem PO.imp {X:Cx} {e:Option Expr} {t t':TO} (h:PO X e t) (i:∀σ H Q,t' σ H Q->t σ H Q):PO X e t':=fun pins s σ H Q I q=>h pins s σ H Q I (i σ H Q q)
def asI:D->Option Int
 | .int i=>some i
 | _=>none
def zcy (f:FE):FP:=fun r=>(f r).bind fun d=>(opt (asI d)).bind fun i=>.ok (some i)
theorem zdJ:SP1 X g m none fun _=>.ok none:=PO.imp znM fun σ H Q ⟨r,G,si,q⟩=>q G H (Grow.refl si.gok)
theorem zdI (h:SB X g m e f):SP1 X g m (some e) (zcy f):=by
 refine PO.imp (znL h) fun σ H Q ⟨r,G,si,q⟩=>⟨r,G,si,zag (zaf q) fun d q1 v G1 H1 w1 r1=>?_⟩
 obtain ⟨i,e,q2⟩:=zaw (zaf q1)
 cases d with
 | int j=>cases e; exact ⟨_,r1.int w1.ok,q2 G1 H1 w1⟩
 | _=>cases e
end
inductive Out where
 | nx (r:Rho) | rt (d:D) | bk (r:Rho) | ct (r:Rho) | exc (x:D) (r:Rho) | stuck
abbrev FS:=Rho->Out
def Gle (G G':GH):Prop:=∀a d,G a=some d->G' a=some d
theorem Gle.refl (G:GH):Gle G G:=fun _ _ e=>e
theorem Gle.trans {G G1 G2:GH} (a:Gle G G1) (b:Gle G1 G2):Gle G G2:=fun x d e=>b x d (a x d e)
def forget (m:List Md) (r:Rho):Rho:=List.zipWith (fun md o=>if md=Md.sh then o else none) m r
def zbG (m:List Md):List Md:=m.map fun _=>Md.sh
theorem zcx {m:List Md} {r:Rho} {i:Nat} {d:D} (h:(forget m r)[i]? = some (some d)):r[i]? = some (some d)/\m[i]? = some .sh:=by
 unfold forget at h
 rw [List.getElem?_zipWith] at h
 cases e1:m[i]? with
 | none=>rw [e1] at h; cases h
 | some md=>
  cases e2:r[i]? with
  | none=>rw [e1,e2] at h; cases h
  | some o=>
   rw [e1,e2] at h
   have h':(if md=Md.sh then o else none)=some d:=Option.some.inj h
   split at h'
   ·rename_i hm; subst hm; rw [h']; exact ⟨rfl,rfl⟩
   ·cases h'
section
variable {X:Cx} {g:GE} {m:List Md} {r:Rho} {G:GH} {st:L2.St} {H:Hp}
theorem SI.forget (s:SI X g m r G st H):SI X g (zbG m) (forget m r) G st H where
 gok:=s.gok
 old:=s.old
 ge:=s.ge
 gf:=s.gf
 lm:=by rw [zbG,List.length_map]; exact s.lm
 lr:=by rw [DL.forget,List.length_zipWith,s.lm,s.lr,Nat.min_self]
 sh:=fun i d h _=>s.sh i d (zcx h).1 (zcx h).2
 ow:=fun i d h hm=>by rw [zbG,List.getElem?_map,(zcx h).2] at hm; cases hm
 bw:=fun i d h hm=>by rw [zbG,List.getElem?_map,(zcx h).2] at hm; cases hm
 dis:=fun i j a d e _ h _ hm=>by rw [zbG,List.getElem?_map,(zcx h).2] at hm; cases hm
 lk:=fun i o _ hm=>by rw [zbG,List.getElem?_map] at hm; cases q:m[i]? <;> rw [q] at hm <;> cases hm
theorem SI.set (s:SI X g m r G st H) (i:Nat) {v:V} {d:D} (hv:RG X.K G v d):SI X g (m.set i .sh) (r.set i (some d)) G (st.set i (some v)) H where
 gok:=s.gok
 old:=s.old
 ge:=s.ge
 gf:=s.gf
 lm:=by simp [s.lm]
 lr:=by simp [s.lr]
 sh:=fun j e h hm=>by
  by_cases hij:i=j
  ·subst hij
   have hl:i < r.length:=by
    have:=(List.getElem?_eq_some_iff.mp h).1
    simpa using this
   rw [List.getElem?_set_self hl] at h
   cases h
   exact ⟨v,by rw [List.getElem?_set_self (by rw [<-s.lr]; exact hl)],hv⟩
  ·rw [List.getElem?_set_ne hij] at h hm
   rw [List.getElem?_set_ne hij]
   exact s.sh j e h hm
 ow:=fun j e h hm=>by
  by_cases hij:i=j
  ·subst hij
   have hl:i < m.length:=by
    have:=(List.getElem?_eq_some_iff.mp hm).1
    simpa using this
   rw [List.getElem?_set_self hl] at hm; cases hm
  ·rw [List.getElem?_set_ne hij] at h hm
   rw [List.getElem?_set_ne hij]
   exact s.ow j e h hm
 bw:=fun j e h hm=>by
  by_cases hij:i=j
  ·subst hij
   have hl:i < m.length:=by
    have:=(List.getElem?_eq_some_iff.mp hm).1
    simpa using this
   rw [List.getElem?_set_self hl] at hm; cases hm
  ·rw [List.getElem?_set_ne hij] at h hm
   rw [List.getElem?_set_ne hij]
   exact s.bw j e h hm
 dis:=fun j k a d1 d2 hjk h1 h2 hm hm' q1 q2=>by
  have hij:i≠j:=by
   rintro rfl
   have hl:i < m.length:=by
    have:=(List.getElem?_eq_some_iff.mp hm).1
    simpa using this
   rw [List.getElem?_set_self hl] at hm; cases hm
  have hik:i≠k:=by
   rintro rfl
   have hl:i < m.length:=by
    have:=(List.getElem?_eq_some_iff.mp h2).1
    rw [List.length_set,s.lr,<-s.lm] at this; exact this
   rw [List.getElem?_set_self hl] at hm'; cases hm'
  rw [List.getElem?_set_ne hij] at h1 hm q1
  rw [List.getElem?_set_ne hik] at h2 hm' q2
  exact s.dis j k a d1 d2 hjk h1 h2 hm hm' q1 q2
 lk:=fun j o hj hm=>by
  have hij:i≠j:=by
   rintro rfl
   have hl:i < m.length:=by
    have:=(List.getElem?_eq_some_iff.mp hm).1
    simpa using this
   rw [List.getElem?_set_self hl] at hm; cases hm
  rw [List.getElem?_set_ne hij] at hm
  have:=s.lk j o hj hm
  exact ⟨by rw [List.getElem?_set_ne hij]; exact this.1,fun d h=>this.2 d (by rw [List.getElem?_set_ne hij] at h; exact h)⟩
theorem SI.setO (s:SI X g m r G st H) (i:Nat) {a:Addr} {d:D} (ho:Own X.K G H a d) (h0:g.h0 a=none) (hx:∀(j:Nat) (b:Addr) (e:D),r[j]? = some (some e)->m[j]? = some Md.ow->st[j]? = some (some (V.ref b))->b≠a) :
  SI X g (m.set i .ow) (r.set i (some d)) G (st.set i (some (V.ref a))) H where
 gok:=s.gok
 old:=s.old
 ge:=s.ge
 gf:=s.gf
 lm:=by simp [s.lm]
 lr:=by simp [s.lr]
 sh:=fun j e h hm=>by
  by_cases hij:i=j
  ·subst hij
   have hl:i < m.length:=by
    have:=(List.getElem?_eq_some_iff.mp hm).1
    simpa using this
   rw [List.getElem?_set_self hl] at hm; cases hm
  ·rw [List.getElem?_set_ne hij] at h hm
   rw [List.getElem?_set_ne hij]
   exact s.sh j e h hm
 ow:=fun j e h hm=>by
  by_cases hij:i=j
  ·subst hij
   have hl:i < r.length:=by
    have:=(List.getElem?_eq_some_iff.mp h).1
    simpa using this
   rw [List.getElem?_set_self hl] at h
   cases h
   exact ⟨a,by rw [List.getElem?_set_self (by rw [<-s.lr]; exact hl)],ho,h0⟩
  ·rw [List.getElem?_set_ne hij] at h hm
   rw [List.getElem?_set_ne hij]
   exact s.ow j e h hm
 bw:=fun j e h hm=>by
  by_cases hij:i=j
  ·subst hij
   have hl:i < m.length:=by
    have:=(List.getElem?_eq_some_iff.mp hm).1
    simpa using this
   rw [List.getElem?_set_self hl] at hm; cases hm
  ·rw [List.getElem?_set_ne hij] at h hm
   rw [List.getElem?_set_ne hij]
   exact s.bw j e h hm
 dis:=fun j k b d1 d2 hjk h1 h2 hm hm' q1 q2=>by
  by_cases hij:i=j
  ·subst hij
   rw [List.getElem?_set_ne hjk] at h2 hm' q2
   have hl:i < st.length:=by
    have:=(List.getElem?_eq_some_iff.mp q1).1
    simpa using this
   rw [List.getElem?_set_self hl] at q1
   have e:a=b:=by injection q1 with q1; injection q1 with q1; injection q1
   exact hx k b d2 h2 hm' q2 e.symm
  ·by_cases hik:i=k
   ·subst hik
    rw [List.getElem?_set_ne hij] at h1 hm q1
    have hl:i < st.length:=by
     have:=(List.getElem?_eq_some_iff.mp q2).1
     simpa using this
    rw [List.getElem?_set_self hl] at q2
    have e:a=b:=by injection q2 with q2; injection q2 with q2; injection q2
    exact hx j b d1 h1 hm q1 e.symm
   ·rw [List.getElem?_set_ne hij] at h1 hm q1
    rw [List.getElem?_set_ne hik] at h2 hm' q2
    exact s.dis j k b d1 d2 hjk h1 h2 hm hm' q1 q2
 lk:=fun j o hj hm=>by
  have hij:i≠j:=by
   rintro rfl
   have hl:i < m.length:=by
    have:=(List.getElem?_eq_some_iff.mp hm).1
    simpa using this
   rw [List.getElem?_set_self hl] at hm; cases hm
  rw [List.getElem?_set_ne hij] at hm
  have:=s.lk j o hj hm
  exact ⟨by rw [List.getElem?_set_ne hij]; exact this.1,fun d h=>this.2 d (by rw [List.getElem?_set_ne hij] at h; exact h)⟩
theorem SI.other (s:SI X g m r G st H) {p:Addr} (hp:G p=none) (h0:g.h0 p=none) (hm:∀(i:Nat),m[i]?≠some Md.ow) (o:HO):SI X g m r G st (upd H p o) where
 gok:=fun b e h=>(s.gok b e h).mono (fun _ _ z=>z) fun o' q=>by rw [zal (by rintro rfl; rw [hp] at h; cases h)]; exact q
 old:=fun b o' h=>by rw [zal (by rintro rfl; rw [h0] at h; cases h)]; exact s.old b o' h
 ge:=s.ge
 gf:=s.gf
 lm:=s.lm
 lr:=s.lr
 sh:=s.sh
 ow:=fun i d _ h=>absurd h (hm i)
 bw:=fun i d h1 h2=>by
  obtain ⟨v,h3,h4⟩:=s.bw i d h1 h2
  refine ⟨v,h3,?_⟩
  rcases h4 with h4 | ⟨a,rfl,h4,h5⟩
  ·exact .inl h4
  ·have ha:a≠p:=by rintro rfl; exact h5 h0
   exact .inr ⟨a,rfl,⟨h4.un,h4.ob.mono (fun _ _ z=>z) fun o' z=>by rw [zal ha]; exact z⟩,h5⟩
 dis:=fun i j a d e _ _ _ h=>absurd h (hm i)
 lk:=s.lk
theorem SI.less (s:SI X g m r G st H) {r':Rho} (hl:r'.length=r.length) (h:∀(i:Nat) d,r'[i]? = some (some d)->r[i]? = some (some d)):SI X g m r' G st H:=
 ⟨s.gok,s.old,s.ge,s.gf,s.lm,hl.trans s.lr,fun i d a b=>s.sh i d (h i d a) b,fun i d a b=>s.ow i d (h i d a) b,fun i d a b=>s.bw i d (h i d a) b,fun i j a d e n p q x y=>s.dis i j a d e n (h i d p) (h j e q) x y,fun i o hi hm=>by
  have:=s.lk i o hi hm
  exact ⟨this.1,fun d hd=>this.2 d (h i d hd)⟩⟩
theorem SI.held (s:SI X g m r G st H) {j:Nat} {b:Addr} {e:D} (h:r[j]? = some (some e)) (hm:m[j]? = some .ow) (hs:st[j]? = some (some (V.ref b))):H b≠none:=by
 obtain ⟨a,h1,h2,_⟩:=s.ow j e h hm
 rw [hs] at h1
 injection h1 with h1; injection h1 with h1; injection h1 with h1
 rw [h1]; exact h2.ob.isS
theorem SI.setN (s:SI X g m r G st H) {G':GH} {H':Hp} (w:Grow X.K G H G' H') (i:Nat) {a:Addr} {d:D} (hn:H a=none) (ho:Own X.K G' H' a d):SI X g (m.set i .ow) (r.set i (some d)) G' (st.set i (some (V.ref a))) H':=by
 refine (s.grow w).setO i ho ?_ fun j b e h1 h2 h3=>?_
 ·cases q:g.h0 a with
  | none=>rfl
  | some o=>rw [s.old _ _ q] at hn; cases hn
 ·rintro rfl
  exact s.held h1 h2 h3 hn
theorem SI.mut (s:SI X g m r G st H) {i:Nat} {d:D} (hm:m[i]? = some .ow) (hd:r[i]? = some (some d)) :
  ∃a,st[i]? = some (some (V.ref a))/\Own X.K G H a d/\∀(o':HO) (d':D),OwnO X.K G (upd H a o') a d'->SI X g m (r.set i (some d')) G st (upd H a o'):=by
 obtain ⟨a,h1,h2,h3⟩:=s.ow i d hd hm
 have hl:i < r.length:=(List.getElem?_eq_some_iff.mp hd).1
 refine ⟨a,h1,h2,fun o' d' ob=>?_⟩
 have oth:∀(j:Nat) (b:Addr) (e:D),j≠i->r[j]? = some (some e)->m[j]? = some .ow->st[j]? = some (some (V.ref b))->b≠a:=fun j b e hj q1 q2 q3 z=>by
  subst z
  exact s.dis i j b d e (Ne.symm hj) hd q1 hm q2 h1 q3
 refine ⟨fun b e h=>?_,fun b o h=>?_,s.ge,s.gf,s.lm,by simp [s.lr],?_,?_,?_,?_,fun j o hj hm'=>?_⟩
 ·have hb:b≠a:=by rintro rfl; rw [h2.un] at h; cases h
  exact (s.gok b e h).mono (fun _ _ z=>z) fun o q=>by rw [zal hb]; exact q
 ·have hb:b≠a:=by rintro rfl; rw [h3] at h; cases h
  rw [zal hb]; exact s.old b o h
 ·intro j e h hm'
  have hij:i≠j:=by rintro rfl; rw [hm] at hm'; cases hm'
  rw [List.getElem?_set_ne hij] at h
  exact s.sh j e h hm'
 ·intro j e h hm'
  by_cases hij:i=j
  ·subst hij
   rw [List.getElem?_set_self hl] at h; cases h
   exact ⟨a,h1,⟨h2.un,ob⟩,h3⟩
  ·rw [List.getElem?_set_ne hij] at h
   obtain ⟨b,q1,q2,q3⟩:=s.ow j e h hm'
   have hb:=oth j b e (Ne.symm hij) h hm' q1
   exact ⟨b,q1,⟨q2.un,q2.ob.mono (fun _ _ z=>z) fun o z=>by rw [zal hb]; exact z⟩,q3⟩
 ·intro j e h hm'
  have hij:i≠j:=by rintro rfl; rw [hm] at hm'; cases hm'
  rw [List.getElem?_set_ne hij] at h
  obtain ⟨v,q1,q2⟩:=s.bw j e h hm'
  refine ⟨v,q1,?_⟩
  rcases q2 with q2 | ⟨b,rfl,q2,q3⟩
  ·exact .inl q2
  ·have hb:b≠a:=by rintro rfl; exact q3 h3
   exact .inr ⟨b,rfl,⟨q2.un,q2.ob.mono (fun _ _ z=>z) fun o z=>by rw [zal hb]; exact z⟩,q3⟩
 ·have bound:∀(j:Nat) e,(r.set i (some d'))[j]? = some (some e)->∃e',r[j]? = some (some e'):=fun j e h=>by
   by_cases hij:i=j
   ·subst hij; exact ⟨d,hd⟩
   ·rw [List.getElem?_set_ne hij] at h; exact ⟨e,h⟩
  intro j k b d1 d2 hjk q1 q2 p1 p2 z1 z2
  obtain ⟨e1,q1⟩:=bound j d1 q1
  obtain ⟨e2,q2⟩:=bound k d2 q2
  exact s.dis j k b e1 e2 hjk q1 q2 p1 p2 z1 z2
 ·have hij:i≠j:=by rintro rfl; rw [hm] at hm'; cases hm'
  have:=s.lk j o hj hm'
  exact ⟨this.1,fun d'' h=>this.2 d'' (by rw [List.getElem?_set_ne hij] at h; exact h)⟩
end
def RV (ro:Bool) (K:W.Frag) (H0:Hp) (G:GH) (H:Hp) (v:V) (d:D):Prop:=match ro with
 | false=>RG K G v d
 | true=>(∃a,v=.ref a/\H0 a=none/\Own K G H a d)\/(d=.non/\v=.non)
def oTo (X:Cx) (g:GE) (ro:Bool) (m' mb:List Md) (G:GH) (D:Ends):Out->Prop
 | .nx r'=>∀σ' G' H',Gle G G'->SI X g m' r' G' σ' H'->D.nx σ' H'
 | .rt d=>∀v G' H',Grow X.K g.gh g.h0 G' H'->RV ro X.K g.h0 G' H' v d->D.rt v H'
 | .bk r'=>∀σ' G' H',Gle G G'->SI X g mb r' G' σ' H'->D.bk σ' H'
 | .ct r'=>∀σ' G' H',Gle G G'->SI X g mb r' G' σ' H'->D.ct σ' H'
 | .exc x r'=>∀pins e s' σ' G' H',Gle G G'->SI X g (zbG m') r' G' σ' H'->Inv X pins σ' H' s'->ExV X σ' G' H' e x s'->X.xe e s'
 | .stuck=>False
def tS (X:Cx) (g:GE) (ro:Bool) (m m' mb:List Md) (f:FS):TS:=fun D σ H=>∃r G,SI X g m r G σ H/\oTo X g ro m' mb G D (f r)
def SS (X:Cx) (g:GE) (ro:Bool) (mb m:List Md) (st:Stmt) (f:FS) (m':List Md):Prop:=m'.length=m.length/\PS X st (tS X g ro m m' mb f)
def SSs (X:Cx) (g:GE) (ro:Bool) (mb m:List Md) (st:List Stmt) (f:FS) (m':List Md):Prop:=m'.length=m.length/\PSs X st (tS X g ro m m' mb f)
theorem zek {m m':List Md} (h:m'.length=m.length):zbG m'=zbG m:=by
 unfold zbG
 rw [List.map_const',List.map_const',h]
theorem oTo.x {X:Cx} {g:GE} {ro:Bool} {m m' mb:List Md} {r:Rho} {G:GH} {D:Ends} {σ:L2.St} {H:Hp} {x:DL.D} (h:oTo X g ro m' mb G D (.exc x (forget m r))) (si:SI X g m r G σ H) (hl:m'.length=m.length):XW X σ G H x:=
 fun pins e s' G' H' w I ex=>h pins e s' σ G' H' w.ge (by rw [zek hl]; exact (si.grow w).forget) I ex
section
variable {X:Cx} {g:GE} {ro:Bool} {m m' m1 mb:List Md} {e a b c tg:Expr} {f fa fb fc:FE} {p:FQ} {pos pos':Pos} {st:Stmt} {sts sts':List Stmt} {s1 s2:FS}
theorem oTo.gle {G G1:GH} {D:Ends} {o:Out} (h:oTo X g ro m' mb G D o) (w:Gle G G1):oTo X g ro m' mb G1 D o:=by
 cases o with
 | nx r'=>exact fun σ' G' H' q si=>h σ' G' H' (w.trans q) si
 | rt d=>exact h
 | bk r'=>exact fun σ' G' H' q si=>h σ' G' H' (w.trans q) si
 | ct r'=>exact fun σ' G' H' q si=>h σ' G' H' (w.trans q) si
 | exc x r'=>exact fun pins e s' σ' G' H' q=>h pins e s' σ' G' H' (w.trans q)
 | stuck=>exact h
def seqF (s1 s2:FS):FS:=fun r=>match s1 r with
 | .nx r'=>s2 r'
 | o=>o
def zaj:FS:=fun r=>.nx r
theorem zad:SSs X g ro mb m [] zaj m:=⟨rfl,PSs.imp znJ fun D σ H ⟨r,G,si,q⟩=>q σ G H (Gle.refl G) si⟩
theorem zaa (h1:SS X g ro mb m st s1 m1) (h2:SSs X g ro mb m1 sts s2 m'):SSs X g ro mb m (st::sts) (seqF s1 s2) m':=by
 refine ⟨h2.1.trans h1.1,PSs.imp (zeZ h1.2 h2.2) fun D σ H ⟨r,G,si,q⟩=>⟨r,G,si,?_⟩⟩
 unfold seqF at q
 cases e:s1 r with
 | nx r'=>
  rw [e] at q
  exact fun σ' G' H' w si'=>⟨r',G',si',oTo.gle q w⟩
 | rt d=>rw [e] at q; exact q
 | bk r'=>rw [e] at q; exact q
 | ct r'=>rw [e] at q; exact q
 | exc x r'=>rw [e] at q; exact fun pins e s' σ' G' H' w si'=>q pins e s' σ' G' H' w (by rw [zek h2.1]; exact si')
 | stuck=>rw [e] at q; exact q
theorem zjz (i:Nat) (hi:m[i]? = some .ow) (h:SS X g ro mb (m.set i .sh) st s1 m'):SS X g ro mb m st s1 m':=by
 refine ⟨h.1.trans (by simp),fun pins s σ H D I ⟨r,G,si,q⟩=>?_⟩
 rcases si.frz i hi with ⟨G',le,si'⟩ | ⟨a,z⟩
 ·exact h.2 pins s σ H D I ⟨r,G',si',oTo.gle q le⟩
 ·obtain ⟨ob,I2⟩:=Inv.fast I a
  obtain ⟨G',le,si'⟩:=z ob
  exact h.2 pins s σ _ D I2 ⟨r,G',si',oTo.gle q le⟩
def onE {α:Type} (m:List Md) (r:Rho) (x:Res α) (k:α->Out):Out:=match x with
 | .ok a=>k a
 | .exc e=>.exc e (forget m r)
 | .stuck=>.stuck
@[simp] theorem onE_ok {α:Type} (m:List Md) (r:Rho) (a:α) (k:α->Out):onE m r (.ok a) k=k a:=rfl
theorem zbs {α:Type} {x:Res α} {k:α->Out} {r:Rho} {G:GH} {D:Ends} {σ:L2.St} {H:Hp} (si:SI X g m r G σ H) (hl:m'.length=m.length) (h:oTo X g ro m' mb G D (onE m r x k)):fin x (fun a=>oTo X g ro m' mb G D (k a)) (XW X σ G H):=by
 cases x with
 | ok a=>exact h
 | exc e=>exact oTo.x h si hl
 | stuck=>exact h
def setF (m:List Md) (i:Nat) (f:FE):FS:=fun r=>onE m r (f r) fun d=>.nx (r.set i (some d))
theorem zbY (i:Nat) {x:Str} (hN:X.N.Nodup) (hi:X.N[i]? = some x) (hx:Loc X.env.scope x) (he:SE X g m e f) (hs:swapsWith e (some (.Name x pos')) pos.line X.env=pure false:=by rfl)
  (hf:X.fn x=true\/X.env.scope.names.lookup x=some .local:=by first | exact .inl rfl | exact .inr rfl | assumption):SS X g ro mb m (.Assign [.Name x pos'] e pos) (setF m i f) (m.set i .sh):=by
 have hl:(m.set i .sh).length=m.length:=by simp
 refine ⟨hl,PS.imp (zmJ hN hi hx he hs hf) fun D σ H ⟨r,G,si,q⟩=>⟨r,G,si,?_⟩⟩
 exact zag (zbs si hl q) fun d q v G' H' w rv=>q _ G' H' w.ge ((si.grow w).set i rv)
theorem zd9 (i:Nat) {x:Str} (hN:X.N.Nodup) (hi:X.N[i]? = some x) (hx:Loc X.env.scope x) (he:SO X g m e f) (hs:swapsWith e (some (.Name x pos')) pos.line X.env=pure false:=by rfl)
  (hf:X.fn x=true\/X.env.scope.names.lookup x=some .local:=by first | exact .inl rfl | exact .inr rfl | assumption):SS X g ro mb m (.Assign [.Name x pos'] e pos) (setF m i f) (m.set i .ow):=by
 have hl:(m.set i .ow).length=m.length:=by simp
 refine ⟨hl,PS.imp (zmJ hN hi hx he hs hf) fun D σ H ⟨r,G,si,q⟩=>⟨r,G,si,?_⟩⟩
 exact zag (zbs si hl q) fun d q a G' H' w hn ho=>q _ G' H' w.ge (si.setN w i hn ho)
def zhl (m:List Md) (f:FE):FS:=fun r=>onE m r (f r) fun _=>.nx r
theorem zmE (he:SE X g m e f) (hs:swapsWith e none pos.line X.env=pure false:=by rfl):SS X g ro mb m (.Expr e pos) (zhl m f) m:=
 ⟨rfl,PS.imp (zfj he hs) fun D σ H ⟨r,G,si,q⟩=>⟨r,G,si,zag (zbs si rfl q) fun d q v G' H' w _=>q σ G' H' w.ge (si.grow w)⟩⟩
def retF (m:List Md) (f:FE):FS:=fun r=>onE m r (f r) fun d=>.rt d
theorem za7 (he:SE X g m e f):SS X g false mb m (.Return (some e) pos) (retF m f) m:=
 ⟨rfl,PS.imp (zpS he) fun D σ H ⟨r,G,si,q⟩=>⟨r,G,si,zag (zbs si rfl q) fun d q v G' H' w rv=>q v G' H' (si.grow w).grown rv⟩⟩
def ifF (m:List Md) (p:FQ) (s1 s2:FS):FS:=fun r=>onE m r (p r) fun c=>if c=true then s1 r else s2 r
theorem s_if (hc:SQ X g m c p) (h1:SSs X g ro mb m sts s1 m') (h2:SSs X g ro mb m sts' s2 m'):SS X g ro mb m (.If c sts sts' pos) (ifF m p s1 s2) m':=by
 refine ⟨h1.1,PS.imp (zrQ hc h1.2 h2.2) fun D σ H ⟨r,G,si,q⟩=>⟨r,G,si,zag (zbs si h1.1 q) fun c q G' H' w=>?_⟩⟩
 cases c with
 | true=>rw [if_pos rfl] at q ⊢; exact ⟨r,G',si.grow w,oTo.gle q w.ge⟩
 | false=>rw [if_neg Bool.false_ne_true] at q ⊢; exact ⟨r,G',si.grow w,oTo.gle q w.ge⟩
theorem zjo (i:Nat) (h:SSs X g ro mb m sts s1 m') (hi:m'[i]? = some .ow):SSs X g ro mb m sts s1 (m'.set i .sh):=by
 refine ⟨by simp [h.1],fun pins s σ H D I ⟨r,G,si,q⟩=>?_⟩
 refine thn (h.2 pins s σ H ⟨fun σ' H'=>D.nx σ' H'\/∃a,∀ob,D.nx σ' (fz H' a ob),D.rt,D.bk,D.ct⟩ I ⟨r,G,si,?_⟩) fun f s' p=>?_
 ·cases e:s1 r with
  | nx r'=>
   rw [e] at q
   intro σ' G' H' w si'
   rcases si'.frz i hi with ⟨G2,le,si2⟩ | ⟨a,z⟩
   ·exact .inl (q σ' G2 H' (w.trans le) si2)
   ·refine .inr ⟨a,fun ob=>?_⟩
    obtain ⟨G2,le,si2⟩:=z ob
    exact q σ' G2 _ (w.trans le) si2
  | rt d=>rw [e] at q; exact q
  | bk r'=>rw [e] at q; exact q
  | ct r'=>rw [e] at q; exact q
  | exc x r'=>rw [e] at q; exact fun pins e s' σ' G' H' w si'=>q pins e s' σ' G' H' w (by rw [zek (m:=m') (by simp)]; exact si')
  | stuck=>rw [e] at q; exact q
 ·cases f with
  | next=>
   obtain ⟨σ',H',I',z | ⟨a,z⟩⟩:=p
   ·exact ⟨σ',H',I',z⟩
   ·obtain ⟨ob,I2⟩:=Inv.fast I' a
    exact ⟨σ',_,I2,z ob⟩
  | brk=>exact p
  | cont=>exact p
  | ret u=>exact p
end
abbrev FT:=D->Rho->Option Rho
abbrev FTs:=List D->Rho->Option Rho
def tG (X:Cx) (g:GE) (m m':List Md) (ft:FT):TG:=fun v σ H Q=>∃r G d,SI X g m r G σ H/\RG X.K G v d/\∃r',ft d r=some r'/\∀σ',SI X g m' r' G σ' H->Q σ' H
def tGs (X:Cx) (g:GE) (m m':List Md) (ft:FTs):TGs:=fun vs σ H Q=>∃r G ds,SI X g m r G σ H/\RGs X.K G vs ds/\∃r',ft ds r=some r'/\∀σ',SI X g m' r' G σ' H->Q σ' H
theorem PG.imp {X:Cx} {e:Expr} {t t':TG} (h:PG X e t) (i:∀v σ H Q,t' v σ H Q->t v σ H Q):PG X e t':=fun pins s σ H v u Q I r q=>h pins s σ H v u Q I r (i v σ H Q q)
theorem PGs.imp {X:Cx} {e:List Expr} {t t':TGs} (h:PGs X e t) (i:∀v σ H Q,t' v σ H Q->t v σ H Q):PGs X e t':=fun pins s σ H v u Q I r q=>h pins s σ H v u Q I r (i v σ H Q q)
def SG (X:Cx) (g:GE) (m:List Md) (tg:Expr) (ft:FT) (m':List Md):Prop:=m'.length=m.length/\PG X tg (tG X g m m' ft)
structure SGs (X:Cx) (g:GE) (m:List Md) (ts:List Expr) (n:Nat) (ft:FTs) (m':List Md):Prop where
 ml:m'.length=m.length
 ln:∀ds r r',ft ds r=some r'->ds.length=n
 pg:PGs X ts (tGs X g m m' ft)
def ftN (i:Nat):FT:=fun d r=>some (r.set i (some d))
def ftT (ft:FTs):FT:=fun d r=>match d with
 | .tup ds=>ft ds r
 | .lst ds=>ft ds r
 | _=>none
def zaW:FTs:=fun ds r=>match ds with
 | []=>some r
 | _=>none
def zak (ft:FT) (fts:FTs):FTs:=fun ds r=>match ds with
 | []=>none
 | d::ds=>(ft d r).bind fun r'=>fts ds r'
section
variable {X:Cx} {g:GE} {m m' m1:List Md} {tg:Expr} {ts:List Expr} {ft:FT} {fts:FTs} {pos:Pos} {n:Nat}
theorem zaF (i:Nat) {x:Str} (hN:X.N.Nodup) (hi:X.N[i]? = some x) (hx:Loc X.env.scope x) (hf:X.fn x=true\/X.env.scope.names.lookup x=some .local:=by first | exact .inl rfl | exact .inr rfl | assumption) :
  SG X g m (.Name x pos) (ftN i) (m.set i .sh):=
 ⟨by simp,PG.imp (znO hN hi hx hf) fun v σ H Q ⟨r,G,d,si,rv,r',e,k⟩=>by cases e; exact k _ (si.set i rv)⟩
theorem zhe:SGs X g m [] 0 zaW m:=by
 refine ⟨rfl,fun ds r r' e=>?_,PGs.imp znN fun v σ H Q ⟨r,G,ds,si,rv,r',e,k⟩=>?_⟩
 ·cases ds with
  | nil=>rfl
  | cons _ _=>cases e
 ·cases rv with
  | nil=>cases e; exact ⟨rfl,k σ si⟩
  | cons _ _=>cases e
theorem zb0 (h1:SG X g m tg ft m1) (h2:SGs X g m1 ts n fts m') (hs:(assignEach (tg::ts) X.env).map (·.2)=assign tg X.env::(assignEach ts X.env).map (·.2):=by rfl):SGs X g m (tg::ts) (n + 1) (zak ft fts) m':=by
 refine ⟨h2.ml.trans h1.1,fun ds r r' e=>?_,PGs.imp (zlL h1.2 h2.pg hs) fun v σ H Q ⟨r,G,ds,si,rv,r',e,k⟩=>?_⟩
 ·cases ds with
  | nil=>cases e
  | cons d ds=>
   have e':((ft d r).bind fun r'=>fts ds r')=some r':=e
   cases q:ft d r with
   | none=>rw [q] at e'; cases e'
   | some r1=>
    rw [q] at e'
    have:=h2.ln ds r1 r' e'
    simp [this]
 ·cases rv with
  | nil=>cases e
  | @cons v0 d vs ds rv rs=>
   have e':((ft d r).bind fun r'=>fts ds r')=some r':=e
   cases q:ft d r with
   | none=>rw [q] at e'; cases e'
   | some r1=>
    rw [q] at e'
    exact ⟨_,_,rfl,r,G,d,si,rv,r1,q,fun σ' si'=>⟨r1,G,ds,si',rs,r',e',k⟩⟩
theorem zpV {k:Nat} {t:TGs} (hc:X.calm=true) (h:PGs X ts t) (hn:(assignEach ts X.env).length=n) (hst:(assignEach ts X.env).findIdx? (·.1)=none) :
  PG X (.Tuple ts k pos) (fun v σ H Q=>∃a xs,v=.ref a/\SqL X.K H a xs/\xs.length=n/\t xs σ H Q):=by
 intro pins s σ H v u Q I r hw
 obtain ⟨a,xs,e1,hq,hl,hw⟩:=hw
 subst e1
 cases r
 obtain ⟨its,rv,⟨o,nn,l1,l2,l3,l4⟩,hz⟩:=I.list hq
 rw [PyProof.Rows.assign_Tuple]
 refine wpAny_bind (wpAny_standAt ?_)
 unfold unpack
 rw [hst,show (assignEach ts X.env).length=its.toArray.size by simp [hn,<-hl,rv.length]]
 refine wpAny_bind (wpAny_holding (W.kun_itemsOf (I.ok.hd hc) ⟨o,l1,l2,nn,l4⟩ fun h' hx=>?_))
 have I1:Inv X pins σ H { s with heap:=h' }:=I.kept (t':=s.toks) fun b o e=>hx b o (Nat.ne_of_lt (Heap.lt_size e)) e
 exact h pins _ σ H xs _ Q I1 (by simpa using rv) hw
theorem PG.or {e:Expr} {t t':TG} (h:PG X e t) (h':PG X e t'):PG X e (fun v σ H Q=>t v σ H Q\/t' v σ H Q):=fun pins s σ H v u Q I r q=>q.elim (h pins s σ H v u Q I r) (h' pins s σ H v u Q I r)
theorem zhd {k:Nat} (hc:X.calm=true) (h:SGs X g m ts n fts m') (hn:(assignEach ts X.env).length=n:=by rfl) (hst:(assignEach ts X.env).findIdx? (·.1)=none:=by rfl):SG X g m (.Tuple ts k pos) (ftT fts) m':=by
 refine ⟨h.ml,PG.imp (PG.or (zpW hc h.pg hn hst) (zpV hc h.pg hn hst)) fun v σ H Q ⟨r,G,d,si,rv,r',e,k⟩=>?_⟩
 cases d with
 | tup ds=>
  obtain ⟨a,xs,rfl,s,rs⟩:=rv.tup si.gok
  exact .inl ⟨a,xs,rfl,s,(Paired.length rs).trans (h.ln ds r r' e),r,G,ds,si,rs,r',e,k⟩
 | lst ds=>
  obtain ⟨a,xs,rfl,s,rs⟩:=rv.lst si.gok
  exact .inr ⟨a,xs,rfl,s,(Paired.length rs).trans (h.ln ds r r' e),r,G,ds,si,rs,r',e,k⟩
 | _=>cases e
end
structure Yields (K:W.Frag) (J:It) (ds:List D) (G0:GH):Prop where
 go:∀G H (i:Nat),Gle G0 G->GOk K G H->i < ds.length->J.go i H
 yld:∀G H (i:Nat) x H' d,Gle G0 G->GOk K G H->J.yld i H x H'->ds[i]? = some d->∃G',Grow K G H G' H'/\RG K G' x d
 stop:∀G H,Gle G0 G->GOk K G H->J.stop ds.length H
abbrev FI:=Rho->Res (List D)
def tI (X:Cx) (g:GE) (m:List Md) (f:FI):TI:=fun σ H R=>∃r G,SI X g m r G σ H/\fin (f r) (fun ds=>∀J G' H',Grow X.K G H G' H'->Yields X.K J ds G'->R J H') (XW X σ G H)
def SIt (X:Cx) (g:GE) (m:List Md) (tg iter:Expr) (f:FI):Prop:=PI X tg iter (tI X g m f)
theorem PI.imp {X:Cx} {tg e:Expr} {t t':TI} (h:PI X tg e t) (i:∀σ H Q,t' σ H Q->t σ H Q):PI X tg e t':=fun pins s σ H R I q=>h pins s σ H R I (i σ H R q)
theorem zjh {K:W.Frag} {a:Addr} {ds:List D} {G0:GH} (h0:RG K G0 (.ref a) (.lst ds)):Yields K (Itl K a) ds G0:=by
 have at_:∀G H,Gle G0 G->GOk K G H->∃xs,SqL K H a xs/\RGs K G xs ds:=fun G H w gk=>by
  obtain ⟨b,xs,e,s,r⟩:=(h0.mono w).lst gk
  cases e
  exact ⟨xs,s,r⟩
 refine ⟨fun G H i w gk hi=>?_,fun G H i x H' d w gk y e=>?_,fun G H w gk=>?_⟩
 ·obtain ⟨xs,s,r⟩:=at_ G H w gk
  have hl:=Paired.length r
  exact ⟨xs,xs[i],s,List.getElem?_eq_getElem (by omega)⟩
 ·obtain ⟨xs,s,r⟩:=at_ G H w gk
  obtain ⟨rfl,y⟩:=y
  obtain ⟨v,e1,rv⟩:=Paired.get r e
  have:=y xs s
  rw [e1] at this; cases this
  exact ⟨G,Grow.refl gk,rv⟩
 ·obtain ⟨xs,s,r⟩:=at_ G H w gk
  exact ⟨xs,s,Nat.le_of_eq (Paired.length r)⟩
theorem zmy {K:W.Frag} {a:Addr} {ds:List D} {G0:GH} (h0:RG K G0 (.ref a) (.tup ds)):Yields K (Itt K a) ds G0:=by
 have at_:∀G H,Gle G0 G->GOk K G H->∃xs,SqT K H a xs/\RGs K G xs ds:=fun G H w gk=>by
  obtain ⟨b,xs,e,s,r⟩:=(h0.mono w).tup gk
  cases e
  exact ⟨xs,s,r⟩
 refine ⟨fun G H i w gk hi=>?_,fun G H i x H' d w gk y e=>?_,fun G H w gk=>?_⟩
 ·obtain ⟨xs,s,r⟩:=at_ G H w gk
  have hl:=Paired.length r
  exact ⟨xs,xs[i],s,List.getElem?_eq_getElem (by omega)⟩
 ·obtain ⟨xs,s,r⟩:=at_ G H w gk
  obtain ⟨rfl,y⟩:=y
  obtain ⟨v,e1,rv⟩:=Paired.get r e
  have:=y xs s
  rw [e1] at this; cases this
  exact ⟨G,Grow.refl gk,rv⟩
 ·obtain ⟨xs,s,r⟩:=at_ G H w gk
  exact ⟨xs,s,Nat.le_of_eq (Paired.length r)⟩
def rngD (lo:Int) (n:Nat):List D:=(List.range n).map fun (i:Nat)=>D.int (lo + (i:Int))
theorem zo0 {K:W.Frag} {lo:Int} {n:Nat} {G0:GH}:Yields K (Itr lo n) (rngD lo n) G0:=by
 have hl:(rngD lo n).length=n:=by simp [rngD]
 refine ⟨fun G H i w gk hi=>(by rw [hl] at hi; exact hi),fun G H i x H' d w gk y e=>?_,fun G H w gk=>(by rw [hl]; exact Nat.le_refl _)⟩
 obtain ⟨rfl,rfl⟩:=y
 have hi:i < n:=by
  have:=(List.getElem?_eq_some_iff.mp e).1
  rw [hl] at this; exact this
 unfold rngD at e
 rw [List.getElem?_map,List.getElem?_range hi] at e
 cases e
 exact ⟨G,Grow.refl gk,.scl (.int _)⟩
def zbf:D->Option (List D)
 | .lst ds=>some ds
 | .tup ds=>some ds
 | _=>none
section
variable {X:Cx} {g:GE} {m m' m1 mb:List Md} {tg e a b c iter:Expr} {f fa fb:FE} {p:FQ} {pos pos':Pos} {ro:Bool} {fl:Rho->Res (List D)} {sts:List Stmt} {s1:FS}
def fSeq (k:D->Option (List D)) (f:FE):FI:=fun r=>(f r).bind fun d=>opt (k d)
theorem zmK {l:Expr} {tl:TE} (hl:PE X l tl):PI X tg l (fun σ H R=>tl σ H fun x H1=>(∃a,x=.ref a/\(∃xs,SqL X.K H1 a xs)/\R (Itl X.K a) H1)\/∃a,x=.ref a/\(∃xs,SqT X.K H1 a xs)/\R (Itt X.K a) H1):=by
 intro pins s σ H R I h
 refine thn (hl pins s σ H _ I h) fun v s1 ⟨x,H1,I1,r1,q1⟩=>?_
 rcases q1 with ⟨a,e,⟨xs,hq⟩,q⟩ | ⟨a,e,⟨xs,hq⟩,q⟩
 ·subst e
  cases r1
  obtain ⟨its,rv,p,hz⟩:=I1.list hq
  refine wpAny_pyIter_list p.isList ?_
  refine ⟨s1.heap.objs.size,[s1.heap.objs.size],_,_,H1,rfl,I1.kept (t':=s1.toks) fun b o e=>Heap.get?_push_of_some _ e,zjm a _,⟨_,Heap.get?_push_size _ rfl,rfl,rfl⟩,fun b hb=>?_,q⟩
  have e:b=s1.heap.objs.size:=by simpa using hb
  subst e
  exact I1.fpOk (Nat.le_refl _) (I1.hok.fresh (Nat.le_refl _))
 ·subst e
  cases r1
  obtain ⟨its,rv,p,hz⟩:=I1.tuple hq
  refine wpAny_pyIter_tuple (show s1.heap.IsTuple a its.toArray from p) ?_
  refine ⟨s1.heap.objs.size,[s1.heap.objs.size],_,_,H1,rfl,I1.kept (t':=s1.toks) fun b o e=>Heap.get?_push_of_some _ e,ziI a _,⟨_,Heap.get?_push_size _ rfl,rfl,rfl⟩,fun b hb=>?_,q⟩
  have e:b=s1.heap.objs.size:=by simpa using hb
  subst e
  exact I1.fpOk (Nat.le_refl _) (I1.hok.fresh (Nat.le_refl _))
theorem zqS (h:SE X g m e f):SIt X g m tg e (fSeq zbf f):=by
 refine PI.imp (zmK h) fun σ H R ⟨r,G,si,q⟩=>⟨r,G,si,zag (zaf q) fun d q v G' H' w rv=>?_⟩
 obtain ⟨ds,e,q⟩:=zaw q
 cases d with
 | lst ds'=>
  cases e
  obtain ⟨a,xs,rfl,s,rs⟩:=rv.lst w.ok
  exact .inl ⟨a,rfl,⟨xs,s⟩,q _ G' H' w (zjh rv)⟩
 | tup ds'=>
  cases e
  obtain ⟨a,xs,rfl,s,rs⟩:=rv.tup w.ok
  exact .inr ⟨a,rfl,⟨xs,s⟩,q _ G' H' w (zmy rv)⟩
 | _=>cases e
structure YieldsC (K:W.Frag) (J:It) (ds:List D) (G0:GH) (H0:Hp):Prop where
 go:∀G H (i:Nat),Grow K G0 H0 G H->i < ds.length->J.go i H
 yld:∀G H (i:Nat) x H' d,Grow K G0 H0 G H->J.yld i H x H'->ds[i]? = some d->∃G',Grow K G H G' H'/\RG K G' x d
 stop:∀G H,Grow K G0 H0 G H->J.stop ds.length H
theorem Yields.toC {K:W.Frag} {J:It} {ds:List D} {G0:GH} {H0:Hp} (y:Yields K J ds G0):YieldsC K J ds G0 H0:=
 ⟨fun G H i w hi=>y.go G H i w.ge w.ok hi,fun G H i x H' d w q e=>y.yld G H i x H' d w.ge w.ok q e,fun G H w=>y.stop G H w.ge w.ok⟩
def tIC (X:Cx) (g:GE) (m:List Md) (f:FI):TI:=fun σ H R=>∃r G,SI X g m r G σ H/\fin (f r) (fun ds=>∀J G' H',Grow X.K G H G' H'->YieldsC X.K J ds G' H'->R J H') (XW X σ G H)
def SItC (X:Cx) (g:GE) (m:List Md) (tg iter:Expr) (f:FI):Prop:=PI X tg iter (tIC X g m f)
theorem SIt.toC {fi:FI} (h:SIt X g m tg iter fi):SItC X g m tg iter fi:=PI.imp h fun σ H R ⟨r,G,si,q⟩=>⟨r,G,si,zag q fun ds k J G' H' w y=>k J G' H' w y.toC⟩
theorem zo1 {K:W.Frag} {a:Addr} {ds:List D} {G0:GH} {H0:Hp} (o:Own K G0 H0 a (.lst ds)):YieldsC K (Itl K a) ds G0 H0:=by
 have at_:∀G H,Grow K G0 H0 G H->∃xs,SqL K H a xs/\RGs K G xs ds:=fun G H w=>by
  cases (o.mono w).ob with
  | lst r s=>exact ⟨_,SqL.of r,s⟩
 refine ⟨fun G H i w hi=>?_,fun G H i x H' d w y e=>?_,fun G H w=>?_⟩
 ·obtain ⟨xs,s,r⟩:=at_ G H w
  have hl:=Paired.length r
  exact ⟨xs,xs[i],s,List.getElem?_eq_getElem (by omega)⟩
 ·obtain ⟨xs,s,r⟩:=at_ G H w
  obtain ⟨rfl,y⟩:=y
  obtain ⟨v,e1,rv⟩:=Paired.get r e
  have:=y xs s
  rw [e1] at this; cases this
  exact ⟨G,Grow.refl w.ok,rv⟩
 ·obtain ⟨xs,s,r⟩:=at_ G H w
  exact ⟨xs,s,Nat.le_of_eq (Paired.length r)⟩
theorem zdj (h:SB X g m e f):SItC X g m tg e (fSeq zbf f):=by
 refine PI.imp (zmK h) fun σ H R ⟨r,G,si,q⟩=>⟨r,G,si,zag (zaf q) fun d q v G' H' w rv=>?_⟩
 obtain ⟨ds,e,q⟩:=zaw q
 cases d with
 | lst ds'=>
  cases e
  rcases rv with rv | ⟨a,rfl,o⟩
  ·obtain ⟨a,xs,rfl,s,rs⟩:=rv.lst w.ok
   exact .inl ⟨a,rfl,⟨xs,s⟩,q _ G' H' w (zjh rv).toC⟩
  ·cases o.ob with
   | lst r s=>exact .inl ⟨a,rfl,⟨_,SqL.of r⟩,q _ G' H' w (zo1 o)⟩
 | tup ds'=>
  cases e
  rcases rv with rv | ⟨a,rfl,o⟩
  ·obtain ⟨a,xs,rfl,s,rs⟩:=rv.tup w.ok
   exact .inr ⟨a,rfl,⟨xs,s⟩,q _ G' H' w (zmy rv).toC⟩
  ·cases o.ob
 | _=>cases e
def rng1:List D->Option (List D)
 | [.int j]=>if -(2 ^ 62)<=j/\j < 2 ^ 62 then some (rngD 0 j.toNat) else none
 | _=>none
def fRng (k:List D->Option (List D)) (fl:Rho->Res (List D)):FI:=fun r=>(fl r).bind fun ds=>opt (k ds)
theorem zeh {pn:Pos} (hg:Gl X "range") (hm:X.mg "range" = none) (ha:SAB X g m [a] fl) (hs:starEach [a] X.env=[(false,eval a X.env)]:=by rfl):SIt X g m tg (.Call (.Name "range" pn) [a] [] pos) (fRng rng1 fl):=by
 refine PI.imp (zjW hg hm ha hs) fun σ H R ⟨r,G,si,q⟩=>⟨r,G,si,zag (zaf q) fun ds q vs G' H' w rs=>?_⟩
 obtain ⟨zs,e,q⟩:=zaw q
 unfold rng1 at e
 split at e
 ·split at e
  ·rename_i j hj
   cases e
   cases rs with
   | cons r1 t=>cases t; exact ⟨j,by rw [r1.int w.ok],hj.1,hj.2,q _ G' H' w zo0⟩
  ·cases e
 ·cases e
def forF (ft:FT) (body:FS):List D->FS
 | [],r=>.nx r
 | d::ds,r=>match ft d r with
  | none=>.stuck
  | some r1=>match body r1 with
   | .nx r'=>forF ft body ds r'
   | .ct r'=>forF ft body ds r'
   | .bk r'=>.nx r'
   | o=>o
def zb3 (m:List Md) (fi:FI) (ft:FT) (body:FS):FS:=fun r=>onE m r (fi r) fun ds=>forF ft body ds r
theorem zfO (hp:PassesOwn (model X.prog X.w) X.A X.env X.xe) (hc:X.calm=true) {ft:FT} {fi:FI} (hi:SIt X g m tg iter fi) (hg:SG X g m tg ft m) (hb:SSs X g ro m m sts s1 m)
  (hs:∀x,foldedSetIterable iter X.env x=pure x:=by intro _; rfl):SS X g ro mb m (.For tg iter sts [] pos) (zb3 m fi ft s1) m:=by
 refine ⟨rfl,PS.imp (zjQ hp hc hi hg.2 hb.2 hs) fun D σ H ⟨r,G,si,q⟩=>⟨r,G,si,zag (zbs si rfl q) fun ds q J G0 H0 w0 Y=>?_⟩⟩
 refine ⟨fun i n σ H=>∃r G,SI X g m r G σ H/\Gle G0 G/\i<=ds.length/\n=ds.length - i/\oTo X g ro m mb G D (forF ft s1 (ds.drop i) r),⟨ds.length,r,G0,si.grow w0,Gle.refl G0,Nat.zero_le _,rfl,oTo.gle q w0.ge⟩,?_⟩
 rintro i n σ1 H1 ⟨r1,G1,si1,le1,hi,rfl,q1⟩
 by_cases hlt:i < ds.length
 ·have hd:ds.drop i=ds[i]::ds.drop (i + 1):=List.drop_eq_getElem_cons hlt
  rw [hd] at q1
  unfold forF at q1
  refine .inr ⟨Y.go G1 H1 i le1 si1.gok hlt,fun σ' H'=>∃r G,SI X g m r G σ' H'/\Gle G0 G/\oTo X g ro m mb G D (forF ft s1 (ds.drop (i + 1)) r),fun σ' H' ⟨r',G',si',le',q'⟩=>⟨ds.length - (i + 1),by omega,r',G',si',le',hlt,rfl,q'⟩,fun x H' y=>?_⟩
  obtain ⟨G',w',rv⟩:=Y.yld G1 H1 i x H' ds[i] le1 si1.gok y (List.getElem?_eq_getElem hlt)
  have le':Gle G0 G':=le1.trans w'.ge
  cases eft:ft ds[i] r1 with
  | none=>simp only [eft] at q1; exact q1.elim
  | some r2=>
   simp only [eft] at q1
   refine ⟨r1,G',ds[i],si1.grow w',rv,r2,eft,fun σ2 si2=>⟨r2,G',si2,?_⟩⟩
   cases eb:s1 r2 with
   | nx r'=>simp only [eb] at q1; exact fun σ3 G3 H3 le3 si3=>⟨r',G3,si3,le'.trans le3,oTo.gle q1 (Gle.trans w'.ge le3)⟩
   | ct r'=>simp only [eb] at q1; exact fun σ3 G3 H3 le3 si3=>⟨r',G3,si3,le'.trans le3,oTo.gle q1 (Gle.trans w'.ge le3)⟩
   | bk r'=>simp only [eb] at q1; exact fun σ3 G3 H3 le3 si3=>q1 σ3 G3 H3 (Gle.trans w'.ge le3) si3
   | rt d=>simp only [eb] at q1; exact q1
   | exc x r'=>simp only [eb] at q1; exact fun pins e s' σ3 G3 H3 le3=>q1 pins e s' σ3 G3 H3 (Gle.trans w'.ge le3)
   | stuck=>simp only [eb] at q1; exact q1
 ·have e:i=ds.length:=by omega
  subst e
  rw [List.drop_length] at q1
  exact .inl ⟨Y.stop G1 H1 le1 si1.gok,q1 σ1 G1 H1 (Gle.refl _) si1⟩
def zbC (m:List Md):List Md:=m.map fun x=>if x=Md.sh then Md.sh else Md.bw
def zhS (m:List Md) (r:Rho) (st:L2.St) (G:GH) (H:Hp):GE:=⟨G,H,fun i=>if m[i]? = some Md.ow\/m[i]? = some Md.bw then some ((st[i]?).join,(r[i]?).join) else none⟩
theorem zdh {m:List Md} {i:Nat} {x:Md} (h:m[i]? = some x):(zbC m)[i]? = some (if x=Md.sh then Md.sh else Md.bw):=by
 unfold zbC; rw [List.getElem?_map,h]; rfl
theorem zlZ {m:List Md} {i:Nat} (h:(zbC m)[i]? = some Md.sh):m[i]? = some Md.sh:=by
 cases q:m[i]? with
 | none=>unfold zbC at h; rw [List.getElem?_map,q] at h; cases h
 | some x=>
  rw [zdh q] at h
  cases x <;> first | rfl | (simp at h)
theorem zir {m:List Md} {i:Nat} (h:(zbC m)[i]? = some Md.ow):False:=by
 cases q:m[i]? with
 | none=>unfold zbC at h; rw [List.getElem?_map,q] at h; cases h
 | some x=>
  rw [zdh q] at h
  cases x <;> simp at h
theorem lockM_bw {m:List Md} {i:Nat} (h:(zbC m)[i]? = some Md.bw):m[i]? = some Md.ow\/m[i]? = some Md.bw:=by
 cases q:m[i]? with
 | none=>unfold zbC at h; rw [List.getElem?_map,q] at h; cases h
 | some x=>
  rw [zdh q] at h
  cases x with
  | sh=>simp at h
  | ow=>exact .inl rfl
  | bw=>exact .inr rfl
theorem SI.lock {r:Rho} {G:GH} {st:L2.St} {H:Hp} (s:SI X g m r G st H):SI X (zhS m r st G H) (zbC m) r G st H where
 gok:=s.gok
 old:=fun _ _ e=>e
 ge:=fun _ _ e=>e
 gf:=fun _ _=>rfl
 lm:=by unfold zbC; rw [List.length_map]; exact s.lm
 lr:=s.lr
 sh:=fun i d h hm=>s.sh i d h (zlZ hm)
 ow:=fun i d h hm=>(zir hm).elim
 bw:=fun i d h hm=>by
  rcases lockM_bw hm with z | z
  ·obtain ⟨a,h1,h2,_⟩:=s.ow i d h z
   exact ⟨_,h1,.inr ⟨a,rfl,h2,h2.ob.isS⟩⟩
  ·obtain ⟨v,h1,h2⟩:=s.bw i d h z
   refine ⟨v,h1,?_⟩
   rcases h2 with h2 | ⟨a,e,h2,_⟩
   ·exact .inl h2
   ·exact .inr ⟨a,e,h2,h2.ob.isS⟩
 dis:=fun i j a d e _ _ _ hm=>(zir hm).elim
 lk:=fun i o h hm=>by
  have h':(if m[i]? = some Md.ow\/m[i]? = some Md.bw then some ((st[i]?).join,(r[i]?).join) else none)=some o:=h
  rw [if_pos (lockM_bw hm)] at h'
  cases h'
  have hi:i < st.length:=by
   have:=(List.getElem?_eq_some_iff.mp hm).1
   unfold zbC at this
   rw [List.length_map,s.lm] at this; exact this
  refine ⟨?_,fun d hd=>by rw [hd]; rfl⟩
  rw [List.getElem?_eq_getElem hi]; rfl
theorem SI.unlock {r r':Rho} {G G':GH} {st st':L2.St} {H H':Hp} (s:SI X g m r G st H) (s':SI X (zhS m r st G H) (zbC m) r' G' st' H'):SI X g m r' G' st' H':=by
 have w:Grow X.K G H G' H':=s'.grown
 have hlk:∀(i:Nat),(m[i]? = some Md.ow\/m[i]? = some Md.bw)->st'[i]? = some (st[i]?).join/\∀d,r'[i]? = some (some d)->r[i]? = some (some d):=fun i hi=>by
  have hm:(zbC m)[i]? = some Md.bw:=by
   rcases hi with z | z <;> rw [zdh z] <;> simp
  obtain ⟨h1,h2⟩:=s'.lk i ((st[i]?).join,(r[i]?).join) (if_pos hi) hm
  refine ⟨h1,fun d hd=>?_⟩
  have:=h2 d hd
  cases q:r[i]? with
  | none=>rw [q] at this; cases this
  | some o=>rw [q] at this; rw [show o=some d from this]
 have hst:∀(i:Nat) v,(m[i]? = some Md.ow\/m[i]? = some Md.bw)->st[i]? = some (some v)->st'[i]? = some (some v):=fun i v hi h=>by
  rw [(hlk i hi).1,h]; rfl
 refine ⟨s'.gok,fun a o e=>s'.old a o (s.old a o e),fun a d e=>s'.ge a d (s.ge a d e),fun a h=>?_,?_,s'.lr,fun i d h hm=>?_,fun i d h hm=>?_,fun i d h hm=>?_,fun i j a d e hij h1 h2 m1 m2 q1 q2=>?_,fun i o hi hm=>?_⟩
 ·have h1:H a≠none:=by
   cases e:g.h0 a with
   | none=>exact absurd e h
   | some o=>rw [s.old _ _ e]; simp
  rw [w.gf a h1,s.gf a h]
 ·have:=s'.lm
  unfold zbC at this
  rw [List.length_map] at this; exact this
 ·exact s'.sh i d h (by rw [zdh hm]; simp)
 ·obtain ⟨a,h1,h2,h3⟩:=s.ow i d ((hlk i (.inl hm)).2 d h) hm
  exact ⟨a,hst i _ (.inl hm) h1,h2.mono w,h3⟩
 ·obtain ⟨v,h1,h2⟩:=s.bw i d ((hlk i (.inr hm)).2 d h) hm
  exact ⟨v,hst i _ (.inr hm) h1,h2.grow w⟩
 ·have e1:=(hlk i (.inl m1)).2 d h1
  have e2:=(hlk j (.inl m2)).2 e h2
  obtain ⟨b,z1,_,_⟩:=s.ow i d e1 m1
  obtain ⟨c,z2,_,_⟩:=s.ow j e e2 m2
  have y1:=hst i _ (.inl m1) z1
  have y2:=hst j _ (.inl m2) z2
  rw [q1] at y1
  rw [q2] at y2
  cases y1
  cases y2
  exact s.dis i j a d e hij e1 e2 m1 m2 z1 z2
 ·obtain ⟨h1,h2⟩:=s.lk i o hi hm
  refine ⟨?_,fun d hd=>h2 d ((hlk i (.inr hm)).2 d hd)⟩
  rw [(hlk i (.inr hm)).1,h1]; rfl
theorem SI.unlockX {r r':Rho} {G G':GH} {st st':L2.St} {H H':Hp} (s:SI X g m r G st H) (s':SI X (zhS m r st G H) (zbG (zbC m)) r' G' st' H'):SI X g (zbG m) r' G' st' H':=by
 have w:Grow X.K G H G' H':=s'.grown
 have el:zbG (zbC m)=zbG m:=zek (by unfold zbC; rw [List.length_map])
 rw [el] at s'
 have no:∀{i:Nat} {x:Md},(zbG m)[i]? = some x->x=Md.sh:=fun {i x} h=>by
  unfold zbG at h
  rw [List.getElem?_map] at h
  cases q:m[i]? with
  | none=>rw [q] at h; cases h
  | some y=>rw [q] at h; cases h; rfl
 refine ⟨s'.gok,fun a o e=>s'.old a o (s.old a o e),fun a d e=>s'.ge a d (s.ge a d e),fun a h=>?_,s'.lm,s'.lr,s'.sh,fun i d h hm=>(nomatch (no hm)),fun i d h hm=>(nomatch (no hm)),fun i j a d e hij h1 h2 m1 m2=>(nomatch (no m1)),fun i o hi hm=>(nomatch (no hm))⟩
 have h1:H a≠none:=by
  cases e:g.h0 a with
  | none=>exact absurd e h
  | some o=>rw [s.old _ _ e]; simp
 rw [w.gf a h1,s.gf a h]
theorem zpr (hp:PassesOwn (model X.prog X.w) X.A X.env X.xe) (hc:X.calm=true) {ft:FT} {fi:FI} (hi:SItC X g m tg iter fi) (hg:∀g',SG X g' (zbC m) tg ft (zbC m)) (hb:∀g',SSs X g' ro (zbC m) (zbC m) sts s1 (zbC m))
  (hs:∀x,foldedSetIterable iter X.env x=pure x:=by intro _; rfl):SS X g ro mb m (.For tg iter sts [] pos) (zb3 m fi ft s1) m:=by
 have hgA:PG X tg (fun v σ H Q=>∃g',tG X g' (zbC m) (zbC m) ft v σ H Q):=fun pins s σ H v u Q I r ⟨g',q⟩=>(hg g').2 pins s σ H v u Q I r q
 have hbA:PSs X sts (fun D σ H=>∃g',tS X g' ro (zbC m) (zbC m) (zbC m) s1 D σ H):=fun pins s σ H D I ⟨g',q⟩=>(hb g').2 pins s σ H D I q
 refine ⟨rfl,PS.imp (zjQ hp hc hi hgA hbA hs) fun D σ H ⟨r,G,si,q⟩=>⟨r,G,si,zag (zbs si rfl q) fun ds q J G0 H0 w0 Y=>?_⟩⟩
 have si0:=si.grow w0
 refine ⟨fun i n σ1 H1=>∃r1 G1,SI X (zhS m r σ G0 H0) (zbC m) r1 G1 σ1 H1/\i<=ds.length/\n=ds.length - i/\oTo X g ro m mb G1 D (forF ft s1 (ds.drop i) r1),⟨ds.length,r,G0,si0.lock,Nat.zero_le _,rfl,oTo.gle q w0.ge⟩,?_⟩
 rintro i n σ1 H1 ⟨r1,G1,si1,hi,rfl,q1⟩
 have wg:Grow X.K G0 H0 G1 H1:=si1.grown
 by_cases hlt:i < ds.length
 ·have hd:ds.drop i=ds[i]::ds.drop (i + 1):=List.drop_eq_getElem_cons hlt
  rw [hd] at q1
  unfold forF at q1
  refine .inr ⟨Y.go G1 H1 i wg hlt,fun σ' H'=>∃r' G',SI X (zhS m r σ G0 H0) (zbC m) r' G' σ' H'/\oTo X g ro m mb G' D (forF ft s1 (ds.drop (i + 1)) r'),fun σ' H' ⟨r',G',si',q'⟩=>⟨ds.length - (i + 1),by omega,r',G',si',hlt,rfl,q'⟩,fun x H' y=>?_⟩
  obtain ⟨G',w',rv⟩:=Y.yld G1 H1 i x H' ds[i] wg y (List.getElem?_eq_getElem hlt)
  cases eft:ft ds[i] r1 with
  | none=>simp only [eft] at q1; exact q1.elim
  | some r2=>
   simp only [eft] at q1
   refine ⟨zhS m r σ G0 H0,r1,G',ds[i],si1.grow w',rv,r2,eft,fun σ2 si2=>⟨zhS m r σ G0 H0,r2,G',si2,?_⟩⟩
   cases eb:s1 r2 with
   | nx r'=>simp only [eb] at q1; exact fun σ3 G3 H3 le3 si3=>⟨r',G3,si3,oTo.gle q1 (Gle.trans w'.ge le3)⟩
   | ct r'=>simp only [eb] at q1; exact fun σ3 G3 H3 le3 si3=>⟨r',G3,si3,oTo.gle q1 (Gle.trans w'.ge le3)⟩
   | bk r'=>simp only [eb] at q1; exact fun σ3 G3 H3 le3 si3=>q1 σ3 G3 H3 (Gle.trans w'.ge le3) (si0.unlock si3)
   | rt d=>
    simp only [eb] at q1
    intro v G2 H2 wr rv2
    refine q1 v G2 H2 (si0.grown.trans wr) ?_
    cases ro with
    | false=>exact rv2
    | true=>
     rcases rv2 with ⟨a,e1,e2,e3⟩ | z
     ·exact .inl ⟨a,e1,si0.grown.back e2,e3⟩
     ·exact .inr z
   | exc x r'=>simp only [eb] at q1; exact fun pins e s' σ3 G3 H3 le3 si3=>q1 pins e s' σ3 G3 H3 (Gle.trans w'.ge le3) (si0.unlockX si3)
   | stuck=>simp only [eb] at q1; exact q1
 ·have e:i=ds.length:=by omega
  subst e
  rw [List.drop_length] at q1
  exact .inl ⟨Y.stop G1 H1 wg,q1 σ1 G1 H1 (Gle.refl _) (si0.unlock si1)⟩
end
def noX:Res D->Res D
 | .ok d=>.ok d
 | _=>.stuck
@[simp] theorem noX_ok (d:D):noX (.ok d)=.ok d:=rfl
inductive ArgsOk (K:W.Frag) (G:GH) (H:Hp):List Md->List V->List D->Prop where
 | nil:ArgsOk K G H [] [] []
 | sh {v:V} {d:D} {ms:List Md} {vs:List V} {ds:List D}:RG K G v d->ArgsOk K G H ms vs ds->ArgsOk K G H (.sh::ms) (v::vs) (d::ds)
 | bw {v:V} {d:D} {ms:List Md} {vs:List V} {ds:List D}:RB K G H v d->ArgsOk K G H ms vs ds->ArgsOk K G H (.bw::ms) (v::vs) (d::ds)
section
variable {K:W.Frag} {G G':GH} {H H':Hp}
theorem ArgsOk.mono:∀{ms:List Md} {vs:List V} {ds:List D},ArgsOk K G H ms vs ds->Grow K G H G' H'->ArgsOk K G' H' ms vs ds
 | _,_,_,.nil,_=>.nil
 | _,_,_,.sh h t,w=>.sh (h.mono w.ge) (t.mono w)
 | _,_,_,.bw h t,w=>.bw (h.mono w) (t.mono w)
theorem ArgsOk.len {ms:List Md} {vs:List V} {ds:List D} (h:ArgsOk K G H ms vs ds):vs.length=ms.length/\ds.length=ms.length:=by
 induction h with
 | nil=>exact ⟨rfl,rfl⟩
 | sh h t ih=>exact ⟨congrArg (· + 1) ih.1,congrArg (· + 1) ih.2⟩
 | bw h t ih=>exact ⟨congrArg (· + 1) ih.1,congrArg (· + 1) ih.2⟩
theorem ArgsOk.app {dvs:List V} {dds:List D} (hs:Paired Scl dvs dds):∀{ms:List Md} {vs:List V} {ds:List D},ArgsOk K G H ms vs ds->ArgsOk K G H (ms++List.replicate dds.length .sh) (vs++dvs) (ds++dds)
 | _,_,_,.nil=>by
  induction hs with
  | nil=>exact .nil
  | cons h t ih=>exact .sh (.scl h) ih
 | _,_,_,.sh h t=>.sh h (t.app hs)
 | _,_,_,.bw h t=>.bw h (t.app hs)
theorem ArgsOk.get:∀{ms:List Md} {vs:List V} {ds:List D} {i:Nat} {d:D},ArgsOk K G H ms vs ds->ds[i]? = some d->∃v,vs[i]? = some v/\((ms[i]? = some .sh/\RG K G v d)\/(ms[i]? = some .bw/\RB K G H v d))
 | _,_,_,_,_,.nil,e=>by simp at e
 | _,_,_,0,_,.sh h t,e=>by simp at e; subst e; exact ⟨_,rfl,.inl ⟨rfl,h⟩⟩
 | _,_,_,0,_,.bw h t,e=>by simp at e; subst e; exact ⟨_,rfl,.inr ⟨rfl,h⟩⟩
 | _,_,_,i + 1,d,.sh h t,e=>by
  obtain ⟨v,h1,h2⟩:=t.get (i:=i) (d:=d) (by simpa using e)
  exact ⟨v,by simpa using h1,by simpa using h2⟩
 | _,_,_,i + 1,d,.bw h t,e=>by
  obtain ⟨v,h1,h2⟩:=t.get (i:=i) (d:=d) (by simpa using e)
  exact ⟨v,by simpa using h1,by simpa using h2⟩
end
def spM (K:W.Frag) (ro:Bool) (ms:List Md) (F:List D->Res D):Sp:=fun vs H Q _=>∃G ds,GOk K G H/\ArgsOk K G H ms vs ds/\fin (F ds) (fun d=>∀v G' H',Grow K G H G' H'->RV ro K H G' H' v d->Q v H') fun _=>False
def outR (ro:Bool):Out->Res D
 | .nx _=>if ro=true then .stuck else .ok .non
 | .rt d=>.ok d
 | .exc x _=>.exc x
 | _=>.stuck
def zao (n:Nat) (ds:List D):Rho:=ds.map some++List.replicate (n - ds.length) none
def zdC (n:Nat) (ms:List Md):List Md:=ms++List.replicate (n - ms.length) .sh
section
variable {P:Program} {w:World} {K:W.Frag} {mg:Str->Option Value} {base:Heap}
theorem zgf {X:Cx} {N:List Str} {ms:List Md} {vs:List V} {ds:List D} {G:GH} {H:Hp} (gk:GOk X.K G H) (rs:ArgsOk X.K G H ms vs ds) (hn:ms.length<=N.length):SI X ⟨G,H,fun _=>none⟩ (zdC N.length ms) (zao N.length ds) G (L2.start N vs) H:=by
 obtain ⟨l1,l2⟩:=rs.len
 have e1:(L2.start N vs).length=N.length:=by unfold L2.start; rw [List.length_append,List.length_map,List.length_replicate]; omega
 have e2:(zao N.length ds).length=N.length:=by unfold zao; rw [List.length_append,List.length_map,List.length_replicate]; omega
 have e3:(zdC N.length ms).length=N.length:=by unfold zdC; rw [List.length_append,List.length_replicate]; omega
 have at_:∀(i:Nat) d,(zao N.length ds)[i]? = some (some d)->i < ms.length/\(zdC N.length ms)[i]? = ms[i]?/\∃v,(L2.start N vs)[i]? = some (some v)/\((ms[i]? = some .sh/\RG X.K G v d)\/(ms[i]? = some .bw/\RB X.K G H v d)):=fun i d h=>by
  unfold zao at h
  by_cases hi:i < ds.length
  ·rw [List.getElem?_append_left (by simpa using hi),List.getElem?_map] at h
   have hd:ds[i]? = some d:=by
    cases z:ds[i]? with
    | none=>rw [z] at h; cases h
    | some d'=>rw [z] at h; cases h; rfl
   obtain ⟨v,hv,rv⟩:=rs.get hd
   refine ⟨by omega,?_,v,?_,rv⟩
   ·unfold zdC
    rw [List.getElem?_append_left (by omega)]
   ·unfold L2.start
    rw [List.getElem?_append_left (by rw [List.length_map]; omega),List.getElem?_map,hv]
    rfl
  ·rw [List.getElem?_append_right (by simpa using hi),List.getElem?_replicate] at h
   split at h <;> cases h
 refine ⟨gk,fun _ _ e=>e,fun _ _ e=>e,fun _ _=>rfl,by rw [e3,e1],by rw [e1,e2],fun i d h hm=>?_,fun i d h hm=>?_,fun i d h hm=>?_,fun i j a d e _ h _ hm=>?_,fun i o h=>nomatch h⟩
 ·obtain ⟨_,hq,v,h1,h2⟩:=at_ i d h
  rw [hq] at hm
  rcases h2 with ⟨_,h2⟩ | ⟨h3,h2⟩
  ·exact ⟨v,h1,h2⟩
  ·rw [hm] at h3; cases h3
 ·obtain ⟨_,hq,v,h1,h2⟩:=at_ i d h
  rw [hq] at hm
  rcases h2 with ⟨h3,h2⟩ | ⟨h3,h2⟩ <;> rw [hm] at h3 <;> cases h3
 ·obtain ⟨_,hq,v,h1,h2⟩:=at_ i d h
  rw [hq] at hm
  rcases h2 with ⟨h3,h2⟩ | ⟨h3,h2⟩
  ·rw [hm] at h3; cases h3
  ·refine ⟨v,h1,?_⟩
   rcases h2 with h2 | ⟨a,rfl,h2⟩
   ·exact .inl h2
   ·exact .inr ⟨a,rfl,h2,h2.ob.isS⟩
 ·obtain ⟨_,hq,v,h1,h2⟩:=at_ i d h
  rw [hq] at hm
  rcases h2 with ⟨h3,h2⟩ | ⟨h3,h2⟩ <;> rw [hm] at h3 <;> cases h3
theorem ziA {X:Cx} {ro:Bool} {fs:FS} {m':List Md} {G:GH} {H:Hp} {r:Rho} {Q:VK} (q:fin (outR ro (fs r)) (fun d=>∀v G' H',Grow X.K G H G' H'->RV ro X.K H G' H' v d->Q v H') fun _=>False) :
  oTo X ⟨G,H,fun _=>none⟩ ro m' [] G { nx:=fun _ H'=>Q .non H',rt:=Q } (fs r):=by
 cases e:fs r with
 | nx r'=>
  rw [e] at q
  cases ro with
  | false=>exact fun σ' G' H' _ si=>q .non G' H' si.grown (.scl .non)
  | true=>exact q.elim
 | rt d=>rw [e] at q; exact fun v G' H' wg rv=>q v G' H' wg rv
 | bk r'=>rw [e] at q; exact q.elim
 | ct r'=>rw [e] at q; exact q.elim
 | exc x r'=>rw [e] at q; exact q.elim
 | stuck=>rw [e] at q; exact q
theorem zm4 {x qual:Str} {st:Stmt} {f:Addr} {fd:FuncData} {N ps:List Str} {k:Nat} {ro:Bool} {ms:List Md} {fs:FS} {m':List Md} (F:Fun K x qual st f fd) (S:FnScope N ps (defScope st)) (hms:ms.length=ps.length)
  (hbody:∀(cdv:Value) (A:Around) (outer:List Env) (s:Shared) (H:Hp) (g:GE) (E:XK),Room k (A.deeper (envOfC qual (defScope st) s.heap.objs.size f cdv)) ->
   SSs (cxOf CX0 P w K mg base N qual (defScope st) f cdv A outer s H E).nox g ro [] (zdC N.length ms) (defBody st) fs m') :
  FnOk P w K mg base CX0 (k + 1) f fd ps (spM K ro ms fun ds=>outR ro (fs (zao N.length ds))):=by
 refine F.ok S (fun vs H Q E ⟨G,ds,gk,rs,q⟩=>rs.len.1.trans hms) fun cdv A outer s H vs Q E hr h=>?_
 obtain ⟨G,ds,gk,rs,q⟩:=h
 have hpl:ps.length<=N.length:=by have:=congrArg List.length S.pre; rw [List.length_take] at this; omega
 exact ⟨_,(hbody cdv A outer s H ⟨G,H,fun _=>none⟩ E hr).2,zao N.length ds,G,zgf gk rs (by omega),ziA q⟩
end
section
variable {X:Cx} {g:GE} {m:List Md} {e:Expr} {f:FE} {es:List Expr} {fl:Rho->Res (List D)} {k:Nat} {fa:Addr} {fd:FuncData} {ps:List Str} {F:List D->Res D} {dvs:List V} {ds:List Value} {dds:List D} {x:Str} {p pos:Pos} {ms:List Md}
def tLM (X:Cx) (g:GE) (m:List Md) (ms:List Md) (f:Rho->Res (List D)):TA:=fun σ H Q=>∃r G,SI X g m r G σ H/\fin (f r) (fun ds=>∀vs G' H',Grow X.K G H G' H'->ArgsOk X.K G' H' ms vs ds->Q vs H') (XW X σ G H)
def SAM (X:Cx) (g:GE) (m:List Md) (es:List Expr) (ms:List Md) (f:Rho->Res (List D)):Prop:=PA X es (tLM X g m ms f)
theorem zbe:SAM X g m [] [] lNil:=PA.imp zde fun σ H Q ⟨r,G,si,k⟩=>k [] G H (Grow.refl si.gok) .nil
theorem m_sh (ha:SE X g m e f) (hr:SAM X g m es ms fl) (hs:starEach (e::es) X.env=(false,eval e X.env)::starEach es X.env:=by rfl):SAM X g m (e::es) (.sh::ms) (zab f fl):=by
 refine PA.imp (zbb ha hr hs) fun σ H Q ⟨r,G,si,k⟩=>⟨r,G,si,zag (zaf k) fun d k1 v G1 H1 w1 r1=>⟨r,G1,si.grow w1,?_⟩⟩
 exact zaD (zaf k1) w1 fun ds z vs G2 H2 w2 r2=>z (v::vs) G2 H2 (w1.trans w2) (.sh (r1.mono w2.ge) r2)
theorem m_bw (ha:SB X g m e f) (hr:SAM X g m es ms fl) (hs:starEach (e::es) X.env=(false,eval e X.env)::starEach es X.env:=by rfl):SAM X g m (e::es) (.bw::ms) (zab f fl):=by
 refine PA.imp (zbb ha hr hs) fun σ H Q ⟨r,G,si,k⟩=>⟨r,G,si,zag (zaf k) fun d k1 v G1 H1 w1 r1=>⟨r,G1,si.grow w1,?_⟩⟩
 exact zaD (zaf k1) w1 fun ds z vs G2 H2 w2 r2=>z (v::vs) G2 H2 (w1.trans w2) (.bw (r1.mono w2) r2)
def zaz (fl:Rho->Res (List D)) (dds:List D) (F:List D->Res D):FE:=fun r=>(fl r).bind fun ds=>noX (F (ds++dds))
theorem zhp {ro:Bool} {vs:List V} {zs:List D} {G:GH} {H:Hp} {Q:VK} (gk:GOk X.K G H) (rs:ArgsOk X.K G H ms vs zs) (hsc:Paired Scl dvs dds) (q:fin (noX (F (zs++dds))) (fun d=>∀v G' H',Grow X.K G H G' H'->RV ro X.K H G' H' v d->Q v H') fun _=>False) :
  spM X.K ro (ms++List.replicate dds.length .sh) F (vs++dvs) H Q E0:=by
 refine ⟨G,zs++dds,gk,rs.app hsc,?_⟩
 cases e:F (zs++dds) with
 | ok d=>rw [e] at q; exact q
 | exc x=>rw [e] at q; exact q.elim
 | stuck=>rw [e] at q; exact q.elim
theorem zhi {α:Type} {r:Res α} {q:α->Prop} {x:D->Prop} (h:fin r q x) (hr:∀e,r≠.exc e):fin r q fun _=>False:=by
 cases r with
 | ok a=>exact h
 | exc e=>exact absurd rfl (hr e)
 | stuck=>exact h
theorem zmW (r:Res D) (e:D):noX r≠.exc e:=by cases r <;> simp [noX]
theorem zpt (G1:FnOk X.prog X.w X.K X.mg X.base CX0 k fa fd ps (spM X.K false (ms++List.replicate dds.length .sh) F)) (hr:Room k X.A) (hg:Gl X x) (hm:X.mg x=some (.ref fa)) (hk:W.keepIn X.K (.ref fa)=true) (hb:zdB X.K fd ps ds) (hd:Vals dvs ds) (hsc:Paired Scl dvs dds)
  (ha:SAM X g m (e::es) ms fl) (hdb:(x == ("__debug__" : Str))=false:=by decide) (he:starEach (e::es) X.env=(false,eval e X.env)::starEach es X.env:=by rfl) (hpl:(backTo pos (starEach es X.env)).any (·.1)=false:=by rfl) :
  SE X g m (.Call (.Name x p) (e::es) [] pos) (zaz fl dds F):=by
 refine PE.imp (znR G1 hr hg hm hk hb hd zp9 ha hdb he hpl) fun σ H Q ⟨r,G,si,q⟩=>⟨r,G,si,?_⟩
 cases ez:fl r with
 | ok zs=>
  unfold zaz at q
  rw [ez] at q
  intro vs G' H' w' rs
  exact zhp w'.ok rs hsc (zag (zhi q (zmW _)) fun d k v G2 H2 w2 rv=>k v G2 H2 (w'.trans w2) rv)
 | exc x=>unfold zaz at q; rw [ez] at q; exact q
 | stuck=>unfold zaz at q; rw [ez] at q; exact q
end
theorem zmh {env:Env}:∀(l:List (Str × NameKind)) (cs:List (Str × Addr)),(∀x∈l,x.2=.free->∃c,env.cells.lookup x.1=some c)->(∀x c,cs.lookup x=some c->env.cells.lookup x=some c) ->
  ∃cl,(forIn l cs (fun (x:Str × NameKind) (cs:List (Str × Addr))=>if (x.2 == NameKind.free)=true then (do let a <-cellOf env x.1; pure (ForInStep.yield ((x.1,a)::cs))) else pure (ForInStep.yield cs)):Sem (List (Str × Addr)))=pure cl /\
   (∀x c,cl.lookup x=some c->env.cells.lookup x=some c)/\(∀x,(x,NameKind.free)∈l->∃c,cl.lookup x=some c)/\(∀x c,cs.lookup x=some c->∃c',cl.lookup x=some c'):=by
 intro l
 induction l with
 | nil=>intro cs _ h; exact ⟨cs,rfl,h,fun x hx=>(by cases hx),fun x c h=>⟨c,h⟩⟩
 | cons y l ih=>
  intro cs hf hc
  obtain ⟨n,k⟩:=y
  by_cases hk:k=.free
  ·subst hk
   obtain ⟨c,ec⟩:=hf (n,.free) List.mem_cons_self rfl
   have e1:cellOf env n=pure c:=by unfold cellOf; rw [ec]
   have hc':∀x c',((n,c)::cs).lookup x=some c'->env.cells.lookup x=some c':=fun x c' h=>by
    rw [List.lookup_cons] at h
    cases q:x == n with
    | true=>rw [q] at h; cases h; rw [eq_of_beq q]; exact ec
    | false=>rw [q] at h; exact hc x c' h
   obtain ⟨cl,e2,h1,h2,h3⟩:=ih ((n,c)::cs) (fun x hx=>hf x (List.mem_cons_of_mem _ hx)) hc'
   refine ⟨cl,?_,h1,fun x hx=>?_,fun x c' h=>?_⟩
   ·rw [<-e2]
    rw [List.forIn_cons]
    show (cellOf env n >>= fun a=>pure (ForInStep.yield ((n,a)::cs))) >>= _=_
    rw [e1]
    rfl
   ·rcases List.mem_cons.mp hx with z | z
    ·cases z; exact h3 n c (by rw [List.lookup_cons]; simp)
    ·exact h2 x z
   ·cases q:x == n with
    | true=>exact h3 x c (by rw [List.lookup_cons,q])
    | false=>exact h3 x c' (by rw [List.lookup_cons,q]; exact h)
  ·obtain ⟨cl,e2,h1,h2,h3⟩:=ih cs (fun x hx=>hf x (List.mem_cons_of_mem _ hx)) hc
   have hb:(k == NameKind.free)=false:=by simpa using hk
   refine ⟨cl,?_,h1,fun x hx=>?_,h3⟩
   ·rw [<-e2,List.forIn_cons]
    simp only [hb,Bool.false_eq_true,if_false]
    rfl
   ·rcases List.mem_cons.mp hx with z | z
    ·cases z; exact absurd rfl hk
    ·exact h2 x z
theorem zja {scope:Scope} {env:Env} (hf:∀x∈scope.names,x.2=.free->∃c,env.cells.lookup x.1=some c) :
  ∃cl,closureFor scope env=pure cl/\(∀x c,cl.lookup x=some c->env.cells.lookup x=some c)/\(∀x,(x,NameKind.free)∈scope.names->∃c,cl.lookup x=some c):=by
 obtain ⟨cl,e,h1,h2,_⟩:=zmh scope.names [] hf (fun x c h=>by cases h)
 refine ⟨cl,?_,h1,h2⟩
 have e0:closureFor scope env=((forIn scope.names ([]:List (Str × Addr)) (fun (x:Str × NameKind) (cs:List (Str × Addr))=>if (x.2 == NameKind.free)=true then (do let a <-cellOf env x.1; pure (ForInStep.yield ((x.1,a)::cs))) else pure (ForInStep.yield cs)):Sem (List (Str × Addr))) >>= fun cs=>pure cs):=rfl
 rw [e0,e]
 rfl
theorem zdL {f:Str->NameKind->NameKind}:∀(l:List (Str × NameKind)) (x:Str),(l.map fun y=>(y.1,f y.1 y.2)).lookup x=(l.lookup x).map (f x)
 | [],x=>rfl
 | (n,k)::l,x=>by
  rw [List.map_cons,List.lookup_cons,List.lookup_cons]
  cases q:x == n with
  | true=>simp [eq_of_beq q]
  | false=>exact zdL l x
def relK (env:Env) (n:Str) (k:NameKind):NameKind:=if (k == .free && env.scope.kind == .function && env.kindOf n == some .cell)=true then .cell else k
theorem zdG (scope:Scope) (env:Env) (x:Str):(relabel scope env).names.lookup x=(scope.names.lookup x).map (relK env x):=by
 rw [<-zdL]
 unfold relabel
 congr 1
 apply List.map_congr_left
 intro y _
 obtain ⟨n,k⟩:=y
 show (if (k == NameKind.free && env.scope.kind == .function && env.kindOf n == some .cell)=true then (n,NameKind.cell) else (n,k))=(n,relK env n k)
 unfold relK
 split <;> rfl
structure CompSc (X:Cx) (scope:Scope) (N':List Str) (nl:Nat) (cap:List Nat):Prop where
 kind:scope.kind=.function
 nocell:∀y∈scope.names,y.2≠.cell
 names:∀y∈scope.names,y.2=.local->scope.names.lookup y.1=some .local
 freeK:∀y∈scope.names,y.2=.free->X.env.kindOf y.1=some .cell\/X.env.kindOf y.1=some .free
 len:N'.length=nl + cap.length
 capN:∀j,j < cap.length->∃x,N'[nl + j]? = some x/\X.N[cap.getD j 0]? = some x/\scope.names.lookup x=some .free
def cxC (X:Cx) (s₀:Shared) (H₀:Hp) (N':List Str) (scope:Scope) (cl:List (Str × Addr)) (C:Addr) (fp:List Addr):Cx where
 prog:=X.prog
 w:=X.w
 K:=X.K
 mg:=X.mg
 base:=X.base
 A:=X.A
 N:=N'
 s₀:=s₀
 H₀:=H₀
 env:=compEnvC scope cl C X.env
 outer:=X.stack
 stack:=X.stack
 ex:=fp
 fn:=fun _=>false
 calm:=X.calm
 pn:=[]
 xe:=fun _ _=>False
section
variable {X:Cx} {pins:List (Addr × Obj)} {σ:L2.St} {H:Hp} {s:Shared} {scope:Scope} {N':List Str} {nl:Nat} {cap:List Nat} {cl:List (Str × Addr)} {C:Addr} {fp:List Addr}
theorem zre (I:Inv X pins σ H s) (sc:CompSc X scope N' nl cap) (h1:∀x c,cl.lookup x=some c->X.env.cells.lookup x=some c) (h2:∀x,(x,NameKind.free)∈scope.names->∃c,cl.lookup x=some c)
  (hf:∀b∈fp,FpOk X pins H b/\b < s.heap.objs.size) (hC:s.heap.objs.size<=C):(cxC X s H N' scope cl C fp).Ok where
 mod:=I.ok.mod
 kind:=sc.kind
 glob:=I.ok.glob
 blt:=I.ok.blt
 above:=hC
 inj:=fun x y c a b=>I.ok.inj x y c (h1 x c a) (h1 y c b)
 has:=fun x hk=>by
  have hk':(scope.names.lookup x).map (relK X.env x)=some .cell\/(scope.names.lookup x).map (relK X.env x)=some .free:=by
   rw [<-zdG]; exact hk
  cases e:scope.names.lookup x with
  | none=>rw [e] at hk'; rcases hk' with z | z <;> cases z
  | some k=>
   have hm:=PySem.mem_of_lookup e
   have kf:k=.free:=by
    rw [e] at hk'
    have hk2:relK X.env x k=.cell\/relK X.env x k=.free:=by
     rcases hk' with z | z
     ·exact .inl (Option.some.inj z)
     ·exact .inr (Option.some.inj z)
    unfold relK at hk2
    split at hk2
    ·rename_i hc
     simp only [Bool.and_eq_true,beq_iff_eq] at hc
     exact hc.1.1
    ·rcases hk2 with z | z
     ·exact absurd z (sc.nocell _ hm)
     ·exact z
   subst kf
   exact h2 x hm
 cab:=fun x c h=>by cases h
 hd:=I.ok.hd
 frames:=I.ok.frames
 stk:=.inl rfl
 exf:=fun b hb=>⟨Nat.ne_of_lt (Nat.lt_of_lt_of_le (hf b hb).2 hC),fun x c e=>(hf b hb).1.2.2.2.2.1 x c (h1 x c e)⟩
 bs:=I.bs
 bsz:=Nat.le_trans I.ok.bsz I.sz
 noex:=fun b o e hb=>by
  obtain ⟨_,_,_,hx,_⟩:=(hf b hb).1
  rcases hx with z | z
  ·exact I.ok.noex b o e z
  ·exact absurd (Nat.lt_of_lt_of_le (Heap.lt_size e) (Nat.le_trans I.ok.bsz z)) (Nat.lt_irrefl _)
 exfs:=fun b hb hfs=>by
  obtain ⟨_,q1,q2,_⟩:=(hf b hb).1
  rcases List.mem_cons.mp (I.stkSub b hfs) with z | z
  ·exact q1 z
  ·exact q2 z
 funs:=I.stack
 frf:=I.stkFree
end
def zdU (ft:FT) (q:FQ) (fe:FE) (r0:Rho):List D->Res (List D)
 | []=>.ok []
 | d::ds=>(opt (ft d r0)).bind fun r1=>(q r1).bind fun c=>if c=true then (fe r1).bind fun v=>(zdU ft q fe r0 ds).bind fun vs=>.ok (v::vs) else zdU ft q fe r0 ds
def capR (nl:Nat) (cap:List Nat) (r:Rho):Rho:=List.replicate nl none++cap.map fun i=>r.getD i none
def capM (nl:Nat) (cap:List Nat) (m:List Md):List Md:=List.replicate nl Md.sh++cap.map fun i=>if m.getD i Md.sh=Md.sh then Md.sh else Md.bw
def capS (nl:Nat) (cap:List Nat) (st:L2.St):L2.St:=List.replicate nl none++cap.map fun i=>st.getD i none
theorem zfz {α:Type} {nl:Nat} {cap:List Nat} {u:α} {h:Nat->α} {i:Nat} (hi:nl<=i):(List.replicate nl u++cap.map h)[i]? = (cap[i - nl]?).map h:=by
 rw [List.getElem?_append_right (by simpa using hi),List.length_replicate,List.getElem?_map]
section
variable {X:Cx} {pins:List (Addr × Obj)} {σ:L2.St} {H H':Hp} {s:Shared} {scope:Scope} {N':List Str} {nl:Nat} {cap:List Nat} {cl:List (Str × Addr)} {C:Addr} {fp:List Addr} {g:GE} {G G':GH} {m:List Md} {r:Rho}
theorem zsm (si:SI X g m r G σ H) (w:Grow X.K G H G' H'):SI (cxC X s H N' scope cl C fp) ⟨G,H,fun _=>none⟩ (capM nl cap m) (capR nl cap r) G' (capS nl cap σ) H':=by
 have lens:(capM nl cap m).length=nl + cap.length:=by simp [capM]
 have lens2:(capR nl cap r).length=nl + cap.length:=by simp [capR]
 have lens3:(capS nl cap σ).length=nl + cap.length:=by simp [capS]
 have rget:∀(i:Nat) d,(capR nl cap r)[i]? = some (some d)->nl<=i/\∃j,cap[i - nl]? = some j/\r[j]? = some (some d):=fun i d h=>by
  by_cases hi:i < nl
  ·unfold capR at h
   rw [List.getElem?_append_left (by simpa using hi),List.getElem?_replicate] at h
   split at h <;> cases h
  ·refine ⟨by omega,?_⟩
   unfold capR at h
   rw [zfz (by omega)] at h
   cases e:cap[i - nl]? with
   | none=>rw [e] at h; cases h
   | some j=>
    rw [e] at h
    refine ⟨j,rfl,?_⟩
    have h':r.getD j none=some d:=Option.some.inj h
    rw [List.getD_eq_getElem?_getD] at h'
    cases e2:r[j]? with
    | none=>rw [e2] at h'; cases h'
    | some o=>rw [e2] at h'; rw [show o=some d from h']
 have mget:∀(i j:Nat) md,nl<=i->cap[i - nl]? = some j->(capM nl cap m)[i]? = some md->md=if m.getD j Md.sh=Md.sh then Md.sh else Md.bw:=fun i j md hi hj h=>by
  unfold capM at h
  rw [zfz hi,hj] at h
  exact (Option.some.inj h).symm
 have sget:∀(i j:Nat) v,nl<=i->cap[i - nl]? = some j->σ[j]? = some (some v)->(capS nl cap σ)[i]? = some (some v):=fun i j v hi hj h=>by
  unfold capS
  rw [zfz hi,hj]
  show some (σ.getD j none)=_
  rw [List.getD_eq_getElem?_getD,h]
  rfl
 have mj:∀(j:Nat) d,r[j]? = some (some d)->m[j]? = some (m.getD j Md.sh):=fun j d h=>by
  have hl:j < m.length:=by
   have:=(List.getElem?_eq_some_iff.mp h).1
   rw [si.lr,<-si.lm] at this; exact this
  rw [List.getD_eq_getElem?_getD,List.getElem?_eq_getElem hl]
  rfl
 refine ⟨w.ok,w.he,w.ge,w.gf,by rw [lens,lens3],by rw [lens2,lens3],fun i d h hm=>?_,fun i d h hm=>?_,fun i d h hm=>?_,fun i j a d e _ h _ hm=>?_,fun i o h=>nomatch h⟩
 ·obtain ⟨hi,j,hj,hr⟩:=rget i d h
  have e:=mget i j _ hi hj hm
  have hsh:m.getD j Md.sh=Md.sh:=by
   by_cases z:m.getD j Md.sh=Md.sh
   ·exact z
   ·rw [if_neg z] at e; cases e
  obtain ⟨v,h1,h2⟩:=si.sh j d hr (by rw [mj j d hr,hsh])
  exact ⟨v,sget i j v hi hj h1,h2.mono w.ge⟩
 ·obtain ⟨hi,j,hj,hr⟩:=rget i d h
  have e:=mget i j _ hi hj hm
  split at e <;> cases e
 ·obtain ⟨hi,j,hj,hr⟩:=rget i d h
  have e:=mget i j _ hi hj hm
  have hsh:m.getD j Md.sh≠Md.sh:=by
   intro z
   rw [if_pos z] at e; cases e
  have hmj:=mj j d hr
  cases q:m.getD j Md.sh with
  | sh=>exact absurd q hsh
  | ow=>
   rw [q] at hmj
   obtain ⟨a,h1,h2,_⟩:=si.ow j d hr hmj
   exact ⟨_,sget i j _ hi hj h1,.inr ⟨a,rfl,h2.mono w,h2.ob.isS⟩⟩
  | bw=>
   rw [q] at hmj
   obtain ⟨v,h1,h2⟩:=si.bw j d hr hmj
   refine ⟨v,sget i j _ hi hj h1,?_⟩
   rcases h2 with h2 | ⟨a,rfl,h2,_⟩
   ·exact .inl (h2.mono w.ge)
   ·exact .inr ⟨a,rfl,h2.mono w,h2.ob.isS⟩
 ·obtain ⟨hi,j',hj,hr⟩:=rget i d h
  have e:=mget i j' _ hi hj hm
  split at e <;> cases e
theorem zrg (I:Inv X pins σ H s) (ok:(cxC X s H N' scope cl C fp).Ok) (sc:CompSc X scope N' nl cap) (h1:∀x c,cl.lookup x=some c->X.env.cells.lookup x=some c) (h2:∀x,(x,NameKind.free)∈scope.names->∃c,cl.lookup x=some c)
  (hN:X.N.Nodup) {s4:Shared} {H4:Hp} {mc:Str->Option Value} (hos:s4.os=s.os) (hb:AllBare s4.gens) (kp:∀b o,s.heap.get? b=some o->s4.heap.get? b=some o) (hns:s4.heap.Ns C mc) (hC:s.heap.objs.size<=C) (hHC:H4 C=none)
  (hH:∀b,H b=none->b < s.heap.objs.size->H4 b=none) (un:Un (frs X.stack) fp H H4 s.heap s4.heap) (hok:HOk X.prog X.w H4 s4.heap):Inv (cxC X s H N' scope cl C fp) [] (capS nl cap σ) H4 s4:=by
 refine ⟨ok,hos,hb,un,⟨mc,hns,fun i x v e1 e2 e3=>?_⟩,fun x c e=>?_,hHC,fun x c e=>?_,fun p hp=>absurd (show p∈([]:List (Addr × Obj)) from hp) (by simp),hok,?_⟩
 ·have hi:nl<=i:=by
   by_cases z:i < nl
   ·unfold capS at e2
    rw [List.getElem?_append_left (by simpa using z),List.getElem?_replicate] at e2
    split at e2 <;> cases e2
   ·omega
  unfold capS at e2
  rw [zfz hi] at e2
  cases ej:cap[i - nl]? with
  | none=>rw [ej] at e2; cases e2
  | some j=>
   rw [ej] at e2
   have hj:i - nl < cap.length:=(List.getElem?_eq_some_iff.mp ej).1
   obtain ⟨x',q1,q2,q3⟩:=sc.capN (i - nl) hj
   have ed:cap.getD (i - nl) 0=j:=by rw [List.getD_eq_getElem?_getD,ej]; rfl
   rw [ed] at q2
   have ei:nl + (i - nl)=i:=by omega
   rw [ei] at q1
   have e1':N'[i]? = some x:=e1
   rw [q1] at e1'
   have ex:x'=x:=Option.some.inj e1'
   subst ex
   have hv:σ[j]? = some (some v):=by
    have z:σ.getD j none=some v:=Option.some.inj e2
    rw [List.getD_eq_getElem?_getD] at z
    cases q:σ[j]? with
    | none=>rw [q] at z; cases z
    | some o=>rw [q] at z; rw [show o=some v from z]
   have hfree:=PySem.mem_of_lookup q3
   have kX:=sc.freeK _ hfree rfl
   obtain ⟨mx,hnx,hl⟩:=I.loc
   obtain ⟨u,ru,lk⟩:=hl j x' v q2 hv (.inr kX)
   refine ⟨u,ru,.inr ?_⟩
   obtain ⟨c,ec⟩:=h2 x' hfree
   have hkk:Env.kindOf (cxC X s H N' scope cl C fp).env x'=some .cell\/Env.kindOf (cxC X s H N' scope cl C fp).env x'=some .free:=by
    have z:(relabel scope X.env).names.lookup x'=some (relK X.env x' .free):=by rw [zdG,q3]; rfl
    show (relabel scope X.env).names.lookup x'=_\/(relabel scope X.env).names.lookup x'=_
    rw [z]
    unfold relK
    split
    ·exact .inl rfl
    ·exact .inr rfl
   refine ⟨hkk,c,ec,?_⟩
   rcases lk with ⟨k,_⟩ | ⟨_,c',ec',hcell⟩
   ·rcases kX with z | z <;> rw [k] at z <;> cases z
   ·rw [h1 x' c ec] at ec'
    cases ec'
    obtain ⟨o,ho,hd⟩:=hcell
    exact ⟨o,kp c o ho,hd⟩
 ·obtain ⟨v,o,ho,hd⟩:=I.cell x c (h1 x c e)
  exact ⟨v,o,kp c o ho,hd⟩
 ·obtain ⟨v,o,ho,hd⟩:=I.cell x c (h1 x c e)
  exact hH c (I.freeC x c (h1 x c e)) (Heap.lt_size ho)
 ·show (capS nl cap σ).length=N'.length
  rw [sc.len]
  simp [capS]
end
section
variable {prog:Program} {w:World} {A:Around} {R:Result->Shared->Prop} {s:Shared}
theorem zoG {elt target iter:Expr} {ifs:List Expr} {scope:Scope} {pos:Pos} {it acc:Value} {env:Env} (I:Nat->Shared->Prop)
  (turn:∀n s,I n s->wpAny (model prog w) A (pyNext it) (fun r s1=>match r with
   | none=>R (.ok .next) s1
   | some v=>wpAny (model prog w) A (letOwnedTupleGo target it v) (fun _ s1'=>wpAny (model prog w) A (assign target env v) (fun _ s2=>
     wpAny (model prog w) A (forIn ifs true fun c r=>if r=true then do let ok <-isTrue c env (eval c env); pure (ForInStep.yield ok) else pure (ForInStep.yield r)) (fun ok s3=>
      if ok=true then wpAny (model prog w) A (eval elt env) (fun x s4=>
       wpAny (model prog w) A (call (.builtin "list.append") [acc,x]) (fun _ s5=>∃m,m < n/\I m s5) (notedBy (model prog w) A env fun e s'=>R (.error e) s') s4) (notedBy (model prog w) A env fun e s'=>R (.error e) s') s3
      else ∃m,m < n/\I m s3) (notedBy (model prog w) A env fun e s'=>R (.error e) s') s2) (notedBy (model prog w) A env fun e s'=>R (.error e) s') s1')
     (notedBy (model prog w) A env fun e s'=>R (.error e) s') s1) (notedBy (model prog w) A env fun e s'=>R (.error e) s') s)
  (n:Nat) (h:I n s):codeAny (model prog w) A (.compLoop (.ListComp elt [⟨target,iter,ifs,0⟩] scope pos) 0 it acc env) R s:=by
 refine codeAny_loop rfl I (fun n s hI=>?_) n h
 show wpAny _ A ((compTurn (.ListComp elt [⟨target,iter,ifs,0⟩] scope pos) 0 it acc env).onRaise (fun x=>do noteFrame x env; theTreesLotGoes x)) _ _ s
 refine wpAny_noted ?_
 rw [compTurn_list]
 refine wpAny_bind (wpAny_standAt (wpAny_bind (wpAny_mono (turn n s hI) (fun r s1 h1=>?_) fun _ _ h'=>h')))
 cases r with
 | none=>exact wpAny_pure h1
 | some v=>
  refine wpAny_bind (wpAny_mono h1 (fun _ s1' h1'=>?_) fun _ _ h'=>h')
  refine wpAny_bind (wpAny_mono h1' (fun _ s2 h2=>wpAny_bind (wpAny_mono h2 (fun ok s3 h3=>?_) fun _ _ h'=>h')) fun _ _ h'=>h')
  cases ok with
  | false=>exact wpAny_pure ⟨rfl,h3⟩
  | true=>
   exact wpAny_bind (wpAny_bind (wpAny_mono h3 (fun x s4 h4=>wpAny_bind (wpAny_mono h4 (fun _ s5 h5=>wpAny_pure (wpAny_pure ⟨rfl,h5⟩)) fun _ _ h'=>h')) fun _ _ h'=>h'))
end
def SQs (X:Cx) (g:GE) (m:List Md) (ifs:List Expr) (f:FQ):Prop:=∀(pins:List (Addr × Obj)) (s:Shared) (σ:L2.St) (H:Hp) (Q:Bool->Hp->Prop),Inv X pins σ H s->tQ X g m f σ H Q ->
 wpAny (model X.prog X.w) X.A (forIn ifs true fun c r=>if r=true then do let ok <-isTrue c X.env (eval c X.env); pure (ForInStep.yield ok) else pure (ForInStep.yield r)) (TP X pins σ Q) X.xe s
section
variable {X:Cx} {g:GE} {m:List Md} {c:Expr} {p:FQ}
theorem zdH:SQs X g m [] fun _=>.ok true:=fun pins s σ H Q I ⟨r,G,si,q⟩=>wpAny_tests_nil ⟨H,I,q G H (Grow.refl si.gok)⟩
theorem zpM (h:SQ X g m c p):SQs X g m [c] p:=fun pins s σ H Q I q=>wpAny_tests_one (h pins s σ H Q I q)
end
def FtOk (ft:FT) (nl:Nat):Prop:=∀d r r1,ft d r=some r1->r1.length=r.length/\∀i,nl<=i->r1[i]? = r[i]?
theorem zdk {i nl:Nat} (h:i < nl):FtOk (ftN i) nl:=fun d r r1 e=>by
 cases e
 exact ⟨by simp,fun j hj=>by rw [List.getElem?_set_ne (by omega)]⟩
section
variable {X:Cx} {pins:List (Addr × Obj)} {σ:L2.St} {H2:Hp} {s2:Shared} {scope:Scope} {N':List Str} {nl:Nat} {cap:List Nat} {cl:List (Str × Addr)} {fp:List Addr} {g:GE} {G2:GH} {m:List Md} {r:Rho} {elt tg iter:Expr} {ifs:List Expr} {pos:Pos}
 {J:It} {it:Addr} {tn:Nat->Heap->Prop} {ds vs:List D} {ft:FT} {q:FQ} {fe:FE} {E:Value->Shared->Prop}
theorem zoI (i:Nat):(capM nl cap m)[i]?≠some Md.ow:=fun h=>by
 by_cases hi:i < nl
 ·unfold capM at h
  rw [List.getElem?_append_left (by simpa using hi),List.getElem?_replicate] at h
  split at h <;> cases h
 ·unfold capM at h
  rw [zfz (by omega)] at h
  cases e:cap[i - nl]? with
  | none=>rw [e] at h; cases h
  | some j=>
   rw [e] at h
   have h':(if m.getD j Md.sh=Md.sh then Md.sh else Md.bw)=Md.ow:=Option.some.inj h
   split at h' <;> cases h'
theorem zk2 {i:Nat} (hi:i < nl) (d:D):(capR nl cap r)[i]?≠some (some d):=fun h=>by
 unfold capR at h
 rw [List.getElem?_append_left (by simpa using hi),List.getElem?_replicate] at h
 split at h <;> cases h
theorem zhm (hN:X.N.Nodup) (hcalm:X.calm=true) (sc:CompSc X scope N' nl cap) (h1:∀x c,cl.lookup x=some c->X.env.cells.lookup x=some c) (h2:∀x,(x,NameKind.free)∈scope.names->∃c,cl.lookup x=some c)
  (I2:Inv X pins σ H2 s2) (si:SI X g m r G2 σ H2) (T:Turn X.prog X.w X.K tg J fp it tn) (st:tn 0 s2.heap) (hf:∀b∈fp,FpOk X pins H2 b) (Y:YieldsC X.K J ds G2 H2) (hsz:ds.length<=sizeLine)
  (hg:∀C,SG (cxC X s2 H2 N' scope cl C fp) ⟨G2,H2,fun _=>none⟩ (capM nl cap m) tg ft (capM nl cap m)) (hft:FtOk ft nl) (hq:∀C,SQs (cxC X s2 H2 N' scope cl C fp) ⟨G2,H2,fun _=>none⟩ (capM nl cap m) ifs q) (he:∀C,SE (cxC X s2 H2 N' scope cl C fp) ⟨G2,H2,fun _=>none⟩ (capM nl cap m) elt fe)
  (hres:zdU ft q fe (capR nl cap r) ds=.ok vs) {RR:Value->Addr->Result->Shared->Prop}
  (hRR:∀(p C:Addr) (s':Shared) (H':Hp) (G':GH),Inv X pins σ H' s'->(∃mm,s'.heap.Ns C mm)->H' C=none->C≠X.env.locals->X.s₀.heap.objs.size<=C->(∀x c,X.env.cells.lookup x=some c->c≠C)->(∀z∈X.pn++pins,z.1≠C) ->
   Grow X.K G2 H2 G' H'->H2 p=none->Own X.K G' H' p (.lst vs)->RR (.ref p) C (.ok .next) s') :
  wpAny (model X.prog X.w) X.A (newList []) (fun acc s3=>wpAny (model X.prog X.w) X.A (newFunctionEnv scope X.env.globals cl [] X.env.qual none .none (some X.env)) (fun cenv s4=>
   codeAny (model X.prog X.w) X.A (.compStart (.ListComp elt [⟨tg,iter,ifs,0⟩] scope pos) 0 (.ref it) acc { cenv with scope:=relabel scope X.env }) (RR acc cenv.locals) s4) E s3) E s2:=by
 refine wpAny_newObj_type (wpAny_newFunctionEnv sc.nocell (by intro y hy; simp at hy) (fun h₁ hns₁ hsb₁=>?_) sc.kind)
 dsimp only at hns₁ hsb₁ ⊢
 generalize hH2:s2.heap.push { cls:=.type "list",dict:=none,data:=.seq ([]:List Value).toArray }=HH at hns₁ hsb₁ ⊢
 have hC:HH.objs.size=s2.heap.objs.size + 1:=by rw [<-hH2,Heap.size_push]
 have hDC:s2.heap.objs.size≠HH.objs.size:=by rw [hC]; exact Nat.ne_of_lt (Nat.lt_succ_self _)
 have hCle:s2.heap.objs.size<=HH.objs.size:=by rw [hC]; exact Nat.le_succ _
 have below:∀b,b < s2.heap.objs.size->b≠HH.objs.size/\b≠s2.heap.objs.size:=fun b hb=>⟨by rw [hC]; exact Nat.ne_of_lt (Nat.lt_succ_of_lt hb),Nat.ne_of_lt hb⟩
 have old:∀b o,s2.heap.get? b=some o->h₁.get? b=some o:=fun b o e=>hsb₁.extBut b o (below b (Heap.lt_size e)).1 (Heap.get?_push_of_some _ (hH2 ▸ Heap.get?_push_of_some _ e))
 have hacc:h₁.get? s2.heap.objs.size=some { cls:=.type "list",dict:=none,data:=.seq ([]:List Value).toArray }:=hsb₁.extBut _ _ hDC (Heap.get?_push_of_some _ (hH2 ▸ Heap.get?_push_size _ rfl))
 have hp2:H2 s2.heap.objs.size=none:=I2.hok.fresh (Nat.le_refl _)
 have hflt:∀b∈fp,FpOk X pins H2 b/\b < s2.heap.objs.size:=fun b hb=>⟨hf b hb,by
  obtain ⟨o,e,_⟩:=T.obj 0 s2.heap st b hb
  exact Heap.lt_size e⟩
 have ok:=zre (fp:=fp) I2 sc h1 h2 hflt hCle
 generalize hXX:cxC X s2 H2 N' scope cl HH.objs.size fp=XX at ok
 have hG2p:G2 s2.heap.objs.size=none:=si.gok.isN hp2
 have w0:Grow X.K G2 H2 G2 (upd H2 s2.heap.objs.size (.lst [])):=Grow.new si.gok hp2 _
 have hok4:HOk X.prog X.w (upd H2 s2.heap.objs.size (.lst [])) h₁:=I2.hok.laid old (Nat.le_refl _) ⟨Nat.zero_le _,[],0,.nil,hacc⟩
 have IC:Inv XX [] (capS nl cap σ) (upd H2 s2.heap.objs.size (.lst [])) { s2 with heap:=h₁,toks:=s2.toks + ([]:List (Str × Value)).length }:=by
  subst hXX
  refine zrg I2 ok sc h1 h2 hN rfl I2.bare old hns₁ hCle ?_ (fun b hb hlt=>?_) (Un.laid old (Nat.le_refl _) hp2) hok4
  ·rw [zal (Ne.symm hDC)]; exact I2.hok.fresh hCle
  ·rw [zal (below b hlt).2]; exact hb
 have SC:SI XX ⟨G2,H2,fun _=>none⟩ (capM nl cap m) (capR nl cap r) G2 (capS nl cap σ) (upd H2 s2.heap.objs.size (.lst [])):=by
  subst hXX
  exact zsm si w0
 have hst₁:tn 0 h₁:=T.keep _ _ _ st fun b _ o e=>old b o e
 have hfX:∀(H':Hp),(∀b∈fp,H' b=none)->∀b∈fp,FpOk XX [] H' b:=fun H' hn b hb=>by
  clear IC SC
  subst hXX
  obtain ⟨z0,z1,z2,z3,z4,z5⟩:=hf b hb
  refine ⟨hn b hb,?_,?_,?_,?_,?_⟩
  ·exact (below b (hflt b hb).2).1
  ·intro hfs
   rcases List.mem_cons.mp (I2.stkSub b hfs) with z | z
   ·exact z1 z
   ·exact z2 z
  ·exact .inl hb
  ·exact fun x c e=>z4 x c (h1 x c e)
  ·intro p hp; exact absurd (show p∈([]:List (Addr × Obj)) from hp) (by simp)
 have eA:XX.A=X.A:=Eq.rec (motive:=fun z _=>z.A=X.A) rfl hXX
 have eP:XX.prog=X.prog:=Eq.rec (motive:=fun z _=>z.prog=X.prog) rfl hXX
 have eW:XX.w=X.w:=Eq.rec (motive:=fun z _=>z.w=X.w) rfl hXX
 have eK:XX.K=X.K:=Eq.rec (motive:=fun z _=>z.K=X.K) rfl hXX
 have eX:XX.xe=fun _ _=>False:=Eq.rec (motive:=fun z _=>z.xe=fun _ _=>False) rfl hXX
 have eE:XX.env=compEnvC scope cl HH.objs.size X.env:=Eq.rec (motive:=fun z _=>z.env=compEnvC scope cl HH.objs.size X.env) rfl hXX
 have eC:XX.calm=true:=Eq.rec (motive:=fun z _=>z.calm=true) hcalm hXX
 have eH:XX.H₀ = H2:=Eq.rec (motive:=fun z _=>z.H₀ = H2) rfl hXX
 have hg':PG XX tg (tG XX ⟨G2,H2,fun _=>none⟩ (capM nl cap m) (capM nl cap m) ft):=Eq.rec (motive:=fun z _=>PG z tg (tG z ⟨G2,H2,fun _=>none⟩ (capM nl cap m) (capM nl cap m) ft)) (hg _).2 hXX
 have hq':SQs XX ⟨G2,H2,fun _=>none⟩ (capM nl cap m) ifs q:=Eq.rec (motive:=fun z _=>SQs z ⟨G2,H2,fun _=>none⟩ (capM nl cap m) ifs q) (hq _) hXX
 have he':SE XX ⟨G2,H2,fun _=>none⟩ (capM nl cap m) elt fe:=Eq.rec (motive:=fun z _=>SE z ⟨G2,H2,fun _=>none⟩ (capM nl cap m) elt fe) (he _) hXX
 have fin':∀{H':Hp} {s':Shared} {σ':L2.St} {G':GH} {ws:List V},Inv XX [] σ' H' s'->Grow X.K G2 H2 G' H'->H' s2.heap.objs.size=some (.lst ws)->G' s2.heap.objs.size=none->RGs X.K G' ws vs->RR (.ref s2.heap.objs.size) HH.objs.size (.ok .next) s':=fun {H' s' σ' G' ws} J1 wg hpp hgp rs=>by
  clear IC SC hfX hg' hq' he' eA eP eW eK eX eE eC eH
  subst hXX
  have un:=J1.base
  refine hRR _ _ s' H' G' ?_ (let ⟨mm,hn,_⟩:=J1.loc; ⟨mm,hn⟩) J1.free (Nat.ne_of_gt (Nat.lt_of_lt_of_le I2.lt hCle)) (Nat.le_trans I2.sz hCle) (fun x c e z=>?_) (fun z hz e=>?_) wg hp2 ⟨hgp,.lst hpp rs⟩
  ·refine I2.call' J1.os un J1.hok J1.bare fun b hb=>?_
   obtain ⟨z0,z1,z2,z3,z4,z5⟩:=hf b hb
   exact ⟨z3,z1,z4,z5⟩
  ·obtain ⟨v,o,ho,_⟩:=I2.cell x c e
   exact absurd (Nat.lt_of_lt_of_le (Heap.lt_size ho) hCle) (by rw [z]; exact Nat.lt_irrefl _)
  ·have:=(I2.pin z hz).1
   exact absurd (Nat.lt_of_lt_of_le (Heap.lt_size this) hCle) (by rw [e]; exact Nat.lt_irrefl _)
 have loop:codeAny (model X.prog X.w) X.A (.compLoop (.ListComp elt [⟨tg,iter,ifs,0⟩] scope pos) 0 (.ref it) (.ref s2.heap.objs.size) (compEnvC scope cl HH.objs.size X.env)) (RR (.ref s2.heap.objs.size) HH.objs.size)
   { s2 with heap:=h₁,toks:=s2.toks + ([]:List (Str × Value)).length }:=by
  refine zoG (fun n s'=>∃(i:Nat) (σ':L2.St) (H':Hp) (G':GH) (ws:List V) (done rest:List D),Inv XX [] σ' H' s'/\SI XX ⟨G2,H2,fun _=>none⟩ (capM nl cap m) (capR nl cap r) G' σ' H'/\tn i s'.heap/\(∀b∈fp,H' b=none)/\Grow X.K G2 H2 G' H' /\
    H' s2.heap.objs.size=some (.lst ws)/\G' s2.heap.objs.size=none/\RGs X.K G' ws done/\zdU ft q fe (capR nl cap r) (ds.drop i)=.ok rest/\vs=done++rest/\done.length<=i/\i<=ds.length/\n=ds.length - i) ?_ ds.length
   ⟨0,_,_,G2,[],[],vs,IC,SC,hst₁,fun b hb=>?_,w0,zam,hG2p,.nil,hres,rfl,Nat.le_refl _,Nat.zero_le _,rfl⟩
  rotate_left
  ·rw [zal (below b (hflt b hb).2).2]; exact (hf b hb).1
  rintro n s3 ⟨i,σ3,H3,G3,ws,done,rest,I3,S3,st3,fr3,w3,hp3,hg3,rs3,hr3,hv3,hd3,hi3,rfl⟩
  have weaken:∀{α:Type} {t:Sem α} {Q:α->Shared->Prop} {s':Shared} {E':Value->Shared->Prop},wpAny (model XX.prog XX.w) XX.A t Q XX.xe s'->wpAny (model X.prog X.w) X.A t Q E' s':=fun h=>by
   rw [eP,eW,eA,eX] at h
   exact wpAny_mono h (fun _ _ z=>z) fun _ _ z=>z.elim
  by_cases hlt:i < ds.length
  ·have hd:ds.drop i=ds[i]::ds.drop (i + 1):=List.drop_eq_getElem_cons hlt
   rw [hd] at hr3
   unfold zdU at hr3
   have it3:=T.item XX eP eW eK eC i [] s3 σ3 H3 (notedBy (model X.prog X.w) X.A (compEnvC scope cl HH.objs.size X.env) fun e s'=>RR (.ref s2.heap.objs.size) HH.objs.size (.error e) s') I3 (hfX H3 fr3) st3 (Y.go G3 H3 i w3 hlt)
   rw [eA] at it3
   refine thn it3 fun rr s4 ⟨u,hr,h4⟩=>?_
   subst hr
   refine thn h4 fun _ s5 ⟨x,H5,I5,r5,y5,st5,fr5⟩=>?_
   obtain ⟨G5,w5,rv5⟩:=Y.yld G3 H3 i x H5 ds[i] w3 y5 (List.getElem?_eq_getElem hlt)
   have w25:=w3.trans w5
   cases eft:ft ds[i] (capR nl cap r) with
   | none=>rw [eft] at hr3; cases hr3
   | some r1=>
    rw [eft] at hr3
    simp only [opt_some,bind_ok] at hr3
    have I5':=I5.pinned (hfX H5 fr5) (T.obj _ _ st5)
    have S5:SI XX ⟨G2,H2,fun _=>none⟩ (capM nl cap m) (capR nl cap r) G5 σ3 H5:=S3.grow (by rw [eK]; exact w5)
    have rv5':RG XX.K G5 x ds[i]:=by rw [eK]; exact rv5
    have as5:=hg' _ s5 σ3 H5 x u (fun σ6 H6=>H6=H5/\SI XX ⟨G2,H2,fun _=>none⟩ (capM nl cap m) r1 G5 σ6 H5) I5' r5 ⟨capR nl cap r,G5,ds[i],S5,rv5',r1,eft,fun σ6 si6=>⟨rfl,si6⟩⟩
    rw [eE] at as5
    refine thn (weaken as5) fun _ s6 ⟨σ6,H6,I6,e6,S6⟩=>?_
    subst e6
    obtain ⟨fl1,fl2⟩:=hft _ _ _ eft
    cases eq1:q r1 with
    | stuck=>rw [eq1] at hr3; cases hr3
    | exc xx=>rw [eq1] at hr3; cases hr3
    | ok b1=>
     rw [eq1] at hr3
     simp only [bind_ok] at hr3
     have te6:=hq' _ s6 σ6 H6 (fun b H7=>b=b1/\∃G7,Grow X.K G5 H6 G7 H7) I6 ⟨r1,G5,S6,by rw [eq1]; exact fun G7 H7 w7=>⟨rfl,G7,by rw [eK] at w7; exact w7⟩⟩
     rw [eE] at te6
     refine thn (weaken te6) fun b s7 ⟨H7,I7,eb,G7,w7⟩=>?_
     subst eb
     have S7:SI XX ⟨G2,H2,fun _=>none⟩ (capM nl cap m) r1 G7 σ6 H7:=S6.grow (by rw [eK]; exact w7)
     have w27:=w25.trans w7
     have hp7:H7 s2.heap.objs.size=some (.lst ws):=w7.he _ _ (w5.he _ _ hp3)
     have hg7:G7 s2.heap.objs.size=none:=by
      rw [w7.gf _ (by rw [w5.he _ _ hp3]; simp),w5.gf _ (by rw [hp3]; simp)]; exact hg3
     have back:∀{σ8:L2.St} {H8:Hp} {G8:GH} {s8:Shared},Inv XX ([]++zf0 fp s5.heap) σ8 H8 s8->Inv XX [] σ8 H8 s8/\tn (i + 1) s8.heap/\∀b∈fp,H8 b=none:=fun {σ8 H8 G8 s8} I8=>by
      refine ⟨I8.unpinned,T.keep _ _ _ st5 fun b hb o e=>(I8.pin (b,o) (List.mem_append_right _ (List.mem_append_right _ (zcc hb e)))).1,fun b hb=>?_⟩
      obtain ⟨o,e,_⟩:=T.obj _ _ st5 b hb
      exact (I8.pin (b,o) (List.mem_append_right _ (List.mem_append_right _ (zcc hb e)))).2.1
     have less:∀{σ8:L2.St} {H8:Hp} {G8:GH},SI XX ⟨G2,H2,fun _=>none⟩ (capM nl cap m) r1 G8 σ8 H8->SI XX ⟨G2,H2,fun _=>none⟩ (capM nl cap m) (capR nl cap r) G8 σ8 H8:=fun h=>h.less fl1.symm fun j d hj=>by
      by_cases hjn:j < nl
      ·exact absurd hj (zk2 hjn d)
      ·rw [fl2 j (by omega)]; exact hj
     cases b with
     | false=>
      rw [if_neg Bool.false_ne_true] at hr3 ⊢
      obtain ⟨I7',t7,f7⟩:=back (G8:=G7) I7
      exact ⟨ds.length - (i + 1),by omega,i + 1,σ6,H7,G7,ws,done,rest,I7',less S7,t7,f7,w27,hp7,hg7,rs3.mono (Gle.trans w5.ge w7.ge),hr3,hv3,by omega,hlt,rfl⟩
     | true=>
      rw [if_pos rfl] at hr3 ⊢
      cases ee1:fe r1 with
      | stuck=>rw [ee1] at hr3; cases hr3
      | exc xx=>rw [ee1] at hr3; cases hr3
      | ok d1=>
       rw [ee1] at hr3
       simp only [bind_ok] at hr3
       cases er:zdU ft q fe (capR nl cap r) (ds.drop (i + 1)) with
       | stuck=>rw [er] at hr3; cases hr3
       | exc xx=>rw [er] at hr3; cases hr3
       | ok rest'=>
        rw [er] at hr3
        simp only [bind_ok] at hr3
        cases hr3
        have el7:=he' _ s7 σ6 H7 (fun v H8=>∃G8,Grow X.K G7 H7 G8 H8/\RG X.K G8 v d1) I7 ⟨r1,G7,S7,by rw [ee1]; exact fun v G8 H8 w8 rv=>⟨G8,by rw [eK] at w8; exact w8,by rw [eK] at rv; exact rv⟩⟩
        rw [eE] at el7
        refine thn (weaken el7) fun u8 s8 ⟨v8,H8,I8,r8,G8,w8,rv8⟩=>?_
        have hp8:H8 s2.heap.objs.size=some (.lst ws):=w8.he _ _ hp7
        have hg8:G8 s2.heap.objs.size=none:=by rw [w8.gf _ (by rw [hp7]; simp)]; exact hg7
        have S8:SI XX ⟨G2,H2,fun _=>none⟩ (capM nl cap m) r1 G8 σ6 H8:=S7.grow (by rw [eK]; exact w8)
        have hlen:=Paired.length rs3
        have ap8:=za8 (X:=XX) _ s8 σ6 H8 (.ref s2.heap.objs.size) [v8] (.ref s2.heap.objs.size) [u8] (fun v H9=>H9=upd H8 s2.heap.objs.size (.lst (ws++[v8]))) I8 rfl (.cons r8 .nil) ⟨_,ws,v8,rfl,rfl,hp8,by omega,rfl⟩
        refine thn (weaken ap8) fun u9 s9 ⟨v9,H9,I9,r9,e9⟩=>?_
        subst e9
        obtain ⟨I9',t9,f9⟩:=back (G8:=G8) I9
        have rsn:RGs X.K G8 (ws++[v8]) (done++[d1]):=Paired.snoc (rs3.mono (Gle.trans (Gle.trans w5.ge w7.ge) w8.ge)) rv8
        have w28:=w27.trans w8
        refine ⟨ds.length - (i + 1),by omega,i + 1,σ6,_,G8,ws++[v8],done++[d1],rest',I9',less (S8.other hg8 hp2 zoI _),t9,f9,?_,zam,hg8,rsn,er,by rw [hv3,List.append_assoc]; rfl,by rw [List.length_append,List.length_singleton]; omega,hlt,rfl⟩
        refine ⟨fun b e hb=>(w28.ok b e hb).mono (fun _ _ z=>z) fun o z=>?_,fun b o hb=>?_,w28.ge,w28.gf⟩
        ·rw [zal (by rintro rfl; rw [hg8] at hb; cases hb)]; exact z
        ·rw [zal (by rintro rfl; rw [hp2] at hb; cases hb)]; exact w28.he b o hb
  ·have e:i=ds.length:=by omega
   subst e
   rw [List.drop_length] at hr3
   cases hr3
   rw [List.append_nil] at hv3
   subst hv3
   have dn:=T.done XX eP eW eK eC ds.length [] s3 σ3 H3 (notedBy (model X.prog X.w) X.A (compEnvC scope cl HH.objs.size X.env) fun e s'=>RR (.ref s2.heap.objs.size) HH.objs.size (.error e) s') I3 (hfX H3 fr3) st3 (Y.stop G3 H3 w3)
   rw [eA] at dn
   refine thn dn fun rr s4 ⟨hr,I4⟩=>?_
   subst hr
   exact fin' I4 w3 hp3 hg3 rs3
 exact codeAny_compStart_list loop (T.self X.A 0 _ _ _ hst₁ loop)
end
def noXL:Res (List D)->Res (List D)
 | .ok d=>.ok d
 | _=>.stuck
@[simp] theorem noXL_ok (d:List D):noXL (.ok d)=.ok d:=rfl
def zbZ (nl:Nat) (cap:List Nat) (fi:FI) (ft:FT) (q:FQ) (fe:FE):FE:=fun r=>(fi r).bind fun ds=>(opt (sz ds)).bind fun ds=>(noXL (zdU ft q fe (capR nl cap r) ds)).bind fun vs=>.ok (.lst vs)
section
variable {X:Cx} {g:GE} {m mb:List Md} {scope:Scope} {N':List Str} {nl:Nat} {cap:List Nat} {elt tg iter:Expr} {ifs:List Expr} {pos pos' spos:Pos} {fi:FI} {ft:FT} {q:FQ} {fe:FE} {ro:Bool}
theorem zhj {r:Rho} {P:D->Prop} {x:D->Prop} (h:fin (zbZ nl cap fi ft q fe r) P x):fin (fi r) (fun ds=>∃vs,ds.length<=sizeLine/\zdU ft q fe (capR nl cap r) ds=.ok vs/\P (.lst vs)) x:=by
 unfold zbZ at h
 refine zag (zaf h) fun ds h1=>?_
 obtain ⟨ds',e2,h2⟩:=zaw (zaf h1)
 obtain ⟨rfl,hl⟩:=znl e2
 cases e3:zdU ft q fe (capR nl cap r) ds' with
 | ok vs=>rw [e3] at h2; exact ⟨vs,hl,rfl,h2⟩
 | exc x=>rw [e3] at h2; exact h2.elim
 | stuck=>rw [e3] at h2; exact h2.elim
theorem CompSc.clo {pins:List (Addr × Obj)} {σ:L2.St} {H:Hp} {s:Shared} (sc:CompSc X scope N' nl cap) (ok:X.Ok):∃cl,closureFor scope X.env=pure cl/\(∀x c,cl.lookup x=some c->X.env.cells.lookup x=some c)/\(∀x,(x,NameKind.free)∈scope.names->∃c,cl.lookup x=some c):=
 zja fun y hy hf=>ok.has y.1 (sc.freeK y hy hf)
theorem zeK (hN:X.N.Nodup) (hcalm:X.calm=true) (sc:CompSc X scope N' nl cap) (hi:SItC X g m tg iter fi) (hg:∀s0 H0 cl C fp g',SG (cxC X s0 H0 N' scope cl C fp) g' (capM nl cap m) tg ft (capM nl cap m)) (hft:FtOk ft nl)
  (hq:∀s0 H0 cl C fp g',SQs (cxC X s0 H0 N' scope cl C fp) g' (capM nl cap m) ifs q) (he:∀s0 H0 cl C fp g',SE (cxC X s0 H0 N' scope cl C fp) g' (capM nl cap m) elt fe)
  (hs:∀x,foldedSetIterable iter X.env x=pure x:=by intro _; rfl):SO X g m (.ListComp elt [⟨tg,iter,ifs,0⟩] scope pos) (zbZ nl cap fi ft q fe):=by
 intro pins s σ H Q I h
 obtain ⟨r,G,si,k⟩:=h
 obtain ⟨cl,hcl,h1,h2⟩:=sc.clo (pins:=pins) (σ:=σ) (H:=H) (s:=s) I.ok
 have k1:=zhj k
 rw [eval_ListComp]
 refine wpAny_comprehension_free (use:=none) rfl hs hcl sc.kind sc.names (thn (hi pins s σ H (fun J H'=>∃G' ds vs,Grow X.K G H G' H'/\YieldsC X.K J ds G' H'/\ds.length<=sizeLine/\zdU ft q fe (capR nl cap r) ds=.ok vs /\
  (∀a G' H',Grow X.K G H G' H'->H a=none->Own X.K G' H' a (.lst vs)->Q (.ref a) H')) I ⟨r,G,si,zag k1 fun ds ⟨vs,z1,z2,z3⟩ J G' H' w y=>⟨G',ds,vs,w,y,z1,z2,z3⟩⟩) fun v s1 hv=>thn hv fun itv s2 hv2=>?_)
 obtain ⟨it,fp,tn,J,H2,rfl,I2,T,st,hf,G2,ds,vs,w2,Y,hsz,hres,hQ⟩:=hv2
 refine zhm (RR:=fun acc C=>compPost (model X.prog X.w) X.A X.xe none (EP X pins σ Q) acc C) hN hcalm sc h1 h2 I2 (si.grow w2) T st hf Y hsz (fun C=>hg _ _ _ _ _ _) hft (fun C=>hq _ _ _ _ _ _) (fun C=>he _ _ _ _ _ _) hres ?_
 intro p C s' H' G' I' hns hC1 hC2 hC3 hC4 hC5 w' hp ho
 obtain ⟨mm,hn⟩:=hns
 refine ⟨mm,hn,fun h' hsb=>⟨.ref p,H',?_,rfl,hQ p G' H' (w2.trans w') (w2.back hp) ho⟩⟩
 exact I'.turned (it:=C) (t':=s'.toks) (fun b o hb e=>hsb.extBut b o hb e) hC1 hC2.symm.symm (.inr hC3) hC4 hC5
theorem zfh (i:Nat) {y:Str} (hN:X.N.Nodup) (hcalm:X.calm=true) (hy:X.N[i]? = some y) (hyl:X.env.scope.names.lookup y=some .local) (sc:CompSc X scope N' nl cap) (hi:SItC X g m tg iter fi) (hg:∀s0 H0 cl C fp g',SG (cxC X s0 H0 N' scope cl C fp) g' (capM nl cap m) tg ft (capM nl cap m)) (hft:FtOk ft nl)
  (hq:∀s0 H0 cl C fp g',SQs (cxC X s0 H0 N' scope cl C fp) g' (capM nl cap m) ifs q) (he:∀s0 H0 cl C fp g',SE (cxC X s0 H0 N' scope cl C fp) g' (capM nl cap m) elt fe)
  (hsw:swapsWith (.ListComp elt [⟨tg,iter,ifs,0⟩] scope pos) (some (.Name y pos')) spos.line X.env=pure true:=by rfl) (hs:∀x,foldedSetIterable iter X.env x=pure x:=by intro _; rfl) :
  SS X g ro mb m (.Assign [.Name y pos'] (.ListComp elt [⟨tg,iter,ifs,0⟩] scope pos) spos) (setF m i (zbZ nl cap fi ft q fe)) (m.set i .ow):=by
 refine ⟨by simp,?_⟩
 intro pins s σ H D0 I h
 obtain ⟨r,G,si,k⟩:=h
 obtain ⟨cl,hcl,h1,h2⟩:=sc.clo (pins:=pins) (σ:=σ) (H:=H) (s:=s) I.ok
 have k1:=zhj (zbs si (m':=m.set i .ow) (by simp) k)
 rw [exec_Assign_Name_used _ _ _ _ hsw]
 refine wpAny_bind (wpAny_standAt (wpAny_bind ?_))
 show wpAny _ X.A (do let _ <-comprehension (.ListComp elt [⟨tg,iter,ifs,0⟩] scope pos) scope X.env _ (newList []) false (eval iter X.env) (some (assign (.Name y pos') X.env))) _ _ s
 refine wpAny_bind (wpAny_mono (wpAny_comprehension_free (use:=some (assign (.Name y pos') X.env)) (Q:=fun _ s'=>SP X pins D0 .next s') rfl hs hcl sc.kind sc.names (thn (hi pins s σ H (fun J H'=>∃G' ds vs,Grow X.K G H G' H'/\YieldsC X.K J ds G' H'/\ds.length<=sizeLine/\zdU ft q fe (capR nl cap r) ds=.ok vs /\
  (∀σ' G' H',Gle G G'->SI X g (m.set i .ow) (r.set i (some (.lst vs))) G' σ' H'->D0.nx σ' H')) I ⟨r,G,si,zag k1 fun ds ⟨vs,z1,z2,z3⟩ J G' H' w y=>⟨G',ds,vs,w,y,z1,z2,z3⟩⟩) fun v s1 hv=>thn hv fun itv s2 hv2=>?_)) (fun _ s' hq=>wpAny_pure (wpAny_pure hq)) fun _ _ e=>e)
 obtain ⟨it,fp,tn,J,H2,rfl,I2,T,st,hf,G2,ds,vs,w2,Y,hsz,hres,hQ⟩:=hv2
 refine zhm (RR:=fun acc C=>compPost (model X.prog X.w) X.A X.xe (some (assign (.Name y pos') X.env)) (fun _ s'=>SP X pins D0 .next s') acc C) hN hcalm sc h1 h2 I2 (si.grow w2) T st hf Y hsz (fun C=>hg _ _ _ _ _ _) hft (fun C=>hq _ _ _ _ _ _) (fun C=>he _ _ _ _ _ _) hres ?_
 intro p C s' H' G' I' hns hC1 hC2 hC3 hC4 hC5 w' hp ho
 obtain ⟨mm,hn⟩:=hns
 show wpAny _ X.A (assign (.Name y pos') X.env (.ref p)) _ _ s'
 refine wpAny_assign_Name (zgN I' hN hy (.inl hyl) (v:=.ref p) rfl (fun s'' I'' ⟨a,hsb,ha⟩=>?_) (.inr hyl))
 have hCa:C≠a:=by
  rcases ha with z | z
  ·rw [z]; exact hC2
  ·exact (hC4 y a z).symm
 refine ⟨mm,hn.sameBut hsb hCa,fun h' hsb'=>?_⟩
 refine ⟨_,H',I''.turned (it:=C) (t':=s''.toks) (fun b o hb e=>hsb'.extBut b o hb e) hC1 hC2 (.inr hC3) hC4 hC5,?_⟩
 exact hQ _ G' H' (w2.trans w').ge (si.setN (w2.trans w') i (w2.back hp) ho)
end
def MutD (K:W.Frag) (r:V->List V->Hp->VK->Prop) (mk:D->List D->Option D):Prop:=∀(G:GH) (H:Hp) (a:Addr) (d:D) (vs:List V) (ds:List D) (d':D) (Q:VK),GOk K G H->Own K G H a d->RGs K G vs ds->mk d ds=some d' ->
 (∀o',OwnO K G (upd H a o') a d'->Q .non (upd H a o'))->r (.ref a) vs H Q
def tyB (T:String):D->Bool
 | .lst _=>T == "list"
 | .dic _=>T == "dict"
 | _=>false
def mutF (T:String) (m:List Md) (i:Nat) (fl:Rho->Res (List D)) (mk:D->List D->Option D):FS:=fun r=>match r[i]? with
 | some (some d)=>if tyB T d=true then onE m r (fl r) fun ds=>(match mk d ds with
  | some d'=>.nx (r.set i (some d'))
  | none=>.stuck) else .stuck
 | _=>.stuck
theorem zo3 {K:W.Frag} {G:GH} {H:Hp} {a:Addr} {d:D} {T:String} (o:Own K G H a d) (t:tyB T d=true):tyV K T (.ref a) H:=by
 cases o.ob with
 | lst r s=>exact .inl ⟨eq_of_beq t,_,SqL.of r⟩
 | dic r s=>exact .inr (.inr (.inl ⟨eq_of_beq t,.inl ⟨_,.inl r⟩⟩))
section
variable {X:Cx} {g:GE} {m mb:List Md} {e a b o:Expr} {es:List Expr} {f fa fb:FE} {fl:Rho->Res (List D)} {pos pos' apos cpos:Pos} {ro:Bool} {x name:Str} {T id:String} {R:V->List V->Hp->VK->Prop} {mk:D->List D->Option D}
theorem zlW (i:Nat) (hm:m[i]? = some .ow) (hk:MutD X.K R mk) {D0:Ends} {σ:L2.St} {H:Hp} (h:tS X g ro m m mb (mutF T m i fl mk) D0 σ H) :
  ∃v,σ[i]? = some (some v)/\tyV X.K T v H/\tL X g m fl σ H fun xs H2=>R v xs H2 fun _ H1=>D0.nx σ H1:=by
 obtain ⟨r,G,si,k⟩:=h
 unfold mutF at k
 cases er:r[i]? with
 | none=>simp only [er] at k; exact (show False from k).elim
 | some oo=>
  cases oo with
  | none=>simp only [er] at k; exact (show False from k).elim
  | some d=>
   simp only [er] at k
   by_cases ht:tyB T d=true
   ·rw [if_pos ht] at k
    obtain ⟨a,h1,h2,h3⟩:=si.mut hm er
    refine ⟨_,h1,zo3 h2 ht,r,G,si,zag (zbs si rfl k) fun ds k2 vs G' H' w rs=>?_⟩
    cases em:mk d ds with
    | none=>simp only [em] at k2; exact (show False from k2).elim
    | some d'=>
     simp only [em] at k2
     obtain ⟨a',h1',h2',h3'⟩:=(si.grow w).mut hm er
     rw [h1] at h1'; cases h1'
     exact hk G' H' a d vs ds d' _ w.ok h2' rs em fun o' ob=>k2 σ G' _ w.ge (h3' o' d' ob)
   ·rw [if_neg ht] at k; exact (show False from k).elim
theorem zeU (i:Nat) (hm:m[i]? = some .ow) (pa:PlainAttrs T) (slot:Slot T name id) (hty:typeOf (.builtin id)=pure (.type "method_descriptor")) (hmt:MtR X id R) (hk:MutD X.K R mk) (hN:X.N[i]? = some x) (hv:Vis X.env.scope x) (ha:SA X g m (e::es) fl)
  (hd:(x == ("__debug__" : Str))=false:=by decide) (hcd:(x == ("__classdict__" : Str))=false:=by decide)
  (hbase:attributeBase (.Name x pos') name X.env (eval (.Name x pos') X.env)=eval (.Name x pos') X.env:=by rfl)
  (hfew:((backTo cpos (starEach (e::es) X.env)).all (fun x=>! x.1) && (backToKw cpos (keywordEach [] X.env)).all (fun x=>x.1.isSome) && decide ((e::es).length + ([]:List Keyword).length + (if ([]:List Keyword).isEmpty then 0 else 1) < 30))=true:=by rfl)
  (hline:(apos.endLine == cpos.line)=true:=by rfl) (hst:starEach (e::es) X.env=(false,eval e X.env)::starEach es X.env:=by rfl) (hplain:(backTo cpos (starEach es X.env)).any (·.1)=false:=by rfl) :
  SS X g ro mb m (.Expr (.Call (.Attribute (.Name x pos') name apos) (e::es) [] cpos) pos) (mutF T m i fl mk) m:=
 ⟨rfl,PS.imp (zfj (zp7 pa slot hty hmt (zcf hN hv hd hcd) ha hbase hfew hline hst hplain)) fun D0 σ H h=>zlW i hm hk h⟩
def appD:D->List D->Option D
 | .lst ds,[d]=>if ds.length < sizeLine then some (.lst (ds++[d])) else none
 | _,_=>none
theorem zdm {K:W.Frag}:MutD K zjN appD:=by
 intro G H a d vs ds d' Q gk ow rs e q
 unfold appD at e
 split at e
 ·split at e
  ·rename_i hl
   cases e
   cases ow.ob with
   | lst r s=>
    cases rs with
    | cons r1 t=>
     cases t
     have:=Paired.length s
     exact ⟨a,_,_,rfl,rfl,r,by omega,q _ (.lst zam (Paired.snoc s r1))⟩
  ·cases e
 ·cases e
def zou (x:Int) (n:Nat):Nat:=if x < 0 then (x + (n:Int)).toNat else min x.toNat n
def insL {α:Type} (xs:List α) (x:Int) (y:α):List α:=xs.take (zou x xs.length)++y::xs.drop (zou x xs.length)
def zjM:V->List V->Hp->VK->Prop:=fun x vs H Q=>∃l xs i y,x=.ref l/\vs=[.int i,y]/\H l=some (.lst xs)/\-(2 ^ 63)<=i/\i < 2 ^ 63/\xs.length < sizeLine/\Q .non (upd H l (.lst (insL xs i y)))
theorem zkj:MtR X "list.insert" zjM:=by
 intro pins s σ H x vs v us Q I rx rv h
 obtain ⟨l,xs,i,y,rfl,rfl,hH,h1,h2,hz,q⟩:=h
 cases rx
 obtain ⟨u,w',rfl,⟨t,rfl⟩,ry⟩:=zlj rv
 obtain ⟨z,its,n,r,hl,e⟩:=I.lstM hH
 have hfit:¬(! Builtin.List.listFitsIndex i)=true:=by rw [fitsIndex_both h1 h2]; exact Bool.false_ne_true
 refine call_meets PySem.F.slot_list_insert ⟨_,e,rfl⟩ PySem.F.entry_list_insert (PySem.F.args_list_insert_3 _ _ _) (AutoListH.list_insert_list_int_val_1 l its.toArray n i t w' hfit (by rw [List.size_toArray]; omega)) ⟨e,?_⟩
 refine ⟨.non,_,I.lset (its':=insL its i w') hH e ?_ ?_ ?_,rfl,q⟩
 ·show ((its.toArray.extract 0 (if i < 0 then (i + ((its.toArray.size:Nat):Int)).toNat else min i.toNat its.toArray.size)).push w'++its.toArray.extract (if i < 0 then (i + ((its.toArray.size:Nat):Int)).toNat else min i.toNat its.toArray.size))=(insL its i w').toArray
  rw [List.size_toArray]
  unfold insL zou
  generalize (if i < 0 then (i + ((its.length:Nat):Int)).toNat else min i.toNat its.length)=k
  apply Array.ext'
  simp
  exact List.take_of_length_le (by rw [List.length_drop]; exact Nat.le_refl _)
 ·unfold insL
  rw [hl]
  exact Vals.append (r.take _) (.cons ry (r.drop _))
 ·unfold insL
  rw [List.length_append,List.length_cons,List.length_take,List.length_drop]
  omega
def insD:D->List D->Option D
 | .lst ds,[.int i,d]=>if ds.length < sizeLine/\-(2 ^ 63)<=i/\i < 2 ^ 63 then some (.lst (insL ds i d)) else none
 | _,_=>none
theorem zqK {α β:Type} {F:α->β->Prop} {l:List α} {r:List β} {x:α} {y:β} (h:Paired F l r) (i:Int) (hxy:F x y):Paired F (insL l i x) (insL r i y):=by
 unfold insL
 rw [Paired.length h]
 exact Paired.app (Paired.tk _ h) (.cons hxy (Paired.dr _ h))
theorem zqJ {K:W.Frag}:MutD K zjM insD:=by
 intro G H a d vs ds d' Q gk ow rs e q
 unfold insD at e
 split at e
 ·split at e
  ·rename_i hl
   cases e
   cases ow.ob with
   | lst r s=>
    cases rs with
    | cons r1 t=>
     cases t with
     | cons r2 t=>
      cases t
      have:=Paired.length s
      exact ⟨a,_,_,_,rfl,by rw [r1.int gk],r,hl.2.1,hl.2.2,by omega,q _ (.lst zam (zqK s _ r2))⟩
  ·cases e
 ·cases e
end
def zcs:D->Bool
 | .non=>true
 | .bl _=>true
 | .int _=>true
 | .str _=>true
 | _=>false
def toV:D->V
 | .non=>.non
 | .bl b=>.bl b
 | .int i=>.int i
 | .str x=>.str x
 | _=>.non
def eqs (a b:D):Bool:=eqV (toV a) (toV b)
@[simp] theorem eqs_int (a b:Int):eqs (.int a) (.int b)=(a == b):=rfl
@[simp] theorem eqs_str (a b:Str):eqs (.str a) (.str b)=(a == b):=rfl
@[simp] theorem eqs_non_int (b:Int):eqs .non (.int b)=false:=rfl
@[simp] theorem eqs_int_non (b:Int):eqs (.int b) .non=false:=rfl
section
variable {K:W.Frag} {G:GH} {H:Hp} {v:V} {d:D}
theorem RB.flat (h:RB K G H v d) (gk:GOk K G H) (hf:zcs d=true):v=toV d/\zfS v=true:=by
 cases d with
 | non=>rw [h.non gk]; exact ⟨rfl,rfl⟩
 | bl b=>rw [h.bl gk]; exact ⟨rfl,rfl⟩
 | int i=>rw [h.int gk]; exact ⟨rfl,rfl⟩
 | str x=>rw [h.str gk]; exact ⟨rfl,rfl⟩
 | _=>cases hf
theorem zse {xs:List V} {ds:List D} (h:RGs K G xs ds) (gk:GOk K G H) (hf:ds.all zcs=true):xs=ds.map toV/\xs.all zfS=true:=by
 induction h with
 | nil=>exact ⟨rfl,rfl⟩
 | cons r t ih=>
  rw [List.all_cons,Bool.and_eq_true] at hf
  obtain ⟨e1,e2⟩:=RB.flat (H:=H) r.rb gk hf.1
  obtain ⟨e3,e4⟩:=ih hf.2
  exact ⟨by rw [List.map_cons,<-e3,<-e1],by rw [List.all_cons,e2,e4]; rfl⟩
end
def keyD:D->Option Key
 | .int i=>some (.inl i)
 | .str x=>some (.inr x)
 | _=>none
def hasK (kvs:List (Key × D)) (k:Key):Bool:=kvs.any fun kv=>decide (kv.1=k)
def getK (kvs:List (Key × D)) (k:Key):Option D:=(kvs.find? fun kv=>decide (kv.1=k)).map (·.2)
def inB (x c:D):Option Bool:=match c with
 | .lst ds=>if zcs x=true/\ds.all zcs=true then some (ds.any fun y=>eqs y x) else none
 | .tup ds=>if zcs x=true/\ds.all zcs=true then some (ds.any fun y=>eqs y x) else none
 | .dic kvs=>(keyD x).map (hasK kvs)
 | .str y=>match x with
  | .str z=>some (!(Builtin.Str.occurrences y z 0 y.length 1).isEmpty)
  | _=>none
 | _=>none
def inD (x c:D):Option D:=(inB x c).map .bl
def ninD (x c:D):Option D:=(inB x c).map fun b=>.bl (! b)
theorem zm6 {K:W.Frag} {G:GH} {k:Key} {ps:List (Key × V)} {kvs:List (Key × D)} (h:RKs K G ps kvs) (d:D) (e:getK kvs k=some d):∃v,valV ps k=some v/\RG K G v d:=by
 induction h with
 | nil=>cases e
 | @cons p q ps kvs r t ih=>
  obtain ⟨k1,v1⟩:=p
  obtain ⟨k2,d2⟩:=q
  obtain ⟨e1,r1⟩:=r
  have e1':k1=k2:=e1
  subst e1'
  by_cases hk:k1=k
  ·subst hk
   have:d2=d:=by simpa [getK,List.find?_cons] using e
   subst this
   exact ⟨v1,zeW rfl,r1⟩
  ·have e':getK kvs k=some d:=by simpa [getK,List.find?_cons,hk] using e
   obtain ⟨v,h1,h2⟩:=ih e'
   exact ⟨v,by rw [zd2 hk]; exact h1,h2⟩
theorem zkO {K:W.Frag} {G:GH} {k:Key} {ps:List (Key × V)} {kvs:List (Key × D)} (h:RKs K G ps kvs) (e:getK kvs k=none):valV ps k=none:=by
 induction h with
 | nil=>rfl
 | @cons p q ps kvs r t ih=>
  obtain ⟨k1,v1⟩:=p
  obtain ⟨k2,d2⟩:=q
  obtain ⟨e1,r1⟩:=r
  have e1':k1=k2:=e1
  subst e1'
  by_cases hk:k1=k
  ·subst hk; simp [getK,List.find?_cons] at e
  ·have e':getK kvs k=none:=by simpa [getK,List.find?_cons,hk] using e
   rw [zd2 hk]; exact ih e'
theorem zqU (kvs:List (Key × D)) (k:Key):hasK kvs k=(getK kvs k).isSome:=by
 induction kvs with
 | nil=>rfl
 | cons p r ih=>
  by_cases e:p.1=k
  ·simp [hasK,getK,List.find?_cons,e]
  ·have h1:hasK (p::r) k=hasK r k:=by simp [hasK,e]
   have h2:getK (p::r) k=getK r k:=by simp [getK,List.find?_cons,e]
   rw [h1,h2,ih]
theorem zkw {K:W.Frag} {G:GH} {H:Hp} {v:V} {d:D} {k:Key} (gk:GOk K G H) (h:RB K G H v d) (e:keyD d=some k):v=kV k:=by
 cases d with
 | int i=>cases e; exact h.int gk
 | str x=>cases e; exact h.str gk
 | _=>cases e
section
variable {X:Cx} {g:GE} {m mb:List Md} {e a b o c:Expr} {f fa fb fc:FE} {pos pos':Pos}
def rInD (neg:Bool):R2:=fun y x H Q=>∃a o,x=.ref a/\DGet H a y o/\Q (.bl (if neg then ! o.isSome else o.isSome)) H
theorem zqh (hu:X.A.units + 1 < cLine):OpR X (compareOp .In) (rInD false):=by
 intro pins s σ H y x u v Q I ry rx h
 obtain ⟨a,oo,rfl,hg,q⟩:=h
 cases rx
 exact d_in hu I hg ry fun s' I'=>⟨.bl _,H,I',rfl,q⟩
theorem znW (hu:X.A.units + 1 < cLine):OpR X (compareOp .NotIn) (rInD true):=by
 intro pins s σ H y x u v Q I ry rx h
 obtain ⟨a,oo,rfl,hg,q⟩:=h
 cases rx
 exact zoF hu I hg ry fun s' I'=>⟨.bl _,H,I',rfl,q⟩
def rInA (K:W.Frag) (neg:Bool):R2:=fun x y H Q=>rIn K neg x y H Q\/rInD neg x y H Q\/∃i j,x=.str i/\y=.str j/\Q (.bl (if neg then !(!(Builtin.Str.occurrences j i 0 j.length 1).isEmpty) else !(Builtin.Str.occurrences j i 0 j.length 1).isEmpty)) H
theorem zmN (hu:X.A.units + 1 < cLine):OpR X (compareOp .In) (rInA X.K false):=OpR.or zj8 (OpR.or (zqh hu) zj7)
theorem znX (hu:X.A.units + 1 < cLine):OpR X (compareOp .NotIn) (rInA X.K true):=OpR.or zg6 (OpR.or (znW hu) zg1)
theorem zkI {K:W.Frag} (neg:Bool):OpD K (rInA K neg) (fun x c=>(inB x c).map fun b=>.bl (if neg then ! b else b)):=by
 intro G H v1 v2 d1 d2 d Q gk r1 r2 e q
 have seq:∀{xs:List V} {ds:List D} {p:Addr},RGs K G xs ds->v2=.ref p->(SqL K H p xs\/SqT K H p xs)->zcs d1=true->ds.all zcs=true->d=.bl (if neg then !(ds.any fun y=>eqs y d1) else ds.any fun y=>eqs y d1)->rInA K neg v1 v2 H Q:=fun {xs ds p} rs e2 hs hf hfs ed=>by
  obtain ⟨e1,f1⟩:=RB.flat r1 gk hf
  obtain ⟨e3,f3⟩:=zse rs gk hfs
  refine .inl ⟨p,xs,e2,hs,f1,f3,q _ G H (Grow.refl gk) ?_⟩
  have:inV v1 xs=ds.any fun y=>eqs y d1:=by
   unfold inV
   rw [e3,List.any_map,e1]
   rfl
  rw [this,ed]
  exact .scl (.bl _)
 cases d2 with
 | lst ds=>
  by_cases hc:zcs d1=true/\ds.all zcs=true
  ·simp only [inB,if_pos hc,Option.map_some] at e
   obtain ⟨p,xs,e2,hs,rs⟩:=r2.lst gk
   exact seq rs e2 (.inl hs) hc.1 hc.2 (Option.some.inj e).symm
  ·simp only [inB,if_neg hc,Option.map_none] at e
   cases e
 | tup ds=>
  by_cases hc:zcs d1=true/\ds.all zcs=true
  ·simp only [inB,if_pos hc,Option.map_some] at e
   obtain ⟨p,xs,e2,hs,rs⟩:=r2.tup gk
   exact seq rs e2 (.inr hs) hc.1 hc.2 (Option.some.inj e).symm
  ·simp only [inB,if_neg hc,Option.map_none] at e
   cases e
 | dic kvs=>
  simp only [inB] at e
  cases ek:keyD d1 with
  | none=>rw [ek] at e; cases e
  | some k=>
   rw [ek] at e
   cases e
   obtain ⟨p,ps,rfl,hs,rs⟩:=r2.dic gk
   refine .inr (.inl ⟨p,valV ps k,rfl,by rw [zkw gk r1 ek]; exact .inl ⟨ps,k,hs,rfl,rfl⟩,q _ G H (Grow.refl gk) ?_⟩)
   have:(valV ps k).isSome=hasK kvs k:=by
    rw [zqU]
    cases eg:getK kvs k with
    | none=>rw [zkO rs eg]; rfl
    | some d=>obtain ⟨v,h1,_⟩:=zm6 rs d eg; rw [h1]; rfl
   rw [this]
   exact .scl (.bl _)
 | str y=>
  cases d1 with
  | str z=>cases e; exact .inr (.inr ⟨z,y,r1.str gk,r2.str gk,q _ G H (Grow.refl gk) (.scl (.bl _))⟩)
  | _=>cases e
 | _=>cases e
theorem zqN {K:W.Frag}:OpD K (rInA K false) inD:=by
 have h:=zkI (K:=K) false
 have e:(fun x c=>(inB x c).map fun b=>D.bl (if false=true then ! b else b))=inD:=by
  funext x c; unfold inD; cases inB x c <;> rfl
 rw [e] at h; exact h
theorem zqo {K:W.Frag}:OpD K (rInA K true) ninD:=by
 have h:=zkI (K:=K) true
 have e:(fun x c=>(inB x c).map fun b=>D.bl (if true=true then ! b else b))=ninD:=by
  funext x c; unfold ninD; cases inB x c <;> rfl
 rw [e] at h; exact h
theorem s_in (hu:X.A.units + 1 < cLine) (ha:SB X g m a fa) (hb:SB X g m b fb) (hm:behindInMarks .In b=false:=by rfl):SE X g m (.Compare a [.In] [b] pos) (f2 fa fb inD):=znx (zmN hu) zqN ha hb hm
theorem q_in (hu:X.A.units + 1 < cLine) (ha:SB X g m a fa) (hb:SB X g m b fb) (hm:behindInMarks .In b=false:=by rfl):SQ X g m (.Compare a [.In] [b] pos) (fTest (f2 fa fb inD)):=zgo (zmN hu) zqN ha hb hm
theorem zpN (hu:X.A.units + 1 < cLine) (ha:SB X g m a fa) (hb:SB X g m b fb) (hm:behindInMarks .NotIn b=false:=by rfl):SQ X g m (.Compare a [.NotIn] [b] pos) (fTest (f2 fa fb ninD)):=zgo (znX hu) zqo ha hb hm
def isD:D->D->Option D
 | .non,.non=>some (.bl true)
 | _,.non=>some (.bl false)
 | _,_=>none
def isnD:D->D->Option D
 | .non,.non=>some (.bl false)
 | _,.non=>some (.bl true)
 | _,_=>none
theorem RB.isnon {K:W.Frag} {G:GH} {H:Hp} {v:V} {d:D} (gk:GOk K G H) (h:RB K G H v d):(v=.non↔d=.non):=by
 constructor
 ·intro e
  subst e
  rcases h with h | ⟨a,e,_⟩
  ·cases h with
   | scl s=>cases s; rfl
  ·cases e
 ·intro e
  subst e
  exact h.non gk
theorem zr8 {K:W.Frag}:OpD K (fun x y H Q=>y=.non/\Q (.bl (decide (x=.non))) H) isD:=by
 intro G H v1 v2 d1 d2 d Q gk r1 r2 e q
 have hn:=r1.isnon gk
 cases d2 with
 | non=>
  refine ⟨r2.non gk,q _ G H (Grow.refl gk) ?_⟩
  cases d1 with
  | non=>cases e; rw [decide_eq_true (hn.mpr rfl)]; exact .scl (.bl _)
  | _=>cases e; rw [decide_eq_false (fun z=>by have:=hn.mp z; cases this)]; exact .scl (.bl _)
 | _=>cases d1 <;> cases e
theorem zqI {K:W.Frag}:OpD K (fun x y H Q=>y=.non/\Q (.bl (! decide (x=.non))) H) isnD:=by
 intro G H v1 v2 d1 d2 d Q gk r1 r2 e q
 have hn:=r1.isnon gk
 cases d2 with
 | non=>
  refine ⟨r2.non gk,q _ G H (Grow.refl gk) ?_⟩
  cases d1 with
  | non=>cases e; rw [decide_eq_true (hn.mpr rfl)]; exact .scl (.bl _)
  | _=>cases e; rw [decide_eq_false (fun z=>by have:=hn.mp z; cases this)]; exact .scl (.bl _)
 | _=>cases d1 <;> cases e
theorem q_is (ha:SB X g m a fa) (hb:SB X g m b fb):SQ X g m (.Compare a [.Is] [b] pos) (fTest (f2 fa fb isD)):=zgo zqf zr8 ha hb (zeL _)
theorem zrM (ha:SB X g m a fa) (hb:SB X g m b fb):SQ X g m (.Compare a [.IsNot] [b] pos) (fTest (f2 fa fb isnD)):=zgo znV zqI ha hb (zeL _)
end
end DL
section
namespace DL
open PySem PySem.Spec PyProof.Rows L2
section
variable {X:Cx} {g:GE} {m mb:List Md} {e a b o c:Expr} {f fa fb fc:FE} {pos pos' p1 p2:Pos} {ro:Bool} {x:Str}
def rIxD:R2:=fun x y H Q=>∃a v,x=.ref a/\DGet H a y (some v)/\Q v H
theorem zqG (hu:X.A.units + 1 < cLine):IxR X rIxD:=by
 intro value slice pins s σ H x y v u Q I rx ry h hs
 obtain ⟨a,w,rfl,hg,q⟩:=h
 cases rx
 exact tail_any (zh0 I hg) PySem.F.slot_dict_getitem.lookup (zkW hu I hg ry fun w' s' I' rw'=>⟨w,H,I',rw',q⟩) hs
def ixA:D->D->Option D
 | .dic kvs,k=>(keyD k).bind (getK kvs)
 | c,k=>ixD c k
theorem zqH {K:W.Frag}:OpD K (fun x y H Q=>rIxD x y H Q\/rIx K x y H Q) ixA:=by
 intro G H v1 v2 d1 d2 d Q gk r1 r2 e q
 cases d1 with
 | dic kvs=>
  obtain ⟨a,ps,rfl,hs,rs⟩:=r1.dic gk
  have e':(keyD d2).bind (getK kvs)=some d:=e
  cases ek:keyD d2 with
  | none=>rw [ek] at e'; cases e'
  | some k=>
   rw [ek] at e'
   obtain ⟨v,h1,h2⟩:=zm6 rs d e'
   refine .inl ⟨a,v,rfl,?_,q v G H (Grow.refl gk) h2⟩
   rw [zkw gk r2 ek,<-h1]
   exact .inl ⟨ps,k,hs,rfl,rfl⟩
 | lst ds=>exact .inr (zop G H v1 v2 _ d2 d Q gk r1 r2 e q)
 | tup ds=>exact .inr (zop G H v1 v2 _ d2 d Q gk r1 r2 e q)
 | str ds=>exact .inr (zop G H v1 v2 _ d2 d Q gk r1 r2 e q)
 | _=>cases e
theorem zdz (hu:X.A.units + 1 < cLine) (ha:SB X g m a fa) (hb:SB X g m b fb) (hs:zla b:=by intro _ _; rfl):SE X g m (.Subscript a b pos) (f2 fa fb ixA):=znw zqH (zrS (IxR.or (zqG hu) zqE) ha hb hs)
theorem zmV:SO X g m (.Dict [] [] pos) fun _=>.ok (.dic []):=
 PE.imp zlN fun σ H Q ⟨r,G,si,q⟩ p hp=>q p G _ (Grow.new si.gok hp _) hp ⟨si.gok.isN hp,.dic zam .nil⟩
def putD (kvs:List (Key × D)) (k:Key) (d:D):List (Key × D):=if (kvs.any fun kv=>decide (kv.1=k))=true then kvs.map fun kv=>if kv.1=k then (kv.1,d) else kv else kvs++[(k,d)]
theorem zmt {K:W.Frag} {G:GH} {k:Key} {ps:List (Key × V)} {kvs:List (Key × D)} (h:RKs K G ps kvs):(ps.any fun kv=>decide (kv.1=k))=kvs.any fun kv=>decide (kv.1=k):=by
 induction h with
 | nil=>rfl
 | cons r t ih=>rw [List.any_cons,List.any_cons,ih,r.1]
theorem zrP {K:W.Frag} {G:GH} {ps:List (Key × V)} {kvs:List (Key × D)} {k:Key} {v:V} {d:D} (r:RKs K G ps kvs) (h:RG K G v d):RKs K G (putK ps k v) (putD kvs k d):=by
 unfold putK putD
 rw [zmt r]
 by_cases hc:(kvs.any fun kv=>decide (kv.1=k))=true
 ·rw [if_pos hc,if_pos hc]
  clear hc
  induction r with
  | nil=>exact .nil
  | @cons p q ps kvs r t ih=>
   refine .cons ?_ ih
   obtain ⟨p1,p2⟩:=p
   obtain ⟨q1,q2⟩:=q
   have e:p1=q1:=r.1
   subst e
   by_cases hk:p1=k
   ·simp only [hk,if_true,true_and]; exact h
   ·simp only [hk,if_false,true_and]; exact r.2
 ·rw [if_neg hc,if_neg hc]
  exact Paired.snoc r ⟨rfl,h⟩
def stoD:D->D->D->Option D
 | .lst ds,.int k,v=>(ixN ds.length k).map fun j=>.lst (ds.set j v)
 | .dic kvs,k,v=>(keyD k).bind fun k=>if kvs.length < sizeLine then some (.dic (putD kvs k v)) else none
 | _,_,_=>none
def zpG:V->V->V->Hp->(Hp->Prop)->Prop:=fun o i v H Q=>∃p H',o=.ref p/\DPut H p i v H'/\Q H'
theorem znu (hu:X.A.units + 1 < cLine):PSet X zpG:=by
 intro pins s σ H o i v ov iv u Q I ro ri rv h
 obtain ⟨p,H',rfl,hp,q⟩:=h
 cases ro
 exact zkV hu I hp ri rv fun s' I'=>⟨H',I',q⟩
theorem PSet.or {t t':TSet} (h:PSet X t) (h':PSet X t'):PSet X (fun o i v H Q=>t o i v H Q\/t' o i v H Q):=by
 intro pins s σ H o i v ov iv u Q I ro ri rv q
 rcases q with q | q
 ·exact h pins s σ H o i v ov iv u Q I ro ri rv q
 ·exact h' pins s σ H o i v ov iv u Q I ro ri rv q
theorem zpg {K:W.Frag} {G:GH} {H:Hp} {a:Addr} {d k v d':D} {kv vv:V} {Q:Hp->Prop} (gk:GOk K G H) (ow:Own K G H a d) (rk:RB K G H kv k) (rv:RG K G vv v) (e:stoD d k v=some d') (q:∀o',OwnO K G (upd H a o') a d'->Q (upd H a o')) :
  zpF (.ref a) kv vv H Q\/zpG (.ref a) kv vv H Q:=by
 cases ow.ob with
 | @lst xs ds r s=>
  cases k with
  | int k=>
   have e':(ixN ds.length k).map (fun j=>D.lst (ds.set j v))=some d':=e
   cases ej:ixN ds.length k with
   | none=>rw [ej] at e'; cases e'
   | some j=>
    rw [ej] at e'
    cases e'
    exact .inl ⟨a,xs,k,j,rfl,rk.int gk,r,by rw [Paired.length s]; exact ej,q _ (.lst zam (Paired.st rv j s))⟩
  | _=>cases e
 | @dic ps kvs r s=>
  have e':(keyD k).bind (fun k=>if kvs.length < sizeLine then some (D.dic (putD kvs k v)) else none)=some d':=e
  cases ek:keyD k with
  | none=>rw [ek] at e'; cases e'
  | some k'=>
   rw [ek] at e'
   have e2:(if kvs.length < sizeLine then some (D.dic (putD kvs k' v)) else none)=some d':=e'
   by_cases hl:kvs.length < sizeLine
   ·rw [if_pos hl] at e2
    cases e2
    have:=Paired.length s
    refine .inr ⟨a,_,rfl,?_,q _ (.dic zam (zrP s rv))⟩
    rw [zkw gk rk ek]
    exact DPut.k r (by omega)
   ·rw [if_neg hl] at e2; cases e2
def putF (m:List Md) (i:Nat) (fk fv:FE):FS:=fun r=>onE m r (fv r) fun v=>match r[i]? with
 | some (some d)=>onE m r (fk r) fun k=>(match stoD d k v with
  | some d'=>.nx (r.set i (some d'))
  | none=>.stuck)
 | _=>.stuck
theorem zpo (i:Nat) (hu:X.A.units + 1 < cLine) (hm:m[i]? = some .ow) (hN:X.N[i]? = some x) (hv:Vis X.env.scope x) (hk:SB X g m b fb) (he:SE X g m e f)
  (hd:(x == ("__debug__" : Str))=false:=by decide) (hcd:(x == ("__classdict__" : Str))=false:=by decide)
  (ha:∀v,assign (.Subscript (.Name x p1) b p2) X.env v=(do
   let ov <-holding [v] (eval (.Name x p1) X.env)
   let iv <-holding [v,ov] (eval b X.env)
   standAt p2
   holding [v,ov,iv] (setItem ov iv v)
   release [v,ov,iv] []):=by intro _; rfl)
  (hs:swapsWithSole [.Subscript (.Name x p1) b p2] e pos.line X.env=pure false:=by rfl) (hw:swappedStores [.Subscript (.Name x p1) b p2] e X.env=pure none:=by rfl)
  (h1:(assignEach [.Subscript (.Name x p1) b p2] X.env).map (·.2)=[assign (.Subscript (.Name x p1) b p2) X.env]:=by rfl) :
  SS X g ro mb m (.Assign [.Subscript (.Name x p1) b p2] e pos) (putF m i fb f) m:=by
 refine ⟨rfl,PS.imp (zpT he (zpX (zcf hN hv hd hcd) hk (PSet.or zlr (znu hu)) ha) hs hw h1) fun D0 σ H ⟨r,G,si,k⟩=>⟨r,G,si,?_⟩⟩
 refine zag (zbs si rfl k) fun v k1 vv G1 H1 w1 rv=>?_
 cases er:r[i]? with
 | none=>simp only [er] at k1; exact (show False from k1).elim
 | some oo=>
  cases oo with
  | none=>simp only [er] at k1; exact (show False from k1).elim
  | some d=>
   simp only [er] at k1
   obtain ⟨a,h1,h2,h3⟩:=(si.grow w1).mut hm er
   refine ⟨_,h1,r,G1,si.grow w1,?_⟩
   refine zag (zbs (m:=m) (si.grow w1) rfl (oTo.gle k1 w1.ge)) fun kk k2 kv G2 H2 w2 rk=>?_
   cases es:stoD d kk v with
   | none=>simp only [es] at k2; exact (show False from k2).elim
   | some d'=>
    simp only [es] at k2
    obtain ⟨a',h1',h2',h3'⟩:=((si.grow w1).grow w2).mut hm er
    rw [h1] at h1'; cases h1'
    exact zpg w2.ok h2' rk (rv.mono w2.ge) es fun o' ob=>k2 σ G2 _ w2.ge (h3' o' d' ob)
end
mutual
def toPy:D->PyData
 | .non=>.none
 | .bl b=>.bool b
 | .int i=>.int i
 | .str x=>.str x
 | .tup ds=>.tuple (zcv ds)
 | .lst ds=>.list (zcv ds)
 | .dic _=>.none
 | .obj _ _=>.none
def zcv:List D->List PyData
 | []=>[]
 | d::ds=>toPy d::zcv ds
end
def Shp:Nat->D->Prop
 | _,.non=>True
 | _,.bl _=>True
 | _,.int _=>True
 | _,.str x=>PyData.strOk x=true
 | 0,.tup _=>False
 | 0,.lst _=>False
 | k + 1,.tup ds=>∀d∈ds,Shp k d
 | k + 1,.lst ds=>∀d∈ds,Shp k d
 | _,.dic _=>False
 | _,.obj _ _=>False
theorem zcG {k:Nat} {ds:List D}:Shp (k + 1) (.lst ds)↔∀d∈ds,Shp k d:=by simp only [Shp]
theorem zhy {k:Nat} {ds:List D}:Shp (k + 1) (.tup ds)↔∀d∈ds,Shp k d:=by simp only [Shp]
def eqb (a b:D):Bool:=PyData.eqv (toPy a) (toPy b)
section
variable {X:Cx} {pins:List (Addr × Obj)} {σ:L2.St} {H:Hp} {s:Shared} {G:GH}
theorem zgZ {k:Nat} (ih:∀(d:D) (v:V) (u:Value),Shp k d->RG X.K G v d->L2.RelV v u->∃as,Reads s.heap u (toPy d) as) (ds:List D) (vs:List V) (us:List Value) (h:∀d∈ds,Shp k d) (r:RGs X.K G vs ds) (q:Vals vs us):∃as,ReadsAll s.heap us (zcv ds) as:=by
 induction r generalizing us with
 | nil=>cases q; exact ⟨[],.nil⟩
 | cons r t ih'=>
  cases q with
  | cons r' t'=>
   obtain ⟨a1,h1⟩:=ih _ _ _ (h _ List.mem_cons_self) r r'
   obtain ⟨a2,h2⟩:=ih' _ (fun x hx=>h x (List.mem_cons_of_mem _ hx)) t'
   exact ⟨a1++a2,.cons h1 h2⟩
theorem zdu (I:Inv X pins σ H s) (gk:GOk X.K G H):∀(k:Nat) (d:D) (v:V) (u:Value),Shp k d->RB X.K G H v d->L2.RelV v u->∃as,Reads s.heap u (toPy d) as:=by
 intro k
 induction k with
 | zero=>
  intro d v u hs r ru
  cases d with
  | non=>rw [r.non gk] at ru; cases ru; exact ⟨_,.none⟩
  | bl b=>rw [r.bl gk] at ru; cases ru; exact ⟨_,.bool b⟩
  | int i=>rw [r.int gk] at ru; obtain ⟨t,rfl⟩:=ru; exact ⟨_,.int i t⟩
  | str x=>rw [r.str gk] at ru; obtain ⟨t,rfl⟩:=ru; exact ⟨_,.str x t⟩
  | tup _=>unfold Shp at hs; exact hs.elim
  | lst _=>unfold Shp at hs; exact hs.elim
  | dic _=>unfold Shp at hs; exact hs.elim
  | obj _ _=>unfold Shp at hs; exact hs.elim
 | succ k ih=>
  intro d v u hs r ru
  cases d with
  | non=>rw [r.non gk] at ru; cases ru; exact ⟨_,.none⟩
  | bl b=>rw [r.bl gk] at ru; cases ru; exact ⟨_,.bool b⟩
  | int i=>rw [r.int gk] at ru; obtain ⟨t,rfl⟩:=ru; exact ⟨_,.int i t⟩
  | str x=>rw [r.str gk] at ru; obtain ⟨t,rfl⟩:=ru; exact ⟨_,.str x t⟩
  | tup ds=>
   obtain ⟨a,xs,rfl,sq,rs⟩:=r.tup gk
   cases ru
   obtain ⟨its,rv,pl,_⟩:=I.tuple sq
   obtain ⟨o,ho,hc,n,hd⟩:=pl
   obtain ⟨as,h⟩:=zgZ (k:=k) (fun d v u h1 h2 h3=>ih d v u h1 h2.rb h3) ds xs its (zhy.mp hs) rs rv
   refine ⟨as,?_⟩
   unfold toPy
   exact .tuple ho hc hd (by simpa using h)
  | lst ds=>
   obtain ⟨a,xs,rfl,sq,rs⟩:=r.lst gk
   cases ru
   obtain ⟨its,rv,pl,_⟩:=I.list sq
   obtain ⟨o,ho,hc,n,hd⟩:=pl.isList
   obtain ⟨as,h⟩:=zgZ (k:=k) (fun d v u h1 h2 h3=>ih d v u h1 h2.rb h3) ds xs its (zcG.mp hs) rs rv
   refine ⟨a::as,?_⟩
   unfold toPy
   exact .list ho hc hd (by simpa using h)
  | dic _=>unfold Shp at hs; exact hs.elim
  | obj _ _=>unfold Shp at hs; exact hs.elim
theorem zgj {k:Nat} (ih:∀d,Shp k d->PyData.canLay0 (toPy d)=true/\PyData.depth (toPy d)<=k):∀ds:List D,(∀d∈ds,Shp k d)->PyData.canLayAll0 (zcv ds)=true/\PyData.depthAll (zcv ds)<=k
 | [],_=>by unfold zcv PyData.canLayAll0 PyData.depthAll; exact ⟨rfl,Nat.zero_le _⟩
 | d::ds,h=>by
  obtain ⟨a1,a2⟩:=ih d (h d List.mem_cons_self)
  obtain ⟨b1,b2⟩:=zgj ih ds fun x hx=>h x (List.mem_cons_of_mem _ hx)
  unfold zcv PyData.canLayAll0 PyData.depthAll
  rw [a1,b1]
  exact ⟨rfl,Nat.max_le.mpr ⟨a2,b2⟩⟩
theorem zjs:∀(k:Nat) (d:D),Shp k d->PyData.canLay0 (toPy d)=true/\PyData.depth (toPy d)<=k:=by
 intro k
 induction k with
 | zero=>
  intro d hs
  cases d with
  | non=>unfold toPy PyData.canLay0 PyData.depth; exact ⟨rfl,Nat.zero_le _⟩
  | bl b=>unfold toPy PyData.canLay0 PyData.depth; exact ⟨rfl,Nat.zero_le _⟩
  | int i=>unfold toPy PyData.canLay0 PyData.depth; exact ⟨rfl,Nat.zero_le _⟩
  | str x=>unfold Shp at hs; unfold toPy PyData.canLay0 PyData.depth; exact ⟨hs,Nat.zero_le _⟩
  | tup _=>unfold Shp at hs; exact hs.elim
  | lst _=>unfold Shp at hs; exact hs.elim
  | dic _=>unfold Shp at hs; exact hs.elim
  | obj _ _=>unfold Shp at hs; exact hs.elim
 | succ k ih=>
  intro d hs
  cases d with
  | non=>unfold toPy PyData.canLay0 PyData.depth; exact ⟨rfl,Nat.zero_le _⟩
  | bl b=>unfold toPy PyData.canLay0 PyData.depth; exact ⟨rfl,Nat.zero_le _⟩
  | int i=>unfold toPy PyData.canLay0 PyData.depth; exact ⟨rfl,Nat.zero_le _⟩
  | str x=>unfold Shp at hs; unfold toPy PyData.canLay0 PyData.depth; exact ⟨hs,Nat.zero_le _⟩
  | tup ds=>
   obtain ⟨b1,b2⟩:=zgj ih ds (zhy.mp hs)
   unfold toPy PyData.canLay0 PyData.depth
   exact ⟨b1,Nat.succ_le_succ b2⟩
  | lst ds=>
   obtain ⟨b1,b2⟩:=zgj ih ds (zcG.mp hs)
   unfold toPy PyData.canLay0 PyData.depth
   exact ⟨b1,Nat.succ_le_succ b2⟩
  | dic _=>unfold Shp at hs; exact hs.elim
  | obj _ _=>unfold Shp at hs; exact hs.elim
theorem zd8 {d:D} (h:Shp 60 d):SeqAt.shaped (toPy d)=true:=by
 obtain ⟨a,b⟩:=zjs 60 d h
 unfold SeqAt.shaped
 rw [a,decide_eq_true (Nat.le_trans b (by decide))]
 rfl
end
section
variable {X:Cx} {g:GE} {m mb:List Md} {e a b o c:Expr} {f fa fb fc:FE} {pos pos':Pos}
def ziP (a b:D):Bool:=zcs a && zcs b && scal (toV a) (toV b)
open Classical in
def eqB (a b:D):Option Bool:=if ziP a b=true then some (eqs a b) else if Shp 60 a/\Shp 60 b then some (eqb a b) else none
def eqD (a b:D):Option D:=(eqB a b).map .bl
def neD (a b:D):Option D:=(eqB a b).map fun c=>.bl (! c)
theorem zix {a b:D} (h:ziP a b=false) (h1:Shp 60 a) (h2:Shp 60 b):eqB a b=some (eqb a b):=by
 unfold eqB
 rw [if_neg (by rw [h]; exact Bool.false_ne_true),if_pos ⟨h1,h2⟩]
theorem ziw {a b:D} (h:ziP a b=true):eqB a b=some (eqs a b):=by
 unfold eqB
 rw [if_pos h]
@[simp] theorem eqB_int (a b:Int):eqB (.int a) (.int b)=some (a == b):=ziw rfl
@[simp] theorem eqB_str (a b:Str):eqB (.str a) (.str b)=some (a == b):=ziw rfl
theorem zif {a b:D} (h:scal (toV a) (toV b)=true) (fa:zcs a=true) (fb:zcs b=true):decide (toV a=toV b)=eqs a b:=by
 cases a <;> cases b <;> first
  | exact absurd (show false=true from fa) Bool.false_ne_true
  | exact absurd (show false=true from fb) Bool.false_ne_true
  | exact absurd (show false=true from h) Bool.false_ne_true
  | exact zh2
  | exact zkT
  | exact zh1
  | rfl
  | simp [toV,eqs,eqV]
def zgn (K:W.Frag) (neg:Bool):R2:=fun x y H Q=>∃(G:GH) (d1 d2:D),GOk K G H/\RB K G H x d1/\RB K G H y d2/\Shp 60 d1/\Shp 60 d2/\Q (.bl (if neg then ! eqb d1 d2 else eqb d1 d2)) H
theorem zg7 (hu:X.A.units + 64 < cLine):OpR X (compareOp .Eq) (zgn X.K false):=by
 intro pins s σ H x y v u Q I rx ry h
 obtain ⟨G,d1,d2,gk,r1,r2,s1,s2,q⟩:=h
 obtain ⟨as,h1⟩:=zdu I gk 60 d1 x v s1 r1 rx
 obtain ⟨bs,h2⟩:=zdu I gk 60 d2 y u s2 r2 ry
 exact SeqAt.compareEq_shaped h1 h2 (zd8 s1) (zd8 s2) hu ⟨.bl _,H,I,rfl,q⟩
theorem zj6 (hu:X.A.units + 64 < cLine):OpR X (compareOp .NotEq) (zgn X.K true):=by
 intro pins s σ H x y v u Q I rx ry h
 obtain ⟨G,d1,d2,gk,r1,r2,s1,s2,q⟩:=h
 obtain ⟨as,h1⟩:=zdu I gk 60 d1 x v s1 r1 rx
 obtain ⟨bs,h2⟩:=zdu I gk 60 d2 y u s2 r2 ry
 exact SeqAt.compareNe_shaped h1 h2 (zd8 s1) (zd8 s2) hu ⟨.bl _,H,I,rfl,q⟩
theorem eq_cases {a b:D} {c:Bool} (h:eqB a b=some c):(ziP a b=true/\c=eqs a b)\/(Shp 60 a/\Shp 60 b/\c=eqb a b):=by
 unfold eqB at h
 split at h
 ·rename_i hs; cases h; exact .inl ⟨hs,rfl⟩
 ·split at h
  ·rename_i hs; cases h; exact .inr ⟨hs.1,hs.2,rfl⟩
  ·cases h
theorem zq8 {K:W.Frag}:OpD K (fun x y H Q=>rEq x y H Q\/zgn K false x y H Q) eqD:=by
 intro G H v1 v2 d1 d2 d Q gk r1 r2 e q
 unfold eqD at e
 cases ec:eqB d1 d2 with
 | none=>rw [ec] at e; cases e
 | some c=>
  rw [ec] at e
  cases e
  rcases eq_cases ec with ⟨hs,rfl⟩ | ⟨s1,s2,rfl⟩
  ·unfold ziP at hs
   rw [Bool.and_eq_true,Bool.and_eq_true] at hs
   obtain ⟨e1,_⟩:=RB.flat r1 gk hs.1.1
   obtain ⟨e2,_⟩:=RB.flat r2 gk hs.1.2
   refine .inl ⟨by rw [e1,e2]; exact hs.2,?_⟩
   rw [e1,e2,zif hs.2 hs.1.1 hs.1.2]
   exact q _ G H (Grow.refl gk) (.scl (.bl _))
  ·exact .inr ⟨G,d1,d2,gk,r1,r2,s1,s2,q _ G H (Grow.refl gk) (.scl (.bl _))⟩
theorem zr1 {K:W.Frag}:OpD K (fun x y H Q=>rNe x y H Q\/zgn K true x y H Q) neD:=by
 intro G H v1 v2 d1 d2 d Q gk r1 r2 e q
 unfold neD at e
 cases ec:eqB d1 d2 with
 | none=>rw [ec] at e; cases e
 | some c=>
  rw [ec] at e
  cases e
  rcases eq_cases ec with ⟨hs,rfl⟩ | ⟨s1,s2,rfl⟩
  ·unfold ziP at hs
   rw [Bool.and_eq_true,Bool.and_eq_true] at hs
   obtain ⟨e1,_⟩:=RB.flat r1 gk hs.1.1
   obtain ⟨e2,_⟩:=RB.flat r2 gk hs.1.2
   refine .inl ⟨by rw [e1,e2]; exact hs.2,?_⟩
   rw [e1,e2,zif hs.2 hs.1.1 hs.1.2]
   exact q _ G H (Grow.refl gk) (.scl (.bl _))
  ·exact .inr ⟨G,d1,d2,gk,r1,r2,s1,s2,q _ G H (Grow.refl gk) (.scl (.bl _))⟩
theorem s_eq (hu:X.A.units + 64 < cLine) (ha:SB X g m a fa) (hb:SB X g m b fb):SE X g m (.Compare a [.Eq] [b] pos) (f2 fa fb eqD):=znx (OpR.or zqi (zg7 hu)) zq8 ha hb (zeL _)
theorem q_eq (hu:X.A.units + 64 < cLine) (ha:SB X g m a fa) (hb:SB X g m b fb):SQ X g m (.Compare a [.Eq] [b] pos) (fTest (f2 fa fb eqD)):=zgo (OpR.or zqi (zg7 hu)) zq8 ha hb (zeL _)
theorem q_ne (hu:X.A.units + 64 < cLine) (ha:SB X g m a fa) (hb:SB X g m b fb):SQ X g m (.Compare a [.NotEq] [b] pos) (fTest (f2 fa fb neD)):=zgo (OpR.or zrV (zj6 hu)) zr1 ha hb (zeL _)
def zf6 (fa fb fc:FE) (k k':D->D->Option D):FE:=fun r=>(fa r).bind fun x=>(fb r).bind fun y=>(opt (k x y)).bind fun z=>(opt (asB z)).bind fun c=>if c=true then (fc r).bind fun w=>opt (k' y w) else .ok (.bl false)
def zpL (K:W.Frag):R2:=fun x y H Q=>∃l b xs zs,x=.ref l/\y=.ref b/\SqL K H l xs/\SqL K H b zs/\xs.length + zs.length<=sizeLine/\∀p,H p=none->Q (.ref p) (upd H p (.lst (xs++zs)))
theorem zn1:OpR X (binaryOp .Add) (zpL X.K):=by
 intro pins s σ H x y v u Q I rx ry h
 obtain ⟨l,b,xs,zs,rfl,rfl,hH,hB,hz,q⟩:=h
 cases rx
 cases ry
 obtain ⟨its,r,pl,_⟩:=I.list hH
 obtain ⟨its2,r2,pl2,_⟩:=I.list hB
 have l1:=r.length
 have l2:=r2.length
 obtain ⟨⟨cls,dd,data,sl⟩,ho,hc,n,hd⟩:=pl.isList
 obtain ⟨⟨cls2,dd2,data2,sl2⟩,ho2,hc2,n2,hd2⟩:=pl2.isList
 simp only at hc hd hc2 hd2
 subst hc hd hc2 hd2
 have e:its.toArray++its2.toArray=(its++its2).toArray:=by simp
 refine concat_meets ⟨_,ho,rfl⟩ ⟨_,ho2,rfl⟩ noFill_list_add seq_list_add PySem.F.slot_list_add PySem.F.entry_list_add (PySem.F.args_list_add_2 _ _) (list_addW _ _ its.toArray its2.toArray n n2 dd dd2 sl sl2 (by simp; omega)) ⟨ho,ho2,?_⟩
 rw [e]
 exact ⟨.ref _,_,I.lnew (t':=s.toks) (r.append r2) (by rw [List.length_append]; omega),rfl,q _ I.fresh⟩
def addA:D->D->Option D
 | .int a,.int b=>some (.int (a + b))
 | .str a,.str b=>if a.length + b.length<=sizeLine then some (.str (a++b)) else none
 | .lst a,.lst b=>if a.length + b.length<=sizeLine then some (.lst (a++b)) else none
 | .tup (x::a),.tup b=>if (x::a).length + b.length<=sizeLine then some (.tup (x::a++b)) else none
 | _,_=>none
theorem zoS {K:W.Frag}:OpD K (fun x y H Q=>(∃i j,x=.int i/\y=.int j/\Q (.int (i + j)) H)\/(∃i j,x=.str i/\y=.str j/\i.length + j.length<=sizeLine/\Q (.str (i++j)) H)\/zpL K x y H Q\/zpK K x y H Q) addA:=by
 intro G H v1 v2 d1 d2 d Q gk r1 r2 e q
 unfold addA at e
 split at e
 ·cases e
  exact .inl ⟨_,_,r1.int gk,r2.int gk,q _ G H (Grow.refl gk) (.scl (.int _))⟩
 ·split at e
  ·rename_i hl
   cases e
   exact .inr (.inl ⟨_,_,r1.str gk,r2.str gk,hl,q _ G H (Grow.refl gk) (.scl (.str _))⟩)
  ·cases e
 ·split at e
  ·rename_i hl
   cases e
   obtain ⟨a,xs,rfl,s1,t1⟩:=r1.lst gk
   obtain ⟨b,ys,rfl,s2,t2⟩:=r2.lst gk
   have l1:=Paired.length t1
   have l2:=Paired.length t2
   exact .inr (.inr (.inl ⟨a,b,xs,ys,rfl,rfl,s1,s2,by omega,fun p hp=>q _ _ _ (Grow.newF gk hp (.lst (.inl zam) (Paired.app t1 t2))) (.ref zaq)⟩))
  ·cases e
 ·split at e
  ·rename_i x0 a0 b0 hl
   cases e
   rcases r1 with r1 | ⟨a',_,oo⟩
   ·obtain ⟨a,xs,rfl,s1,t1⟩:=r1.tup gk
    obtain ⟨b,ys,rfl,s2,t2⟩:=r2.tup gk
    have l1:=Paired.length t1
    have l2:=Paired.length t2
    refine .inr (.inr (.inr ⟨a,b,xs,ys,rfl,rfl,s1,s2,?_,by omega,fun hy=>?_,fun _ p hp=>q _ _ _ (Grow.newF gk hp (.tup (.inl zam) (Paired.app t1 t2))) (.ref zaq)⟩))
    ·rintro rfl
     cases t1
    ·subst hy
     cases t2
     refine q _ G H (Grow.refl gk) ?_
     rw [List.append_nil]
     exact r1
   ·cases oo.ob
  ·cases e
 ·cases e
theorem zbd (ha:SB X g m a fa) (hb:SB X g m b fb):SE X g m (.BinOp a .Add b pos) (f2 fa fb addA):=zhD (OpR.or zqj (OpR.or ziW (OpR.or zn1 zn0))) zoS ha hb
end
end DL
end
namespace DL
open PySem PySem.Spec PyProof.Rows L2
structure DefAt (K:W.Frag) (mg:Str->Option Value) (x:Str) (st:Stmt):Prop where
 ex:∃f fd,mg x=some (.ref f)/\Fun K x x st f fd
structure Callee (P:Program) (w:World) (K:W.Frag) (mg:Str->Option Value) (base:Heap) (x:Str) (ps:List Str) (ds:List Value) (k:Nat) (ro:Bool) (ms:List Md) (F:List D->Res D):Prop where
 ex:∃f fd,mg x=some (.ref f)/\W.keepIn K (.ref f)=true/\zdB K fd ps ds/\FnOk P w K mg base CX0 k f fd ps (spM K ro ms F)
section
variable {P:Program} {w:World} {K:W.Frag} {mg:Str->Option Value} {base:Heap}
theorem zbn {x:Str} {st:Stmt} {N ps:List Str} {k:Nat} {ro:Bool} {ms:List Md} {fs:FS} {m':List Md} (A:DefAt K mg x st) (S:FnScope N ps (defScope st)) (hms:ms.length=ps.length)
  (hb:∀(kV doc pm:Value) (an:Option Addr) (cdv ct:Value) (us:List Value),us.length=ps.length->bindArgs (W.fnOf x x (defArgs st) (defBody st) (defScope st) .none kV doc pm an cdv ct) ⟨us,[]⟩=pure (ps.zip us))
  (hbody:∀(f:Addr) (cdv:Value) (A:Around) (outer:List Env) (s:Shared) (H:Hp) (g:GE) (E:XK),Room k (A.deeper (envOfC x (defScope st) s.heap.objs.size f cdv)) ->
   SSs (cxOf CX0 P w K mg base N x (defScope st) f cdv A outer s H E).nox g ro [] (zdC N.length ms) (defBody st) fs m') :
  Callee P w K mg base x ps [] (k + 1) ro ms fun ds=>outR ro (fs (zao N.length ds)):=by
 obtain ⟨f,fd,h1,F⟩:=A.ex
 exact ⟨f,fd,h1,F.kp,F.binds hb,zm4 F S hms (hbody f)⟩
structure DefAtD (K:W.Frag) (mg:Str->Option Value) (x:Str) (st:Stmt) (dds:List Value):Prop where
 ex:∃(f T:Addr) (o:Obj) (n:Nat) (oc:Value) (od:Option Addr) (kV doc pm:Value) (an:Option Addr) (cdv ct:Value) (osl:Array (Option Value)),
  mg x=some (.ref f)/\K.lookup T=some o/\o.data=.seq dds.toArray n/\K.lookup f=some ⟨oc,od,.func (W.fnOf x x (defArgs st) (defBody st) (defScope st) (.ref T) kV doc pm an cdv ct),osl⟩/\W.codeIn K cdv x=true/\W.keepIn K (.ref f)=true
end
section
variable {X:Cx} {g:GE} {m:List Md} {e:Expr} {es:List Expr} {fl:Rho->Res (List D)} {k:Nat} {ps:List Str} {F:List D->Res D} {dvs:List V} {ds:List Value} {dds:List D} {x:Str} {p pos:Pos} {i:Nat} {ms ms':List Md}
theorem zaM (c:Callee X.prog X.w X.K X.mg X.base x ps ds k false ms' F) (hr:Room k X.A) (ha:SAM X g m (e::es) ms fl) (hms:ms'=ms++List.replicate dds.length .sh:=by rfl) (hg:Gl X x:=by rfl) (hd:Vals dvs ds:=by exact .nil) (hsc:Paired Scl dvs dds:=by exact .nil)
  (hdb:(x == ("__debug__" : Str))=false:=by decide) (he:starEach (e::es) X.env=(false,eval e X.env)::starEach es X.env:=by rfl) (hpl:(backTo pos (starEach es X.env)).any (·.1)=false:=by rfl) :
  SE X g m (.Call (.Name x p) (e::es) [] pos) (zaz fl dds F):=by
 subst hms
 obtain ⟨f,fd,h1,h2,h3,h4⟩:=c.ex
 exact zpt h4 hr hg h1 h2 h3 hd hsc ha hdb he hpl
theorem v_ (i:Nat) (hm:m[i]? = some .sh:=by rfl) (hN:X.N[i]? = some x:=by rfl) (hv:Vis X.env.scope x:=by first | exact Or.inl rfl | exact Or.inr (Or.inl rfl) | exact Or.inr (Or.inr rfl)) (hd:(x == ("__debug__" : Str))=false:=by decide) (hcd:(x == ("__classdict__" : Str))=false:=by decide) :
  SE X g m (.Name x p) fun r=>getV r i:=zrB i hm hN hv hd hcd
theorem vb_ (i:Nat) (hm:i < m.length:=by decide) (hN:X.N[i]? = some x:=by rfl) (hv:Vis X.env.scope x:=by first | exact Or.inl rfl | exact Or.inr (Or.inl rfl) | exact Or.inr (Or.inr rfl)) (hd:(x == ("__debug__" : Str))=false:=by decide) (hcd:(x == ("__classdict__" : Str))=false:=by decide) :
  SB X g m (.Name x p) fun r=>getV r i:=zpm i hm hN hv hd hcd
end
def zkY (osc:Scope) (ON:List Str) (sc:Scope) (N':List Str) (nl:Nat) (cap:List Nat):Bool:=
 decide (sc.kind=.function) && sc.names.all (fun y=>decide (y.2≠.cell)) && sc.names.all (fun y=>decide (y.2≠.local) || decide (sc.names.lookup y.1=some .local)) &&
 sc.names.all (fun y=>decide (y.2≠.free) || (decide (osc.names.lookup y.1=some .cell) || decide (osc.names.lookup y.1=some .free))) && decide (N'.length=nl + cap.length) &&
 (List.range cap.length).all fun j=>match N'[nl + j]?,ON[cap.getD j 0]? with
  | some x,some y=>decide (x=y) && decide (sc.names.lookup x=some .free)
  | _,_=>false
theorem zbj {X:Cx} {osc:Scope} {ON:List Str} {sc:Scope} {N':List Str} {nl:Nat} {cap:List Nat} (h1:X.env.scope=osc) (h2:X.N=ON) (h:zkY osc ON sc N' nl cap=true):CompSc X sc N' nl cap:=by
 subst h1 h2
 unfold zkY at h
 simp only [Bool.and_eq_true,List.all_eq_true,decide_eq_true_eq,Bool.or_eq_true] at h
 obtain ⟨⟨⟨⟨⟨a1,a2⟩,a3⟩,a4⟩,a5⟩,a6⟩:=h
 refine ⟨a1,a2,fun y hy hl=>(a3 y hy).resolve_left fun z=>z hl,fun y hy hf=>(a4 y hy).resolve_left fun z=>z hf,a5,fun j hj=>?_⟩
 have h6:=a6 j (List.mem_range.mpr hj)
 cases e1:N'[nl + j]? with
 | none=>rw [e1] at h6; cases h6
 | some x=>
  cases e2:X.N[cap.getD j 0]? with
  | none=>rw [e1,e2] at h6; cases h6
  | some y=>
   rw [e1,e2] at h6
   simp only [Bool.and_eq_true,decide_eq_true_eq] at h6
   exact ⟨x,rfl,by rw [h6.1],h6.2⟩
section
variable {X:Cx} {g:GE} {m mb:List Md} {e a b c:Expr} {f fa fb fc:FE} {pos pos':Pos}
theorem zjb {R R':R2} {k k':D->D->Option D} (ho:OpD X.K R k) (ho':OpD X.K R' k') {σ:L2.St} {H:Hp} {Q:VK} (h:tE X g m (zf6 fa fb fc k k') σ H Q):zmA R R' (tB X g m fa) (tB X g m fb) (tB X g m fc) σ H Q:=by
 obtain ⟨r,G,si,q⟩:=h
 refine seq2 si q fun d1 d2 v1 v2 G2 H2 w r1 r2 q2=>?_
 obtain ⟨z,ez,q3⟩:=zaw (zaf q2)
 obtain ⟨cc,ec,q4⟩:=zaw (zaf q3)
 refine ho G2 H2 v1 v2 d1 d2 z _ w.ok r1 r2 ez fun v G3 H3 w3 rv=>?_
 cases z with
 | bl b'=>
  cases ec
  refine ⟨_,rv.bl w3.ok,?_⟩
  cases cc with
  | false=>rw [if_neg Bool.false_ne_true] at q4 ⊢; exact q4 _ G3 H3 (w.trans w3) (.scl (.bl _))
  | true=>
   rw [if_pos rfl] at q4 ⊢
   refine ⟨r,G3,(si.grow w).grow w3,zaD (zaf q4) (w.trans w3) fun d3 q5 v3 G4 H4 w4 r3=>?_⟩
   obtain ⟨d,e,q6⟩:=zaw q5
   exact ho' G4 H4 v2 v3 d2 d3 d Q w4.ok ((r2.mono w3).mono w4) r3 e fun v G' H' w' z=>q6 v G' H' (((w.trans w3).trans w4).trans w') z
 | _=>cases ec
theorem zlv {op op':CmpOp} {R R':R2} {k k':D->D->Option D} (hr:OpR X (compareOp op) R) (hr':OpR X (compareOp op') R') (ho:OpD X.K R k) (ho':OpD X.K R' k') (ha:SB X g m a fa) (hb:SB X g m b fb) (hc:SB X g m c fc)
  (hm:lastMarks [op,op'] [b,c]=false:=by with_unfolding_all rfl):SE X g m (.Compare a [op,op'] [b,c] pos) (zf6 fa fb fc k k'):=PE.imp (zlO hr hr' ha hb hc hm) fun σ H Q h=>zjb ho ho' h
theorem zrY {K:W.Frag}:OpD K (rI0 fun i j=>V.bl (decide (i < j))) ltI:=zeu fun _ _=>.bl _
theorem zrZ {K:W.Frag}:OpD K (rI0 fun i j=>V.bl (decide (i<=j))) leI:=zeu fun _ _=>.bl _
end
theorem zsw {K:W.Frag} {h:Heap} {mg:Str->Option Value} {x:Str} {st:Stmt} (KX:K.In h) (G:h.Ns mainGlobals mg) {f:Addr} {oc:Value} {od an:Option Addr} {osl:Array (Option Value)} {kV doc pm cdv ct:Value} (a:W.nsIn K mainGlobals x=some (some (.ref f)))
  (l:K.lookup f=some ⟨oc,od,.func (W.fnOf x x (defArgs st) (defBody st) (defScope st) .none kV doc pm an cdv ct),osl⟩) (c:W.codeIn K cdv x=true) (k:W.keepIn K (.ref f)=true):DefAt K mg x st:=
 ⟨f,_,W.mg_of KX G a,fun_mk l c k⟩
theorem zsr {P:Program} {w:World} {K:W.Frag} {mg:Str->Option Value} {x p:Str} {st:Stmt} {k:Nat} {F:List D->Res D} {fa:Addr} (hfa:mg x=some (.ref fa)) (A:DefAt K mg x st)
  (hb:∀(kV doc pm:Value) (an:Option Addr) (cdv ct:Value) (us:List Value),us.length=[p].length->bindArgs (W.fnOf x x (defArgs st) (defBody st) (defScope st) .none kV doc pm an cdv ct) ⟨us,[]⟩=pure ([p].zip us))
  (C:∀(f:Addr) (fd:FuncData),Fun K x x st f fd->∀base:Heap,FnOk P w K mg base CX0 k f fd [p] (spM K false [.sh] F)) :
  ∃fd:FuncData,(∀(s:Shared) (u:Value),BindsTo s fd ⟨[u],[]⟩ [(p,u)])/\∀base:Heap,K.In base->base.Ns mainGlobals mg->FnOk P w K mg base CX0 k fa fd [p] (spM K false [.sh] F):=by
 obtain ⟨f,fd,h1,Fn⟩:=A.ex
 rw [hfa] at h1
 cases h1
 refine ⟨fd,fun s u=>?_,fun base _ _=>C fa fd Fn base⟩
 obtain ⟨oc,od,kV,doc,pm,an,cdv,ct,osl,rfl,lk,hcd⟩:=Fn.ex
 exact .of_eq (hb kV doc pm an cdv ct [u] rfl)
theorem zsA {l:W.OpenLaw} {k:Nat} {q:Program} {loose:List Str} {XP:(Str->Option Value)->Heap->Prop} {YP:World->Heap->Prop} {d:DefRec} {K:Params->W.Frag} {x:Str} {F:List D->Res D} (hn:l.most=some 63) (hdf:d.params.defaults=[]) (hr:Room k callerA)
  (hY:∀(w:World) (h:Heap),YP w h->(K w.params).In h) (hF:∀ns:List Int,ns.length<=63->F [.lst (ns.map .int)]=.ok (.bl true))
  (C:∀(w:World) (mg:Str->Option Value) (fa:Addr) (h:Heap),(K w.params).In h->h.Ns mainGlobals mg->mg d.name=some (.ref fa) ->
   ∃fd:FuncData,(∀(s:Shared) (u:Value),BindsTo s fd ⟨[u],[]⟩ [(x,u)])/\∀base:Heap,(K w.params).In base->base.Ns mainGlobals mg->FnOk l.prog w (K w.params) mg base CX0 k fa fd [x] (spM (K w.params) false [.sh] F)) :
  W.WalkO q loose XP YP l.row.toRowW d [] (fun f vs=>PySem.call f vs):=by
 refine L2.walk_of (n:=63) (k:=k) (x:=x) (CX:=fun _=>CX0) (sp:=fun w=>spM (K w.params) false [.sh] F) hn (by decide) hdf hr hY C (fun w H a ns hl hO hS=>?_) fun _ _ _ _ _ z=>z
 have intsP:∀(l:List Int),Paired Scl (l.map V.int) (l.map D.int):=fun l=>by
  induction l with
  | nil=>exact .nil
  | cons i l ih=>exact .cons (.int i) ih
 rcases hS with hS | hS
 ·refine ⟨fun b=>if b=a then some (.lst (ns.map D.int)) else none,[.lst (ns.map .int)],fun b d' hb=>?_,.sh (.ref (if_pos rfl)) .nil,?_⟩
  ·by_cases e:b=a
   ·subst e
    have hb':some (D.lst (ns.map D.int))=some d':=(if_pos rfl).symm.trans hb
    cases hb'
    exact .lst hS (Paired.mono (fun _ _ z=>.scl z) (intsP ns))
   ·have hb':(none:Option D)=some d':=(if_neg e).symm.trans hb
    cases hb'
  ·rw [hF ns hl]
   intro v G' H' w' rv
   exact rv.bl w'.ok
 ·refine ⟨fun _=>none,[.lst (ns.map .int)],fun b d' hb=>(by cases hb),.sh (.kc (.lst (.inr hS) (intsP ns))) .nil,?_⟩
  rw [hF ns hl]
  intro v G' H' w' rv
  exact rv.bl w'.ok
section
open AutoSeq1 (wpAny_loadPart')
section
variable {prog:Program} {w:World} {A:Around} {E:Value->Shared->Prop} {s:Shared}
theorem zew {it t:Addr} {i:Nat} {items} {x:Value} {Q:Value->Shared->Prop} (hit:s.heap.IsTupleIter it t i) (ht:s.heap.IsTuple t items) (hx:items[i]? = some x)
  (hQ:∀h',h'.IsTupleIter it t (i + 1)->Heap.SameBut it s.heap h'->Q x { s with heap:=h' }):wpAny (model prog w) A (Builtin.SmallTypes.nextOf (.ref it)) Q E s:=by
 obtain ⟨o,ho,hc,hd⟩:=id hit
 obtain ⟨ol,hol,_,nl,hdl⟩:=ht
 unfold Builtin.SmallTypes.nextOf
 refine wpAny_bind (wpAny_callSpecial?_slot (name:=Str.ofString "__next__") hit.typeIs F.slot_tuple_iterator_next
  (wpAny_call_entry F.slot_tuple_iterator_next hit.typeIs F.entry_tuple_iterator_next ?_ (F.args_tuple_iterator_next_1 _)))
 show wpAny _ _ (field (.ref it) 0 >>= _) _ _ s
 refine wpAny_bind (wpAny_field ho hd (x:=.ref t) rfl ?_)
 show wpAny _ _ (if (Value.ref t == Value.none)=true then _ else _) _ _ s
 rw [if_neg (show ¬ ((Value.ref t == Value.none)=true) from Bool.false_ne_true)]
 show wpAny _ _ (field (.ref it) 1 >>= _) _ _ s
 refine wpAny_bind (wpAny_field ho hd (x:=.int i 0) rfl ?_)
 show wpAny _ _ (seqItems? (.ref t) >>= _) _ _ s
 refine wpAny_bind (wpAny_seqItems hol hdl ?_)
 simp only [Int.toNat_natCast,hx]
 refine wpAny_bind (wpAny_setField ho hd (by simp) (wpAny_pure ⟨x,rfl,wpAny_pure (hQ _ ?_ (Heap.SameBut.update ..))⟩))
 exact ⟨_,Heap.get?_update_self _ ho (Obj.isFreed_of_fields (Obj.data_mapFields hd _)),(Obj.cls_mapFields ..).trans hc,by
  rw [Obj.data_mapFields hd]; simp [rawInt]⟩
theorem zeV {it t:Addr} {i:Nat} {items} {Q:Value->Shared->Prop} (hh:A.handled=none) (hit:s.heap.IsTupleIter it t i) (ht:s.heap.IsTuple t items) (hx:items[i]? = none)
  (hE:∀h' e,Heap.ExtBut it s.heap h'->(∃o,h'.get? e=some o/\o.cls=.type "StopIteration")->E (.ref e) { s with heap:=h' }):wpAny (model prog w) A (Builtin.SmallTypes.nextOf (.ref it)) Q E s:=by
 obtain ⟨o,ho,hc,hd⟩:=id hit
 obtain ⟨ol,hol,_,nl,hdl⟩:=ht
 unfold Builtin.SmallTypes.nextOf
 refine wpAny_bind (wpAny_callSpecial?_slot (name:=Str.ofString "__next__") hit.typeIs F.slot_tuple_iterator_next
  (wpAny_call_entry F.slot_tuple_iterator_next hit.typeIs F.entry_tuple_iterator_next ?_ (F.args_tuple_iterator_next_1 _)))
 show wpAny _ _ (field (.ref it) 0 >>= _) _ _ s
 refine wpAny_bind (wpAny_field ho hd (x:=.ref t) rfl ?_)
 show wpAny _ _ (if (Value.ref t == Value.none)=true then _ else _) _ _ s
 rw [if_neg (show ¬ ((Value.ref t == Value.none)=true) from Bool.false_ne_true)]
 show wpAny _ _ (field (.ref it) 1 >>= _) _ _ s
 refine wpAny_bind (wpAny_field ho hd (x:=.int i 0) rfl ?_)
 show wpAny _ _ (seqItems? (.ref t) >>= _) _ _ s
 refine wpAny_bind (wpAny_seqItems hol hdl ?_)
 simp only [Int.toNat_natCast,hx]
 refine wpAny_bind (wpAny_rule (wpAny_bind (wpAny_setField ho hd (by simp) ?_)))
 show wpAny _ _ (newExc (.type "StopIteration") [] >>= _) _ _ _
 refine wpAny_bind ?_
 simp only [newExc,newTuple]
 refine wpAny_bind (wpAny_newObj_type ?_ (by size_fits))
 refine wpAny_bind (m:=firstArgMember _ _) (wpAny_of_eq (a:=Value.none) (by first | rfl | (simp only [firstArgMember]; rfl)) ?_)
 refine wpAny_newObj_type ?_ (by size_fits)
 simp only [raiseNew]
 refine wpAny_bind (wpAny_handled ?_)
 first | rw [show A.in1.handled=none from hh] | rw [hh]
 refine wpAny_bind (wpAny_pure (wpAny_throw ?_))
 exact hE _ _ (((Heap.SameBut.update ..).extBut.push _).push _) ⟨_,Heap.get?_push_size _ rfl,rfl⟩
end
theorem zkR {prog:Program} {w:World} {A:Around} (hh:A.handled=none) (it l:Addr) (hne:l≠it) (items:Array Value) :
  Draws prog w A it [it,l] items.size (fun i v=>items[i]? = some v) (fun i h=>h.IsTupleIter it l i/\h.IsTuple l items) where
 live:=fun _ _ st=>let ⟨o,ho,_⟩:=st.1; ⟨o,ho⟩
 frame:=fun _ _ _ st hk=>⟨let ⟨o,ho,r⟩:=st.1; ⟨o,hk it (by simp) o ho,r⟩,let ⟨o,ho,r⟩:=st.2; ⟨o,hk l (by simp) o ho,r⟩⟩
 item:=fun i s Q E hi st hQ=>by
  refine zew st.1 st.2 (x:=items[i]) (by simp [hi]) fun h' hit' hs'=>?_
  exact hQ _ h' s.toks (by simp [hi]) ⟨hit',st.2.extBut hs'.extBut hne⟩ hs'
 done:=fun s Q E st hE=>zeV hh st.1 st.2 (by simp) hE
theorem zfl (l:Addr) (items:Array Value) (n:Nat) (dct:Option Addr) (sl:Array (Option Value)) :
  Meets (Builtin.«enumerate.__new__» ⟨[.type "enumerate",.ref l],[]⟩) (fun _ R s=>s.heap.get? l=some { cls:=.type "tuple",dict:=dct,data:=.seq items n,slots:=sl } /\
   R (.ok (.ret (.ref (s.heap.push { cls:=.type "tuple_iterator",data:=.fields #[.ref l,.int 0 0] }).objs.size)))
    { s with heap:=(s.heap.push { cls:=.type "tuple_iterator",data:=.fields #[.ref l,.int 0 0] }).push { cls:=.type "enumerate",data:=.fields #[.none,.bool false,.ref s.heap.objs.size,rawInt 0,.none,.none] } }):=
 .of_wp fun prog w A R s h=>by
  obtain ⟨hp,g,d,tk,os⟩:=s; obtain ⟨hl,h⟩:=h
  have hsub:=sub_enumerate
  have hL:Heap.IsTuple (Shared.heap ⟨hp,g,d,tk,os⟩) l items:=⟨_,hl,rfl,n,rfl⟩
  wp_walk using wpAny_loadPart' hl
  refine wpAny_stack_any fun st=>wpAny_pure ?_
  split
  ·rename_i c _ _ _ _ _
   cases (c == Value.type "enumerate")
   ·wp_walk using wpAny_loadPart' hl,wpAny_pyIter_tuple hL
    exact ⟨_,rfl,h⟩
   ·wp_walk using wpAny_loadPart' hl,wpAny_pyIter_tuple hL
    exact ⟨_,rfl,h⟩
  ·wp_walk using wpAny_loadPart' hl,wpAny_pyIter_tuple hL
   exact ⟨_,rfl,h⟩
section
variable {prog:Program} {w:World} {A:Around} {E:Value->Shared->Prop} {s:Shared}
theorem zfA {l:Addr} {items:Array Value} {Q:Value->Shared->Prop} (hL:s.heap.IsTuple l items)
  (h:∀h',IsEnum h' (s.heap.objs.size + 1) s.heap.objs.size 0 .none->h'.IsTupleIter s.heap.objs.size l 0->h'.objs.size=s.heap.objs.size + 2 ->
   (∀b o,s.heap.get? b=some o->h'.get? b=some o)->Q (.ref (s.heap.objs.size + 1)) { s with heap:=h' }) :
  wpAny (model prog w) A (call (.type "enumerate") [.ref l]) Q E s:=by
 obtain ⟨⟨c,dct,dt,sl⟩,hl,hc,n,hd⟩:=hL
 replace hc:c=.type "tuple" := hc
 replace hd:dt=.seq items n:=hd
 subst hc hd
 refine callType_new F.called_enumerate (by decide) (F.typeCall_enumerate_1 _) (F.newCall_enumerate_1 _) (fun obj=>F.args_object_init_2 obj _) F.entry_enumerate_new
  (zfl l items n dct sl) ⟨hl,?_⟩
 have hz:(s.heap.push { cls:=.type "tuple_iterator",data:=.fields #[.ref l,.int 0 0] }).objs.size=s.heap.objs.size + 1:=Heap.size_push ..
 show _/\_
 rw [hz]
 have he:IsEnum ((s.heap.push { cls:=.type "tuple_iterator",data:=.fields #[.ref l,.int 0 0] }).push
   { cls:=.type "enumerate",data:=.fields #[.none,.bool false,.ref s.heap.objs.size,rawInt 0,.none,.none] }) (s.heap.objs.size + 1) s.heap.objs.size 0 .none:=by
  have:=Heap.get?_push_size (s.heap.push { cls:=.type "tuple_iterator",data:=.fields #[.ref l,.int 0 0] })
   (o:={ cls:=.type "enumerate",data:=.fields #[.none,.bool false,.ref s.heap.objs.size,rawInt 0,.none,.none] }) rfl
  rw [hz] at this; exact this
 refine ⟨⟨_,he,rfl⟩,h _ he ⟨_,Heap.get?_push_of_some _ (Heap.get?_push_size _ rfl),rfl,rfl⟩ (by rw [Heap.size_push,hz]) fun b o x=>Heap.get?_push_of_some _ (Heap.get?_push_of_some _ x)⟩
end
theorem zgx {X:Cx} {pins:List (Addr × Obj)} {σ:L2.St} {H:Hp} {s:Shared} {h':Heap} {ch:List Addr} {T:Addr} {o:HO} {t':Nat} (I:Inv X pins σ H s)
  (hch:∀b∈ch,FpOk X pins H b) (k:∀b ob,b∉ch->s.heap.get? b=some ob->h'.get? b=some ob) (hT:s.heap.objs.size<=T) (new:zbg X.prog X.w (upd H T o) h' T o):Inv X pins σ (upd H T o) { s with heap:=h',toks:=t' }:=by
 have hTn:H T=none:=I.hok.fresh hT
 have trk:∀b u,H b=some u->b∉ch:=fun b u e hb=>by rw [(hch b hb).1] at e; cases e
 have neT:∀b ob,s.heap.get? b=some ob->b≠T:=fun b ob e=>Nat.ne_of_lt (Nat.lt_of_lt_of_le (Heap.lt_size e) hT)
 have keepU:∀b u,H b=some u->upd H T o b=some u:=fun b u e=>by rw [zal (zbw e hTn)]; exact e
 refine I.step (g':=s.gens) (d':=s.drawn) (ch:=ch) (fun b hb=>?_) (fun b ob _ _ hc e _=>k b ob hc e) (fun b ob _ _ hc e _=>⟨ob.slots,k b ob hc e⟩) (fun b ob hc e n=>by rw [zal (neT b ob e)]; exact n)
  (fun b ob hc e=>⟨ob,k b ob hc e⟩) (fun b xs e=>keepU b _ e) (fun b ob u e=>keepU b _ e) (fun b ps e=>⟨#[],by rw [keepU b _ e]; simp⟩) (fun m hm=>?_) (fun b u e=>?_) I.bare
 ·obtain ⟨z0,z1,z2,z3,z4,z5⟩:=hch b hb
  exact ⟨z3,z1,z4,z5⟩
 ·obtain ⟨ob,es,ep,ho,r⟩:=hm
  exact ⟨ob,es,ep,k _ ob (fun hb=>(hch _ hb).2.1 rfl) ho,r⟩
 ·by_cases hb:b=T
  ·subst hb
   rw [zam] at e
   cases e
   exact new
  ·rw [zal hb] at e
   refine (I.hok b u e).stay (fun c v hc q=>k c v ?_ q) (fun c q=>keepU c _ q) fun c xs q=>keepU c _ q
   rcases hc with z | z
   ·rw [z]; exact trk b u e
   ·exact trk c _ z
def Ien (sq:Hp->List V->Prop):It:=
 ⟨fun i H=>∃xs x,sq H xs/\xs[i]? = some x,fun i H x H'=>∃p v,H p=none/\x=.ref p/\H'=upd H p (.tup [.int i,v])/\∀xs,sq H xs->xs[i]? = some v,fun i H=>∃xs,sq H xs/\xs.length=i⟩
theorem zj2 {P:Program} {w:World} {H:Hp} {h:Heap} {T:Addr} {i:Nat} {tk:Tok} {x:Value} {v:V} (hT:h.get? T=some { cls:=.type "tuple",data:=.seq #[.int i tk,x] }) (r:L2.RelV v x):zbg P w H h T (.tup [.int i,v]):=
 ⟨by show 2<=sizeLine; decide,[.int i tk,x],.cons ⟨tk,rfl⟩ (.cons r .nil),⟨_,hT,rfl,0,rfl⟩,_,hT,rfl⟩
theorem ziL {P:Program} {w:World} {K:W.Frag} {elts:List Expr} {k:Nat} {pos:Pos} (a it e:Addr) (hei:e≠it):Turn P w K (.Tuple elts k pos) (Ien fun H xs=>SqL K H a xs) [e,it] e (fun i h=>(∃old,IsEnum h e it i old)/\h.IsListIter it a i) where
 mem:=by simp
 obj:=fun i h st b hb=>by
  obtain ⟨⟨old,he⟩,o,ho,hc,hd⟩:=st
  rcases List.mem_cons.mp hb with rfl | hb
  ·exact ⟨_,he,fun v z=>by have z':Data.fields _=Data.cell v:=z; cases z'⟩
  ·rw [List.mem_singleton.mp hb]
   exact ⟨o,ho,fun v z=>by rw [hd] at z; cases z⟩
 keep:=fun i h h' st kk=>by
  obtain ⟨⟨old,he⟩,hi⟩:=st
  exact ⟨⟨old,kk e (by simp) _ he⟩,hi.at fun o q=>kk it (by simp) o q⟩
 item:=by
  intro X hP hw hK hc i pins s σ H E I hf st hg
  subst hP hw hK
  obtain ⟨xs,x,hq,hx⟩:=hg
  obtain ⟨its,rv,p,hz⟩:=I.list hq
  obtain ⟨⟨old,he⟩,hi⟩:=st
  obtain ⟨o1,ho1,hc1,hd1⟩:=id hi
  obtain ⟨o2,ho2,hc2,_⟩:=id p.isList
  have hai:a≠it:=by rintro rfl; rw [ho1] at ho2; cases ho2; rw [hc1] at hc2; exact absurd hc2 (by decide)
  have hea:e≠a:=by rintro rfl; rw [he] at ho2; cases ho2; exact absurd (show Value.type "enumerate" = _ from hc2) (by decide)
  have hlt:i < its.toArray.size:=by
   have:=(List.getElem?_eq_some_iff.mp hx).1
   rw [List.size_toArray,<-rv.length]; exact this
  refine wpAny_pyNext_enum_itemD (Draws.list (A:=X.A.in1) (show X.A.in1.handled=none from I.ok.hd hc) it a hai its.toArray) he ⟨hi,p.isList⟩ hlt hei (by simp [hei,hea]) fun y h' tk hP ho hs' hT hsz hk=>?_
  refine ⟨_,rfl,wpAny_letOwnedTupleGo_enum ho fun h'' he'' hs''=>?_⟩
  obtain ⟨u,hu,ru⟩:=rv.get hx
  have hy:y=u:=by
   have:its[i]? = some y:=by simpa using hP
   rw [hu] at this; exact (Option.some.inj this).symm
  subst hy
  have hTe:s.heap.objs.size≠e:=Nat.ne_of_gt (Heap.lt_size he)
  have hT'':h''.get? s.heap.objs.size=some { cls:=.type "tuple",data:=.seq #[.int i tk,y] }:=(hs''.2 _ hTe).trans hT
  refine ⟨.ref s.heap.objs.size,upd H s.heap.objs.size (.tup [.int i,x]),zgx (s:=s) (h':=h'') (t':=tk + 1) (ch:=[e,it]) I hf (fun b ob hb q=>?_) (Nat.le_refl _) (zj2 hT'' ru),rfl,⟨_,x,I.hok.fresh (Nat.le_refl _),rfl,rfl,fun ys hy=>by rw [I.list_inj hy hq]; exact hx⟩,⟨⟨_,by simpa using he''⟩,hs'.1.extBut hs''.extBut (Ne.symm hei)⟩,fun b hb=>?_⟩
  ·have hbe:b≠e:=fun z=>hb (by simp [z])
   exact (hs''.2 b hbe).trans (hk b ob hbe (fun z=>hb (by simp [z])) q)
  ·rw [zal ?_]
   ·exact (hf b hb).1
   ·rcases List.mem_cons.mp hb with rfl | hb
    ·exact Nat.ne_of_lt (Heap.lt_size he)
    ·rw [List.mem_singleton.mp hb]; exact Nat.ne_of_lt (Heap.lt_size ho1)
 done:=by
  intro X hP hw hK hc i pins s σ H E I hf st hg
  subst hP hw hK
  obtain ⟨xs,hq,hx⟩:=hg
  obtain ⟨its,rv,p,hz⟩:=I.list hq
  obtain ⟨⟨old,he⟩,hi⟩:=st
  obtain ⟨o1,ho1,hc1,hd1⟩:=id hi
  obtain ⟨o2,ho2,hc2,_⟩:=id p.isList
  have hai:a≠it:=by rintro rfl; rw [ho1] at ho2; cases ho2; rw [hc1] at hc2; exact absurd hc2 (by decide)
  obtain ⟨f0,f1,f2,f3,f4,f5⟩:=hf it (by simp)
  have hn:its.toArray.size=i:=by rw [List.size_toArray,<-rv.length]; exact hx
  refine wpAny_pyNext_enum_endD (Draws.list (A:=X.A.in1) (show X.A.in1.handled=none from I.ok.hd hc) it a hai its.toArray) he ⟨by rw [hn]; exact hi,p.isList⟩ fun h' eb=>⟨rfl,I.turned (t':=s.toks) (fun b o hb q=>eb b o hb q) f0 f1 f3 f4 f5⟩
 self:=fun _ _ _ _ _ st h=>let ⟨⟨_,he⟩,_⟩:=st; wpAny_pyIter_enum he h
theorem IsTupleIter.at' {h h':Heap} {a t:Addr} {i:Nat} (x:h.IsTupleIter a t i) (hs:∀o,h.get? a=some o->h'.get? a=some o):h'.IsTupleIter a t i:=let ⟨o,ho,r⟩:=x; ⟨o,hs o ho,r⟩
theorem ziK {P:Program} {w:World} {K:W.Frag} {elts:List Expr} {k:Nat} {pos:Pos} (a it e:Addr) (hei:e≠it):Turn P w K (.Tuple elts k pos) (Ien fun H xs=>SqT K H a xs) [e,it] e (fun i h=>(∃old,IsEnum h e it i old)/\h.IsTupleIter it a i) where
 mem:=by simp
 obj:=fun i h st b hb=>by
  obtain ⟨⟨old,he⟩,o,ho,hc,hd⟩:=st
  rcases List.mem_cons.mp hb with rfl | hb
  ·exact ⟨_,he,fun v z=>by have z':Data.fields _=Data.cell v:=z; cases z'⟩
  ·rw [List.mem_singleton.mp hb]
   exact ⟨o,ho,fun v z=>by rw [hd] at z; cases z⟩
 keep:=fun i h h' st kk=>by
  obtain ⟨⟨old,he⟩,hi⟩:=st
  exact ⟨⟨old,kk e (by simp) _ he⟩,IsTupleIter.at' hi fun o q=>kk it (by simp) o q⟩
 item:=by
  intro X hP hw hK hc i pins s σ H E I hf st hg
  subst hP hw hK
  obtain ⟨xs,x,hq,hx⟩:=hg
  obtain ⟨its,rv,p,hz⟩:=I.tuple hq
  obtain ⟨⟨old,he⟩,hi⟩:=st
  obtain ⟨o1,ho1,hc1,hd1⟩:=id hi
  obtain ⟨o2,ho2,hc2,_⟩:=id p
  have hai:a≠it:=by rintro rfl; rw [ho1] at ho2; cases ho2; rw [hc1] at hc2; exact absurd hc2 (by decide)
  have hea:e≠a:=by rintro rfl; rw [he] at ho2; cases ho2; exact absurd (show Value.type "enumerate" = _ from hc2) (by decide)
  have hlt:i < its.toArray.size:=by
   have:=(List.getElem?_eq_some_iff.mp hx).1
   rw [List.size_toArray,<-rv.length]; exact this
  refine wpAny_pyNext_enum_itemD (zkR (A:=X.A.in1) (show X.A.in1.handled=none from I.ok.hd hc) it a hai its.toArray) he ⟨hi,p⟩ hlt hei (by simp [hei,hea]) fun y h' tk hP ho hs' hT hsz hk=>?_
  refine ⟨_,rfl,wpAny_letOwnedTupleGo_enum ho fun h'' he'' hs''=>?_⟩
  obtain ⟨u,hu,ru⟩:=rv.get hx
  have hy:y=u:=by
   have:its[i]? = some y:=by simpa using hP
   rw [hu] at this; exact (Option.some.inj this).symm
  subst hy
  have hTe:s.heap.objs.size≠e:=Nat.ne_of_gt (Heap.lt_size he)
  have hT'':h''.get? s.heap.objs.size=some { cls:=.type "tuple",data:=.seq #[.int i tk,y] }:=(hs''.2 _ hTe).trans hT
  refine ⟨.ref s.heap.objs.size,upd H s.heap.objs.size (.tup [.int i,x]),zgx (s:=s) (h':=h'') (t':=tk + 1) (ch:=[e,it]) I hf (fun b ob hb q=>?_) (Nat.le_refl _) (zj2 hT'' ru),rfl,⟨_,x,I.hok.fresh (Nat.le_refl _),rfl,rfl,fun ys hy=>by rw [I.tuple_inj hy hq]; exact hx⟩,⟨⟨_,by simpa using he''⟩,hs'.1.extBut hs''.extBut (Ne.symm hei)⟩,fun b hb=>?_⟩
  ·have hbe:b≠e:=fun z=>hb (by simp [z])
   exact (hs''.2 b hbe).trans (hk b ob hbe (fun z=>hb (by simp [z])) q)
  ·rw [zal ?_]
   ·exact (hf b hb).1
   ·rcases List.mem_cons.mp hb with rfl | hb
    ·exact Nat.ne_of_lt (Heap.lt_size he)
    ·rw [List.mem_singleton.mp hb]; exact Nat.ne_of_lt (Heap.lt_size ho1)
 done:=by
  intro X hP hw hK hc i pins s σ H E I hf st hg
  subst hP hw hK
  obtain ⟨xs,hq,hx⟩:=hg
  obtain ⟨its,rv,p,hz⟩:=I.tuple hq
  obtain ⟨⟨old,he⟩,hi⟩:=st
  obtain ⟨o1,ho1,hc1,hd1⟩:=id hi
  obtain ⟨o2,ho2,hc2,_⟩:=id p
  have hai:a≠it:=by rintro rfl; rw [ho1] at ho2; cases ho2; rw [hc1] at hc2; exact absurd hc2 (by decide)
  obtain ⟨f0,f1,f2,f3,f4,f5⟩:=hf it (by simp)
  have hn:its.toArray.size=i:=by rw [List.size_toArray,<-rv.length]; exact hx
  refine wpAny_pyNext_enum_endD (zkR (A:=X.A.in1) (show X.A.in1.handled=none from I.ok.hd hc) it a hai its.toArray) he ⟨by rw [hn]; exact hi,p⟩ fun h' eb=>⟨rfl,I.turned (t':=s.toks) (fun b o hb q=>eb b o hb q) f0 f1 f3 f4 f5⟩
 self:=fun _ _ _ _ _ st h=>let ⟨⟨_,he⟩,_⟩:=st; wpAny_pyIter_enum he h
end
def tyN:D->Option String
 | .non=>some "NoneType"
 | .bl _=>some "bool"
 | .int _=>some "int"
 | .str _=>some "str"
 | .tup _=>some "tuple"
 | .lst _=>some "list"
 | .dic _=>some "dict"
 | .obj _ _=>none
def subT (t T:String):Bool:=t == T || (t == "bool" && T == "int")
def isiD (T:String) (d:D):Option D:=(tyN d).map fun t=>.bl (subT t T)
def TyD (K:W.Frag) (x:V) (H:Hp) (t:String):Prop:=match x with
 | .non=>t = "NoneType"
 | .bl _=>t = "bool"
 | .int _=>t = "int"
 | .str _=>t = "str"
 | .ref p=>(t = "list"/\∃xs,SqL K H p xs)\/(t = "tuple"/\∃xs,SqT K H p xs)\/(t = "dict"/\∃kvs,Rd H p (.dK kvs))
 | _=>False
theorem zo6 {K:W.Frag} {G:GH} {H:Hp} {v:V} {d:D} {t:String} (gk:GOk K G H) (h:RB K G H v d) (e:tyN d=some t):TyD K v H t:=by
 cases d with
 | non=>cases e; rw [h.non gk]; rfl
 | bl b=>cases e; rw [h.bl gk]; rfl
 | int i=>cases e; rw [h.int gk]; rfl
 | str x=>cases e; rw [h.str gk]; rfl
 | tup ds=>cases e; obtain ⟨a,xs,rfl,s,r⟩:=h.tup gk; exact .inr (.inl ⟨rfl,xs,s⟩)
 | lst ds=>cases e; obtain ⟨a,xs,rfl,s,r⟩:=h.lst gk; exact .inl ⟨rfl,xs,s⟩
 | dic ds=>cases e; obtain ⟨a,xs,rfl,s,r⟩:=h.dic gk; exact .inr (.inr ⟨rfl,xs,s⟩)
 | obj _ _=>cases e
section
variable {X:Cx} {g:GE} {m:List Md} {e a:Expr} {f:FE} {pos p p2:Pos}
theorem zmq:zds X (.builtin "isinstance") (fun xs H Q=>∃x t T b,xs=[x,.ty T]/\TyD X.K x H t/\W.kitOne X.K (.type t) (.type T)=some b/\Q (.bl b) H):=by
 intro pins s σ H xs us Q I r h
 obtain ⟨x,t,T,b,rfl,ty,e,q⟩:=h
 obtain ⟨u,w',rfl,rx,ry⟩:=zlj r
 cases ry
 have fin:∀tk,EP X pins σ Q (.bool b) { s with toks:=tk }:=fun tk=>⟨.bl b,H,I.tok tk,rfl,q⟩
 cases x with
 | non=>cases rx; cases (show t = "NoneType" from ty); exact W.kia_one W.kitx_none I.kIn True.intro e (fun z=>nomatch z) fin
 | bl y=>cases rx; cases (show t = "bool" from ty); exact W.kia_one W.kitx_bool I.kIn True.intro e (fun z=>nomatch z) fin
 | int i=>obtain ⟨t,rfl⟩:=rx; cases ty; exact W.kia_one W.kitx_int I.kIn True.intro e (fun z=>nomatch z) fin
 | str i=>obtain ⟨t,rfl⟩:=rx; cases ty; exact W.kia_one W.kitx_str I.kIn True.intro e (fun z=>nomatch z) fin
 | ref p=>
  cases rx
  rcases ty with ⟨rfl,xs,hq⟩ | ⟨rfl,xs,hq⟩ | ⟨rfl,kvs,hq⟩
  ·obtain ⟨its,_,pl,_⟩:=I.list hq
   obtain ⟨o,ho,hc,_⟩:=pl.isList
   exact W.kia_one W.kitx_list I.kIn ⟨o,ho,hc⟩ e (fun z=>nomatch z) fin
  ·obtain ⟨its,_,pl,_⟩:=I.tuple hq
   obtain ⟨o,ho,hc,_⟩:=pl
   exact W.kia_one W.kitx_tuple I.kIn ⟨o,ho,hc⟩ e (fun z=>nomatch z) fin
  ·obtain ⟨_,_,vs,_,pp⟩:=(show zbg X.prog X.w H s.heap p (.dK kvs) from hq.ok I.hok)
   obtain ⟨o,es,ep,h1,h2,_⟩:=pp
   exact W.kia_one W.kitx_dict I.kIn ⟨o,h1,h2.1⟩ e (fun z=>nomatch z) fin
 | _=>exact (show False from ty).elim
theorem zlu (x:Str) (T:String) (hv:bootBuiltins x=some (.type T)) (hk:∀(d:D) (t:String),tyN d=some t->W.kitOne X.K (.type t) (.type T)=some (subT t T)) (hg:Gl X "isinstance") (hm:X.mg "isinstance" = none) (hgT:Gl X x) (hmT:X.mg x=none) (he:SB X g m e f)
  (hn:x≠"__name__" := by decide) (hd:(x == ("__debug__" : Str))=false:=by decide) (hs1:starEach [e,.Name x p2] X.env=(false,eval e X.env)::starEach [.Name x p2] X.env:=by rfl) (hs2:starEach [.Name x p2] X.env=(false,eval (.Name x p2) X.env)::starEach [] X.env:=by rfl)
  (hpl:(backTo pos (starEach [.Name x p2] X.env)).any (·.1)=false:=by rfl) :
  SE X g m (.Call (.Name "isinstance" p) [e,.Name x p2] [] pos) (f1 f (isiD T)):=by
 refine PE.imp (zee zmq hg hm (by first | exact PyProof.Rows.boot_isinstance | rfl) (zbb he (zbb (zjZ (v:=.ty T) hgT hmT hv rfl hn hd) zde hs2) hs1) (by decide) (by decide) hs1 hpl) fun σ H Q ⟨r,G,si,q⟩=>⟨r,G,si,zag (zaf q) fun d q1 v G1 H1 w1 r1=>?_⟩
 obtain ⟨d',e',q2⟩:=zaw q1
 unfold isiD at e'
 cases et:tyN d with
 | none=>rw [et] at e'; cases e'
 | some t=>
  rw [et] at e'
  cases e'
  exact ⟨v,t,T,_,rfl,zo6 w1.ok r1 et,hk d t et,q2 _ G1 H1 w1 (.scl (.bl _))⟩
end
theorem zfa {d:D} {t:String} (h:tyN d=some t) {P:String->Prop} (h1:P "NoneType") (h2:P "bool") (h3:P "int") (h4:P "str") (h5:P "tuple") (h6:P "list") (h7:P "dict"):P t:=by
 cases d <;> cases h <;> assumption
theorem zok (K:W.Frag) (d:D) (t:String) (h:tyN d=some t):W.kitOne K (.type t) (.type "int")=some (subT t "int"):=zfa (P:=fun t=>W.kitOne K (.type t) (.type "int")=some (subT t "int")) h (by kernel_rfl) (by kernel_rfl) (by kernel_rfl) (by kernel_rfl) (by kernel_rfl) (by kernel_rfl) (by kernel_rfl)
theorem zl4 (K:W.Frag) (d:D) (t:String) (h:tyN d=some t):W.kitOne K (.type t) (.type "bool")=some (subT t "bool"):=zfa (P:=fun t=>W.kitOne K (.type t) (.type "bool")=some (subT t "bool")) h (by kernel_rfl) (by kernel_rfl) (by kernel_rfl) (by kernel_rfl) (by kernel_rfl) (by kernel_rfl) (by kernel_rfl)
theorem zkt (K:W.Frag) (d:D) (t:String) (h:tyN d=some t):W.kitOne K (.type t) (.type "str")=some (subT t "str"):=zfa (P:=fun t=>W.kitOne K (.type t) (.type "str")=some (subT t "str")) h (by kernel_rfl) (by kernel_rfl) (by kernel_rfl) (by kernel_rfl) (by kernel_rfl) (by kernel_rfl) (by kernel_rfl)
section
variable {X:Cx} {g:GE} {m:List Md} {e a b:Expr} {f fa:FE} {pos p pos2 p2:Pos} {es:List Expr} {fl:Rho->Res (List D)}
def rngV (lo:Int) (n:Nat):List V:=(List.range n).map fun (i:Nat)=>V.int (lo + (i:Int))
theorem zpC {K:W.Frag} {G:GH} (lo:Int) (n:Nat):RGs K G (rngV lo n) (rngD lo n):=by
 unfold rngV rngD
 induction (List.range n) with
 | nil=>exact .nil
 | cons i l ih=>exact .cons (.scl (.int _)) ih
theorem zd1:∀{xs:List V} {us:List Value},xs.length=us.length->(∀(j:Nat) v u,xs[j]? = some v->us[j]? = some u->L2.RelV v u)->Vals xs us
 | [],[],_,_=>.nil
 | v::xs,u::us,hl,h=>.cons (h 0 v u rfl rfl) (zd1 (by simpa using hl) fun j a b e1 e2=>h (j + 1) a b (by simpa using e1) (by simpa using e2))
 | [],_::_,hl,_=>by simp at hl
 | _::_,[],hl,_=>by simp at hl
theorem zlB {lo:Int} {n:Nat} {acc:Array Value} (h:ItemsOf (fun i v=>∃t,v=.int (lo + i * 1) t) acc n):Vals (rngV lo n) acc.toList:=by
 refine zd1 (by simp [rngV,h.1]) fun j v u e1 e2=>?_
 have hj:j < n:=by
  have:=(List.getElem?_eq_some_iff.mp e1).1
  simpa [rngV] using this
 unfold rngV at e1
 rw [List.getElem?_map,List.getElem?_range hj] at e1
 cases e1
 obtain ⟨t,rfl⟩:=h.2 j u (by rw [<-Array.getElem?_toList]; exact e2)
 exact ⟨t,by simp⟩
theorem zk3:zds X (.type "range") (fun xs H Q=>∃j,xs=[.int j]/\∀p,H p=none->Q (.ref p) (upd H p (.rng 0 j))):=by
 intro pins s σ H xs us Q I r h
 obtain ⟨j,rfl,q⟩:=h
 obtain ⟨u,rfl,t,rfl⟩:=zeR r
 refine call_range_1 ⟨.ref s.heap.objs.size,_,I.laid (o:=.rng 0 j) (fun b o e=>Heap.get?_push_of_some _ e) (Nat.le_refl _) ⟨_,_,_,Heap.get?_push_size _ rfl⟩,rfl,q _ (I.hok.fresh (Nat.le_refl _))⟩
theorem zgD (hc:X.calm=true):zds X (.type "list") (fun xs H Q=>∃p lo hi,xs=[.ref p]/\H p=some (.rng lo hi)/\(-(2 ^ 62)<=lo/\lo < 2 ^ 62/\-(2 ^ 62)<=hi/\hi < 2 ^ 62)/\(hi - lo).toNat<=sizeLine/\∀l,H l=none->Q (.ref l) (upd H l (.lst (rngV lo (hi - lo).toNat)))):=by
 intro pins s σ H xs us Q I r h
 obtain ⟨p,lo,hi,rfl,hp,⟨h1,h2,h3,h4⟩,hz,q⟩:=h
 obtain ⟨u,rfl,rx⟩:=zeR r
 cases rx
 obtain ⟨t,u,v,ho⟩:=(show zbg X.prog X.w H s.heap p (.rng lo hi) from I.hok p _ hp)
 have e2:Builtin.Range.rangeSize lo hi 1=(((hi - lo).toNat:Nat):Int):=by rw [rangeSize_one]; split <;> omega
 refine call_list_range (I.ok.hd hc) (r:=p) (a:=lo) (b:=hi) (c:=1) ho (small_one h1 h2 h3 h4) e2 (by rw [sizeLine_eq] at hz; omega) fun h' tk acc c' kp hS hacc=>?_
 refine ⟨.ref s.heap.objs.size,_,I.laid (t':=tk) kp (Nat.le_refl _) (show zbg X.prog X.w _ h' _ (.lst (rngV lo (hi - lo).toNat)) from ⟨by unfold rngV; rw [List.length_map,List.length_range]; exact hz,acc.toList,c',zlB hacc,by rw [Array.toArray_toList]; exact hS⟩),rfl,q _ (I.hok.fresh (Nat.le_refl _))⟩
def zi1:List D->Option D
 | [.int j]=>if -(2 ^ 62)<=j/\j < 2 ^ 62/\j.toNat<=sizeLine then some (.lst (rngD 0 j.toNat)) else none
 | _=>none
theorem zq4 {H:Hp} {p l:Addr} {o:HO} (h:upd H p o l=none):H l=none/\l≠p:=by
 by_cases e:l=p
 ·subst e; rw [zam] at h; cases h
 ·rw [zal e] at h; exact ⟨h,e⟩
theorem zn9 (hc:X.calm=true) (hgl:Gl X "list") (hml:X.mg "list" = none) (hg:Gl X "range") (hm:X.mg "range" = none) (ha:SAB X g m [a] fl)
  (hs:starEach [a] X.env=(false,eval a X.env)::starEach [] X.env:=by rfl)
  (hs2:starEach [.Call (.Name "range" p2) [a] [] pos2] X.env=(false,eval (.Call (.Name "range" p2) [a] [] pos2) X.env)::starEach [] X.env:=by rfl) :
  SO X g m (.Call (.Name "list" p) [.Call (.Name "range" p2) [a] [] pos2] [] pos) (fC fl zi1):=by
 refine PE.imp (zed (zgD hc) hgl hml rfl (zbb (zed zk3 hg hm boot_range ha (by decide) (by decide) hs rfl) zde hs2) (by decide) (by decide) hs2 rfl) fun σ H Q ⟨r,G,si,q⟩=>⟨r,G,si,zag (zaf q) fun ds q1 vs G1 H1 w1 rs=>?_⟩
 obtain ⟨d,e,q2⟩:=zaw q1
 unfold zi1 at e
 split at e
 ·split at e
  ·rename_i j hj
   cases e
   cases rs with
   | cons r1 t=>
    cases t
    refine ⟨j,by rw [r1.int w1.ok],fun p hp=>⟨p,0,j,rfl,zam,⟨by decide,by decide,hj.1,hj.2.1⟩,by simpa using hj.2.2,fun l hl=>?_⟩⟩
    obtain ⟨hl1,hl2⟩:=zq4 hl
    have w2:=Grow.new w1.ok hp (.rng 0 j)
    have w3:=Grow.new w2.ok hl (.lst (rngV 0 (j - 0).toNat))
    refine q2 l G1 _ (w1.trans (w2.trans w3)) (w1.back hl1) ⟨w1.ok.isN hl1,.lst zam ?_⟩
    rw [show j - 0=j by omega]
    exact zpC 0 _
  ·cases e
 ·cases e
end
def MtD (K:W.Frag) (r:V->List V->Hp->VK->Prop) (k:D->List D->Option D):Prop:=∀(G:GH) (H:Hp) (v:V) (d:D) (vs:List V) (ds:List D) (d':D) (Q:VK),GOk K G H->RB K G H v d->Paired (RB K G H) vs ds->k d ds=some d' ->
 (∀v' G' H',Grow K G H G' H'->RG K G' v' d'->Q v' H')->r v vs H Q
def tyM (T:String):D->Bool
 | .lst _=>T == "list"
 | .tup _=>T == "tuple"
 | .dic _=>T == "dict"
 | .str _=>T == "str"
 | .int _=>T == "int"
 | _=>false
theorem zo5 {K:W.Frag} {G:GH} {H:Hp} {v:V} {d:D} {T:String} (gk:GOk K G H) (h:RB K G H v d) (t:tyM T d=true):tyV K T v H:=by
 cases d with
 | lst ds=>obtain ⟨a,xs,rfl,s,r⟩:=h.lst gk; exact .inl ⟨eq_of_beq t,xs,s⟩
 | tup ds=>
  have e:T = "tuple" := eq_of_beq t
  rcases h with h | ⟨a,rfl,o⟩
  ·cases h with
   | scl s=>cases s
   | ref q=>
    cases gk _ _ q with
    | tup r s=>exact .inr (.inl ⟨e,.inr ⟨_,r⟩⟩)
   | kc k=>
    cases k with
    | tup r s z=>exact .inr (.inl ⟨e,.inl z⟩)
  ·cases o.ob
 | dic ds=>obtain ⟨a,xs,rfl,s,r⟩:=h.dic gk; exact .inr (.inr (.inl ⟨eq_of_beq t,.inl ⟨xs,s⟩⟩))
 | str x=>rw [h.str gk]; exact eq_of_beq t
 | int x=>rw [h.int gk]; exact eq_of_beq t
 | _=>cases t
def fM (T:String) (fo:FE) (fl:Rho->Res (List D)) (k:D->List D->Option D):FE:=fun r=>(fo r).bind fun d=>if tyM T d=true then (fl r).bind fun ds=>opt (k d ds) else .stuck
section
variable {X:Cx} {g:GE} {m mb:List Md} {e a b o:Expr} {es:List Expr} {f fa fb fo:FE} {fl:Rho->Res (List D)} {pos pos' apos cpos:Pos} {ro:Bool} {x name:Str} {T id:String} {R:V->List V->Hp->VK->Prop} {k:D->List D->Option D}
theorem s_bm (pa:PlainAttrs T) (slot:Slot T name id) (hty:typeOf (.builtin id)=pure (.type "method_descriptor")) (hmt:MtR X id R) (hk:MtD X.K R k) (ho:SB X g m o fo) (ha:SAB X g m (e::es) fl)
  (hbase:attributeBase o name X.env (eval o X.env)=eval o X.env:=by rfl)
  (hfew:((backTo cpos (starEach (e::es) X.env)).all (fun x=>! x.1) && (backToKw cpos (keywordEach [] X.env)).all (fun x=>x.1.isSome) && decide ((e::es).length + ([]:List Keyword).length + (if ([]:List Keyword).isEmpty then 0 else 1) < 30))=true:=by rfl)
  (hline:(apos.endLine == cpos.line)=true:=by rfl) (hst:starEach (e::es) X.env=(false,eval e X.env)::starEach es X.env:=by rfl) (hplain:(backTo cpos (starEach es X.env)).any (·.1)=false:=by rfl) :
  SE X g m (.Call (.Attribute o name apos) (e::es) [] cpos) (fM T fo fl k):=by
 refine PE.imp (zp7 pa slot hty hmt ho ha hbase hfew hline hst hplain) fun σ H Q ⟨r,G,si,q⟩=>⟨r,G,si,zag (zaf q) fun d q1 v G1 H1 w1 r1=>?_⟩
 by_cases ht:tyM T d=true
 ·rw [if_pos ht] at q1
  refine ⟨zo5 w1.ok r1 ht,r,G1,si.grow w1,zaD (zaf q1) w1 fun ds q2 vs G2 H2 w2 rs=>?_⟩
  obtain ⟨d',e',q3⟩:=zaw q2
  exact hk G2 H2 v d vs ds d' Q w2.ok (r1.mono w2) rs e' fun v' G' H' w' z=>q3 v' G' H' ((w1.trans w2).trans w') z
 ·rw [if_neg ht] at q1; exact q1.elim
def zru:D->Option D
 | .dic kvs=>some (.lst (kvs.map (·.2)))
 | _=>none
end
def enuD:Nat->List D->List D
 | _,[]=>[]
 | i,d::ds=>.tup [.int i,d]::enuD (i + 1) ds
theorem zei:∀(i:Nat) (ds:List D),(enuD i ds).length=ds.length
 | _,[]=>rfl
 | i,d::ds=>congrArg (· + 1) (zei (i + 1) ds)
theorem zgB:∀(i j:Nat) (ds:List D),(enuD i ds)[j]? = (ds[j]?).map fun d=>D.tup [.int ((i + j:Nat):Int),d]
 | _,_,[]=>by simp [enuD]
 | i,0,d::ds=>by simp [enuD]
 | i,j + 1,d::ds=>by
  show (enuD (i + 1) ds)[j]? = _
  rw [zgB (i + 1) j ds]
  simp only [List.getElem?_cons_succ]
  rw [show i + 1 + j=i + (j + 1) by omega]
theorem zji {K:W.Frag} {ds:List D} {G0:GH} {sq:Hp->List V->Prop} (h:∀G H,Gle G0 G->GOk K G H->∃xs,sq H xs/\RGs K G xs ds):Yields K (Ien sq) (enuD 0 ds) G0:=by
 refine ⟨fun G H i w gk hi=>?_,fun G H i x H' d w gk y e=>?_,fun G H w gk=>?_⟩
 ·obtain ⟨xs,s,r⟩:=h G H w gk
  rw [zei] at hi
  have hl:=Paired.length r
  exact ⟨xs,xs[i],s,List.getElem?_eq_getElem (by omega)⟩
 ·obtain ⟨xs,s,r⟩:=h G H w gk
  obtain ⟨p,v,hp,rfl,rfl,hv⟩:=y
  rw [zgB] at e
  cases ed:ds[i]? with
  | none=>rw [ed] at e; cases e
  | some d0=>
   rw [ed] at e
   simp only [Option.map_some,Option.some.injEq,Nat.zero_add] at e
   subst e
   obtain ⟨v',e1,rv⟩:=Paired.get r ed
   have:=hv xs s
   rw [e1] at this; cases this
   exact ⟨_,Grow.newF gk hp (.tup (.inl zam) (.cons (.scl (.int _)) (.cons rv .nil))),.ref zaq⟩
 ·obtain ⟨xs,s,r⟩:=h G H w gk
  rw [zei]
  exact ⟨xs,s,Paired.length r⟩
def fEnu (f:FE):FI:=fun r=>(f r).bind fun d=>(opt (zbf d)).bind fun ds=>.ok (enuD 0 ds)
section
variable {X:Cx} {g:GE} {m:List Md} {e a:Expr} {f:FE} {pos p pos2:Pos} {elts:List Expr} {kk:Nat}
theorem zjX {te:TE} (hg:Gl X "enumerate") (hm:X.mg "enumerate" = none) (he:PE X e te) (hs:starEach [e] X.env=(false,eval e X.env)::starEach [] X.env:=by rfl):PI X (.Tuple elts kk pos2) (.Call (.Name "enumerate" p) [e] [] pos) (fun σ H R=>te σ H fun x H1=>
   (∃a,x=.ref a/\(∃xs,SqL X.K H1 a xs)/\R (Ien fun H xs=>SqL X.K H a xs) H1)\/∃a,x=.ref a/\(∃xs,SqT X.K H1 a xs)/\R (Ien fun H xs=>SqT X.K H a xs) H1):=by
 intro pins s σ H R I h
 refine Call_ (zf2 I hg hm boot_enumerate (PyProof.Rows.callWith_type1 (thn (zbb he zde hs pos pins s σ H (fun vs H1=>match vs with
  | [x]=>(∃a,x=.ref a/\(∃xs,SqL X.K H1 a xs)/\R (Ien fun H xs=>SqL X.K H a xs) H1)\/∃a,x=.ref a/\(∃xs,SqT X.K H1 a xs)/\R (Ien fun H xs=>SqT X.K H a xs) H1
  | _=>False) I h) fun us s1 ⟨vs,H1,I1,r1,q1⟩=>?_) hs rfl))
 ·cases r1 with
  | nil=>exact q1.elim
  | @cons x u xs us rx rt=>
  cases rt with
  | cons _ _=>exact q1.elim
  | nil=>
  have fin:∀{h':Heap},h'.objs.size=s1.heap.objs.size + 2->(∀b o,s1.heap.get? b=some o->h'.get? b=some o)->∀b∈[s1.heap.objs.size + 1,s1.heap.objs.size],FpOk X pins H1 b:=fun hz kp b hb=>by
   have hge:s1.heap.objs.size<=b:=by
    rcases List.mem_cons.mp hb with rfl | hb
    ·exact Nat.le_succ _
    ·rw [List.mem_singleton.mp hb]; exact Nat.le_refl _
   exact I1.fpOk hge (I1.hok.fresh hge)
  rcases q1 with ⟨a,rfl,⟨xs,hq⟩,q⟩ | ⟨a,rfl,⟨xs,hq⟩,q⟩
  ·cases rx
   obtain ⟨its,rv,pl,hz⟩:=I1.list hq
   refine call_enumerate_list pl.isList fun h' he hi hsz kp=>wpAny_pyIter_enum he ?_
   exact ⟨_,[s1.heap.objs.size + 1,s1.heap.objs.size],_,_,H1,rfl,I1.kept (t':=s1.toks) kp,ziL a _ _ (Nat.ne_of_gt (Nat.lt_succ_self _)),⟨⟨_,he⟩,hi⟩,fin hsz kp,q⟩
  ·cases rx
   obtain ⟨its,rv,pl,hz⟩:=I1.tuple hq
   refine zfA (show s1.heap.IsTuple a its.toArray from pl) fun h' he hi hsz kp=>wpAny_pyIter_enum he ?_
   exact ⟨_,[s1.heap.objs.size + 1,s1.heap.objs.size],_,_,H1,rfl,I1.kept (t':=s1.toks) kp,ziK a _ _ (Nat.ne_of_gt (Nat.lt_succ_self _)),⟨⟨_,he⟩,hi⟩,fin hsz kp,q⟩
theorem zf4 (hg:Gl X "enumerate") (hm:X.mg "enumerate" = none) (he:SE X g m e f) (hs:starEach [e] X.env=(false,eval e X.env)::starEach [] X.env:=by rfl):SIt X g m (.Tuple elts kk pos2) (.Call (.Name "enumerate" p) [e] [] pos) (fEnu f):=by
 refine PI.imp (zjX hg hm he hs) fun σ H R ⟨r,G,si,q⟩=>⟨r,G,si,zag (zaf q) fun d q v G' H' w rv=>?_⟩
 obtain ⟨ds,e,q⟩:=zaw (zaf q)
 cases d with
 | lst ds'=>
  cases e
  obtain ⟨a,xs,rfl,s,rs⟩:=rv.lst w.ok
  refine .inl ⟨a,rfl,⟨xs,s⟩,q _ G' H' w (zji fun G H le gk=>?_)⟩
  obtain ⟨b,ys,e,s',r'⟩:=(rv.mono le).lst gk
  cases e
  exact ⟨ys,s',r'⟩
 | tup ds'=>
  cases e
  obtain ⟨a,xs,rfl,s,rs⟩:=rv.tup w.ok
  refine .inr ⟨a,rfl,⟨xs,s⟩,q _ G' H' w (zji fun G H le gk=>?_)⟩
  obtain ⟨b,ys,e,s',r'⟩:=(rv.mono le).tup gk
  cases e
  exact ⟨ys,s',r'⟩
 | _=>cases e
end
inductive TupI (h:Heap):Value->List Int->Prop where
 | mk {a:Addr} {items:Array Value} {ns:List Int}:IsTup h a items->IntsAre items.toList ns->TupI h (.ref a) ns
inductive TupsI (h:Heap):List Value->List (List Int)->Prop where
 | nil:TupsI h [] []
 | cons {p:Value} {k:List Int} {ps:List Value} {ks:List (List Int)}:TupI h p k->TupsI h ps ks->TupsI h (p::ps) (k::ks)
theorem TupsI.length {h:Heap}:∀{ps:List Value} {ks:List (List Int)},TupsI h ps ks->ps.length=ks.length
 | _,_,.nil=>rfl
 | _,_,.cons _ t=>congrArg (· + 1) t.length
section
variable {prog:Program} {w:World} {A:Around} {s:Shared}
inductive TupR (h:Heap):Value->List (List Int)->Prop where
 | mk {a:Addr} {items:List Value} {ks:List (List Int)}:IsTup h a items.toArray->TupsI h items ks->ks≠[]->TupR h (.ref a) ks
end
def zej:List D->Option (List Int)
 | []=>some []
 | .int i::ds=>(zej ds).map (i::·)
 | _=>none
theorem zms {K:W.Frag} {G:GH} {H:Hp} (gk:GOk K G H) {ds:List D} {xs:List V} {ns:List Int} (h:RGs K G xs ds) (e:zej ds=some ns):xs=ns.map V.int:=by
 induction h generalizing ns with
 | nil=>cases e; rfl
 | @cons x d xs ds r t ih=>
  cases d with
  | int i=>
   have e':(zej ds).map (i::·)=some ns:=e
   cases q:zej ds with
   | none=>rw [q] at e'; cases e'
   | some ms=>
    rw [q] at e'
    cases e'
    rw [r.int gk,ih q]; rfl
  | _=>cases e
theorem zbg.isS {P:Program} {w:World} {H:Hp} {h:Heap} {a:Addr} {o:HO} (x:zbg P w H h a o):h.get? a≠none:=by
 have s:∀{u:Obj},h.get? a=some u->h.get? a≠none:=fun e z=>by rw [z] at e; cases e
 cases o with
 | lst xs=>obtain ⟨_,_,_,_,e⟩:=x; exact s e
 | tup xs=>obtain ⟨_,_,_,⟨_,e,_⟩,_⟩:=x; exact s e
 | dK kvs=>obtain ⟨_,_,_,_,o,_,_,e,_⟩:=x; exact s e
 | dT kvs=>obtain ⟨_,_,_,_,o,_,_,e,_⟩:=x; exact s e
 | set S n=>obtain ⟨o,_,_,_,e,_⟩:=x; exact s e
 | ins C dx fs=>obtain ⟨_,_,_,e,_⟩:=x; exact s e
 | own y=>obtain ⟨_,e⟩:=x; exact s e
 | xd fs=>obtain ⟨_,⟨_,_,_,e,_⟩,_⟩:=x; exact s e
 | rng lo hi=>obtain ⟨_,_,_,e⟩:=x; exact s e
 | frz ob u=>obtain ⟨e,_⟩:=x; exact s e
 | tbl ps=>exact s (show h.get? a=some _ from x)
 | met f y=>exact s (show h.get? a=some _ from x)
 | ext φ=>obtain ⟨_,⟨_,e⟩,_⟩:=x; exact s e
section
variable {X:Cx} {pins:List (Addr × Obj)} {σ:L2.St} {H:Hp} {s:Shared}
theorem Inv.laidN {D:Addr} {ys:List V} {its:List Value} {c:Nat} {h':Heap} (I:Inv X pins σ H s) (hD:s.heap.get? D=none) (hDL:D≠X.env.locals) (k:∀b o,b≠X.env.locals->s.heap.get? b=some o->h'.get? b=some o)
  (hns:∀m,s.heap.Ns X.env.locals m->h'.Ns X.env.locals m) (ho:h'.get? D=some { cls:=.type "list",data:=.seq its.toArray c }) (rv:Vals ys its) (hz:ys.length<=sizeLine) (t':Nat) :
  Inv X pins σ (upd H D (.lst ys)) { s with heap:=h',toks:=t' }:=by
 have hHD:H D=none:=by
  cases q:H D with
  | none=>rfl
  | some u=>
   exact absurd hD (zbg.isS (I.hok D u q))
 have neD:∀b o,s.heap.get? b=some o->b≠D:=fun b o e z=>by rw [z,hD] at e; cases e
 have keepU:∀b u,H b=some u->upd H D (.lst ys) b=some u:=fun b u e=>by rw [zal (zbw e hHD)]; exact e
 have trkL:∀b u,H b=some u->b≠X.env.locals:=fun b u e z=>by rw [z,I.free] at e; cases e
 refine I.step (g':=s.gens) (d':=s.drawn) (ch:=[]) (fun b hb=>absurd hb (by simp)) (fun b ob hL _ _ e _=>k b ob hL e) (fun b ob hL _ _ e _=>⟨ob.slots,k b ob hL e⟩) (fun b ob _ e n=>by rw [zal (neD b ob e)]; exact n)
  (fun b ob _ e=>?_) (fun b xs e=>keepU b _ e) (fun b ob u e=>keepU b _ e) (fun b ps e=>⟨#[],by rw [keepU b _ e]; simp⟩) hns (fun b u e=>?_) I.bare
 ·by_cases hb:b=X.env.locals
  ·subst hb
   obtain ⟨m,hn,_⟩:=I.loc
   obtain ⟨o,_,_,ho',_⟩:=hns m hn
   exact ⟨o,ho'⟩
  ·exact ⟨ob,k b ob hb e⟩
 ·by_cases hb:b=D
  ·subst hb
   rw [zam] at e
   cases e
   exact ⟨hz,its,c,rv,ho⟩
  ·rw [zal hb] at e
   refine (I.hok b u e).stay (fun cc v hc q=>k cc v ?_ q) (fun cc q=>keepU cc _ q) fun cc xs q=>keepU cc _ q
   rcases hc with z | z
   ·rw [z]; exact trkL b u e
   ·exact trkL cc _ z
theorem zoa {h:Heap} {L:Addr} {m m':Str->Option Value} (a:h.Ns L m) (b:h.Ns L m'):m=m':=by
 obtain ⟨o,es,ep,e,d,_,f⟩:=a
 obtain ⟨o',es',ep',e',d',_,f'⟩:=b
 rw [e] at e'; cases e'
 rw [d] at d'; cases d'
 funext x
 rw [<-f,<-f']
end
end DL
namespace DL
open PySem PyProof.Rows PySem.SeqAt PySem.MeetsSeq PySem.MeetsSeq2 PySem.MeetsSeq3 L2
section
open PySem.AutoSeq1 (wpAny_loadPart')
end
end DL
namespace DL
open PySem PyProof.Rows L2
end DL
namespace DL
open PySem PySem.Spec PyProof.Rows L2
section
variable {X:Cx} {pins:List (Addr × Obj)} {σ:L2.St} {H:Hp} {s:Shared}
theorem Inv.keptN {h':Heap} (I:Inv X pins σ H s) (k:∀b o,b≠X.env.locals->s.heap.get? b=some o->h'.get? b=some o)
  (hns:∀m,s.heap.Ns X.env.locals m->h'.Ns X.env.locals m) (t':Nat):Inv X pins σ H { s with heap:=h',toks:=t' }:=by
 have trkL:∀b u,H b=some u->b≠X.env.locals:=fun b u e z=>by rw [z,I.free] at e; cases e
 refine I.step (g':=s.gens) (d':=s.drawn) (ch:=[]) (fun b hb=>absurd hb (by simp)) (fun b ob hL _ _ e _=>k b ob hL e) (fun b ob hL _ _ e _=>⟨ob.slots,k b ob hL e⟩) (fun b ob _ e n=>n)
  (fun b ob _ e=>?_) (fun b xs e=>e) (fun b ob u e=>e) (fun b ps e=>⟨#[],by rw [e]; simp⟩) hns (fun b u e=>?_) I.bare
 ·by_cases hb:b=X.env.locals
  ·subst hb
   obtain ⟨m,hn,_⟩:=I.loc
   obtain ⟨o,_,_,ho',_⟩:=hns m hn
   exact ⟨o,ho'⟩
  ·exact ⟨ob,k b ob hb e⟩
 ·refine (I.hok b u e).stay (fun cc v hc q=>k cc v ?_ q) (fun cc q=>q) fun cc xs q=>q
  rcases hc with z | z
  ·rw [z]; exact trkL b u e
  ·exact trkL cc _ z
end
end DL
namespace DL
open PySem PyProof.Rows L2
section
open PySem.AutoSeq1 (wpAny_loadPart')
end
end DL
namespace DL
open PySem PyProof.Rows PySem.W
section
variable {n:Nat} {c:Nat->Nat->Bool} (as:∀i j,c i j=true->c j i=false) (tr:∀i j k,c j i=false->c k j=false->c k i=false)
def Le (c:Nat->Nat->Bool) (i j:Nat):Prop:=c j i=false
def Eqv (c:Nat->Nat->Bool) (i j:Nat):Prop:=Le c i j/\Le c j i
include tr in
theorem Eqv.trans {i j k:Nat} (h1:Eqv c i j) (h2:Eqv c j k):Eqv c i k:=⟨tr _ _ _ h1.1 h2.1,tr _ _ _ h2.2 h1.2⟩
theorem Eqv.symm {i j:Nat} (h:Eqv c i j):Eqv c j i:=⟨h.2,h.1⟩
include as tr in
include tr in
include as tr in
include as tr in
include as tr in
include as tr in
include as tr in
include as tr in
include as tr in
include as tr in
include as tr in
end
end DL
section
namespace DL
end DL
end
namespace DL
open PySem PySem.Spec PyProof.Rows L2
section
variable {X:Cx} {pins:List (Addr × Obj)} {σ:L2.St} {H:Hp} {s:Shared}
theorem zk9 (bs:List Bool):((List.range bs.length).all fun i=>bs.getD i true)=bs.all id:=by
 rw [Bool.eq_iff_iff,List.all_eq_true,List.all_eq_true]
 constructor
 ·intro h b hb
  obtain ⟨i,hi,rfl⟩:=List.getElem_of_mem hb
  have:=h i (List.mem_range.mpr hi)
  simpa [List.getD_eq_getElem?_getD,hi] using this
 ·intro h i hi
  have hi:=List.mem_range.mp hi
  have:=h bs[i] (List.getElem_mem _)
  simpa [List.getD_eq_getElem?_getD,hi] using this
theorem ziH (hc:X.calm=true) (I:Inv X pins σ H s) {p:Addr} {bs:List Bool} (hq:SqL X.K H p (bs.map V.bl)) {A:Around} (hA:A.handled=none) {E:Value->Shared->Prop} {Q:Value->Shared->Prop}
  (h:∀I fp wr n P St tr it s₂,it=Value.ref I->Walks X.prog X.w A I fp wr n P St->St 0 s₂.heap->TruthOf X.prog X.w A P tr->n=bs.length->(∀i,tr i=bs.getD i true) ->
   (∀(h':Heap) (tk:Nat),(∀(b:Addr) (o:Obj),¬b∈wr->s₂.heap.get? b=some o->h'.get? b=some o)->Inv X pins σ H { heap:=h',gens:=s₂.gens,drawn:=s₂.drawn,toks:=tk,os:=s₂.os })->Q it s₂) :
  wpAny (model X.prog X.w) A (pyIter (.ref p)) Q E s:=by
 obtain ⟨its,rv,pl,hz⟩:=I.list hq
 have hl:=rv.length
 rw [List.length_map] at hl
 refine PySem.Flt.iter_list_ pl.isList fun s₂ e2 hi hlt hne=>?_
 refine h s.heap.objs.size [s.heap.objs.size,p] [s.heap.objs.size] its.toArray.size _ _ (fun i=>bs.getD i true) _ s₂ rfl (Walks.list hA _ p hne its.toArray) hi ?_ (by rw [List.size_toArray,hl]) (fun i=>rfl) fun h' tk k=>?_
 ·intro i v s' Q' E' hv hq'
  have hv':its[i]? = some v:=by simpa using hv
  have hi:i < its.length:=(List.getElem?_eq_some_iff.mp hv').1
  have hki:i < (bs.map V.bl).length:=by rw [List.length_map]; omega
  obtain ⟨u,h1,h3⟩:=rv.get (i:=i) (x:=(bs.map V.bl)[i]) (List.getElem?_eq_getElem hki)
  rw [hv'] at h1
  cases h1
  rw [List.getElem_map] at h3
  have h3':v=Value.bool bs[i]:=h3
  subst h3'
  have e:bs.getD i true=bs[i]:=by
   have hb:i < bs.length:=by omega
   simp [List.getD_eq_getElem?_getD,hb]
  have hq2:Q' (bs.getD i true) s':=hq'
  rw [e] at hq2
  exact wpAny_pure hq2
 ·subst e2
  have ne:∀b o,s.heap.get? b=some o->¬ b∈[s.heap.objs.size]:=fun b o e z=>by
   have:=List.mem_singleton.mp z
   subst this
   exact absurd (Heap.lt_size e) (Nat.lt_irrefl _)
  exact Inv.keptN I (fun b o _ e=>k b o (ne b o e) (Heap.get?_push_of_some _ e)) (fun m ⟨o,es,ep,e,z⟩=>⟨o,es,ep,k _ _ (ne _ _ e) (Heap.get?_push_of_some _ e),z⟩) tk
theorem zmr (hc:X.calm=true):zds X (.builtin "all") (fun xs H Q=>∃(p:Addr) (bs:List Bool),xs=[.ref p]/\SqL X.K H p (bs.map V.bl)/\Q (.bl (bs.all id)) H):=by
 intro pins s σ H xs us Q I r h
 obtain ⟨p,bs,rfl,hq,q⟩:=h
 obtain ⟨u,rfl,rx⟩:=zeR r
 cases rx
 refine call_all_walk (ziH hc I hq (show X.A.in1.handled=none from I.ok.hd hc) fun J fp wr n P St tr it s₂ e1 e2 e3 e4 e5 e6 e7=>⟨J,fp,wr,n,P,St,tr,e1,e2,e3,e4,fun h' tk k=>?_⟩)
 have et:tr=fun i=>bs.getD i true:=funext e6
 rw [e5,et,zk9]
 exact ⟨.bl (bs.all id),H,e7 h' tk k,rfl,q⟩
end
def zgF:List D->Option (List Bool)
 | []=>some []
 | .bl b::ds=>(zgF ds).map (b::·)
 | _=>none
theorem zoP {K:W.Frag} {G:GH} {H:Hp} (gk:GOk K G H) {ds:List D} {xs:List V} {bs:List Bool} (h:RGs K G xs ds) (e:zgF ds=some bs):xs=bs.map V.bl:=by
 induction h generalizing bs with
 | nil=>cases e; rfl
 | @cons x d xs ds r t ih=>
  cases d with
  | bl b=>
   have e':(zgF ds).map (b::·)=some bs:=e
   cases e1:zgF ds with
   | none=>rw [e1] at e'; cases e'
   | some bs'=>
    rw [e1] at e'; cases e'
    rw [ih e1,List.map_cons,(RG.rb (H:=H) r).bl gk]
  | _=>cases e
def allD:List D->Option D
 | [.lst ds]=>(zgF ds).map fun bs=>.bl (bs.all id)
 | _=>none
theorem zrl {K:W.Frag}:zlc K (fun xs H Q=>∃(p:Addr) (bs:List Bool),xs=[.ref p]/\SqL K H p (bs.map V.bl)/\Q (.bl (bs.all id)) H) allD:=by
 intro G H vs ds d Q gk rs e q
 unfold allD at e
 split at e
 ·rename_i zs
  cases ek:zgF zs with
  | none=>rw [ek] at e; cases e
  | some bs=>
   rw [ek] at e; cases e
   cases rs with
   | cons r1 t=>
    cases t
    obtain ⟨b,xs,rfl,s,r⟩:=r1.lst gk
    have ex:=zoP gk r ek
    subst ex
    exact ⟨b,bs,rfl,s,q _ G H (Grow.refl gk) (.scl (.bl _))⟩
 ·cases e
section
variable {X:Cx} {g:GE} {m:List Md} {e:Expr} {es:List Expr} {fl:Rho->Res (List D)} {pos p:Pos}
theorem zrJ (hc:X.calm=true) (hg:Gl X "all") (hm:X.mg "all" = none) (ha:SAB X g m (e::es) fl) (he:starEach (e::es) X.env=(false,eval e X.env)::starEach es X.env:=by rfl) (hpl:(backTo pos (starEach es X.env)).any (·.1)=false:=by rfl) :
  SE X g m (.Call (.Name "all" p) (e::es) [] pos) (fC fl allD):=s_cb zrl (zee (zmr hc) hg hm PyProof.Rows.boot_all ha (by decide) (by decide) he hpl)
end
def zh6 (h0 H:Hp):Prop:=∀a o,h0 a=some o->H a=some o
structure YieldsB (K:W.Frag) (h0:Hp) (J:It) (ds:List D) (G0:GH):Prop where
 go:∀G H (i:Nat),Gle G0 G->GOk K G H->zh6 h0 H->i < ds.length->J.go i H
 yld:∀G H (i:Nat) x H' d,Gle G0 G->GOk K G H->zh6 h0 H->J.yld i H x H'->ds[i]? = some d->∃G',Grow K G H G' H'/\RG K G' x d
 stop:∀G H,Gle G0 G->GOk K G H->zh6 h0 H->J.stop ds.length H
def tIB (X:Cx) (g:GE) (m:List Md) (f:FI):TI:=fun σ H R=>∃r G,SI X g m r G σ H/\fin (f r) (fun ds=>∀J G' H',Grow X.K G H G' H'->YieldsB X.K g.h0 J ds G'->R J H') (XW X σ G H)
def SItB (X:Cx) (g:GE) (m:List Md) (tg iter:Expr) (f:FI):Prop:=PI X tg iter (tIB X g m f)
def tBw (X:Cx) (g:GE) (m:List Md) (f:FE):TE:=fun σ H Q=>∃r G,SI X g m r G σ H/\fin (f r) (fun d=>∀v G' H',Grow X.K G H G' H'->Bw X.K g.h0 G' H' v d->Q v H') (XW X σ G H)
def SBw (X:Cx) (g:GE) (m:List Md) (e:Expr) (f:FE):Prop:=PE X e (tBw X g m f)
section
variable {X:Cx} {g:GE} {m m' mb:List Md} {tg e a iter:Expr} {f:FE} {pos p pos2:Pos} {ro:Bool} {sts:List Stmt} {s1:FS} {elts:List Expr} {kk:Nat}
theorem vw_ (i:Nat) {x:Str} (hm:m[i]? = some .bw:=by rfl) (hN:X.N[i]? = some x:=by rfl) (hv:Vis X.env.scope x:=by first | exact Or.inl rfl | exact Or.inr (Or.inl rfl) | exact Or.inr (Or.inr rfl)) (hd:(x == ("__debug__" : Str))=false:=by decide) (hcd:(x == ("__classdict__" : Str))=false:=by decide) :
  SBw X g m (.Name x pos) fun r=>getV r i:=by
 refine PE.imp (zcf hN hv hd hcd) fun σ H Q ⟨r,G,si,q⟩=>?_
 obtain ⟨d,e,k⟩:=zgz q
 obtain ⟨v,e1,e2⟩:=si.bw i d e hm
 exact ⟨v,e1,k _ G H (Grow.refl si.gok) e2⟩
theorem znT {K:W.Frag} {h0:Hp} {G0 G:GH} {H0 H:Hp} {a:Addr} {ds:List D} (o:Own K G0 H0 a (.lst ds)) (h:h0 a≠none) (o0:zh6 h0 H0) (le:Gle G0 G) (o1:zh6 h0 H):∃xs,SqL K H a xs/\RGs K G xs ds:=by
 cases e:h0 a with
 | none=>exact absurd e h
 | some u=>
  have h1:=o0 a u e
  have h2:=o1 a u e
  cases o.ob with
  | lst r s=>
   rw [h1] at r
   cases r
   exact ⟨_,SqL.of h2,RGs.mono s le⟩
theorem SI.oldIn {r:Rho} {G:GH} {st:L2.St} {H:Hp} (s:SI X g m r G st H):zh6 g.h0 H:=s.old
theorem zhu {K:W.Frag} {h0:Hp} {ds:List D} {G0:GH} {sq:Hp->List V->Prop} (h:∀G H,Gle G0 G->GOk K G H->zh6 h0 H->∃xs,sq H xs/\RGs K G xs ds):YieldsB K h0 (Ien sq) (enuD 0 ds) G0:=by
 refine ⟨fun G H i w gk o hi=>?_,fun G H i x H' d w gk o y e=>?_,fun G H w gk o=>?_⟩
 ·obtain ⟨xs,s,r⟩:=h G H w gk o
  rw [zei] at hi
  have hl:=Paired.length r
  exact ⟨xs,xs[i],s,List.getElem?_eq_getElem (by omega)⟩
 ·obtain ⟨xs,s,r⟩:=h G H w gk o
  obtain ⟨p,v,hp,rfl,rfl,hv⟩:=y
  rw [zgB] at e
  cases ed:ds[i]? with
  | none=>rw [ed] at e; cases e
  | some d0=>
   rw [ed] at e
   simp only [Option.map_some,Option.some.injEq,Nat.zero_add] at e
   subst e
   obtain ⟨v',e1,rv⟩:=Paired.get r ed
   have:=hv xs s
   rw [e1] at this; cases this
   exact ⟨_,Grow.newF gk hp (.tup (.inl zam) (.cons (.scl (.int _)) (.cons rv .nil))),.ref zaq⟩
 ·obtain ⟨xs,s,r⟩:=h G H w gk o
  rw [zei]
  exact ⟨xs,s,Paired.length r⟩
theorem zov (hg:Gl X "enumerate") (hm:X.mg "enumerate" = none) (he:SBw X g m e f) (hs:starEach [e] X.env=(false,eval e X.env)::starEach [] X.env:=by rfl):SItB X g m (.Tuple elts kk pos2) (.Call (.Name "enumerate" p) [e] [] pos) (fEnu f):=by
 refine PI.imp (zjX hg hm he hs) fun σ H R ⟨r,G,si,q⟩=>⟨r,G,si,zag (zaf q) fun d q v G' H' w rv=>?_⟩
 obtain ⟨ds,e,q⟩:=zaw (zaf q)
 cases d with
 | lst ds'=>
  cases e
  rcases rv with rv | ⟨a,rfl,o,ho⟩
  ·obtain ⟨a,xs,rfl,s,rs⟩:=rv.lst w.ok
   refine .inl ⟨a,rfl,⟨xs,s⟩,q _ G' H' w (zhu fun G H le gk _=>?_)⟩
   obtain ⟨b,ys,e,s',r'⟩:=(rv.mono le).lst gk
   cases e
   exact ⟨ys,s',r'⟩
  ·cases o.ob with
   | lst r s=>exact .inl ⟨a,rfl,⟨_,SqL.of r⟩,q _ G' H' w (zhu fun G2 H2 le _ o2=>znT o ho (si.grow w).oldIn le o2)⟩
 | tup ds'=>
  cases e
  rcases rv with rv | ⟨a,rfl,o,ho⟩
  ·obtain ⟨a,xs,rfl,s,rs⟩:=rv.tup w.ok
   refine .inr ⟨a,rfl,⟨xs,s⟩,q _ G' H' w (zhu fun G H le gk _=>?_)⟩
   obtain ⟨b,ys,e,s',r'⟩:=(rv.mono le).tup gk
   cases e
   exact ⟨ys,s',r'⟩
  ·cases o.ob
 | _=>cases e
theorem zps (hp:PassesOwn (model X.prog X.w) X.A X.env X.xe) (hc:X.calm=true) {ft:FT} {fi:FI} (hi:SItB X g m tg iter fi) (hg:SG X g m tg ft m) (hb:SSs X g ro m m sts s1 m)
  (hs:∀x,foldedSetIterable iter X.env x=pure x:=by intro _; rfl):SS X g ro mb m (.For tg iter sts [] pos) (zb3 m fi ft s1) m:=by
 refine ⟨rfl,PS.imp (zjQ hp hc hi hg.2 hb.2 hs) fun D σ H ⟨r,G,si,q⟩=>⟨r,G,si,zag (zbs si rfl q) fun ds q J G0 H0 w0 Y=>?_⟩⟩
 refine ⟨fun i n σ H=>∃r G,SI X g m r G σ H/\Gle G0 G/\i<=ds.length/\n=ds.length - i/\oTo X g ro m mb G D (forF ft s1 (ds.drop i) r),⟨ds.length,r,G0,si.grow w0,Gle.refl G0,Nat.zero_le _,rfl,oTo.gle q w0.ge⟩,?_⟩
 rintro i n σ1 H1 ⟨r1,G1,si1,le1,hi,rfl,q1⟩
 by_cases hlt:i < ds.length
 ·have hd:ds.drop i=ds[i]::ds.drop (i + 1):=List.drop_eq_getElem_cons hlt
  rw [hd] at q1
  unfold forF at q1
  refine .inr ⟨Y.go G1 H1 i le1 si1.gok si1.oldIn hlt,fun σ' H'=>∃r G,SI X g m r G σ' H'/\Gle G0 G/\oTo X g ro m mb G D (forF ft s1 (ds.drop (i + 1)) r),fun σ' H' ⟨r',G',si',le',q'⟩=>⟨ds.length - (i + 1),by omega,r',G',si',le',hlt,rfl,q'⟩,fun x H' y=>?_⟩
  obtain ⟨G',w',rv⟩:=Y.yld G1 H1 i x H' ds[i] le1 si1.gok si1.oldIn y (List.getElem?_eq_getElem hlt)
  have le':Gle G0 G':=le1.trans w'.ge
  cases eft:ft ds[i] r1 with
  | none=>simp only [eft] at q1; exact q1.elim
  | some r2=>
   simp only [eft] at q1
   refine ⟨r1,G',ds[i],si1.grow w',rv,r2,eft,fun σ2 si2=>⟨r2,G',si2,?_⟩⟩
   cases eb:s1 r2 with
   | nx r'=>simp only [eb] at q1; exact fun σ3 G3 H3 le3 si3=>⟨r',G3,si3,le'.trans le3,oTo.gle q1 (Gle.trans w'.ge le3)⟩
   | ct r'=>simp only [eb] at q1; exact fun σ3 G3 H3 le3 si3=>⟨r',G3,si3,le'.trans le3,oTo.gle q1 (Gle.trans w'.ge le3)⟩
   | bk r'=>simp only [eb] at q1; exact fun σ3 G3 H3 le3 si3=>q1 σ3 G3 H3 (Gle.trans w'.ge le3) si3
   | rt d=>simp only [eb] at q1; exact q1
   | exc x r'=>simp only [eb] at q1; exact fun pins e s' σ3 G3 H3 le3=>q1 pins e s' σ3 G3 H3 (Gle.trans w'.ge le3)
   | stuck=>simp only [eb] at q1; exact q1
 ·have e:i=ds.length:=by omega
  subst e
  rw [List.drop_length] at q1
  exact .inl ⟨Y.stop G1 H1 le1 si1.gok si1.oldIn,q1 σ1 G1 H1 (Gle.refl _) si1⟩
end
section
open HT (sIx)
section
variable {prog:Program} {w:World} {A:Around} {E:Value->Shared->Prop} {s:Shared}
theorem zgy {t sl:Addr} {items:Array Value} {vl vu:Value} {lo hi:Option Int} {Q:Value->Shared->Prop} (ht:IsTup s.heap t items) (hs:s.heap.IsSliceOf sl vl vu .none) (pl:IsPart vl lo) (pu:IsPart vu hi)
  (hw:sIx items.size 0 lo=0/\sIx items.size items.size hi=items.size) (h:Q (.ref t) s):wpAny (model prog w) A (getItem (.ref t) (.ref sl)) Q E s:=by
 obtain ⟨os,hos,hcs,hds⟩:=id hs
 have hTs:s.TypeIs (.ref sl) "slice" := ⟨os,hos,hcs⟩
 unfold getItem
 try with_reducible refine wpAny_holding ?_
 first | refine wpAny_bind (wpAny_pure ?_) | skip
 refine wpAny_bind (wpAny_sequenceKey ht.typeIs (by decide) (wpAny_bind (wpAny_callSpecial?_slot (name:=Str.ofString "__getitem__") ht.typeIs PyProof.Rows.slot_tuple_getitem (wpAny_call_entry PyProof.Rows.slot_tuple_getitem ht.typeIs PyProof.Rows.entry_tuple_getitem ?_ (PyProof.Rows.args_tuple_getitem _ _)))))
 show wpAny _ _ (Builtin.Tuple.tupleItemsOf (.ref t) >>= _) _ _ s
 refine wpAny_bind (PyProof.Rows.tupleItemsOf_ ht (wpAny_bind (wpAny_typeOf hTs ?_)))
 rw [if_pos (by decide)]
 refine wpAny_bind (HT.sliceApplied_gen hs pl pu ?_)
 rw [hw.1,hw.2]
 show wpAny _ _ (if (((0:Nat):Int) == 0 && (1:Int) == 1 && (items.size - 0) == items.size)=true then _ else _) _ _ s
 rw [if_pos (by simp)]
 show wpAny _ _ (Builtin.Tuple.tupleIsExact (.ref t) >>= _) _ _ s
 unfold Builtin.Tuple.tupleIsExact
 refine wpAny_bind (wpAny_bind (wpAny_typeOf ht.typeIs (wpAny_pure ?_)))
 rw [if_pos (by decide)]
 refine wpAny_bind (wpAny_rule ?_)
 show wpAny _ _ (ret (.ref t)) _ _ s
 exact wpAny_pure ⟨_,rfl,wpAny_pure h⟩
end
def rSlW (K:W.Frag):V->Option Int->Option Int->Hp->VK->Prop:=fun x lo hi H Q=>∃a xs,x=.ref a/\SqT K H a xs/\(sIx xs.length 0 lo=0/\sIx xs.length xs.length hi=xs.length)/\Q (.ref a) H
theorem zlp {X:Cx}:SlR X (rSlW X.K):=by
 intro pins s σ H x v vl vu lo hi sl Q I rx hs pl pu h
 obtain ⟨a,xs,rfl,hx,hw,q⟩:=h
 cases rx
 obtain ⟨its,r,ht,hz⟩:=I.tuple hx
 have hlen:its.toArray.size=xs.length:=by rw [List.size_toArray]; exact r.length.symm
 exact ⟨"tuple",_,PyProof.Rows.slot_tuple_getitem.lookup,ht.typeIs,zgy ht hs pl pu (by rw [hlen]; exact hw) ⟨.ref a,H,I,rfl,q⟩⟩
def slA (d:D) (lo hi:Option Int):Option D:=match d with
 | .tup ds=>some (.tup (cutL ds lo hi))
 | .lst ds=>some (.lst (cutL ds lo hi))
 | _=>none
def fSlA (fa:FE) (fl fh:FP):FE:=fun r=>(fa r).bind fun d=>(fl r).bind fun lo=>(fh r).bind fun hi=>opt (slA d lo hi)
section
variable {X:Cx} {g:GE} {m:List Md} {e:Expr} {f fa:FE} {pos p2:Pos}
theorem zns {R:V->Option Int->Option Int->Hp->Prop} {fl fh:FP} {r:Rho} {G:GH} {σ:L2.St} {H:Hp} {q:D->Prop} (si:SI X g m r G σ H) (h:fin (fSlA fa fl fh r) q (XW X σ G H))
  (hk:∀d lo hi v G2 H2 d',Grow X.K G H G2 H2->RB X.K G2 H2 v d->slA d lo hi=some d'->q d'->R v lo hi H2) :
  tB X g m fa σ H fun x H1=>tP X g m fl σ H1 fun l H2=>tP X g m fh σ H2 fun u H3=>R x l u H3:=by
 refine ⟨r,G,si,zag (zaf h) fun d h1 v G1 H1 w1 r1=>⟨r,G1,si.grow w1,zaD (zaf h1) w1 fun lo h2 G2 H2 w2=>⟨r,G2,(si.grow w1).grow w2,?_⟩⟩⟩
 refine zaD (zaf h2) (w1.trans w2) fun hi h3 G3 H3 w3=>?_
 obtain ⟨d',e,h4⟩:=zaw h3
 exact hk d lo hi v G3 H3 d' ((w1.trans w2).trans w3) ((r1.mono w2).mono w3) e h4
theorem zkX {α:Type} {ds:List α} {lo hi:Option Int} (h:sIx ds.length 0 lo=0/\sIx ds.length ds.length hi=ds.length):cutL ds lo hi=ds:=by
 unfold cutL
 rw [h.1,h.2]; simp
theorem zrE {lo hi:Option Expr} {fl fh:FP} (he:SB X g m e f) (hl:SP1 X g m lo fl) (hu:SP1 X g m hi fh):SE X g m (.Subscript e (.Slice lo hi none p2) pos) (fSlA f fl fh):=by
 refine PE.imp (zil (SlR.or zlp (SlR.or znq zpj)) he hl hu) fun σ H Q ⟨r,G,si,q⟩=>?_
 refine zns si q fun d lo hi v G2 H2 d' w r1 e q2=>?_
 cases d with
 | tup ds=>
  cases e
  rcases r1 with r1 | ⟨a',_,oo⟩
  ·obtain ⟨a,xs,rfl,s,r⟩:=r1.tup w.ok
   by_cases hw:sIx ds.length 0 lo=0/\sIx ds.length ds.length hi=ds.length
   ·refine .inl ⟨a,xs,rfl,s,by rw [Paired.length r]; exact hw,?_⟩
    rw [zkX hw] at q2
    exact q2 _ G2 H2 w r1
   ·rw [<-Paired.length r] at hw
    refine .inr (.inr ⟨a,xs,rfl,s,hw,fun p hp=>?_⟩)
    exact q2 _ _ _ (w.trans (Grow.newF w.ok hp (.tup (.inl zam) (zrf r lo hi)))) (.ref zaq)
  ·cases oo.ob
 | lst ds=>
  cases e
  obtain ⟨a,xs,rfl,s,r⟩:=r1.lst w.ok
  exact .inr (.inl ⟨a,xs,rfl,s,fun p hp=>q2 _ _ _ (w.trans (Grow.newF w.ok hp (.lst (.inl zam) (zrf r lo hi)))) (.ref zaq)⟩)
 | _=>cases e
end
end
section
open AutoSeq1 (wpAny_loadPart')
structure ZA (zp ti to u1 u2:Addr) (f1 f2:List Addr):Prop where
 a1:ti≠zp
 a2:to≠zp
 a3:u1≠zp
 a4:u2≠zp
 a5:to≠u1
 a6:to≠u2
 a7:u1≠u2
 a8:ti≠to/\ti≠u1/\ti≠u2
 b1:zp∉f1/\to∉f1/\u2∉f1
 b2:zp∉f2/\to∉f2/\u1∉f2
theorem _root_.PySem.Draws.at' {prog:Program} {w:World} {A:Around} {it:Addr} {fp:List Addr} {n:Nat} {P:Nat->Value->Prop} {St:Nat->Heap->Prop} (D:Draws prog w A it fp n P St) {i:Nat} {h h':Heap} {c:Addr} (st:St i h) (e:Heap.ExtBut c h h') (hc:c∉fp):St i h':=
 D.frame i h h' st fun b hb o q=>e b o (by rintro rfl; exact hc hb) q
section
variable {prog:Program} {w:World} {A:Around} {E:Value->Shared->Prop} {s:Shared} {zp ti to u1 u2:Addr} {f1 f2:List Addr} {n1 n2:Nat} {P1 P2:Nat->Value->Prop} {St1 St2:Nat->Heap->Prop} {p q:Value}
theorem zjg {i:Nat} {Q:Value->Shared->Prop} (Z:ZA zp ti to u1 u2 f1 f2) (D1:Draws prog w A u1 f1 n1 P1 St1) (D2:Draws prog w A u2 f2 n2 P2 St2) (hz:IsZip s.heap zp ti to .none) (hi:IsPair s.heap ti (.ref u1) (.ref u2)) (ho:IsPair s.heap to p q)
  (s1:St1 i s.heap) (s2:St2 i s.heap) (l1:i < n1) (l2:i < n2)
  (hQ:∀x y h' tk,P1 i x->P2 i y->IsZip h' zp ti to (rawInt s.heap.objs.size)->IsPair h' to x y->St1 (i + 1) h'->St2 (i + 1) h'->IsPair h' s.heap.objs.size x y->h'.objs.size=s.heap.objs.size + 1 ->
   (∀c o,c≠zp->c≠to->c≠u1->c≠u2->s.heap.get? c=some o->h'.get? c=some o)->Q (.ref s.heap.objs.size) { s with heap:=h',toks:=tk }) :
  wpAny (model prog w) A (Builtin.«zip.__next__» ⟨[.ref zp],[]⟩) (fun fin s'=>∃v,fin=.done (.ret v)/\Q v s') E s:=by
 show wpAny _ _ (field (.ref zp) 2 >>= _) _ _ _
 refine wpAny_bind (wpAny_field hz rfl (x:=.bool false) rfl ?_)
 show wpAny _ _ (field (.ref zp) 3 >>= _) _ _ _
 refine wpAny_bind (wpAny_field hz rfl (x:=.ref ti) rfl (wpAny_bind (wpAny_seqItems hi rfl ?_)))
 show wpAny _ _ (Builtin.SmallTypes.ownedTupleIsFree (.ref zp) >>= _) _ _ _
 refine wpAny_bind ?_
 unfold Builtin.SmallTypes.ownedTupleIsFree
 refine wpAny_bind (wpAny_field hz rfl (x:=.none) rfl (wpAny_pure ?_))
 simp only [if_true]
 refine wpAny_bind (wpAny_rule (wpAny_bind (wpAny_field hz rfl (x:=.ref to) rfl (wpAny_bind (wpAny_setField_rec hz (by simp) fun g1 hz1 k1=>?_)))))
 replace hz1:IsZip g1 zp ti to .ellipsis:=hz1
 refine wpAny_bind ?_
 simp only [List.zipIdx_cons,List.zipIdx_nil,List.forIn_cons,List.forIn_nil]
 refine wpAny_bind (wpAny_bind (wpAny_onRaise ?_))
 show wpAny _ _ (Builtin.SmallTypes.nextOf (.ref u1) >>= _) _ _ _
 refine wpAny_bind (D1.item i _ _ _ l1 (D1.at' s1 k1.extBut Z.b1.1) fun x g2 t2 px st1 k2=>wpAny_pure ?_)
 have ho2:IsPair g2 to p q:=k2.extBut _ _ Z.a5 (k1.extBut _ _ Z.a2 ho)
 refine wpAny_bind (wpAny_seqItems ho2 rfl (wpAny_bind (wpAny_updateSeq_pair ho2 fun g3 ho3 k3=>?_)))
 replace ho3:IsPair g3 to x q:=ho3
 refine wpAny_bind (wpAny_letGo (wpAny_pure ?_))
 refine wpAny_bind (wpAny_bind (wpAny_onRaise ?_))
 show wpAny _ _ (Builtin.SmallTypes.nextOf (.ref u2) >>= _) _ _ _
 refine wpAny_bind (D2.item i _ _ _ l2 (D2.at' (D2.at' (D2.at' s2 k1.extBut Z.b2.1) k2.extBut Z.b2.2.2) k3.extBut Z.b2.2.1) fun y g4 t4 py st2 k4=>wpAny_pure ?_)
 have ho4:IsPair g4 to x q:=k4.extBut _ _ Z.a6 ho3
 refine wpAny_bind (wpAny_seqItems ho4 rfl (wpAny_bind (wpAny_updateSeq_pair ho4 fun g5 ho5 k5=>?_)))
 replace ho5:IsPair g5 to x y:=ho5
 refine wpAny_bind (wpAny_letGo (wpAny_pure (wpAny_pure ?_)))
 refine wpAny_bind (wpAny_seqItems ho5 rfl (wpAny_bind (wpAny_newTuple ?_)))
 have hsz:g5.objs.size=s.heap.objs.size:=by rw [k5.1,k4.1,k3.1,k2.1,k1.1]
 have hz5:IsZip g5 zp ti to .ellipsis:=k5.extBut _ _ Z.a2.symm (k4.extBut _ _ Z.a4.symm (k3.extBut _ _ Z.a2.symm (k2.extBut _ _ Z.a3.symm hz1)))
 have st15:St1 (i + 1) g5:=D1.at' (D1.at' (D1.at' st1 k3.extBut Z.b1.2.1) k4.extBut Z.b1.2.2) k5.extBut Z.b1.2.1
 have st25:St2 (i + 1) g5:=D2.at' st2 k5.extBut Z.b2.2.1
 have hzlt:zp < g5.objs.size:=Heap.lt_size hz5
 show wpAny _ _ (Builtin.SmallTypes.ownedTupleHandOut (.ref zp) (.ref g5.objs.size) >>= _) _ _ _
 refine wpAny_bind ?_
 unfold Builtin.SmallTypes.ownedTupleHandOut
 have hz6:IsZip (g5.push { cls:=.type "tuple",data:=.seq #[x,y] }) zp ti to .ellipsis:=Heap.get?_push_of_some _ hz5
 refine wpAny_bind (wpAny_setField_rec hz6 (by simp) fun g7 hz7 k7=>?_)
 replace hz7:IsZip g7 zp ti to (rawInt g5.objs.size):=hz7
 refine wpAny_setField_rec hz7 (by simp) fun g8 hz8 k8=>?_
 replace hz8:IsZip g8 zp ti to (rawInt g5.objs.size):=hz8
 have up:∀c o,c≠zp->g5.get? c=some o->g8.get? c=some o:=fun c o c1 e=>k8.extBut _ _ c1 (k7.extBut _ _ c1 (Heap.get?_push_of_some _ e))
 have hT8:IsPair g8 g5.objs.size x y:=k8.extBut _ _ (Nat.ne_of_gt hzlt) (k7.extBut _ _ (Nat.ne_of_gt hzlt) (Heap.get?_push_size _ rfl))
 have sz8:g8.objs.size=g5.objs.size + 1:=by rw [k8.1,k7.1,Heap.size_push]
 rw [hsz] at hz8 hT8 sz8
 refine wpAny_pure ⟨_,rfl,?_⟩
 show Q (.ref g5.objs.size) _
 rw [hsz]
 refine hQ x y g8 _ px py hz8 (up _ _ Z.a2 ho5) (D1.frame _ _ _ st15 fun b hb o e=>up b o (by rintro rfl; exact Z.b1.1 hb) e) (D2.frame _ _ _ st25 fun b hb o e=>up b o (by rintro rfl; exact Z.b2.1 hb) e) hT8 sz8 fun c o c1 c2 c3 c4 e=>up c o c1 ?_
 exact k5.extBut _ _ c2 (k4.extBut _ _ c4 (k3.extBut _ _ c2 (k2.extBut _ _ c3 (k1.extBut _ _ c1 e))))
theorem zli {i:Nat} {Q:Fin->Shared->Prop} (Z:ZA zp ti to u1 u2 f1 f2) (D1:Draws prog w A u1 f1 n1 P1 St1) (D2:Draws prog w A u2 f2 n2 P2 St2) (hz:IsZip s.heap zp ti to .none) (hi:IsPair s.heap ti (.ref u1) (.ref u2)) (ho:IsPair s.heap to p q)
  (s1:St1 i s.heap) (s2:St2 i s.heap) (hend:i=n1\/(i < n1/\i=n2))
  (hE:∀h' e tk,(∀c o,c≠zp->c≠to->c≠u1->c≠u2->s.heap.get? c=some o->h'.get? c=some o)->(∃o,h'.get? e=some o/\o.cls=.type "StopIteration")->E (.ref e) { s with heap:=h',toks:=tk }) :
  wpAny (model prog w) A (Builtin.«zip.__next__» ⟨[.ref zp],[]⟩) Q E s:=by
 show wpAny _ _ (field (.ref zp) 2 >>= _) _ _ _
 refine wpAny_bind (wpAny_field hz rfl (x:=.bool false) rfl ?_)
 show wpAny _ _ (field (.ref zp) 3 >>= _) _ _ _
 refine wpAny_bind (wpAny_field hz rfl (x:=.ref ti) rfl (wpAny_bind (wpAny_seqItems hi rfl ?_)))
 show wpAny _ _ (Builtin.SmallTypes.ownedTupleIsFree (.ref zp) >>= _) _ _ _
 refine wpAny_bind ?_
 unfold Builtin.SmallTypes.ownedTupleIsFree
 refine wpAny_bind (wpAny_field hz rfl (x:=.none) rfl (wpAny_pure ?_))
 simp only [if_true]
 refine wpAny_bind (wpAny_rule (wpAny_bind (wpAny_field hz rfl (x:=.ref to) rfl (wpAny_bind (wpAny_setField_rec hz (by simp) fun g1 hz1 k1=>?_)))))
 replace hz1:IsZip g1 zp ti to .ellipsis:=hz1
 refine wpAny_bind ?_
 simp only [List.zipIdx_cons,List.zipIdx_nil,List.forIn_cons,List.forIn_nil]
 refine wpAny_bind (wpAny_bind (wpAny_onRaise ?_))
 show wpAny _ _ (Builtin.SmallTypes.nextOf (.ref u1) >>= _) _ _ _
 rcases hend with hend | ⟨hlt,hend⟩
 ·subst hend
  refine wpAny_bind (D1.done _ _ _ (D1.at' s1 k1.extBut Z.b1.1) fun g2 e k2 he=>?_)
  obtain ⟨oe,hoe,hce⟩:=he
  have hz2:IsZip g2 zp ti to .ellipsis:=k2 _ _ Z.a3.symm hz1
  have hez:e≠zp:=fun x=>by subst x; rw [hz2] at hoe; cases hoe; simp at hce
  exact wpAny_setField_rec hz2 (by simp) fun g3 _ k3=>hE g3 e _ (fun c o c1 _ c3 _ x=>k3.extBut _ _ c1 (k2 _ _ c3 (k1.extBut _ _ c1 x))) ⟨oe,k3.extBut _ _ hez hoe,hce⟩
 ·subst hend
  refine wpAny_bind (D1.item _ _ _ _ hlt (D1.at' s1 k1.extBut Z.b1.1) fun x g2 t2 px st1 k2=>wpAny_pure ?_)
  have ho2:IsPair g2 to p q:=k2.extBut _ _ Z.a5 (k1.extBut _ _ Z.a2 ho)
  refine wpAny_bind (wpAny_seqItems ho2 rfl (wpAny_bind (wpAny_updateSeq_pair ho2 fun g3 ho3 k3=>?_)))
  refine wpAny_bind (wpAny_letGo (wpAny_pure ?_))
  refine wpAny_bind (wpAny_bind (wpAny_onRaise ?_))
  show wpAny _ _ (Builtin.SmallTypes.nextOf (.ref u2) >>= _) _ _ _
  refine wpAny_bind (D2.done _ _ _ (D2.at' (D2.at' (D2.at' s2 k1.extBut Z.b2.1) k2.extBut Z.b2.2.2) k3.extBut Z.b2.2.1) fun g4 e k4 he=>?_)
  obtain ⟨oe,hoe,hce⟩:=he
  have hz4:IsZip g4 zp ti to .ellipsis:=k4 _ _ Z.a4.symm (k3.extBut _ _ Z.a2.symm (k2.extBut _ _ Z.a3.symm hz1))
  have hez:e≠zp:=fun x=>by subst x; rw [hz4] at hoe; cases hoe; simp at hce
  exact wpAny_setField_rec hz4 (by simp) fun g5 _ k5=>hE g5 e _ (fun c o c1 c2 c3 c4 x=>k5.extBut _ _ c1 (k4 _ _ c4 (k3.extBut _ _ c2 (k2.extBut _ _ c3 (k1.extBut _ _ c1 x))))) ⟨oe,k5.extBut _ _ hez hoe,hce⟩
theorem zhJ {i:Nat} {Q:Option Value->Shared->Prop} (Z:ZA zp ti to u1 u2 f1 f2) (D1:Draws prog w A.in1 u1 f1 n1 P1 St1) (D2:Draws prog w A.in1 u2 f2 n2 P2 St2) (hz:IsZip s.heap zp ti to .none) (hi:IsPair s.heap ti (.ref u1) (.ref u2)) (ho:IsPair s.heap to p q)
  (s1:St1 i s.heap) (s2:St2 i s.heap) (l1:i < n1) (l2:i < n2)
  (hQ:∀x y h' tk,P1 i x->P2 i y->IsZip h' zp ti to (rawInt s.heap.objs.size)->IsPair h' to x y->St1 (i + 1) h'->St2 (i + 1) h'->IsPair h' s.heap.objs.size x y->h'.objs.size=s.heap.objs.size + 1 ->
   (∀c o,c≠zp->c≠to->c≠u1->c≠u2->s.heap.get? c=some o->h'.get? c=some o)->Q (some (.ref s.heap.objs.size)) { s with heap:=h',toks:=tk }) :
  wpAny (model prog w) A (pyNext (.ref zp)) Q E s:=by
 have hT:s.TypeIs (.ref zp) "zip" := ⟨_,hz,rfl⟩
 unfold pyNext
 exact wpAny_bind (wpAny_attempt (wpAny_callSpecial?_slot (name:=Str.ofString "__next__") hT F.slot_zip_next (wpAny_call_entry F.slot_zip_next hT F.entry_zip_next
   (zjg Z D1 D2 hz hi ho s1 s2 l1 l2 fun x y h' tk b1 b2 b3 b4 b5 b6 b7 b8 b9=>wpAny_pure (hQ x y h' tk b1 b2 b3 b4 b5 b6 b7 b8 b9)) (F.args_zip_next_1 _))))
theorem zfP {i:Nat} {Q:Option Value->Shared->Prop} (Z:ZA zp ti to u1 u2 f1 f2) (D1:Draws prog w A.in1 u1 f1 n1 P1 St1) (D2:Draws prog w A.in1 u2 f2 n2 P2 St2) (hz:IsZip s.heap zp ti to .none) (hi:IsPair s.heap ti (.ref u1) (.ref u2)) (ho:IsPair s.heap to p q)
  (s1:St1 i s.heap) (s2:St2 i s.heap) (hend:i=n1\/(i < n1/\i=n2)) (hQ:∀h' tk,(∀c o,c≠zp->c≠to->c≠u1->c≠u2->s.heap.get? c=some o->h'.get? c=some o)->Q none { s with heap:=h',toks:=tk }) :
  wpAny (model prog w) A (pyNext (.ref zp)) Q E s:=by
 have hT:s.TypeIs (.ref zp) "zip" := ⟨_,hz,rfl⟩
 unfold pyNext
 refine wpAny_bind (wpAny_attempt (wpAny_callSpecial?_slot (name:=Str.ofString "__next__") hT F.slot_zip_next (wpAny_call_entry F.slot_zip_next hT F.entry_zip_next (zli Z D1 D2 hz hi ho s1 s2 hend fun h' e tk hk he=>?_) (F.args_zip_next_1 _))))
 obtain ⟨o,ho,hc⟩:=he
 exact wpAny_bind (wpAny_isInstance (T := "StopIteration") (b:=true) ⟨o,ho,hc⟩ isSubtype_stop (wpAny_pure (hQ _ _ hk)))
end
abbrev itO (c:String) (l:Addr):Obj:={ cls:=.type c,data:=.fields #[.ref l,.int 0 0] }
abbrev zg2 (h:Heap) (c1 c2:String) (l1 l2:Addr):Heap:=(h.push (itO c1 l1)).push (itO c2 l2)
abbrev zg3 (h:Heap) (c1 c2:String) (l1 l2:Addr):Heap:=(zg2 h c1 c2 l1 l2).push { cls:=.type "tuple",data:=.seq #[.ref h.objs.size,.ref (h.push (itO c1 l1)).objs.size] }
abbrev zg4 (h:Heap) (c1 c2:String) (l1 l2:Addr):Heap:=(zg3 h c1 c2 l1 l2).push { cls:=.type "tuple",data:=.seq #[.none,.none] }
abbrev zg5 (h:Heap) (c1 c2:String) (l1 l2:Addr):Heap:=(zg4 h c1 c2 l1 l2).push { cls:=.type "zip",data:=.fields #[.none,.bool false,.bool false,.ref (zg2 h c1 c2 l1 l2).objs.size,.ref (zg3 h c1 c2 l1 l2).objs.size] }
theorem zh9 {h:Heap} {a:Addr} {xs:Array Value} (x:h.IsTuple a xs) (o:Obj):(h.push o).IsTuple a xs:=let ⟨u,hu,r⟩:=x; ⟨u,Heap.get?_push_of_some _ hu,r⟩
theorem zko (l1 l2:Addr) (xs ys:Array Value):Meets (Builtin.«zip.__new__» ⟨[.type "zip",.ref l1,.ref l2],[]⟩) (fun _ R s=>s.heap.IsList l1 xs/\s.heap.IsList l2 ys /\
   R (.ok (.ret (.ref (zg4 s.heap "list_iterator" "list_iterator" l1 l2).objs.size))) { s with heap:=zg5 s.heap "list_iterator" "list_iterator" l1 l2 }):=
 .of_wp fun prog w A R s h=>by
  obtain ⟨hp,gg,dd,tk,os⟩:=s; obtain ⟨q1,q2,h⟩:=h
  have hsub:=sub_zip
  have e1:Heap.IsList (Shared.heap ⟨hp,gg,dd,tk,os⟩) l1 xs:=q1
  have e2:Heap.IsList (Shared.heap ⟨hp.push (itO "list_iterator" l1),gg,dd,tk,os⟩) l2 ys:=Heap.IsList.push q2 _
  wp_walk using wpAny_pyIter_list e1,wpAny_pyIter_list e2
  exact ⟨_,rfl,h⟩
theorem zkm (l1 l2:Addr) (xs ys:Array Value):Meets (Builtin.«zip.__new__» ⟨[.type "zip",.ref l1,.ref l2],[]⟩) (fun _ R s=>s.heap.IsTuple l1 xs/\s.heap.IsList l2 ys /\
   R (.ok (.ret (.ref (zg4 s.heap "tuple_iterator" "list_iterator" l1 l2).objs.size))) { s with heap:=zg5 s.heap "tuple_iterator" "list_iterator" l1 l2 }):=
 .of_wp fun prog w A R s h=>by
  obtain ⟨hp,gg,dd,tk,os⟩:=s; obtain ⟨q1,q2,h⟩:=h
  have hsub:=sub_zip
  have e1:Heap.IsTuple (Shared.heap ⟨hp,gg,dd,tk,os⟩) l1 xs:=q1
  have e2:Heap.IsList (Shared.heap ⟨hp.push (itO "tuple_iterator" l1),gg,dd,tk,os⟩) l2 ys:=Heap.IsList.push q2 _
  wp_walk using wpAny_pyIter_tuple e1,wpAny_pyIter_list e2
  exact ⟨_,rfl,h⟩
theorem zkl (l1 l2:Addr) (xs ys:Array Value):Meets (Builtin.«zip.__new__» ⟨[.type "zip",.ref l1,.ref l2],[]⟩) (fun _ R s=>s.heap.IsTuple l1 xs/\s.heap.IsTuple l2 ys /\
   R (.ok (.ret (.ref (zg4 s.heap "tuple_iterator" "tuple_iterator" l1 l2).objs.size))) { s with heap:=zg5 s.heap "tuple_iterator" "tuple_iterator" l1 l2 }):=
 .of_wp fun prog w A R s h=>by
  obtain ⟨hp,gg,dd,tk,os⟩:=s; obtain ⟨q1,q2,h⟩:=h
  have hsub:=sub_zip
  have e1:Heap.IsTuple (Shared.heap ⟨hp,gg,dd,tk,os⟩) l1 xs:=q1
  have e2:Heap.IsTuple (Shared.heap ⟨hp.push (itO "tuple_iterator" l1),gg,dd,tk,os⟩) l2 ys:=zh9 q2 _
  wp_walk using wpAny_pyIter_tuple e1,wpAny_pyIter_tuple e2
  exact ⟨_,rfl,h⟩
theorem zkn (l1 l2:Addr) (xs ys:Array Value):Meets (Builtin.«zip.__new__» ⟨[.type "zip",.ref l1,.ref l2],[]⟩) (fun _ R s=>s.heap.IsList l1 xs/\s.heap.IsTuple l2 ys /\
   R (.ok (.ret (.ref (zg4 s.heap "list_iterator" "tuple_iterator" l1 l2).objs.size))) { s with heap:=zg5 s.heap "list_iterator" "tuple_iterator" l1 l2 }):=
 .of_wp fun prog w A R s h=>by
  obtain ⟨hp,gg,dd,tk,os⟩:=s; obtain ⟨q1,q2,h⟩:=h
  have hsub:=sub_zip
  have e1:Heap.IsList (Shared.heap ⟨hp,gg,dd,tk,os⟩) l1 xs:=q1
  have e2:Heap.IsTuple (Shared.heap ⟨hp.push (itO "list_iterator" l1),gg,dd,tk,os⟩) l2 ys:=zh9 q2 _
  wp_walk using wpAny_pyIter_list e1,wpAny_pyIter_tuple e2
  exact ⟨_,rfl,h⟩
section
variable {prog:Program} {w:World} {A:Around} {E:Value->Shared->Prop} {s:Shared}
def Made (s:Shared) (c1 c2:String) (l1 l2:Addr) (Q:Value->Shared->Prop):Prop:=
 ∀h',IsZip h' (s.heap.objs.size + 4) (s.heap.objs.size + 2) (s.heap.objs.size + 3) .none->IsPair h' (s.heap.objs.size + 2) (.ref s.heap.objs.size) (.ref (s.heap.objs.size + 1)) ->
   IsPair h' (s.heap.objs.size + 3) .none .none->h'.get? s.heap.objs.size=some (itO c1 l1)->h'.get? (s.heap.objs.size + 1)=some (itO c2 l2) ->
   (∀c o,s.heap.get? c=some o->h'.get? c=some o)->Q (.ref (s.heap.objs.size + 4)) { s with heap:=h' }
theorem zgs {c1 c2:String} {l1 l2:Addr} {Q:Value->Shared->Prop} (h:Made s c1 c2 l1 l2 Q):(∃o,(zg5 s.heap c1 c2 l1 l2).get? (zg4 s.heap c1 c2 l1 l2).objs.size=some o/\o.cls=.type "zip")/\Q (.ref (zg4 s.heap c1 c2 l1 l2).objs.size) { s with heap:=zg5 s.heap c1 c2 l1 l2 }:=by
 have z1:(s.heap.push (itO c1 l1)).objs.size=s.heap.objs.size + 1:=Heap.size_push ..
 have z2:(zg2 s.heap c1 c2 l1 l2).objs.size=s.heap.objs.size + 2:=by rw [Heap.size_push,z1]
 have z3:(zg3 s.heap c1 c2 l1 l2).objs.size=s.heap.objs.size + 3:=by rw [Heap.size_push,z2]
 have z4:(zg4 s.heap c1 c2 l1 l2).objs.size=s.heap.objs.size + 4:=by rw [Heap.size_push,z3]
 have g5:(zg5 s.heap c1 c2 l1 l2).get? (zg4 s.heap c1 c2 l1 l2).objs.size=some _:=Heap.get?_push_size _ rfl
 have g4:(zg5 s.heap c1 c2 l1 l2).get? (zg3 s.heap c1 c2 l1 l2).objs.size=some _:=Heap.get?_push_of_some _ (Heap.get?_push_size _ rfl)
 have g3:(zg5 s.heap c1 c2 l1 l2).get? (zg2 s.heap c1 c2 l1 l2).objs.size=some _:=Heap.get?_push_of_some _ (Heap.get?_push_of_some _ (Heap.get?_push_size _ rfl))
 have g2:(zg5 s.heap c1 c2 l1 l2).get? (s.heap.push (itO c1 l1)).objs.size=some (itO c2 l2):=Heap.get?_push_of_some _ (Heap.get?_push_of_some _ (Heap.get?_push_of_some _ (Heap.get?_push_size _ rfl)))
 have g1:(zg5 s.heap c1 c2 l1 l2).get? s.heap.objs.size=some (itO c1 l1):=Heap.get?_push_of_some _ (Heap.get?_push_of_some _ (Heap.get?_push_of_some _ (Heap.get?_push_of_some _ (Heap.get?_push_size _ rfl))))
 rw [z2,z3,z4] at g5
 rw [z1,z2] at g3
 rw [z3] at g4
 rw [z1] at g2
 rw [z4]
 exact ⟨⟨_,g5,rfl⟩,h _ g5 g3 g4 g1 g2 fun c o x=>Heap.get?_push_of_some _ (Heap.get?_push_of_some _ (Heap.get?_push_of_some _ (Heap.get?_push_of_some _ (Heap.get?_push_of_some _ x))))⟩
theorem zmn {l1 l2:Addr} {xs ys:Array Value} {Q:Value->Shared->Prop} (q1:s.heap.IsList l1 xs) (q2:s.heap.IsList l2 ys) (h:Made s "list_iterator" "list_iterator" l1 l2 Q):wpAny (model prog w) A (call (.type "zip") [.ref l1,.ref l2]) Q E s:=
 callType_new F.called_zip (by decide) (F.typeCall_zip_2 _ _) (F.newCall_zip_2 _ _) (fun obj=>F.args_object_init_3 obj _ _) F.entry_zip_new (zko l1 l2 xs ys) ⟨q1,q2,zgs h⟩
theorem zml {l1 l2:Addr} {xs ys:Array Value} {Q:Value->Shared->Prop} (q1:s.heap.IsTuple l1 xs) (q2:s.heap.IsList l2 ys) (h:Made s "tuple_iterator" "list_iterator" l1 l2 Q):wpAny (model prog w) A (call (.type "zip") [.ref l1,.ref l2]) Q E s:=
 callType_new F.called_zip (by decide) (F.typeCall_zip_2 _ _) (F.newCall_zip_2 _ _) (fun obj=>F.args_object_init_3 obj _ _) F.entry_zip_new (zkm l1 l2 xs ys) ⟨q1,q2,zgs h⟩
theorem zmk {l1 l2:Addr} {xs ys:Array Value} {Q:Value->Shared->Prop} (q1:s.heap.IsTuple l1 xs) (q2:s.heap.IsTuple l2 ys) (h:Made s "tuple_iterator" "tuple_iterator" l1 l2 Q):wpAny (model prog w) A (call (.type "zip") [.ref l1,.ref l2]) Q E s:=
 callType_new F.called_zip (by decide) (F.typeCall_zip_2 _ _) (F.newCall_zip_2 _ _) (fun obj=>F.args_object_init_3 obj _ _) F.entry_zip_new (zkl l1 l2 xs ys) ⟨q1,q2,zgs h⟩
theorem zmm {l1 l2:Addr} {xs ys:Array Value} {Q:Value->Shared->Prop} (q1:s.heap.IsList l1 xs) (q2:s.heap.IsTuple l2 ys) (h:Made s "list_iterator" "tuple_iterator" l1 l2 Q):wpAny (model prog w) A (call (.type "zip") [.ref l1,.ref l2]) Q E s:=
 callType_new F.called_zip (by decide) (F.typeCall_zip_2 _ _) (F.newCall_zip_2 _ _) (fun obj=>F.args_object_init_3 obj _ _) F.entry_zip_new (zkn l1 l2 xs ys) ⟨q1,q2,zgs h⟩
end
end
def sqK (K:W.Frag) (t:Bool) (a:Addr) (H:Hp) (xs:List V):Prop:=match t with
 | false=>SqL K H a xs
 | true=>SqT K H a xs
def itK (t:Bool) (a u:Addr) (i:Nat) (h:Heap):Prop:=match t with
 | false=>h.IsListIter u a i
 | true=>h.IsTupleIter u a i
abbrev nmK (t:Bool):String:=match t with
 | false => "list_iterator"
 | true => "tuple_iterator"
theorem zkC {t:Bool} {a u:Addr} {h:Heap} (e:h.get? u=some (itO (nmK t) a)):itK t a u 0 h:=by cases t <;> exact ⟨_,e,rfl,rfl⟩
theorem zgw {t:Bool} {a u:Addr} {i:Nat} {h:Heap} (e:itK t a u i h):∃o,h.get? u=some o/\∀v,o.data≠.cell v:=by
 cases t <;> (obtain ⟨o,ho,hc,hd⟩:=e; exact ⟨o,ho,fun v z=>by rw [hd] at z; cases z⟩)
theorem ze3 {t:Bool} {a u:Addr} {i:Nat} {h h':Heap} (e:itK t a u i h) (k:∀o,h.get? u=some o->h'.get? u=some o):itK t a u i h':=by
 cases t <;> (obtain ⟨o,ho,r⟩:=e; exact ⟨o,k o ho,r⟩)
section
variable {X:Cx} {pins:List (Addr × Obj)} {σ:L2.St} {H:Hp} {s:Shared} {t:Bool} {a u:Addr} {xs ys:List V} {i:Nat}
theorem zmf (I:Inv X pins σ H s) (hc:X.calm=true) (hq:sqK X.K t a H xs) (hau:a≠u) (hi:itK t a u i s.heap):∃(its:List Value) (St:Nat->Heap->Prop),Vals xs its/\Draws X.prog X.w X.A.in1 u [u,a] its.toArray.size (fun i v=>its.toArray[i]? = some v) St/\St i s.heap/\∀j h',St j h'->itK t a u j h':=by
 cases t with
 | false=>
  obtain ⟨its,rv,p,hz⟩:=I.list hq
  exact ⟨its,_,rv,Draws.list (A:=X.A.in1) (show X.A.in1.handled=none from I.ok.hd hc) u a hau its.toArray,⟨hi,p.isList⟩,fun j h' st=>st.1⟩
 | true=>
  obtain ⟨its,rv,p,hz⟩:=I.tuple hq
  exact ⟨its,_,rv,zkR (A:=X.A.in1) (show X.A.in1.handled=none from I.ok.hd hc) u a hau its.toArray,⟨hi,p⟩,fun j h' st=>st.1⟩
theorem zjp (I:Inv X pins σ H s) (h1:sqK X.K t a H xs) (h2:sqK X.K t a H ys):xs=ys:=by
 cases t with
 | false=>exact I.list_inj h1 h2
 | true=>exact I.tuple_inj h1 h2
theorem zgP (I:Inv X pins σ H s) (h1:sqK X.K t a H xs):a < s.heap.objs.size:=by
 cases t with
 | false=>obtain ⟨its,rv,p,hz⟩:=I.list h1; obtain ⟨o,ho,_⟩:=p.isList; exact Heap.lt_size ho
 | true=>obtain ⟨its,rv,p,hz⟩:=I.tuple h1; obtain ⟨o,ho,_⟩:=id p; exact Heap.lt_size ho
theorem zkD {h':Heap} {ch:List Addr} {t':Nat} (I:Inv X pins σ H s) (hch:∀b∈ch,FpOk X pins H b) (k:∀b ob,b∉ch->s.heap.get? b=some ob->h'.get? b=some ob):Inv X pins σ H { s with heap:=h',toks:=t' }:=by
 have trk:∀b u,H b=some u->b∉ch:=fun b u e hb=>by rw [(hch b hb).1] at e; cases e
 refine I.step (g':=s.gens) (d':=s.drawn) (ch:=ch) (fun b hb=>?_) (fun b ob _ _ hc e _=>k b ob hc e) (fun b ob _ _ hc e _=>⟨ob.slots,k b ob hc e⟩) (fun b ob hc e n=>n)
  (fun b ob hc e=>⟨ob,k b ob hc e⟩) (fun b xs e=>e) (fun b ob u e=>e) (fun b ps e=>⟨#[],by rw [e]; simp⟩) (fun m hm=>?_) (fun b u e=>?_) I.bare
 ·obtain ⟨z0,z1,z2,z3,z4,z5⟩:=hch b hb
  exact ⟨z3,z1,z4,z5⟩
 ·obtain ⟨ob,es,ep,ho,r⟩:=hm
  exact ⟨ob,es,ep,k _ ob (fun hb=>(hch _ hb).2.1 rfl) ho,r⟩
 ·refine (I.hok b u e).stay (fun c v hc q=>k c v ?_ q) (fun c q=>q) fun c xs q=>q
  rcases hc with z | z
  ·rw [z]; exact trk b u e
  ·exact trk c _ z
end
def Izp (sq1 sq2:Hp->List V->Prop):It:=
 ⟨fun i H=>∃xs ys x y,sq1 H xs/\sq2 H ys/\xs[i]? = some x/\ys[i]? = some y,fun i H x H'=>∃p v u,H p=none/\x=.ref p/\H'=upd H p (.tup [v,u])/\(∀xs,sq1 H xs->xs[i]? = some v)/\∀ys,sq2 H ys->ys[i]? = some u,
  fun i H=>∃xs ys,sq1 H xs/\sq2 H ys/\min xs.length ys.length=i⟩
theorem zlR {P:Program} {w:World} {H:Hp} {h:Heap} {T:Addr} {x y:Value} {v u:V} (hT:h.get? T=some { cls:=.type "tuple",data:=.seq #[x,y] }) (r1:L2.RelV v x) (r2:L2.RelV u y):zbg P w H h T (.tup [v,u]):=
 ⟨by show 2<=sizeLine; decide,[x,y],.cons r1 (.cons r2 .nil),⟨_,hT,rfl,0,rfl⟩,_,hT,rfl⟩
theorem zlk {P:Program} {w:World} {K:W.Frag} {elts:List Expr} {k:Nat} {pos:Pos} {t1 t2:Bool} (a b zp ti to u1 u2:Addr) (Z:ZA zp ti to u1 u2 [u1,a] [u2,b]) (h1:a≠u1) (h2:b≠u2) :
  Turn P w K (.Tuple elts k pos) (Izp (sqK K t1 a) (sqK K t2 b)) [zp,ti,to,u1,u2] zp (fun i h=>IsZip h zp ti to .none/\IsPair h ti (.ref u1) (.ref u2)/\(∃p q,IsPair h to p q)/\itK t1 a u1 i h/\itK t2 b u2 i h) where
 mem:=by simp
 obj:=fun i h st c hc=>by
  obtain ⟨hz,hi,⟨p,q,ho⟩,s1,s2⟩:=st
  simp only [List.mem_cons,List.not_mem_nil,or_false] at hc
  rcases hc with rfl | rfl | rfl | rfl | rfl
  ·exact ⟨_,hz,fun v z=>by have z':Data.fields _=Data.cell v:=z; cases z'⟩
  ·exact ⟨_,hi,fun v z=>by have z':Data.seq _ _=Data.cell v:=z; cases z'⟩
  ·exact ⟨_,ho,fun v z=>by have z':Data.seq _ _=Data.cell v:=z; cases z'⟩
  ·exact zgw s1
  ·exact zgw s2
 keep:=fun i h h' st kk=>by
  obtain ⟨hz,hi,⟨p,q,ho⟩,s1,s2⟩:=st
  exact ⟨kk zp (by simp) _ hz,kk ti (by simp) _ hi,⟨p,q,kk to (by simp) _ ho⟩,ze3 s1 fun o e=>kk u1 (by simp) o e,ze3 s2 fun o e=>kk u2 (by simp) o e⟩
 item:=by
  intro X hP hw hK hc i pins s σ H E I hf st hg
  subst hP hw hK
  obtain ⟨xs,ys,x,y,q1,q2,hx,hy⟩:=hg
  obtain ⟨hz,hi,⟨p,q,ho⟩,s1,s2⟩:=st
  obtain ⟨its1,St1,rv1,D1,d1,f1⟩:=zmf I hc q1 h1 s1
  obtain ⟨its2,St2,rv2,D2,d2,f2⟩:=zmf I hc q2 h2 s2
  have l1:i < its1.toArray.size:=by
   have:=(List.getElem?_eq_some_iff.mp hx).1
   rw [List.size_toArray,<-rv1.length]; exact this
  have l2:i < its2.toArray.size:=by
   have:=(List.getElem?_eq_some_iff.mp hy).1
   rw [List.size_toArray,<-rv2.length]; exact this
  refine zhJ Z D1 D2 hz hi ho d1 d2 l1 l2 fun vx vy h' tk px py hz' hto' st1' st2' hT hsz hk=>⟨_,rfl,wpAny_letOwnedTupleGo_zip hz' fun h'' hz'' hs''=>?_⟩
  obtain ⟨wx,e1,r1⟩:=rv1.get hx
  obtain ⟨wy,e2,r2⟩:=rv2.get hy
  have ex:vx=wx:=by
   have:its1[i]? = some vx:=by simpa using px
   rw [e1] at this; exact (Option.some.inj this).symm
  have ey:vy=wy:=by
   have:its2[i]? = some vy:=by simpa using py
   rw [e2] at this; exact (Option.some.inj this).symm
  subst ex ey
  have nT:∀c o,s.heap.get? c=some o->s.heap.objs.size≠c:=fun c o e=>Nat.ne_of_gt (Heap.lt_size e)
  have hT'':h''.get? s.heap.objs.size=some { cls:=.type "tuple",data:=.seq #[vx,vy] }:=(hs''.2 _ (nT _ _ hz)).trans hT
  obtain ⟨o1,ho1,_⟩:=zgw s1
  obtain ⟨o2,ho2,_⟩:=zgw s2
  refine ⟨.ref s.heap.objs.size,upd H s.heap.objs.size (.tup [x,y]),zgx (s:=s) (h':=h'') (t':=tk) (ch:=[zp,to,u1,u2]) I (fun c hc=>hf c ?_) (fun c ob hb e=>?_) (Nat.le_refl _) (zlR hT'' r1 r2),rfl,⟨_,x,y,I.hok.fresh (Nat.le_refl _),rfl,rfl,fun zs hz=>by rw [zjp I hz q1]; exact hx,fun zs hz=>by rw [zjp I hz q2]; exact hy⟩,⟨hz'',?_,⟨vx,vy,?_⟩,?_,?_⟩,fun c hc=>?_⟩
  ·simp only [List.mem_cons,List.not_mem_nil,or_false] at hc ⊢
   rcases hc with rfl | rfl | rfl | rfl <;> simp
  ·simp only [List.mem_cons,List.not_mem_nil,or_false,not_or] at hb
   exact (hs''.2 c hb.1).trans (hk c ob hb.1 hb.2.1 hb.2.2.1 hb.2.2.2 e)
  ·exact (hs''.2 _ Z.a1).trans (hk _ _ Z.a1 Z.a8.1 Z.a8.2.1 Z.a8.2.2 hi)
  ·exact (hs''.2 _ Z.a2).trans hto'
  ·exact ze3 (f1 _ _ st1') fun o e=>(hs''.2 _ Z.a3).trans e
  ·exact ze3 (f2 _ _ st2') fun o e=>(hs''.2 _ Z.a4).trans e
  ·rw [zal ?_]
   ·exact (hf c hc).1
   ·simp only [List.mem_cons,List.not_mem_nil,or_false] at hc
    rcases hc with rfl | rfl | rfl | rfl | rfl
    ·exact (nT _ _ hz).symm
    ·exact (nT _ _ hi).symm
    ·exact (nT _ _ ho).symm
    ·exact (nT _ _ ho1).symm
    ·exact (nT _ _ ho2).symm
 done:=by
  intro X hP hw hK hc i pins s σ H E I hf st hg
  subst hP hw hK
  obtain ⟨xs,ys,q1,q2,hm⟩:=hg
  obtain ⟨hz,hi,⟨p,q,ho⟩,s1,s2⟩:=st
  obtain ⟨its1,St1,rv1,D1,d1,f1⟩:=zmf I hc q1 h1 s1
  obtain ⟨its2,St2,rv2,D2,d2,f2⟩:=zmf I hc q2 h2 s2
  have l1:=rv1.length
  have l2:=rv2.length
  refine zfP Z D1 D2 hz hi ho d1 d2 ?_ fun h' tk hk=>⟨rfl,zkD (h':=h') (t':=tk) (ch:=[zp,to,u1,u2]) I (fun c hc=>hf c ?_) fun c ob hb e=>?_⟩
  ·rw [List.size_toArray,List.size_toArray]
   omega
  ·simp only [List.mem_cons,List.not_mem_nil,or_false] at hc ⊢
   rcases hc with rfl | rfl | rfl | rfl <;> simp
  ·simp only [List.mem_cons,List.not_mem_nil,or_false,not_or] at hb
   exact hk c ob hb.1 hb.2.1 hb.2.2.1 hb.2.2.2 e
 self:=fun _ _ _ _ _ st h=>wpAny_pyIter_zip st.1 h
def fZip (fa fb:FE):FI:=fun r=>(fa r).bind fun d=>(fb r).bind fun e=>(opt (zbf d)).bind fun ds=>(opt (zbf e)).bind fun es=>.ok (List.zipWith (fun a b=>D.tup [a,b]) ds es)
theorem zlh {α β γ:Type} (f:α->β->γ):∀(l:List α) (r:List β) (i:Nat),(List.zipWith f l r)[i]? = (match l[i]?,r[i]? with | some a,some b=>some (f a b) | _,_=>none):=fun l r i=>by
 rw [List.getElem?_zipWith]
 cases l[i]? <;> cases r[i]? <;> rfl
theorem zoZ {K:W.Frag} {ds es:List D} {G0:GH} {sq1 sq2:Hp->List V->Prop} (h1:∀G H,Gle G0 G->GOk K G H->∃xs,sq1 H xs/\RGs K G xs ds) (h2:∀G H,Gle G0 G->GOk K G H->∃xs,sq2 H xs/\RGs K G xs es):Yields K (Izp sq1 sq2) (List.zipWith (fun a b=>D.tup [a,b]) ds es) G0:=by
 refine ⟨fun G H i w gk hi=>?_,fun G H i x H' d w gk y e=>?_,fun G H w gk=>?_⟩
 ·obtain ⟨xs,s1,r1⟩:=h1 G H w gk
  obtain ⟨ys,s2,r2⟩:=h2 G H w gk
  rw [List.length_zipWith] at hi
  have l1:=Paired.length r1
  have l2:=Paired.length r2
  exact ⟨xs,ys,xs[i]'(by omega),ys[i]'(by omega),s1,s2,List.getElem?_eq_getElem _,List.getElem?_eq_getElem _⟩
 ·obtain ⟨xs,s1,r1⟩:=h1 G H w gk
  obtain ⟨ys,s2,r2⟩:=h2 G H w gk
  obtain ⟨p,v,u,hp,rfl,rfl,hv,hu⟩:=y
  rw [zlh] at e
  cases e1:ds[i]? with
  | none=>rw [e1] at e; cases e
  | some d1=>
   cases e2:es[i]? with
   | none=>rw [e1,e2] at e; cases e
   | some d2=>
    rw [e1,e2] at e
    cases e
    obtain ⟨v',z1,rv⟩:=Paired.get r1 e1
    obtain ⟨u',z2,ru⟩:=Paired.get r2 e2
    have a1:=hv xs s1
    have a2:=hu ys s2
    rw [z1] at a1; cases a1
    rw [z2] at a2; cases a2
    exact ⟨_,Grow.newF gk hp (.tup (.inl zam) (.cons rv (.cons ru .nil))),.ref zaq⟩
 ·obtain ⟨xs,s1,r1⟩:=h1 G H w gk
  obtain ⟨ys,s2,r2⟩:=h2 G H w gk
  refine ⟨xs,ys,s1,s2,?_⟩
  rw [List.length_zipWith,Paired.length r1,Paired.length r2]
section
variable {X:Cx} {g:GE} {m:List Md} {e1 e2:Expr} {fa fb:FE} {pos p pos2:Pos} {elts:List Expr} {kk:Nat}
theorem zoJ {pins:List (Addr × Obj)} {σ:L2.St} {H:Hp} {s:Shared} {t1 t2:Bool} {a b:Addr} {xs ys:List V} {E:Value->Shared->Prop} {Q:Value->Shared->Prop} (I:Inv X pins σ H s) (q1:sqK X.K t1 a H xs) (q2:sqK X.K t2 b H ys) (h:Made s (nmK t1) (nmK t2) a b Q):wpAny (model X.prog X.w) X.A (call (.type "zip") [.ref a,.ref b]) Q E s:=by
 cases t1 with
 | false=>
  obtain ⟨its1,_,p1,_⟩:=I.list q1
  cases t2 with
  | false=>obtain ⟨its2,_,p2,_⟩:=I.list q2; exact zmn p1.isList p2.isList h
  | true=>obtain ⟨its2,_,p2,_⟩:=I.tuple q2; exact zmm p1.isList (show s.heap.IsTuple b its2.toArray from p2) h
 | true=>
  obtain ⟨its1,_,p1,_⟩:=I.tuple q1
  cases t2 with
  | false=>obtain ⟨its2,_,p2,_⟩:=I.list q2; exact zml (show s.heap.IsTuple a its1.toArray from p1) p2.isList h
  | true=>obtain ⟨its2,_,p2,_⟩:=I.tuple q2; exact zmk (show s.heap.IsTuple a its1.toArray from p1) (show s.heap.IsTuple b its2.toArray from p2) h
theorem zdK {x y:Nat} (h:x≠y):(show Addr from x)≠(show Addr from y):=h
theorem zev {x u a:Nat} (h1:x≠u) (h2:x≠a):(show Addr from x)∉[(show Addr from u),(show Addr from a)]:=fun h=>by
 rcases List.mem_cons.mp h with h | h
 ·exact h1 h
 ·exact h2 (List.mem_singleton.mp h)
theorem zoY {a b k:Nat} (la:a < k) (lb:b < k):ZA (show Addr from k + 4) (show Addr from k + 2) (show Addr from k + 3) (show Addr from k) (show Addr from k + 1) [(show Addr from k),(show Addr from a)] [(show Addr from k + 1),(show Addr from b)]:=
 ⟨zdK (by omega),zdK (by omega),zdK (by omega),zdK (by omega),zdK (by omega),zdK (by omega),zdK (by omega),⟨zdK (by omega),zdK (by omega),zdK (by omega)⟩,
  ⟨zev (by omega) (by omega),zev (by omega) (by omega),zev (by omega) (by omega)⟩,⟨zev (by omega) (by omega),zev (by omega) (by omega),zev (by omega) (by omega)⟩⟩
theorem zqW {c k:Nat} (h:c=k + 4\/c=k + 2\/c=k + 3\/c=k\/c=k + 1):k<=c:=by omega
theorem zpU {ta tb:TE} (hg:Gl X "zip") (hm:X.mg "zip" = none) (ha:PE X e1 ta) (hb:PE X e2 tb) (hs:starEach [e1,e2] X.env=(false,eval e1 X.env)::starEach [e2] X.env:=by rfl) (hs2:starEach [e2] X.env=(false,eval e2 X.env)::starEach [] X.env:=by rfl) (hpl:(backTo pos (starEach [e2] X.env)).any (·.1)=false:=by rfl) :
  PI X (.Tuple elts kk pos2) (.Call (.Name "zip" p) [e1,e2] [] pos) (fun σ H R=>ta σ H fun x H1=>tb σ H1 fun y H2=>∃(t1 t2:Bool) (a b:Addr),x=.ref a/\y=.ref b/\(∃xs,sqK X.K t1 a H2 xs)/\(∃ys,sqK X.K t2 b H2 ys)/\R (Izp (sqK X.K t1 a) (sqK X.K t2 b)) H2):=by
 intro pins s σ H R I h
 refine Call_ (zf2 I hg hm boot_zip (PyProof.Rows.callWith_type1 (thn (zbb ha (zbb hb zde hs2) hs pos pins s σ H (fun vs H2=>match vs with
  | [x,y]=>∃(t1 t2:Bool) (a b:Addr),x=.ref a/\y=.ref b/\(∃xs,sqK X.K t1 a H2 xs)/\(∃ys,sqK X.K t2 b H2 ys)/\R (Izp (sqK X.K t1 a) (sqK X.K t2 b)) H2
  | _=>False) I h) fun us s1 ⟨vs,H1,I1,r1,q1⟩=>?_) hs hpl))
 cases r1 with
 | nil=>exact q1.elim
 | @cons x u xs us rx rt=>
 cases rt with
 | nil=>exact q1.elim
 | @cons y u' xs' us' ry rt'=>
 cases rt' with
 | cons _ _=>exact q1.elim
 | nil=>
 obtain ⟨t1,t2,a,b,rfl,rfl,⟨zs,z1⟩,⟨ws,z2⟩,q⟩:=q1
 cases rx
 cases ry
 have la:=zgP I1 z1
 have lb:=zgP I1 z2
 refine zoJ I1 z1 z2 fun h' hz hi ho o1 o2 kp=>wpAny_pyIter_zip hz ?_
 refine ⟨_,[s1.heap.objs.size + 4,s1.heap.objs.size + 2,s1.heap.objs.size + 3,s1.heap.objs.size,s1.heap.objs.size + 1],_,_,H1,rfl,I1.kept (t':=s1.toks) kp,zlk (t1:=t1) (t2:=t2) a b _ _ _ _ _ (zoY la lb) (Nat.ne_of_lt la) (Nat.ne_of_lt (Nat.lt_succ_of_lt lb)),⟨hz,hi,⟨_,_,ho⟩,zkC o1,zkC o2⟩,fun c hc=>?_,q⟩
 have hge:s1.heap.objs.size<=c:=by
  simp only [List.mem_cons,List.not_mem_nil,or_false] at hc
  exact zqW hc
 exact I1.fpOk hge (I1.hok.fresh hge)
theorem zsa (hg:Gl X "zip") (hm:X.mg "zip" = none) (ha:SE X g m e1 fa) (hb:SE X g m e2 fb) (hs:starEach [e1,e2] X.env=(false,eval e1 X.env)::starEach [e2] X.env:=by rfl) (hs2:starEach [e2] X.env=(false,eval e2 X.env)::starEach [] X.env:=by rfl) (hpl:(backTo pos (starEach [e2] X.env)).any (·.1)=false:=by rfl):SIt X g m (.Tuple elts kk pos2) (.Call (.Name "zip" p) [e1,e2] [] pos) (fZip fa fb):=by
 refine PI.imp (zpU hg hm ha hb hs hs2 hpl) fun σ H R ⟨r,G,si,q⟩=>⟨r,G,si,zag (zaf q) fun d q v G1 H1 w1 rv=>⟨r,G1,si.grow w1,?_⟩⟩
 refine zaD (zaf q) w1 fun e q u G2 H2 w2 ru=>?_
 obtain ⟨ds,ed,q⟩:=zaw (zaf q)
 obtain ⟨es,ee,q⟩:=zaw (zaf q)
 have rv2:=rv.mono w2.ge
 have one:∀{v:V} {d:D} {ds:List D},RG X.K G2 v d->zbf d=some ds->∃(t:Bool) (a:Addr),v=.ref a/\(∃xs,sqK X.K t a H2 xs)/\∀G H,Gle G2 G->GOk X.K G H->∃xs,sqK X.K t a H xs/\RGs X.K G xs ds:=by
  intro v d ds rv ed
  cases d with
  | lst ds'=>
   cases ed
   obtain ⟨a,xs,rfl,s,rs⟩:=rv.lst w2.ok
   refine ⟨false,a,rfl,⟨xs,s⟩,fun G H le gk=>?_⟩
   obtain ⟨b,ys,e,s',r'⟩:=(rv.mono le).lst gk
   cases e
   exact ⟨ys,s',r'⟩
  | tup ds'=>
   cases ed
   obtain ⟨a,xs,rfl,s,rs⟩:=rv.tup w2.ok
   refine ⟨true,a,rfl,⟨xs,s⟩,fun G H le gk=>?_⟩
   obtain ⟨b,ys,e,s',r'⟩:=(rv.mono le).tup gk
   cases e
   exact ⟨ys,s',r'⟩
  | _=>cases ed
 obtain ⟨t1,a,rfl,x1,y1⟩:=one rv2 ed
 obtain ⟨t2,b,rfl,x2,y2⟩:=one ru ee
 exact ⟨t1,t2,a,b,rfl,rfl,x1,x2,q _ G2 H2 (w1.trans w2) (zoZ y1 y2)⟩
end
end DL
namespace DL
open PySem PyProof.Rows L2
section
variable {X:Cx} {g:GE} {m mb:List Md} {e a b o c:Expr} {f fa fb fc:FE} {pos pos':Pos}
open Classical in
def inE (x c:D):Option D:=match c with
 | .lst ds=>if Shp 60 x/\Shp 60 (.lst ds) then some (.bl (ds.any fun y=>eqb y x)) else none
 | _=>none
theorem zgL:∀ds:List D,zcv ds=ds.map toPy
 | []=>by unfold zcv; rfl
 | d::ds=>by unfold zcv; rw [zgL ds]; rfl
def rInE (K:W.Frag):R2:=fun x y H Q=>∃(G:GH) (d:D) (ds:List D),GOk K G H/\RB K G H x d/\RB K G H y (.lst ds)/\Shp 60 d/\Shp 60 (.lst ds)/\Q (.bl (ds.any fun z=>eqb z d)) H
theorem zqg (hu:X.A.units + 64 < cLine):OpR X (compareOp .In) (rInE X.K):=by
 intro pins s σ H x y v u Q I rx ry h
 obtain ⟨G,d,ds,gk,r1,r2,s1,s2,q⟩:=h
 obtain ⟨as,h1⟩:=zdu I gk 60 d x v s1 r1 rx
 obtain ⟨bs,h2⟩:=zdu I gk 60 (.lst ds) y u s2 r2 ry
 have e:toPy (.lst ds)=PyData.list (zcv ds):=by rw [toPy]
 rw [e] at h2
 obtain ⟨c1,c2⟩:=zjs 60 d s1
 obtain ⟨k1,k2⟩:=zgj (k:=59) (zjs 59) ds (zcG.mp s2)
 refine SeqAt.in_list_reads h2 h1 k1 c1 ?_ ⟨.bl _,H,I,rfl,?_⟩
 ·have:min (PyData.depthAll (zcv ds)) (toPy d).depth<=60:=Nat.le_trans (Nat.min_le_right _ _) c2
  omega
 ·rw [zgL,List.any_map]
  exact q
theorem zqO {K:W.Frag}:OpD K (rInE K) inE:=by
 intro G H v1 v2 d1 d2 d Q gk r1 r2 e q
 unfold inE at e
 split at e
 ·rename_i ds
  split at e
  ·rename_i hs
   cases e
   exact ⟨G,d1,ds,gk,r1,r2,hs.1,hs.2,q _ G H (Grow.refl gk) (.scl (.bl _))⟩
  ·cases e
 ·cases e
theorem zrN (hu:X.A.units + 64 < cLine) (ha:SB X g m a fa) (hb:SB X g m b fb) (hm:behindInMarks .In b=false:=by rfl):SQ X g m (.Compare a [.In] [b] pos) (fTest (f2 fa fb inE)):=zgo (zqg hu) zqO ha hb hm
end
end DL
namespace DL
open PySem PySem.Spec PyProof.Rows L2
def BIG:Nat:=2 ^ 2000
def zmw (i j:Int):Prop:=i.natAbs < BIG/\j.natAbs < BIG
def zrp (_i j:Int):Prop:=0 < j/\j.natAbs < BIG
instance decMulW (i j:Int):Decidable (zmw i j):=by unfold zmw; infer_instance
instance decDivW (i j:Int):Decidable (zrp i j):=by unfold zrp; infer_instance
theorem zk7 {i:Int} (h:i.natAbs < BIG):Builtin.Int.intBits i<=2000:=by
 unfold Builtin.Int.intBits
 split
 ·exact Nat.zero_le _
 ·rename_i z
  have h0:i.natAbs≠0:=fun e=>z (by rw [Int.natAbs_eq_zero.mp e]; rfl)
  have:=(Nat.log2_lt h0).mpr h
  omega
theorem zmw.ok {i j:Int} (h:zmw i j):IntMulOk i j:=by
 have h1:=zk7 h.1
 have h2:=zk7 h.2
 unfold IntMulOk
 have e:Builtin.Int.intTooBig ((Builtin.Int.intBits i:Int) + (Builtin.Int.intBits j:Int))=false:=by
  unfold Builtin.Int.intTooBig
  have:((bitsLine:Nat):Int)=134217728:=by decide +kernel
  exact decide_eq_false (by omega)
 rw [e]; simp
section
variable {X:Cx} {g:GE} {m:List Md} {e a b c o:Expr} {es:List Expr} {f fa fb fc fo:FE} {fl:Rho->Res (List D)} {pos p apos cpos:Pos}
theorem zjy {x:Str} {i:Int} (hg:Gl X x) (hk:∃t,X.mg x=some (.int i t)) (hd:(x == ("__debug__" : Str))=false:=by decide):SE X g m (.Name x pos) fun _=>.ok (.int i):=by
 obtain ⟨t,hm⟩:=hk
 exact zmD (v:=.int i) hg hm ⟨t,rfl⟩ (.int i) hd
theorem zst {K:W.Frag} {h:Heap} {mg:Str->Option Value} {x:Str} (KX:K.In h) (G:h.Ns mainGlobals mg) {i:Int} {t:Tok} (z:W.nsIn K mainGlobals x=some (some (.int i t))):∃t,mg x=some (.int i t):=⟨t,W.mg_of KX G z⟩
end
section
variable {X:Cx} {g:GE} {m m' m1 mb:List Md} {tg e a b c iter:Expr} {f fa fb:FE} {p:FQ} {pos pos':Pos} {ro:Bool} {fl:Rho->Res (List D)} {sts:List Stmt} {s1:FS}
def addG (g:GE) (a:Addr) (d:D) (u:HO):GE:=⟨gset g.gh a d,upd g.h0 a u,g.hd⟩
theorem SI.up {r:Rho} {G:GH} {st:L2.St} {H:Hp} {a:Addr} {d:D} {u:HO} (s:SI X g m r G st H) (hG:G a=some d) (hH:H a=some u):SI X (addG g a d u) m r G st H where
 gok:=s.gok
 old:=fun b o e=>by
  by_cases hb:b=a
  ·subst hb
   have e':upd g.h0 b u b=some o:=e
   rw [zam] at e'; cases e'; exact hH
  ·have e':upd g.h0 a u b=some o:=e
   rw [zal hb] at e'; exact s.old b o e'
 ge:=fun b x e=>by
  by_cases hb:b=a
  ·subst hb
   have e':gset g.gh b d b=some x:=e
   rw [zaq] at e'; cases e'; exact hG
  ·have e':gset g.gh a d b=some x:=e
   rw [zaV hb] at e'; exact s.ge b x e'
 gf:=fun b h=>by
  show G b=gset g.gh a d b
  by_cases hb:b=a
  ·subst hb; rw [zaq]; exact hG
  ·rw [zaV hb]
   exact s.gf b fun z=>h (show upd g.h0 a u b=none by rw [zal hb]; exact z)
 lm:=s.lm
 lr:=s.lr
 sh:=s.sh
 ow:=fun i x h1 h2=>by
  obtain ⟨c,q1,q2,q3⟩:=s.ow i x h1 h2
  refine ⟨c,q1,q2,?_⟩
  have hc:c≠a:=by rintro rfl; rw [q2.un] at hG; cases hG
  show upd g.h0 a u c=none
  rw [zal hc]; exact q3
 bw:=fun i x h1 h2=>by
  obtain ⟨v,q1,q2⟩:=s.bw i x h1 h2
  refine ⟨v,q1,?_⟩
  rcases q2 with q2 | ⟨c,e,q2,q3⟩
  ·exact .inl q2
  ·refine .inr ⟨c,e,q2,?_⟩
   have hc:c≠a:=by rintro rfl; rw [q2.un] at hG; cases hG
   show upd g.h0 a u c≠none
   rw [zal hc]; exact q3
 dis:=s.dis
 lk:=s.lk
structure Had (g:GE) (a:Addr) (d:D) (u:HO):Prop where
 h0:∀o,g.h0 a=some o->o=u
 gh:∀x,g.gh a=some x->x=d
 gf:g.h0 a≠none->g.gh a=some d
def repD:D->D->Option D
 | .lst ds,.int k=>if -(2 ^ 62)<=k/\k < 2 ^ 62/\ds.length * k.toNat<=sizeLine then some (.lst ((List.replicate k.toNat ds).flatten)) else none
 | _,_=>none
theorem zpD {K:W.Frag} {G:GH} {xs:List V} {ds:List D} (r:RGs K G xs ds):∀n:Nat,RGs K G (List.replicate n xs).flatten (List.replicate n ds).flatten
 | 0=>.nil
 | n + 1=>by
  rw [List.replicate_succ,List.replicate_succ,List.flatten_cons,List.flatten_cons]
  exact DL.Paired.app r (zpD r n)
theorem zqn (ha:SO X g m a fa) (hb:SB X g m b fb):SO X g m (.BinOp a .Mult b pos) (f2 fa fb repD):=by
 refine PE.imp (zp0 zqb ha hb) fun σ H Q ⟨r,G,si,q⟩=>⟨r,G,si,zag (zaf q) fun d1 q1 p1 G1 H1 w1 hn1 o1=>⟨r,G1,si.grow w1,zaD (zaf q1) w1 fun d2 q2 v2 G2 H2 w2 r2=>?_⟩⟩
 obtain ⟨d,e,q3⟩:=zaw q2
 have o2:=o1.mono w2
 unfold repD at e
 split at e
 ·split at e
  ·rename_i ds k hk
   cases e
   cases o2.ob with
   | @lst xs _ hx rs=>
    have hl:=Paired.length rs
    refine ⟨p1,k,xs,rfl,r2.int w2.ok,hx,by omega,by omega,by rw [hl]; exact hk.2.2,fun p hp=>?_⟩
    have w3:=Grow.new w2.ok hp (.lst (List.replicate k.toNat xs).flatten)
    refine q3 p G2 _ ((w1.trans w2).trans w3) ?_ ⟨w2.ok.isN hp,.lst zam (zpD rs _)⟩
    cases e:H p with
    | none=>rfl
    | some o=>rw [(w1.trans w2).he _ _ e] at hp; cases hp
  ·cases e
 ·cases e
end
def zft (g:GE) (H:Hp) (fp:List Addr) (i:Nat) (p:Addr):GE:=
 ⟨g.gh,fun b=>if b∈fp then H b else g.h0 b,fun j=>if j=i then some (some (V.ref p),none) else g.hd j⟩
def RowR (K:W.Frag) (G:GH) (H:Hp) (b:Addr) (ds:List D):Prop:=∃xs,H b=some (.lst xs)/\RGs K G xs ds
structure LRw (K:W.Frag) (G:GH) (H:Hp) (p:Addr) (as:List Addr) (w:List (List D)):Prop where
 out:H p=some (.lst (as.map V.ref))
 nd:(p::as).Nodup
 un:∀b∈p::as,G b=none
 rw:Paired (RowR K G H) as w
theorem RowR.mono {K:W.Frag} {G G':GH} {H H':Hp} {b:Addr} {ds:List D} (h:RowR K G H b ds) (ge:Gle G G') (he:H' b=H b):RowR K G' H' b ds:=by
 obtain ⟨xs,h1,h2⟩:=h
 exact ⟨xs,by rw [he]; exact h1,h2.mono ge⟩
theorem zin {α β:Type} {F F':α->β->Prop} {l:List α} {r:List β} (h:Paired F l r) (f:∀a∈l,∀b,F a b->F' a b):Paired F' l r:=by
 induction h with
 | nil=>exact .nil
 | cons h _ ih=>exact .cons (f _ List.mem_cons_self _ h) (ih fun a ha=>f a (List.mem_cons_of_mem _ ha))
theorem LRw.isS {K:W.Frag} {G:GH} {H:Hp} {p:Addr} {as:List Addr} {w:List (List D)} (h:LRw K G H p as w) {b:Addr} (hb:b∈p::as):H b≠none:=by
 rcases List.mem_cons.mp hb with rfl | hb
 ·rw [h.out]; simp
 ·have:∀{as:List Addr} {w:List (List D)},Paired (RowR K G H) as w->b∈as->H b≠none:=fun {as w} q hb=>by
   induction q with
   | nil=>cases hb
   | cons r _ ih=>
    rcases List.mem_cons.mp hb with rfl | hb
    ·obtain ⟨xs,e,_⟩:=r; rw [e]; simp
    ·exact ih hb
  exact this h.rw hb
theorem LRw.mono {K:W.Frag} {G G':GH} {H H':Hp} {p:Addr} {as:List Addr} {w:List (List D)} (h:LRw K G H p as w) (ge:Gle G G') (he:∀b∈p::as,H' b=H b) (un:∀b∈p::as,G' b=none):LRw K G' H' p as w:=
 ⟨by rw [he p List.mem_cons_self]; exact h.out,h.nd,un,zin h.rw fun b hb ds r=>r.mono ge (he b (List.mem_cons_of_mem _ hb))⟩
def SI2 (X:Cx) (g:GE) (i:Nat) (m:List Md) (r:Rho) (w:List (List D)) (G:GH) (st:L2.St) (H:Hp):Prop:=
 ∃p as,LRw X.K G H p as w/\(∀b∈p::as,g.h0 b=none)/\SI X (zft g H (p::as) i p) m r G st H/\m[i]? = some .bw
section
variable {X:Cx} {g:GE} {i:Nat} {m m' m1:List Md} {r r':Rho} {w:List (List D)} {G G':GH} {σ σ':L2.St} {H H':Hp}
abbrev FS2:=Rho->List (List D)->Option (Rho × List (List D))
variable {st:Stmt} {sts:List Stmt} {ro:Bool} {mb:List Md} {s1:FS} {f1 f2:FS2} {tg iter:Expr} {pos:Pos}
theorem zoy {K:W.Frag} {H:Hp}:∀{as:List Addr} {w:List (List D)} {G:GH},GOk K G H->Paired (RowR K G H) as w->as.Nodup->(∀b∈as,G b=none)->∃G',Gle G G'/\(∀b,b∉as->G' b=G b)/\GOk K G' H/\Paired (fun b ds=>G' b=some (.lst ds)) as w:=by
 intro as
 induction as with
 | nil=>
  intro w G gk h _ _
  cases h
  exact ⟨G,Gle.refl G,fun _ _=>rfl,gk,.nil⟩
 | cons b as ih=>
  intro w G gk h nd un
  cases h with
  | @cons _ ds _ w r t=>
   rw [List.nodup_cons] at nd
   have hb:=un b List.mem_cons_self
   obtain ⟨xs,e,rs⟩:=r
   have g1:GOk K (gset G b (.lst ds)) H:=gk.gset hb (.lst (.inl e) rs)
   obtain ⟨G',l,o,g,q⟩:=ih g1 (zin t fun c hc ds r=>r.mono (zbc hb) rfl) nd.2 fun c hc=>by
    rw [zaV (by rintro rfl; exact nd.1 hc)]; exact un c (List.mem_cons_of_mem _ hc)
   refine ⟨G',Gle.trans (zbc hb) l,fun c hc=>?_,g,.cons (l _ _ zaq) q⟩
   rw [o c fun z=>hc (List.mem_cons_of_mem _ z),zaV (by rintro rfl; exact hc List.mem_cons_self)]
theorem zj1 {G:GH} {as:List Addr} {w:List (List D)} {b:Addr} (hb:b∈as) (q:Paired (fun b ds=>G b=some (.lst ds)) as w):∃ds,G b=some (.lst ds):=by
 induction q with
 | nil=>cases hb
 | cons h _ ih=>
  rcases List.mem_cons.mp hb with rfl | hb
  ·exact ⟨_,h⟩
  ·exact ih hb
theorem ziu {fp:List Addr} {p:Addr} {d0:D} (si:SI X (zft g H fp i p) m r G σ H) (hm:m[i]? = some .bw) (h0:∀b∈fp,g.h0 b=none) (hS:∀b∈fp,H b≠none) (hb:∀j,j≠i->m[j]?≠some .bw) (le:Gle G G') (g2:GOk X.K G' H) (out:∀b,b∉fp->G' b=G b) (hd:G' p=some d0) :
  SI X g (m.set i .sh) (r.set i (some d0)) G' σ H:=by
 have hlt:i < m.length:=(List.getElem?_eq_some_iff.mp hm).1
 have hst:σ[i]? = some (some (V.ref p)):=(si.lk i (some (V.ref p),none) (by show (if i=i then _ else _)=_; rw [if_pos rfl]) hm).1
 have h0':∀b,b∉fp->(zft g H (fp) i p).h0 b=g.h0 b:=fun b hb=>by show (if b∈fp then H b else g.h0 b)=_; rw [if_neg hb]
 have h0i:∀b,b∈fp->(zft g H (fp) i p).h0 b≠none:=fun b hb=>by show (if b∈fp then H b else g.h0 b)≠_; rw [if_pos hb]; exact hS b hb
 have nin:∀b,g.h0 b≠none->b∉fp:=fun b h z=>h (h0 b z)
 have mne:∀{j x},i≠j->(m.set i .sh)[j]? = some x->m[j]? = some x:=fun hij h=>by rw [List.getElem?_set_ne hij] at h; exact h
 refine ⟨g2,fun a o e=>?_,fun a d e=>le a d (si.ge a d e),fun a h=>?_,by simpa using si.lm,by simpa using si.lr,fun j d h1 h2=>?_,fun j d h1 h2=>?_,fun j d h1 h2=>?_,fun j k a d e hjk h1 h2 m1 m2 z1 z2=>?_,fun j o hj hm'=>?_⟩
 ·exact si.old a o (by rw [h0' a (nin a (by rw [e]; simp))]; exact e)
 ·have hn:=nin a h
  rw [out a hn]
  exact si.gf a (by rw [h0' a hn]; exact h)
 ·by_cases hij:i=j
  ·subst hij
   rw [List.getElem?_set_self (by rw [si.lr,<-si.lm]; exact hlt)] at h1
   cases h1
   exact ⟨_,hst,.ref hd⟩
  ·rw [List.getElem?_set_ne hij] at h1
   obtain ⟨v,y1,y2⟩:=si.sh j d h1 (mne hij h2)
   exact ⟨v,y1,y2.mono le⟩
 ·by_cases hij:i=j
  ·subst hij; rw [List.getElem?_set_self hlt] at h2; cases h2
  ·rw [List.getElem?_set_ne hij] at h1
   obtain ⟨a,y1,y2,y3⟩:=si.ow j d h1 (mne hij h2)
   have hn:a∉fp:=fun z=>h0i a z y3
   exact ⟨a,y1,⟨by rw [out a hn]; exact y2.un,y2.ob.mono le fun _ z=>z⟩,by rw [<-h0' a hn]; exact y3⟩
 ·by_cases hij:i=j
  ·subst hij; rw [List.getElem?_set_self hlt] at h2; cases h2
  ·exact absurd (mne hij h2) (hb j (Ne.symm hij))
 ·have hij:i≠j:=by rintro rfl; rw [List.getElem?_set_self hlt] at m1; cases m1
  have hik:i≠k:=by rintro rfl; rw [List.getElem?_set_self hlt] at m2; cases m2
  rw [List.getElem?_set_ne hij] at h1
  rw [List.getElem?_set_ne hik] at h2
  exact si.dis j k a d e hjk h1 h2 (mne hij m1) (mne hik m2) z1 z2
 ·by_cases hij:i=j
  ·subst hij; rw [List.getElem?_set_self hlt] at hm'; cases hm'
  ·exact absurd (mne hij hm') (hb j (Ne.symm hij))
theorem SI2.frz (s:SI2 X g i m r w G σ H) (hb:∀j,j≠i->m[j]?≠some .bw):∃G',Gle G G'/\(∀b d,G b=none->G' b=some d->∃ds,d=.lst ds)/\SI X g (m.set i .sh) (r.set i (some (.lst (w.map D.lst)))) G' σ H:=by
 obtain ⟨p,as,R,h0,si,hm⟩:=s
 have nd:=List.nodup_cons.mp R.nd
 obtain ⟨G1,l1,o1,g1,q1⟩:=zoy si.gok R.rw nd.2 fun b hb=>R.un b (List.mem_cons_of_mem _ hb)
 have hp1:G1 p=none:=by rw [o1 p nd.1]; exact R.un p List.mem_cons_self
 have rs:RGs X.K G1 (as.map V.ref) (w.map D.lst):=by
  have:∀{as:List Addr} {w:List (List D)},Paired (fun b ds=>G1 b=some (.lst ds)) as w->RGs X.K G1 (as.map V.ref) (w.map D.lst):=fun {as w} q=>by
   induction q with
   | nil=>exact .nil
   | cons h _ ih=>exact .cons (.ref h) ih
  exact this q1
 have g2:GOk X.K (gset G1 p (.lst (w.map D.lst))) H:=g1.gset hp1 (.lst (.inl R.out) rs)
 have le:Gle G (gset G1 p (.lst (w.map D.lst))):=Gle.trans l1 (zbc hp1)
 have out:∀b,b∉p::as->gset G1 p (.lst (w.map D.lst)) b=G b:=fun b hb=>by
  rw [zaV (by rintro rfl; exact hb List.mem_cons_self),o1 b fun z=>hb (List.mem_cons_of_mem _ z)]
 refine ⟨_,le,fun b d hn e=>?_,ziu si hm h0 (fun b hb=>R.isS hb) hb le g2 out zaq⟩
 by_cases hbp:b=p
 ·subst hbp; rw [zaq] at e; cases e; exact ⟨_,rfl⟩
 ·rw [zaV hbp] at e
  by_cases hba:b∈as
  ·obtain ⟨ds,e1⟩:=zj1 hba q1
   rw [e1] at e; cases e; exact ⟨_,rfl⟩
  ·rw [o1 b hba,hn] at e; cases e
end
def RO (K:W.Frag) (H2:Hp) (p:Addr) (G:GH) (H:Hp) (ws:List V) (ds:List D):Prop:=Paired (fun v d=>∃b,v=V.ref b/\H2 b=none/\b≠p/\Own K G H b d) ws ds/\ws.Nodup
section
variable {K:W.Frag} {H2:Hp} {p:Addr} {G G':GH} {H H':Hp} {ws:List V} {ds:List D}
theorem RO.upd {o:HO} (h:RO K H2 p G H ws ds):RO K H2 p G (L2.upd H p o) ws ds:=
 ⟨Paired.mono (fun v d ⟨b,e,h1,h2,h3⟩=>⟨b,e,h1,h2,h3.un,h3.ob.mono (fun _ _ z=>z) fun _ z=>by rw [zal h2]; exact z⟩) h.1,h.2⟩
end
section
variable {X:Cx} {g:GE} {i:Nat} {m m' m1:List Md} {r r':Rho} {w:List (List D)} {G G':GH} {σ σ':L2.St} {H H':Hp}
theorem SI.row {p:Addr} {as:List Addr} (R:LRw X.K G H p as w) (si:SI X (zft g H (p::as) i p) m r G σ H) (hm:m[i]? = some .bw) (hb:∀j,j≠i->m[j]?≠some .bw) {b:Addr} (hbm:b∈p::as) (o:HO):SI X (zft g (upd H b o) (p::as) i p) m r G σ (upd H b o):=by
 have un:=R.un b hbm
 have h0':∀c,c∉p::as->(zft g H (p::as) i p).h0 c=g.h0 c:=fun c hc=>by show (if c∈p::as then H c else g.h0 c)=_; rw [if_neg hc]
 have h0i:∀c,c∈p::as->(zft g H (p::as) i p).h0 c=H c:=fun c hc=>by show (if c∈p::as then H c else g.h0 c)=_; rw [if_pos hc]
 have k0':∀c,c∉p::as->(zft g (upd H b o) (p::as) i p).h0 c=g.h0 c:=fun c hc=>by show (if c∈p::as then _ else g.h0 c)=_; rw [if_neg hc]
 have k0i:∀c,c∈p::as->(zft g (upd H b o) (p::as) i p).h0 c=upd H b o c:=fun c hc=>by show (if c∈p::as then upd H b o c else g.h0 c)=_; rw [if_pos hc]
 refine ⟨fun c d e=>?_,fun c u e=>?_,si.ge,fun c h=>?_,si.lm,si.lr,si.sh,fun j d h1 h2=>?_,fun j d h1 h2=>?_,si.dis,si.lk⟩
 ·have hc:c≠b:=by rintro rfl; rw [un] at e; cases e
  exact (si.gok c d e).mono (fun _ _ z=>z) fun u z=>by rw [zal hc]; exact z
 ·by_cases hc:c∈p::as
  ·rw [k0i c hc] at e; exact e
  ·rw [k0' c hc] at e
   have hcb:c≠b:=by rintro rfl; exact hc hbm
   rw [zal hcb]
   exact si.old c u (by rw [h0' c hc]; exact e)
 ·by_cases hc:c∈p::as
  ·exact si.gf c (by rw [h0i c hc]; exact R.isS hc)
  ·rw [k0' c hc] at h
   exact si.gf c (by rw [h0' c hc]; exact h)
 ·obtain ⟨a,q1,q2,q3⟩:=si.ow j d h1 h2
  have ha:a∉p::as:=fun z=>by rw [h0i a z] at q3; exact R.isS z q3
  have hab:a≠b:=by rintro rfl; exact ha hbm
  rw [h0' a ha] at q3
  exact ⟨a,q1,⟨q2.un,q2.ob.mono (fun _ _ z=>z) fun u z=>by rw [zal hab]; exact z⟩,by rw [k0' a ha]; exact q3⟩
 ·by_cases hj:j=i
  ·subst hj
   have:=(si.lk j (some (V.ref p),none) (by show (if j=j then _ else _)=_; rw [if_pos rfl]) hm).2 d h1
   cases this
  ·exact absurd h2 (hb j hj)
variable {ro:Bool} {mb:List Md} {pos p1 p2 p3 p4 p5 p6 p7 p8 p9 p10 p11:Pos} {x xa xb:Str} {jc:Nat}
end
def lessA (H:Hp) (a:Addr):Hp:=fun b=>if b=a then none else H b
theorem zl0 {H:Hp} {a b:Addr} (h:b≠a):lessA H a b=H b:=if_neg h
theorem Grow.lessA {K:W.Frag} {G G' G2:GH} {H H' H2:Hp} {a:Addr} (w:Grow K G H G' H') (ha:H a=none) (w2:Grow K G' (lessA H' a) G2 H2):Grow K G H G2 H2:=by
 have ne:∀b,H b≠none->b≠a:=fun b h=>by rintro rfl; exact h ha
 have he:∀b o,H b=some o->DL.lessA H' a b=some o:=fun b o e=>by rw [zl0 (ne b (by rw [e]; simp))]; exact w.he b o e
 refine ⟨w2.ok,fun b o e=>w2.he b o (he b o e),fun b d e=>w2.ge b d (w.ge b d e),fun b h=>?_⟩
 rw [w2.gf b ?_,w.gf b h]
 cases e:H b with
 | none=>exact absurd e h
 | some o=>rw [he b o e]; simp
def spV (K:W.Frag) (ro:Bool) (ms:List Md) (F:List D->Res D):Sp:=fun vs H Q _=>∃G us a ds d,GOk K G H/\vs=us++[V.ref a]/\ArgsOk K G H ms us ds/\Own K G H a d /\
 fin (F (ds++[d])) (fun d'=>∀v G' H',Grow K G (lessA H a) G' H'->RV ro K (lessA H a) G' H' v d'->Q v H') fun _=>False
section
variable {P:Program} {w:World} {K:W.Frag} {mg:Str->Option Value} {base:Heap}
structure CalleeV (P:Program) (w:World) (K:W.Frag) (mg:Str->Option Value) (base:Heap) (x:Str) (ps:List Str) (k:Nat) (ro:Bool) (ms:List Md) (F:List D->Res D):Prop where
 ex:∃f fd,mg x=some (.ref f)/\W.keepIn K (.ref f)=true/\zdB K fd ps []/\FnOk P w K mg base CX0 k f fd ps (spV K ro ms F)
end
def zkF:List D->Option D
 | [.bl b]=>some (.int (if b then 1 else 0))
 | _=>none
theorem zk5 {X:Cx}:zds X (.type "int") (fun xs H Q=>∃b:Bool,xs=[.bl b]/\Q (.int (if b then 1 else 0)) H):=by
 intro pins s σ H xs us Q I r h
 obtain ⟨b,rfl,q⟩:=h
 obtain ⟨u,rfl,rx⟩:=zeR r
 cases rx
 exact call_int_bool ⟨.int (if b then 1 else 0),H,I.tok _,⟨_,rfl⟩,q⟩
theorem zot {K:W.Frag}:zlc K (fun xs H Q=>∃b:Bool,xs=[.bl b]/\Q (.int (if b then 1 else 0)) H) zkF:=by
 intro G H vs ds d Q gk rs e q
 unfold zkF at e
 split at e
 ·cases e
  cases rs with
  | cons r1 t=>
   cases t
   exact ⟨_,by rw [r1.bl gk],q _ G H (Grow.refl gk) (.scl (.int _))⟩
 ·cases e
theorem zpq {X:Cx} {g:GE} {m:List Md} {e:Expr} {es:List Expr} {fl:Rho->Res (List D)} {pos p:Pos} (hg:Gl X "int") (hm:X.mg "int" = none) (ha:SAB X g m (e::es) fl) (he:starEach (e::es) X.env=(false,eval e X.env)::starEach es X.env:=by rfl) (hpl:(backTo pos (starEach es X.env)).any (·.1)=false:=by rfl) :
  SE X g m (.Call (.Name "int" p) (e::es) [] pos) (fC fl zkF):=s_cb zot (zed zk5 hg hm rfl ha (by decide) (by decide) he hpl)
def insI (x:Int):List Int->List Int
 | []=>[x]
 | y::l=>if x<=y then x::y::l else y::insI x l
def srtI:List Int->List Int
 | []=>[]
 | x::l=>insI x (srtI l)
theorem zfs (x:Int):∀l:List Int,(insI x l).Perm (x::l)
 | []=>.refl _
 | y::l=>by
  unfold insI
  by_cases h:x<=y
  ·rw [if_pos h]
  ·rw [if_neg h]; exact ((zfs x l).cons y).trans (.swap x y l)
theorem zdb:∀l:List Int,(srtI l).Perm l
 | []=>.refl _
 | x::l=>(zfs x (srtI l)).trans ((zdb l).cons x)
theorem zkH (x:Int):∀l:List Int,l.Pairwise (·<=·)->(insI x l).Pairwise (·<=·)
 | [],_=>by unfold insI; simp
 | y::l,h=>by
  rw [List.pairwise_cons] at h
  unfold insI
  by_cases hx:x<=y
  ·rw [if_pos hx,List.pairwise_cons,List.pairwise_cons]
   refine ⟨fun z hz=>?_,h⟩
   rcases List.mem_cons.mp hz with rfl | hz
   ·exact hx
   ·exact Int.le_trans hx (h.1 z hz)
  ·rw [if_neg hx,List.pairwise_cons]
   refine ⟨fun z hz=>?_,zkH x l h.2⟩
   rcases List.mem_cons.mp ((zfs x l).mem_iff.mp hz) with rfl | hz
   ·omega
   ·exact h.1 z hz
theorem zhv:∀l:List Int,(srtI l).Pairwise (·<=·)
 | []=>.nil
 | x::l=>zkH x _ (zhv l)
theorem znd:∀{a b:List Int},a.Perm b->a.Pairwise (·<=·)->b.Pairwise (·<=·)->a=b
 | [],b,p,_,_=>(List.nil_perm.mp p).symm
 | x::a,[],p,_,_=>absurd (List.perm_nil.mp p) (by simp)
 | x::a,y::b,p,ha,hb=>by
  rw [List.pairwise_cons] at ha hb
  have h1:y<=x:=by
   rcases List.mem_cons.mp (p.mem_iff.mp List.mem_cons_self) with e | e
   ·omega
   ·exact hb.1 x e
  have h2:x<=y:=by
   rcases List.mem_cons.mp (p.mem_iff.mpr List.mem_cons_self) with e | e
   ·omega
   ·exact ha.1 y e
  have e:x=y:=by omega
  subst e
  rw [znd (List.Perm.cons_inv p) ha.2 hb.2]
section
variable {X:Cx} {pins:List (Addr × Obj)} {σ:L2.St} {H:Hp} {s:Shared}
theorem zho:zds X (.builtin "sorted") (fun xs H Q=>∃p ks,xs=[.ref p]/\SqL X.K H p (ks.map V.int)/\ks.length < 64/\∀l,H l=none->Q (.ref l) (upd H l (.lst ((srtI ks).map V.int)))):=by
 intro pins s σ H xs us Q I r h
 obtain ⟨p,ks,rfl,hq,h64,q⟩:=h
 obtain ⟨u,rfl,rx⟩:=zeR r
 cases rx
 obtain ⟨its,rv,pl,hz⟩:=I.list hq
 have ia:IntsAre its ks:=by simpa using zi6 rv
 obtain ⟨mF,F⟩:=I.fr
 refine W.kso_sorted F (zlV (g:=X.base) (h:=s.heap) (L:=X.env.locals)) pl.isList ia h64 fun D vs' ns' c h' F' N' hlt iv hln hpm hup _=>?_
 have hDs:s.heap.get? D=none:=by
  cases z:s.heap.get? D with
  | none=>rfl
  | some o=>
   have zn:=(N' _ (List.mem_cons_self)).2
   exact absurd (hlt (D,o) (zfk zn.1 zn.2 z)) (Nat.lt_irrefl _)
 have keepN:∀b o,b≠X.env.locals->s.heap.get? b=some o->h'.get? b=some o:=fun b o hb e=>by
  cases z:X.base.get? b with
  | some o'=>
   have:=I.bk b o' z
   rw [e] at this; cases this
   exact F'.keep b o z
  | none=>exact (N' (b,o) (List.mem_cons_of_mem _ (zfk hb z e))).1
 have oD:=(N' _ List.mem_cons_self)
 have e:ns'=srtI ks:=znd (hpm.trans (zdb ks).symm) hup (zhv ks)
 subst e
 refine ⟨.ref D,_,Inv.laidN (t':=_) (its:=vs') I hDs oD.2.1 keepN (fun m hm=>by rw [zoa hm F.ns]; exact F'.ns) oD.1 (ze9 iv) ?_,rfl,q D ?_⟩
 ·rw [List.length_map,hln,sizeLine_eq]; omega
 ·cases z:H D with
  | none=>rfl
  | some u=>exact absurd hDs (zbg.isS (I.hok D u z))
end
def zgQ:List D->Option D
 | [.lst ds]=>(zej ds).bind fun ks=>if ks.length < 64 then some (.lst ((srtI ks).map .int)) else none
 | _=>none
section
variable {X:Cx} {g:GE} {m:List Md} {a b:Expr} {fl:Rho->Res (List D)} {fa fb:FE} {pos p:Pos}
theorem zkf {k:Nat} (hr:Room k X.A) (hg:Gl X "sorted") (hm:X.mg "sorted" = none) (ha:SAB X g m [a] fl) (hs:starEach [a] X.env=(false,eval a X.env)::starEach [] X.env:=by rfl) :
  SO X g m (.Call (.Name "sorted" p) [a] [] pos) (fC fl zgQ):=by
 refine zrI (R:=fun xs H Q=>∃p ks,xs=[.ref p]/\SqL X.K H p (ks.map V.int)/\ks.length < 64/\∀l,H l=none->Q (.ref l) (upd H l (.lst ((srtI ks).map V.int)))) ?_ (zee zho hg hm (by first | exact PyProof.Rows.boot_sorted | rfl) ha (by decide) (by decide) hs rfl)
 intro G H vs ds d Q gk rs e q
 unfold zgQ at e
 split at e
 ·rename_i zs
  cases ek:zej zs with
  | none=>rw [ek] at e; cases e
  | some ks=>
   rw [ek] at e
   have e':(if ks.length < 64 then some (D.lst ((srtI ks).map .int)) else none)=some d:=e
   by_cases h64:ks.length < 64
   ·rw [if_pos h64] at e'
    cases e'
    cases rs with
    | cons r1 t=>
     cases t
     obtain ⟨b,xs,rfl,s,r⟩:=r1.lst gk
     have ex:=zms gk r ek
     subst ex
     refine ⟨b,ks,rfl,s,h64,fun l hl'=>q l G _ (Grow.new gk hl' _) hl' ⟨gk.isN hl',.lst zam ?_⟩⟩
     have:∀l:List Int,RGs X.K G (l.map V.int) (l.map D.int):=fun l=>by
      induction l with
      | nil=>exact .nil
      | cons x l ih=>exact .cons (.scl (.int x)) ih
     exact this _
   ·rw [if_neg h64] at e'; cases e'
 ·cases e
end
inductive Cln:D->Prop where
 | non:Cln .non
 | bl (b:Bool):Cln (.bl b)
 | int (i:Int):Cln (.int i)
 | str (x:Str):Cln (.str x)
 | tup {ds:List D}:(∀d∈ds,Cln d)->Cln (.tup ds)
theorem Cln.lst {ds:List D} (h:Cln (.lst ds)):False:=nomatch h
theorem Cln.dic {ds:List (Key × D)} (h:Cln (.dic ds)):False:=nomatch h
theorem Cln.get {ds:List D} (h:Cln (.tup ds)):∀d∈ds,Cln d:=by
 cases h with
 | tup h=>exact h
structure TL (K:W.Frag) (G:GH) (H:Hp) (p a:Addr) (d1:D) (ds:List D):Prop where
 tp:∃x xs,H p=some (.tup [x,.ref a])/\RG K G x d1/\H a=some (.lst xs)/\RGs K G xs ds
 un:∀b∈[p,a],G b=none
 ne:p≠a
theorem TL.isS {K:W.Frag} {G:GH} {H:Hp} {p a:Addr} {d1:D} {ds:List D} (t:TL K G H p a d1 ds):∀b∈[p,a],H b≠none:=fun b hb=>by
 obtain ⟨x,xs,h1,_,h2,_⟩:=t.tp
 rcases List.mem_cons.mp hb with rfl | hb
 ·rw [h1]; simp
 ·rw [List.mem_singleton.mp hb,h2]; simp
def RW (K:W.Frag) (H0:Hp) (G:GH) (H:Hp) (v:V) (d:D):Prop:=∃p a d1 ds,v=.ref p/\d=.tup [d1,.lst ds]/\(∀b∈[p,a],H0 b=none)/\TL K G H p a d1 ds
def spW (K:W.Frag) (ms:List Md) (F:List D->Res D):Sp:=fun vs H Q _=>∃G ds,GOk K G H/\ArgsOk K G H ms vs ds/\fin (F ds) (fun d=>∀v G' H',Grow K G H G' H'->RW K H G' H' v d->Q v H') fun _=>False
abbrev FW:=Rho->Res D
section
variable {P:Program} {w:World} {K:W.Frag} {mg:Str->Option Value} {base:Heap}
structure CalleeW (P:Program) (w:World) (K:W.Frag) (mg:Str->Option Value) (base:Heap) (x:Str) (ps:List Str) (k:Nat) (ms:List Md) (F:List D->Res D):Prop where
 ex:∃f fd,mg x=some (.ref f)/\W.keepIn K (.ref f)=true/\zdB K fd ps []/\FnOk P w K mg base CX0 k f fd ps (spW K ms F)
end
section
variable {X:Cx} {g:GE} {ro:Bool} {i:Nat} {m m' m1 mb ms:List Md} {r r':Rho} {G G':GH} {σ σ':L2.St} {H H':Hp} {e c:Expr} {es:List Expr} {q:FQ} {st:Stmt} {sts sts1:List Stmt} {fl:Rho->Res (List D)} {F:List D->Res D} {k:Nat} {ps:List Str} {pos p1 p2 p3 p4 apos cpos:Pos} {x y:Str} {d1:D} {ds:List D}
def SI3 (X:Cx) (g:GE) (i:Nat) (m:List Md) (r:Rho) (d1:D) (ds:List D) (G:GH) (st:L2.St) (H:Hp):Prop:=
 ∃p a,TL X.K G H p a d1 ds/\(∀b∈[p,a],g.h0 b=none)/\SI X (zft g H [p,a] i p) m r G st H/\m[i]? = some .bw
theorem SI3.frz (s:SI3 X g i m r d1 ds G σ H) (hb:∀j,j≠i->m[j]?≠some .bw):∃G',Gle G G'/\(∀b d,G b=none->G' b=some d->¬ Cln d)/\SI X g (m.set i .sh) (r.set i (some (.tup [d1,.lst ds]))) G' σ H:=by
 obtain ⟨p,a,t,h0,si,hm⟩:=s
 obtain ⟨x,xs,h1,h2,h3,h4⟩:=t.tp
 have ua:=t.un a (List.mem_cons_of_mem _ List.mem_cons_self)
 have up:=t.un p List.mem_cons_self
 have g1:GOk X.K (gset G a (.lst ds)) H:=si.gok.gset ua (.lst (.inl h3) h4)
 have up1:gset G a (.lst ds) p=none:=by rw [zaV t.ne]; exact up
 have g2:GOk X.K (gset (gset G a (.lst ds)) p (.tup [d1,.lst ds])) H:=g1.gset up1 (.tup (.inl h1) (.cons (h2.mono (zbc ua)) (.cons (.ref zaq) .nil)))
 refine ⟨_,Gle.trans (zbc ua) (zbc up1),fun b d hn e hc=>?_,ziu si hm h0 t.isS hb (Gle.trans (zbc ua) (zbc up1)) g2 (fun b hb=>?_) zaq⟩
 ·by_cases hbp:b=p
  ·subst hbp; rw [zaq] at e; cases e
   exact (hc.get _ (List.mem_cons_of_mem _ List.mem_cons_self)).lst
  ·rw [zaV hbp] at e
   by_cases hba:b=a
   ·subst hba; rw [zaq] at e; cases e; exact hc.lst
   ·rw [zaV hba,hn] at e; cases e
 ·rw [zaV (by rintro rfl; exact hb List.mem_cons_self),zaV (by rintro rfl; exact hb (List.mem_cons_of_mem _ List.mem_cons_self))]
end
end DL
section
namespace DL
section
open PySem PyProof.Rows PySem.W PySem.Calls
variable {prog:Program} {w:World} {A:Around} {E:Value->Shared->Prop} {s:Shared} {l:Addr} {vs:List Value} {ns:List Int}
end
open PySem PySem.Spec PyProof.Rows L2
end DL
end
section
namespace DL
section
open PySem PyProof.Rows
variable {prog:Program} {w:World} {A:Around} {R:Result->Shared->Prop} {I S:Addr} {fp wr:List Addr} {n:Nat} {P:Nat->Value->Prop} {St:Nat->Heap->Prop} {TP:Heap->Prop} {bt:Nat->Nat->Bool}
def ziG (wr:List Addr) (S:Addr) (h h':Heap):Prop:=∀b o,b∉wr->b≠S->h.get? b=some o->h'.get? b=some o
theorem ziG.trans {h h1 h2:Heap} (a:ziG wr S h h1) (b:ziG wr S h1 h2):ziG wr S h h2:=fun c o hc hs e=>b c o hc hs (a c o hc hs e)
end
end DL
end
namespace DL
open PySem PySem.Spec PyProof.Rows L2
end DL
namespace DL
open PySem PySem.Spec PyProof.Rows L2 PySem.W PySem.Calls
def spX (K:W.Frag) (ro:Bool) (ms:List Md) (F:List D->Res D):Sp:=fun vs H Q E=>∃G ds,GOk K G H/\ArgsOk K G H ms vs ds /\
 fin (F ds) (fun d=>∀v G' H',Grow K G H G' H'->RV ro K H G' H' v d->Q v H') fun x=>∀C od nm fs G' H',x=xD nm fs->XN K nm C->XF G' od fs->Grow K G H G' H'->E (.ref C) od H'
section
variable {X:Cx} {k:Nat} {f:Addr} {fd:FuncData} {ps:List Str} {sp:Sp} {dvs:List V} {ds:List Value} {x:Str} {p pos:Pos} {e:Expr} {es:List Expr} {t:TA}
def zrm (X:Cx) (σ:L2.St) (H:Hp) (E:XK):Prop:=∀pins s a cls od H' s',Inv X pins σ H s->Fly X.prog X.w X.stack H s H' a cls od s'->E cls od H'->X.xe (.ref a) s'
theorem znB {pins:List (Addr × Obj)} {σ:L2.St} {H:Hp} {s:Shared} {Q:VK} {E:XK} {us:List Value} {vs:List V} (F:FnOk X.prog X.w X.K X.mg X.base (CXR X.prog X.w) k f fd ps sp) (hr:Room k X.A) (hb:zdB X.K fd ps ds) (hd:Vals dvs ds)
  (I:Inv X pins σ H s) (hx:zrm X σ H E) (r:Vals vs us) (h:sp (vs++dvs) H Q E):wpAny (model X.prog X.w) X.A (call (.ref f) us) (EP X pins σ Q) X.xe s:=by
 have r2:Vals (vs++dvs) (us++ds):=r.append hd
 have hl:(us++ds).length=ps.length:=by rw [<-r2.length]; exact F.len _ _ _ _ h
 refine wpAny_call (codeAny_mono (F.run X.A X.stack s H ⟨us,[]⟩ (us++ds) (vs++dvs) Q E hr I.env0 (hb s us I.kIn hl) r2 h) fun r s' hq=>?_)
 cases r with
 | error e=>
  obtain ⟨a,cls,H',od,rfl,fl,q⟩:=hq
  exact hx pins s a cls od H' s' I fl q
 | ok fl=>
  cases fl with
  | ret u=>exact I.after hq
  | next=>exact False.elim hq
  | brk=>exact False.elim hq
  | cont=>exact False.elim hq
theorem zlP (F:FnOk X.prog X.w X.K X.mg X.base (CXR X.prog X.w) k f fd ps sp) (hr:Room k X.A) (hg:Gl X x) (hm:X.mg x=some (.ref f)) (hk:W.keepIn X.K (.ref f)=true) (hb:zdB X.K fd ps ds) (hd:Vals dvs ds)
  (ha:PA X (e::es) t) (hdb:(x == ("__debug__" : Str))=false:=by decide) (he:starEach (e::es) X.env=(false,eval e X.env)::starEach es X.env:=by rfl) (hpl:(backTo pos (starEach es X.env)).any (·.1)=false:=by rfl) :
  PE X (.Call (.Name x p) (e::es) [] pos) (fun σ H Q=>t σ H fun vs H1=>∃E,sp (vs++dvs) H1 Q E/\zrm X σ H1 E):=by
 intro pins s σ H Q I h
 refine wpAny_Call_Name_kw (zdi I hg hm ?_ hdb)
 refine W.callWith_K (h₀:=X.base) I.ok.mod.kin hk (thn (ha pos pins s σ H _ I h) fun us s1 ⟨vs,H1,I1,r,E,q,px⟩=>⟨I1.kIn,?_⟩) he hpl
 exact znB F hr hb hd I1 px r q
end
section
variable {P:Program} {w:World} {K:W.Frag} {mg:Str->Option Value} {base:Heap}
theorem zoA {x qual:Str} {st:Stmt} {f:Addr} {fd:FuncData} {N ps:List Str} {k:Nat} {ro:Bool} {ms:List Md} {fs:FS} {m':List Md} (F:Fun K x qual st f fd) (S:FnScope N ps (defScope st)) (hms:ms.length=ps.length)
  (hbody:∀(cdv:Value) (A:Around) (outer:List Env) (s:Shared) (H:Hp) (g:GE) (E:XK),Room k (A.deeper (envOfC qual (defScope st) s.heap.objs.size f cdv)) ->
   SSs (cxOf (CXR P w) P w K mg base N qual (defScope st) f cdv A outer s H E) g ro [] (zdC N.length ms) (defBody st) fs m') :
  FnOk P w K mg base (CXR P w) (k + 1) f fd ps (spX K ro ms fun ds=>outR ro (fs (zao N.length ds))):=by
 obtain ⟨oc,od,kV,doc,pm,an,cdv,ct,osl,rfl,lk,hcd⟩:=F.ex
 refine zq6 lk hcd S (fun vs H Q E ⟨G,ds,gk,rs,q⟩=>rs.len.1.trans hms) fun A outer s H vs Q E hr h=>?_
 obtain ⟨G,ds,gk,rs,q⟩:=h
 have hpl:ps.length<=N.length:=by have:=congrArg List.length S.pre; rw [List.length_take] at this; omega
 refine ⟨_,(hbody cdv A outer s H ⟨G,H,fun _=>none⟩ E hr).2,zao N.length ds,G,zgf gk rs (by omega),?_⟩
 replace q:fin (outR ro (fs (zao N.length ds))) _ _:=q
 cases e:fs (zao N.length ds) with
 | nx r'=>
  rw [e] at q
  cases ro with
  | false=>exact fun σ' G' H' _ si=>q .non G' H' si.grown (.scl .non)
  | true=>exact q.elim
 | rt d=>rw [e] at q; exact fun v G' H' wg rv=>q v G' H' wg rv
 | bk r'=>rw [e] at q; exact q.elim
 | ct r'=>rw [e] at q; exact q.elim
 | exc x r'=>
  rw [e] at q
  intro pins ev s' σ' G' H' le si I ex
  obtain ⟨pins1,s1,H1,a,C,od1,nm,fs1,rfl,rfl,xn,xf,I1,fl⟩:=ex
  exact fl.leaves I1 rfl rfl rfl fun s'' fl2=>⟨a,_,H',od1,rfl,fl2,q C od1 nm fs1 G' H' rfl xn xf si.grown⟩
 | stuck=>rw [e] at q; exact q
structure CalleeX (P:Program) (w:World) (K:W.Frag) (mg:Str->Option Value) (base:Heap) (x:Str) (ps:List Str) (ds:List Value) (k:Nat) (ro:Bool) (ms:List Md) (F:List D->Res D):Prop where
 ex:∃f fd,mg x=some (.ref f)/\W.keepIn K (.ref f)=true/\zdB K fd ps ds/\FnOk P w K mg base (CXR P w) k f fd ps (spX K ro ms F)
theorem zgr {x:Str} {st:Stmt} {N ps:List Str} {k:Nat} {ro:Bool} {ms:List Md} {fs:FS} {m':List Md} (A:DefAt K mg x st) (S:FnScope N ps (defScope st)) (hms:ms.length=ps.length)
  (hb:∀(kV doc pm:Value) (an:Option Addr) (cdv ct:Value) (us:List Value),us.length=ps.length->bindArgs (W.fnOf x x (defArgs st) (defBody st) (defScope st) .none kV doc pm an cdv ct) ⟨us,[]⟩=pure (ps.zip us))
  (hbody:∀(f:Addr) (cdv:Value) (A:Around) (outer:List Env) (s:Shared) (H:Hp) (g:GE) (E:XK),Room k (A.deeper (envOfC x (defScope st) s.heap.objs.size f cdv)) ->
   SSs (cxOf (CXR P w) P w K mg base N x (defScope st) f cdv A outer s H E) g ro [] (zdC N.length ms) (defBody st) fs m') :
  CalleeX P w K mg base x ps [] (k + 1) ro ms fun ds=>outR ro (fs (zao N.length ds)):=by
 obtain ⟨f,fd,h1,F⟩:=A.ex
 exact ⟨f,fd,h1,F.kp,F.binds hb,zoA F S hms (hbody f)⟩
end
section
variable {X:Cx} {g:GE} {ro:Bool} {m mb:List Md} {e:Expr} {es:List Expr} {fl:Rho->Res (List D)} {k:Nat} {ps:List Str} {F:List D->Res D} {dvs:List V} {ds:List Value} {dds:List D} {x:Str} {p np pos:Pos} {ms:List Md} {C:Addr}
def zc6 (fl:Rho->Res (List D)) (dds:List D) (F:List D->Res D):FE:=fun r=>(fl r).bind fun ds=>F (ds++dds)
theorem zny (c:CalleeX X.prog X.w X.K X.mg X.base x ps ds k false (ms++List.replicate dds.length .sh) F) (hr:Room k X.A) (hd:Vals dvs ds) (hsc:Paired Scl dvs dds) (ha:SAM X g m (e::es) ms fl) (hg:Gl X x:=by rfl)
  (hdb:(x == ("__debug__" : Str))=false:=by decide) (he:starEach (e::es) X.env=(false,eval e X.env)::starEach es X.env:=by rfl) (hpl:(backTo pos (starEach es X.env)).any (·.1)=false:=by rfl) :
  SE X g m (.Call (.Name x p) (e::es) [] pos) (zc6 fl dds F):=by
 obtain ⟨fa,fd,h1,h2,h3,G1⟩:=c.ex
 refine PE.imp (zlP G1 hr hg h1 h2 h3 hd ha hdb he hpl) fun σ H Q ⟨r,G,si,q⟩=>⟨r,G,si,?_⟩
 cases ez:fl r with
 | ok zs=>
  unfold zc6 at q
  rw [ez] at q
  intro vs G' H' w' rs
  refine ⟨fun cls od H2=>∃C nm fs G2,cls=.ref C/\F (zs++dds)=.exc (xD nm fs)/\XN X.K nm C/\XF G2 od fs/\Grow X.K G' H' G2 H2,⟨G',zs++dds,w'.ok,rs.app hsc,?_⟩,?_⟩
  ·cases ef:F (zs++dds) with
   | ok d=>replace q:fin (F (zs++dds)) _ _:=q; rw [ef] at q; exact fun v G2 H2 w2 rv=>q v G2 H2 (w'.trans w2) rv
   | exc y=>exact fun C od nm fs G2 H2 hy xn xf w2=>⟨C,nm,fs,G2,rfl,by rw [hy],xn,xf,w2⟩
   | stuck=>replace q:fin (F (zs++dds)) _ _:=q; rw [ef] at q; exact q
  ·intro pins s a cls od H2 s' I fl ⟨C,nm,fs,G2,hc,ef,xn,xf,w2⟩
   subst hc
   replace q:fin (F (zs++dds)) _ _:=q
   rw [ef] at q
   exact q pins (.ref a) s' G2 H2 (w'.trans w2) (fl.inv I) ⟨pins,s,H',a,C,od,nm,fs,rfl,rfl,xn,xf,I,fl⟩
 | exc x=>unfold zc6 at q; rw [ez] at q; exact q
 | stuck=>unfold zc6 at q; rw [ez] at q; exact q
def raiF (m:List Md) (nm:Str) (fl:Rho->Res (List D)):FS:=fun r=>onE m r (fl r) fun ds=>if ds.length<=100 then .exc (xD nm []) (forget m r) else .stuck
theorem zjw {nm:Str} (hc:X.calm=true) (c:XC X.K X.mg x C) (xn:XN X.K nm C) (hg:Gl X x) (ha:SA X g m (e::es) fl) (hdb:(x == ("__debug__" : Str))=false:=by decide)
  (he:starEach (e::es) X.env=(false,eval e X.env)::starEach es X.env:=by rfl) (hpl:(backTo p (starEach es X.env)).any (·.1)=false:=by rfl) :
  SS X g ro mb m (.Raise (some (.Call (.Name x np) (e::es) [] p)) none pos) (raiF m nm fl) m:=by
 refine ⟨rfl,fun pins s σ H D I ⟨r,G,si,q⟩=>?_⟩
 refine zlD I hc c hg ha ⟨r,G,si,?_⟩ hdb he hpl
 refine zag (zbs si rfl q) fun ds q vs G' H' w' rs=>?_
 have hl:vs.length=ds.length:=Paired.length rs
 split at q
 ·rename_i h100
  refine ⟨by rw [hl]; exact Nat.le_trans h100 (by decide),fun s1 a s' I1 fl=>?_⟩
  exact q pins (.ref a) s' σ G' H' w'.ge (by have:=(si.grow w').forget; exact this) (fl.inv I1) ⟨pins,s1,H',a,C,none,nm,[],rfl,rfl,xn,rfl,I1,fl⟩
 ·exact q.elim
end
section
variable {M:Model} {A:Around} {E:Value->Shared->Prop} {s:Shared} {nm q nmT qT:Str} {C N T NT:Addr} {bs bm bsT bmT:List Value} {hdct hdctT:Bool} {sn snT:List Str} {sub subT':List Value} {ab abT:Bool} {col colT:Option Bool} {dd ddT:Option Addr} {k0 k1 k2 k3 k5 t0 t1 t2 t3 t5:Option Value} {newId newIdT:String}
theorem zfT {e:Addr} {oe:Obj} {Q:Bool->Shared->Prop} (hC:s.heap.get? C=some (excClassObj nm q C N bs bm hdct sn sub ab col dd k0 k1 k2 k3 k5 newId)) (hT:s.heap.get? T=some (excClassObj nmT qT T NT bsT bmT hdctT snT subT' abT colT ddT t0 t1 t2 t3 t5 newIdT))
  (he:s.heap.get? e=some oe) (hc:oe.cls=.ref C) (hb:bmT.contains (Value.type "BaseException")=true) (hq:Q ((Value.ref C::bm).contains (.ref T)) s):wpAny M A (excMatches (.ref e) (.ref T)) Q E s:=by
 unfold excMatches
 refine wpAny_bind (wpAny_isInstance (T := "type") (b:=false) ⟨_,hT,rfl⟩ (by rw [isSubtype_type]; kernel_rfl) ?_)
 rw [if_neg Bool.false_ne_true]
 refine wpAny_bind (wpAny_pure ?_)
 simp only [List.forIn_cons,List.forIn_nil]
 refine wpAny_bind (wpAny_bind ?_)
 unfold isExcClass isType
 refine wpAny_bind (wpAny_bind (wpAny_bind (wpAny_loadPart hT (wpAny_pure ?_))))
 rw [if_pos rfl]
 obtain ⟨hh,hg,hdr,ht,ho⟩:=s
 refine wpAny_isSubtype_exc hT ?_
 rw [List.contains_cons,hb,Bool.or_true]
 rw [if_neg (by simp)]
 refine wpAny_pure (wpAny_pure ?_)
 refine wpAny_bind ?_
 unfold typeOf
 refine wpAny_bind (wpAny_loadPart he (wpAny_pure ?_))
 rw [hc]
 refine wpAny_bind (wpAny_bind (wpAny_bind (wpAny_isSubtype_exc hC ?_)))
 cases hm:(Value.ref C::bm).contains (Value.ref T) with
 | true=>
  rw [hm] at hq
  rw [if_pos rfl]
  exact wpAny_pure (wpAny_pure (wpAny_pure hq))
 | false=>
  rw [hm] at hq
  rw [if_neg Bool.false_ne_true]
  exact wpAny_pure (wpAny_pure (wpAny_pure hq))
end
section
variable {X:Cx} {pins:List (Addr × Obj)} {σ:L2.St} {H H':Hp} {s s':Shared} {M:Model} {A:Around} {E:Value->Shared->Prop}
theorem Inv.unbind {i:Nat} {n:Str} {h':Heap} {u:Option Value} {m:Str->Option Value} (I:Inv X pins σ H s) (hN:X.N.Nodup) (hi:X.N[i]? = some n) (hm:s.heap.Ns X.env.locals m)
  (hn:h'.Ns X.env.locals fun x=>if x=n then u else m x) (sb:Heap.SameBut X.env.locals s.heap h') (hl:∀x v,m x=some v->True):Inv X pins (σ.set i none) H { heap:=h',gens:=s.gens,drawn:=s.drawn,toks:=s.toks,os:=s.os }:=by
 have nl:∀b o,X.s₀.heap.get? b=some o->b≠X.env.locals:=fun b o e z=>by
  have h1:=Heap.lt_size e
  have h2:=I.ok.above
  rw [z] at h1
  exact absurd h1 (Nat.not_lt.mpr h2)
 have cl:∀{c v},s.heap.IsCell c v->h'.IsCell c v:=fun {c v} hc=>by
  have hne:c≠X.env.locals:=by
   intro z
   obtain ⟨o,e1,e2⟩:=hc
   obtain ⟨o',es,ep,ho,r⟩:=hm
   rw [z,ho] at e1
   cases e1
   rw [r.1] at e2
   cases e2
  obtain ⟨o,e1,e2⟩:=hc
  exact ⟨o,(sb.2 c hne).trans e1,e2⟩
 refine ⟨I.ok,I.os,I.bare,⟨fun b o e n f z=>(sb.2 b (nl b o e)).trans (I.base.keep b o e n f z),fun b o e n f z=>?_,I.base.free,fun b o e z=>?_,I.base.tups,I.base.frzs,I.base.tbls⟩,?_,fun x c hc=>?_,I.free,I.freeC,fun p hp=>?_,fun b o e=>?_,by rw [List.length_set]; exact I.len⟩
 ·obtain ⟨sl,e1⟩:=I.base.slot b o e n f z
  exact ⟨sl,(sb.2 b (nl b o e)).trans e1⟩
 ·obtain ⟨o',e1⟩:=I.base.there b o e z
  exact ⟨o',(sb.2 b (nl b o e)).trans e1⟩
 ·obtain ⟨m0,hm0,lk⟩:=I.loc
  refine ⟨_,hn,fun j x v hj hv vis=>?_⟩
  have hij:i≠j:=by
   rintro rfl
   rw [List.getElem?_set,if_pos rfl] at hv
   split at hv <;> cases hv
  rw [List.getElem?_set_ne hij] at hv
  obtain ⟨w,rw',lo⟩:=lk j x v hj hv vis
  have hxn:x≠n:=by
   rintro rfl
   exact hij ((List.getElem?_inj (List.getElem?_eq_some_iff.mp hi).1 hN).mp (hi.trans hj.symm))
  refine ⟨w,rw',?_⟩
  rcases lo with ⟨k,e⟩ | ⟨k,c,hc,ic⟩
  ·refine .inl ⟨k,?_⟩
   show (if x=n then u else m x)=some w
   rw [if_neg hxn,hm.agree hm0]
   exact e
  ·exact .inr ⟨k,c,hc,cl ic⟩
 ·obtain ⟨v,hv⟩:=I.cell x c hc
  exact ⟨v,cl hv⟩
 ·obtain ⟨p1,p2,p3,p4,p5⟩:=I.pin p hp
  exact ⟨(sb.2 _ p3).trans p1,p2,p3,p4,p5⟩
 ·have hb:∀c u,H c=some u->c≠X.env.locals:=fun c u e z=>by rw [z,I.free] at e; cases e
  refine (I.hok b o e).stay (fun c v hc e1=>(sb.2 c ?_).trans e1) (fun _ z=>z) fun _ _ z=>z
  rcases hc with z | z
  ·rw [z]; exact hb b o e
  ·exact hb c _ z
theorem zjl {i:Nat} {n:Str} {pos:Pos} {v:V} {Q:Unit->Shared->Prop} (I:Inv X pins σ H s) (hN:X.N.Nodup) (hi:X.N[i]? = some n) (hv:σ[i]? = some (some v)) (hl:X.env.kindOf n=some NameKind.local) (hsc:X.env.scope.names.lookup n=some .local)
  (q:∀s',Inv X pins (σ.set i none) H s'->Q () s'):wpAny M A (unbindBehindTheSuite X.env n pos) Q E s:=by
 unfold unbindBehindTheSuite
 refine wpAny_onRaise ?_
 obtain ⟨m,hm,lk⟩:=id I.loc
 obtain ⟨w,rw',lo⟩:=lk i n v hi hv (.inl hsc)
 have hmn:m n=some w:=by
  rcases lo with ⟨_,e⟩ | ⟨k,_⟩
  ·exact e
  ·rw [hl] at k; rcases k with k | k <;> cases k
 refine wpAny_unbindName_local hl hm hmn ?_ fun h' u hn sb=>q _ (Inv.unbind I hN hi hm hn sb fun _ _ _=>trivial)
 rw [I.ok.kind]; rfl
end
def XO (K:W.Frag) (C:Addr) (bm:List Value):Prop:=∃N nm q bs hdct sn sub ab col dd k0 k1 k2 k3 k5 newId,K.lookup C=some (excClassObj nm q C N bs bm hdct sn sub ab col dd k0 k1 k2 k3 k5 newId)
abbrev _root_.L2.Cx.held (X:Cx) (v:Value):Cx:={ X with A:=X.A.mark (some v),calm:=false,xe:=fun _ _=>False }
section
variable {X:Cx} {pins:List (Addr × Obj)} {σ:L2.St} {H H':Hp} {s s':Shared} {a C:Addr} {od:Option Addr}
theorem Inv.held (I:Inv X pins σ H s) (v:Value):Inv (X.held v) pins σ H s:=
 ⟨⟨I.ok.mod,I.ok.kind,I.ok.glob,I.ok.blt,I.ok.above,I.ok.inj,I.ok.has,I.ok.cab,(fun h=>nomatch h),I.ok.frames,I.ok.stk,I.ok.exf,I.ok.bs,I.ok.bsz,I.ok.noex,I.ok.exfs,I.ok.funs,I.ok.frf⟩,I.os,I.bare,I.base,I.loc,I.cell,I.free,I.freeC,I.pin,I.hok,I.len⟩
theorem Inv.unheld {v:Value} (hh:X.calm=true->X.A.handled=none) (I:Inv (X.held v) pins σ H s):Inv X pins σ H s:=
 ⟨⟨I.ok.mod,I.ok.kind,I.ok.glob,I.ok.blt,I.ok.above,I.ok.inj,I.ok.has,I.ok.cab,hh,I.ok.frames,I.ok.stk,I.ok.exf,I.ok.bs,I.ok.bsz,I.ok.noex,I.ok.exfs,I.ok.funs,I.ok.frf⟩,I.os,I.bare,I.base,I.loc,I.cell,I.free,I.freeC,I.pin,I.hok,I.len⟩
theorem Fly.noted {E:Value->Shared->Prop} {M:Model} {Q:Unit->Shared->Prop} (F:Fly X.prog X.w X.stack H s H' a (.ref C) od s') (I:Inv X pins σ H s) (hst:X.stack=X.env::X.outer) (hfr:X.env.frame=some X.env.locals)
  (q:∀h' oe vs tb ot ts,Inv X pins σ (upd H' a (.ext (XcO a C od))) { heap:=h',gens:=s'.gens,drawn:=s'.drawn,toks:=s'.toks,os:=s'.os }->H' a=none->h'.get? a=some oe->oe.cls=.ref C->oe.data=.fields vs->vs[1]? = some (.ref tb)->h'.get? tb=some ot->ot.data=.fields ts->ts[3]? = some Value.none ->
   Q () { heap:=h',gens:=s'.gens,drawn:=s'.drawn,toks:=s'.toks,os:=s'.os }) :
  wpAny M X.A (noteFrame (.ref a) X.env) (fun _ s2=>wpAny M X.A (setFlight (.ref a) none) Q E s2) E s':=by
 obtain ⟨B,hB,hBa,hff,⟨oe,vs,r1,r2,r3,r4,r5⟩,hd,hH⟩:=F.ex
 have hHa:H' a=none:=by
  cases e:H' a with
  | none=>rfl
  | some u=>obtain ⟨o',z⟩:=hH a u e; rw [hBa] at z; cases z
 have haf:a∉frs X.stack:=fun z=>by
  obtain ⟨_,o,e1,nf⟩:=hff.mem z
  rw [r1] at e1; cases e1
  exact nf vs r4
 have hs1:1 < vs.size:=by
  rcases r5 with z | ⟨_,_,_,z,_⟩ | ⟨_,_,_,_,_,z,_⟩ <;> exact (Array.getElem?_eq_some_iff.mp z).1
 have sna:∀b o,s.heap.get? b=some o->b≠a:=fun b o e z=>by
  rw [z] at e
  obtain ⟨o',z2⟩:=hd a o e haf
  rw [hBa] at z2; cases z2
 have fin:∀(T:Option Addr) h',(∀b,T=some b->B.get? b=none)->Lft (frs (X.env::X.outer)) a oe vs T Value.none s'.heap h'->Q () { heap:=h',gens:=s'.gens,drawn:=s'.drawn,toks:=s'.toks,os:=s'.os }:=fun T h' hT l=>by
  rw [<-hst] at l
  have same:∀b o,(∃o',B.get? b=some o')->s'.heap.get? b=some o->h'.get? b=some o:=fun b o ⟨o',e⟩ h=>by
   refine l.keep b o (fun z=>?_) (fun z=>by rw [z,hBa] at e; cases e) (fun z=>by rw [hT b z] at e; cases e) h
   rw [(hff.mem z).1] at e
   cases e
  obtain ⟨tb,ot,ts,t1,t2,t3,t4,t5,t6⟩:=l.obj
  have hok1:HOk X.prog X.w H' h':=fun b u e=>by
   refine (F.hok b u e).stay (fun c v hc e1=>same c v ?_ e1) (fun _ z=>z) fun _ _ z=>z
   rcases hc with hc | hc
   ·rw [hc]; exact hH b u e
   ·exact hH c _ hc
  have hne:∀b u,H' b=some u->b≠a:=fun b u e z=>by rw [z,hHa] at e; cases e
  have hok2:HOk X.prog X.w (upd H' a (.ext (XcO a C od))) h':=fun b u e=>by
   by_cases hb:b=a
   ·subst hb
    rw [zam] at e
    cases e
    exact ⟨⟨_,_,t3,r2,r3,rfl⟩,⟨_,t3⟩,fun h1 h2 ⟨oe',vs',z1,z2,z3,z4⟩ k=>⟨oe',vs',k _ z1,z2,z3,z4⟩⟩
   ·rw [zal hb] at e
    refine (hok1 b u e).stay (fun _ _ _ z=>z) (fun c z=>?_) fun c xs z=>?_
    ·rw [zal (hne c _ z)]; exact z
    ·rw [zal (hne c _ z)]; exact z
  have I2:Inv X pins σ (upd H' a (.ext (XcO a C od))) { heap:=h',gens:=s'.gens,drawn:=s'.drawn,toks:=s'.toks,os:=s'.os }:=by
   refine I.call' (ch:=[]) F.os ⟨fun b o e n f z=>?_,fun b o e n f z=>?_,fun b o e n z=>?_,fun b o e z=>?_,fun b xs e=>?_,fun b o u e=>?_,fun b ps e=>?_⟩ hok2 F.bare fun b z=>absurd z (by simp)
   ·exact same b o (hd b o e f) (F.un.keep b o e n f z)
   ·obtain ⟨sl,e1⟩:=F.un.slot b o e n f z
    obtain ⟨_,o2,e2,nf⟩:=hff.mem f
    rw [e1] at e2
    cases e2
    obtain ⟨sl2,e3⟩:=l.slot b _ e1 nf
    exact ⟨sl2,e3⟩
   ·rw [zal (sna b o e)]; exact F.un.free b o e n z
   ·obtain ⟨o1,e1⟩:=F.un.there b o e z
    by_cases f:b∈frs X.stack
    ·obtain ⟨_,o2,e2,nf⟩:=hff.mem f
     obtain ⟨sl,e3⟩:=l.slot b _ e2 nf
     exact ⟨_,e3⟩
    ·exact ⟨o1,same b o1 (hd b o e f) e1⟩
   ·have:=F.un.tups b xs e; rw [zal (hne b _ this)]; exact this
   ·have:=F.un.frzs b o u e; rw [zal (hne b _ this)]; exact this
   ·obtain ⟨mo,this⟩:=F.un.tbls b ps e
    exact ⟨mo,by rw [zal (hne b _ this)]; exact this⟩
  exact q h' _ _ tb ot ts I2 hHa t3 r2 rfl (Array.getElem?_setIfInBounds_self_of_lt hs1) t4 t5 t6
 have nt2:wpAny M X.A (noteFrame (.ref a) X.env) (fun _ s2=>zmv a s2.heap/\wpAny M X.A (setFlight (.ref a) none) Q E s2) E s'->wpAny M X.A (noteFrame (.ref a) X.env) (fun _ s2=>wpAny M X.A (setFlight (.ref a) none) Q E s2) E s':=fun z=>wpAny_mono z (fun _ _ z=>z.2) fun _ _ z=>z
 have hff2:=hff
 rw [hst] at hff2
 rcases r5 with z | ⟨T,oT,ts,z1,z2,z3,z4,z5,z6⟩ | ⟨l,T,oT,ts,zl,z1,z2,z3,z4,z5,z6⟩
 ·exact nt2 (zef (T:=none) (by rw [I.ok.frames,hst]) hff2 hfr r1 r4 (fl:=none) (.inl ⟨z,rfl⟩) fun h' l=>fin none h' (fun b e=>nomatch e) l)
 ·exact nt2 (zef (T:=some T) (by rw [I.ok.frames,hst]) hff2 hfr r1 r4 (fl:=none) (.inr (.inl ⟨T,oT,ts,rfl,z1,z3,z4,z5,z6⟩)) fun h' l=>fin (some T) h' (fun b e=>by cases e; exact z2) l)
 ·have hl:l=X.env.locals:=by
   unfold topF at zl
   rw [hst] at zl
   exact (Option.some.inj (hfr.symm.trans (show X.env.frame=some l from zl))).symm
  subst hl
  exact nt2 (zef (T:=some T) (by rw [I.ok.frames,hst]) hff2 hfr r1 r4 (fl:=none) (.inr (.inr ⟨T,oT,ts,rfl,z1,z3,z4,z5,z6⟩)) fun h' l=>fin (some T) h' (fun b e=>by cases e; exact z2) l)
end
section
variable {X:Cx} {pins:List (Addr × Obj)} {σ:L2.St} {H H':Hp} {s s':Shared} {a C T:Addr} {od:Option Addr}
theorem zmj {i:Nat} {n xT:Str} {bm bmT:List Value} {np hpos:Pos} {b₀:Stmt} {suite:List Stmt} {t:TS} {D:Ends} {rest:List ExceptHandler} (F:Fly X.prog X.w X.stack H s H' a (.ref C) od s') (I:Inv X pins σ H s) (hst:X.stack=X.env::X.outer) (hfr:X.env.frame=some X.env.locals) (hcalm:X.calm=true)
  (cT:X.mg xT=some (.ref T)) (oT:XO X.K T bmT) (hbT:bmT.contains (Value.type "BaseException")=true) (oC:XO X.K C bm) (hit:(Value.ref C::bm).contains (.ref T)=true) (hg:Gl X xT)
  (hN:X.N.Nodup) (hi:X.N[i]? = some n) (hl:X.env.kindOf n=some NameKind.local) (hsc:X.env.scope.names.lookup n=some .local)
  (hs:PSs (X.held (.ref a)) (b₀::suite) t)
  (q:H' a=none->t { nx:=fun σ' H2=>D.nx (σ'.set i none) H2,rt:=fun _ _=>False } (σ.set i (some (.ref a))) (upd H' a (.ext (XcO a C od)))) (hdb:(xT == ("__debug__" : Str))=false:=by decide) :
  wpAny (model X.prog X.w) X.A (noteFrame (.ref a) X.env) (fun _ s₂=>wpAny (model X.prog X.w) X.A (setFlight (.ref a) none) (fun _ s₃=>wpAny (model X.prog X.w) X.A (handleBy (.ref a) X.env (.ExceptHandler (some (.Name xT np)) (some n) (b₀::suite) hpos::rest)) (SP X pins D) X.xe s₃) X.xe s₂) X.xe s':=by
 refine F.noted I hst hfr fun h' oe vs tb ot ts I1 hHa e1 e2 e3 e4 e5 e6 e7=>?_
 refine wpAny_handleBy_cons ?_ (by intro z; cases z)
 have Ih:=Inv.held I1 (.ref a)
 refine codeAny_handlers_test (zdi (X:=X.held (.ref a)) Ih hg cT ?_ hdb)
 obtain ⟨N1,nm1,q1,bs1,hd1,sn1,sub1,ab1,col1,dd1,a0,a1,a2,a3,a5,nw1,z1⟩:=oC
 obtain ⟨N2,nm2,q2,bs2,hd2,sn2,sub2,ab2,col2,dd2,c0,c1,c2,c3,c5,nw2,z2⟩:=oT
 refine zfT (I1.kIn _ _ z1) (I1.kIn _ _ z2) e1 e2 hbT ?_
 rw [hit,if_pos rfl]
 refine codeAny_handlers_suite_as ?_
 unfold setFlight
 refine wpAny_bind (wpAny_field e1 e3 e4 ?_)
 rw [if_pos (by rfl)]
 have h3s:3 < ts.size:=(Array.getElem?_eq_some_iff.mp e7).1
 refine wpAny_setField e5 e6 h3s ?_
 have I2:Inv X pins σ (upd H' a (.ext (XcO a C od))) { heap:=h'.update tb (Obj.mapFields fun v=>v.setIfInBounds 3 Value.none),gens:=s'.gens,drawn:=s'.drawn,toks:=s'.toks,os:=s'.os }:=by
  refine I1.kept fun b u e=>?_
  show (h'.update tb _).get? b=some u
  by_cases hb:b=tb
  ·subst hb
   have e5':h'.get? b=some ot:=e5
   have:u=ot:=by rw [show h'.get? b=some u from e] at e5'; cases e5'; rfl
   subst this
   have mf:Obj.mapFields (fun v=>v.setIfInBounds 3 Value.none) u=u:=by
    obtain ⟨c,d,da,sl⟩:=u
    have:da=.fields ts:=e6
    subst this
    show ({ cls:=c,dict:=d,data:=.fields (ts.setIfInBounds 3 Value.none),slots:=sl }:Obj)=_
    have:ts.setIfInBounds 3 Value.none=ts:=by
     refine Array.ext_getElem? fun j=>?_
     by_cases hj:3=j
     ·subst hj; rw [Array.getElem?_setIfInBounds_self_of_lt h3s,e7]
     ·rw [Array.getElem?_setIfInBounds_ne hj]
    rw [this]
   have nf:(Obj.mapFields (fun v=>v.setIfInBounds 3 Value.none) u).isFreed=false:=by
    obtain ⟨c,d,da,sl⟩:=u
    have:da=.fields ts:=e6
    subst this
    rfl
   have:=Heap.get?_update_self (Obj.mapFields fun v=>v.setIfInBounds 3 Value.none) e5' nf
   rw [mf] at this
   exact this
  ·rw [Heap.get?_update_ne _ _ _ _ hb]; exact e
 refine zeX (X:=X.held (.ref a)) (i:=i) (v:=.ref a) (Inv.held I2 (.ref a)) hN hi (.inl hsc) rfl (fun s3 I3=>?_) (.inr hsc)
 refine wpAny_mono (hs pins s3 _ _ _ I3 (q hHa)) (fun f s4 h4=>?_) fun _ _ z=>False.elim z
 have fin:∀{σ':L2.St} {H2:Hp} ,Inv (X.held (.ref a)) pins σ' H2 s4->D.nx (σ'.set i none) H2->f=Flow.next->wpAny (model X.prog X.w) X.A (do
   bindName X.env n Value.none
   unbindBehindTheSuite X.env n hpos) (fun _ s₅=>SP X pins D f s₅) X.xe s4:=fun {σ' H2} I4 k hf=>by
  subst hf
  have I4':Inv X pins σ' H2 s4:=Inv.unheld I.ok.hd I4
  refine wpAny_bind (wpAny_bindName (zeX (i:=i) (v:=.non) I4' hN hi (.inl hsc) rfl (fun s5 I5=>?_) (.inr hsc)))
  have hlen:i < σ'.length:=by rw [I4'.len]; exact (List.getElem?_eq_some_iff.mp hi).1
  refine zjl (v:=.non) I5 hN hi (by rw [List.getElem?_set_self hlen]) hl hsc fun s6 I6=>?_
  rw [List.set_set] at I6
  exact ⟨_,H2,I6,k⟩
 cases f with
 | next=>obtain ⟨σ',H2,I4,k⟩:=h4; exact fin I4 k rfl
 | brk=>obtain ⟨σ',H2,I4,k⟩:=h4; exact k.elim
 | cont=>obtain ⟨σ',H2,I4,k⟩:=h4; exact k.elim
 | ret u=>obtain ⟨v,σ',H2,I4,_,k⟩:=h4; exact k.elim
end
theorem SI.cx {X X':Cx} {g:GE} {m:List Md} {r:Rho} {G:GH} {st:L2.St} {H:Hp} (s:SI X g m r G st H) (h:X'.K=X.K):SI X' g m r G st H:=by
 constructor
 ·rw [h]; exact s.gok
 ·exact s.old
 ·exact s.ge
 ·exact s.gf
 ·exact s.lm
 ·exact s.lr
 ·rw [h]; exact s.sh
 ·rw [h]; exact s.ow
 ·rw [h]; exact s.bw
 ·exact s.dis
 ·exact s.lk
theorem SI.unset {X:Cx} {g:GE} {m:List Md} {r:Rho} {G:GH} {st:L2.St} {H:Hp} {i:Nat} (s:SI X g m r G st H) (hm:m[i]? = some .sh):SI X g m (r.set i none) G (st.set i none) H:=by
 have key:∀{j:Nat} {d:D},(r.set i none)[j]? = some (some d)->i≠j/\r[j]? = some (some d):=fun {j d} h=>by
  have hij:i≠j:=by
   rintro rfl
   rw [List.getElem?_set,if_pos rfl] at h
   split at h <;> cases h
  rw [List.getElem?_set_ne hij] at h
  exact ⟨hij,h⟩
 refine ⟨s.gok,s.old,s.ge,s.gf,by rw [List.length_set]; exact s.lm,by rw [List.length_set,List.length_set]; exact s.lr,fun j d h hj=>?_,fun j d h hj=>?_,fun j d h hj=>?_,fun j k a d e hjk h1 h2 m1 m2 q1 q2=>?_,fun j o h hj=>?_⟩
 ·obtain ⟨hij,h⟩:=key h
  rw [List.getElem?_set_ne hij]; exact s.sh j d h hj
 ·obtain ⟨hij,h⟩:=key h
  rw [List.getElem?_set_ne hij]; exact s.ow j d h hj
 ·obtain ⟨hij,h⟩:=key h
  rw [List.getElem?_set_ne hij]; exact s.bw j d h hj
 ·obtain ⟨z1,h1⟩:=key h1
  obtain ⟨z2,h2⟩:=key h2
  rw [List.getElem?_set_ne z1] at q1
  rw [List.getElem?_set_ne z2] at q2
  exact s.dis j k a d e hjk h1 h2 m1 m2 q1 q2
 ·have hij:i≠j:=by rintro rfl; rw [hm] at hj; cases hj
  obtain ⟨l1,l2⟩:=s.lk j o h hj
  exact ⟨by rw [List.getElem?_set_ne hij]; exact l1,fun d hd=>l2 d (by rw [List.getElem?_set_ne hij] at hd; exact hd)⟩
abbrev _root_.L2.Cx.tr (X:Cx) (ps:List (Addr × Obj)) (E:Value->Shared->Prop):Cx:={ X with pn:=ps,xe:=E }
section
variable {X:Cx} {pins pins':List (Addr × Obj)} {σ:L2.St} {H:Hp} {s:Shared} {E:Value->Shared->Prop}
theorem Inv.tr (I:Inv X pins σ H s) (E:Value->Shared->Prop):Inv (X.tr (X.pn++pins) E) [] σ H s:=
 ⟨⟨I.ok.mod,I.ok.kind,I.ok.glob,I.ok.blt,I.ok.above,I.ok.inj,I.ok.has,I.ok.cab,I.ok.hd,I.ok.frames,I.ok.stk,I.ok.exf,I.ok.bs,I.ok.bsz,I.ok.noex,I.ok.exfs,I.ok.funs,I.ok.frf⟩,I.os,I.bare,I.base,I.loc,I.cell,I.free,I.freeC,fun p hp=>I.pin p (by rw [List.append_nil] at hp; exact hp),I.hok,I.len⟩
theorem Inv.untr (I:Inv (X.tr (X.pn++pins) E) pins' σ H s):Inv X pins σ H s:=
 ⟨⟨I.ok.mod,I.ok.kind,I.ok.glob,I.ok.blt,I.ok.above,I.ok.inj,I.ok.has,I.ok.cab,I.ok.hd,I.ok.frames,I.ok.stk,I.ok.exf,I.ok.bs,I.ok.bsz,I.ok.noex,I.ok.exfs,I.ok.funs,I.ok.frf⟩,I.os,I.bare,I.base,I.loc,I.cell,I.free,I.freeC,fun p hp=>I.pin p (List.mem_append_left _ hp),I.hok,I.len⟩
theorem SP.untr {D:Ends} {f:Flow} (h:SP (X.tr (X.pn++pins) E) [] D f s):SP X pins D f s:=by
 cases f with
 | next=>obtain ⟨σ',H',I,q⟩:=h; exact ⟨σ',H',Inv.untr I,q⟩
 | brk=>obtain ⟨σ',H',I,q⟩:=h; exact ⟨σ',H',Inv.untr I,q⟩
 | cont=>obtain ⟨σ',H',I,q⟩:=h; exact ⟨σ',H',Inv.untr I,q⟩
 | ret u=>obtain ⟨v,σ',H',I,r,q⟩:=h; exact ⟨v,σ',H',Inv.untr I,r,q⟩
end
def zmu (K:W.Frag) (T:Addr) (hit:Str->Bool):Prop:=∀nm C,hit nm=true->XN K nm C->∃bm,XO K C bm/\(Value.ref C::bm).contains (.ref T)=true
def xNm:D->Option Str
 | .obj 0 ((_,.str nm)::_)=>some nm
 | _=>none
def tryF (m1:List Md) (i:Nat) (hit:Str->Bool) (fb fh:FS):FS:=fun r=>match fb r with
 | .nx r'=>.nx (forget m1 r')
 | .rt d=>.rt d
 | .exc x r'=>(match xNm x with
  | some nm=>if hit nm=true then (match fh (r'.set i (some x)) with
   | .nx r2=>.nx (r2.set i none)
   | _=>.stuck) else .stuck
  | none=>.stuck)
 | _=>.stuck
section
variable {X:Cx} {g:GE} {ro:Bool} {m m1 mb:List Md} {T:Addr} {fb fh:FS}
theorem zrC {n xT:Str} {bmT:List Value} {np hpos pos:Pos} {body suite:List Stmt} {b₀:Stmt} {hit:Str->Bool} (i:Nat) (hst:X.stack=X.env::X.outer) (hfr:X.env.frame=some X.env.locals) (hcalm:X.calm=true)
  (cT:X.mg xT=some (.ref T)) (oT:XO X.K T bmT) (hbT:bmT.contains (Value.type "BaseException")=true) (hk:zmu X.K T hit) (hg:Gl X xT) (hN:X.N.Nodup) (hi:X.N[i]? = some n) (hl:X.env.kindOf n=some NameKind.local) (hsc:X.env.scope.names.lookup n=some .local)
  (hb:∀ps E,SSs (X.tr ps E) g ro [] m body fb m1) (hs:∀a,SSs (X.held (.ref a)) g ro [] (zbG m1) (b₀::suite) fh (zbG m1)) (hdb:(xT == ("__debug__" : Str))=false:=by decide) :
  SS X g ro mb m (.Try body [.ExceptHandler (some (.Name xT np)) (some n) (b₀::suite) hpos] [] [] pos) (tryF m1 i hit fb fh) (zbG m1):=by
 have hml:(zbG m1).length=m.length:=by rw [zbG,List.length_map]; exact (hb [] fun _ _=>False).1
 refine ⟨hml,fun pins s σ H D I ⟨r,G,si,q⟩=>?_⟩
 refine wpAny_Try_except ?_
 generalize hE:(fun (e:Value) (s₁:Shared)=>wpAny (model X.prog X.w) X.A (noteFrame e X.env) (fun _ s₂=>wpAny (model X.prog X.w) X.A (setFlight e none) (fun _ s₃=>wpAny (model X.prog X.w) X.A (handleBy e X.env [.ExceptHandler (some (.Name xT np)) (some n) (b₀::suite) hpos]) (SP X pins D) X.xe s₃) X.xe s₂) X.xe s₁)=E'
 have key:oTo (X.tr (X.pn++pins) E') g ro m1 [] G { nx:=D.nx,rt:=D.rt } (fb r):=by
  unfold tryF at q
  cases e:fb r with
  | nx r'=>
   rw [e] at q
   exact fun σ' G' H' le si'=>q σ' G' H' le (SI.cx (X':=X) si' rfl).forget
  | rt d=>rw [e] at q; exact q
  | bk r'=>rw [e] at q; exact q.elim
  | ct r'=>rw [e] at q; exact q.elim
  | stuck=>rw [e] at q; exact q
  | exc x r'=>
   rw [e] at q
   intro pins' ev s' σ' G' H' le si' I' ex
   obtain ⟨pins1,s1,H1,a,C,od,nm,ds,rfl,rfl,xn,xf,I1,fl⟩:=ex
   show E' (.ref a) s'
   rw [<-hE]
   replace q:oTo X g ro (zbG m1) mb G D (if hit nm=true then (match fh (r'.set i (some (xD nm ds))) with
    | .nx r2=>.nx (r2.set i none)
    | _=>.stuck) else .stuck):=q
   split at q
   ·rename_i hh
    obtain ⟨bm,oC,hc⟩:=hk nm C hh xn
    refine zmj (i:=i) (D:=D) fl (Inv.untr I1) hst hfr hcalm cT oT hbT oC hc hg hN hi hl hsc (hs a).2 (fun hHa=>?_) hdb
    have hGa:G' a=none:=si'.gok.isN hHa
    have w:Grow X.K G' H' (gset G' a (xD nm ds)) (upd H' a (.ext (XcO a C od))):=by
     have ge:∀b d,G' b=some d->gset G' a (xD nm ds) b=some d:=fun b d e=>by
      have:b≠a:=by rintro rfl; rw [hGa] at e; cases e
      rw [zaV this]; exact e
     refine ⟨fun b d e=>?_,fun b o e=>?_,ge,fun b h=>?_⟩
     ·by_cases hb:b=a
      ·subst hb
       rw [zaq] at e
       cases e
       exact .exc zam xn (xf.mono ge)
      ·rw [zaV hb] at e
       exact (si'.gok b d e).mono ge fun o z=>by rw [zal hb]; exact z
     ·have:b≠a:=by rintro rfl; rw [hHa] at e; cases e
      rw [zal this]; exact e
     ·have:b≠a:=by rintro rfl; exact h hHa
      exact zaV this
    have si2:=((SI.cx (X':=X) si' rfl).grow w).set i (.ref zaq)
    have hms:(zbG m1)[i]? = some .sh:=by
     have hlen:i < (zbG m1).length:=by
      rw [si'.lm,I'.len]; exact (List.getElem?_eq_some_iff.mp hi).1
     have hlen':i < m1.length:=by rw [zbG,List.length_map] at hlen; exact hlen
     unfold zbG
     rw [List.getElem?_map,List.getElem?_eq_getElem hlen']
     rfl
    have hset:(zbG m1).set i .sh=zbG m1:=by
     refine List.ext_getElem? fun j=>?_
     by_cases hj:i=j
     ·subst hj
      rw [List.getElem?_set_self (List.getElem?_eq_some_iff.mp hms).1,hms]
     ·rw [List.getElem?_set_ne hj]
    rw [hset] at si2
    refine ⟨_,_,SI.cx si2 rfl,?_⟩
    cases e2:fh (r'.set i (some (xD nm ds))) with
    | nx r2=>
     rw [e2] at q
     exact fun σ2 G2 H2 le2 si3=>q (σ2.set i none) G2 H2 (le.trans (Gle.trans w.ge le2)) (SI.unset (SI.cx si3 rfl) hms)
    | rt d=>rw [e2] at q; exact q.elim
    | bk _=>rw [e2] at q; exact q.elim
    | ct _=>rw [e2] at q; exact q.elim
    | exc _ _=>rw [e2] at q; exact q.elim
    | stuck=>rw [e2] at q; exact q.elim
   ·exact q.elim
 refine wpAny_mono ((hb (X.pn++pins) E').2 [] s σ H _ (Inv.tr I E') ⟨r,G,SI.cx si rfl,key⟩) (fun f s1 h1=>?_) fun e s1 h1=>?_
 ·have h2:=SP.untr h1
  cases f with
  | next=>
   obtain ⟨σ',H',I',k⟩:=h2
   exact wpAny_execs_nil ⟨σ',H',I',k⟩
  | brk=>obtain ⟨σ',H',I',k⟩:=h2; exact k.elim
  | cont=>obtain ⟨σ',H',I',k⟩:=h2; exact k.elim
  | ret u=>exact h2
 ·exact h1
end
theorem zom:builtinKind "BaseException.__getattribute__" = some .slot:=by kernel_rfl
theorem zln:splitId "BaseException.__getattribute__" = some ("BaseException","__getattribute__"):=by decide +kernel
theorem zlJ:plainId "BaseException.__getattribute__" = true:=by kernel_rfl
theorem znf:typeOf (.builtin "BaseException.__getattribute__")=pure (.type "wrapper_descriptor"):=by kernel_rfl
section
variable {prog:Program} {w:World} {A:Around} {E:Value->Shared->Prop} {s:Shared} {nm q:Str} {C N a:Addr} {bs bm:List Value} {hdct:Bool} {sn:List Str} {sub:List Value} {ab:Bool} {col:Option Bool} {dd:Option Addr} {k0 k1 k2 k3 k5:Option Value} {newId:String} {oe:Obj}
theorem ziv {T:String} {Q:Bool->Shared->Prop} (hC:s.heap.get? C=some (excClassObj nm q C N bs bm hdct sn sub ab col dd k0 k1 k2 k3 k5 newId)) (he:s.heap.get? a=some oe) (hc:oe.cls=.ref C) (hq:Q ((Value.ref C::bm).contains (.type T)) s):wpAny (model prog w) A (isInstance (.ref a) (.type T)) Q E s:=by
 unfold isInstance
 refine wpAny_bind (wpAny_typeOf_ref he ?_)
 rw [hc]
 obtain ⟨hh,hg,hdr,ht,ho⟩:=s
 exact wpAny_isSubtype_exc hC hq
theorem zmi {v:Value} {Q:Unit->Shared->Prop} (hC:s.heap.get? C=some (excClassObj nm q C N bs bm hdct sn sub ab col dd k0 k1 k2 k3 k5 newId)) (he:s.heap.get? a=some oe) (hc:oe.cls=.ref C) (hb:bm.contains (Value.type "BaseException")=true) (hq:Q () s) :
  wpAny (model prog w) A (checkBuiltinCall "BaseException.__getattribute__" ⟨[.ref a,v],[]⟩) Q E s:=by
 unfold checkBuiltinCall
 simp only [zom,zln]
 refine wpAny_bind (ziv hC he hc ?_)
 rw [List.contains_cons,hb,Bool.or_true,if_neg (by simp)]
 have:=F.args_bexc_ga (.ref a) v
 unfold argsOk at this
 revert this
 generalize Manifest.signature? "BaseException.__getattribute__" = sg
 intro this
 cases sg with
 | none=>exact wpAny_pure hq
 | some sig=>
  have e:Bind.checkArgs "BaseException.__getattribute__" sig ⟨[.ref a,v],[]⟩=pure ():=this
  show wpAny _ _ (Bind.checkArgs "BaseException.__getattribute__" sig ⟨[.ref a,v],[]⟩) _ _ _
  rw [e]
  exact wpAny_pure hq
theorem zoK {v:Value} {Q:Value->Shared->Prop} (hC:s.heap.get? C=some (excClassObj nm q C N bs bm hdct sn sub ab col dd k0 k1 k2 k3 k5 newId)) (he:s.heap.get? a=some oe) (hc:oe.cls=.ref C) (hb:bm.contains (Value.type "BaseException")=true)
  (h:wpAny (model prog w) A.in1 (Builtin.«object.__getattribute__» ⟨[.ref a,v],[]⟩) (fun fin s'=>∃u,fin=.done (.ret u)/\Q u s') E s) :
  wpAny (model prog w) A (call (.builtin "BaseException.__getattribute__") [.ref a,v]) Q E s:=by
 refine wpAny_call (codeAny_call_builtin zlJ F.entry_bexc_ga (zmi hC he hc hb ?_))
 refine wpAny_mono h (fun fin s' ⟨u,e,hq⟩=>?_) fun e s' z=>z
 subst e
 exact hq
theorem zk8 {K:W.Frag} {v:Value} {fill expr:Bool} {Q:Value->Shared->Prop} (kin:K.In s.heap) (hC:s.heap.get? C=some (excClassObj nm q C N bs bm hdct sn sub ab col dd k0 k1 k2 k3 k5 newId)) (he:s.heap.get? a=some oe) (hc:oe.cls=.ref C) (hb:bm.contains (Value.type "BaseException")=true)
  (g1:findIn K (.ref C) "__getattribute__" = some (some (.builtin "BaseException.__getattribute__"))) (g2:findIn K (.ref C) "__getattr__" = some none)
  (h:wpAny (model prog w) A.in1 (Builtin.«object.__getattribute__» ⟨[.ref a,v],[]⟩) (fun fin s'=>∃u,fin=.done (.ret u)/\handedOut u=pure u/\Q u s') (fun _ _=>False) s) :
  wpAny (model prog w) A (getAttrBy (.ref a) v fill expr) Q E s:=by
 unfold getAttrBy
 refine wpAny_holding (wpAny_bind (wpAny_typeOf_ref he ?_))
 rw [hc]
 refine wpAny_bind (looks_findIn kin g1 _ _ _ _ (fun b o e=>e) ?_)
 show wpAny _ _ (if (onTheHeap (Value.ref C) && (Value.builtin "BaseException.__getattribute__" == Value.builtin "object.__getattribute__"))=true then _ else _) _ _ _
 rw [if_neg (by intro z; rw [show (Value.builtin "BaseException.__getattribute__" == Value.builtin "object.__getattribute__")=false from by decide +kernel,Bool.and_false] at z; cases z)]
 unfold getAttrByItsOwn hookBefore
 rw [if_pos (by rfl)]
 refine wpAny_bind (looks_findIn kin g2 _ _ _ _ (fun b o e=>e) ?_)
 refine wpAny_bind (wpAny_attempt (wpAny_holding ?_))
 unfold callGetattribute
 have hx:(expr && onTheHeap (Value.builtin "BaseException.__getattribute__"))=false:=by cases expr <;> rfl
 rw [hx,if_neg Bool.false_ne_true]
 unfold boundAndCalled bindSpecial
 rw [znf]
 refine wpAny_bind (wpAny_bind (wpAny_pure ?_))
 rw [if_pos (by decide)]
 refine wpAny_pure ?_
 refine zoK hC he hc hb (wpAny_mono h (fun fin s' ⟨u,e,ho,hq⟩=>⟨u,e,?_⟩) fun _ _ z=>False.elim z)
 show wpAny _ _ (handedOut u) _ _ _
 rw [ho]
 exact wpAny_pure hq
end
theorem zol:builtinKind "getset_descriptor.__get__" = some .slot:=by kernel_rfl
theorem zlm:splitId "getset_descriptor.__get__" = some ("getset_descriptor","__get__"):=by decide +kernel
theorem zlI:plainId "getset_descriptor.__get__" = true:=by kernel_rfl
theorem zme:entryFor table "getset_descriptor.__get__" = some Builtin.«getset_descriptor.__get__»:=by kernel_rfl
theorem zmd:entryFor table "object.__class__" = some Builtin.«object.__class__»:=by kernel_rfl
theorem zne:typeOf (.builtin "object.__class__")=pure (.type "getset_descriptor"):=by kernel_rfl
theorem zoQ (a b c:Value):argsOk "getset_descriptor.__get__" ⟨[a,b,c],[]⟩:=by kernel_rfl
theorem zlH:plainId "object.__class__" = true:=by kernel_rfl
theorem zqq:Builtin.Getset_descriptor.descrNameAndClass (.builtin "object.__class__")=pure (Str.ofString "__class__",Value.type "object"):=by kernel_rfl
theorem zpf:isSubtype (.type "getset_descriptor") (.type "getset_descriptor")=pure true:=by rw [isSubtype_type]; kernel_rfl
section
variable {prog:Program} {w:World} {A:Around} {E:Value->Shared->Prop} {s:Shared} {nm q:Str} {C N a:Addr} {bs bm:List Value} {hdct:Bool} {sn:List Str} {sub:List Value} {ab:Bool} {col:Option Bool} {dd:Option Addr} {k0 k1 k2 k3 k5:Option Value} {newId:String} {oe:Obj}
theorem zl9 {Q:Value->Shared->Prop} (hC:s.heap.get? C=some (excClassObj nm q C N bs bm hdct sn sub ab col dd k0 k1 k2 k3 k5 newId)) (he:s.heap.get? a=some oe) (hc:oe.cls=.ref C) (hb:bm.contains (Value.type "object")=true) (hq:Q (.ref C) s) :
  wpAny (model prog w) A (call (.builtin "getset_descriptor.__get__") [.builtin "object.__class__",.ref a,.ref C]) Q E s:=by
 refine wpAny_call (codeAny_call_builtin zlI zme ?_)
 unfold checkBuiltinCall
 simp only [zol,zlm]
 unfold isInstance
 rw [zne]
 refine wpAny_bind (wpAny_bind (wpAny_pure ?_))
 rw [zpf]
 refine wpAny_pure ?_
 rw [if_neg (by decide)]
 have this:=zoQ (.builtin "object.__class__") (.ref a) (.ref C)
 unfold argsOk at this
 revert this
 generalize Manifest.signature? "getset_descriptor.__get__" = sg
 intro this
 have body:wpAny (model prog w) A.in1 (Builtin.«getset_descriptor.__get__» ⟨[.builtin "object.__class__",.ref a,.ref C],[]⟩) (fun fin s'=>match fin with
   | Fin.done f=>(match (Except.ok f:Result) with | .ok (.ret v)=>Q v s' | .ok _=>False | .error e=>E e s')
   | Fin.again c'=>c'.quiet=true/\codeAny (model prog w) A c' (fun r s'=>match r with | .ok (.ret v)=>Q v s' | .ok _=>False | .error e=>E e s') s') (fun e s'=>E e s') s:=by
  unfold Builtin.«getset_descriptor.__get__» Builtin.Getset_descriptor.descrGet Builtin.Getset_descriptor.descrGetArgs
  refine wpAny_bind ?_
  show wpAny _ _ (pure ((Value.builtin "object.__class__",some (Value.ref a),some (Value.ref C)):Value × Option Value × Option Value)) _ _ _
  refine wpAny_pure ?_
  unfold Builtin.Getset_descriptor.descrGetter Builtin.Getset_descriptor.descrCheckInstance
  dsimp only
  rw [zqq]
  refine wpAny_bind (wpAny_bind (wpAny_pure (wpAny_bind (ziv hC he hc ?_))))
  rw [List.contains_cons,hb,Bool.or_true,if_neg (by simp)]
  refine wpAny_pure (wpAny_pure ⟨plainId_quiet zlH _,?_⟩)
  refine codeAny_builtin zmd ?_
  unfold Builtin.«object.__class__» shownTypeOf
  refine wpAny_bind (wpAny_bind (wpAny_typeOf_ref he ?_))
  rw [hc,if_neg (by intro z; cases z)]
  exact wpAny_pure (wpAny_pure hq)
 cases sg with
 | none=>exact wpAny_pure body
 | some sig=>
  have e:Bind.checkArgs "getset_descriptor.__get__" sig ⟨[.builtin "object.__class__",.ref a,.ref C],[]⟩=pure ():=this
  show wpAny _ _ (Bind.checkArgs "getset_descriptor.__get__" sig ⟨[.builtin "object.__class__",.ref a,.ref C],[]⟩) _ _ _
  rw [e]
  exact wpAny_pure body
theorem zma {K:W.Frag} {tk:Tok} {Q:Value->Shared->Prop} (kin:K.In s.heap) (hC:s.heap.get? C=some (excClassObj nm q C N bs bm hdct sn sub ab col dd k0 k1 k2 k3 k5 newId)) (he:s.heap.get? a=some oe) (hc:oe.cls=.ref C) (hb:bm.contains (Value.type "object")=true)
  (g1:findIn K (.ref C) "__class__" = some (some (.builtin "object.__class__"))) (g2:specialIn K (.builtin "object.__class__") "__get__" = some (some (.builtin "getset_descriptor.__get__"))) (g3:takesIn K (.builtin "object.__class__")=some true) (hq:Q (.ref C) s) :
  wpAny (model prog w) A (Builtin.«object.__getattribute__» ⟨[.ref a,.str "__class__" tk],[]⟩) (fun fin s'=>∃u,fin=.done (.ret u)/\handedOut u=pure u/\Q u s') E s:=by
 unfold Builtin.«object.__getattribute__»
 refine wpAny_bind ?_
 show wpAny _ _ (pure ((Value.ref a,[Value.str "__class__" tk]):Value × List Value)) _ _ _
 refine wpAny_pure ?_
 show wpAny _ _ (Builtin.ObjectAttr.attrName (Value.str "__class__" tk) >>= _) _ _ _
 refine wpAny_bind ?_
 show wpAny _ _ (pure (Str.ofString "__class__")) _ _ _
 refine wpAny_pure (wpAny_bind (wpAny_typeOf_ref he ?_))
 rw [hc]
 refine wpAny_bind ?_
 unfold Builtin.ObjectAttr.find
 refine wpAny_bind (looks_findIn kin g1 _ _ _ _ (fun b o e=>e) ?_)
 refine wpAny_bind ?_
 show wpAny _ _ (specialOf (Value.builtin "object.__class__") (Str.ofString "__get__")) _ _ _
 refine looks_specialIn kin g2 _ _ _ _ (fun b o e=>e) ?_
 refine wpAny_bind ?_
 show wpAny _ _ (Builtin.ObjectAttr.takesStores (Value.builtin "object.__class__") >>= _) _ _ _
 refine wpAny_bind (looks_takesIn kin g3 _ _ _ _ (fun b o e=>e) ?_)
 rw [if_pos rfl]
 refine wpAny_pure (wpAny_bind (wpAny_rule (wpAny_pure ?_)))
 unfold Builtin.ObjectAttr.bindTo
 show wpAny _ _ (holding [Value.builtin "object.__class__"] (call (Value.builtin "getset_descriptor.__get__") [Value.builtin "object.__class__",Value.ref a,Value.ref C]) >>= fun v=>ret v) _ _ _
 refine wpAny_bind (wpAny_holding (zl9 hC he hc hb ?_))
 exact wpAny_pure ⟨_,rfl,rfl,hq⟩
end
structure XA (K:W.Frag) (C:Addr) (bm:List Value):Prop where
 ob:XO K C bm
 be:bm.contains (Value.type "BaseException")=true
 bo:bm.contains (Value.type "object")=true
 ga:findIn K (.ref C) "__getattribute__" = some (some (.builtin "BaseException.__getattribute__"))
 gn:findIn K (.ref C) "__getattr__" = some none
 gc:findIn K (.ref C) "__class__" = some (some (.builtin "object.__class__"))
 gg:specialIn K (.builtin "object.__class__") "__get__" = some (some (.builtin "getset_descriptor.__get__"))
 gt:takesIn K (.builtin "object.__class__")=some true
theorem zl3 {K:W.Frag} {a C:Addr} {od:Option Addr} {bm:List Value} (x:XA K C bm):KitX K (.ref a) (.ref C) (XcO a C od):=by
 obtain ⟨N1,nm1,q1,bs1,hd1,sn1,sub1,ab1,col1,dd1,a0,a1,a2,a3,a5,nw1,z1⟩:=x.ob
 refine ⟨fun M h kin hx A Q E s hk hq=>?_,fun M h kin hx A Q E s hk hq=>?_,fun h tp dd its n sl kin ht=>?_,fun {prog w A E Q s} kin hx hq=>?_⟩
 ·obtain ⟨oe,vs,e1,e2,_⟩:=hx
  exact wpAny_typeOf_ref (hk _ _ e1) (by rw [e2]; exact hq)
 ·obtain ⟨hh,hg,hdr,ht,ho⟩:=s
  exact ks_wpAny_isType_cls (hk _ _ (kin _ _ z1)) rfl hq
 ·cases hb:(Value.ref C == Value.ref tp) with
  | false=>rfl
  | true=>
   have e:Value.ref C=Value.ref tp:=eq_of_beq hb
   cases e
   have:=kin _ _ z1
   rw [ht] at this
   have h2:=congrArg Obj.data (Option.some.inj this)
   cases h2
 ·obtain ⟨oe,vs,e1,e2,_⟩:=hx
  unfold getAttr?
  refine wpAny_bind (wpAny_mkText ?_)
  unfold getAttrBy?
  refine wpAny_bind (wpAny_attempt (zk8 kin (kin _ _ z1) e1 e2 x.be x.ga x.gn ?_))
  exact zma (s:={ heap:=s.heap,gens:=s.gens,drawn:=s.drawn,toks:=s.toks + 1,os:=s.os }) kin (kin _ _ z1) e1 e2 x.bo x.gc x.gg x.gt (wpAny_pure hq)
def isxD (tab:Str->Option Bool):D->Option D
 | .non=>some (.bl false)
 | .obj 0 ((_,.str nm)::_)=>(tab nm).map .bl
 | _=>none
structure IsxOk (K:W.Frag) (c:Value) (tab:Str->Option Bool):Prop where
 no:kitOne K (.type "NoneType") c=some false
 ex:∀nm b C,tab nm=some b->XN K nm C->∃bm,XA K C bm/\kitOne K (.ref C) c=some b
section
variable {X:Cx} {g:GE} {m:List Md} {e:Expr} {f:FE} {pos p p2:Pos}
theorem zmp {c:Value} {cv:V} (hcv:∀u,RelV cv u->u=c):zds X (.builtin "isinstance") (fun xs H Q=>∃x b,xs=[x,cv]/\((x=.non/\kitOne X.K (.type "NoneType") c=some b)\/∃a C od bm,x=.ref a/\H a=some (.ext (XcO a C od))/\XA X.K C bm/\kitOne X.K (.ref C) c=some b)/\Q (.bl b) H):=by
 intro pins s σ H xs us Q I r h
 obtain ⟨x,b,rfl,h,q⟩:=h
 obtain ⟨u,w',rfl,rx,ry⟩:=zlj r
 have:=hcv _ ry
 subst this
 have fin:∀tk,EP X pins σ Q (.bool b) { s with toks:=tk }:=fun tk=>⟨.bl b,H,I.tok tk,rfl,q⟩
 rcases h with ⟨rfl,e⟩ | ⟨a,C,od,bm,rfl,ea,xa,e⟩
 ·cases rx
  exact W.kia_one W.kitx_none I.kIn True.intro e (fun z=>nomatch z) fin
 ·cases (show u=Value.ref a from rx)
  exact W.kia_one (zl3 xa) I.kIn (I.hok a _ ea).1 e (fun z=>nomatch z) fin
theorem RB.exc {K:W.Frag} {G:GH} {H:Hp} {v:V} {k:Str} {nm:Str} {ds:List (Str × D)} (gk:GOk K G H) (h:RB K G H v (.obj 0 ((k,.str nm)::ds))):∃a C od,v=.ref a/\H a=some (.ext (XcO a C od))/\XN K nm C:=by
 rcases h with h | ⟨a,rfl,h⟩
 ·cases h with
  | scl s=>cases s
  | ref e=>
   cases gk _ _ e with
   | exc r n f=>exact ⟨_,_,_,rfl,r,n⟩
  | kc k=>cases k
 ·cases h.ob
theorem zmC {c:Value} {cv:V} {tab:Str->Option Bool} {a2:Expr} (hcv:∀u,RelV cv u->u=c) (hx:IsxOk X.K c tab) (h2:PE X a2 (tC cv)) (hg:Gl X "isinstance") (hm:X.mg "isinstance" = none) (he:SB X g m e f)
  (hs1:starEach [e,a2] X.env=(false,eval e X.env)::starEach [a2] X.env:=by rfl) (hs2:starEach [a2] X.env=(false,eval a2 X.env)::starEach [] X.env:=by rfl)
  (hpl:(backTo pos (starEach [a2] X.env)).any (·.1)=false:=by rfl) :
  SE X g m (.Call (.Name "isinstance" p) [e,a2] [] pos) (f1 f (isxD tab)):=by
 refine PE.imp (zee (zmp hcv) hg hm (by first | exact PyProof.Rows.boot_isinstance | rfl) (zbb he (zbb h2 zde hs2) hs1) (by decide) (by decide) hs1 hpl) fun σ H Q ⟨r,G,si,q⟩=>⟨r,G,si,zag (zaf q) fun d q1 v G1 H1 w1 r1=>?_⟩
 obtain ⟨d',e',q2⟩:=zaw q1
 unfold isxD at e'
 split at e'
 ·cases e'
  have hv:v=.non:=r1.non w1.ok
  subst hv
  exact ⟨.non,false,rfl,.inl ⟨rfl,hx.no⟩,q2 _ G1 H1 w1 (.scl (.bl _))⟩
 ·rename_i k nm ds
  cases ht:tab nm with
  | none=>rw [ht] at e'; cases e'
  | some b=>
   rw [ht] at e'
   cases e'
   obtain ⟨a,C,od,rfl,ha,xn⟩:=RB.exc w1.ok r1
   obtain ⟨bm,xa,hk⟩:=hx.ex nm b C ht xn
   exact ⟨.ref a,b,rfl,.inr ⟨a,C,od,bm,rfl,ha,xa,hk⟩,q2 _ G1 H1 w1 (.scl (.bl _))⟩
 ·cases e'
theorem zlt {x:Str} {T:Addr} {tab:Str->Option Bool} (hmT:X.mg x=some (.ref T)) (hx:IsxOk X.K (.ref T) tab) (hgT:Gl X x) (hg:Gl X "isinstance") (hm:X.mg "isinstance" = none) (he:SB X g m e f) (hd:(x == ("__debug__" : Str))=false:=by decide)
  (hs1:starEach [e,.Name x p2] X.env=(false,eval e X.env)::starEach [.Name x p2] X.env:=by rfl) (hs2:starEach [.Name x p2] X.env=(false,eval (.Name x p2) X.env)::starEach [] X.env:=by rfl)
  (hpl:(backTo pos (starEach [.Name x p2] X.env)).any (·.1)=false:=by rfl) :
  SE X g m (.Call (.Name "isinstance" p) [e,.Name x p2] [] pos) (f1 f (isxD tab)):=
 zmC (cv:=.ref T) (fun u h=>h) hx (zjY (v:=.ref T) hgT hmT rfl hd) hg hm he hs1 hs2 hpl
theorem zpp {x:Str} {T:String} {tab:Str->Option Bool} (hv:bootBuiltins x=some (.type T)) (hmT:X.mg x=none) (hx:IsxOk X.K (.type T) tab) (hgT:Gl X x) (hg:Gl X "isinstance") (hm:X.mg "isinstance" = none) (he:SB X g m e f) (hn:x≠"__name__" := by decide) (hd:(x == ("__debug__" : Str))=false:=by decide)
  (hs1:starEach [e,.Name x p2] X.env=(false,eval e X.env)::starEach [.Name x p2] X.env:=by rfl) (hs2:starEach [.Name x p2] X.env=(false,eval (.Name x p2) X.env)::starEach [] X.env:=by rfl)
  (hpl:(backTo pos (starEach [.Name x p2] X.env)).any (·.1)=false:=by rfl) :
  SE X g m (.Call (.Name "isinstance" p) [e,.Name x p2] [] pos) (f1 f (isxD tab)):=
 zmC (cv:=.ty T) (fun u h=>h) hx (zjZ (v:=.ty T) hgT hmT hv rfl hn hd) hg hm he hs1 hs2 hpl
end
section
variable {X:Cx} {g:GE} {m:List Md} {e:Expr} {es:List Expr} {fl:Rho->Res (List D)} {k:Nat} {ps:List Str} {F:List D->Res D} {x:Str} {p pos:Pos} {ms:List Md}
theorem zgE (c:CalleeX X.prog X.w X.K X.mg X.base x ps [] k false ms F) (hr:Room k X.A) (ha:SAM X g m (e::es) ms fl) (hg:Gl X x:=by rfl)
  (hdb:(x == ("__debug__" : Str))=false:=by decide) (he:starEach (e::es) X.env=(false,eval e X.env)::starEach es X.env:=by rfl) (hpl:(backTo pos (starEach es X.env)).any (·.1)=false:=by rfl) :
  SE X g m (.Call (.Name x p) (e::es) [] pos) (zc6 fl [] F):=
 zny (ms:=ms) (dds:=[]) (dvs:=[]) (ds:=[]) (by rw [show (List.replicate ([]:List D).length Md.sh)=[] from rfl,List.append_nil]; exact c) hr .nil .nil ha hg hdb he hpl
end
theorem XN.uniq {K:W.Frag} {nm:Str} {C c:Addr} (h:XN K nm C) (k:(K.all fun e=>match e.2.data with | .cls cd=>cd.name != nm || e.1 == c | _=>true)=true):C=c:=by
 obtain ⟨o,cd,h1,h2,h3⟩:=h
 have hm:(C,o)∈(K:List (Addr × Obj)):=by
  have key:∀l:List (Addr × Obj),l.lookup C=some o->(C,o)∈l:=by
   intro l
   induction l with
   | nil=>intro h; cases h
   | cons q l ih=>
    intro h
    rw [List.lookup] at h
    split at h
    ·rename_i hb
     have:=eq_of_beq hb
     cases h
     rw [this]; exact List.mem_cons_self
    ·exact List.mem_cons_of_mem _ (ih h)
  exact key K h1
 have:=List.all_eq_true.mp k _ hm
 simp only [h2] at this
 rw [h3] at this
 simpa using this
def xoIn (K:W.Frag) (C:Addr):Option (List Value × Str):=match K.lookup C with
 | some ⟨.type "type",_,.cls cd,sl⟩=>(match cd.mro,sl.toList with
  | .ref C'::bm,[_,_,_,_,some (.builtin _),_]=>if (C' == C && ! cd.hasDel)=true then some (bm,cd.name) else none
  | _,_=>none)
 | _=>none
theorem znb {K:W.Frag} {C:Addr} {bm:List Value} {nm:Str} (h:xoIn K C=some (bm,nm)):XO K C bm/\XN K nm C:=by
 unfold xoIn at h
 split at h
 ·rename_i dict cd sl hk
  split at h
  ·rename_i C' bm' k0 k1 k2 k3 n k5 hm hs
   split at h
   ·rename_i hc
    cases h
    simp only [Bool.and_eq_true,beq_iff_eq,Bool.not_eq_true'] at hc
    obtain ⟨rfl,hd⟩:=hc
    refine ⟨?_,_,cd,hk,rfl,rfl⟩
    obtain ⟨nm',bs,mro,ns,q,hdct,sn,sub,ab,col,hdel⟩:=cd
    have e1:mro=Value.ref C'::bm:=hm
    have e2:hdel=false:=hd
    subst e1 e2
    have e3:sl = #[k0,k1,k2,k3,some (Value.builtin n),k5]:=by
     cases sl with
     | mk l=>exact congrArg Array.mk hs
    subst e3
    exact ⟨_,_,_,_,_,_,_,_,_,_,_,_,_,_,_,_,hk⟩
   ·cases h
  ·cases h
 ·cases h
def unIn (K:W.Frag) (nm:Str) (c:Addr):Bool:=K.all fun e=>match e.2.data with
 | .cls cd=>cd.name != nm || e.1 == c
 | _=>true
structure CF (K:W.Frag) (nm:Str) (c:Addr) (bm:List Value):Prop where
 xa:XA K c bm
 xn:XN K nm c
 un:unIn K nm c=true
theorem zsB {K:W.Frag} {nm:Str} {c:Addr} {bm:List Value} (o:xoIn K c=some (bm,nm)) (be:bm.contains (Value.type "BaseException")=true) (bo:bm.contains (Value.type "object")=true)
  (ga:findIn K (.ref c) "__getattribute__" = some (some (.builtin "BaseException.__getattribute__"))) (gn:findIn K (.ref c) "__getattr__" = some none) (gc:findIn K (.ref c) "__class__" = some (some (.builtin "object.__class__")))
  (gg:specialIn K (.builtin "object.__class__") "__get__" = some (some (.builtin "getset_descriptor.__get__"))) (gt:takesIn K (.builtin "object.__class__")=some true) (un:unIn K nm c=true):CF K nm c bm:=
 ⟨⟨(znb o).1,be,bo,ga,gn,gc,gg,gt⟩,(znb o).2,un⟩
theorem CF.eq {K:W.Frag} {nm:Str} {c C:Addr} {bm:List Value} (f:CF K nm c bm) (h:XN K nm C):C=c:=XN.uniq h f.un
theorem zsv {K:W.Frag} {T:Addr} {hit:Str->Bool} (l:List (Str × Addr × List Value)) (h:∀q∈l,CF K q.1 q.2.1 q.2.2/\(Value.ref q.2.1::q.2.2).contains (.ref T)=true) (hh:∀nm,hit nm=true->∃q∈l,q.1=nm):zmu K T hit:=by
 intro nm C hn xn
 obtain ⟨q,hq,rfl⟩:=hh nm hn
 obtain ⟨f,hc⟩:=h q hq
 have:=f.eq xn
 subst this
 exact ⟨_,f.xa.ob,hc⟩
theorem zsu {K:W.Frag} {c:Value} {tab:Str->Option Bool} (l:List (Str × Addr × List Value)) (n:kitOne K (.type "NoneType") c=some false) (h:∀q∈l,CF K q.1 q.2.1 q.2.2/\kitOne K (.ref q.2.1) c=tab q.1) (hh:∀nm b,tab nm=some b->∃q∈l,q.1=nm):IsxOk K c tab:=by
 refine ⟨n,fun nm b C ht xn=>?_⟩
 obtain ⟨q,hq,rfl⟩:=hh nm b ht
 obtain ⟨f,hc⟩:=h q hq
 have:=f.eq xn
 subst this
 exact ⟨_,f.xa,by rw [hc,ht]⟩
theorem zsz {K:W.Frag} {h:Heap} {mg:Str->Option Value} {x:Str} {C:Addr} (KX:K.In h) (G:h.Ns mainGlobals mg) (a:W.nsIn K mainGlobals x=some (some (.ref C))) (e:excIn K C vErr "ValueError.__new__" = true):XC K mg x C:=⟨W.mg_of KX G a,e⟩
section
variable {prog:Program} {w:World} {A:Around} {E:Value->Shared->Prop} {s:Shared} {nm q:Str} {C N a:Addr} {bs bm:List Value} {sn:List Str} {sub:List Value} {ab:Bool} {col:Option Bool} {dd:Option Addr} {k0 k1 k2 k3 k5:Option Value} {newId:String} {oe:Obj}
theorem zqX {K:W.Frag} {name:Str} {tk:Tok} {dx:Addr} {mA:Str->Option Value} {v:Value} {vs:Array Value} {Q:Value->Shared->Prop} (kin:K.In s.heap)
  (hC:s.heap.get? C=some (excClassObj nm q C N bs bm true sn sub ab col dd k0 k1 k2 k3 k5 newId)) (he:s.heap.get? a=some oe) (hc:oe.cls=.ref C) (hda:oe.data=.fields vs) (hdi:oe.dict=some dx) (hn:s.heap.Ns dx mA)
  (g1:findIn K (.ref C) name=some none) (hv:mA name=some v) (ho:handedOut v=pure v) (hq:Q v s) :
  wpAny (model prog w) A (Builtin.«object.__getattribute__» ⟨[.ref a,.str name tk],[]⟩) (fun fin s'=>∃u,fin=.done (.ret u)/\handedOut u=pure u/\Q u s') E s:=by
 obtain ⟨oc,odi,oda,osl⟩:=oe
 dsimp only at hc hda hdi
 subst hc hda hdi
 unfold Builtin.«object.__getattribute__»
 refine wpAny_bind ?_
 show wpAny _ _ (pure ((Value.ref a,[Value.str name tk]):Value × List Value)) _ _ _
 refine wpAny_pure ?_
 show wpAny _ _ (Builtin.ObjectAttr.attrName (Value.str name tk) >>= _) _ _ _
 refine wpAny_bind ?_
 show wpAny _ _ (pure name) _ _ _
 refine wpAny_pure (wpAny_bind (wpAny_typeOf_ref he ?_))
 refine wpAny_bind ?_
 unfold Builtin.ObjectAttr.find
 refine wpAny_bind (looks_findIn kin g1 _ _ _ _ (fun b o e=>e) ?_)
 refine wpAny_bind ?_
 show wpAny _ _ (pure none) _ _ _
 refine wpAny_pure (wpAny_bind ?_)
 show wpAny _ _ (pure none) _ _ _
 refine wpAny_pure ?_
 unfold Builtin.ObjectAttr.ownThenClass Builtin.ObjectAttr.inOwnDict Builtin.ObjectAttr.ownDict
 refine wpAny_bind (wpAny_bind (wpAny_bind (wpAny_loadPart he ?_)))
 unfold instanceDict
 refine wpAny_bind (wpAny_loadPart he ?_)
 refine wpAny_bind ?_
 unfold classData
 refine wpAny_bind (wpAny_load hC (wpAny_pure ?_))
 dsimp only
 refine wpAny_pure ?_
 refine wpAny_nsGet hn ?_
 rw [hv]
 exact wpAny_bind (wpAny_rule (wpAny_pure (wpAny_pure ⟨v,rfl,ho,hq⟩)))
end
abbrev xObj (C t:Addr) (od:Option Addr):Obj:={ cls:=.ref C,dict:=od,data:=.fields #[.ref t,.none,.none,.none,.bool false,.none] }
section
variable {prog:Program} {w:World} {A:Around} {E:Value->Shared->Prop} {h:Heap} {gs:Array GenState} {dr:Drawn} {tk:Nat} {os:OsState}
variable {nm ql:Str} {C N fI:Addr} {bs bm bB:List Value} {hdct:Bool} {sn:List Str} {sub:List Value} {ab:Bool} {col:Option Bool} {dd:Option Addr} {k0 k1 k2 k3 k5:Option Value} {B nw ini:String} {mN:Str->Option Value} {us:List Value} {oI:Obj}
theorem zni {Q:Fin->Shared->Prop} (XF:ExcBaseFacts B nw ini bB) (T:OwnTail h bB bm) (hC:h.get? C=some (excClassObj nm ql C N bs bm hdct sn sub ab col dd k0 k1 k2 k3 k5 nw)) (hn:h.Ns N mN) (hi:mN "__init__" = some (.ref fI))
  (hf:h.get? fI=some oI) (hfc:oI.cls=.type "function") (hz:us.length<=sizeLine)
  (hq:∀h' e,Heap.MadeExcOf h h' e (.ref C) us->wpAny (model prog w) A (call (.ref fI) (.ref e::us)) (fun r s'=>r=.none/\Q (.done (.ret (.ref e))) s') E ⟨h',gs,dr,tk,os⟩) :
  wpAny (model prog w) A (Builtin.«type.__call__» ⟨.ref C::us,[]⟩) Q E ⟨h,gs,dr,tk,os⟩:=by
 repeat (first
  | with_reducible refine wpAny_loadPart_at hC ?_
  | with_reducible refine wpAny_madeBy_exc hC ?_
  | wp_step)
 refine codeAny_call_builtin_code (Code.quiet_builtin _ XF.quiet) (wpAny_check_new_subT XF T hC (codeAny_exc_new_subT XF T hC ?_ hz))
 show wpAny _ _ _ _ _ _
 have hk:∀b o,h.get? b=some o->((h.push { cls:=.type "tuple",data:=.seq us.toArray }).push (xObj C h.objs.size none)).get? b=some o:=fun b o e=>Heap.get?_push_of_some _ (Heap.get?_push_of_some _ e)
 have hg:((h.push { cls:=.type "tuple",data:=.seq us.toArray }).push (xObj C h.objs.size none)).get? (h.objs.size + 1)=some (xObj C h.objs.size none):=by heap_get
 have hg2:((h.push { cls:=.type "tuple",data:=.seq us.toArray }).push (xObj C h.objs.size none)).get? h.objs.size=some { cls:=.type "tuple",data:=.seq us.toArray }:=Heap.get?_push_of_some _ (Heap.get?_push_at rfl rfl)
 have hC1:=hk _ _ hC
 have hf1:=hk _ _ hf
 have hn1:=hn.keeps hk
 have T1:=T.keeps hk
 have hcC:(Value.ref C::bm).contains (.ref C)=true:=by simp
 unfold isInstance
 repeat (first
  | with_reducible refine wpAny_loadPart_at hg ?_
  | (with_reducible refine wpAny_isSubtype_exc hC1 ?_; rw [hcC])
  | wp_step)
 show wpAny _ _ (typeLookup (.ref C) _) _ _ _
 refine wpAny_typeLookup_tail hC1 hn1 T1 XF.mroIs XF.init.lookup ?_
 rw [hi]
 refine wpAny_holding (wpAny_bind ?_)
 unfold bindSpecial
 refine wpAny_bind (wpAny_typeOf (T := "function") ⟨_,hf1,hfc⟩ ?_)
 rw [if_pos (by decide)]
 refine wpAny_pure (wpAny_bind (wpAny_mono (hq _ (h.objs.size + 1) ⟨hk,Heap.get?_none_of_le (Nat.le_succ _),h.objs.size,hg,Heap.get?_none_of_le (Nat.le_refl _),hg2⟩) (fun r s' hr=>?_) fun _ _ z=>z))
 obtain ⟨rfl,hQ⟩:=hr
 wp_walk
 exact hQ
theorem zk6 {Q:Value->Shared->Prop} (XF:ExcBaseFacts B nw ini bB) (T:OwnTail h bB bm) (hC:h.get? C=some (excClassObj nm ql C N bs bm hdct sn sub ab col dd k0 k1 k2 k3 k5 nw)) (hn:h.Ns N mN) (hi:mN "__init__" = some (.ref fI))
  (hf:h.get? fI=some oI) (hfc:oI.cls=.type "function") (hz:us.length<=sizeLine)
  (hq:∀h' e,Heap.MadeExcOf h h' e (.ref C) us->wpAny (model prog w) (A.under (.builtin "type.__call__" ⟨.ref C::us,[]⟩)) (call (.ref fI) (.ref e::us)) (fun r s'=>r=.none/\Q (.ref e) s') E ⟨h',gs,dr,tk,os⟩) :
  wpAny (model prog w) A (call (.ref C) us) Q E ⟨h,gs,dr,tk,os⟩:=by
 have f1:=tc_lookup
 have f2:=tc_bind (.ref C)
 have hT:Shared.TypeIs ⟨h,gs,dr,tk,os⟩ (.ref C) "type" := ⟨_,hC,rfl⟩
 refine wpAny_call (codeAny_of_tree ?_)
 show wpAny _ _ (callAny (.ref C) _) _ _ _
 repeat (any_goals (first
  | assumption
  | with_reducible refine wpAny_loadPart_at hC ?_
  | wp_step))
 exact ⟨rfl,codeAny_call_builtin_at (Code.quiet_builtin _ (by decide +kernel)) entry_typeCall (wpAny_check_type_call_sub hC (zni XF T hC hn hi hf hfc hz fun h' e hm=>hq h' e hm))⟩
theorem zlE {M:Model} {s:Shared} {x:Sem Value} {env:Env} {Q:Flow->Shared->Prop} (hb:bm.contains (.type "BaseException")=true) (hh:A.handled=none)
  (hx:wpAny M A x (fun v s1=>∃e t od,v=.ref e/\s1.heap.get? C=some (excClassObj nm ql C N bs bm hdct sn sub ab col dd k0 k1 k2 k3 k5 nw)/\s1.heap.get? e=some (xObj C t od)/\E (.ref e) s1) E s) :
  wpAny M A (raiseStmt env (some x) none) Q E s:=by
 have hcB:(Value.ref C::bm).contains (.type "BaseException")=true:=by rw [List.contains_cons,hb,Bool.or_true]
 unfold raiseStmt
 refine wpAny_bind (wpAny_mono hx (fun v s1 h1=>?_) fun _ _ z=>z)
 obtain ⟨e,t,od,rfl,hC,he,hE⟩:=h1
 obtain ⟨hp,g,d,tk,os⟩:=s1
 repeat (first
  | with_reducible refine wpAny_loadPart_at he ?_
  | with_reducible refine wpAny_loadPart_at hC ?_
  | (with_reducible refine wpAny_isSubtype_exc hC ?_; rw [hcB])
  | wp_step)
 exact wpAny_raiseNew_none hh hE
end
theorem zhG {self:Value} {bm:List Value} {h:Heap} (T:OwnTail h vErr bm):refuseLoop self "__setattr__" bm=pure ():=by
 induction T with
 | base=>exact PySem.F.store_ValueError.passes self
 | own _ _ _ _ ih=>rw [refuseLoop_ref]; exact ih
section
variable {prog:Program} {w:World} {A:Around} {E:Value->Shared->Prop} {h:Heap} {gs:Array GenState} {dr:Drawn} {tk:Nat} {os:OsState}
variable {nm ql:Str} {C N e t:Addr} {bs bm:List Value} {sn:List Str} {sub:List Value} {ab:Bool} {col:Option Bool} {dd:Option Addr} {k0 k1 k2 k3 k5:Option Value} {nw:String} {K:W.Frag} {name:Str} {v:Value}
theorem setx {Q:Unit->Shared->Prop} (kin:K.In h) (hC:h.get? C=some (excClassObj nm ql C N bs bm true sn sub ab col dd k0 k1 k2 k3 k5 nw)) (T:OwnTail h vErr bm) (he:h.get? e=some (xObj C t none))
  (g0:findIn K (.ref C) "__setattr__" = some (some (.builtin "object.__setattr__"))) (g1:findIn K (.ref C) name=some none)
  (hq:∀h' dx tk',h.get? dx=none->h'.get? e=some (xObj C t (some dx))->h'.Ns1 dx (fun y=>if y=name then some v else none)->(∀b o,b≠e->h.get? b=some o->h'.get? b=some o)->Q () ⟨h',gs,dr,tk',os⟩) :
  wpAny (model prog w) A (setAttr (.ref e) name v) Q E ⟨h,gs,dr,tk,os⟩:=by
 have f3:=PySem.F.store_ValueError.slot.bind (.ref e)
 have hcB:(Value.ref C::bm).contains (.type "object")=true:=by rw [List.contains_cons,zge T (by decide +kernel),Bool.or_true]
 have L0:Looks (model prog w) h (isInstance (.ref e) (.type "object")) true:=by
  intro A Q E s k q
  unfold isInstance
  refine wpAny_bind (wpAny_typeOf_ref (k _ _ he) ?_)
  obtain ⟨hh,a1,a2,a3,a4⟩:=s
  exact wpAny_isSubtype_exc (k _ _ hC) (by rw [hcB]; exact q)
 unfold setAttr callSpecial? specialOf
 refine wpAny_bind (wpAny_mkText ?_)
 refine wpAny_bind (wpAny_bind (wpAny_bind (wpAny_typeOf_ref he (looks_findIn kin g0 _ _ _ _ (fun b o e=>e) ?_))))
 refine wpAny_holding ?_
 rw [f3]
 refine wpAny_bind (wpAny_pure (wpAny_bind (wpAny_call ?_)))
 have SF:=PySem.F.store_object
 refine codeAny_call_builtin SF.slot.plain SF.entry (@check_slot (model prog w) _ _ ⟨h,gs,dr,tk + 1,os⟩ "object.__setattr__" "object" "__setattr__" (.ref e) [.str name tk,v] [] _ SF.kind SF.split L0 (SF.args (.ref e) (.str name tk) v) ?_)
 show wpAny _ _ (Builtin.«object.__setattr__» ⟨[.ref e,.str name tk,v],[]⟩) _ _ _
 rw [osa_eq,refuse_eq]
 refine wpAny_bind (wpAny_bind (wpAny_typeOf_ref he (wpAny_bind (wpAny_mroOf_exc hC ?_))))
 rw [refuseLoop_ref,zhG T]
 refine wpAny_pure (wpAny_bind (wpAny_typeOf_ref he (wpAny_bind (looks_findIn kin g1 _ _ _ _ (fun b o e=>e) ?_))))
 refine wpAny_bind ?_
 show wpAny _ _ (pure none) _ _ _
 refine wpAny_pure ?_
 have hx1:(h.push { cls:=.type "dict",data:=.dict #[] }).get? e=some (xObj C t none):=Heap.get?_push_of_some _ he
 have hxs:e≠h.objs.size:=Nat.ne_of_lt (Heap.lt_size he)
 refine wpAny_bind (wpAny_pure (wpAny_bind (wpAny_bind (wpAny_loadPart he (wpAny_bind ?_)))))
 unfold classData
 refine wpAny_bind (wpAny_load hC (wpAny_pure ?_))
 refine wpAny_bind (wpAny_alloc' (wpAny_bind (wpAny_update' hx1 (wpAny_pure ?_))))
 have hgd:((h.push { cls:=.type "dict",data:=.dict #[] }).update e fun o=>{ o with dict:=some h.objs.size }).get? h.objs.size=some { cls:=.type "dict",data:=.dict #[] }:=
  (Heap.get?_update_ne _ _ _ _ hxs.symm).trans (Heap.get?_push_at rfl rfl)
 have hnd:((h.push { cls:=.type "dict",data:=.dict #[] }).update e fun o=>{ o with dict:=some h.objs.size }).Ns h.objs.size (fun _=>none):=⟨_,#[],_,hgd,rfl,fun e he=>absurd he (by simp),fun _=>rfl⟩
 show wpAny _ _ (Builtin.ObjectAttr.storeInDict h.objs.size (.str name tk) name v) _ _ _
 unfold Builtin.ObjectAttr.storeInDict Builtin.ObjectAttr.newKeyGuard
 refine wpAny_bind (wpAny_pure (wpAny_bind (wpAny_nsSet1 (Heap.Ns1.of_empty hnd) fun h' hn' hs=>?_)))
 obtain ⟨oD,esD,epD,hoD,hdD,hcD⟩:=hn'.count (Within.cons name v Within.nil)
 refine wpAny_bind (wpAny_lookBehind hoD (by rw [hdD]; exact pastItsLine_dict (Nat.le_trans hcD (by rw [List.length_cons,List.length_nil,sizeLine_eq]; omega))) ?_)
 have hx':h'.get? e=some (xObj C t (some h.objs.size)):=(hs.2 e hxs).trans (Heap.get?_update_self _ hx1 rfl)
 refine wpAny_pure (show wpAny _ _ (pure (some Value.none)) _ _ _ from wpAny_pure (wpAny_pure (hq h' h.objs.size _ (Heap.get?_none_of_le (Nat.le_refl _)) hx' hn' fun b o hb hbo=>?_)))
 exact (hs.2 b (Nat.ne_of_lt (Heap.lt_size hbo))).trans ((Heap.get?_update_ne _ _ _ _ hb).trans (Heap.get?_push_of_some _ hbo))
theorem zoL {x:Value} {Q:Value->Shared->Prop} (hC:h.get? C=some (excClassObj nm ql C N bs bm true sn sub ab col dd k0 k1 k2 k3 k5 "ValueError.__new__")) (T:OwnTail h vErr bm) (he:h.get? e=some (xObj C t none))
  (hq:∀h' t',h'.get? e=some (xObj C t' none)->(∀b o,b≠e->h.get? b=some o->h'.get? b=some o)->Q .none ⟨h',gs,dr,tk,os⟩) :
  wpAny (model prog w) A (call (.builtin "ValueError.__init__") [.ref e,x]) Q E ⟨h,gs,dr,tk,os⟩:=by
 have XF:=PySem.F.excBase_ValueError
 refine wpAny_call (codeAny_call_builtin XF.init.plain XF.initEntry (wpAny_check_init_subT XF T hC he rfl ?_))
 wp_walk
 refine hq _ h.objs.size ?_ fun b o hb hbo=>?_
 ·rw [Heap.get?_update_self _ (Heap.get?_push_of_some _ he) rfl]; rfl
 ·rw [Heap.get?_update_ne _ _ _ _ hb]; exact Heap.get?_push_of_some _ hbo
end
def XR (e C:Addr) (od:Option Addr):Heap->Prop:=fun h=>∃t,h.get? e=some (xObj C t od)
theorem XR.ok {P:Program} {w:World} {H:Hp} {h:Heap} {e C t:Addr} {od:Option Addr} (x:h.get? e=some (xObj C t od)):zbg P w H h e (.ext (XR e C od)):=
 ⟨⟨t,x⟩,⟨_,x⟩,fun h1 h2 ⟨t,q⟩ k=>⟨t,k _ q⟩⟩
structure XI (K:W.Frag) (C:Addr) (bm:List Value) (f:Str):Prop where
 ob:∃N nm q bs sn sub ab col dd k0 k1 k2 k3 k5,K.lookup C=some (excClassObj nm q C N bs bm true sn sub ab col dd k0 k1 k2 k3 k5 "ValueError.__new__")
 tl:∀h,K.In h->OwnTail h vErr bm
 g0:findIn K (.ref C) "__setattr__" = some (some (.builtin "object.__setattr__"))
 g1:findIn K (.ref C) f=some none
structure XT (K:W.Frag) (T:Addr):Prop where
 sp:specialIn K (.ref T) "__getattribute__" = some (some (.builtin "type.__getattribute__"))
 rd:readsIn K T (.type "type")=true
 fc:findCls K (.ref T) (.type "type") "__init__" = some (.val (.builtin "ValueError.__init__"))
section
variable {X:Cx} {e:Expr} {ps:List Expr} {te:TE} {n k:Nat} {c:L2.St->Prop} {pos:Pos} {v₁ v₂:Expr}
def PJ (X:Cx) (ps:List Expr) (n:Nat) (c:L2.St->Prop):Prop:=∀(pins:List (Addr × Obj)) (s:Shared) (σ:L2.St) (H:Hp) (out:Str) (Q:Value->Shared->Prop),Inv X pins σ H s->c σ->out.length + n<=1000000 ->
 (∀x t s',x.length<=sizeLine->Inv X pins σ H s'->Q (.str x t) s')->wpAny (model X.prog X.w) X.A (joinParts out (evalEach ps X.env)) Q X.xe s
theorem zjT:PJ X [] 0 c:=fun pins s σ H out Q I _ hl q=>by
 have hz:out.length<=sizeLine:=by rw [sizeLine_eq]; omega
 exact joinParts_nil (q out _ _ hz (I.tok _)) hz
theorem zjV (he:PE X e te) (hr:PJ X ps n c) (h:∀σ H Q,c σ->(∀x:Str,x.length<=k->Q (.str x) H)->te σ H Q) (hs:evalEach (e::ps) X.env=eval e X.env::evalEach ps X.env:=by rfl):PJ X (e::ps) (k + n) c:=fun pins s σ H out Q I hc hl q=>by
 rw [hs]
 refine joinParts_cons (thn (he pins s σ H (fun x H1=>∃y:Str,y.length<=k/\x=.str y/\H1=H) I (h σ H _ hc fun x hx=>⟨x,hx,rfl,rfl⟩)) fun u s1 ⟨x,H1,I1,r,y,hy,hx,hH⟩=>?_)
 subst hx hH
 obtain ⟨t,rfl⟩:=(show ∃t,u=Value.str y t from r)
 have e1:(out++y).length=out.length + y.length:=strLen_append _ _
 refine ⟨by rw [sizeLine_eq]; omega,hr pins s1 σ _ _ Q I1 hc (by omega) q⟩
theorem zij {a:Str} {j:Nat} {p:Pos} (hr:PJ X ps n c) (hs:evalEach (.Constant (.str a) j p::ps) X.env=eval (.Constant (.str a) j p) X.env::evalEach ps X.env:=by rfl):PJ X (.Constant (.str a) j p::ps) (a.length + n) c:=
 zjV zmL hr (fun σ H Q _ q=>q a (Nat.le_refl _)) hs
theorem zp6 {tv:TE} (hv:PE X e tv):PE X (.FormattedValue e (-1) none pos) (fun σ H Q=>tv σ H fun x H1=>∃i:Int,x=.int i/\i.natAbs.log2 < 64/\∀z:Str,z.length<=65->Q (.str z) H1):=by
 intro pins s σ H Q I h
 refine FormattedValue_plain (thn (hv pins s σ H _ I h) fun u s1 ⟨x,H1,I1,r,i,hx,hi,q⟩=>?_)
 subst hx
 obtain ⟨t,rfl⟩:=(show ∃t,u=Value.int i t from r)
 refine formatField_int_small (by omega) ⟨.str (Str.ofString (toString i)),H1,I1.tok _,⟨_,rfl⟩,q _ ?_⟩
 rw [PySem.ofString_length]
 exact int_text_length_le (by omega) hi
theorem zjU {j:Nat} {x:Str} {p:Pos} (hN:X.N[j]? = some x) (hv:Vis X.env.scope x) (hr:PJ X ps n c) (hc:∀σ,c σ->∃i:Int,σ[j]? = some (some (.int i))/\i.natAbs.log2 < 64) (hd:(x == ("__debug__" : Str))=false:=by decide) (hcd:(x == ("__classdict__" : Str))=false:=by decide)
  (hs:evalEach (.FormattedValue (.Name x p) (-1) none pos::ps) X.env=eval (.FormattedValue (.Name x p) (-1) none pos) X.env::evalEach ps X.env:=by rfl):PJ X (.FormattedValue (.Name x p) (-1) none pos::ps) (65 + n) c:=
 zjV (zp6 (zcf hN hv hd hcd)) hr (fun σ H Q h q=>by
  obtain ⟨i,e1,e2⟩:=hc σ h
  exact ⟨_,e1,i,rfl,e2,q⟩) hs
theorem znP (h:PJ X (v₁::v₂::ps) n c) (hn:n<=1000000) (hs:evalEach (v₁::v₂::ps) X.env=eval v₁ X.env::eval v₂ X.env::evalEach ps X.env:=by rfl):PE X (.JoinedStr (v₁::v₂::ps) pos) (fun σ H Q=>c σ/\∀x:Str,x.length<=sizeLine->Q (.str x) H):=by
 intro pins s σ H Q I ⟨hc,q⟩
 refine JoinedStr_many ?_
 have:=h pins s σ H Str.empty (EP X pins σ Q) I hc (by show 0 + n<=_; omega) fun x t s' hx I'=>⟨.str x,H,I',⟨t,rfl⟩,q x hx⟩
 rw [hs] at this
 exact this
end
section
variable {X:Cx} {a:Expr} {as:List Expr} {t:TA} {x:Str} {T:Addr} {p apos pos:Pos} {pl:Sem Bool}
theorem zhM (hg:Gl X x) (hm:X.mg x=some (.ref T)) (hT:XT X.K T) (ha:PA X (a::as) t) (hdb:(x == ("__debug__" : Str))=false:=by decide)
  (ht:eval (.Call (.Attribute (.Name x p) "__init__" apos) (a::as) [] pos) X.env=(do
   let ov <-eval (.Name x p) X.env
   standAt apos.atName
   let (f,first) <-holding [ov] (getMethod ov "__init__" pl)
   callWith pos f first (backTo pos (starEach (a::as) X.env)) (backToKw pos (keywordEach [] X.env))):=by rfl)
  (hs:starEach (a::as) X.env=(false,eval a X.env)::starEach as X.env:=by rfl) (hplain:(backTo pos (starEach as X.env)).any (·.1)=false:=by rfl) :
  PE X (.Call (.Attribute (.Name x p) "__init__" apos) (a::as) [] pos) (fun σ H Q=>t σ H fun vs H1=>∃e C bm f y,vs=[.ref e,y]/\H1 e=some (.ext (XR e C none))/\XI X.K C bm f/\Q .non H1):=by
 intro pins s σ H Q I h
 refine methodCall_KW (pl:=pl) (zdi I hg hm ?_ hdb) ht
 refine method_cls I.kIn hT.sp (cls_value (mc:=.type "type") I.kIn hT.rd hT.fc rfl ?_)
 have I0:=I.tok (s.toks + 1)
 have hA:=ha pos pins _ σ H _ I0 h
 rw [hs] at hA ⊢
 refine Calls.callWith_builtin (by show (false || (backTo pos (starEach as X.env)).any (·.1))=false; rw [hplain] <;> rfl) (Calls.evalArgs_plain ?_)
 refine thn hA fun us s1 ⟨vs,H1,I1,r,e,C,bm,f,y,hv,he,xi,q⟩=>?_
 subst hv
 obtain ⟨u,z,rfl,r1,r2⟩:=zlj r
 cases (show u=Value.ref e from r1)
 obtain ⟨⟨t,g1⟩,_,_⟩:=I1.hok e _ he
 obtain ⟨N,nm,ql,bs,sn,sub,ab,col,dd,k0,k1,k2,k3,k5,ob⟩:=xi.ob
 refine zoL (I1.kIn _ _ ob) (xi.tl _ I1.kIn) g1 fun h' t' g2 g3=>⟨.non,H1,?_,rfl,q⟩
 have:=I1.write (x:=e) (e:=e) (o:=.ext (XR e C none)) (h':=h') (t':=s1.toks) (by rw [he]; trivial) (.inl rfl) g3 ⟨_,g2⟩ (XR.ok g2)
 rw [show upd H1 e (.ext (XR e C none))=H1 from by funext b; unfold upd; split <;> simp_all] at this
 exact this
theorem zhL {o v:Expr} {f:Str} {to tv:TE} {p':Pos} (ho:PE X o to) (hv:PE X v tv) (hs:swapsWith v (some (.Attribute o f p')) pos.line X.env=pure false:=by rfl) :
  PS X (.Assign [.Attribute o f p'] v pos) (fun D σ H=>tv σ H fun y H1=>to σ H1 fun x H2=>∃e C bm,x=.ref e/\H2 e=some (.ext (XR e C none))/\XI X.K C bm f/\∀dx,H2 dx=none->dx≠e->D.nx σ (upd (upd H2 dx (.xd [(f,y)])) e (.ext (XR e C (some dx))))):=by
 intro pins s σ H D I h
 refine plainObj_wpAny_Assign_Attribute (thn (hv pins s σ H _ I h) fun u s1 ⟨y,H1,I1,ry,q⟩=>thn (ho pins s1 σ H1 _ I1 q) fun ov s2 ⟨x,H2,I2,rx,e,C,bm,ex,he,xi,q2⟩=>?_) hs
 subst ex
 obtain rfl:ov=Value.ref e:=rx
 obtain ⟨⟨t,g1⟩,_,_⟩:=I2.hok e _ he
 obtain ⟨N,nm,ql,bs,sn,sub,ab,col,dd,k0,k1,k2,k3,k5,ob⟩:=xi.ob
 refine setx I2.kIn (I2.kIn _ _ ob) (xi.tl _ I2.kIn) g1 xi.g0 xi.g1 fun h' dx tk' n1 n2 n3 n4=>?_
 have hdx:H2 dx=none:=by
  cases z:H2 dx with
  | none=>rfl
  | some ho=>obtain ⟨o,z2⟩:=zio (I2.hok dx _ z); rw [n1] at z2; cases z2
 have hde:dx≠e:=fun z=>by rw [z,g1] at n1; cases n1
 have old:∀b u,H2 b=some u->b≠e->upd (upd H2 dx (.xd [(f,y)])) e (.ext (XR e C (some dx))) b=some u:=fun b u hb hne=>by
  rw [zal hne,zal (fun z=>by rw [z,hdx] at hb; cases hb)]; exact hb
 refine ⟨σ,upd (upd H2 dx (.xd [(f,y)])) e (.ext (XR e C (some dx))),?_,q2 dx hdx hde⟩
 refine I2.call' (ch:=[]) rfl ⟨fun b o hb hn _ _=>n4 b o (fun z=>by rw [z,he] at hn; cases hn) hb,fun b o hb hn _ _=>⟨o.slots,n4 b o (fun z=>by rw [z,he] at hn; cases hn) hb⟩,fun b o hb hn _=>?_,fun b o hb _=>?_,fun b xs hb=>old b _ hb (fun z=>by rw [z,he] at hb; cases hb),fun b o u hb=>old b _ hb (fun z=>by rw [z,he] at hb; cases hb),fun b ps hb=>⟨#[],by simpa using old b _ hb (fun z=>by rw [z,he] at hb; cases hb)⟩⟩ (fun b u hb=>?_) I2.bare fun b hb=>absurd hb (by simp)
 ·rw [zal (fun z=>by rw [z,he] at hn; cases hn),zal (fun z=>by rw [z,n1] at hb; cases hb)]; exact hn
 ·by_cases z:b=e
  ·exact ⟨_,by rw [z]; exact n2⟩
  ·exact ⟨o,n4 b o z hb⟩
 ·by_cases z:b=e
  ·subst z
   rw [zam] at hb; cases hb
   exact XR.ok n2
  ·rw [zal z] at hb
   by_cases z2:b=dx
   ·subst z2
    rw [zam] at hb; cases hb
    refine ⟨_,n3,fun g=>?_⟩
    show RelO (List.lookup g [(f,y)]) _
    rw [List.lookup]
    by_cases hg:g=f
    ·subst hg
     simp only [beq_self_eq_true,if_pos]
     exact ry
    ·rw [show (g == f)=false from by simpa using hg,if_neg hg]
     exact True.intro
   ·rw [zal z2] at hb
    refine (I2.hok b u hb).stay (fun c v hc hcv=>n4 c v (fun zz=>?_) hcv) (fun c hc=>old c _ hc fun zz=>by rw [zz,he] at hc; cases hc) fun c xs hc=>old c _ hc fun zz=>by rw [zz,he] at hc; cases hc
    rcases hc with rfl | hc
    ·exact z zz
    ·rw [zz,he] at hc; cases hc
end
theorem zr0 {K:W.Frag} {h:Heap} {N:Addr} {mg:Str->Option Value} {n:Str} {v:Value} (X:K.In h) (G:h.Ns N mg) (e:nsIn K N n=some (some v)):mg n=some v:=by
 obtain ⟨o,es,ep,ho,hd,_,hf⟩:=G
 unfold nsIn at e
 split at e
 ·rename_i c d es' n' sl q
  have hx:=X _ _ q
  rw [ho] at hx
  cases hx
  cases hd
  split at e
  ·rename_i en he
   rw [<-hf]
   unfold nsFind findBy
   rw [<-Array.find?_toList,he]
   first | exact Option.some.inj e | (cases e; rfl)
  ·split at e <;> cases e
 ·cases e
def spI (C:Addr) (f:Str):Sp:=fun vs H Q _=>∃e i,vs=[.ref e,.int i]/\i.natAbs.log2 < 64/\H e=some (.ext (XR e C none))/\∀dx,H dx=none->dx≠e->Q .non (upd (upd H dx (.xd [(f,.int i)])) e (.ext (XR e C (some dx))))
def cI (σ:L2.St):Prop:=∃i:Int,σ[1]? = some (some (.int i))/\i.natAbs.log2 < 64
def tIni (K:W.Frag) (f:Str):TS:=tSeq (zpc (fun σ H Q=>znk (tVar 0) (znk (fun σ H Q=>cI σ/\∀x:Str,x.length<=sizeLine->Q (.str x) H) tNil) σ H fun vs H1=>∃e C bm f y,vs=[.ref e,y]/\H1 e=some (.ext (XR e C none))/\XI K C bm f/\Q .non H1))
 (fun D σ H=>tVar 1 σ H fun y H1=>tVar 0 σ H1 fun x H2=>∃e C bm,x=.ref e/\H2 e=some (.ext (XR e C none))/\XI K C bm f/\∀dx,H2 dx=none->dx≠e->D.nx σ (upd (upd H2 dx (.xd [(f,y)])) e (.ext (XR e C (some dx)))))
theorem zhV {P:Program} {w:World} {K:W.Frag} {mg:Str->Option Value} {base:Heap} {qual y f:Str} {st:Stmt} {fI C:Addr} {fd:FuncData} {bm:List Value} {k:Nat} (F:Fun K "__init__" qual st fI fd) (S:FnScope ["self",y] ["self",y] (defScope st)) (xi:XI K C bm f)
  (hb:∀(cdv:Value) (A:Around) (outer:List Env) (s:Shared) (H:Hp) (E:XK),PSs (cxOf CX0 P w K mg base ["self",y] qual (defScope st) fI cdv A outer s H E).nox (defBody st) (tIni K f)):FnOk P w K mg base CX0 (k + 1) fI fd ["self",y] (spI C f):=by
 refine F.ok S (fun vs H Q E ⟨e,i,h,_⟩=>by rw [h]; rfl) fun cdv A outer s H vs Q E hr ⟨e,i,hv,hi,he,q⟩=>⟨_,hb cdv A outer s H E,?_⟩
 subst hv
 exact ⟨_,rfl,⟨i,rfl,hi⟩,fun x _=>⟨e,C,bm,f,_,rfl,he,xi,_,rfl,_,rfl,e,C,bm,rfl,he,xi,fun dx h1 h2=>q dx h1 h2⟩⟩
structure XCI (P:Program) (w:World) (K:W.Frag) (mg:Str->Option Value) (base:Heap) (x:Str) (C:Addr) (f:Str):Prop where
 bound:mg x=some (.ref C)
 keep:keepIn K (.ref C)=true
 ex:∃bm fI fd y oI N nm ql bs sn sub ab col dd k0 k1 k2 k3 k5,XI K C bm f/\K.lookup C=some (excClassObj nm ql C N bs bm true sn sub ab col dd k0 k1 k2 k3 k5 "ValueError.__new__")/\nsOkIn K N=true/\nsIn K N "__init__" = some (some (.ref fI))/\K.lookup fI=some oI/\oI.cls=.type "function" /\
  zdB K fd ["self",y] []/\FnOk P w K mg base CX0 1 fI fd ["self",y] (spI C f)
section
variable {X:Cx} {pins:List (Addr × Obj)} {σ:L2.St} {H:Hp} {s:Shared}
theorem Inv.exc {h':Heap} {e C:Addr} {vs:List Value} (I:Inv X pins σ H s) (m:s.heap.MadeExcOf h' e (.ref C) vs):H e=none/\Inv X pins σ (upd H e (.ext (XR e C none))) { heap:=h',gens:=s.gens,drawn:=s.drawn,toks:=s.toks,os:=s.os }:=by
 obtain ⟨t,m1,m2,m3⟩:=m.there
 have hn:H e=none:=by
  cases z:H e with
  | none=>rfl
  | some u=>obtain ⟨o,z2⟩:=zio (I.hok e u z); rw [m.new] at z2; cases z2
 have old:∀b u,H b=some u->upd H e (.ext (XR e C none)) b=some u:=fun b u hb=>by rw [zal (fun z=>by rw [z,hn] at hb; cases hb)]; exact hb
 refine ⟨hn,I.call' (ch:=[]) rfl ⟨fun b o hb _ _ _=>m.keeps b o hb,fun b o hb _ _ _=>⟨o.slots,m.keeps b o hb⟩,fun b o hb hz _=>?_,fun b o hb _=>⟨o,m.keeps b o hb⟩,fun b xs hb=>old b _ hb,fun b o u hb=>old b _ hb,fun b ps hb=>⟨#[],by simpa using old b _ hb⟩⟩ (fun b u hb=>?_) I.bare fun b hb=>absurd hb (by simp)⟩
 ·rw [zal (fun z=>by rw [z,m.new] at hb; cases hb)]; exact hz
 ·by_cases z:b=e
  ·subst z
   rw [zam] at hb; cases hb
   exact XR.ok m1
  ·rw [zal z] at hb
   exact (I.hok b u hb).stay (fun c v _ hc=>m.keeps c v hc) (fun c hc=>old c _ hc) fun c xs hc=>old c _ hc
theorem Fly.init {s':Shared} {h':Heap} {e C dx:Addr} {vs:List Value} {f:Str} {y:V} (I:Inv X pins σ H s) (m:s.heap.MadeExcOf h' e (.ref C) vs) (os:s'.os=s.os) (bare:AllBare s'.gens)
  (un:Un (frs X.stack) [] (upd H e (.ext (XR e C none))) (upd (upd (upd H e (.ext (XR e C none))) dx (.xd [(f,y)])) e (.ext (XR e C (some dx)))) h' s'.heap)
  (hok:HOk X.prog X.w (upd (upd (upd H e (.ext (XR e C none))) dx (.xd [(f,y)])) e (.ext (XR e C (some dx)))) s'.heap) (hdx:upd H e (.ext (XR e C none)) dx=none) (hde:dx≠e) :
  H dx=none/\Fly X.prog X.w X.stack H s (upd H dx (.xd [(f,y)])) e (.ref C) (some dx) s':=by
 obtain ⟨hn,I2⟩:=Inv.exc I m
 have hd:H dx=none:=by rw [zal hde] at hdx; exact hdx
 have ne:∀b o,s.heap.get? b=some o->b≠e:=fun b o hb z=>by rw [z,m.new] at hb; cases hb
 have up:∀b,b≠e->upd (upd (upd H e (.ext (XR e C none))) dx (.xd [(f,y)])) e (.ext (XR e C (some dx))) b=upd H dx (.xd [(f,y)]) b:=fun b hb=>by
  rw [zal hb]
  by_cases z:b=dx
  ·subst z; rw [zam,zam]
  ·rw [zal z,zal z,zal hb]
 have up0:∀b,b≠e->upd H e (.ext (XR e C none)) b=H b:=fun b hb=>zal hb
 have he2:upd H dx (.xd [(f,y)]) e=none:=by rw [zal hde.symm]; exact hn
 have inn:∀b u,upd H dx (.xd [(f,y)]) b=some u->b≠e:=fun b u hb z=>by rw [z,he2] at hb; cases hb
 obtain ⟨⟨t,g1⟩,_,_⟩:=hok e _ zam
 have un2:Un (frs X.stack) [] H (upd H dx (.xd [(f,y)])) s.heap s'.heap:=by
  refine ⟨fun b o hb hz hf hx=>un.keep b o (m.keeps b o hb) (by rw [up0 b (ne b o hb)]; exact hz) hf hx,fun b o hb hz hf hx=>un.slot b o (m.keeps b o hb) (by rw [up0 b (ne b o hb)]; exact hz) hf hx,fun b o hb hz hx=>?_,fun b o hb hx=>un.there b o (m.keeps b o hb) hx,fun b xs hb=>?_,fun b o u hb=>?_,fun b ps hb=>?_⟩
  ·rw [<-up b (ne b o hb)]; exact un.free b o (m.keeps b o hb) (by rw [up0 b (ne b o hb)]; exact hz) hx
  ·have hbe:b≠e:=fun z=>by rw [z,hn] at hb; cases hb
   rw [<-up b hbe]; exact un.tups b xs (by rw [up0 b hbe]; exact hb)
  ·have hbe:b≠e:=fun z=>by rw [z,hn] at hb; cases hb
   rw [<-up b hbe]; exact un.frzs b o u (by rw [up0 b hbe]; exact hb)
  ·have hbe:b≠e:=fun z=>by rw [z,hn] at hb; cases hb
   rw [<-up b hbe]; exact un.tbls b ps (by rw [up0 b hbe]; exact hb)
 have hok2:HOk X.prog X.w (upd H dx (.xd [(f,y)])) s'.heap:=fun b u hb=>by
  refine (hok b u (by rw [up b (inn b u hb)]; exact hb)).stay (fun c v _ hc=>hc) (fun c hc=>?_) fun c xs hc=>?_
  ·have:c≠e:=fun z=>by rw [z,zam] at hc; cases hc
   rw [<-up c this]; exact hc
  ·have:c≠e:=fun z=>by rw [z,zam] at hc; cases hc
   rw [<-up c this]; exact hc
 refine ⟨hd,os,bare,un2,hok2,hideAll s'.heap (e::frs X.stack),fun b o hb=>of_hideAll _ hb,hideAll_none _ List.mem_cons_self,?_,⟨_,_,g1,rfl,fun d hd=>by cases hd; rfl,rfl,.inl rfl⟩,fun b o hb hf=>?_,fun b u hb=>?_⟩
 ·have key:∀l:List Env,(∀b∈frs l,b∈frs X.stack)->s.heap.FunFrames X.base l->s'.heap.FunFrames (hideAll s'.heap (e::frs X.stack)) l:=by
   intro l
   induction l with
   | nil=>intro _ _; unfold Heap.FunFrames; trivial
   | cons env l ih=>
    intro hs hf
    unfold Heap.FunFrames at hf ⊢
    obtain ⟨f1,⟨L,o,f2,f3,f4,f5⟩,f6⟩:=hf
    have hL:L∈frs X.stack:=hs L (by unfold frs; rw [List.filterMap_cons,f2]; exact List.mem_cons_self)
    obtain ⟨sl,hsl⟩:=un2.slot L o f4 (I.stkFree L hL) hL (by simp)
    refine ⟨f1,⟨L,_,f2,hideAll_none _ (List.mem_cons_of_mem _ hL),hsl,f5⟩,ih (fun b hb=>hs b ?_) f6⟩
    unfold frs; rw [List.filterMap_cons,f2]; exact List.mem_cons_of_mem _ hb
  exact key X.stack (fun _ hb=>hb) I.stack
 ·obtain ⟨o',ho'⟩:=un2.there b o hb (by simp)
  exact ⟨o',hideAll_get _ ho' fun z=>by
   rcases List.mem_cons.mp z with z | z
   ·exact ne b o hb z
   ·exact hf z⟩
 ·obtain ⟨o,eo⟩:=zio (hok2 b u hb)
  refine ⟨o,hideAll_get _ eo fun z=>?_⟩
  rcases List.mem_cons.mp z with z | z
  ·exact inn b u hb z
  ·have h1:=I.stkFree b z
   by_cases zz:b=dx
   ·obtain ⟨_,ob,hob,_⟩:=I.stack.mem z
    have:=un2.free b ob hob h1 (by simp)
    rw [this] at hb; cases hb
   ·rw [zal zz,h1] at hb; cases hb
end
section
variable {X:Cx} {pins:List (Addr × Obj)} {σ:L2.St} {H:Hp} {s:Shared} {x f:Str} {C:Addr} {np cpos pos:Pos} {a:Expr} {t:TA}
theorem zjK {Q:Flow->Shared->Prop} (I:Inv X pins σ H s) (hc:X.calm=true) (c:XCI X.prog X.w X.K X.mg X.base x C f) (hr:Room 2 X.A) (hg:Gl X x) (ha:PA X [a] t)
  (h:t σ H fun vs H1=>∃i,vs=[.int i]/\i.natAbs.log2 < 64/\∀s1 e dx s',Inv X pins σ H1 s1->H1 dx=none->Fly X.prog X.w X.stack H1 s1 (upd H1 dx (.xd [(f,.int i)])) e (.ref C) (some dx) s'->X.xe (.ref e) s')
  (hdb:(x == ("__debug__" : Str))=false:=by decide) (he:starEach [a] X.env=(false,eval a X.env)::starEach [] X.env:=by rfl) (hpl:(backTo cpos (starEach [] X.env)).any (·.1)=false:=by rfl) :
  wpAny (model X.prog X.w) X.A (exec (.Raise (some (.Call (.Name x np) [a] [] cpos)) none pos) X.env) Q X.xe s:=by
 obtain ⟨bm,fI,fd,y,oI,N,nm,ql,bs,sn,sub,ab,col,dd,k0,k1,k2,k3,k5,xi,ob,hns,hni,hfI,hfc,hbd,F⟩:=c.ex
 rw [arm_exec_Raise]
 refine wpAny_bind (wpAny_standAt (zlE (C:=C) (nm:=nm) (ql:=ql) (N:=N) (bs:=bs) (bm:=bm) (hdct:=true) (sn:=sn) (sub:=sub) (ab:=ab) (col:=col) (dd:=dd) (k0:=k0) (k1:=k1) (k2:=k2) (k3:=k3) (k5:=k5) (nw := "ValueError.__new__") (zge (xi.tl _ I.kIn) (by decide +kernel)) (I.ok.hd hc)
  (wpAny_bind (wpAny_mono (wpAny_Call_Name_kw (zdi I hg c.bound ?_ hdb)) (fun v s3 h3=>wpAny_bind (wpAny_standAt (wpAny_pure h3))) fun _ _ z=>z))))
 refine callWith_K (h₀:=X.base) I.ok.mod.kin c.keep (thn (ha cpos pins s σ H _ I h) fun us s1 ⟨vs,H1,I1,r,i,hv,hi,q⟩=>⟨I1.kIn,?_⟩) he hpl
 subst hv
 obtain ⟨u,rfl,ru⟩:=r.one
 obtain ⟨hp,gs,dr,tk,os⟩:=s1
 refine zk6 (us:=[u]) PySem.F.excBase_ValueError (xi.tl _ I1.kIn) (I1.kIn _ _ ob) (Heap.Ns.of_isNs (isNs_of_in I1.kIn hns)) ?_ (I1.kIn _ _ hfI) hfc (by rw [sizeLine_eq]; show 1<=16777216; decide) fun h' e m=>?_
 ·exact zr0 I1.kIn (Heap.Ns.of_isNs (isNs_of_in I1.kIn hns)) hni
 obtain ⟨hn,I2⟩:=Inv.exc I1 m
 have e0:=I2.env0.make C [u] []
 refine wpAny_call (codeAny_mono (F.run _ X.stack _ _ ⟨[.ref e,u],[]⟩ [.ref e,u] [.ref e,.int i] (fun v H'=>v=.non/\∃dx,upd H1 e (.ext (XR e C none)) dx=none/\dx≠e/\H'=upd (upd (upd H1 e (.ext (XR e C none))) dx (.xd [(f,.int i)])) e (.ext (XR e C (some dx)))) (fun _ _ _=>False) (hr.make C [u] []) e0 (hbd _ [.ref e,u] I2.kIn rfl) (.cons rfl (.cons ru .nil)) ⟨e,i,rfl,hi,zam,fun dx h1 h2=>⟨rfl,dx,h1,h2,rfl⟩⟩) fun r s' hq=>?_)
 cases r with
 | error e=>exact False.elim hq
 | ok fl=>
  cases fl with
  | ret z=>
   obtain ⟨v,H',o1,o2,o3,o4,o5,rfl,dx,d1,d2,rfl⟩:=hq
   obtain ⟨hd,fl⟩:=Fly.init I1 m o1 o2 o3 o4 d1 d2
   obtain ⟨⟨t,g1⟩,_,_⟩:=o4 e _ zam
   exact ⟨o5,e,t,some dx,rfl,(I1.call' (ch:=[]) fl.os fl.un fl.hok fl.bare (fun b z=>absurd z (by simp))).kIn _ _ ob,g1,q _ e dx s' I1 hd fl⟩
  | next=>exact False.elim hq
  | brk=>exact False.elim hq
  | cont=>exact False.elim hq
end
def zg0 (m:List Md) (nm f:Str) (fl:Rho->Res (List D)):FS:=fun r=>onE m r (fl r) fun ds=>match ds with
 | [.int i]=>if i.natAbs.log2 < 64 then .exc (xD nm [(f,.int i)]) (forget m r) else .stuck
 | _=>.stuck
section
variable {X:Cx} {g:GE} {ro:Bool} {m mb:List Md} {a e:Expr} {fl:Rho->Res (List D)} {fe:FE} {x f nm:Str} {C:Addr} {p np pos:Pos}
theorem zea (hc:X.calm=true) (c:XCI X.prog X.w X.K X.mg X.base x C f) (xn:XN X.K nm C) (hr:Room 2 X.A) (hg:Gl X x) (ha:SA X g m [a] fl) (hdb:(x == ("__debug__" : Str))=false:=by decide)
  (he:starEach [a] X.env=(false,eval a X.env)::starEach [] X.env:=by rfl) (hpl:(backTo p (starEach [] X.env)).any (·.1)=false:=by rfl) :
  SS X g ro mb m (.Raise (some (.Call (.Name x np) [a] [] p)) none pos) (zg0 m nm f fl) m:=by
 refine ⟨rfl,fun pins s σ H D I ⟨r,G,si,q⟩=>?_⟩
 refine zjK I hc c hr hg ha ⟨r,G,si,?_⟩ hdb he hpl
 refine zag (zbs si rfl q) fun ds q vs G' H' w' rs=>?_
 split at q
 ·rename_i i
  split at q
  ·rename_i hi
   cases rs with
   | cons r1 rest=>
    cases rest
    have hv:=r1.int w'.ok
    subst hv
    refine ⟨i,rfl,hi,fun s1 e dx s' I1 hd fl=>?_⟩
    have gw:Grow X.K G' H' (gset G' dx (.obj 1 [(f,.int i)])) (upd H' dx (.xd [(f,.int i)])):=Grow.newF w'.ok hd (OB.fld zam (.cons ⟨rfl,.scl (.int i)⟩ .nil))
    exact q pins (.ref e) s' σ _ _ (w'.trans gw).ge (by have:=(si.grow (w'.trans gw)).forget; exact this) (fl.inv I1) ⟨pins,s1,H',e,C,some dx,nm,[(f,.int i)],rfl,rfl,xn,zaq,I1,fl⟩
  ·exact q.elim
 ·exact q.elim
def xatD (hit:Str->Bool) (f:Str):D->Option D
 | .obj 0 ((_,.str nm)::ds)=>if hit nm=true then ds.lookup f else none
 | _=>none
def zjd (K:W.Frag) (f:Str) (hit:Str->Bool):Prop:=∀nm C,hit nm=true->XN K nm C->∃bm,XA K C bm/\XI K C bm f
theorem zpY {ta:TE} (he:PE X e ta) (hb:attributeBase e f X.env (eval e X.env)=eval e X.env):PE X (.Attribute e f pos) (fun σ H Q=>ta σ H fun x H1=>∃a C bm dx fs v,x=.ref a/\H1 a=some (.ext (XcO a C (some dx)))/\XA X.K C bm/\XI X.K C bm f/\H1 dx=some (.xd fs)/\fs.lookup f=some v /\
  (∀u,RelV v u->handedIn u=true)/\Q v H1):=by
 intro pins s σ H Q I h
 refine zoO hb (thn (he pins s σ H _ I h) fun u s1 ⟨x,H1,I1,rx,a,C,bm,dx,fs,v,ex,ea,xa,xi,ed,l,hh,q⟩=>?_)
 subst ex
 obtain rfl:u=Value.ref a:=rx
 obtain ⟨⟨oe,vs,o1,o2,o3,o4⟩,_,_⟩:=I1.hok a _ ea
 obtain ⟨N,nm,ql,bs,sn,sub,ab,col,dd,k0,k1,k2,k3,k5,ob⟩:=xi.ob
 obtain ⟨mA,n1,n2⟩:=I1.hok dx _ ed
 have n3:=n2 f
 rw [l] at n3
 unfold getAttr
 refine wpAny_bind (wpAny_mkText ?_)
 cases hm:mA f with
 | none=>rw [hm] at n3; exact False.elim n3
 | some z=>
  rw [hm] at n3
  exact zk8 (s:={ heap:=s1.heap,gens:=s1.gens,drawn:=s1.drawn,toks:=s1.toks + 1,os:=s1.os }) I1.kIn (I1.kIn _ _ ob) o1 o2 xa.be xa.ga xa.gn (zqX (s:={ heap:=s1.heap,gens:=s1.gens,drawn:=s1.drawn,toks:=s1.toks + 1,os:=s1.os }) I1.kIn (I1.kIn _ _ ob) o1 o2 o4 (o3 dx rfl) n1.ns xi.g1 hm (handedOut_of (hh z n3)) ⟨v,H1,I1.tok _,n3,q⟩)
theorem RFs.look {K:W.Frag} {G:GH} {fs:List (Str × V)} {ds:List (Str × D)} {d:D} (h:RFs K G fs ds) (l:ds.lookup f=some d):∃v,fs.lookup f=some v/\RG K G v d:=by
 induction h with
 | nil=>cases l
 | @cons p q fs ds r _ ih=>
  obtain ⟨a,v⟩:=p
  obtain ⟨b,d'⟩:=q
  obtain ⟨r1,r2⟩:=r
  have r1:a=b:=r1
  subst r1
  rw [List.lookup] at l ⊢
  split at l
  ·rename_i hb
   cases l
   exact ⟨v,rfl,r2⟩
  ·rename_i hb
   exact ih l
theorem znv {hit:Str->Bool} (hx:zjd X.K f hit) (he:SB X g m e fe) (hb:attributeBase e f X.env (eval e X.env)=eval e X.env:=by rfl):SE X g m (.Attribute e f pos) (f1 fe (xatD hit f)):=by
 refine PE.imp (zpY he hb) fun σ H Q ⟨r,G,si,q⟩=>⟨r,G,si,zag (zaf q) fun d q1 v G1 H1 w1 r1=>?_⟩
 obtain ⟨d',e',q2⟩:=zaw q1
 unfold xatD at e'
 split at e'
 ·rename_i k nm ds
  split at e'
  ·rename_i hh
   obtain ⟨a,C,dx,rfl,ha,xn,hG⟩:∃a C dx,v=.ref a/\H1 a=some (.ext (XcO a C (some dx)))/\XN X.K nm C/\G1 dx=some (.obj 1 ds):=by
    rcases r1 with h | ⟨a,rfl,h⟩
    ·cases h with
     | scl s=>cases s
     | ref e2=>
      cases w1.ok _ _ e2 with
      | @exc _ _ od _ r n fl=>
       cases od with
       | none=>cases (show ds=[] from fl); cases e'
       | some dx=>exact ⟨_,_,dx,rfl,r,n,fl⟩
     | kc k=>cases k
    ·cases h.ob
   obtain ⟨bm,xa,xi⟩:=hx nm C hh xn
   cases w1.ok _ _ hG with
   | fld hd rf=>
    obtain ⟨v',l,rv⟩:=rf.look e'
    refine ⟨a,C,bm,dx,_,v',rfl,ha,xa,xi,hd,l,fun u hu=>?_,q2 v' G1 H1 w1 rv⟩
    cases rv with
    | scl s=>cases s <;> first | (obtain ⟨_,rfl⟩:=hu; rfl) | (cases hu; rfl)
    | ref _=>cases (show u=Value.ref _ from hu); rfl
    | kc _=>cases (show u=Value.ref _ from hu); rfl
  ·cases e'
 ·cases e'
end
def nsOf (K:W.Frag) (C:Addr):Option Addr:=match K.lookup C with
 | some ⟨_,_,.cls cd,_⟩=>some cd.ns
 | _=>none
def zkIn (K:W.Frag) (C N:Addr):Bool:=match K.lookup C with
 | some ⟨.type "type",_,.cls cd,sl⟩=>(match cd.mro,sl.toList with
  | .ref C'::bm,[_,_,_,_,some (.builtin n),_]=>C' == C && n == "ValueError.__new__" && ! cd.hasDel && cd.hasDict && tailIn K vErr bm && nsOkIn K cd.ns && cd.ns == N
  | _,_=>false)
 | _=>false
theorem zrs {K:W.Frag} {C N:Addr} (h:zkIn K C N=true):∃bm,(∃nm q bs sn sub ab col dd k0 k1 k2 k3 k5,K.lookup C=some (excClassObj nm q C N bs bm true sn sub ab col dd k0 k1 k2 k3 k5 "ValueError.__new__"))/\tailIn K vErr bm=true/\nsOkIn K N=true:=by
 unfold zkIn at h
 split at h
 ·rename_i dict cd sl hk
  split at h
  ·rename_i C' bm k0 k1 k2 k3 n k5 hm hs
   simp only [Bool.and_eq_true,beq_iff_eq,Bool.not_eq_true'] at h
   obtain ⟨⟨⟨⟨⟨⟨rfl,rfl⟩,hd⟩,hx⟩,ht⟩,hn⟩,rfl⟩:=h
   obtain ⟨nm',bs,mro,ns,q,hdct,sn,sub,ab,col,hdel⟩:=cd
   have e1:mro=Value.ref C'::bm:=hm
   have e2:hdel=false:=hd
   have e4:hdct=true:=hx
   subst e1 e2 e4
   have e3:sl = #[k0,k1,k2,k3,some (Value.builtin "ValueError.__new__"),k5]:=by
    cases sl with
    | mk l=>exact congrArg Array.mk hs
   subst e3
   exact ⟨bm,⟨_,_,_,_,_,_,_,_,_,_,_,_,_,hk⟩,ht,hn⟩
  ·cases h
 ·cases h
theorem zoX {K:W.Frag} {C N:Addr} {bm:List Value} {nm:Str} (h:zkIn K C N=true) (o:xoIn K C=some (bm,nm)):(∃nm q bs sn sub ab col dd k0 k1 k2 k3 k5,K.lookup C=some (excClassObj nm q C N bs bm true sn sub ab col dd k0 k1 k2 k3 k5 "ValueError.__new__"))/\tailIn K vErr bm=true/\nsOkIn K N=true:=by
 obtain ⟨bm',⟨nm',q,bs,sn,sub,ab,col,dd,k0,k1,k2,k3,k5,h1⟩,h2,h3⟩:=zrs h
 obtain ⟨⟨N1,nm1,q1,bs1,hd1,sn1,sub1,ab1,col1,dd1,a0,a1,a2,a3,a5,nw1,z1⟩,_⟩:=znb o
 rw [h1] at z1
 have:bm'=bm:=by
  have e1:=congrArg Obj.data (Option.some.inj z1)
  have e2:=Data.cls.inj e1
  have e3:=congrArg ClassData.mro e2
  exact (List.cons.inj e3).2
 subst this
 exact ⟨⟨_,_,_,_,_,_,_,_,_,_,_,_,_,h1⟩,h2,h3⟩
theorem zsy {K:W.Frag} {C N:Addr} {bm:List Value} {nm f:Str} (h:zkIn K C N=true) (o:xoIn K C=some (bm,nm)) (g0:findIn K (.ref C) "__setattr__" = some (some (.builtin "object.__setattr__"))) (g1:findIn K (.ref C) f=some none):XI K C bm f:=by
 obtain ⟨⟨nm',q,bs,sn,sub,ab,col,dd,k0,k1,k2,k3,k5,h1⟩,h2,h3⟩:=zoX h o
 exact ⟨⟨N,nm',q,bs,sn,sub,ab,col,dd,k0,k1,k2,k3,k5,h1⟩,fun h kin=>tail_of_in kin h2,g0,g1⟩
theorem zsp {P:Program} {w:World} {K:W.Frag} {h:Heap} {mg:Str->Option Value} {x y f qual nm:Str} {C N fI:Addr} {bm:List Value} {st:Stmt} {fd:FuncData} (KX:K.In h) (G:h.Ns mainGlobals mg) (a:nsIn K mainGlobals x=some (some (.ref C))) (kp:keepIn K (.ref C)=true)
  (z:zkIn K C N=true) (o:xoIn K C=some (bm,nm)) (xi:XI K C bm f) (i:nsIn K N "__init__" = some (some (.ref fI))) (F:Fun K "__init__" qual st fI fd) (fc:typeIn K (.ref fI)=some (.type "function"))
  (hb:∀(kV doc pm:Value) (an:Option Addr) (cdv ct:Value) (us:List Value),us.length=([("self" : Str),y]).length->bindArgs (W.fnOf "__init__" qual (defArgs st) (defBody st) (defScope st) .none kV doc pm an cdv ct) ⟨us,[]⟩=pure (([("self" : Str),y]).zip us))
  (ok:∀base,FnOk P w K mg base CX0 1 fI fd ["self",y] (spI C f)) (base:Heap):XCI P w K mg base x C f:=by
 obtain ⟨⟨nm',q,bs,sn,sub,ab,col,dd,k0,k1,k2,k3,k5,h1⟩,h2,h3⟩:=zoX z o
 obtain ⟨oI,lI,hI⟩:=Option.map_eq_some_iff.mp (show (K.lookup fI).map (·.cls)=some (.type "function") from fc)
 exact ⟨mg_of KX G a,kp,bm,fI,fd,y,oI,N,nm',q,bs,sn,sub,ab,col,dd,k0,k1,k2,k3,k5,xi,h1,h3,i,lI,hI,F.binds hb,ok base⟩
def zkJ (s:Stmt):Stmt:=match s with
 | .ClassDef _ _ _ (d::_) _ _ _ _ _ _ _=>d
 | _=>s
theorem zsx {K:W.Frag} {f:Str} {hit:Str->Bool} (l:List (Str × Addr × List Value)) (h:∀q∈l,CF K q.1 q.2.1 q.2.2/\XI K q.2.1 q.2.2 f) (hh:∀nm,hit nm=true->∃q∈l,q.1=nm):zjd K f hit:=by
 intro nm C hn xn
 obtain ⟨q,hq,rfl⟩:=hh nm hn
 obtain ⟨c,xi⟩:=h q hq
 have:=c.eq xn
 subst this
 exact ⟨_,c.xa,xi⟩
section
variable {X:Cx} {pins:List (Addr × Obj)} {σ:L2.St} {H H':Hp} {s s':Shared} {a:Addr} {cls:Value} {od:Option Addr}
theorem Fly.looped {M:Model} {E:Value->Shared->Prop} (F:Fly X.prog X.w X.stack H s H' a cls od s') (I:L2.Inv X pins σ H s) (hst:X.stack=X.env::X.outer) (hfr:X.env.frame=some X.env.locals)
  (q:∀s'',Fly X.prog X.w X.stack H s H' a cls od s''->E (.ref a) s''):notedBy M X.A X.env (cameBackBy M X.A X.env E) (.ref a) s':=by
 obtain ⟨B,hB,hBa,hff,⟨oe,vs,r1,r2,r3,r4,r5⟩,hd,hH⟩:=F.ex
 have hHa:H' a=none:=by
  cases e:H' a with
  | none=>rfl
  | some u=>obtain ⟨o',z⟩:=hH a u e; rw [hBa] at z; cases z
 have haf:a∉frs X.stack:=fun z=>by
  obtain ⟨_,o,e1,nf⟩:=hff.mem z
  rw [r1] at e1; cases e1
  exact nf vs r4
 have hs1:1 < vs.size:=by
  rcases r5 with z | ⟨_,_,_,z,_⟩ | ⟨_,_,_,_,_,z,_⟩ <;> exact (Array.getElem?_eq_some_iff.mp z).1
 have fin:∀(T:Option Addr) h',(∀b,T=some b->B.get? b=none)->Lft (frs (X.env::X.outer)) a oe vs T (rawInt ↑X.env.locals) s'.heap h'->E (.ref a) { heap:=h',gens:=s'.gens,drawn:=s'.drawn,toks:=s'.toks,os:=s'.os }:=fun T h' hT l=>by
  rw [<-hst] at l
  have same:∀b o,(∃o',B.get? b=some o')->s'.heap.get? b=some o->h'.get? b=some o:=fun b o ⟨o',e⟩ h=>by
   refine l.keep b o (fun z=>?_) (fun z=>by rw [z,hBa] at e; cases e) (fun z=>by rw [hT b z] at e; cases e) h
   rw [(hff.mem z).1] at e
   cases e
  obtain ⟨tb,ot,ts,t1,t2,t3,t4,t5,t6⟩:=l.obj
  have htB:B.get? tb=none:=by
   rcases t1 with t1 | t1
   ·cases z:B.get? tb with
    | none=>rfl
    | some o=>have:=hB tb o z; rw [t1] at this; cases this
   ·exact hT tb t1
  have hok1:HOk X.prog X.w H' h':=fun b u e=>by
   refine (F.hok b u e).stay (fun c v hc e1=>same c v ?_ e1) (fun _ z=>z) fun _ _ z=>z
   rcases hc with hc | hc
   ·rw [hc]; exact hH b u e
   ·exact hH c _ hc
  refine q _ ⟨F.os,F.bare,⟨fun b o e n f z=>?_,fun b o e n f z=>?_,F.un.free,fun b o e z=>?_,F.un.tups,F.un.frzs,F.un.tbls⟩,hok1,B,fun b o e=>same b o ⟨o,e⟩ (hB b o e),hBa,hff.of_keeps fun b o e nf=>?_,
   ⟨_,_,t3,r2,r3,rfl,.inr (.inr ⟨X.env.locals,tb,ot,ts,by unfold topF; rw [hst]; exact hfr,Array.getElem?_setIfInBounds_self_of_lt hs1,htB,t2,t4,t5,t6⟩)⟩,hd,hH⟩
  ·exact same b o (hd b o e f) (F.un.keep b o e n f z)
  ·obtain ⟨sl,e1⟩:=F.un.slot b o e n f z
   obtain ⟨_,o2,e2,nf⟩:=hff.mem f
   rw [e1] at e2
   cases e2
   obtain ⟨sl2,e3⟩:=l.slot b _ e1 nf
   exact ⟨sl2,e3⟩
  ·obtain ⟨o1,e1⟩:=F.un.there b o e z
   by_cases f:b∈frs X.stack
   ·obtain ⟨_,o2,e2,nf⟩:=hff.mem f
    obtain ⟨sl,e3⟩:=l.slot b _ e2 nf
    exact ⟨_,e3⟩
   ·exact ⟨o1,same b o1 (hd b o e f) e1⟩
  ·obtain ⟨sl,e1⟩:=l.slot b o e nf
   exact ⟨_,e1,rfl⟩
 have hff2:=hff
 rw [hst] at hff2
 have key:∀(T:Option Addr) (_:∀b,T=some b->B.get? b=none) (h1:(vs[1]? = some Value.none/\T=none)\/(∃T' oT ts,T=some T'/\vs[1]? = some (.ref T')/\T'≠a/\s'.heap.get? T'=some oT/\oT.data=.fields ts/\ts[3]? = some Value.none) \/
   ∃T' oT ts,T=some T'/\vs[1]? = some (.ref T')/\T'≠a/\s'.heap.get? T'=some oT/\oT.data=.fields ts/\ts[3]? = some (rawInt ↑X.env.locals)),notedBy M X.A X.env (cameBackBy M X.A X.env E) (.ref a) s':=fun T hT h1=>by
  unfold notedBy
  show wpAny M X.A (noteFrame (.ref a) X.env) (fun _ s''=>cameBackBy M X.A X.env E (.ref a) s'') (cameBackBy M X.A X.env E) s'
  refine wpAny_mono (zef (fl:=some X.env.locals) (Q:=fun _ s''=>E (.ref a) s'') (E:=fun _ _=>False) (T:=T) (by rw [I.ok.frames,hst]) hff2 hfr r1 r4 h1 fun h' l=>fin T h' hT l) (fun _ s2 z=>?_) fun _ _ z=>False.elim z
  obtain ⟨⟨oe',vs',tb,y1,y2,y3⟩,z⟩:=z
  unfold cameBackBy
  rw [hfr]
  refine wpAny_bind (wpAny_field y1 y2 y3 ?_)
  rw [if_neg (by intro z; cases z)]
  exact wpAny_mono z (fun _ _ z=>z) fun _ _ z=>False.elim z
 rcases r5 with z | ⟨T,oT,ts,z1,z2,z3,z4,z5,z6⟩ | ⟨l,T,oT,ts,zl,z1,z2,z3,z4,z5,z6⟩
 ·exact key none (fun b e=>nomatch e) (.inl ⟨z,rfl⟩)
 ·exact key (some T) (fun b e=>by cases e; exact z2) (.inr (.inl ⟨T,oT,ts,rfl,z1,z3,z4,z5,z6⟩))
 ·have hl:l=X.env.locals:=by
   unfold topF at zl
   rw [hst] at zl
   exact (Option.some.inj (hfr.symm.trans (show X.env.frame=some l from zl))).symm
  subst hl
  exact key (some T) (fun b e=>by cases e; exact z2) (.inr (.inr ⟨T,oT,ts,rfl,z1,z3,z4,z5,z6⟩))
end
abbrev _root_.L2.Cx.loop (X:Cx):Cx:=X.wish (notedBy (model X.prog X.w) X.A X.env (cameBackBy (model X.prog X.w) X.A X.env X.xe))
section
variable {X:Cx} {tg:Expr}
theorem znK {iter:Expr} {body:List Stmt} {wi:TI} {g:TG} {tb:TS} {pos:Pos} (hc:X.calm=true) (hi:PI X tg iter wi) (hg:PG X.loop tg g) (hb:PSs X.loop body tb)
  (hs:∀x,foldedSetIterable iter X.env x=pure x:=by intro _; rfl):PS X (.For tg iter body [] pos) (tFor wi g tb):=by
 intro pins s σ H D I h
 refine wpAny_For (thn (hi pins s σ H _ I h) fun v s1 h1=>thn h1 fun itv s2 h2=>?_) hs
 obtain ⟨it,fp,tn,J,H2,e,I2,T,st2,f2,W,⟨m0,w0⟩,turn⟩:=h2
 subst e
 have stat:∀{H':Hp},(∀b∈fp,H' b=none)->∀b∈fp,FpOk X pins H' b:=fun hn b hb=>⟨hn b hb,(f2 b hb).2⟩
 refine codeAny_forLoop_any (fun n s'=>∃i σ' H',L2.Inv X pins σ' H' s'/\tn i s'.heap/\(∀b∈fp,H' b=none)/\W i n σ' H') ?_ m0 ⟨0,σ,H2,I2,st2,fun b hb=>(f2 b hb).1,w0⟩
 rintro n s3 ⟨i,σ3,H3,I3,st3,fr3,w3⟩
 rcases turn i n σ3 H3 w3 with ⟨stop,qn⟩ | ⟨go,N,hN,step⟩
 ·refine wpAny_mono (T.done X rfl rfl rfl hc i pins s3 σ3 H3 (fun _ _=>False) I3 (stat fr3) st3 stop) (fun r s4 ⟨hr,I4⟩=>?_) fun _ _ z=>False.elim z
  subst hr
  exact wpAny_execs_nil ⟨σ3,H3,I4,qn⟩
 ·refine wpAny_mono (T.item X rfl rfl rfl hc i pins s3 σ3 H3 (fun _ _=>False) I3 (stat fr3) st3 go) (fun r s4 ⟨u,hr,h4⟩=>?_) fun _ _ z=>False.elim z
  subst hr
  refine wpAny_mono h4 (fun _ s5 ⟨x,H5,I5,r5,y5,st5,fr5⟩=>?_) fun _ _ z=>False.elim z
  have I5':=I5.pinned (stat fr5) (T.obj _ _ st5)
  refine wpAny_mono (hg _ s5 σ3 H5 x u _ (I5'.wish _) r5 (step x H5 y5)) (fun _ s6 ⟨σ6,H6,I6,q6⟩=>?_) fun _ _ z=>z
  refine wpAny_mono (hb _ s6 σ6 H6 _ I6 q6) (fun f s7 q7=>?_) fun _ _ z=>z
  have again:∀{σ7:L2.St} {H7:Hp},L2.Inv X (pins++zf0 fp s5.heap) σ7 H7 s7->N σ7 H7->∃m,m < n/\∃i σ' H',L2.Inv X pins σ' H' s7/\tn i s7.heap/\(∀b∈fp,H' b=none)/\W i m σ' H':=fun {σ7 H7} I7 n7=>by
   obtain ⟨m',hm,w7⟩:=hN σ7 H7 n7
   refine ⟨m',hm,i + 1,σ7,H7,I7.unpinned,T.keep _ _ _ st5 fun b hb o e=>(I7.pin (b,o) (List.mem_append_right _ (List.mem_append_right _ (zcc hb e)))).1,fun b hb=>?_,w7⟩
   obtain ⟨o,e,d⟩:=T.obj _ _ st5 b hb
   exact (I7.pin (b,o) (List.mem_append_right _ (List.mem_append_right _ (zcc hb e)))).2.1
  cases f with
  | next=>obtain ⟨σ7,H7,I7,n7⟩:=q7; exact again I7.unwish n7
  | cont=>obtain ⟨σ7,H7,I7,n7⟩:=q7; exact again I7.unwish n7
  | brk=>obtain ⟨σ7,H7,I7,q7⟩:=q7; exact ⟨σ7,H7,I7.unwish.unpinned,q7⟩
  | ret v=>obtain ⟨x7,σ7,H7,I7,r7,q7⟩:=q7; exact ⟨x7,σ7,H7,I7.unwish.unpinned,r7,q7⟩
end
section
variable {X:Cx} {g:GE} {ro:Bool} {m mb:List Md} {tg iter:Expr} {sts:List Stmt} {s1:FS} {pos:Pos}
theorem zjA (hc:X.calm=true) (hst:X.stack=X.env::X.outer) (hfr:X.env.frame=some X.env.locals) {ft:FT} {fi:FI} (hi:SIt X g m tg iter fi) (hg:SG X.loop g m tg ft m) (hb:SSs X.loop g ro m m sts s1 m)
  (hs:∀x,foldedSetIterable iter X.env x=pure x:=by intro _; rfl):SS X g ro mb m (.For tg iter sts [] pos) (zb3 m fi ft s1) m:=by
 refine ⟨rfl,PS.imp (znK hc hi hg.2 hb.2 hs) fun D σ H ⟨r,G,si,q⟩=>⟨r,G,si,zag (zbs si rfl q) fun ds q J G0 H0 w0 Y=>?_⟩⟩
 refine ⟨fun i n σ H=>∃r G,SI X g m r G σ H/\Gle G0 G/\i<=ds.length/\n=ds.length - i/\oTo X g ro m mb G D (forF ft s1 (ds.drop i) r),⟨ds.length,r,G0,si.grow w0,Gle.refl G0,Nat.zero_le _,rfl,oTo.gle q w0.ge⟩,?_⟩
 rintro i n σ1 H1 ⟨r1,G1,si1,le1,hi,rfl,q1⟩
 by_cases hlt:i < ds.length
 ·have hd:ds.drop i=ds[i]::ds.drop (i + 1):=List.drop_eq_getElem_cons hlt
  rw [hd] at q1
  unfold forF at q1
  refine .inr ⟨Y.go G1 H1 i le1 si1.gok hlt,fun σ' H'=>∃r G,SI X g m r G σ' H'/\Gle G0 G/\oTo X g ro m mb G D (forF ft s1 (ds.drop (i + 1)) r),fun σ' H' ⟨r',G',si',le',q'⟩=>⟨ds.length - (i + 1),by omega,r',G',si',le',hlt,rfl,q'⟩,fun x H' y=>?_⟩
  obtain ⟨G',w',rv⟩:=Y.yld G1 H1 i x H' ds[i] le1 si1.gok y (List.getElem?_eq_getElem hlt)
  have le':Gle G0 G':=le1.trans w'.ge
  cases eft:ft ds[i] r1 with
  | none=>simp only [eft] at q1; exact q1.elim
  | some r2=>
   simp only [eft] at q1
   have si1':SI X g m r1 G' σ1 H':=si1.grow w'
   refine ⟨r1,G',ds[i],⟨si1'.gok,si1'.old,si1'.ge,si1'.gf,si1'.lm,si1'.lr,si1'.sh,si1'.ow,si1'.bw,si1'.dis,si1'.lk⟩,rv,r2,eft,fun σ2 si2=>⟨r2,G',si2,?_⟩⟩
   have back:∀{m:List Md} {r:Rho} {G:GH} {σ:L2.St} {H:Hp},SI X.loop g m r G σ H->SI X g m r G σ H:=fun z=>⟨z.gok,z.old,z.ge,z.gf,z.lm,z.lr,z.sh,z.ow,z.bw,z.dis,z.lk⟩
   cases eb:s1 r2 with
   | nx r'=>simp only [eb] at q1; exact fun σ3 G3 H3 le3 si3=>⟨r',G3,back si3,le'.trans le3,oTo.gle q1 (Gle.trans w'.ge le3)⟩
   | ct r'=>simp only [eb] at q1; exact fun σ3 G3 H3 le3 si3=>⟨r',G3,back si3,le'.trans le3,oTo.gle q1 (Gle.trans w'.ge le3)⟩
   | bk r'=>simp only [eb] at q1; exact fun σ3 G3 H3 le3 si3=>q1 σ3 G3 H3 (Gle.trans w'.ge le3) (back si3)
   | rt d=>simp only [eb] at q1; exact q1
   | exc x r'=>
    simp only [eb] at q1
    intro pins e s' σ3 G3 H3 le3 si3 I3 ex
    obtain ⟨pins1,s1',H1',a,C,od,nm,fs,rfl,rfl,xn,xf,I1,fl⟩:=ex
    have I1':L2.Inv X pins1 σ3 H1' s1':=I1.unwish
    exact Fly.looped (X:=X) fl I1' hst hfr fun s'' fl2=>q1 pins1 (.ref a) s'' σ3 G3 H3 (Gle.trans w'.ge le3) (back si3) (fl2.inv I1') ⟨pins1,s1',H1',a,C,od,nm,fs,rfl,rfl,xn,xf,I1',fl2⟩
   | stuck=>simp only [eb] at q1; exact q1.elim
 ·have e:i=ds.length:=by omega
  subst e
  rw [List.drop_length] at q1
  exact .inl ⟨Y.stop G1 H1 le1 si1.gok,q1 σ1 G1 H1 (Gle.refl _) si1⟩
end
structure IsxT (K:W.Frag) (cs:List Addr) (tab:Str->Option Bool):Prop where
 no:kitAny K (.type "NoneType") (cs.map Value.ref)=some false
 ex:∀nm b C,tab nm=some b->XN K nm C->∃bm,XA K C bm/\kitAny K (.ref C) (cs.map Value.ref)=some b
end DL
namespace L2
open PySem PySem.Spec PyProof.Rows
structure RoomH (k:Nat) (A:Around):Prop where
 dp:A.depth + 3 * k + 5 < recursionLimit
 un:A.units + 16 * k + 200 < cLine
theorem RoomH.mono {j k:Nat} {A:Around} (r:RoomH k A) (h:j<=k):RoomH j A:=⟨by have:=r.dp; omega,by have:=r.un; omega⟩
theorem RoomH.deeper {k:Nat} {A:Around} (r:RoomH (k + 1) A) (env:Env):RoomH k (A.deeper env):=
 ⟨by have:=r.dp; show A.depth + 1 + 3 * k + 5 < _; omega,by have:=r.un; show A.units + 3 + 16 * k + 200 < _; omega⟩
theorem RoomH.depth {k:Nat} {A:Around} (r:RoomH k A):A.depth < recursionLimit:=by have:=r.dp; omega
theorem RoomH.units {k:Nat} {A:Around} (r:RoomH k A):A.units + 64 < cLine:=by have:=r.un; omega
theorem zqT {A:Around} {k:Nat} (hr:RoomH k A):A.units + 1 < cLine:=Nat.lt_of_le_of_lt (Nat.add_le_add_left (by decide:1<=64) _) hr.units
structure FnOkH (P:Program) (w:World) (K:W.Frag) (mg:Str->Option Value) (base:Heap) (CX:CXT) (k:Nat) (f:Addr) (fd:FuncData) (ps:List Str) (sp:Sp):Prop where
 len:∀vs H Q E,sp vs H Q E->vs.length=ps.length
 run:∀(A:Around) (outer:List Env) (s:Shared) (H:Hp) (args:Args) (us:List Value) (vs:List V) (Q:VK) (E:XK),RoomH k A->Env0 P w K mg base A outer s H->BindsTo s fd args (ps.zip us)->Vals vs us->sp vs H Q E ->
  codeAny (model P w) A (.call (.ref f) args) (CR CX outer P w H s Q E) s
def cxH (CX:CXT) (P:Program) (w:World) (K:W.Frag) (mg:Str->Option Value) (base:Heap) (N:List Str) (qual:Str) (scope:Scope) (f:Addr) (cd:Value) (A:Around) (outer:List Env) (s:Shared) (H:Hp) (E:XK):Cx:={ cxOf CX P w K mg base N qual scope f cd A outer s H E with calm:=false }
theorem zi5 {CX:CXT} {P:Program} {w:World} {K:W.Frag} {mg:Str->Option Value} {base:Heap} {N ps:List Str} {qual:Str} {scope:Scope} {f:Addr} {cd:Value} {A:Around} {outer:List Env} {s s1:Shared} {H:Hp} {E:XK} {us:List Value} {vs:List V}
  (S:FnScope N ps scope) (e0:Env0 P w K mg base A outer s H) (hl:vs.length=ps.length) (r:Vals vs us)
  (x:InCallC s s.heap.objs.size (bindL (envOfC qual scope s.heap.objs.size f cd).kindOf (ps.zip us) fun _=>none) (cellsFrom (s.heap.objs.size + 1) scope.names []) (bindC (envOfC qual scope s.heap.objs.size f cd).kindOf (ps.zip us) fun _=>none) s1) :
  Inv (cxH CX P w K mg base N qual scope f cd A outer s H E) [] (start N vs) H s1:=by
 have hpl:ps.length<=N.length:=by have:=congrArg List.length S.pre; rw [List.length_take] at this; omega
 obtain ⟨h1,tk,rfl,hk⟩:=x.done
 have noA:∀b:Addr,b∉(cxH CX P w K mg base N qual scope f cd A outer s H E).ex:=fun b z=>absurd (show b∈([]:List Addr) from z) (by simp)
 refine ⟨⟨e0.mod,S.kind,rfl,rfl,Nat.le_refl _,fun y z c h1 h2=>?_,fun y hy=>?_,fun y c _ h=>?_,(fun z=>nomatch z),Around.frames_deeper e0.frames,.inr ⟨rfl,rfl⟩,fun b z=>absurd z (noA b),e0.bs,e0.bsz,fun b _ _=>noA b,fun b z=>absurd z (noA b),e0.funs,e0.frf⟩,
  rfl,e0.bare,Un.kept hk,⟨_,x.toInCall.ns,fun i y v h1 h2 h3=>?_⟩,fun y c h=>⟨_,x.cell y c h⟩,e0.hok.fresh (Nat.le_refl _),fun y c h=>?_,fun p hp=>absurd (show p∈([]:List (Addr × Obj)) from hp) (by simp),e0.hok.kept hk,?_⟩
 ·exact name_of_addr x.apart (PySem.mem_of_lookup h1) (PySem.mem_of_lookup h2)
 ·have hy:scope.names.lookup y=some .cell\/scope.names.lookup y=some .free:=hy
  rcases hy with hy | hy
  ·exact ze4 hy
  ·exact absurd rfl (S.nofree _ (PySem.mem_of_lookup hy))
 ·exact Nat.le_of_lt (x.above y c (PySem.mem_of_lookup h))
 ·have hi:i < vs.length:=by
   unfold start at h2
   by_cases hi:i < vs.length
   ·exact hi
   ·rw [List.getElem?_append_right (by simpa using hi)] at h2
    rw [List.getElem?_replicate] at h2
    split at h2 <;> cases h2
  have ha:vs[i]? = some v:=by
   unfold start at h2
   rw [List.getElem?_append_left (by simpa using hi),List.getElem?_map] at h2
   cases e:vs[i]? with
   | none=>rw [e] at h2; cases h2
   | some a=>rw [e] at h2; cases h2; rfl
  obtain ⟨u,hu,rv⟩:=r.get ha
  have hp:ps[i]? = some y:=by
   rw [<-S.pre,List.getElem?_take_of_lt (by omega)]; exact h1
  have ndP:ps.Nodup:=by rw [<-S.pre]; exact S.nd.sublist (List.take_sublist _ _)
  refine ⟨u,rv,?_⟩
  rcases S.par y (List.mem_of_getElem? hp) with k | k
  ·exact .inl ⟨k,zfB ndP hp hu k⟩
  ·obtain ⟨c,e⟩:=ze4 (n:=s.heap.objs.size + 1) k
   refine .inr ⟨.inl k,c,e,?_⟩
   have q:=x.cell y c e
   rw [zfC ndP hp hu (by show scope.names.lookup y≠_; rw [k]; decide)] at q
   exact q
 ·exact e0.hok.fresh (Nat.le_of_lt (x.above y c (PySem.mem_of_lookup h)))
 ·unfold start
  show _=N.length
  rw [List.length_append,List.length_map,List.length_replicate]
  omega
theorem zq5 {CX:CXT} {P:Program} {w:World} {K:W.Frag} {mg:Str->Option Value} {base:Heap} {k:Nat} {f:Addr} {name qual:Str} {params:Arguments} {body:List Stmt} {scope:Scope} {dV kV doc pm cdv ct oc:Value} {an od:Option Addr}
  {osl:Array (Option Value)} {N ps:List Str} {sp:Sp} (lk:K.lookup f=some ⟨oc,od,.func (W.fnOf name qual params body scope dV kV doc pm an cdv ct),osl⟩) (hcd:W.codeIn K cdv qual=true) (S:FnScope N ps scope)
  (len:∀vs H Q E,sp vs H Q E->vs.length=ps.length)
  (hbody:∀(A:Around) (outer:List Env) (s:Shared) (H:Hp) (vs:List V) (Q:VK) (E:XK),RoomH k (A.deeper (envOfC qual scope s.heap.objs.size f cdv))->sp vs H Q E ->
   ∃t,PSs (cxH CX P w K mg base N qual scope f cdv A outer s H E) body t/\t { nx:=fun _ H'=>Q .non H',rt:=Q } (start N vs) H) :
  FnOkH P w K mg base CX (k + 1) f (W.fnOf name qual params body scope dV kV doc pm an cdv ct) ps sp:=by
 refine ⟨len,fun A outer s H args us vs Q E hr e0 hb r hsp=>?_⟩
 have hl:=len _ _ _ _ hsp
 have KX:K.In s.heap:=e0.mod.kin.keeps fun b o e=>(e0.bs b o e).1
 have lim:s.heap.NoLimit:=e0.mod.nolimit.keeps fun b o e=>(e0.bs b o e).1
 have hkind:∀y∈ps.zip us,scope.names.lookup y.1=some .local\/(scope.names.lookup y.1=some .cell/\((cellsFrom (s.heap.objs.size + 1) scope.names []).lookup y.1).isSome=true):=fun ⟨n,v⟩ hy=>by
  rcases S.par n (List.of_mem_zip hy).1 with q | q
  ·exact .inl q
  ·exact .inr ⟨q,W.cellsFrom_some _ _ _ (.inl q)⟩
 refine codeAny_call_function hr.depth (KX _ _ lk) rfl S.co S.gen rfl (W.codeRec_of KX hcd) (hb _ _ _ _ ?_)
 refine wpAny_newFunctionEnv_cells S.kind hkind fun env he s1 x=>?_
 subst he
 refine ⟨lim.keeps x.toInCall.keep,codeAny_func ?_⟩
 obtain ⟨t,ht,hq⟩:=hbody A outer s H vs Q E (hr.deeper _) hsp
 have I:Inv (cxH CX P w K mg base N qual scope f cdv A outer s H E) [] (start N vs) H s1:=zi5 S e0 hl r x
 refine wpAny_mono (ht [] s1 (start N vs) H _ I hq) (fun fl s' hs=>?_) fun e s' hs=>hs
 have fin:∀{σ':St} {H':Hp} {v:V} {u:Value},Inv (cxH CX P w K mg base N qual scope f cdv A outer s H E) [] σ' H' s'->RelV v u->Q v H'->CE outer P w H s Q u s':=
  fun {σ' H' v u} J rv q=>⟨v,H',J.os,J.bare,J.base,J.hok,rv,q⟩
 cases fl with
 | ret u=>
  obtain ⟨v,σ',H',J,rv,q⟩:=hs
  exact fin J rv q
 | next=>
  obtain ⟨σ',H',J,q⟩:=hs
  exact fin (v:=V.non) (u:=Value.none) J rfl q
 | brk=>
  obtain ⟨_,_,_,q⟩:=hs
  exact False.elim q
 | cont=>
  obtain ⟨_,_,_,q⟩:=hs
  exact False.elim q
section
variable {P:Program} {w:World} {K:W.Frag} {mg:Str->Option Value} {base:Heap}
theorem Fun.okH {x qual:Str} {st:Stmt} {f:Addr} {fd:FuncData} {N ps:List Str} {k:Nat} {sp:Sp} (F:Fun K x qual st f fd) (S:FnScope N ps (defScope st)) (len:∀vs H Q E,sp vs H Q E->vs.length=ps.length)
  (hbody:∀(cdv:Value) (A:Around) (outer:List Env) (s:Shared) (H:Hp) (vs:List V) (Q:VK) (E:XK),RoomH k (A.deeper (envOfC qual (defScope st) s.heap.objs.size f cdv))->sp vs H Q E ->
   ∃t,PSs (cxH CX0 P w K mg base N qual (defScope st) f cdv A outer s H E).nox (defBody st) t/\t { nx:=fun _ H'=>Q .non H',rt:=Q } (start N vs) H):FnOkH P w K mg base CX0 (k + 1) f fd ps sp:=by
 obtain ⟨oc,od,kV,doc,pm,an,cdv,ct,osl,rfl,lk,hcd⟩:=F.ex
 refine zq5 lk hcd S len fun A outer s H vs Q E hr hsp=>?_
 obtain ⟨t,h,q⟩:=hbody cdv A outer s H vs Q E hr hsp
 exact ⟨t,h.nox,q⟩
end
section
variable {X:Cx} {CX:CXT} {k:Nat} {f C:Addr} {fd:FuncData} {ps:List Str} {sp:Sp} {dvs:List V} {ds:List Value} {E:XK} {x m:Str} {p pos apos:Pos} {e o:Expr} {es:List Expr} {ta:TE} {t:TA}
theorem znC {pins:List (Addr × Obj)} {σ:St} {H:Hp} {s:Shared} {Q:VK} {us:List Value} {vs:List V} (F:FnOkH X.prog X.w X.K X.mg X.base CX k f fd ps sp) (hr:RoomH k X.A) (hb:zdB X.K fd ps ds) (hd:Vals dvs ds) (hx:zhs CX X E)
  (I:Inv X pins σ H s) (r:Vals vs us) (h:sp (vs++dvs) H Q E):wpAny (model X.prog X.w) X.A (call (.ref f) us) (EP X pins σ Q) X.xe s:=by
 have r2:Vals (vs++dvs) (us++ds):=r.append hd
 have hl:(us++ds).length=ps.length:=by rw [<-r2.length]; exact F.len _ _ _ _ h
 refine wpAny_call (codeAny_mono (F.run X.A X.stack s H ⟨us,[]⟩ (us++ds) (vs++dvs) Q E hr I.env0 (hb s us I.kIn hl) r2 h) fun r s' hq=>?_)
 cases r with
 | error e=>exact hx pins σ H s e s' I hq
 | ok fl=>
  cases fl with
  | ret u=>exact I.after hq
  | next=>exact False.elim hq
  | brk=>exact False.elim hq
  | cont=>exact False.elim hq
theorem zlQ (F:FnOkH X.prog X.w X.K X.mg X.base CX k f fd ps sp) (hr:RoomH k X.A) (hg:Gl X x) (hm:X.mg x=some (.ref f)) (hk:W.keepIn X.K (.ref f)=true) (hb:zdB X.K fd ps ds) (hd:Vals dvs ds) (hx:zhs CX X E)
  (ha:PA X (e::es) t) (hdb:(x == ("__debug__" : Str))=false:=by decide) (he:starEach (e::es) X.env=(false,eval e X.env)::starEach es X.env:=by rfl) (hpl:(backTo pos (starEach es X.env)).any (·.1)=false:=by rfl) :
  PE X (.Call (.Name x p) (e::es) [] pos) (zpe sp dvs E t):=by
 intro pins s σ H Q I h
 refine wpAny_Call_Name_kw (zdi I hg hm ?_ hdb)
 refine W.callWith_K (h₀:=X.base) I.ok.mod.kin hk (thn (ha pos pins s σ H _ I h) fun us s1 ⟨vs,H1,I1,r,q⟩=>⟨I1.kIn,?_⟩) he hpl
 exact znC F hr hb hd hx I1 r q
end
end L2
section
namespace L2
open PySem
theorem RoomH.held {k:Nat} {A:Around} {v:Option Value} (r:Room k A):RoomH k (A.mark v):=⟨r.dp,r.un⟩
end L2
namespace DL
open PySem PySem.Spec PyProof.Rows L2 PySem.W PySem.Calls
structure CalleeH (P:Program) (w:World) (K:W.Frag) (mg:Str->Option Value) (base:Heap) (x:Str) (ps:List Str) (k:Nat) (ms:List Md) (F:List D->Res D):Prop where
 ex:∃f fd,mg x=some (.ref f)/\W.keepIn K (.ref f)=true/\zdB K fd ps []/\FnOkH P w K mg base CX0 k f fd ps (spM K false ms F)
section
variable {P:Program} {w:World} {K:W.Frag} {mg:Str->Option Value} {base:Heap}
theorem zod {x:Str} {st:Stmt} {N ps:List Str} {k:Nat} {ms:List Md} {fs:FS} {m':List Md} (A:DefAt K mg x st) (S:FnScope N ps (defScope st)) (hms:ms.length=ps.length)
  (hb:∀(kV doc pm:Value) (an:Option Addr) (cdv ct:Value) (us:List Value),us.length=ps.length->bindArgs (W.fnOf x x (defArgs st) (defBody st) (defScope st) .none kV doc pm an cdv ct) ⟨us,[]⟩=pure (ps.zip us))
  (hbody:∀(f:Addr) (cdv:Value) (A:Around) (outer:List Env) (s:Shared) (H:Hp) (g:GE) (E:XK),RoomH k (A.deeper (envOfC x (defScope st) s.heap.objs.size f cdv)) ->
   SSs (cxH CX0 P w K mg base N x (defScope st) f cdv A outer s H E).nox g false [] (zdC N.length ms) (defBody st) fs m') :
  CalleeH P w K mg base x ps (k + 1) ms fun ds=>outR false (fs (zao N.length ds)):=by
 obtain ⟨f,fd,h1,F⟩:=A.ex
 refine ⟨f,fd,h1,F.kp,F.binds hb,F.okH S (fun vs H Q E ⟨G,ds,gk,rs,q⟩=>rs.len.1.trans hms) fun cdv A outer s H vs Q E hr h=>?_⟩
 obtain ⟨G,ds,gk,rs,q⟩:=h
 have hpl:ps.length<=N.length:=by have:=congrArg List.length S.pre; rw [List.length_take] at this; omega
 exact ⟨_,(hbody f cdv A outer s H ⟨G,H,fun _=>none⟩ E hr).2,zao N.length ds,G,zgf gk rs (by omega),ziA q⟩
end
section
variable {X:Cx} {g:GE} {m:List Md} {e:Expr} {es:List Expr} {fl:Rho->Res (List D)} {k:Nat} {ps:List Str} {F:List D->Res D} {x:Str} {p pos:Pos} {ms:List Md}
theorem zoM (c:CalleeH X.prog X.w X.K X.mg X.base x ps k ms F) (hr:RoomH k X.A) (ha:SAM X g m (e::es) ms fl) (hg:Gl X x:=by rfl)
  (hdb:(x == ("__debug__" : Str))=false:=by decide) (he:starEach (e::es) X.env=(false,eval e X.env)::starEach es X.env:=by rfl) (hpl:(backTo pos (starEach es X.env)).any (·.1)=false:=by rfl) :
  SE X g m (.Call (.Name x p) (e::es) [] pos) (zaz fl [] F):=by
 obtain ⟨fa,fd,h1,h2,h3,G1⟩:=c.ex
 refine PE.imp (zlQ G1 hr hg h1 h2 h3 .nil zp9 ha hdb he hpl) fun σ H Q ⟨r,G,si,q⟩=>⟨r,G,si,?_⟩
 unfold zaz at q
 cases ez:fl r with
 | ok zs=>
  rw [ez] at q
  intro vs G' H' w' rs
  have:=zhp (ms:=ms) (dvs:=[]) (dds:=[]) (F:=F) (ro:=false) w'.ok rs .nil (zag (zhi q (zmW _)) fun d k v G2 H2 w2 rv=>k v G2 H2 (w'.trans w2) rv)
  rw [show ms++List.replicate ([]:List D).length Md.sh=ms from List.append_nil ms] at this
  exact this
 | exc x=>rw [ez] at q; exact q
 | stuck=>rw [ez] at q; exact q
end
end DL
end
namespace DL
open PySem PySem.Spec PyProof.Rows L2 PySem.W PySem.Calls PySem.Builtin PySem.Builtin.Str
theorem zky (sep:Str):∀ps:List Str,ps.length * sep.length<=(Str.join sep ps).length + sep.length
 | []=>by simp
 | [x]=>by simp only [List.length_singleton,Nat.one_mul]; omega
 | x::y::r=>by
  have ih:=zky sep (y::r)
  have e:(Str.join sep (x::y::r)).length=x.length + sep.length + (Str.join sep (y::r)).length:=by
   show (x++sep++Str.join sep (y::r)).length=_
   rw [strLen_append,strLen_append]
  rw [e,List.length_cons,Nat.succ_mul]
  omega
theorem zim (x y:Str) (limit:Nat) (hy:0 < y.length):(partsBetween x (occurrences x y 0 x.length limit) y.length).length<=x.length + 1:=by
 have h:=zky y (partsBetween x (occurrences x y 0 x.length limit) y.length)
 rw [<-StrLaws.glued_eq_join,StrLaws.glued_between_self] at h
 generalize (partsBetween x (occurrences x y 0 x.length limit) y.length).length=k at h
 cases k with
 | zero=>omega
 | succ k=>
  rw [Nat.succ_mul] at h
  have:k * 1<=k * y.length:=Nat.mul_le_mul_left k hy
  omega
section
variable {prog:Program} {w:World} {A:Around} {E:Value->Shared->Prop} {s:Shared} {x y:Str} {t u:Tok} {Q:Value->Shared->Prop}
theorem zjq (hy:(y.length == 0)=false) (hx:x.length<=sizeLine) (hn:(partsBetween x (occurrences x y 0 x.length (x.length + 1)) y.length).length<=sizeLine)
  (q:∀l k,l.map (·.1)=Txt.split x y->Q (.ref s.heap.objs.size) { s with heap:=s.heap.push { cls:=.type "list",data:=.seq (strValues l).toArray },toks:=k }) :
  wpAny (model prog w) A (call (.builtin "str.split") [.str x t,.str y u]) Q E s:=by
 have T:s.TypeIs (.str x t) "str" := typeIs_str _ _ _
 cases c:(decide (x.length < y.length) || decide (strKind x < strKind y)) with
 | true=>exact call_meets F.slot_str_split T F.entry_str_split (F.args_str_split_2 _ _) (meets_str_split_cannot_occur x y t u c) (q [(x,t)] s.toks (if_pos c).symm)
 | false=>
  have c':=ne_true_of_eq_false c
  cases f:(occurrences x y 0 x.length (x.length + 1)).isEmpty with
  | true=>exact call_meets F.slot_str_split T F.entry_str_split (F.args_str_split_2 _ _) (meets_str_split_not_found x y t u c hy f) (q [(x,t)] s.toks ((if_neg c').trans (if_pos f)).symm)
  | false=>
   refine call_meets F.slot_str_split T F.entry_str_split (F.args_str_split_2 _ _) (meets_str_split_sep x y t u c hy f hx hn) ?_
   have:=q (numbered s.toks (partsBetween x (occurrences x y 0 x.length (x.length + 1)) y.length)) (s.toks + (partsBetween x (occurrences x y 0 x.length (x.length + 1)) y.length).length) ((numbered_texts _ _).trans ((if_neg c').trans (if_neg (ne_true_of_eq_false f))).symm)
   rw [<-strsFrom_eq] at this
   exact this
end
theorem zjk {its:List Value}:∀{xs:List Str},Vals (xs.map V.str) its->∃l:List (Str × Tok),strValues l=its/\l.map (·.1)=xs:=by
 induction its with
 | nil=>
  intro xs h
  cases xs with
  | nil=>exact ⟨[],rfl,rfl⟩
  | cons _ _=>cases h
 | cons v its ih=>
  intro xs h
  cases xs with
  | nil=>cases h
  | cons x xs=>
   cases h with
   | cons r t=>
    obtain ⟨k,rfl⟩:=(show ∃k,v=Value.str x k from r)
    obtain ⟨l,e1,e2⟩:=ih t
    exact ⟨(x,k)::l,by rw [<-e1]; rfl,by rw [List.map_cons,e2]⟩
theorem zgM:∀l:List (Str × Tok),Vals ((l.map (·.1)).map V.str) (strValues l)
 | []=>.nil
 | (x,t)::l=>.cons ⟨t,rfl⟩ (zgM l)
def zeN:List D->Option (List Str)
 | []=>some []
 | .str x::ds=>(zeN ds).map (x::·)
 | _::_=>none
theorem znm {K:W.Frag} {G:GH} {H:Hp} (gk:GOk K G H) {xs:List V} {ds:List D} (r:RGs K G xs ds):∀{zs:List Str},zeN ds=some zs->xs=zs.map V.str:=by
 induction r with
 | nil=>intro zs h; cases h; rfl
 | @cons v d xs ds r _ ih=>
  intro zs h
  cases d with
  | str x=>
   have h:(zeN ds).map (x::·)=some zs:=h
   cases e:zeN ds with
   | none=>rw [e] at h; cases h
   | some ys=>
    rw [e] at h
    cases h
    rw [r.str gk,ih e]; rfl
  | _=>cases h
theorem zjJ {K:W.Frag} {G:GH}:∀xs:List Str,RGs K G (xs.map V.str) (xs.map D.str)
 | []=>.nil
 | x::xs=>.cons (.scl (.str x)) (zjJ xs)
def zpJ:V->List V->Hp->VK->Prop:=fun x vs H Q=>∃a b,x=.str a/\vs=[.str b]/\Q (.bl (Txt.endswith a b)) H
def zpH:V->List V->Hp->VK->Prop:=fun x vs H Q=>∃a b i r,x=.str a/\vs=[.str b]/\occurrences a b 0 a.length 1=i::r/\Q (.int (i:Nat)) H
def zpI (K:W.Frag):V->List V->Hp->VK->Prop:=fun x vs H Q=>∃a p xs,x=.str a/\vs=[.ref p]/\SqL K H p (xs.map V.str)/\JoinOk a xs=true/\Q (.str (Txt.join a xs)) H
def zmG:V->List V->Hp->VK->Prop:=fun x vs H Q=>∃a b,x=.str a/\vs=[.str b]/\0 < b.length/\a.length<=10000/\∀p,H p=none->Q (.ref p) (upd H p (.lst ((Txt.split a b).map V.str)))
def zoE:D->List D->Option D
 | .str a,[.str b]=>some (.bl (Txt.endswith a b))
 | _,_=>none
def zhE:D->List D->Option D
 | .str a,[.str b]=>match occurrences a b 0 a.length 1 with
  | i::_=>some (.int (i:Nat))
  | []=>none
 | _,_=>none
def zg9:D->List D->Option D
 | .str a,[.lst ds]=>match zeN ds with
  | some xs=>if JoinOk a xs=true then some (.str (Txt.join a xs)) else none
  | none=>none
 | _,_=>none
def zdE:D->List D->Option D
 | .str a,[.str b]=>if 0 < b.length/\a.length<=10000 then some (.lst ((Txt.split a b).map D.str)) else none
 | _,_=>none
section
variable {X:Cx}
theorem zoc:MtR X "str.endswith" zpJ:=by
 intro pins s σ H x vs v us Q I rx rv ⟨a,b,e1,e2,q⟩
 subst e1 e2
 obtain ⟨t,rfl⟩:=(show ∃t,v=Value.str a t from rx)
 obtain ⟨u,rfl,ru⟩:=zeR rv
 obtain ⟨t',rfl⟩:=(show ∃t,u=Value.str b t from ru)
 exact SC.endswith ⟨.bl _,H,I,rfl,q⟩
theorem zhP:MtR X "str.index" zpH:=by
 intro pins s σ H x vs v us Q I rx rv ⟨a,b,i,r,e1,e2,ho,q⟩
 subst e1 e2
 obtain ⟨t,rfl⟩:=(show ∃t,v=Value.str a t from rx)
 obtain ⟨u,rfl,ru⟩:=zeR rv
 obtain ⟨t',rfl⟩:=(show ∃t,u=Value.str b t from ru)
 exact SC.index ho ⟨.int _,H,I.tok _,⟨_,rfl⟩,q⟩
theorem zgq:MtR X "str.join" (zpI X.K):=by
 intro pins s σ H x vs v us Q I rx rv ⟨a,p,xs,e1,e2,sq,ok,q⟩
 subst e1 e2
 obtain ⟨t,rfl⟩:=(show ∃t,v=Value.str a t from rx)
 obtain ⟨u,rfl,ru⟩:=zeR rv
 cases (show u=Value.ref p from ru)
 obtain ⟨its,r,pl,_⟩:=I.list sq
 obtain ⟨l,rfl,el⟩:=zjk r
 exact SC.join pl.isList el ok fun t' k=>⟨.str _,H,I.tok _,⟨_,rfl⟩,q⟩
theorem ze1:MtR X "str.split" zmG:=by
 intro pins s σ H x vs v us Q I rx rv ⟨a,b,e1,e2,hb,ha,q⟩
 subst e1 e2
 obtain ⟨t,rfl⟩:=(show ∃t,v=Value.str a t from rx)
 obtain ⟨u,rfl,ru⟩:=zeR rv
 obtain ⟨t',rfl⟩:=(show ∃t,u=Value.str b t from ru)
 have hp:=zim a b (a.length + 1) hb
 refine zjq (by rw [beq_eq_false_iff_ne]; omega) (by rw [sizeLine_eq]; omega) (by rw [sizeLine_eq]; omega) fun l k el=>?_
 have hl:((Txt.split a b).map V.str).length<=sizeLine:=by
  rw [List.length_map,sizeLine_eq]
  unfold Txt.split
  split
  ·exact (by decide:1<=16777216)
  ·split
   ·exact (by decide:1<=16777216)
   ·omega
 refine ⟨.ref s.heap.objs.size,_,I.laid (t':=k) (fun b o e=>Heap.get?_push_of_some _ e) (Nat.le_refl _) (show zbg X.prog X.w _ _ _ (.lst ((Txt.split a b).map V.str)) from ⟨hl,strValues l,0,?_,?_⟩),rfl,q _ (I.hok.fresh (Nat.le_refl _))⟩
 ·rw [<-el]; exact zgM l
 ·exact Heap.get?_push_size _ rfl
end
theorem zoD {K:W.Frag}:MtD K zpJ zoE:=by
 intro G H v d vs ds d' Q gk rv rs e q
 unfold zoE at e
 split at e
 ·cases e
  cases rs with
  | cons r1 rt=>cases rt; exact ⟨_,_,rv.str gk,by rw [r1.str gk],q _ G H (Grow.refl gk) (.scl (.bl _))⟩
 ·cases e
theorem zhx {K:W.Frag}:MtD K zpH zhE:=by
 intro G H v d vs ds d' Q gk rv rs e q
 unfold zhE at e
 split at e
 ·split at e
  ·rename_i ho
   cases e
   cases rs with
   | cons r1 rt=>cases rt; exact ⟨_,_,_,_,rv.str gk,by rw [r1.str gk],ho,q _ G H (Grow.refl gk) (.scl (.int _))⟩
  ·cases e
 ·cases e
theorem zgv {K:W.Frag}:MtD K (zpI K) zg9:=by
 intro G H v d vs ds d' Q gk rv rs e q
 unfold zg9 at e
 split at e
 ·split at e
  ·rename_i xs hx
   split at e
   ·rename_i hj
    cases e
    cases rs with
    | cons r1 rt=>
     cases rt
     obtain ⟨p,ys,rfl,sq,ry⟩:=r1.lst gk
     have:=znm gk ry hx
     subst this
     exact ⟨_,p,xs,rv.str gk,rfl,sq,hj,q _ G H (Grow.refl gk) (.scl (.str _))⟩
   ·cases e
  ·cases e
 ·cases e
theorem zeY {K:W.Frag}:MtD K zmG zdE:=by
 intro G H v d vs ds d' Q gk rv rs e q
 unfold zdE at e
 split at e
 ·split at e
  ·rename_i h
   cases e
   cases rs with
   | cons r1 rt=>
    cases rt
    refine ⟨_,_,rv.str gk,by rw [r1.str gk],h.1,h.2,fun p hp=>?_⟩
    exact q _ _ _ (Grow.newF gk hp (OB.lst (.inl zam) (zjJ _))) (.ref zaq)
  ·cases e
 ·cases e
section
variable {X:Cx} {g:GE} {m:List Md} {a b:Expr} {fa fb:FE} {pos:Pos}
def znp (x:Str) (n:Int):Str:=if n < 1 then Str.empty else if (n == 1 || x.length == 0)=true then x else ⟨(List.replicate n.toNat x.cps).foldl (·++·) #[]⟩
def zjr:D->D->Option D
 | .str x,.int n=>if x.length<=100/\0<=n/\n<=100 then some (.str (znp x n)) else none
 | _,_=>none
theorem zih (c:Array Nat):∀(k:Nat) (acc:Array Nat),((List.replicate k c).foldl (·++·) acc).size=acc.size + k * c.size
 | 0,acc=>by simp
 | k + 1,acc=>by rw [List.replicate_succ,List.foldl_cons,zih c k,Array.size_append,Nat.succ_mul]; omega
theorem znU:OpR X (binaryOp .Mult) (fun a b H Q=>∃(x:Str) (n:Int),a=.str x/\b=.int n/\x.length<=100/\0<=n/\n<=100/\Q (.str (znp x n)) H):=by
 intro pins s σ H x y v u Q I rx ry ⟨x',n,ex,en,h1,h2,h3,q⟩
 subst ex en
 obtain ⟨t,rfl⟩:=(show ∃t,v=Value.str x' t from rx)
 obtain ⟨t',rfl⟩:=(show ∃t,u=Value.int n t from ry)
 have hm:x'.length * n.toNat<=100 * 100:=Nat.mul_le_mul h1 (by omega)
 refine P.mul_str (by rw [decide_eq_false (by omega),decide_eq_false (by omega)]; rfl) (fun z _=>?_) (fun _ _=>?_) ?_
 ·have hn0:(0:Int) < n:=by omega
  have hmi:(x'.length:Int) * n<=100 * 100:=by
   have:((x'.length * n.toNat:Nat):Int)=(x'.length:Int) * n:=by rw [Int.natCast_mul,Int.toNat_of_nonneg h2]
   omega
  have:=(Int.le_ediv_iff_mul_le (a:=(x'.length:Int)) (b:=2 ^ 63 - 1) hn0).mpr (by omega)
  omega
 ·unfold tooLong
  rw [decide_eq_false (by rw [sizeLine_eq]; omega)]
 ·unfold znp at q
  by_cases c1:n < 1
  ·rw [if_pos c1] at q ⊢
   exact ⟨by decide,.str _,H,I.tok _,⟨_,rfl⟩,q⟩
  ·rw [if_neg c1] at q ⊢
   by_cases c2:(n == 1 || x'.length == 0)=true
   ·rw [if_pos c2] at q ⊢
    exact ⟨.str _,H,I,⟨_,rfl⟩,q⟩
   ·rw [if_neg c2] at q ⊢
    refine ⟨?_,.str _,H,I.tok _,⟨_,rfl⟩,q⟩
    show ((List.replicate n.toNat x'.cps).foldl (·++·) #[]).size<=sizeLine
    rw [zih,sizeLine_eq]
    have:n.toNat * x'.cps.size=x'.length * n.toNat:=Nat.mul_comm _ _
    simp only [Array.size_empty]
    omega
theorem zpn (ha:SB X g m a fa) (hb:SB X g m b fb):SE X g m (.BinOp a .Mult b pos) (f2 fa fb zjr):=by
 refine zhD znU (fun G H v1 v2 d1 d2 d Q gk r1 r2 e q=>?_) ha hb
 unfold zjr at e
 split at e
 ·split at e
  ·rename_i x n h
   cases e
   exact ⟨x,n,r1.str gk,r2.int gk,h.1,h.2.1,h.2.2,q _ G H (Grow.refl gk) (.scl (.str _))⟩
  ·cases e
 ·cases e
end
def slX (d:D) (lo hi:Option Int):Option D:=match d with
 | .str a=>if a.length<=10000 then some (.str (Txt.slice a lo hi)) else none
 | _=>none
def fSlX (fa:FE) (fl fh:FP):FE:=fun r=>(fa r).bind fun d=>(fl r).bind fun lo=>(fh r).bind fun hi=>opt (slX d lo hi)
section
variable {X:Cx} {g:GE} {m:List Md} {e:Expr} {f fa:FE} {pos p2:Pos}
theorem zpk:SlR X (fun x lo hi H Q=>∃a,x=.str a/\a.length<=10000/\Q (.str (Txt.slice a lo hi)) H):=by
 intro pins s σ H x v vl vu lo hi sl Q I rx hs pl pu ⟨a,ex,ha,q⟩
 subst ex
 obtain ⟨t,rfl⟩:=(show ∃t,v=Value.str a t from rx)
 refine ⟨"str",_,F.slot_str_getitem.lookup,typeIs_str _ _ _,?_⟩
 have hl:∀l u,(Txt.slice a l u).length<=sizeLine:=fun l u=>Nat.le_trans (Txt.slice_le a l u) (by rw [sizeLine_eq]; omega)
 cases pl with
 | none=>
  cases pu with
  | none=>exact wpAny_getItem_str_slice (l:=none) (u:=none) (st:=none) hs rfl (post_val_or_str ⟨hl none none,fun t' k=>⟨.str _,H,I.tok _,⟨_,rfl⟩,q⟩⟩)
  | int j tj=>exact wpAny_getItem_str_slice (l:=none) (u:=some (j,tj)) (st:=none) hs rfl (post_val_or_str ⟨hl none (some j),fun t' k=>⟨.str _,H,I.tok _,⟨_,rfl⟩,q⟩⟩)
 | int i ti=>
  cases pu with
  | none=>exact wpAny_getItem_str_slice (l:=some (i,ti)) (u:=none) (st:=none) hs rfl (post_val_or_str ⟨hl (some i) none,fun t' k=>⟨.str _,H,I.tok _,⟨_,rfl⟩,q⟩⟩)
  | int j tj=>exact wpAny_getItem_str_slice (l:=some (i,ti)) (u:=some (j,tj)) (st:=none) hs rfl (post_val_or_str ⟨hl (some i) (some j),fun t' k=>⟨.str _,H,I.tok _,⟨_,rfl⟩,q⟩⟩)
theorem zgm {lo hi:Option Expr} {fl fh:FP} (he:SB X g m e f) (hl:SP1 X g m lo fl) (hu:SP1 X g m hi fh):SE X g m (.Subscript e (.Slice lo hi none p2) pos) (fSlX f fl fh):=by
 refine PE.imp (zil zpk he hl hu) fun σ H Q ⟨r,G,si,q⟩=>⟨r,G,si,zag (zaf q) fun d h1 v G1 H1 w1 r1=>⟨r,G1,si.grow w1,zaD (zaf h1) w1 fun lo h2 G2 H2 w2=>⟨r,G2,(si.grow w1).grow w2,?_⟩⟩⟩
 refine zaD (zaf h2) (w1.trans w2) fun hi h3 G3 H3 w3=>?_
 obtain ⟨d',e,h4⟩:=zaw h3
 have r3:=(r1.mono w2).mono w3
 unfold slX at e
 split at e
 ·split at e
  ·cases e
   exact ⟨_,r3.str w3.ok,by assumption,h4 _ G3 H3 ((w1.trans w2).trans w3) (.scl (.str _))⟩
  ·cases e
 ·cases e
end
theorem zhC {X:Cx} {g:GE} {m:List Md} {pos:Pos} {x v:Str} (hg:Gl X x) (hk:∃t,X.mg x=some (.str v t)) (hd:(x == ("__debug__" : Str))=false:=by decide):SE X g m (.Name x pos) fun _=>.ok (.str v):=by
 obtain ⟨t,hm⟩:=hk
 exact zmD (v:=.str v) hg hm ⟨t,rfl⟩ (.str v) hd
theorem zss {K:W.Frag} {h:Heap} {mg:Str->Option Value} {x:Str} (KX:K.In h) (G:h.Ns mainGlobals mg) {v:Str} {t:Tok} (z:W.nsIn K mainGlobals x=some (some (.str v t))):∃t,mg x=some (.str v t):=⟨t,W.mg_of KX G z⟩
end DL
section
namespace Rg
theorem zgt {α:Type} [DecidableEq α]:∀{l m:List α},l.Nodup->(∀x∈l,x∈m)->l.length<=m.length
 | [],_,_,_=>Nat.zero_le _
 | a::l,m,hn,hs=>by
  have hn':=List.nodup_cons.mp hn
  have h1:=zgt (l:=l) (m:=m.erase a) hn'.2 fun x hx=>by
   have hxa:x≠a:=by rintro rfl; exact hn'.1 hx
   exact (List.mem_erase_of_ne hxa).mpr (hs x (List.mem_cons_of_mem _ hx))
  have ha:a∈m:=hs a List.mem_cons_self
  rw [List.length_erase_of_mem ha] at h1
  have:=List.length_pos_of_mem ha
  simp only [List.length_cons]; omega
structure S where
 line:List Nat
 things:List Nat
section
variable (W:Nat->List Nat) (O:Nat->Option Nat)
def best (row things:List Nat):Nat:=(row.find? fun x=>decide (x∈things)).getD 0
def tgt (s:S) (h:Nat):Nat:=best (W h) s.things
def pt (s:S) (x:Nat):Nat:=(s.line.find? fun h=>decide (O h=some x)).getD (s.line.headD 0)
def nxt (s:S) (h:Nat):Nat:=pt O s (tgt W s h)
def zr3 (s:S) (C:List Nat):S:=⟨s.line.filter fun h=>decide (h∉C),s.things.filter fun x=>decide (x∉C.map (tgt W s))⟩
def it {α:Type} (f:α->α):Nat->α->α
 | 0,x=>x
 | n + 1,x=>it f n (f x)
structure Ok (s:S):Prop where
 nl:s.line.Nodup
 nt:s.things.Nodup
 le:s.line.length<=s.things.length
 row:∀h∈s.line,∀x∈s.things,x∈W h
 inj:∀h k x,O h=some x->O k=some x->h=k
 own:∀h∈s.line,∀x,O h=some x->x∈s.things
structure Cyc (s:S) (C:List Nat):Prop where
 sub:∀h∈C,h∈s.line
 cl:∀h∈C,nxt W O s h∈C
 per:∀h∈C,∃k,it (nxt W O s) (k + 1) h=h
variable {W O}
variable {s:S}
theorem Cyc.it_mem {C:List Nat} (c:Cyc W O s C) {h:Nat} (hh:h∈C):∀n,it (nxt W O s) n h∈C:=by
 intro n
 induction n generalizing h with
 | zero=>exact hh
 | succ n ih=>exact ih (c.cl h hh)
theorem Cyc.out {C E:List Nat} (c:Cyc W O s C) (e:Cyc W O s E) {h:Nat} (hc:h∈C) (he:h∉E):nxt W O s h∉E:=by
 intro z
 obtain ⟨k,hk⟩:=c.per h hc
 exact he (by rw [<-hk]; exact e.it_mem z k)
inductive TTC (W:Nat->List Nat) (O:Nat->Option Nat) (a:Nat->Nat):S->Prop where
 | nil {s:S}:s.line=[]->TTC W O a s
 | step {s:S} (C:List Nat):Cyc W O s C->(∀h∈C,a h=tgt W s h)->TTC W O a (zr3 W s C)->TTC W O a s
end
end Rg
end
section
namespace Rg
end Rg
end
section
namespace Rg
end Rg
end
namespace Law
open PySem PySem.Spec PyProof.Rows L2 DL
abbrev gv (i:Nat):DL.FE:=fun r=>DL.getV r i
abbrev ci (i:Int):DL.FE:=fun _=>.ok (.int i)
abbrev q0:List DL.Md:=[.sh,.sh,.sh,.sh,.sh]
abbrev q101:List DL.Md:=[.sh,.sh,.sh,.sh,.sh,.sh,.sh,.sh,.sh]
abbrev q102:List DL.Md:=[.bw,.bw]
abbrev q103:List DL.Md:=[.bw,.sh]
abbrev q104:List DL.Md:=[.sh,.sh,.sh,.sh]
abbrev q105:List DL.Md:=[.bw,.bw,.sh,.sh]
abbrev q106:List DL.Md:=[.bw,.ow]
abbrev q107:List DL.Md:=[.bw,.sh,.sh,.sh]
abbrev q108:List DL.Md:=[.sh,.bw,.bw,.ow,.sh,.sh]
abbrev q109:List DL.Md:=[.bw,.bw,.sh,.sh,.sh]
abbrev q110:List DL.Md:=[.sh,.sh]
abbrev q111:List DL.Md:=[.bw,.ow,.ow,.sh]
abbrev q112:List DL.Md:=[.sh,.sh,.ow,.sh,.sh]
abbrev q113:List DL.Md:=[.bw,.bw,.ow,.sh,.sh]
abbrev q114:List DL.Md:=[.sh,.bw,.ow,.sh]
abbrev q115:List DL.Md:=[.sh,.sh,.ow,.sh,.sh,.ow,.sh]
abbrev q116:List DL.Md:=[.sh,.sh,.ow,.sh,.sh,.sh,.sh]
abbrev q117:List DL.Md:=[.bw,.bw,.bw,.bw]
theorem zdT {α:Type} (us:List α) (h:us.length=1):∃a0,us=[a0]:=by
 match us,h with
 | [_],_=>exact ⟨_,rfl⟩
theorem zex {α:Type} (us:List α) (h:us.length=2):∃a0 a1,us=[a0,a1]:=by
 match us,h with
 | [_,_],_=>exact ⟨_,_,rfl⟩
theorem zr6 {α:Type} (us:List α) (h:us.length=3):∃a0 a1 a2,us=[a0,a1,a2]:=by
 match us,h with
 | [_,_,_],_=>exact ⟨_,_,_,rfl⟩
theorem zr5 {α:Type} (us:List α) (h:us.length=4):∃a0 a1 a2 a3,us=[a0,a1,a2,a3]:=by
 match us,h with
 | [_,_,_,_],_=>exact ⟨_,_,_,_,rfl⟩
def top (i:Nat):Stmt:=PySem.Challenge.pw_ringtrade_k05_texts_refused.main.body.getD i (.Pass ⟨0,0,0,0⟩)
structure Txt (K:W.Frag) (mg:Str->Option Value):Prop where
 b_len:mg "len" = none
 b_zip:mg "zip" = none
 b_int:mg "int" = none
 b_range:mg "range" = none
 b_tuple:mg "tuple" = none
 b_isinstance:mg "isinstance" = none
 b_bool:mg "bool" = none
 b_enumerate:mg "enumerate" = none
 b_all:mg "all" = none
 b_str:mg "str" = none
 b_ValueError:mg "ValueError" = none
 b_sorted:mg "sorted" = none
 b_list:mg "list" = none
 k_MOST_HANDS:∃t,mg "MOST_HANDS" = some (.int 7 t)
 k_MOST_THINGS:∃t,mg "MOST_THINGS" = some (.int 8 t)
 k_LETTERS:∃t,mg "LETTERS" = some (.str "ABCDEFGH" t)
def zbq:Str->Bool:=fun nm=>(["TradeError","TooMany","NoRow","NoOwn","NoText"]:List Str).contains nm
def zdt:Str->Option Bool:=fun nm=>if (["NoText"]:List Str).contains nm=true then some true else if (["TradeError","TooMany","NoRow","NoOwn"]:List Str).contains nm=true then some false else none
def zcE:Str->Option Bool:=fun nm=>if (["TooMany"]:List Str).contains nm=true then some true else if (["TradeError","NoRow","NoOwn","NoText"]:List Str).contains nm=true then some false else none
def zd3:Str->Option Bool:=fun nm=>if (["NoRow"]:List Str).contains nm=true then some true else if (["TradeError","TooMany","NoOwn","NoText"]:List Str).contains nm=true then some false else none
def zd4:Str->Option Bool:=fun nm=>if (["NoOwn"]:List Str).contains nm=true then some true else if (["TradeError","TooMany","NoRow","NoText"]:List Str).contains nm=true then some false else none
def zbM:Str->Option Bool:=fun nm=>if (["TradeError","TooMany","NoRow","NoOwn","NoText"]:List Str).contains nm=true then some true else if ([]:List Str).contains nm=true then some false else none
def ziD:Str->Bool:=fun nm=>(["NoText"]:List Str).contains nm
def zdv:Str->Bool:=fun nm=>(["NoRow","NoOwn"]:List Str).contains nm
abbrev zc7:Stmt:=zkJ (top 3)
theorem zju:FnScope ["self","hand"] ["self","hand"] (defScope zc7):=⟨rfl,rfl,rfl,by decide +kernel,rfl,by decide +kernel,by decide +kernel⟩
theorem zrq:∀(kV doc pm:Value) (an:Option Addr) (cdv ct:Value) (us:List Value),us.length=([("self" : Str),"hand"]).length->bindArgs (W.fnOf "__init__" "NoRow.__init__" (defArgs zc7) (defBody zc7) (defScope zc7) .none kV doc pm an cdv ct) ⟨us,[]⟩=pure (([("self" : Str),"hand"]).zip us):=fun _ _ _ _ _ _ us hl=>by obtain ⟨u0,u1,rfl⟩:=zex us hl; kernel_rfl
theorem zqL {P:Program} {w:World} {K:W.Frag} {mg:Str->Option Value} {C T fI:Addr} {bm:List Value} {fd:FuncData} (F:Fun K "__init__" "NoRow.__init__" zc7 fI fd) (xi:XI K C bm "hand") (hm:mg "TradeError" = some (.ref T)) (hT:XT K T) (base:Heap):FnOk P w K mg base CX0 1 fI fd ["self","hand"] (spI C "hand"):=
 zhV (k:=0) F zju xi fun cdv A outer s H E=>zeZ (zfj (zhM (by rfl) hm hT (zbb (zcf (i:=0) rfl (.inl rfl)) (zbb (znP (c:=cI) (zij (zjU (j:=1) rfl (.inl rfl) (zij zjT) (fun _ h=>h))) (by decide +kernel)) zde)))) (zhK (zhL (zcf (i:=0) rfl (.inl rfl)) (zcf (i:=1) rfl (.inl rfl))))
abbrev zc8:Stmt:=zkJ (top 4)
theorem zjv:FnScope ["self","hand"] ["self","hand"] (defScope zc8):=⟨rfl,rfl,rfl,by decide +kernel,rfl,by decide +kernel,by decide +kernel⟩
theorem zrr:∀(kV doc pm:Value) (an:Option Addr) (cdv ct:Value) (us:List Value),us.length=([("self" : Str),"hand"]).length->bindArgs (W.fnOf "__init__" "NoOwn.__init__" (defArgs zc8) (defBody zc8) (defScope zc8) .none kV doc pm an cdv ct) ⟨us,[]⟩=pure (([("self" : Str),"hand"]).zip us):=fun _ _ _ _ _ _ us hl=>by obtain ⟨u0,u1,rfl⟩:=zex us hl; kernel_rfl
theorem zqM {P:Program} {w:World} {K:W.Frag} {mg:Str->Option Value} {C T fI:Addr} {bm:List Value} {fd:FuncData} (F:Fun K "__init__" "NoOwn.__init__" zc8 fI fd) (xi:XI K C bm "hand") (hm:mg "TradeError" = some (.ref T)) (hT:XT K T) (base:Heap):FnOk P w K mg base CX0 1 fI fd ["self","hand"] (spI C "hand"):=
 zhV (k:=0) F zjv xi fun cdv A outer s H E=>zeZ (zfj (zhM (by rfl) hm hT (zbb (zcf (i:=0) rfl (.inl rfl)) (zbb (znP (c:=cI) (zij (zjU (j:=1) rfl (.inl rfl) zjT (fun _ h=>h))) (by decide +kernel)) zde)))) (zhK (zhL (zcf (i:=0) rfl (.inl rfl)) (zcf (i:=1) rfl (.inl rfl))))
abbrev zcw:Stmt:=zkJ (top 5)
theorem ziO:FnScope ["self","at"] ["self","at"] (defScope zcw):=⟨rfl,rfl,rfl,by decide +kernel,rfl,by decide +kernel,by decide +kernel⟩
theorem zri:∀(kV doc pm:Value) (an:Option Addr) (cdv ct:Value) (us:List Value),us.length=([("self" : Str),"at"]).length->bindArgs (W.fnOf "__init__" "NoText.__init__" (defArgs zcw) (defBody zcw) (defScope zcw) .none kV doc pm an cdv ct) ⟨us,[]⟩=pure (([("self" : Str),"at"]).zip us):=fun _ _ _ _ _ _ us hl=>by obtain ⟨u0,u1,rfl⟩:=zex us hl; kernel_rfl
theorem zoW {P:Program} {w:World} {K:W.Frag} {mg:Str->Option Value} {C T fI:Addr} {bm:List Value} {fd:FuncData} (F:Fun K "__init__" "NoText.__init__" zcw fI fd) (xi:XI K C bm "at") (hm:mg "TradeError" = some (.ref T)) (hT:XT K T) (base:Heap):FnOk P w K mg base CX0 1 fI fd ["self","at"] (spI C "at"):=
 zhV (k:=0) F ziO xi fun cdv A outer s H E=>zeZ (zfj (zhM (by rfl) hm hT (zbb (zcf (i:=0) rfl (.inl rfl)) (zbb (znP (c:=cI) (zij (zjU (j:=1) rfl (.inl rfl) zjT (fun _ h=>h))) (by decide +kernel)) zde)))) (zhK (zhL (zcf (i:=0) rfl (.inl rfl)) (zcf (i:=1) rfl (.inl rfl))))
abbrev zeI:Stmt:=top 28
abbrev zfN:List Str:=["_law_script","_law_k","_law_cell_here","_law_stirred"]
abbrev zcO:List Str:=["_law_script","_law_k"]
theorem zcm:FnScope zfN zcO (defScope zeI):=⟨rfl,rfl,rfl,by decide +kernel,rfl,by decide +kernel,by decide +kernel⟩
def zcj:FS:=
 (seqF (setF q105 2 (ci 0)) (seqF (ifF q105 (fTest (f2 (gv 1) (fC (zab (gv 0) lNil) lenD) ltI)) (seqF (setF q105 2 (f2 (f2 (gv 0) (gv 1) ixA) (f2 (ci 10) (ci 60) powI) modI)) zaj) zaj) (seqF (ifF q105 (fAnd (fTest (f2 (fC (zab (gv 0) lNil) lenD) (ci 0) gtI)) (fTest (f2 (f2 (f2 (gv 0) (ci 0) ixA) (ci 2) modI) (ci 0) eqD))) (seqF (retF q105 (gv 2)) zaj) zaj) (seqF (setF q105 3 (f2 (f2 (f2 (f2 (f2 (f2 (f2 (gv 2) (f2 (f2 (ci 7) (gv 1) mulI) (gv 1) mulI) addA) (f2 (ci 13) (gv 1) mulI) addA) (ci 5) addA) (ci 48271) mulI) (ci 2147483647) modI) (ci 69621) mulI) (ci 1000000007) modI)) (seqF (retF q105 (f2 (f2 (f2 (f2 (f2 (gv 3) (ci 1) addA) (ci 40692) mulI) (ci 2147483629) modI) (ci 39373) mulI) (ci 999999937) modI)) zaj)))))
def zaO:List D->Res D:=fun ds=>outR false (zcj (zao zfN.length ds))
variable {P:Program} {w:World} {K:W.Frag} {mg:Str->Option Value} {base:Heap}
theorem zmU (T:Txt K mg) (A:DefAt K mg "_law_cell" zeI):Callee P w K mg base "_law_cell" zcO [] 1 false q102 zaO:=by
 refine zbn (k:=0) (fs:=zcj) (m':=q105) A zcm rfl (fun _ _ _ _ _ _ us hl=>by obtain ⟨u0,u1,rfl⟩:=zex us hl; kernel_rfl) fun f cdv A outer s H g E hr=>?_
 have hu1:=zbI hr
 have hu64:=hr.units
 exact (zaa (zbY 2 zcm.nd (by rfl) (.inl rfl) zat)
   (zaa (s_if (q_lt (vb_ 1) (SE.toB (zb2 (by rfl) T.b_len (zar (vb_ 0) zaH)))) (zaa (zbY 2 zcm.nd (by rfl) (.inl rfl) (zdd (SE.toB (zdz hu1 (vb_ 0) (vb_ 1))) (SE.toB (zrF (SE.toB zat) (SE.toB zat)))))
   zad)
   zad)
   (zaa (s_if (SW.toQ (zpO (q_gt (SE.toB (zb2 (by rfl) T.b_len (zar (vb_ 0) zaH))) (SE.toB zat)) (zmH (q_eq hu64 (SE.toB (zdd (SE.toB (zdz hu1 (vb_ 0) (SE.toB zat))) (SE.toB zat))) (SE.toB zat))))) (zaa (za7 (v_ 2))
   zad)
   zad)
   (zaa (zbY 3 zcm.nd (by rfl) (.inl rfl) (zdd (SE.toB (zhB (SE.toB (zdd (SE.toB (zhB (SE.toB (zbd (SE.toB (zbd (SE.toB (zbd (vb_ 2) (SE.toB (zhB (SE.toB (zhB (SE.toB zat) (vb_ 1))) (vb_ 1))))) (SE.toB (zhB (SE.toB zat) (vb_ 1))))) (SE.toB zat))) (SE.toB zat))) (SE.toB zat))) (SE.toB zat))) (SE.toB zat)))
   (zaa (za7 (zdd (SE.toB (zhB (SE.toB (zdd (SE.toB (zhB (SE.toB (zbd (vb_ 3) (SE.toB zat))) (SE.toB zat))) (SE.toB zat))) (SE.toB zat))) (SE.toB zat)))
   zad)))))
abbrev zeF:Stmt:=top 32
abbrev zfK:List Str:=["_law_wishes_here","_law_owns_here","_law_parts","_law_row_here","_law_own","_law_words","_law_thing"]
abbrev zdY:List Str:=["_law_wishes_here","_law_owns_here"]
theorem zbv:FnScope zfK zdY (defScope zeF):=⟨rfl,rfl,rfl,by decide +kernel,rfl,by decide +kernel,by decide +kernel⟩
abbrev zen:FS:=
 (seqF (mutF "list" q115 5 (zab (f2 (f2 (fun _=>Res.ok (D.str "ABCDEFGH")) (gv 6) ixA) (f2 (fun _=>Res.ok (D.str "*")) (fC (zab (f2 (gv 6) (gv 4) eqD) lNil) zkF) zjr) addA) lNil) appD) zaj)
abbrev zem:FS:=
 (seqF (setF q116 5 (mkL lNil)) (seqF (zb3 q115 (fSeq zbf (gv 3)) (ftN 6) zen) (seqF (mutF "list" q115 2 (zab (fM "str" (fun _=>Res.ok (D.str " ")) (zab (gv 5) lNil) zg9) lNil) appD) zaj)))
def zcX:FS:=
 (seqF (setF [.sh,.sh,.sh,.sh,.sh,.sh,.sh] 2 (mkL lNil)) (seqF (zb3 q116 (fZip (gv 0) (gv 1)) (ftT (zak (ftN 3) (zak (ftN 4) zaW))) zem) (seqF (retF q116 (fM "str" (fun _=>Res.ok (D.str "; ")) (zab (gv 2) lNil) zg9)) zaj)))
def zcS:List D->Res D:=fun ds=>outR false (zcX (zao zfK.length ds))
theorem zmR (T:Txt K mg) (A:DefAt K mg "_law_text" zeF):Callee P w K mg base "_law_text" zdY [] 1 false q110 zcS:=by
 refine zbn (k:=0) (fs:=zcX) (m':=q116) A zbv rfl (fun _ _ _ _ _ _ us hl=>by obtain ⟨u0,u1,rfl⟩:=zex us hl; kernel_rfl) fun f cdv A outer s H g E hr=>?_
 have hu1:=zbI hr
 have hu64:=hr.units
 exact (zaa (zd9 2 zbv.nd (by rfl) (.inl rfl) (zc5 zaE))
   (zaa (zfO PassesOwn.never rfl (zsa (by rfl) T.b_zip (v_ 0) (v_ 1)) (zhd rfl (zb0 (zaF 3 zbv.nd (by rfl) (.inl rfl)) (zb0 (zaF 4 zbv.nd (by rfl) (.inl rfl)) zhe))) (zjo (m':=q115) 5 (zaa (zd9 5 zbv.nd (by rfl) (.inl rfl) (zc5 zaE))
   (zaa (zfO PassesOwn.never rfl (zqS (v_ 3)) (zaF 6 zbv.nd (by rfl) (.inl rfl)) (zaa (zeU 5 rfl PySem.F.plainAttrs_list PySem.F.slot_list_append PySem.F.type_list_append za8 zdm (by rfl) (.inl rfl) (zah (zbd (SE.toB (zdz hu1 (SE.toB zax) (vb_ 6))) (SE.toB (zpn (SE.toB zax) (SE.toB (zpq (by rfl) T.b_int (zar (SE.toB (s_eq hu64 (vb_ 6) (vb_ 4))) zaH)))))) zaE))
   zad))
   (zaa (zeU 2 rfl PySem.F.plainAttrs_list PySem.F.slot_list_append PySem.F.type_list_append za8 zdm (by rfl) (.inl rfl) (zah (s_bm PySem.F.plainAttrs_str PySem.F.slot_str_join PySem.F.type_str_join zgq zgv (SE.toB zax) (zar (vb_ 5) zaH)) zaE))
   zad))) rfl))
   (zaa (za7 (s_bm PySem.F.plainAttrs_str PySem.F.slot_str_join PySem.F.type_str_join zgq zgv (SE.toB zax) (zar (vb_ 2) zaH)))
   zad)))
abbrev zfd:Stmt:=top 29
abbrev zga:List Str:=["_law_cell_here","_law_m","_law_row_here","_law_thing"]
abbrev zez:List Str:=["_law_cell_here","_law_m"]
theorem zcH:FnScope zga zez (defScope zfd):=⟨rfl,rfl,rfl,by decide +kernel,rfl,by decide +kernel,by decide +kernel⟩
abbrev zeQ:FS:=
 (seqF (mutF "list" q114 2 (zab (f2 (gv 0) (f2 (gv 3) (ci 1) addA) modI) (zab (gv 3) lNil)) insD) (seqF (setF q114 0 (f2 (gv 0) (f2 (gv 3) (ci 1) addA) zdA)) zaj))
def zdx:FS:=
 (seqF (setF [.sh,.bw,.sh,.sh] 2 (mkL lNil)) (seqF (zb3 q114 (fRng rng1 (zab (gv 1) lNil)) (ftN 3) zeQ) (seqF (retF q114 (fC (zab (gv 2) lNil) tupD)) zaj)))
def zcC:List D->Res D:=fun ds=>outR false (zdx (zao zga.length ds))
theorem zn4 (T:Txt K mg) (A:DefAt K mg "_law_row" zfd):Callee P w K mg base "_law_row" zez [] 1 false [.sh,.bw] zcC:=by
 refine zbn (k:=0) (fs:=zdx) (m':=q114) A zcH rfl (fun _ _ _ _ _ _ us hl=>by obtain ⟨u0,u1,rfl⟩:=zex us hl; kernel_rfl) fun f cdv A outer s H g E hr=>?_
 have hu1:=zbI hr
 have hu64:=hr.units
 exact (zaa (zd9 2 zcH.nd (by rfl) (.inl rfl) (zc5 zaE))
   (zaa (zfO PassesOwn.never rfl (zeh (by rfl) T.b_range (zar (vb_ 1) zaH)) (zaF 3 zcH.nd (by rfl) (.inl rfl)) (zaa (zeU 2 rfl PySem.F.plainAttrs_list PySem.F.slot_list_insert PySem.F.type_list_insert zkj zqJ (by rfl) (.inl rfl) (zah (zdd (vb_ 0) (SE.toB (zbd (vb_ 3) (SE.toB zat)))) (zah (v_ 3) zaE)))
   (zaa (zbY 0 zcH.nd (by rfl) (.inl rfl) (zeJ (vb_ 0) (SE.toB (zbd (vb_ 3) (SE.toB zat)))))
   zad)))
   (zaa (za7 (zes (by rfl) T.b_tuple (zar (vb_ 2) zaH)))
   zad)))
abbrev zbO:Stmt:=top 30
abbrev zb6:List Str:=["_law_script","_law_at","_law_n","_law_m"]
abbrev zcN:List Str:=["_law_script","_law_at","_law_n","_law_m"]
theorem zdF:FnScope zb6 zcN (defScope zbO):=⟨rfl,rfl,rfl,by decide +kernel,rfl,by decide +kernel,by decide +kernel⟩
def zca:FS:=
 (seqF (retF q117 (fC (zab (zbZ 1 [3,0,1] (fRng rng1 (zab (gv 2) lNil)) (ftN 0) (fun _=>Res.ok true) (zaz (zab (zaz (zab (gv 2) (zab (f2 (gv 3) (gv 0) addA) lNil)) [] zaO) (zab (gv 1) lNil)) [] zcC)) lNil) tupD)) zaj)
def zb8:List D->Res D:=fun ds=>outR false (zca (zao zb6.length ds))
theorem zlg (T:Txt K mg) (A:DefAt K mg "_law_wishes" zbO) (c__law_cell:Callee P w K mg base "_law_cell" zcO [] 1 false q102 zaO) (c__law_row:Callee P w K mg base "_law_row" zez [] 1 false [.sh,.bw] zcC):Callee P w K mg base "_law_wishes" zcN [] 2 false q117 zb8:=by
 refine zbn (k:=1) (fs:=zca) (m':=q117) A zdF rfl (fun _ _ _ _ _ _ us hl=>by obtain ⟨u0,u1,u2,u3,rfl⟩:=zr5 us hl; kernel_rfl) fun f cdv A outer s H g E hr=>?_
 have hu1:=zbI hr
 have hu64:=hr.units
 exact (zaa (za7 (zes (by rfl) T.b_tuple (zar (SO.toB (zeK (X:=(cxOf CX0 P w K mg base zb6 "_law_wishes" (defScope zbO) f cdv A outer s H E).nox) (N':=["_law_hand","_law_m","_law_script","_law_at"]) (nl:=1) (cap:=[3,0,1]) zdF.nd rfl (zbj (osc:=(defScope zbO)) (ON:=zb6) rfl rfl (by decide +kernel)) (SIt.toC (zeh (by rfl) T.b_range (zar (vb_ 2) zaH))) (fun _ _ _ _ _ _=>(zaF 0 (show List.Nodup (["_law_hand","_law_m","_law_script","_law_at"]:List Str) by decide +kernel) (by rfl) (.inl rfl))) (zdk (by decide)) (fun _ _ _ _ _ _=>zdH) (fun _ _ _ _ _ _=>(zaM (dds:=[]) c__law_row (hr.mono (by decide)) (m_sh (zaM (dds:=[]) c__law_cell (hr.mono (by decide)) (m_bw (vb_ 2) (m_bw (SE.toB (zbd (vb_ 3) (vb_ 0))) zbe))) (m_bw (vb_ 1) zbe)))))) zaH)))
   zad)
abbrev zeH:Stmt:=top 31
abbrev zfM:List Str:=["_law_cell_here","_law_n","_law_m","_law_owns_here","_law_hand","_law_thing"]
abbrev zd0:List Str:=["_law_cell_here","_law_n","_law_m"]
theorem zbT:FnScope zfM zd0 (defScope zeH):=⟨rfl,rfl,rfl,by decide +kernel,rfl,by decide +kernel,by decide +kernel⟩
abbrev zcP:FS:=
 (seqF (setF q108 5 (f2 (gv 0) (f2 (gv 2) (ci 1) addA) modI)) (seqF (setF q108 0 (f2 (gv 0) (f2 (gv 2) (ci 1) addA) zdA)) (seqF (ifF q108 (fOr (fTest (f2 (gv 5) (gv 2) eqD)) (fTest (f2 (gv 5) (gv 3) inD))) (seqF (mutF "list" q108 3 (zab (fun _=>Res.ok D.non) lNil) appD) zaj) (seqF (mutF "list" q108 3 (zab (gv 5) lNil) appD) zaj)) zaj)))
def zcZ:FS:=
 (seqF (setF [.sh,.bw,.bw,.sh,.sh,.sh] 3 (mkL lNil)) (seqF (zb3 q108 (fRng rng1 (zab (gv 1) lNil)) (ftN 4) zcP) (seqF (retF q108 (fC (zab (gv 3) lNil) tupD)) zaj)))
def zcU:List D->Res D:=fun ds=>outR false (zcZ (zao zfM.length ds))
theorem zmT (T:Txt K mg) (A:DefAt K mg "_law_owns" zeH):Callee P w K mg base "_law_owns" zd0 [] 1 false [.sh,.bw,.bw] zcU:=by
 refine zbn (k:=0) (fs:=zcZ) (m':=q108) A zbT rfl (fun _ _ _ _ _ _ us hl=>by obtain ⟨u0,u1,u2,rfl⟩:=zr6 us hl; kernel_rfl) fun f cdv A outer s H g E hr=>?_
 have hu1:=zbI hr
 have hu64:=hr.units
 exact (zaa (zd9 3 zbT.nd (by rfl) (.inl rfl) (zc5 zaE))
   (zaa (zfO PassesOwn.never rfl (zeh (by rfl) T.b_range (zar (vb_ 1) zaH)) (zaF 4 zbT.nd (by rfl) (.inl rfl)) (zaa (zbY 5 zbT.nd (by rfl) (.inl rfl) (zdd (vb_ 0) (SE.toB (zbd (vb_ 2) (SE.toB zat)))))
   (zaa (zbY 0 zbT.nd (by rfl) (.inl rfl) (zeJ (vb_ 0) (SE.toB (zbd (vb_ 2) (SE.toB zat)))))
   (zaa (s_if (SW.toQ (q_or (q_eq hu64 (vb_ 5) (vb_ 2)) (zhH (q_in hu1 (vb_ 5) (vb_ 3))))) (zaa (zeU 3 rfl PySem.F.plainAttrs_list PySem.F.slot_list_append PySem.F.type_list_append za8 zdm (by rfl) (.inl rfl) (zah zeT zaE))
   zad)
   (zaa (zeU 3 rfl PySem.F.plainAttrs_list PySem.F.slot_list_append PySem.F.type_list_append za8 zdm (by rfl) (.inl rfl) (zah (v_ 5) zaE))
   zad))
   zad))))
   (zaa (za7 (zes (by rfl) T.b_tuple (zar (vb_ 3) zaH)))
   zad)))
abbrev zda:Stmt:=top 33
abbrev zdO:List Str:=["_law_text_here","_law_cell_here","_law_some","_law_at","_law_sign"]
abbrev zcu:List Str:=["_law_text_here","_law_cell_here"]
theorem zbi:FnScope zdO zcu (defScope zda):=⟨rfl,rfl,rfl,by decide +kernel,rfl,by decide +kernel,by decide +kernel⟩
def zbS:FS:=
 (seqF (setF q109 2 (fun _=>Res.ok (D.str " !\"#$&'()*+,-./0123456789:;<=>?@ABCDEFGHIJKLMNOPQRSTUVWXYZ[\\]^_abcdefghijklmnopqrstuvwxyz{|}~"))) (seqF (ifF q109 (fTest (f2 (f2 (gv 1) (ci 2) modI) (ci 0) eqD)) (seqF (setF q109 2 (fun _=>Res.ok (D.str "ABCDH*; "))) zaj) zaj) (seqF (setF q109 3 (f2 (f2 (gv 1) (ci 6) zdA) (f2 (fC (zab (gv 0) lNil) lenD) (ci 1) addA) modI)) (seqF (setF q109 4 (f2 (gv 2) (f2 (f2 (gv 1) (ci 600) zdA) (fC (zab (gv 2) lNil) lenD) modI) ixA)) (seqF (retF q109 (f2 (mkL (zab (f2 (f2 (fSlX (gv 0) (fun _=>Res.ok none) (zcy (gv 3))) (gv 4) addA) (fSlX (gv 0) (zcy (gv 3)) (fun _=>Res.ok none)) addA) (zab (f2 (fSlX (gv 0) (fun _=>Res.ok none) (zcy (gv 3))) (fSlX (gv 0) (zcy (f2 (gv 3) (ci 1) addA)) (fun _=>Res.ok none)) addA) (zab (f2 (f2 (fSlX (gv 0) (fun _=>Res.ok none) (zcy (gv 3))) (gv 4) addA) (fSlX (gv 0) (zcy (f2 (gv 3) (ci 1) addA)) (fun _=>Res.ok none)) addA) lNil)))) (f2 (f2 (gv 1) (ci 2) zdA) (ci 3) modI) ixA)) zaj)))))
def zbQ:List D->Res D:=fun ds=>outR false (zbS (zao zdO.length ds))
theorem zka (T:Txt K mg) (A:DefAt K mg "_law_changed" zda):Callee P w K mg base "_law_changed" zcu [] 1 false q102 zbQ:=by
 refine zbn (k:=0) (fs:=zbS) (m':=q109) A zbi rfl (fun _ _ _ _ _ _ us hl=>by obtain ⟨u0,u1,rfl⟩:=zex us hl; kernel_rfl) fun f cdv A outer s H g E hr=>?_
 have hu1:=zbI hr
 have hu64:=hr.units
 exact (zaa (zbY 2 zbi.nd (by rfl) (.inl rfl) zax)
   (zaa (s_if (q_eq hu64 (SE.toB (zdd (vb_ 1) (SE.toB zat))) (SE.toB zat)) (zaa (zbY 2 zbi.nd (by rfl) (.inl rfl) zax)
   zad)
   zad)
   (zaa (zbY 3 zbi.nd (by rfl) (.inl rfl) (zdd (SE.toB (zeJ (vb_ 1) (SE.toB zat))) (SE.toB (zbd (SE.toB (zb2 (by rfl) T.b_len (zar (vb_ 0) zaH))) (SE.toB zat)))))
   (zaa (zbY 4 zbi.nd (by rfl) (.inl rfl) (zdz hu1 (vb_ 2) (SE.toB (zdd (SE.toB (zeJ (vb_ 1) (SE.toB zat))) (SE.toB (zb2 (by rfl) T.b_len (zar (vb_ 2) zaH)))))))
   (zaa (za7 (zdz hu1 (SO.toB (zc5 (zah (zbd (SE.toB (zbd (SE.toB (zgm (vb_ 0) zdJ (zdI (vb_ 3)))) (vb_ 4))) (SE.toB (zgm (vb_ 0) (zdI (vb_ 3)) zdJ))) (zah (zbd (SE.toB (zgm (vb_ 0) zdJ (zdI (vb_ 3)))) (SE.toB (zgm (vb_ 0) (zdI (SE.toB (zbd (vb_ 3) (SE.toB zat)))) zdJ))) (zah (zbd (SE.toB (zbd (SE.toB (zgm (vb_ 0) zdJ (zdI (vb_ 3)))) (vb_ 4))) (SE.toB (zgm (vb_ 0) (zdI (SE.toB (zbd (vb_ 3) (SE.toB zat)))) zdJ))) zaE))))) (SE.toB (zdd (SE.toB (zeJ (vb_ 1) (SE.toB zat))) (SE.toB zat)))))
   zad)))))
abbrev zfe:Stmt:=top 34
abbrev zgb:List Str:=["_law_cell_here","_law_some"]
abbrev zeA:List Str:=["_law_cell_here"]
theorem zce:FnScope zgb zeA (defScope zfe):=⟨rfl,rfl,rfl,by decide +kernel,rfl,by decide +kernel,by decide +kernel⟩
def zdy:FS:=
 (seqF (setF q103 1 (mkL (zab (fun _=>Res.ok (D.str "")) (zab (fun _=>Res.ok (D.str " ")) (zab (fun _=>Res.ok (D.str "A")) (zab (fun _=>Res.ok (D.str "A*")) (zab (fun _=>Res.ok (D.str "A**")) (zab (fun _=>Res.ok (D.str "*")) (zab (fun _=>Res.ok (D.str "A *")) (zab (fun _=>Res.ok (D.str "a")) (zab (fun _=>Res.ok (D.str "A B; A B; A B")) (zab (fun _=>Res.ok (D.str "A B;A B")) (zab (fun _=>Res.ok (D.str "A B ; A B")) (zab (fun _=>Res.ok (D.str "A B;  A B")) (zab (fun _=>Res.ok (D.str "A B; ")) lNil))))))))))))))) (seqF (setF q103 1 (f2 (gv 1) (mkL (zab (fun _=>Res.ok (D.str "; A B")) (zab (fun _=>Res.ok (D.str "A  B")) (zab (fun _=>Res.ok (D.str "A* B*")) (zab (fun _=>Res.ok (D.str "A* B; A* B")) (zab (fun _=>Res.ok (D.str "B A; A")) (zab (fun _=>Res.ok (D.str "A B; A C")) (zab (fun _=>Res.ok (D.str "A A; A B")) (zab (fun _=>Res.ok (D.str "A,B")) (zab (fun _=>Res.ok (D.str "A B\\; A B")) (zab (fun _=>Res.ok (D.str "I")) lNil))))))))))) addA)) (seqF (setF q103 1 (f2 (gv 1) (mkL (zab (fun _=>Res.ok (D.str "A B C D E F G H; H G F E D C B A*")) (zab (fun _=>Res.ok D.non) (zab (ci 7) (zab (mkL (zab (fun _=>Res.ok (D.str "A")) lNil)) (zab (fun _=>Res.ok (D.bl true)) lNil)))))) addA)) (seqF (setF q103 1 (f2 (gv 1) (mkL (zab (fM "str" (fun _=>Res.ok (D.str "; ")) (zab (f2 (mkL (zab (fun _=>Res.ok (D.str "A B C D E F G H")) lNil)) (ci 8) repD) lNil) zg9) (zab (fun _=>Res.ok (D.str "A B C D E F G H A")) (zab (fM "str" (fun _=>Res.ok (D.str "; ")) (zab (f2 (mkL (zab (fun _=>Res.ok (D.str "A B C D E F G")) lNil)) (ci 7) repD) lNil) zg9) lNil)))) addA)) (seqF (retF q103 (f2 (gv 1) (f2 (gv 0) (fC (zab (gv 1) lNil) lenD) modI) ixA)) zaj)))))
def zcD:List D->Res D:=fun ds=>outR false (zdy (zao zgb.length ds))
theorem zn5 (T:Txt K mg) (A:DefAt K mg "_law_odd" zfe):Callee P w K mg base "_law_odd" zeA [] 1 false [Md.bw] zcD:=by
 refine zbn (k:=0) (fs:=zdy) (m':=q103) A zce rfl (fun _ _ _ _ _ _ us hl=>by obtain ⟨u0,rfl⟩:=zdT us hl; kernel_rfl) fun f cdv A outer s H g E hr=>?_
 have hu1:=zbI hr
 have hu64:=hr.units
 refine zaa (zbY 1 zce.nd (by rfl) (.inl rfl) ?_) ?_
 ·refine SO.toE ?_
  refine zc5 ?_
  refine zah ?_ ?_
  ·exact zax
  refine zah ?_ ?_
  ·exact zax
  refine zah ?_ ?_
  ·exact zax
  refine zah ?_ ?_
  ·exact zax
  refine zah ?_ ?_
  ·exact zax
  refine zah ?_ ?_
  ·exact zax
  refine zah ?_ ?_
  ·exact zax
  refine zah ?_ ?_
  ·exact zax
  refine zah ?_ ?_
  ·exact zax
  refine zah ?_ ?_
  ·exact zax
  refine zah ?_ ?_
  ·exact zax
  refine zah ?_ ?_
  ·exact zax
  refine zah ?_ ?_
  ·exact zax
  exact zaE
 refine zaa (zbY 1 zce.nd (by rfl) (.inl rfl) ?_) ?_
 ·refine zbd (vb_ 1) ?_
  refine SO.toB ?_
  refine zc5 ?_
  refine zah ?_ ?_
  ·exact zax
  refine zah ?_ ?_
  ·exact zax
  refine zah ?_ ?_
  ·exact zax
  refine zah ?_ ?_
  ·exact zax
  refine zah ?_ ?_
  ·exact zax
  refine zah ?_ ?_
  ·exact zax
  refine zah ?_ ?_
  ·exact zax
  refine zah ?_ ?_
  ·exact zax
  refine zah ?_ ?_
  ·exact zax
  refine zah ?_ ?_
  ·exact zax
  exact zaE
 refine zaa (zbY 1 zce.nd (by rfl) (.inl rfl) ?_) ?_
 ·refine zbd (vb_ 1) ?_
  refine SO.toB ?_
  refine zc5 ?_
  refine zah ?_ ?_
  ·exact zax
  refine zah ?_ ?_
  ·exact zeT
  refine zah ?_ ?_
  ·exact zat
  refine zah ?_ ?_
  ·exact (SO.toE (zc5 (zah zax zaE)))
  refine zah ?_ ?_
  ·exact s_bl
  exact zaE
 refine zaa (zbY 1 zce.nd (by rfl) (.inl rfl) ?_) ?_
 ·refine zbd (vb_ 1) ?_
  refine SO.toB ?_
  refine zc5 ?_
  refine zah ?_ ?_
  ·exact (s_bm PySem.F.plainAttrs_str PySem.F.slot_str_join PySem.F.type_str_join zgq zgv (SE.toB zax) (zar (SO.toB (zqn (zc5 (zah zax zaE)) (SE.toB zat))) zaH))
  refine zah ?_ ?_
  ·exact zax
  refine zah ?_ ?_
  ·exact (s_bm PySem.F.plainAttrs_str PySem.F.slot_str_join PySem.F.type_str_join zgq zgv (SE.toB zax) (zar (SO.toB (zqn (zc5 (zah zax zaE)) (SE.toB zat))) zaH))
  exact zaE
 exact (zaa (za7 (zdz hu1 (vb_ 1) (SE.toB (zdd (vb_ 0) (SE.toB (zb2 (by rfl) T.b_len (zar (vb_ 1) zaH)))))))
   zad)
abbrev zbo:Stmt:=top 14
abbrev zbx:List Str:=["rows"]
abbrev zaZ:List Str:=["rows"]
theorem zcr:FnScope zbx zaZ (defScope zbo):=⟨rfl,rfl,rfl,by decide +kernel,rfl,by decide +kernel,by decide +kernel⟩
def zas:FS:=
 (seqF (ifF [Md.sh] (fOr (fTest (f2 (fC (zab (gv 0) lNil) lenD) (ci 1) ltI)) (fTest (f2 (fC (zab (gv 0) lNil) lenD) (ci 7) gtI))) (seqF (raiF [Md.sh] "TooMany" (zab (fun _=>Res.ok (D.str "there must be from one to seven rows")) lNil)) zaj) zaj) zaj)
def zaG:List D->Res D:=fun ds=>outR false (zas (zao zbx.length ds))
theorem zfQ (T:Txt K mg) (A:DefAt K mg "refuse_too_many_rows" zbo) {C_TooMany:Addr} (xc_TooMany:XC K mg "TooMany" C_TooMany) (xn_TooMany:XN K "TooMany" C_TooMany):CalleeX P w K mg base "refuse_too_many_rows" zaZ [] 1 false [Md.sh] zaG:=by
 refine zgr (k:=0) (fs:=zas) (m':=[Md.sh]) A zcr rfl (fun _ _ _ _ _ _ us hl=>by obtain ⟨u0,rfl⟩:=zdT us hl; kernel_rfl) fun f cdv A outer s H g E hr=>?_
 have hu1:=zbI hr
 have hu64:=hr.units
 exact (zaa (s_if (SW.toQ (q_or (q_lt (SE.toB (zb2 (by rfl) T.b_len (zar (vb_ 0) zaH))) (SE.toB zat)) (zhH (q_gt (SE.toB (zb2 (by rfl) T.b_len (zar (vb_ 0) zaH))) (SE.toB (zjy (by rfl) T.k_MOST_HANDS)))))) (zaa (zjw rfl xc_TooMany xn_TooMany (by rfl) (zah zax zaE))
   zad)
   zad)
   zad)
abbrev zfb:Stmt:=top 9
abbrev zf8:List Str:=["value"]
abbrev zey:List Str:=["value"]
theorem zhz:FnScope zf8 zey (defScope zfb):=⟨rfl,rfl,rfl,by decide +kernel,rfl,by decide +kernel,by decide +kernel⟩
def zgc:FS:=
 (seqF (retF [Md.bw] (vAnd (f1 (gv 0) (isiD "int")) (vNot (f1 (gv 0) (isiD "bool"))))) zaj)
def zcB:List D->Res D:=fun ds=>outR false (zgc (zao zf8.length ds))
theorem zn2 (T:Txt K mg) (A:DefAt K mg "is_whole" zfb):Callee P w K mg base "is_whole" zey [] 1 false [Md.bw] zcB:=by
 refine zbn (k:=0) (fs:=zgc) (m':=[Md.bw]) A zhz rfl (fun _ _ _ _ _ _ us hl=>by obtain ⟨u0,rfl⟩:=zdT us hl; kernel_rfl) fun f cdv A outer s H g E hr=>?_
 have hu1:=zbI hr
 have hu64:=hr.units
 exact (zaa (za7 (zjB (zlu "int" "int" rfl (zok _) (by rfl) T.b_isinstance (by rfl) T.b_int (vb_ 0)) (zjx (zrG (zlu "bool" "bool" rfl (zl4 _) (by rfl) T.b_isinstance (by rfl) T.b_bool (vb_ 0))))))
   zad)
abbrev zfc:Stmt:=top 10
abbrev zf9:List Str:=["value","bound"]
abbrev zdw:List Str:=["value","bound"]
theorem zhA:FnScope zf9 zdw (defScope zfc):=⟨rfl,rfl,rfl,by decide +kernel,rfl,by decide +kernel,by decide +kernel⟩
def zbz:FS:=
 (seqF (retF q102 (vAnd (zaz (zab (gv 0) lNil) [] zcB) (zf6 (ci 0) (gv 0) (gv 1) leI ltI))) zaj)
def zaP:List D->Res D:=fun ds=>outR false (zbz (zao zf9.length ds))
theorem zn3 (T:Txt K mg) (A:DefAt K mg "is_below" zfc) (c_is_whole:Callee P w K mg base "is_whole" zey [] 1 false [Md.bw] zcB):Callee P w K mg base "is_below" zdw [] 2 false q102 zaP:=by
 refine zbn (k:=1) (fs:=zbz) (m':=q102) A zhA rfl (fun _ _ _ _ _ _ us hl=>by obtain ⟨u0,u1,rfl⟩:=zex us hl; kernel_rfl) fun f cdv A outer s H g E hr=>?_
 have hu1:=zbI hr
 have hu64:=hr.units
 exact (zaa (za7 (zjB (zaM (dds:=[]) c_is_whole (hr.mono (by decide)) (m_bw (vb_ 0) zbe)) (zjx (zlv zrW znY zrZ zrY (SE.toB zat) (vb_ 0) (vb_ 1)))))
   zad)
abbrev zdD:Stmt:=top 11
abbrev zel:List Str:=["numbers","bound","ahead","place","number"]
abbrev zcM:List Str:=["numbers","bound"]
theorem zbP:FnScope zel zcM (defScope zdD):=⟨rfl,rfl,rfl,by decide +kernel,rfl,by decide +kernel,by decide +kernel⟩
abbrev zaN:FS:=
 (seqF (ifF q113 (fOr (fNot (fTru (zaz (zab (gv 4) (zab (gv 1) lNil)) [] zaP))) (fTest (f2 (gv 4) (gv 2) inD))) (seqF (retF q113 (gv 3)) zaj) zaj) (seqF (putF q113 2 (gv 4) (fun _=>Res.ok (D.bl true))) zaj))
def zb9:FS:=
 (seqF (setF q109 2 (fun _=>Res.ok (D.dic []))) (seqF (zb3 q113 (fEnu (gv 0)) (ftT (zak (ftN 3) (zak (ftN 4) zaW))) zaN) (seqF (retF q113 (fC (zab (gv 0) lNil) lenD)) zaj)))
def zb7:List D->Res D:=fun ds=>outR false (zb9 (zao zel.length ds))
theorem zlf (T:Txt K mg) (A:DefAt K mg "first_wrong" zdD) (c_is_below:Callee P w K mg base "is_below" zdw [] 2 false q102 zaP):Callee P w K mg base "first_wrong" zcM [] 3 false q102 zb7:=by
 refine zbn (k:=2) (fs:=zb9) (m':=q113) A zbP rfl (fun _ _ _ _ _ _ us hl=>by obtain ⟨u0,u1,rfl⟩:=zex us hl; kernel_rfl) fun f cdv A outer s H g E hr=>?_
 have hu1:=zbI hr
 have hu64:=hr.units
 exact (zaa (zd9 2 zbP.nd (by rfl) (.inl rfl) zmV)
   (zaa (zps PassesOwn.never rfl (zov (by rfl) T.b_enumerate (vw_ 0)) (zhd rfl (zb0 (zaF 3 zbP.nd (by rfl) (.inl rfl)) (zb0 (zaF 4 zbP.nd (by rfl) (.inl rfl)) zhe))) (zaa (s_if (SW.toQ (q_or (zhI (zec (SE.toB (zaM (dds:=[]) c_is_below (hr.mono (by decide)) (m_bw (vb_ 4) (m_bw (vb_ 1) zbe)))))) (zhH (q_in hu1 (vb_ 4) (vb_ 2))))) (zaa (za7 (v_ 3))
   zad)
   zad)
   (zaa (zpo 2 hu1 rfl (by rfl) (.inl rfl) (vb_ 4) s_bl)
   zad)))
   (zaa (za7 (zb2 (by rfl) T.b_len (zar (vb_ 0) zaH)))
   zad)))
abbrev zd7:Stmt:=top 12
abbrev zeP:List Str:=["numbers","bound"]
abbrev zdn:List Str:=["numbers","bound"]
theorem zgl:FnScope zeP zdn (defScope zd7):=⟨rfl,rfl,rfl,by decide +kernel,rfl,by decide +kernel,by decide +kernel⟩
def zcq:FS:=
 (seqF (retF q102 (f2 (zaz (zab (gv 0) (zab (gv 1) lNil)) [] zb7) (fC (zab (gv 0) lNil) lenD) eqD)) zaj)
def zco:List D->Res D:=fun ds=>outR false (zcq (zao zeP.length ds))
theorem zlT (T:Txt K mg) (A:DefAt K mg "are_unlike" zd7) (c_first_wrong:Callee P w K mg base "first_wrong" zcM [] 3 false q102 zb7):Callee P w K mg base "are_unlike" zdn [] 4 false q102 zco:=by
 refine zbn (k:=3) (fs:=zcq) (m':=q102) A zgl rfl (fun _ _ _ _ _ _ us hl=>by obtain ⟨u0,u1,rfl⟩:=zex us hl; kernel_rfl) fun f cdv A outer s H g E hr=>?_
 have hu1:=zbI hr
 have hu64:=hr.units
 exact (zaa (za7 (s_eq hu64 (SE.toB (zaM (dds:=[]) c_first_wrong (hr.mono (by decide)) (m_bw (vb_ 0) (m_bw (vb_ 1) zbe)))) (SE.toB (zb2 (by rfl) T.b_len (zar (vb_ 0) zaH)))))
   zad)
abbrev zc0:Stmt:=top 13
abbrev zdo:List Str:=["numbers","bound"]
abbrev zch:List Str:=["numbers","bound"]
theorem zeS:FnScope zdo zch (defScope zc0):=⟨rfl,rfl,rfl,by decide +kernel,rfl,by decide +kernel,by decide +kernel⟩
def zbE:FS:=
 (seqF (retF q102 (vAnd (f2 (fC (zab (gv 0) lNil) lenD) (gv 1) eqD) (zaz (zab (gv 0) (zab (gv 1) lNil)) [] zco))) zaj)
def zbl:List D->Res D:=fun ds=>outR false (zbE (zao zdo.length ds))
theorem zje (T:Txt K mg) (A:DefAt K mg "has_each_once" zc0) (c_are_unlike:Callee P w K mg base "are_unlike" zdn [] 4 false q102 zco):Callee P w K mg base "has_each_once" zch [] 5 false q102 zbl:=by
 refine zbn (k:=4) (fs:=zbE) (m':=q102) A zeS rfl (fun _ _ _ _ _ _ us hl=>by obtain ⟨u0,u1,rfl⟩:=zex us hl; kernel_rfl) fun f cdv A outer s H g E hr=>?_
 have hu1:=zbI hr
 have hu64:=hr.units
 exact (zaa (za7 (zjB (s_eq hu64 (SE.toB (zb2 (by rfl) T.b_len (zar (vb_ 0) zaH))) (vb_ 1)) (zjx (zaM (dds:=[]) c_are_unlike (hr.mono (by decide)) (m_bw (vb_ 0) (m_bw (vb_ 1) zbe))))))
   zad)
abbrev zbN:Stmt:=top 15
abbrev zb5:List Str:=["rows","things","hand","row"]
abbrev zcK:List Str:=["rows"]
theorem zbp:FnScope zb5 zcK (defScope zbN):=⟨rfl,rfl,rfl,by decide +kernel,rfl,by decide +kernel,by decide +kernel⟩
abbrev za0:FS:=
 (seqF (ifF q104 (fNot (fTru (zaz (zab (gv 3) (zab (gv 1) lNil)) [] zbl))) (seqF (zg0 q104 "NoRow" "hand" (zab (gv 2) lNil)) zaj) zaj) zaj)
def zaT:FS:=
 (seqF (zhl q104 (zc6 (zab (gv 0) lNil) [] zaG)) (seqF (setF q104 1 (fC (zab (f2 (gv 0) (ci 0) ixA) lNil) lenD)) (seqF (ifF q104 (fOr (fTest (f2 (gv 1) (fC (zab (gv 0) lNil) lenD) ltI)) (fTest (f2 (gv 1) (ci 8) gtI))) (seqF (raiF q104 "TooMany" (zab (fun _=>Res.ok (D.str "there must be as many things as hands or more, and at most eight")) lNil)) zaj) zaj) (seqF (zb3 q104 (fEnu (gv 0)) (ftT (zak (ftN 2) (zak (ftN 3) zaW))) za0) (seqF (retF q104 (fC (zab (zbZ 1 [] (fSeq zbf (gv 0)) (ftN 0) (fun _=>Res.ok true) (fC (zab (gv 0) lNil) tupD)) lNil) tupD)) zaj)))))
def zbm:List D->Res D:=fun ds=>outR false (zaT (zao zb5.length ds))
theorem zld (T:Txt K mg) (A:DefAt K mg "wishes_of" zbN) (c_refuse_too_many_rows_x:CalleeX P w K mg base "refuse_too_many_rows" zaZ [] 1 false [Md.sh] zaG) (c_has_each_once:Callee P w K mg base "has_each_once" zch [] 5 false q102 zbl) {C_TooMany:Addr} (xc_TooMany:XC K mg "TooMany" C_TooMany) (xn_TooMany:XN K "TooMany" C_TooMany) {C_NoRow:Addr} (xi_NoRow:XCI P w K mg base "NoRow" C_NoRow "hand") (xn_NoRow:XN K "NoRow" C_NoRow):CalleeX P w K mg base "wishes_of" zcK [] 6 false [Md.sh] zbm:=by
 refine zgr (k:=5) (fs:=zaT) (m':=q104) A zbp rfl (fun _ _ _ _ _ _ us hl=>by obtain ⟨u0,rfl⟩:=zdT us hl; kernel_rfl) fun f cdv A outer s H g E hr=>?_
 have hu1:=zbI hr
 have hu64:=hr.units
 exact (zaa (zmE (zgE c_refuse_too_many_rows_x (hr.mono (by decide)) (m_sh (v_ 0) zbe)))
   (zaa (zbY 1 zbp.nd (by rfl) (.inl rfl) (zb2 (by rfl) T.b_len (zar (SE.toB (zdz hu1 (vb_ 0) (SE.toB zat))) zaH)))
   (zaa (s_if (SW.toQ (q_or (q_lt (vb_ 1) (SE.toB (zb2 (by rfl) T.b_len (zar (vb_ 0) zaH)))) (zhH (q_gt (vb_ 1) (SE.toB (zjy (by rfl) T.k_MOST_THINGS)))))) (zaa (zjw rfl xc_TooMany xn_TooMany (by rfl) (zah zax zaE))
   zad)
   zad)
   (zaa (zjA rfl rfl rfl (zf4 (by rfl) T.b_enumerate (v_ 0)) (zhd rfl (zb0 (zaF 2 zbp.nd (by rfl) (.inl rfl)) (zb0 (zaF 3 zbp.nd (by rfl) (.inl rfl)) zhe))) (zaa (s_if (zhI (zec (SE.toB (zaM (dds:=[]) c_has_each_once (hr.mono (by decide)) (m_bw (vb_ 3) (m_bw (vb_ 1) zbe)))))) (zaa (zea rfl xi_NoRow xn_NoRow (hr.mono (by decide)) (by rfl) (zah (v_ 2) zaE))
   zad)
   zad)
   zad))
   (zaa (za7 (zes (by rfl) T.b_tuple (zar (SO.toB (zeK (X:=(cxOf (CXR P w) P w K mg base zb5 "wishes_of" (defScope zbN) f cdv A outer s H E)) (N':=["row"]) (nl:=1) (cap:=[]) zbp.nd rfl (zbj (osc:=(defScope zbN)) (ON:=zb5) rfl rfl (by decide +kernel)) (zdj (vb_ 0)) (fun _ _ _ _ _ _=>(zaF 0 (show List.Nodup (["row"]:List Str) by decide +kernel) (by rfl) (.inl rfl))) (zdk (by decide)) (fun _ _ _ _ _ _=>zdH) (fun _ _ _ _ _ _=>(zes (by rfl) T.b_tuple (zar (vb_ 0) zaH))))) zaH)))
   zad)))))
abbrev zeC:Stmt:=top 16
abbrev zfH:List Str:=["wishes"]
abbrev zdW:List Str:=["wishes"]
theorem zgS:FnScope zfH zdW (defScope zeC):=⟨rfl,rfl,rfl,by decide +kernel,rfl,by decide +kernel,by decide +kernel⟩
def zcV:FS:=
 (seqF (retF [Md.bw] (fC (zab (f2 (gv 0) (ci 0) ixA) lNil) lenD)) zaj)
def zbJ:List D->Res D:=fun ds=>outR false (zcV (zao zfH.length ds))
theorem zmO (T:Txt K mg) (A:DefAt K mg "things_in" zeC):Callee P w K mg base "things_in" zdW [] 1 false [Md.bw] zbJ:=by
 refine zbn (k:=0) (fs:=zcV) (m':=[Md.bw]) A zgS rfl (fun _ _ _ _ _ _ us hl=>by obtain ⟨u0,rfl⟩:=zdT us hl; kernel_rfl) fun f cdv A outer s H g E hr=>?_
 have hu1:=zbI hr
 have hu64:=hr.units
 exact (zaa (za7 (zb2 (by rfl) T.b_len (zar (SE.toB (zdz hu1 (vb_ 0) (SE.toB zat))) zaH)))
   zad)
abbrev zeD:Stmt:=top 17
abbrev zfI:List Str:=["wishes","things","ahead","hand","thing"]
abbrev zdX:List Str:=["wishes","things"]
theorem zck:FnScope zfI zdX (defScope zeD):=⟨rfl,rfl,rfl,by decide +kernel,rfl,by decide +kernel,by decide +kernel⟩
abbrev za4:FS:=
 (seqF (ifF q112 (fTest (f2 (gv 4) (fun _=>Res.ok D.non) isnD)) (seqF (ifF q112 (fOr (fNot (fTru (zaz (zab (gv 4) (zab (zaz (zab (gv 0) lNil) [] zbJ) lNil)) [] zaP))) (fTest (f2 (gv 4) (gv 2) inD))) (seqF (zg0 q112 "NoOwn" "hand" (zab (gv 3) lNil)) zaj) zaj) (seqF (putF q112 2 (gv 4) (fun _=>Res.ok (D.bl true))) zaj)) zaj) zaj)
def zbL:FS:=
 (seqF (ifF q0 (fTest (f2 (fC (zab (gv 1) lNil) lenD) (fC (zab (gv 0) lNil) lenD) neD)) (seqF (zg0 q0 "NoOwn" "hand" (zab (fC (zab (gv 0) lNil) lenD) lNil)) zaj) zaj) (seqF (setF q0 2 (fun _=>Res.ok (D.dic []))) (seqF (zb3 q112 (fEnu (gv 1)) (ftT (zak (ftN 3) (zak (ftN 4) zaW))) za4) (seqF (retF q112 (fC (zab (gv 1) lNil) tupD)) zaj))))
def zbu:List D->Res D:=fun ds=>outR false (zbL (zao zfI.length ds))
theorem zmP (T:Txt K mg) (A:DefAt K mg "owns_of" zeD) (c_things_in:Callee P w K mg base "things_in" zdW [] 1 false [Md.bw] zbJ) (c_is_below:Callee P w K mg base "is_below" zdw [] 2 false q102 zaP) {C_NoOwn:Addr} (xi_NoOwn:XCI P w K mg base "NoOwn" C_NoOwn "hand") (xn_NoOwn:XN K "NoOwn" C_NoOwn):CalleeX P w K mg base "owns_of" zdX [] 3 false q110 zbu:=by
 refine zgr (k:=2) (fs:=zbL) (m':=q112) A zck rfl (fun _ _ _ _ _ _ us hl=>by obtain ⟨u0,u1,rfl⟩:=zex us hl; kernel_rfl) fun f cdv A outer s H g E hr=>?_
 have hu1:=zbI hr
 have hu64:=hr.units
 exact (zaa (s_if (q_ne hu64 (SE.toB (zb2 (by rfl) T.b_len (zar (vb_ 1) zaH))) (SE.toB (zb2 (by rfl) T.b_len (zar (vb_ 0) zaH)))) (zaa (zea rfl xi_NoOwn xn_NoOwn (hr.mono (by decide)) (by rfl) (zah (zb2 (by rfl) T.b_len (zar (vb_ 0) zaH)) zaE))
   zad)
   zad)
   (zaa (zd9 2 zck.nd (by rfl) (.inl rfl) zmV)
   (zaa (zjA rfl rfl rfl (zf4 (by rfl) T.b_enumerate (v_ 1)) (zhd rfl (zb0 (zaF 3 zck.nd (by rfl) (.inl rfl)) (zb0 (zaF 4 zck.nd (by rfl) (.inl rfl)) zhe))) (zaa (s_if (zrM (vb_ 4) (SE.toB zeT)) (zaa (s_if (SW.toQ (q_or (zhI (zec (SE.toB (zaM (dds:=[]) c_is_below (hr.mono (by decide)) (m_bw (vb_ 4) (m_bw (SE.toB (zaM (dds:=[]) c_things_in (hr.mono (by decide)) (m_bw (vb_ 0) zbe))) zbe)))))) (zhH (q_in hu1 (vb_ 4) (vb_ 2))))) (zaa (zea rfl xi_NoOwn xn_NoOwn (hr.mono (by decide)) (by rfl) (zah (v_ 3) zaE))
   zad)
   zad)
   (zaa (zpo 2 hu1 rfl (by rfl) (.inl rfl) (vb_ 4) s_bl)
   zad))
   zad)
   zad))
   (zaa (za7 (zes (by rfl) T.b_tuple (zar (vb_ 1) zaH)))
   zad))))
abbrev zd6:Stmt:=top 20
abbrev zeO:List Str:=["word"]
abbrev zbW:List Str:=["word"]
theorem zgk:FnScope zeO zbW (defScope zd6):=⟨rfl,rfl,rfl,by decide +kernel,rfl,by decide +kernel,by decide +kernel⟩
def zcp:FS:=
 (seqF (retF [Md.bw] (fM "str" (gv 0) (zab (fun _=>Res.ok (D.str "*")) lNil) zoE)) zaj)
def zaL:List D->Res D:=fun ds=>outR false (zcp (zao zeO.length ds))
theorem zlS (T:Txt K mg) (A:DefAt K mg "is_starred" zd6):Callee P w K mg base "is_starred" zbW [] 1 false [Md.bw] zaL:=by
 refine zbn (k:=0) (fs:=zcp) (m':=[Md.bw]) A zgk rfl (fun _ _ _ _ _ _ us hl=>by obtain ⟨u0,rfl⟩:=zdT us hl; kernel_rfl) fun f cdv A outer s H g E hr=>?_
 have hu1:=zbI hr
 have hu64:=hr.units
 exact (zaa (za7 (s_bm PySem.F.plainAttrs_str PySem.F.slot_str_endswith PySem.F.type_str_endswith zoc zoD (vb_ 0) (zar (SE.toB zax) zaH)))
   zad)
abbrev zeE:Stmt:=top 21
abbrev zfJ:List Str:=["word"]
abbrev zcg:List Str:=["word"]
theorem zgV:FnScope zfJ zcg (defScope zeE):=⟨rfl,rfl,rfl,by decide +kernel,rfl,by decide +kernel,by decide +kernel⟩
def zcW:FS:=
 (seqF (retF [Md.sh] (fIf (fTru (zaz (zab (gv 0) lNil) [] zaL)) (fSlX (gv 0) (fun _=>Res.ok none) (zcy (f1 (ci 1) negI))) (gv 0))) zaj)
def zbk:List D->Res D:=fun ds=>outR false (zcW (zao zfJ.length ds))
theorem zmQ (T:Txt K mg) (A:DefAt K mg "letter_in" zeE) (c_is_starred:Callee P w K mg base "is_starred" zbW [] 1 false [Md.bw] zaL):Callee P w K mg base "letter_in" zcg [] 2 false [Md.sh] zbk:=by
 refine zbn (k:=1) (fs:=zcW) (m':=[Md.sh]) A zgV rfl (fun _ _ _ _ _ _ us hl=>by obtain ⟨u0,rfl⟩:=zdT us hl; kernel_rfl) fun f cdv A outer s H g E hr=>?_
 have hu1:=zbI hr
 have hu64:=hr.units
 exact (zaa (za7 (zrH (zec (SE.toB (zaM (dds:=[]) c_is_starred (hr.mono (by decide)) (m_bw (vb_ 0) zbe)))) (zgm (vb_ 0) zdJ (zdI (SE.toB (zls (SE.toB zat))))) (v_ 0)))
   zad)
abbrev zfU:Stmt:=top 22
abbrev zht:List Str:=["word","letter"]
abbrev zfF:List Str:=["word"]
theorem zfZ:FnScope zht zfF (defScope zfU):=⟨rfl,rfl,rfl,by decide +kernel,rfl,by decide +kernel,by decide +kernel⟩
def zeo:FS:=
 (seqF (setF q110 1 (zaz (zab (gv 0) lNil) [] zbk)) (seqF (retF q110 (vAnd (f2 (fC (zab (gv 1) lNil) lenD) (ci 1) eqD) (f2 (gv 1) (fun _=>Res.ok (D.str "ABCDEFGH")) inD))) zaj))
def zdq:List D->Res D:=fun ds=>outR false (zeo (zao zht.length ds))
theorem zoU (T:Txt K mg) (A:DefAt K mg "is_word" zfU) (c_letter_in:Callee P w K mg base "letter_in" zcg [] 2 false [Md.sh] zbk):Callee P w K mg base "is_word" zfF [] 3 false [Md.sh] zdq:=by
 refine zbn (k:=2) (fs:=zeo) (m':=q110) A zfZ rfl (fun _ _ _ _ _ _ us hl=>by obtain ⟨u0,rfl⟩:=zdT us hl; kernel_rfl) fun f cdv A outer s H g E hr=>?_
 have hu1:=zbI hr
 have hu64:=hr.units
 exact (zaa (zbY 1 zfZ.nd (by rfl) (.inl rfl) (zaM (dds:=[]) c_letter_in (hr.mono (by decide)) (m_sh (v_ 0) zbe)))
   (zaa (za7 (zjB (s_eq hu64 (SE.toB (zb2 (by rfl) T.b_len (zar (vb_ 1) zaH))) (SE.toB zat)) (zjx (s_in hu1 (vb_ 1) (SE.toB (zhC (by rfl) T.k_LETTERS))))))
   zad))
abbrev zcb:Stmt:=top 23
abbrev zcz:List Str:=["words","starred"]
abbrev zfG:List Str:=["words"]
theorem zer:FnScope zcz zfG (defScope zcb):=⟨rfl,rfl,rfl,by decide +kernel,rfl,by decide +kernel,by decide +kernel⟩
def zep:FS:=
 (seqF (setF q103 1 (zbZ 1 [] (fSeq zbf (gv 0)) (ftN 0) (fTru (zaz (zab (gv 0) lNil) [] zaL)) (gv 0))) (seqF (retF q106 (vAnd (f2 (fC (zab (gv 1) lNil) lenD) (ci 2) ltI) (fC (zab (zbZ 1 [] (fSeq zbf (gv 0)) (ftN 0) (fun _=>Res.ok true) (zaz (zab (gv 0) lNil) [] zdq)) lNil) allD))) zaj))
def zdr:List D->Res D:=fun ds=>outR false (zep (zao zcz.length ds))
theorem zoV (T:Txt K mg) (A:DefAt K mg "is_part" zcb) (c_is_starred:Callee P w K mg base "is_starred" zbW [] 1 false [Md.bw] zaL) (c_is_word:Callee P w K mg base "is_word" zfF [] 3 false [Md.sh] zdq):Callee P w K mg base "is_part" zfG [] 4 false [Md.bw] zdr:=by
 refine zbn (k:=3) (fs:=zep) (m':=q106) A zer rfl (fun _ _ _ _ _ _ us hl=>by obtain ⟨u0,rfl⟩:=zdT us hl; kernel_rfl) fun f cdv A outer s H g E hr=>?_
 have hu1:=zbI hr
 have hu64:=hr.units
 exact (zaa (zfh 1 (X:=(cxOf CX0 P w K mg base zcz "is_part" (defScope zcb) f cdv A outer s H E).nox) (m:=q103) (N':=["word"]) (nl:=1) (cap:=[]) zer.nd rfl (by rfl) (by rfl) (zbj (osc:=(defScope zcb)) (ON:=zcz) rfl rfl (by decide +kernel)) (zdj (vb_ 0)) (fun _ _ _ _ _ _=>(zaF 0 (show List.Nodup (["word"]:List Str) by decide +kernel) (by rfl) (.inl rfl))) (zdk (by decide)) (fun _ _ _ _ _ _=>(zpM (zec (SE.toB (zaM (dds:=[]) c_is_starred (hr.mono (by decide)) (m_bw (vb_ 0) zbe)))))) (fun _ _ _ _ _ _=>(v_ 0)))
   (zaa (za7 (zjB (s_lt (SE.toB (zb2 (by rfl) T.b_len (zar (vb_ 1) zaH))) (SE.toB zat)) (zjx (zrJ rfl (by rfl) T.b_all (zar (SO.toB (zeK (X:=(cxOf CX0 P w K mg base zcz "is_part" (defScope zcb) f cdv A outer s H E).nox) (N':=["word"]) (nl:=1) (cap:=[]) zer.nd rfl (zbj (osc:=(defScope zcb)) (ON:=zcz) rfl rfl (by decide +kernel)) (zdj (vb_ 0)) (fun _ _ _ _ _ _=>(zaF 0 (show List.Nodup (["word"]:List Str) by decide +kernel) (by rfl) (.inl rfl))) (zdk (by decide)) (fun _ _ _ _ _ _=>zdH) (fun _ _ _ _ _ _=>(zaM (dds:=[]) c_is_word (hr.mono (by decide)) (m_sh (v_ 0) zbe))))) zaH)))))
   zad))
abbrev zd5:Stmt:=top 24
abbrev ze5:List Str:=["words"]
abbrev zgH:List Str:=["words"]
theorem zgT:FnScope ze5 zgH (defScope zd5):=⟨rfl,rfl,rfl,by decide +kernel,rfl,by decide +kernel,by decide +kernel⟩
def ze6:FS:=
 (seqF (retF [Md.bw] (zbZ 1 [] (fSeq zbf (gv 0)) (ftN 0) (fun _=>Res.ok true) (fM "str" (fun _=>Res.ok (D.str "ABCDEFGH")) (zab (zaz (zab (gv 0) lNil) [] zbk) lNil) zhE))) zaj)
def zcQ:List D->Res D:=fun ds=>outR false (ze6 (zao ze5.length ds))
theorem zqk (T:Txt K mg) (A:DefAt K mg "row_in" zd5) (c_letter_in:Callee P w K mg base "letter_in" zcg [] 2 false [Md.sh] zbk):Callee P w K mg base "row_in" zgH [] 3 false [Md.bw] zcQ:=by
 refine zbn (k:=2) (fs:=ze6) (m':=[Md.bw]) A zgT rfl (fun _ _ _ _ _ _ us hl=>by obtain ⟨u0,rfl⟩:=zdT us hl; kernel_rfl) fun f cdv A outer s H g E hr=>?_
 have hu1:=zbI hr
 have hu64:=hr.units
 exact (zaa (za7 (SO.toE (zeK (X:=(cxOf CX0 P w K mg base ze5 "row_in" (defScope zd5) f cdv A outer s H E).nox) (N':=["word"]) (nl:=1) (cap:=[]) zgT.nd rfl (zbj (osc:=(defScope zd5)) (ON:=ze5) rfl rfl (by decide +kernel)) (zdj (vb_ 0)) (fun _ _ _ _ _ _=>(zaF 0 (show List.Nodup (["word"]:List Str) by decide +kernel) (by rfl) (.inl rfl))) (zdk (by decide)) (fun _ _ _ _ _ _=>zdH) (fun _ _ _ _ _ _=>(s_bm PySem.F.plainAttrs_str PySem.F.slot_str_index PySem.F.type_str_index zhP zhx (SE.toB (zhC (by rfl) T.k_LETTERS)) (zar (SE.toB (zaM (dds:=[]) c_letter_in (hr.mono (by decide)) (m_sh (v_ 0) zbe))) zaH))))))
   zad)
abbrev zgO:Stmt:=top 25
abbrev ziF:List Str:=["words","word"]
abbrev zgI:List Str:=["words"]
theorem zgU:FnScope ziF zgI (defScope zgO):=⟨rfl,rfl,rfl,by decide +kernel,rfl,by decide +kernel,by decide +kernel⟩
abbrev zcA:FS:=
 (seqF (ifF q103 (fTru (zaz (zab (gv 1) lNil) [] zaL)) (seqF (retF q103 (fM "str" (fun _=>Res.ok (D.str "ABCDEFGH")) (zab (zaz (zab (gv 1) lNil) [] zbk) lNil) zhE)) zaj) zaj) zaj)
def ze7:FS:=
 (seqF (zb3 q103 (fSeq zbf (gv 0)) (ftN 1) zcA) (seqF (retF q103 (fun _=>Res.ok D.non)) zaj))
def zcR:List D->Res D:=fun ds=>outR false (ze7 (zao ziF.length ds))
theorem zql (T:Txt K mg) (A:DefAt K mg "own_in" zgO) (c_is_starred:Callee P w K mg base "is_starred" zbW [] 1 false [Md.bw] zaL) (c_letter_in:Callee P w K mg base "letter_in" zcg [] 2 false [Md.sh] zbk):Callee P w K mg base "own_in" zgI [] 3 false [Md.bw] zcR:=by
 refine zbn (k:=2) (fs:=ze7) (m':=q103) A zgU rfl (fun _ _ _ _ _ _ us hl=>by obtain ⟨u0,rfl⟩:=zdT us hl; kernel_rfl) fun f cdv A outer s H g E hr=>?_
 have hu1:=zbI hr
 have hu64:=hr.units
 exact (zaa (zpr PassesOwn.never rfl (zdj (vb_ 0)) (fun _=>(zaF 1 zgU.nd (by rfl) (.inl rfl))) (fun _=>(zaa (s_if (zec (SE.toB (zaM (dds:=[]) c_is_starred (hr.mono (by decide)) (m_bw (vb_ 1) zbe)))) (zaa (za7 (s_bm PySem.F.plainAttrs_str PySem.F.slot_str_index PySem.F.type_str_index zhP zhx (SE.toB (zhC (by rfl) T.k_LETTERS)) (zar (SE.toB (zaM (dds:=[]) c_letter_in (hr.mono (by decide)) (m_sh (v_ 1) zbe))) zaH)))
   zad)
   zad)
   zad)))
   (zaa (za7 zeT)
   zad))
abbrev zaK:Stmt:=top 26
abbrev zaR:List Str:=["text","parts","at","words","wishes"]
abbrev zcL:List Str:=["text"]
theorem zaU:FnScope zaR zcL (defScope zaK):=⟨rfl,rfl,rfl,by decide +kernel,rfl,by decide +kernel,by decide +kernel⟩
abbrev za1:FS:=
 (seqF (ifF q0 (fNot (fTru (zaz (zab (gv 3) lNil) [] zdr))) (seqF (zg0 q0 "NoText" "at" (zab (gv 2) lNil)) zaj) zaj) zaj)
def zaB:FS:=
 (seqF (ifF q0 (fNot (fTru (f1 (gv 0) (isiD "str")))) (seqF (zg0 q0 "NoText" "at" (zab (f1 (ci 1) negI) lNil)) zaj) zaj) (seqF (setF q0 1 (zbZ 1 [] (fSeq zbf (fM "str" (gv 0) (zab (fun _=>Res.ok (D.str "; ")) lNil) zdE)) (ftN 0) (fun _=>Res.ok true) (fM "str" (gv 0) (zab (fun _=>Res.ok (D.str " ")) lNil) zdE))) (seqF (zb3 q0 (fEnu (gv 1)) (ftT (zak (ftN 2) (zak (ftN 3) zaW))) za1) (seqF (setF q0 4 (zc6 (zab (zbZ 1 [] (fSeq zbf (gv 1)) (ftN 0) (fun _=>Res.ok true) (zaz (zab (gv 0) lNil) [] zcQ)) lNil) [] zbm)) (seqF (retF q0 (mkT (zab (gv 4) (zab (zc6 (zab (gv 4) (zab (zbZ 1 [] (fSeq zbf (gv 1)) (ftN 0) (fun _=>Res.ok true) (zaz (zab (gv 0) lNil) [] zcR)) lNil)) [] zbu) lNil)))) zaj)))))
def zaS:List D->Res D:=fun ds=>outR false (zaB (zao zaR.length ds))
theorem zle (T:Txt K mg) (A:DefAt K mg "rows_read" zaK) (c_is_part:Callee P w K mg base "is_part" zfG [] 4 false [Md.bw] zdr) (c_row_in:Callee P w K mg base "row_in" zgH [] 3 false [Md.bw] zcQ) (c_wishes_of_x:CalleeX P w K mg base "wishes_of" zcK [] 6 false [Md.sh] zbm) (c_own_in:Callee P w K mg base "own_in" zgI [] 3 false [Md.bw] zcR) (c_owns_of_x:CalleeX P w K mg base "owns_of" zdX [] 3 false q110 zbu) {C_NoText:Addr} (xi_NoText:XCI P w K mg base "NoText" C_NoText "at") (xn_NoText:XN K "NoText" C_NoText):CalleeX P w K mg base "rows_read" zcL [] 7 false [Md.sh] zaS:=by
 refine zgr (k:=6) (fs:=zaB) (m':=q0) A zaU rfl (fun _ _ _ _ _ _ us hl=>by obtain ⟨u0,rfl⟩:=zdT us hl; kernel_rfl) fun f cdv A outer s H g E hr=>?_
 have hu1:=zbI hr
 have hu64:=hr.units
 exact (zaa (s_if (zhI (zec (SE.toB (zlu "str" "str" rfl (zkt _) (by rfl) T.b_isinstance (by rfl) T.b_str (vb_ 0))))) (zaa (zea rfl xi_NoText xn_NoText (hr.mono (by decide)) (by rfl) (zah (zls (SE.toB zat)) zaE))
   zad)
   zad)
   (zaa (zfh 1 (X:=(cxOf (CXR P w) P w K mg base zaR "rows_read" (defScope zaK) f cdv A outer s H E)) (m:=q0) (N':=["part"]) (nl:=1) (cap:=[]) zaU.nd rfl (by rfl) (by rfl) (zbj (osc:=(defScope zaK)) (ON:=zaR) rfl rfl (by decide +kernel)) (zdj (SE.toB (s_bm PySem.F.plainAttrs_str PySem.F.slot_str_split PySem.F.type_str_split ze1 zeY (vb_ 0) (zar (SE.toB zax) zaH)))) (fun _ _ _ _ _ _=>(zaF 0 (show List.Nodup (["part"]:List Str) by decide +kernel) (by rfl) (.inl rfl))) (zdk (by decide)) (fun _ _ _ _ _ _=>zdH) (fun _ _ _ _ _ _=>(s_bm PySem.F.plainAttrs_str PySem.F.slot_str_split PySem.F.type_str_split ze1 zeY (vb_ 0) (zar (SE.toB zax) zaH))))
   (zaa (zjz 1 rfl (zjA rfl rfl rfl (zf4 (by rfl) T.b_enumerate (v_ 1)) (zhd rfl (zb0 (zaF 2 zaU.nd (by rfl) (.inl rfl)) (zb0 (zaF 3 zaU.nd (by rfl) (.inl rfl)) zhe))) (zaa (s_if (zhI (zec (SE.toB (zaM (dds:=[]) c_is_part (hr.mono (by decide)) (m_bw (vb_ 3) zbe))))) (zaa (zea rfl xi_NoText xn_NoText (hr.mono (by decide)) (by rfl) (zah (v_ 2) zaE))
   zad)
   zad)
   zad)))
   (zaa (zbY 4 zaU.nd (by rfl) (.inl rfl) (zgE c_wishes_of_x (hr.mono (by decide)) (m_sh (SO.toE (zeK (X:=(cxOf (CXR P w) P w K mg base zaR "rows_read" (defScope zaK) f cdv A outer s H E)) (N':=["words"]) (nl:=1) (cap:=[]) zaU.nd rfl (zbj (osc:=(defScope zaK)) (ON:=zaR) rfl rfl (by decide +kernel)) (zdj (vb_ 1)) (fun _ _ _ _ _ _=>(zaF 0 (show List.Nodup (["words"]:List Str) by decide +kernel) (by rfl) (.inl rfl))) (zdk (by decide)) (fun _ _ _ _ _ _=>zdH) (fun _ _ _ _ _ _=>(zaM (dds:=[]) c_row_in (hr.mono (by decide)) (m_bw (vb_ 0) zbe))))) zbe)))
   (zaa (za7 (zdP (zah (v_ 4) (zah (zgE c_owns_of_x (hr.mono (by decide)) (m_sh (v_ 4) (m_sh (SO.toE (zeK (X:=(cxOf (CXR P w) P w K mg base zaR "rows_read" (defScope zaK) f cdv A outer s H E)) (N':=["words"]) (nl:=1) (cap:=[]) zaU.nd rfl (zbj (osc:=(defScope zaK)) (ON:=zaR) rfl rfl (by decide +kernel)) (zdj (vb_ 1)) (fun _ _ _ _ _ _=>(zaF 0 (show List.Nodup (["words"]:List Str) by decide +kernel) (by rfl) (.inl rfl))) (zdk (by decide)) (fun _ _ _ _ _ _=>zdH) (fun _ _ _ _ _ _=>(zaM (dds:=[]) c_own_in (hr.mono (by decide)) (m_bw (vb_ 0) zbe))))) zbe))) zaE))))
   zad)))))
abbrev zc9:Stmt:=top 38
abbrev zdN:List Str:=["_law_e","_law_kinds_here"]
abbrev zct:List Str:=["_law_e"]
theorem zdc:FnScope zdN zct (defScope zc9):=⟨rfl,rfl,rfl,by decide +kernel,rfl,by decide +kernel,by decide +kernel⟩
def zbR:FS:=
 (seqF (setF q103 1 (mkL lNil)) (seqF (ifF q106 (fTru (f1 (gv 0) (isxD zdt))) (seqF (mutF "list" q106 1 (zab (mkT (zab (fun _=>Res.ok (D.str "text")) (zab (f1 (gv 0) (xatD ziD "at")) lNil))) lNil) appD) zaj) zaj) (seqF (ifF q106 (fTru (f1 (gv 0) (isxD zcE))) (seqF (mutF "list" q106 1 (zab (mkT (zab (fun _=>Res.ok (D.str "many")) (zab (fun _=>Res.ok D.non) lNil))) lNil) appD) zaj) zaj) (seqF (ifF q106 (fTru (f1 (gv 0) (isxD zd3))) (seqF (mutF "list" q106 1 (zab (mkT (zab (fun _=>Res.ok (D.str "row")) (zab (f1 (gv 0) (xatD zdv "hand")) lNil))) lNil) appD) zaj) zaj) (seqF (ifF q106 (fTru (f1 (gv 0) (isxD zd4))) (seqF (mutF "list" q106 1 (zab (mkT (zab (fun _=>Res.ok (D.str "own")) (zab (f1 (gv 0) (xatD zdv "hand")) lNil))) lNil) appD) zaj) zaj) (seqF (ifF q106 (fNot (fTru (f1 (gv 0) (isxD zbM)))) (seqF (mutF "list" q106 1 (zab (mkT (zab (fun _=>Res.ok (D.str "other")) (zab (fun _=>Res.ok D.non) lNil))) lNil) appD) zaj) zaj) (seqF (retF q103 (gv 1)) zaj)))))))
def zay:List D->Res D:=fun ds=>outR false (zbR (zao zdN.length ds))
theorem zj9 (T:Txt K mg) (A:DefAt K mg "_law_kinds" zc9) {C_NoText:Addr} (xb_NoText:mg "NoText" = some (.ref C_NoText)) (ix_NoText:IsxOk K (.ref C_NoText) zdt) (at_at:zjd K "at" ziD) {C_TooMany:Addr} (xb_TooMany:mg "TooMany" = some (.ref C_TooMany)) (ix_TooMany:IsxOk K (.ref C_TooMany) zcE) {C_NoRow:Addr} (xb_NoRow:mg "NoRow" = some (.ref C_NoRow)) (ix_NoRow:IsxOk K (.ref C_NoRow) zd3) (at_hand:zjd K "hand" zdv) {C_NoOwn:Addr} (xb_NoOwn:mg "NoOwn" = some (.ref C_NoOwn)) (ix_NoOwn:IsxOk K (.ref C_NoOwn) zd4) (ix_ValueError:IsxOk K (.type "ValueError") zbM):CalleeH P w K mg base "_law_kinds" zct 1 [Md.bw] zay:=by
 refine zod (k:=0) (fs:=zbR) (m':=q103) A zdc rfl (fun _ _ _ _ _ _ us hl=>by obtain ⟨u0,rfl⟩:=zdT us hl; kernel_rfl) fun f cdv A outer s H g E hr=>?_
 have hu1:=zqT hr
 have hu64:=hr.units
 exact (zaa (zd9 1 zdc.nd (by rfl) (.inl rfl) (zc5 zaE))
   (zaa (s_if (zec (SE.toB (zlt xb_NoText ix_NoText (by rfl) (by rfl) T.b_isinstance (vb_ 0)))) (zaa (zeU 1 rfl PySem.F.plainAttrs_list PySem.F.slot_list_append PySem.F.type_list_append za8 zdm (by rfl) (.inl rfl) (zah (zdP (zah zax (zah (znv at_at (vb_ 0)) zaE))) zaE))
   zad)
   zad)
   (zaa (s_if (zec (SE.toB (zlt xb_TooMany ix_TooMany (by rfl) (by rfl) T.b_isinstance (vb_ 0)))) (zaa (zeU 1 rfl PySem.F.plainAttrs_list PySem.F.slot_list_append PySem.F.type_list_append za8 zdm (by rfl) (.inl rfl) (zah (zdP (zah zax (zah zeT zaE))) zaE))
   zad)
   zad)
   (zaa (s_if (zec (SE.toB (zlt xb_NoRow ix_NoRow (by rfl) (by rfl) T.b_isinstance (vb_ 0)))) (zaa (zeU 1 rfl PySem.F.plainAttrs_list PySem.F.slot_list_append PySem.F.type_list_append za8 zdm (by rfl) (.inl rfl) (zah (zdP (zah zax (zah (znv at_hand (vb_ 0)) zaE))) zaE))
   zad)
   zad)
   (zaa (s_if (zec (SE.toB (zlt xb_NoOwn ix_NoOwn (by rfl) (by rfl) T.b_isinstance (vb_ 0)))) (zaa (zeU 1 rfl PySem.F.plainAttrs_list PySem.F.slot_list_append PySem.F.type_list_append za8 zdm (by rfl) (.inl rfl) (zah (zdP (zah zax (zah (znv at_hand (vb_ 0)) zaE))) zaE))
   zad)
   zad)
   (zaa (s_if (zhI (zec (SE.toB (zpp (x := "ValueError") rfl T.b_ValueError ix_ValueError (by rfl) (by rfl) T.b_isinstance (vb_ 0))))) (zaa (zeU 1 rfl PySem.F.plainAttrs_list PySem.F.slot_list_append PySem.F.type_list_append za8 zdm (by rfl) (.inl rfl) (zah (zdP (zah zax (zah zeT zaE))) zaE))
   zad)
   zad)
   (zaa (zjz 1 rfl (za7 (v_ 1)))
   zad)))))))
abbrev zc1:Stmt:=top 36
abbrev zdp:List Str:=["_law_rows","_law_owned","_law_hand","_law_row_here","_law_one"]
abbrev zci:List Str:=["_law_rows","_law_owned"]
theorem za6:FnScope zdp zci (defScope zc1):=⟨rfl,rfl,rfl,by decide +kernel,rfl,by decide +kernel,by decide +kernel⟩
abbrev za3:FS:=
 (seqF (ifF q0 (fTest (f2 (fC (zab (gv 3) lNil) zgQ) (fC (zab (fC (zab (f2 (gv 0) (ci 0) ixA) lNil) lenD) lNil) zi1) neD)) (seqF (retF q0 (mkT (zab (fun _=>Res.ok (D.str "row")) (zab (gv 2) lNil)))) zaj) zaj) zaj)
abbrev za2:FS:=
 (seqF (ifF q0 (fAnd (fTest (f2 (gv 4) (mkL lNil) neD)) (fTest (f2 (gv 4) (fSlA (gv 1) (fun _=>Res.ok none) (zcy (gv 2))) inE))) (seqF (retF q0 (mkT (zab (fun _=>Res.ok (D.str "own")) (zab (gv 2) lNil)))) zaj) zaj) zaj)
def zbF:FS:=
 (seqF (ifF q0 (fOr (fTest (f2 (fC (zab (gv 0) lNil) lenD) (ci 7) gtI)) (fOr (fTest (f2 (fC (zab (f2 (gv 0) (ci 0) ixA) lNil) lenD) (fC (zab (gv 0) lNil) lenD) ltI)) (fTest (f2 (fC (zab (f2 (gv 0) (ci 0) ixA) lNil) lenD) (ci 8) gtI)))) (seqF (retF q0 (mkT (zab (fun _=>Res.ok (D.str "many")) (zab (fun _=>Res.ok D.non) lNil)))) zaj) zaj) (seqF (zb3 q0 (fEnu (gv 0)) (ftT (zak (ftN 2) (zak (ftN 3) zaW))) za3) (seqF (zb3 q0 (fEnu (gv 1)) (ftT (zak (ftN 2) (zak (ftN 4) zaW))) za2) (seqF (retF q0 (mkT (zab (fun _=>Res.ok (D.str "told")) (zab (fun _=>Res.ok D.non) lNil)))) zaj))))
def zbD:List D->Res D:=fun ds=>outR false (zbF (zao zdp.length ds))
theorem zjf (T:Txt K mg) (A:DefAt K mg "_law_rows_due" zc1):Callee P w K mg base "_law_rows_due" zci [] 1 false q110 zbD:=by
 refine zbn (k:=0) (fs:=zbF) (m':=q0) A za6 rfl (fun _ _ _ _ _ _ us hl=>by obtain ⟨u0,u1,rfl⟩:=zex us hl; kernel_rfl) fun f cdv A outer s H g E hr=>?_
 have hu1:=zbI hr
 have hu64:=hr.units
 exact (zaa (s_if (SW.toQ (q_or (q_gt (SE.toB (zb2 (by rfl) T.b_len (zar (vb_ 0) zaH))) (SE.toB zat)) (q_or (q_lt (SE.toB (zb2 (by rfl) T.b_len (zar (SE.toB (zdz hu1 (vb_ 0) (SE.toB zat))) zaH))) (SE.toB (zb2 (by rfl) T.b_len (zar (vb_ 0) zaH)))) (zhH (q_gt (SE.toB (zb2 (by rfl) T.b_len (zar (SE.toB (zdz hu1 (vb_ 0) (SE.toB zat))) zaH))) (SE.toB zat)))))) (zaa (za7 (zdP (zah zax (zah zeT zaE))))
   zad)
   zad)
   (zaa (zfO PassesOwn.never rfl (zf4 (by rfl) T.b_enumerate (v_ 0)) (zhd rfl (zb0 (zaF 2 za6.nd (by rfl) (.inl rfl)) (zb0 (zaF 3 za6.nd (by rfl) (.inl rfl)) zhe))) (zaa (s_if (q_ne hu64 (SO.toB (zkf hr (by rfl) T.b_sorted (zar (vb_ 3) zaH))) (SO.toB (zn9 rfl (by rfl) T.b_list (by rfl) T.b_range (zar (SE.toB (zb2 (by rfl) T.b_len (zar (SE.toB (zdz hu1 (vb_ 0) (SE.toB zat))) zaH))) zaH)))) (zaa (za7 (zdP (zah zax (zah (v_ 2) zaE))))
   zad)
   zad)
   zad))
   (zaa (zfO PassesOwn.never rfl (zf4 (by rfl) T.b_enumerate (v_ 1)) (zhd rfl (zb0 (zaF 2 za6.nd (by rfl) (.inl rfl)) (zb0 (zaF 4 za6.nd (by rfl) (.inl rfl)) zhe))) (zaa (s_if (SW.toQ (zpO (q_ne hu64 (vb_ 4) (SO.toB (zc5 zaE))) (zmH (zrN hu64 (vb_ 4) (SE.toB (zrE (vb_ 1) zdJ (zdI (vb_ 2)))))))) (zaa (za7 (zdP (zah zax (zah (v_ 2) zaE))))
   zad)
   zad)
   zad))
   (zaa (za7 (zdP (zah zax (zah zeT zaE))))
   zad))))
abbrev zeG:Stmt:=top 35
abbrev zfL:List Str:=["_law_part_here","_law_row_here","_law_owned","_law_word"]
abbrev zdZ:List Str:=["_law_part_here"]
theorem zcl:FnScope zfL zdZ (defScope zeG):=⟨rfl,rfl,rfl,by decide +kernel,rfl,by decide +kernel,by decide +kernel⟩
abbrev za5:FS:=
 (seqF (ifF q111 (fOr (fTest (f2 (gv 3) (fun _=>Res.ok (D.str "")) eqD)) (fOr (fTest (f2 (f2 (gv 3) (ci 0) ixA) (fun _=>Res.ok (D.str "ABCDEFGH")) ninD)) (fTest (f2 (fSlX (gv 3) (zcy (ci 1)) (fun _=>Res.ok none)) (mkT (zab (fun _=>Res.ok (D.str "")) (zab (fun _=>Res.ok (D.str "*")) lNil))) ninD)))) (seqF (retF q111 (fun _=>Res.ok D.non)) zaj) zaj) (seqF (mutF "list" q111 1 (zab (fM "str" (fun _=>Res.ok (D.str "ABCDEFGH")) (zab (f2 (gv 3) (ci 0) ixA) lNil) zhE) lNil) appD) (seqF (ifF q111 (fTest (f2 (fSlX (gv 3) (zcy (ci 1)) (fun _=>Res.ok none)) (fun _=>Res.ok (D.str "*")) eqD)) (seqF (mutF "list" q111 2 (zab (f2 (gv 1) (f1 (ci 1) negI) ixA) lNil) appD) zaj) zaj) zaj)))
def zcY:FS:=
 (seqF (setF q107 1 (mkL lNil)) (seqF (setF [.bw,.ow,.sh,.sh] 2 (mkL lNil)) (seqF (zb3 q111 (fSeq zbf (fM "str" (gv 0) (zab (fun _=>Res.ok (D.str " ")) lNil) zdE)) (ftN 3) za5) (seqF (ifF q111 (fTest (f2 (fC (zab (gv 2) lNil) lenD) (ci 1) gtI)) (seqF (retF q111 (fun _=>Res.ok D.non)) zaj) zaj) (seqF (retF q107 (mkT (zab (gv 1) (zab (gv 2) lNil)))) zaj)))))
def zcT:List D->Res D:=fun ds=>outR false (zcY (zao zfL.length ds))
theorem zmS (T:Txt K mg) (A:DefAt K mg "_law_part" zeG):Callee P w K mg base "_law_part" zdZ [] 1 false [Md.bw] zcT:=by
 refine zbn (k:=0) (fs:=zcY) (m':=q107) A zcl rfl (fun _ _ _ _ _ _ us hl=>by obtain ⟨u0,rfl⟩:=zdT us hl; kernel_rfl) fun f cdv A outer s H g E hr=>?_
 have hu1:=zbI hr
 have hu64:=hr.units
 exact (zaa (zd9 1 zcl.nd (by rfl) (.inl rfl) (zc5 zaE))
   (zaa (zd9 2 zcl.nd (by rfl) (.inl rfl) (zc5 zaE))
   (zaa (zfO PassesOwn.never rfl (zqS (s_bm PySem.F.plainAttrs_str PySem.F.slot_str_split PySem.F.type_str_split ze1 zeY (vb_ 0) (zar (SE.toB zax) zaH))) (zaF 3 zcl.nd (by rfl) (.inl rfl)) (zaa (s_if (SW.toQ (q_or (q_eq hu64 (vb_ 3) (SE.toB zax)) (q_or (zpN hu1 (SE.toB (zdz hu1 (vb_ 3) (SE.toB zat))) (SE.toB zax)) (zhH (zpN hu1 (SE.toB (zgm (vb_ 3) (zdI (SE.toB zat)) zdJ)) (SE.toB (zdP (zah zax (zah zax zaE))))))))) (zaa (za7 zeT)
   zad)
   zad)
   (zaa (zeU 1 rfl PySem.F.plainAttrs_list PySem.F.slot_list_append PySem.F.type_list_append za8 zdm (by rfl) (.inl rfl) (zah (s_bm PySem.F.plainAttrs_str PySem.F.slot_str_index PySem.F.type_str_index zhP zhx (SE.toB zax) (zar (SE.toB (zdz hu1 (vb_ 3) (SE.toB zat))) zaH)) zaE))
   (zaa (s_if (q_eq hu64 (SE.toB (zgm (vb_ 3) (zdI (SE.toB zat)) zdJ)) (SE.toB zax)) (zaa (zeU 2 rfl PySem.F.plainAttrs_list PySem.F.slot_list_append PySem.F.type_list_append za8 zdm (by rfl) (.inl rfl) (zah (zdz hu1 (vb_ 1) (SE.toB (zls (SE.toB zat)))) zaE))
   zad)
   zad)
   zad))))
   (zaa (s_if (q_gt (SE.toB (zb2 (by rfl) T.b_len (zar (vb_ 2) zaH))) (SE.toB zat)) (zaa (za7 zeT)
   zad)
   zad)
   (zaa (zjz 2 rfl (zjz 1 rfl (za7 (zdP (zah (v_ 1) (zah (v_ 2) zaE))))))
   zad)))))
abbrev zbh:Stmt:=top 37
abbrev zby:List Str:=["_law_text_here","_law_parts","_law_at","_law_part_here"]
abbrev zeB:List Str:=["_law_text_here"]
theorem zbH:FnScope zby zeB (defScope zbh):=⟨rfl,rfl,rfl,by decide +kernel,rfl,by decide +kernel,by decide +kernel⟩
abbrev zbX:FS:=
 (seqF (ifF q107 (fTest (f2 (gv 3) (fun _=>Res.ok D.non) isD)) (seqF (retF q107 (mkT (zab (fun _=>Res.ok (D.str "text")) (zab (gv 2) lNil)))) zaj) zaj) zaj)
def zcd:FS:=
 (seqF (ifF q107 (fNot (fTru (f1 (gv 0) (isiD "str")))) (seqF (retF q107 (mkT (zab (fun _=>Res.ok (D.str "text")) (zab (f1 (ci 1) negI) lNil)))) zaj) zaj) (seqF (setF q107 1 (zbZ 1 [] (fSeq zbf (fM "str" (gv 0) (zab (fun _=>Res.ok (D.str "; ")) lNil) zdE)) (ftN 0) (fun _=>Res.ok true) (zaz (zab (gv 0) lNil) [] zcT))) (seqF (zb3 q107 (fEnu (gv 1)) (ftT (zak (ftN 2) (zak (ftN 3) zaW))) zbX) (seqF (retF q107 (zaz (zab (zbZ 1 [] (fSeq zbf (gv 1)) (ftN 0) (fun _=>Res.ok true) (f2 (gv 0) (ci 0) ixA)) (zab (zbZ 1 [] (fSeq zbf (gv 1)) (ftN 0) (fun _=>Res.ok true) (f2 (gv 0) (ci 1) ixA)) lNil)) [] zbD)) zaj))))
def zbK:List D->Res D:=fun ds=>outR false (zcd (zao zby.length ds))
theorem zn6 (T:Txt K mg) (A:DefAt K mg "_law_due" zbh) (c__law_part:Callee P w K mg base "_law_part" zdZ [] 1 false [Md.bw] zcT) (c__law_rows_due:Callee P w K mg base "_law_rows_due" zci [] 1 false q110 zbD):Callee P w K mg base "_law_due" zeB [] 2 false [Md.bw] zbK:=by
 refine zbn (k:=1) (fs:=zcd) (m':=q107) A zbH rfl (fun _ _ _ _ _ _ us hl=>by obtain ⟨u0,rfl⟩:=zdT us hl; kernel_rfl) fun f cdv A outer s H g E hr=>?_
 have hu1:=zbI hr
 have hu64:=hr.units
 exact (zaa (s_if (zhI (zec (SE.toB (zlu "str" "str" rfl (zkt _) (by rfl) T.b_isinstance (by rfl) T.b_str (vb_ 0))))) (zaa (za7 (zdP (zah zax (zah (zls (SE.toB zat)) zaE))))
   zad)
   zad)
   (zaa (zfh 1 (X:=(cxOf CX0 P w K mg base zby "_law_due" (defScope zbh) f cdv A outer s H E).nox) (m:=q107) (N':=["_law_part_here"]) (nl:=1) (cap:=[]) zbH.nd rfl (by rfl) (by rfl) (zbj (osc:=(defScope zbh)) (ON:=zby) rfl rfl (by decide +kernel)) (zdj (SE.toB (s_bm PySem.F.plainAttrs_str PySem.F.slot_str_split PySem.F.type_str_split ze1 zeY (vb_ 0) (zar (SE.toB zax) zaH)))) (fun _ _ _ _ _ _=>(zaF 0 (show List.Nodup (["_law_part_here"]:List Str) by decide +kernel) (by rfl) (.inl rfl))) (zdk (by decide)) (fun _ _ _ _ _ _=>zdH) (fun _ _ _ _ _ _=>(zaM (dds:=[]) c__law_part (hr.mono (by decide)) (m_bw (vb_ 0) zbe))))
   (zaa (zjz 1 rfl (zfO PassesOwn.never rfl (zf4 (by rfl) T.b_enumerate (v_ 1)) (zhd rfl (zb0 (zaF 2 zbH.nd (by rfl) (.inl rfl)) (zb0 (zaF 3 zbH.nd (by rfl) (.inl rfl)) zhe))) (zaa (s_if (q_is (vb_ 3) (SE.toB zeT)) (zaa (za7 (zdP (zah zax (zah (v_ 2) zaE))))
   zad)
   zad)
   zad)))
   (zaa (za7 (zaM (dds:=[]) c__law_rows_due (hr.mono (by decide)) (m_sh (SO.toE (zeK (X:=(cxOf CX0 P w K mg base zby "_law_due" (defScope zbh) f cdv A outer s H E).nox) (N':=["_law_part_here"]) (nl:=1) (cap:=[]) zbH.nd rfl (zbj (osc:=(defScope zbh)) (ON:=zby) rfl rfl (by decide +kernel)) (zdj (vb_ 1)) (fun _ _ _ _ _ _=>(zaF 0 (show List.Nodup (["_law_part_here"]:List Str) by decide +kernel) (by rfl) (.inl rfl))) (zdk (by decide)) (fun _ _ _ _ _ _=>zdH) (fun _ _ _ _ _ _=>(zdz hu1 (vb_ 0) (SE.toB zat))))) (m_sh (SO.toE (zeK (X:=(cxOf CX0 P w K mg base zby "_law_due" (defScope zbh) f cdv A outer s H E).nox) (N':=["_law_part_here"]) (nl:=1) (cap:=[]) zbH.nd rfl (zbj (osc:=(defScope zbh)) (ON:=zby) rfl rfl (by decide +kernel)) (zdj (vb_ 1)) (fun _ _ _ _ _ _=>(zaF 0 (show List.Nodup (["_law_part_here"]:List Str) by decide +kernel) (by rfl) (.inl rfl))) (zdk (by decide)) (fun _ _ _ _ _ _=>zdH) (fun _ _ _ _ _ _=>(zdz hu1 (vb_ 0) (SE.toB zat))))) zbe))))
   zad))))
abbrev zmB:Stmt:=top 39
abbrev zro:List Str:=["_law_script","_law_first","_law_n","_law_m","_law_text_here","_law_k","_law_turn","_law_kinds_here","_law_e"]
abbrev zrn:List Str:=["_law_script"]
theorem zc3:FnScope zro zrn (defScope zmB):=⟨rfl,rfl,rfl,by decide +kernel,rfl,by decide +kernel,by decide +kernel⟩
abbrev zlb:FS:=
 (seqF (setF q101 4 (zaz (zab (gv 4) (zab (zaz (zab (gv 0) (zab (f2 (ci 4) (gv 5) addA) lNil)) [] zaO) lNil)) [] zbQ)) zaj)
abbrev zh7:FS:=
 (seqF (setF q101 7 (mkL (zab (mkT (zab (fun _=>Res.ok (D.str "told")) (zab (fun _=>Res.ok D.non) lNil))) lNil))) (seqF (tryF q101 8 zbq (seqF (zhl q101 (zc6 (zab (gv 4) lNil) [] zaS)) zaj) (seqF (setF q101 7 (zaz (zab (gv 8) lNil) [] zay)) zaj)) (seqF (ifF q101 (fTest (f2 (gv 7) (mkL (zab (zaz (zab (gv 4) lNil) [] zbK) lNil)) neD)) (seqF (retF q101 (fun _=>Res.ok (D.bl false))) zaj) zaj) zaj)))
def zmx:FS:=
 (seqF (setF q101 1 (zaz (zab (gv 0) (zab (ci 1) lNil)) [] zaO)) (seqF (setF q101 2 (f2 (ci 1) (f2 (gv 1) (ci 3) modI) addA)) (seqF (setF q101 3 (f2 (gv 2) (f2 (f2 (gv 1) (ci 3) zdA) (f2 (ci 5) (gv 2) subI) modI) addA)) (seqF (setF q101 4 (zaz (zab (zaz (zab (gv 0) (zab (ci 8) (zab (gv 2) (zab (gv 3) lNil)))) [] zb8) (zab (zaz (zab (zaz (zab (gv 0) (zab (ci 2) lNil)) [] zaO) (zab (gv 2) (zab (gv 3) lNil))) [] zcU) lNil)) [] zcS)) (seqF (zb3 q101 (fRng rng1 (zab (f2 (f2 (gv 1) (ci 36) zdA) (ci 4) modI) lNil)) (ftN 5) zlb) (seqF (ifF q101 (fTest (f2 (f2 (f2 (gv 1) (ci 144) zdA) (ci 3) modI) (ci 0) eqD)) (seqF (setF q101 4 (zaz (zab (zaz (zab (gv 0) (zab (ci 3) lNil)) [] zaO) lNil) [] zcD)) zaj) zaj) (seqF (zb3 q101 (fRng rng1 (zab (ci 2) lNil)) (ftN 6) zh7) (seqF (retF q101 (fun _=>Res.ok (D.bl true))) zaj))))))))
def zoT:List D->Res D:=fun ds=>outR false (zmx (zao zro.length ds))
theorem zsq (T:Txt K mg) {fa:Addr} {fd:FuncData} (A:Fun K "law" "law" zmB fa fd) (c__law_cell:Callee P w K mg base "_law_cell" zcO [] 1 false q102 zaO) (c__law_owns:Callee P w K mg base "_law_owns" zd0 [] 1 false [.sh,.bw,.bw] zcU) (c__law_wishes:Callee P w K mg base "_law_wishes" zcN [] 2 false q117 zb8) (c__law_text:Callee P w K mg base "_law_text" zdY [] 1 false q110 zcS) (c__law_changed:Callee P w K mg base "_law_changed" zcu [] 1 false q102 zbQ) (c__law_odd:Callee P w K mg base "_law_odd" zeA [] 1 false [Md.bw] zcD) (c_rows_read_x:CalleeX P w K mg base "rows_read" zcL [] 7 false [Md.sh] zaS) (c__law_kinds_h:CalleeH P w K mg base "_law_kinds" zct 1 [Md.bw] zay) (c__law_due:Callee P w K mg base "_law_due" zeB [] 2 false [Md.bw] zbK) {C_TradeError:Addr} {bm_TradeError:List Value} (xa_TradeError:XA K C_TradeError bm_TradeError) (xb_TradeError:mg "TradeError" = some (.ref C_TradeError)) (hk_TradeError:zmu K C_TradeError zbq):FnOk P w K mg base CX0 8 fa fd zrn (spM K false [Md.sh] zoT):=by
 refine zm4 (k:=7) (fs:=zmx) (m':=q101) A zc3 rfl fun cdv A outer s H g E hr=>?_
 have hu1:=zbI hr
 have hu64:=hr.units
 exact (zaa (zbY 1 zc3.nd (by rfl) (.inl rfl) (zaM (dds:=[]) c__law_cell (hr.mono (by decide)) (m_bw (vb_ 0) (m_bw (SE.toB zat) zbe))))
   (zaa (zbY 2 zc3.nd (by rfl) (.inl rfl) (zbd (SE.toB zat) (SE.toB (zdd (vb_ 1) (SE.toB zat)))))
   (zaa (zbY 3 zc3.nd (by rfl) (.inl rfl) (zbd (vb_ 2) (SE.toB (zdd (SE.toB (zeJ (vb_ 1) (SE.toB zat))) (SE.toB (zrD (SE.toB zat) (vb_ 2)))))))
   (zaa (zbY 4 zc3.nd (by rfl) (.inl rfl) (zaM (dds:=[]) c__law_text (hr.mono (by decide)) (m_sh (zaM (dds:=[]) c__law_wishes (hr.mono (by decide)) (m_bw (vb_ 0) (m_bw (SE.toB zat) (m_bw (vb_ 2) (m_bw (vb_ 3) zbe))))) (m_sh (zaM (dds:=[]) c__law_owns (hr.mono (by decide)) (m_sh (zaM (dds:=[]) c__law_cell (hr.mono (by decide)) (m_bw (vb_ 0) (m_bw (SE.toB zat) zbe))) (m_bw (vb_ 2) (m_bw (vb_ 3) zbe)))) zbe))))
   (zaa (zfO PassesOwn.never rfl (zeh (by rfl) T.b_range (zar (SE.toB (zdd (SE.toB (zeJ (vb_ 1) (SE.toB zat))) (SE.toB zat))) zaH)) (zaF 5 zc3.nd (by rfl) (.inl rfl)) (zaa (zbY 4 zc3.nd (by rfl) (.inl rfl) (zaM (dds:=[]) c__law_changed (hr.mono (by decide)) (m_bw (vb_ 4) (m_bw (SE.toB (zaM (dds:=[]) c__law_cell (hr.mono (by decide)) (m_bw (vb_ 0) (m_bw (SE.toB (zbd (SE.toB zat) (vb_ 5))) zbe)))) zbe))))
   zad))
   (zaa (s_if (q_eq hu64 (SE.toB (zdd (SE.toB (zeJ (vb_ 1) (SE.toB zat))) (SE.toB zat))) (SE.toB zat)) (zaa (zbY 4 zc3.nd (by rfl) (.inl rfl) (zaM (dds:=[]) c__law_odd (hr.mono (by decide)) (m_bw (SE.toB (zaM (dds:=[]) c__law_cell (hr.mono (by decide)) (m_bw (vb_ 0) (m_bw (SE.toB zat) zbe)))) zbe)))
   zad)
   zad)
   (zaa (zfO PassesOwn.never rfl (zeh (by rfl) T.b_range (zar (SE.toB zat) zaH)) (zaF 6 zc3.nd (by rfl) (.inl rfl)) (zaa (zbY 7 zc3.nd (by rfl) (.inl rfl) (SO.toE (zc5 (zah (zdP (zah zax (zah zeT zaE))) zaE))))
   (zaa (zrC (bmT:=bm_TradeError) (m1:=q101) 8 rfl rfl rfl xb_TradeError xa_TradeError.ob xa_TradeError.be hk_TradeError (by rfl) zc3.nd (by rfl) (by rfl) (by rfl) (fun _ _=>(zaa (zmE (zgE c_rows_read_x (hr.mono (by decide)) (m_sh (v_ 4) zbe)))
   zad)) (fun _=>(zaa (zbY 7 zc3.nd (by rfl) (.inl rfl) (zoM c__law_kinds_h (RoomH.held (hr.mono (by decide))) (m_bw (vb_ 8) zbe)))
   zad)))
   (zaa (s_if (q_ne hu64 (vb_ 7) (SO.toB (zc5 (zah (zaM (dds:=[]) c__law_due (hr.mono (by decide)) (m_bw (vb_ 4) zbe)) zaE)))) (zaa (za7 s_bl)
   zad)
   zad)
   zad))))
   (zaa (za7 s_bl)
   zad))))))))
end Law
namespace Law
open PySem L2 DL
abbrev nD (k:Nat):D:=.int (k:Int)
abbrev LN (l:List Nat):D:=.lst (l.map nD)
abbrev TN (l:List Nat):D:=.tup (l.map nD)
def oD:Option Nat->D
 | none=>.non
 | some k=>nD k
abbrev WD (rows:List (List Nat)):D:=.tup (rows.map TN)
abbrev OD (owns:List (Option Nat)):D:=.tup (owns.map oD)
theorem szOk {ds:List D} (h:ds.length<=1000):sz ds=some ds:=zrA (Nat.le_trans h (by rw [sizeLine_eq]; decide))
@[simp] theorem addA_int (a b:Int):addA (.int a) (.int b)=some (.int (a + b)):=rfl
theorem zob {a b:Int} (h:CMul a b):mulI (.int a) (.int b)=some (.int (a * b)):=by rw [mulI,intsC_int,if_pos h]
theorem zkk {a b:Int} (h:0 < b):modI (.int a) (.int b)=some (.int (a % b)):=by rw [modI,intsC_int,if_pos h]
theorem zmb {a b:Int} (h:CDiv a b):zdA (.int a) (.int b)=some (.int (a / b)):=by rw [zdA,intsC_int,if_pos h]
theorem zae {s1 s2:FS} {r r':Rho} (h:s1 r=.nx r'):seqF s1 s2 r=s2 r':=by unfold seqF; rw [h]
theorem zap {s1 s2:FS} {r:Rho} {d:D} (h:s1 r=.rt d):seqF s1 s2 r=.rt d:=by unfold seqF; rw [h]
theorem zaC {m:List Md} {i:Nat} {f:FE} {r:Rho} {d:D} (h:f r=.ok d):setF m i f r=.nx (r.set i (some d)):=by unfold setF; rw [h]; rfl
theorem zaA {m:List Md} {f:FE} {r:Rho} {d:D} (h:f r=.ok d):retF m f r=.rt d:=by unfold retF; rw [h]; rfl
theorem zqQ {m:List Md} {p:FQ} {s1 s2:FS} {r:Rho} {b:Bool} (h:p r=.ok b):ifF m p s1 s2 r=if b=true then s1 r else s2 r:=by unfold ifF; rw [h]; rfl
theorem if_t {m:List Md} {p:FQ} {s1 s2:FS} {r:Rho} (h:p r=.ok true):ifF m p s1 s2 r=s1 r:=by rw [zqQ h,if_pos rfl]
theorem if_f {m:List Md} {p:FQ} {s1 s2:FS} {r:Rho} (h:p r=.ok false):ifF m p s1 s2 r=s2 r:=by rw [zqQ h,if_neg Bool.false_ne_true]
theorem zsh {p:FQ} {f f':FE} {r:Rho} (h:p r=.ok true):fIf p f f' r=f r:=by unfold fIf; rw [h]; rfl
theorem zsi {p:FQ} {f f':FE} {r:Rho} (h:p r=.ok false):fIf p f f' r=f' r:=by unfold fIf; rw [h]; rfl
theorem zc4 {fl:Rho->Res (List D)} {r:Rho} {ds:List D} (h:fl r=.ok ds) (hl:ds.length<=1000):mkT fl r=.ok (.tup ds):=by unfold mkT; rw [h,bind_ok,szOk hl]; rfl
theorem zbU {fl:Rho->Res (List D)} {r:Rho} {ds:List D} (h:fl r=.ok ds) (hl:ds.length<=1000):mkL fl r=.ok (.lst ds):=by unfold mkL; rw [h,bind_ok,szOk hl]; rfl
theorem zdV {ds:List D} {d:D} (h:ds.length<=1000):appD (.lst ds) [d]=some (.lst (ds++[d])):=by
 show (if ds.length < sizeLine then some (D.lst (ds++[d])) else none)=_
 rw [if_pos (by rw [sizeLine_eq]; omega)]
theorem zau {fl:Rho->Res (List D)} {dds zs:List D} {F:List D->Res D} {r:Rho} {d:D} (h1:fl r=.ok zs) (h2:F (zs++dds)=.ok d):zaz fl dds F r=.ok d:=by unfold zaz; rw [h1,bind_ok,h2]; rfl
theorem zgA {f:FE} {k:D->Option D} {r:Rho} {a d:D} (h1:f r=.ok a) (h2:k a=some d):f1 f k r=.ok d:=by unfold f1; rw [h1,bind_ok,h2]; rfl
theorem zan {f f':FE} {k:D->D->Option D} {r:Rho} {a b d:D} (h1:f r=.ok a) (h2:f' r=.ok b) (h3:k a b=some d):f2 f f' k r=.ok d:=by unfold f2; rw [h1,bind_ok,h2,bind_ok,h3]; rfl
theorem zbA {fl:Rho->Res (List D)} {k:List D->Option D} {r:Rho} {ds:List D} {d:D} (h1:fl r=.ok ds) (h2:k ds=some d):fC fl k r=.ok d:=by unfold fC; rw [h1,bind_ok,h2]; rfl
theorem zac {f:FE} {fl:Rho->Res (List D)} {r:Rho} {d:D} {ds:List D} (h1:f r=.ok d) (h2:fl r=.ok ds):zab f fl r=.ok (d::ds):=by unfold zab; rw [h1,bind_ok,h2]; rfl
theorem zai {r:Rho}:lNil r=.ok []:=rfl
theorem zav {f:FE} {r:Rho} {b:Bool} (h:f r=.ok (.bl b)):fTest f r=.ok b:=by unfold fTest; rw [h]; rfl
theorem zbr {f:FE} {r:Rho} {d:D} {b:Bool} (h:f r=.ok d) (h2:truD d=some b):fTru f r=.ok b:=by unfold fTru; rw [h,bind_ok,h2]; rfl
theorem zdf {p:FQ} {r:Rho} {b:Bool} (h:p r=.ok b):fNot p r=.ok (! b):=by unfold fNot; rw [h]; rfl
theorem zoR {p q:FQ} {r:Rho} (h:p r=.ok true):fAnd p q r=q r:=by unfold fAnd; rw [h]; rfl
theorem zrk {p q:FQ} {r:Rho} (h:p r=.ok false):fAnd p q r=.ok false:=by unfold fAnd; rw [h]; rfl
theorem or_t {p q:FQ} {r:Rho} (h:p r=.ok true):fOr p q r=.ok true:=by unfold fOr; rw [h]; rfl
theorem or_f {p q:FQ} {r:Rho} (h:p r=.ok false):fOr p q r=q r:=by unfold fOr; rw [h]; rfl
theorem ze8 {f f':FE} {r:Rho} (h:f r=.ok (.bl true)):vAnd f f' r=f' r:=by unfold vAnd; rw [h]; rfl
theorem zgJ {f f':FE} {r:Rho} (h:f r=.ok (.bl false)):vAnd f f' r=.ok (.bl false):=by unfold vAnd; rw [h]; rfl
theorem zaJ {m:List Md} {fi:FI} {ft:FT} {b:FS} {r:Rho} {ds:List D} (h:fi r=.ok ds):zb3 m fi ft b r=forF ft b ds r:=by unfold zb3; rw [h]; rfl
theorem zc2 {f:FE} {r:Rho} {d:D} {ds:List D} (h:f r=.ok d) (h2:zbf d=some ds):fSeq zbf f r=.ok ds:=by unfold fSeq; rw [h,bind_ok,h2]; rfl
theorem zbt {ft:FT} {b:FS} {r:Rho}:forF ft b [] r=.nx r:=by unfold forF; rfl
theorem zb1 {ft:FT} {b:FS} {r r1 r':Rho} {d:D} {ds:List D} (h1:ft d r=some r1) (h2:b r1=.nx r'):forF ft b (d::ds) r=forF ft b ds r':=by
 conv=>lhs; unfold forF
 simp only [h1,h2]
theorem zf5 {ft:FT} {b:FS} {r r1:Rho} {d v:D} {ds:List D} (h1:ft d r=some r1) (h2:b r1=.rt v):forF ft b (d::ds) r=.rt v:=by
 conv=>lhs; unfold forF
 simp only [h1,h2]
theorem zeM {T:String} {m:List Md} {i:Nat} {fl:Rho->Res (List D)} {mk:D->List D->Option D} {r:Rho} {d d':D} {ds:List D} (h1:r[i]? = some (some d)) (h2:tyB T d=true) (h3:fl r=.ok ds) (h4:mk d ds=some d'):mutF T m i fl mk r=.nx (r.set i (some d')):=by
 unfold mutF; rw [h1]; simp only [h2,if_true,h3,onE_ok,h4]
theorem zmI {m:List Md} {i:Nat} {fk fv:FE} {r:Rho} {d k v d':D} (h1:r[i]? = some (some d)) (h2:fv r=.ok v) (h3:fk r=.ok k) (h4:stoD d k v=some d'):DL.putF m i fk fv r=.nx (r.set i (some d')):=by
 unfold DL.putF; rw [h2,onE_ok]; simp only [h1,h3,onE_ok,h4]
theorem zoH {fa fb fc:FE} {k k':D->D->Option D} {r:Rho} {x y w d:D} (h1:fa r=.ok x) (h2:fb r=.ok y) (h3:k x y=some (.bl true)) (h4:fc r=.ok w) (h5:k' y w=some d):zf6 fa fb fc k k' r=.ok d:=by
 unfold zf6; rw [h1,bind_ok,h2,bind_ok,h3,opt_some,bind_ok]
 show (fc r).bind _=_
 rw [h4,bind_ok,h5]; rfl
theorem zkZ {ft:FT} {q:FQ} {fe:FE} {r0:Rho}:zdU ft q fe r0 []=.ok []:=by unfold zdU; rfl
theorem zhn {ft:FT} {q:FQ} {fe:FE} {r0:Rho} {α:Type} (e:α->D) (keep:α->Bool) (g:α->D):∀(l:List α),(∀a∈l,∃r1,ft (e a) r0=some r1/\q r1=.ok (keep a)/\(keep a=true->fe r1=.ok (g a)))->zdU ft q fe r0 (l.map e)=.ok ((l.filter keep).map g)
 | [],_=>zkZ
 | a::l,h=>by
  obtain ⟨r1,h1,h2,h3⟩:=h a List.mem_cons_self
  have ih:=zhn (ft:=ft) (q:=q) (fe:=fe) (r0:=r0) e keep g l fun b hb=>h b (List.mem_cons_of_mem _ hb)
  rw [List.map_cons]
  conv=>lhs; unfold zdU
  rw [h1,opt_some,bind_ok,h2,bind_ok]
  cases k:keep a with
  | true=>rw [if_pos rfl,h3 k,bind_ok,ih,bind_ok,List.filter_cons,if_pos k]; rfl
  | false=>rw [if_neg Bool.false_ne_true,ih,List.filter_cons,if_neg (by rw [k]; exact Bool.false_ne_true)]
theorem zcJ {nl:Nat} {cap:List Nat} {fi:FI} {ft:FT} {q:FQ} {fe:FE} {r:Rho} {α:Type} {l:List α} (e:α->D) (keep:α->Bool) (g:α->D) (h1:fi r=.ok (l.map e)) (hl:l.length<=1000)
  (h:∀a∈l,∃r1,ft (e a) (capR nl cap r)=some r1/\q r1=.ok (keep a)/\(keep a=true->fe r1=.ok (g a))):zbZ nl cap fi ft q fe r=.ok (.lst ((l.filter keep).map g)):=by
 unfold zbZ
 rw [h1,bind_ok,szOk (by simpa using hl),opt_some,bind_ok,zhn e keep g l h,noXL_ok,bind_ok]
theorem zr7 (k:Nat):leI (.int 0) (nD k)=some (.bl true):=by
 show some (D.bl (decide ((0:Int)<=(k:Int))))=_
 rw [decide_eq_true (Int.natCast_nonneg k)]
theorem zi0 (a b:Nat):ltI (nD a) (nD b)=some (.bl (decide (a < b))):=by
 show some (D.bl (decide ((a:Int) < (b:Int))))=_
 simp only [Int.ofNat_lt]
theorem zi7 (a b:Nat):gtI (nD a) (nD b)=some (.bl (decide (b < a))):=by
 show some (D.bl (decide ((b:Int) < (a:Int))))=_
 simp only [Int.ofNat_lt]
theorem zhk (a b:Nat):eqD (nD a) (nD b)=some (.bl (decide (a=b))):=by
 unfold eqD
 rw [eqB_int]
 show some (D.bl ((a:Int) == (b:Int)))=_
 have:((a:Int) == (b:Int))=decide (a=b):=by rw [Bool.eq_iff_iff,beq_iff_eq,decide_eq_true_iff]; exact Int.ofNat_inj
 rw [this]
theorem zaQ {B:FS} {n:Nat} {ds:List D} {d:D} (h:B (zao n ds)=.rt d):outR false (B (zao n ds))=.ok d:=by rw [h]; rfl
abbrev kI (k:Nat):Key:=Sum.inl (k:Int)
theorem zm2 (kvs:List (Nat × D)) (k:Nat):hasK (kvs.map fun p=>(kI p.1,p.2)) (kI k)=decide (k∈kvs.map (·.1)):=by
 unfold hasK
 rw [List.any_map,Bool.eq_iff_iff,List.any_eq_true,decide_eq_true_iff,List.mem_map]
 constructor
 ·rintro ⟨p,h1,h2⟩
  refine ⟨p,h1,?_⟩
  simp only [Function.comp_apply,decide_eq_true_eq] at h2
  have:((p.1:Nat):Int)=(k:Int):=Sum.inl.inj h2
  exact Int.ofNat.inj this
 ·rintro ⟨p,h1,rfl⟩
  exact ⟨p,h1,by simp⟩
theorem zlF (kvs:List (Nat × D)) (k:Nat) (d:D) (h:k∉kvs.map (·.1)):putD (kvs.map fun p=>(kI p.1,p.2)) (kI k) d=(kvs++[(k,d)]).map fun p=>(kI p.1,p.2):=by
 unfold putD
 have e:((kvs.map fun p=>(kI p.1,p.2)).any fun kv=>decide (kv.1=kI k))=decide (k∈kvs.map (·.1)):=zm2 kvs k
 rw [e,decide_eq_false h,if_neg Bool.false_ne_true,List.map_append]
 rfl
@[simp] theorem e_seq (s1 s2:FS) (r:Rho):seqF s1 s2 r=(match s1 r with | .nx r'=>s2 r' | o=>o):=rfl
@[simp] theorem e_skip (r:Rho):zaj r=.nx r:=rfl
@[simp] theorem e_set (m:List Md) (i:Nat) (f:FE) (r:Rho):setF m i f r=onE m r (f r) fun d=>.nx (r.set i (some d)):=rfl
@[simp] theorem e_ret (m:List Md) (f:FE) (r:Rho):retF m f r=onE m r (f r) fun d=>.rt d:=rfl
@[simp] theorem e_if (m:List Md) (p:FQ) (s1 s2:FS) (r:Rho):ifF m p s1 s2 r=onE m r (p r) fun c=>if c=true then s1 r else s2 r:=rfl
@[simp] theorem e_getV (r:Rho) (i:Nat):getV r i=(match r[i]? with | some (some d)=>.ok d | _=>.stuck):=rfl
@[simp] theorem e_f1 (f:FE) (k:D->Option D) (r:Rho):f1 f k r=(f r).bind fun d=>opt (k d):=rfl
@[simp] theorem e_f2 (f f':FE) (k:D->D->Option D) (r:Rho):f2 f f' k r=(f r).bind fun a=>(f' r).bind fun b=>opt (k a b):=rfl
@[simp] theorem e_fC (fl:Rho->Res (List D)) (k:List D->Option D) (r:Rho):fC fl k r=(fl r).bind fun ds=>opt (k ds):=rfl
@[simp] theorem e_lN (r:Rho):lNil r=.ok []:=rfl
@[simp] theorem e_lC (f:FE) (fl:Rho->Res (List D)) (r:Rho):zab f fl r=(f r).bind fun d=>(fl r).bind fun ds=>.ok (d::ds):=rfl
@[simp] theorem e_test (f:FE) (r:Rho):fTest f r=(f r).bind fun d=>opt (asB d):=rfl
@[simp] theorem e_tru (f:FE) (r:Rho):fTru f r=(f r).bind fun d=>opt (truD d):=rfl
@[simp] theorem e_not (p:FQ) (r:Rho):fNot p r=(p r).bind fun c=>.ok (! c):=rfl
@[simp] theorem e_and (p q:FQ) (r:Rho):fAnd p q r=(p r).bind fun c=>if c=true then q r else .ok false:=rfl
@[simp] theorem e_or (p q:FQ) (r:Rho):fOr p q r=(p r).bind fun c=>if c=true then .ok true else q r:=rfl
@[simp] theorem e_vand (f f':FE) (r:Rho):vAnd f f' r=(f r).bind fun d=>(opt (asB d)).bind fun c=>if c=true then f' r else .ok (.bl false):=rfl
@[simp] theorem e_vor (f f':FE) (r:Rho):vOr f f' r=(f r).bind fun d=>(opt (asB d)).bind fun c=>if c=true then .ok (.bl true) else f' r:=rfl
@[simp] theorem e_vnot (f:FE) (r:Rho):vNot f r=(f r).bind fun d=>(opt (asB d)).bind fun c=>.ok (.bl (! c)):=rfl
@[simp] theorem e_fIf (p:FQ) (f f':FE) (r:Rho):fIf p f f' r=(p r).bind fun c=>if c=true then f r else f' r:=rfl
@[simp] theorem e_call (fl:Rho->Res (List D)) (dds:List D) (F:List D->Res D) (r:Rho):zaz fl dds F r=(fl r).bind fun ds=>noX (F (ds++dds)):=rfl
@[simp] theorem e_asB (b:Bool):asB (.bl b)=some b:=rfl
@[simp] theorem e_truB (b:Bool):truD (.bl b)=some b:=rfl
@[simp] theorem e_truL (ds:List D):truD (.lst ds)=some (! ds.isEmpty):=rfl
@[simp] theorem e_loop (m:List Md) (fi:FI) (ft:FT) (b:FS) (r:Rho):zb3 m fi ft b r=onE m r (fi r) fun ds=>forF ft b ds r:=rfl
@[simp] theorem e_fSeq (k:D->Option (List D)) (f:FE) (r:Rho):fSeq k f r=(f r).bind fun d=>opt (k d):=rfl
@[simp] theorem e_asL (ds:List D):zbf (.lst ds)=some ds:=rfl
@[simp] theorem e_asT (ds:List D):zbf (.tup ds)=some ds:=rfl
@[simp] theorem e_mkT (fl:Rho->Res (List D)) (r:Rho):mkT fl r=(fl r).bind fun ds=>(opt (sz ds)).bind fun ds=>.ok (.tup ds):=rfl
@[simp] theorem e_mkL (fl:Rho->Res (List D)) (r:Rho):mkL fl r=(fl r).bind fun ds=>(opt (sz ds)).bind fun ds=>.ok (.lst ds):=rfl
@[simp] theorem e_lenL (ds:List D):lenD [.lst ds]=some (.int ds.length):=rfl
@[simp] theorem e_lenT (ds:List D):lenD [.tup ds]=some (.int ds.length):=rfl
@[simp] theorem e_lenK (ds:List (Key × D)):lenD [.dic ds]=some (.int ds.length):=rfl
@[simp] theorem e_tupL (ds:List D):tupD [.lst ds]=some (.tup ds):=rfl
@[simp] theorem e_listL (ds:List D):zqt [.lst ds]=some (.lst ds):=rfl
@[simp] theorem e_listT (ds:List D):zqt [.tup ds]=some (.lst ds):=rfl
@[simp] theorem e_isNN:isD .non .non=some (.bl true):=rfl
@[simp] theorem e_isLN (ds:List D):isD (.lst ds) .non=some (.bl false):=rfl
@[simp] theorem e_isn1:isnD .non .non=some (.bl false):=rfl
@[simp] theorem e_isn2 (i:Int):isnD (.int i) .non=some (.bl true):=rfl
@[simp] theorem e_isn3 (ds:List D):isnD (.tup ds) .non=some (.bl true):=rfl
@[simp] theorem e_valsD (kvs:List (Key × D)):zru (.dic kvs)=some (.lst (kvs.map (·.2))):=rfl
theorem zor {ds:List D} {i:Nat} {d:D} (h:ds[i]? = some d):ixA (.tup ds) (nD i)=some d:=by
 have hl:i < ds.length:=(List.getElem?_eq_some_iff.mp h).1
 show atI ds (i:Int)=some d
 unfold atI ixN
 rw [if_pos (Int.natCast_nonneg i),if_pos (by omega)]
 simpa using h
theorem zi3 {ds:List D} {i:Nat} {d:D} (h:ds[i]? = some d):ixA (.lst ds) (nD i)=some d:=by
 have hl:i < ds.length:=(List.getElem?_eq_some_iff.mp h).1
 show atI ds (i:Int)=some d
 unfold atI ixN
 rw [if_pos (Int.natCast_nonneg i),if_pos (by omega)]
 simpa using h
@[simp] theorem ixA_L0 (d:D) (ds:List D):ixA (.lst (d::ds)) (.int 0)=some d:=zi3 (i:=0) rfl
theorem zgW (k:Nat):zcB [nD k]=.ok (.bl true):=rfl
theorem zgX (k b:Nat):zaP [nD k,nD b]=.ok (.bl (decide (k < b))):=by
 refine zaQ (B:=zbz) (n:=2) ?_
 unfold zbz
 refine zap (zaA ?_)
 rw [ze8 (zau (zac (d:=nD k) rfl zai) (zgW k))]
 exact zoH rfl rfl (zr7 k) rfl (zi0 k b)
theorem zl1 {α:Type} (f:α->D) (l:List α):lenD [.tup (l.map f)]=some (nD l.length):=by
 show some (D.int ((l.map f).length:Int))=_
 rw [List.length_map]
theorem zcn {α:Type} (f:α->D) (l:List α):lenD [.lst (l.map f)]=some (nD l.length):=by
 show some (D.int ((l.map f).length:Int))=_
 rw [List.length_map]
theorem zmF (n:Nat):rngD 0 n=(List.range n).map nD:=by
 unfold rngD
 refine List.map_congr_left fun i _=>?_
 show D.int (0 + (i:Int))=D.int (i:Int)
 rw [Int.zero_add]
theorem zlY (j:Int):zi1 [.int j]=if -(2 ^ 62)<=j/\j < 2 ^ 62/\j.toNat<=sizeLine then some (.lst (rngD 0 j.toNat)) else none:=rfl
theorem zof {n:Nat} (h:n<=1000):zi1 [nD n]=some (LN (List.range n)):=by
 have hs:(n:Int).toNat<=sizeLine:=by rw [Int.toNat_natCast,sizeLine_eq]; omega
 rw [zlY,if_pos ⟨by omega,by omega,hs⟩,Int.toNat_natCast,zmF]
theorem znD (j:Int):rng1 [.int j]=if -(2 ^ 62)<=j/\j < 2 ^ 62 then some (rngD 0 j.toNat) else none:=rfl
theorem zgY {n:Nat} (h:n<=1000):rng1 [nD n]=some ((List.range n).map nD):=by
 rw [znD,if_pos ⟨by omega,by omega⟩,Int.toNat_natCast,zmF]
theorem zfu {fl:Rho->Res (List D)} {k:List D->Option (List D)} {r:Rho} {ds es:List D} (h1:fl r=.ok ds) (h2:k ds=some es):fRng k fl r=.ok es:=by unfold fRng; rw [h1,bind_ok,h2]; rfl
def own (owns:List (Option Nat)) (h:Nat):Option Nat:=(owns[h]?).join
structure GI (t:Nat->Nat) (kvs:List (Nat × Nat)) (L:List Nat):Prop where
 nd:(kvs.map (·.1)).Nodup
 val:∀p∈kvs,p.2=t p.1
 key:∀h,h∈kvs.map (·.1)↔h∈L
theorem GI.len {t:Nat->Nat} {kvs:List (Nat × Nat)} {L line:List Nat} (g:GI t kvs L) (hs:∀h∈L,h∈line):kvs.length<=line.length:=by
 have:=Rg.zgt (m:=line) g.nd fun h hh=>hs h ((g.key h).mp hh)
 simpa using this
theorem GI.mem {t:Nat->Nat} {kvs:List (Nat × Nat)} {L M:List Nat} (g:GI t kvs L) (h:∀x,x∈L↔x∈M):GI t kvs M:=⟨g.nd,g.val,fun x=>(g.key x).trans (h x)⟩
theorem GI.nil (t:Nat->Nat):GI t [] []:=⟨by simp,fun _ hp=>(nomatch hp),fun h=>by simp⟩
theorem zbV {α:Type} (l:List α):l.filter (fun _=>true)=l:=List.filter_eq_self.mpr fun _ _=>rfl
theorem zdg {a b:Nat} (h:0 < b):modI (nD a) (nD b)=some (nD (a % b)):=by
 rw [zkk (by omega:(0:Int) < (b:Int))]
 show some (D.int _)=some (D.int _)
 rw [Int.natCast_emod]
theorem zdl {a b:Nat} (h:0 < b) (h2:b < 1000):zdA (nD a) (nD b)=some (nD (a / b)):=by
 rw [zmb (⟨by omega,by omega⟩:CDiv (a:Int) (b:Int))]
 show some (D.int _)=some (D.int _)
 rw [Int.natCast_ediv]
theorem zdM (a b:Nat):addA (nD a) (nD b)=some (nD (a + b)):=by
 rw [addA_int]
 show some (D.int _)=some (D.int _)
 rw [Int.natCast_add]
section
variable {f f':FE} {r:Rho}
theorem zi8 {b:Int} (h:∃i:Int,f r=.ok (.int i)) (h':f' r=.ok (.int b)) (hb:0 < b):∃c:Nat,f2 f f' modI r=.ok (nD c):=by
 obtain ⟨i,hi⟩:=h
 refine ⟨(i % b).toNat,zan hi h' ?_⟩
 rw [zkk hb]
 show some (D.int _)=some (D.int _)
 rw [Int.toNat_of_nonneg (Int.emod_nonneg _ (by omega))]
theorem exN (h:∃c:Nat,f r=.ok (nD c)):∃i:Int,f r=.ok (.int i):=let ⟨c,e⟩:=h; ⟨c,e⟩
theorem zfw {b:Int} (h:∃i:Int,f r=.ok (.int i)) (h':f' r=.ok (.int b)) (hb : -(2 ^ 64) < b/\b < 2 ^ 64):∃i:Int,f2 f f' mulI r=.ok (.int i):=by
 obtain ⟨i,hi⟩:=h
 exact ⟨i * b,zan hi h' (zob (.inr hb))⟩
theorem zmc (h:∃i:Int,f r=.ok (.int i)) (h':∃i:Int,f' r=.ok (.int i)):∃i:Int,f2 f f' addA r=.ok (.int i):=by
 obtain ⟨i,hi⟩:=h
 obtain ⟨j,hj⟩:=h'
 exact ⟨i + j,zan hi hj rfl⟩
end
theorem zq7 {m:List Md} {i:Nat} {f:FE} {s2:FS} {r:Rho} (h:∃c:Nat,f r=.ok (nD c)) (k:∀c:Nat,∃d:Nat,s2 (r.set i (some (nD c)))=.rt (nD d)):∃d:Nat,seqF (setF m i f) s2 r=.rt (nD d):=by
 obtain ⟨c,hc⟩:=h
 obtain ⟨d,hd⟩:=k c
 exact ⟨d,(zae (zaC hc)).trans hd⟩
abbrev IN (ns:List Int):D:=.lst (ns.map .int)
theorem zeb (ns:List Int) (k:Nat) (hk:k<=1000):∃c:Nat,zaO [IN ns,nD k]=.ok (nD c):=by
 suffices h:∃c:Nat,zcj (zao 4 [IN ns,nD k])=.rt (nD c) by
  obtain ⟨c,hc⟩:=h
  exact ⟨c,zaQ (B:=zcj) (n:=4) hc⟩
 unfold zcj
 have st:seqF (setF q105 2 (ci 0))=seqF (setF q105 2 (fun _=>Res.ok (nD 0))):=rfl
 rw [st]
 refine zq7 ⟨0,rfl⟩ fun c1=>?_
 show ∃d:Nat,seqF _ _ [some (IN ns),some (nD k),some (nD c1),none]=_
 have key:∃c2:Nat,(ifF q105 (fTest (f2 (gv 1) (fC (zab (gv 0) lNil) lenD) ltI)) (seqF (setF q105 2 (f2 (f2 (gv 0) (gv 1) ixA) (f2 (ci 10) (ci 60) powI) modI)) zaj) zaj) [some (IN ns),some (nD k),some (nD c1),none]=.nx [some (IN ns),some (nD k),some (nD c2),none]:=by
  have t:=zav (zan (f:=gv 1) (r:=[some (IN ns),some (nD k),some (nD c1),none]) (a:=nD k) rfl (zbA (zac (f:=gv 0) (d:=IN ns) rfl zai) (zcn _ _)) (zi0 k ns.length))
  by_cases hlt:k < ns.length
  ·rw [decide_eq_true hlt] at t
   have hx:(ns.map D.int)[k]? = some (.int ns[k]):=by rw [List.getElem?_map,List.getElem?_eq_getElem hlt]; rfl
   have hp:powI (.int 10) (.int 60)=some (.int (10 ^ 60)):=by
    show zhb CPow _ _ _=_
    rw [intsC_int,if_pos (by unfold CPow; decide)]
    rfl
   obtain ⟨c2,h2⟩:=zi8 (f:=f2 (gv 0) (gv 1) ixA) (f':=f2 (ci 10) (ci 60) powI) (r:=[some (IN ns),some (nD k),some (nD c1),none]) ⟨ns[k],zan (a:=IN ns) (b:=nD k) rfl rfl (zi3 hx)⟩ (zan rfl rfl hp) (by decide)
   exact ⟨c2,(if_t t).trans ((zae (zaC h2)).trans rfl)⟩
  ·rw [decide_eq_false hlt] at t
   exact ⟨c1,(if_f t).trans rfl⟩
 obtain ⟨c2,h2⟩:=key
 rw [zae h2]
 have kq:∃b,(fAnd (fTest (f2 (fC (zab (gv 0) lNil) lenD) (ci 0) gtI)) (fTest (f2 (f2 (f2 (gv 0) (ci 0) ixA) (ci 2) modI) (ci 0) eqD))) [some (IN ns),some (nD k),some (nD c2),none]=.ok b:=by
  have t:=zav (zan (f:=fC (zab (gv 0) lNil) lenD) (f':=fun _=>Res.ok (D.int 0)) (r:=[some (IN ns),some (nD k),some (nD c2),none]) (b:=nD 0) (zbA (zac (d:=IN ns) rfl zai) (zcn _ _)) rfl (zi7 ns.length 0))
  cases ns with
  | nil=>exact ⟨false,zrk t⟩
  | cons a ns=>
   rw [decide_eq_true (by simp)] at t
   obtain ⟨c3,h3⟩:=zi8 (f:=f2 (gv 0) (ci 0) ixA) (f':=fun _=>Res.ok (D.int 2)) (r:=[some (IN (a::ns)),some (nD k),some (nD c2),none]) ⟨a,zan (a:=IN (a::ns)) (b:=.int 0) rfl rfl (ixA_L0 _ _)⟩ rfl (by decide)
   exact ⟨_,(zoR t).trans (zav (zan h3 (b:=nD 0) rfl (zhk c3 0)))⟩
 obtain ⟨b,hb⟩:=kq
 cases b with
 | true=>exact ⟨c2,zap ((if_t hb).trans (zap (zaA (d:=nD c2) rfl)))⟩
 | false=>
  rw [zae ((if_f (s2:=zaj) hb).trans (e_skip _))]
  refine zq7 (zi8 (zfw (exN (zi8 (zfw (zmc (zmc (zmc ⟨(c2:Int),rfl⟩ (zfw (b:=(k:Int)) (zfw (b:=(k:Int)) ⟨7,rfl⟩ rfl (by omega)) rfl (by omega))) (zfw (b:=(k:Int)) ⟨13,rfl⟩ rfl (by omega))) ⟨5,rfl⟩) rfl (by decide)) rfl (by decide))) rfl (by decide)) rfl (by decide)) fun c3=>?_
  obtain ⟨c4,h4⟩:=zi8 (f:=(f2 (f2 (f2 (f2 (gv 3) (ci 1) addA) (ci 40692) mulI) (ci 2147483629) modI) (ci 39373) mulI)) (f':=fun _=>Res.ok (D.int 999999937)) (r:=[some (IN ns),some (nD k),some (nD c2),some (nD c3)]) (zfw (exN (zi8 (zfw (zmc ⟨(c3:Int),rfl⟩ ⟨1,rfl⟩) rfl (by decide)) rfl (by decide))) rfl (by decide)) rfl (by decide)
  exact ⟨c4,zap (zaA h4)⟩
theorem zl7 {row:List Nat} {i:Int} {x:Nat}:insL (row.map nD) i (nD x)=(insL row i x).map nD:=by
 unfold insL
 rw [List.length_map,List.map_append,List.map_cons,List.map_take,List.map_drop]
theorem zkG {row:List Nat} {i:Int} {x:Nat}:(insL row i x).Perm (x::row):=by
 unfold insL
 refine List.perm_middle.trans ?_
 rw [List.take_append_drop]
theorem zig (m:Nat):∀(j i c:Nat) (row:List Nat) (x:Option D),row.Perm (List.range i)->i + j<=60 ->
  ∃(c':Nat) (row':List Nat) (x':Option D),row'.Perm (List.range (i + j))/\forF (ftN 3) zeQ ((List.range' i j).map nD) [some (nD c),some (nD m),some (LN row),x]=.nx [some (nD c'),some (nD m),some (LN row'),x']
 | 0,i,c,row,x,hp,_=>⟨c,row,x,hp,zbt⟩
 | j + 1,i,c,row,x,hp,hl=>by
  have hlen:row.length=i:=by rw [hp.length_eq]; simp
  obtain ⟨c',row',x',h1,h2⟩:=zig m j (i + 1) (c / (i + 1)) (insL row ((c % (i + 1):Nat):Int) i) (some (nD i)) (by
   refine zkG.trans ?_
   rw [List.range_succ]
   exact (List.Perm.cons i hp).trans (List.perm_append_singleton i _).symm) (by omega)
  refine ⟨c',row',x',by rw [show i + (j + 1)=i + 1 + j by omega]; exact h1,?_⟩
  rw [<-h2]
  have hmod:c % (i + 1) < i + 1:=Nat.mod_lt _ (by omega)
  refine zb1 (r1:=[some (nD c),some (nD m),some (LN row),some (nD i)]) rfl ?_
  refine (zae (zeM (d:=LN row) (ds:=[nD (c % (i + 1)),nD i]) (d':=LN (insL row ((c % (i + 1):Nat):Int) i)) rfl rfl (zac (zan (a:=nD c) (b:=nD (i + 1)) rfl (zan (a:=nD i) (b:=nD 1) rfl rfl (zdM i 1)) (zdg (by omega))) (zac (d:=nD i) rfl zai)) ?_)).trans ?_
  ·show (if _ then some (D.lst (insL _ _ _)) else none)=_
   rw [if_pos ⟨by rw [List.length_map,sizeLine_eq]; omega,by omega,by omega⟩,zl7]
  ·exact zae (zaC (d:=nD (c / (i + 1))) (zan (a:=nD c) (b:=nD (i + 1)) rfl (zan (a:=nD i) (b:=nD 1) rfl rfl (zdM i 1)) (zdl (by omega) (by omega))))
theorem znz (c m:Nat) (hm:m<=60):∃row:List Nat,row.Perm (List.range m)/\zcC [nD c,nD m]=.ok (TN row):=by
 obtain ⟨c',row',x',h1,h2⟩:=zig m m 0 c [] none (by simp) (by omega)
 rw [Nat.zero_add] at h1
 rw [<-List.range_eq_range'] at h2
 refine ⟨row',h1,zaQ (B:=zdx) (n:=4) ?_⟩
 unfold zdx
 refine (zae (zaC (d:=LN []) (zbU zai (by simp)))).trans ?_
 refine (zae ((zaJ (ds:=(List.range m).map nD) (zfu (zac (d:=nD m) rfl zai) (zgY (by omega)))).trans h2)).trans ?_
 exact zap (zaA (zbA (zac (d:=LN row') rfl zai) rfl))
theorem ziQ (ns:List Int) (at' n m:Nat) (ha:at'<=60) (hn:n<=60) (hm:m<=60):∃rows:List (List Nat),rows.length=n/\(∀row∈rows,row.Perm (List.range m))/\zb8 [IN ns,nD at',nD n,nD m]=.ok (WD rows):=by
 have h:∀h:Nat,∃row:List Nat,h<=60->row.Perm (List.range m)/\∃c:Nat,zaO [IN ns,nD (at' + h)]=.ok (nD c)/\zcC [nD c,nD m]=.ok (TN row):=by
  intro h
  by_cases hh:h<=60
  ·obtain ⟨c,hc⟩:=zeb ns (at' + h) (by omega)
   obtain ⟨row,h1,h2⟩:=znz c m hm
   exact ⟨row,fun _=>⟨h1,c,hc,h2⟩⟩
  ·exact ⟨[],fun z=>absurd z hh⟩
 obtain ⟨g,hg⟩:=Classical.axiomOfChoice h
 refine ⟨(List.range n).map g,by simp,fun row hr=>?_,zaQ (B:=zca) (n:=4) ?_⟩
 ·obtain ⟨i,hi,rfl⟩:=List.mem_map.mp hr
  exact (hg i (by have:=List.mem_range.mp hi; omega)).1
 ·unfold zca
  refine zap (zaA (zbA (zac (zcJ (l:=List.range n) nD (fun _=>true) (fun h=>TN (g h)) (zfu (zac (d:=nD n) rfl zai) (zgY (by omega))) (by simp; omega) fun h hh=>⟨[some (nD h),some (nD m),some (IN ns),some (nD at')],rfl,rfl,fun _=>?_⟩) zai) ?_))
  ·obtain ⟨_,c,h1,h2⟩:=hg h (by have:=List.mem_range.mp hh; omega)
   exact zau (zac (zau (zac (d:=IN ns) rfl (zac (zan (a:=nD at') (b:=nD h) rfl rfl (zdM at' h)) zai)) h1) (zac (d:=nD m) rfl zai)) h2
  ·rw [zbV,e_tupL]
   show some (D.tup _)=some (D.tup _)
   rw [List.map_map]; rfl
structure Own (owns:List (Option Nat)) (m:Nat):Prop where
 lt:∀x,some x∈owns->x < m
 inj:∀h k x,own owns h=some x->own owns k=some x->h=k
theorem zj3 {owns:List (Option Nat)} {h x:Nat} (e:own owns h=some x):some x∈owns/\h < owns.length:=by
 unfold own at e
 cases q:owns[h]? with
 | none=>rw [q] at e; cases e
 | some o=>
  rw [q] at e
  have:o=some x:=e
  subst this
  exact ⟨List.mem_of_getElem? q,(List.getElem?_eq_some_iff.mp q).1⟩
theorem zj4 {owns:List (Option Nat)} {o:Option Nat} {h:Nat}:own (owns++[o]) h=if h < owns.length then own owns h else if h=owns.length then o else none:=by
 unfold own
 by_cases q:h < owns.length
 ·rw [if_pos q,List.getElem?_append_left q]
 ·rw [if_neg q,List.getElem?_append_right (by omega)]
  by_cases z:h=owns.length
  ·subst z; simp
  ·rw [if_neg z,List.getElem?_eq_none (by simp; omega)]; rfl
theorem Own.app_none {owns:List (Option Nat)} {m:Nat} (w:Own owns m):Own (owns++[none]) m where
 lt:=fun x hx=>w.lt x (by simpa using hx)
 inj:=fun h k x h1 h2=>by
  rw [zj4] at h1 h2
  have f:∀h,(if h < owns.length then own owns h else if h=owns.length then none else none)=some x->own owns h=some x:=by
   intro h e
   split at e
   ·exact e
   ·split at e <;> cases e
  exact w.inj h k x (f h h1) (f k h2)
theorem Own.app_some {owns:List (Option Nat)} {m t:Nat} (w:Own owns m) (ht:t < m) (hn:some t∉owns):Own (owns++[some t]) m where
 lt:=fun x hx=>by
  rcases List.mem_append.mp hx with z | z
  ·exact w.lt x z
  ·simp at z; omega
 inj:=fun h k x h1 h2=>by
  rw [zj4] at h1 h2
  split at h1 <;> split at h2
  ·exact w.inj h k x h1 h2
  ·split at h2
   ·cases h2; exact absurd (zj3 h1).1 hn
   ·cases h2
  ·split at h1
   ·cases h1; exact absurd (zj3 h2).1 hn
   ·cases h1
  ·split at h1
   ·split at h2
    ·omega
    ·cases h2
   ·cases h1
theorem anyO (l:List (Option Nat)) (k:Nat):(l.map oD).any (fun y=>eqs y (nD k))=decide (some k∈l):=by
 rw [List.any_map,Bool.eq_iff_iff,List.any_eq_true,decide_eq_true_iff]
 constructor
 ·rintro ⟨x,h1,h2⟩
  cases x with
  | none=>cases h2
  | some x=>
   have:(((x:Nat):Int) == (k:Int))=true:=h2
   have:=Int.ofNat_inj.mp (eq_of_beq this)
   subst this; exact h1
 ·intro h
  exact ⟨some k,h,by show (((k:Nat):Int) == (k:Int))=true; simp⟩
theorem zsf (l:List (Option Nat)):(l.map oD).all zcs=true:=by
 rw [List.all_eq_true]
 intro x hx
 obtain ⟨k,_,rfl⟩:=List.mem_map.mp hx
 cases k <;> rfl
theorem zr9 (l:List (Option Nat)) (k:Nat):inD (nD k) (.lst (l.map oD))=some (.bl (decide (some k∈l))):=by
 show (if zcs (nD k)=true/\(l.map oD).all zcs=true then some ((l.map oD).any fun y=>eqs y (nD k)) else none).map D.bl=_
 rw [if_pos ⟨rfl,zsf l⟩,anyO]; rfl
structure Scene (rows:List (List Nat)) (owns:List (Option Nat)) (o:Option (List Nat)) (n m:Nat):Prop where
 n1:1<=n
 n7:n<=7
 nm:n<=m
 m8:m<=8
 rl:rows.length=n
 rp:∀row∈rows,row.Perm (List.range m)
 ow:Own owns m
 ol:owns.length=n
 op:∀l,o=some l->l.Perm (List.range n)
theorem zj5 (n m:Nat) (hm:m<=60):∀(l:List Nat) (c:Nat) (owns:List (Option Nat)) (x y:Option D),Own owns m->owns.length + l.length<=60 ->
  ∃(c':Nat) (owns':List (Option Nat)) (x' y':Option D),Own owns' m/\owns'.length=owns.length + l.length/\forF (ftN 4) zcP (l.map nD) [some (nD c),some (nD n),some (nD m),some (.lst (owns.map oD)),x,y]=.nx [some (nD c'),some (nD n),some (nD m),some (.lst (owns'.map oD)),x',y']
 | [],c,owns,x,y,w,_=>⟨c,owns,x,y,w,rfl,zbt⟩
 | h::l,c,owns,x,y,w,hl=>by
  have hmod:c % (m + 1) < m + 1:=Nat.mod_lt _ (by omega)
  have step:∃o,Own (owns++[o]) m/\zcP [some (nD c),some (nD n),some (nD m),some (.lst (owns.map oD)),some (nD h),y]=.nx [some (nD (c / (m + 1))),some (nD n),some (nD m),some (.lst ((owns++[o]).map oD)),some (nD h),some (nD (c % (m + 1)))]:=by
   have t1:=zav (zan (f:=gv 5) (f':=gv 2) (r:=[some (nD (c / (m + 1))),some (nD n),some (nD m),some (.lst (owns.map oD)),some (nD h),some (nD (c % (m + 1)))]) (a:=nD (c % (m + 1))) (b:=nD m) rfl rfl (zhk (c % (m + 1)) m))
   have t2:=zav (zan (f:=gv 5) (f':=gv 3) (r:=[some (nD (c / (m + 1))),some (nD n),some (nD m),some (.lst (owns.map oD)),some (nD h),some (nD (c % (m + 1)))]) (a:=nD (c % (m + 1))) (b:=.lst (owns.map oD)) rfl rfl (zr9 owns (c % (m + 1))))
   have pre:∀s2:FS,seqF (setF q108 5 (f2 (gv 0) (f2 (gv 2) (ci 1) addA) modI)) (seqF (setF q108 0 (f2 (gv 0) (f2 (gv 2) (ci 1) addA) zdA)) s2) [some (nD c),some (nD n),some (nD m),some (.lst (owns.map oD)),some (nD h),y]=s2 [some (nD (c / (m + 1))),some (nD n),some (nD m),some (.lst (owns.map oD)),some (nD h),some (nD (c % (m + 1)))]:=by
    intro s2
    refine (zae (zaC (d:=nD (c % (m + 1))) (zan (a:=nD c) (b:=nD (m + 1)) rfl (zan (a:=nD m) (b:=nD 1) rfl rfl (zdM m 1)) (zdg (by omega))))).trans ?_
    exact zae (zaC (d:=nD (c / (m + 1))) (zan (a:=nD c) (b:=nD (m + 1)) rfl (zan (a:=nD m) (b:=nD 1) rfl rfl (zdM m 1)) (zdl (by omega) (by omega))))
   have hlo:(owns.map oD).length<=1000:=by rw [List.length_map]; omega
   by_cases q:c % (m + 1)=m\/some (c % (m + 1))∈owns
   ·refine ⟨none,w.app_none,(pre _).trans ((zae ((if_t ?_).trans (zae (zeM (d:=.lst (owns.map oD)) (ds:=[.non]) rfl rfl (zac (d:=.non) rfl zai) (zdV hlo))))).trans ?_)⟩
    ·by_cases z:c % (m + 1)=m
     ·rw [decide_eq_true z] at t1; exact or_t t1
     ·rw [decide_eq_false z] at t1
      rw [decide_eq_true (q.resolve_left z)] at t2
      exact (or_f t1).trans t2
    ·show Out.nx [_,_,_,some (D.lst (owns.map oD++[.non])),_,_]=_
     rw [List.map_append]; rfl
   ·have z1:¬ c % (m + 1)=m:=fun z=>q (.inl z)
    have z2:some (c % (m + 1))∉owns:=fun z=>q (.inr z)
    rw [decide_eq_false z1] at t1
    rw [decide_eq_false z2] at t2
    refine ⟨some (c % (m + 1)),w.app_some (by omega) z2,(pre _).trans ((zae ((if_f ((or_f t1).trans t2)).trans (zae (zeM (d:=.lst (owns.map oD)) (ds:=[nD (c % (m + 1))]) rfl rfl (zac (d:=nD (c % (m + 1))) rfl zai) (zdV hlo))))).trans ?_)⟩
    show Out.nx [_,_,_,some (D.lst (owns.map oD++[nD (c % (m + 1))])),_,_]=_
    rw [List.map_append]; rfl
  obtain ⟨o,w',hs⟩:=step
  obtain ⟨c',owns',x',y',h1,h2,h3⟩:=zj5 n m hm l (c / (m + 1)) (owns++[o]) (some (nD h)) (some (nD (c % (m + 1)))) w' (by simp at hl ⊢; omega)
  refine ⟨c',owns',x',y',h1,by rw [h2]; simp; omega,?_⟩
  rw [<-h3]
  exact zb1 (r1:=[some (nD c),some (nD n),some (nD m),some (.lst (owns.map oD)),some (nD h),y]) rfl hs
theorem zlx (c n m:Nat) (hn:n<=60) (hm:m<=60):∃owns:List (Option Nat),Own owns m/\owns.length=n/\zcU [nD c,nD n,nD m]=.ok (OD owns):=by
 obtain ⟨c',owns',x',y',h1,h2,h3⟩:=zj5 n m hm (List.range n) c [] none none ⟨fun x hx=>(nomatch hx),fun h k x e=>by unfold own at e; simp at e⟩ (by simp; omega)
 refine ⟨owns',h1,by rw [h2]; simp,zaQ (B:=zcZ) (n:=6) ?_⟩
 unfold zcZ
 refine (zae (zaC (d:=.lst []) (zbU zai (by simp)))).trans ?_
 refine (zae ((zaJ (ds:=(List.range n).map nD) (zfu (zac (d:=nD n) rfl zai) (zgY (by omega)))).trans h3)).trans ?_
 exact zap (zaA (zbA (zac (d:=.lst (owns'.map oD)) rfl zai) rfl))
end Law
namespace Law
open PySem PyProof.Rows L2 DL
theorem zfv {T:String} {fo:FE} {fl:Rho->Res (List D)} {k:D->List D->Option D} {r:Rho} {d d':D} {ds:List D} (h1:fo r=.ok d) (ht:tyM T d=true) (h2:fl r=.ok ds) (h3:k d ds=some d'):fM T fo fl k r=.ok d':=by
 unfold fM; rw [h1,bind_ok,if_pos ht,h2,bind_ok,h3]; rfl
theorem zfx:∀l l':List Nat,PyData.eqvAll (zcv (l.map nD)) (zcv (l'.map nD))=decide (l=l')
 | [],[]=>by simp [zcv,PyData.eqvAll]
 | [],k::l=>by simp [zcv,PyData.eqvAll]
 | k::l,[]=>by simp [zcv,PyData.eqvAll]
 | k::l,k'::l'=>by
  have ih:=zfx l l'
  simp only [List.map_cons,zcv,toPy,PyData.eqvAll,PyData.eqv,ih]
  rw [Bool.eq_iff_iff]
  simp
  omega
theorem zlq {l:List Nat} {k:Nat}:∀d∈l.map nD,Shp k d:=by
 intro d hd
 obtain ⟨x,_,rfl⟩:=List.mem_map.mp hd
 cases k <;> trivial
theorem zra (l l':List Nat):eqB (LN l) (LN l')=some (decide (l=l')):=by
 rw [zix rfl (zcG.mpr zlq) (zcG.mpr zlq)]
 unfold eqb
 simp only [toPy,PyData.eqv,zfx]
theorem zmX (l l':List Nat):neD (LN l) (LN l')=some (.bl (! decide (l=l'))):=by unfold neD; rw [zra]; rfl
theorem zdS {f:FE} {r:Rho} {i:Int} (h:f r=.ok (.int i)):zcy f r=.ok (some i):=by unfold zcy; rw [h]; rfl
end Law
namespace Law
open PySem PyProof.Rows L2 DL PySem.Builtin PySem.Builtin.Str
theorem zfV (x:Str) (l u:Option Int):Txt.slice x l u=StrLaws.sliceText x l u:=rfl
theorem zcF (x:Str):x.length=x.cps.toList.length:=by simp [Str.length]
theorem zjn {x y:Str} (h:x.cps.toList=y.cps.toList):x=y:=Str.ext' (Array.toList_inj.mp h)
theorem zfW {x:Str} (h:1<=x.length):(Txt.slice x none (some (-1))).cps.toList=x.cps.toList.take (x.length - 1):=by
 rw [zfV,StrLaws.sliceText_to_neg (by omega) (by omega)]
 simp
 congr 1
 omega
theorem ziN {x:Str} (h:1<=x.length):(Txt.slice x (some 1) none).cps.toList=x.cps.toList.drop 1:=by
 rw [zfV,StrLaws.sliceText_from ⟨by omega,by rw [<-zcF]; omega⟩]
 simp
 exact List.take_of_length_le (by simp)
theorem ziy (x:Str):Txt.endswith x "*" = (x.cps.toList.getLast? == some 42):=by
 unfold Txt.endswith
 have e:(("*" : Str)).length=1:=by decide +kernel
 have e2:(("*" : Str)).cps.toList=[42]:=by decide +kernel
 rw [StrLaws.subAt_eq,e,e2,zcF]
 generalize x.cps.toList=L
 cases hL:L.length with
 | zero=>rw [List.length_eq_zero_iff.mp hL]; rfl
 | succ n=>
  obtain ⟨d,hd⟩:∃d,L[n]? = some d:=⟨_,List.getElem?_eq_getElem (by omega)⟩
  have:(L.drop n).take 1=[d]:=by
   obtain ⟨h1,h2⟩:=List.getElem?_eq_some_iff.mp hd
   rw [List.drop_eq_getElem_cons h1,h2]; rfl
  rw [Nat.add_sub_cancel,this,List.getLast?_eq_getElem?,hL,Nat.add_sub_cancel,hd]
  simp
def cls:List Nat->Option (Nat × Bool)
 | [c]=>if 65<=c/\c<=72 then some (c - 65,false) else none
 | [c,d]=>if 65<=c/\c<=72/\d=42 then some (c - 65,true) else none
 | _=>none
theorem zoh:(("ABCDEFGH" : Str)).cps.toList=[65,66,67,68,69,70,71,72]:=by decide +kernel
theorem zkL (c:Nat):(!(occurrences "ABCDEFGH" ⟨#[c]⟩ 0 ((("ABCDEFGH" : Str)).length) 1).isEmpty)=decide (65<=c/\c<=72):=by
 rw [StrLaws.found_one,zoh,decide_eq_decide]
 simp
 omega
theorem zit (i n:Nat):(strSliceIndices (some (i:Int)) none 1 n).length<=n - i:=by
 unfold strSliceIndices sliceRange
 simp only [show (1:Int) > 0 by decide,if_true,List.length_map,List.length_range]
 split <;> (try split) <;> (try split) <;> (try simp only [Int.ediv_one]) <;> omega
theorem zqR (i n:Nat):(strSliceIndices none (some (i:Int)) 1 n).length<=i:=by
 unfold strSliceIndices sliceRange
 simp only [show (1:Int) > 0 by decide,if_true,List.length_map,List.length_range]
 split <;> (try split) <;> (try split) <;> (try simp only [Int.ediv_one]) <;> omega
theorem zfg (x:Str) (l u:Option Int):(Txt.slice x l u).length<=(strSliceIndices l u 1 x.length).length:=by
 unfold Txt.slice
 split
 ·rename_i h
  simp at h
  omega
 ·show (List.filterMap _ (strSliceIndices l u 1 x.length)).toArray.size<=_
  rw [List.size_toArray]
  exact List.length_filterMap_le _ _
theorem zis {y:Str}:∀{ps:List Str} {p:Str},p∈ps->p.length<=(Str.join y ps).length
 | [q],p,h=>by rw [List.mem_singleton.mp h]; exact Nat.le_refl _
 | q::r::s,p,h=>by
  have e:(Str.join y (q::r::s)).length=q.length + y.length + (Str.join y (r::s)).length:=by
   show (q++y++Str.join y (r::s)).length=_
   rw [Str.length_append,Str.length_append]
  rcases List.mem_cons.mp h with z | z
  ·rw [z]; omega
  ·have:=zis (y:=y) z; omega
theorem zhN {x y p:Str} (h:p∈Txt.split x y):p.length<=x.length:=by
 have:=zis (y:=y) h
 rw [StrLaws.join_split] at this
 exact this
def jl (y:List Nat):List (List Nat)->List Nat
 | []=>[]
 | [p]=>p
 | p::q::r=>p++(y++jl y (q::r))
theorem zm9 {c:Nat}:∀{p q r s:List Nat},c∉p->c∉q->p++c::r=q++c::s->p=q/\r=s
 | [],[],r,s,_,_,h=>⟨rfl,(List.cons.inj h).2⟩
 | [],b::q,r,s,_,hq,h=>absurd (List.cons.inj h).1 (fun e=>hq (by rw [e]; exact List.mem_cons_self))
 | a::p,[],r,s,hp,_,h=>absurd (List.cons.inj h).1 (fun e=>hp (by rw [<-e]; exact List.mem_cons_self))
 | a::p,b::q,r,s,hp,hq,h=>by
  obtain ⟨h1,h2⟩:=List.cons.inj h
  obtain ⟨e1,e2⟩:=zm9 (fun z=>hp (List.mem_cons_of_mem _ z)) (fun z=>hq (List.mem_cons_of_mem _ z)) h2
  exact ⟨by rw [h1,e1],e2⟩
theorem zm0 {c:Nat} {cs:List Nat}:∀{ps qs:List (List Nat)},ps≠[]->qs≠[]->(∀p∈ps,c∉p)->(∀q∈qs,c∉q)->jl (c::cs) ps=jl (c::cs) qs->ps=qs
 | [],_,h,_,_,_,_=>absurd rfl h
 | _::_,[],_,h,_,_,_=>absurd rfl h
 | [p],[q],_,_,_,_,h=>by rw [show p=q from h]
 | [p],q::q'::s,_,_,hp,_,h=>by
  have h:p=q++(c::cs++jl (c::cs) (q'::s)):=h
  exact absurd (by rw [h]; simp) (hp p List.mem_cons_self)
 | p::p'::r,[q],_,_,_,hq,h=>by
  have h:p++(c::cs++jl (c::cs) (p'::r))=q:=h
  exact absurd (by rw [<-h]; simp) (hq q List.mem_cons_self)
 | p::p'::r,q::q'::s,_,_,hp,hq,h=>by
  have h:p++c::(cs++jl (c::cs) (p'::r))=q++c::(cs++jl (c::cs) (q'::s)):=h
  obtain ⟨e1,e2⟩:=zm9 (hp p List.mem_cons_self) (hq q List.mem_cons_self) h
  have e3:=List.append_cancel_left e2
  rw [e1,zm0 (by simp) (by simp) (fun z hz=>hp z (List.mem_cons_of_mem _ hz)) (fun z hz=>hq z (List.mem_cons_of_mem _ hz)) e3]
theorem zqC {c:Nat} {cs:List Nat} (hcs:c∉cs):∀{ps:List (List Nat)},(∀p∈ps,c∉p)->∀k,(jl (c::cs) ps)[k]? = some c->((jl (c::cs) ps).drop k).take (c::cs).length=c::cs
 | [],_,k,h=>by simp [jl] at h
 | [p],hp,k,h=>absurd (List.mem_of_getElem? h) (hp p List.mem_cons_self)
 | p::q::r,hp,k,h=>by
  have e:jl (c::cs) (p::q::r)=p++((c::cs)++jl (c::cs) (q::r)):=rfl
  rw [e] at h ⊢
  by_cases h1:k < p.length
  ·rw [List.getElem?_append_left h1] at h
   exact absurd (List.mem_of_getElem? h) (hp p List.mem_cons_self)
  ·obtain ⟨j,rfl⟩:∃j,k=p.length + j:=⟨k - p.length,by omega⟩
   rw [List.getElem?_append_right (by omega),Nat.add_sub_cancel_left] at h
   rw [<-List.drop_drop,List.drop_left]
   by_cases h2:j < (c::cs).length
   ·rw [List.getElem?_append_left h2] at h
    cases j with
    | zero=>rw [List.drop_zero,List.take_left]
    | succ j=>
     rw [List.getElem?_cons_succ] at h
     exact absurd (List.mem_of_getElem? h) hcs
   ·obtain ⟨i,rfl⟩:∃i,j=(c::cs).length + i:=⟨j - (c::cs).length,by omega⟩
    rw [List.getElem?_append_right (by omega),Nat.add_sub_cancel_left] at h
    rw [<-List.drop_drop,List.drop_left]
    exact zqC hcs (fun z hz=>hp z (List.mem_cons_of_mem _ hz)) i h
theorem zfp (y:Str):∀ps:List Str,(Str.join y ps).cps.toList=jl y.cps.toList (ps.map fun p=>p.cps.toList)
 | []=>rfl
 | [p]=>rfl
 | p::q::r=>by
  have ih:=zfp y (q::r)
  show (p++y++Str.join y (q::r)).cps.toList=p.cps.toList++(y.cps.toList++jl y.cps.toList ((q::r).map fun p=>p.cps.toList))
  rw [<-ih]
  simp only [Str.cps_append,Array.toList_append,List.append_assoc]
theorem zl5 (x:Str):1<=Builtin.Str.strKind x:=by
 unfold Builtin.Str.strKind
 split
 ·exact Nat.le_refl _
 ·split <;> decide
section
variable {c:Nat} {x y:Str}
theorem zib {a b:Nat} (hA:∀k,x.cps.toList[k]? = some c->StrLaws.At x y x.length k) (hn:∀k,a<=k->k < b->¬ StrLaws.At x y x.length k):c∉(strSub x a b).cps.toList:=by
 intro hm
 rw [StrLaws.strSub_toList] at hm
 obtain ⟨j,hj⟩:=List.getElem?_of_mem hm
 have hlt:j < b - a:=by
  have h1:=(List.getElem?_eq_some_iff.mp hj).1
  simp at h1
  omega
 rw [List.getElem?_take_of_lt hlt,List.getElem?_drop] at hj
 exact hn (a + j) (by omega) (by omega) (hA _ hj)
theorem zhf (hA:∀k,x.cps.toList[k]? = some c->StrLaws.At x y x.length k):∀(cuts:List Nat) (a f:Nat),StrLaws.ChainG x y x.length a cuts f->(∀k,f<=k->¬ StrLaws.At x y x.length k)->∀p∈StrLaws.partsFrom x y.length a cuts,c∉p.cps.toList
 | [],a,f,h,hn,p,hp=>by
  have h:f=a:=h
  subst h
  rw [List.mem_singleton.mp hp]
  exact zib hA fun k h1 _=>hn k h1
 | d::r,a,f,h,hn,p,hp=>by
  rcases List.mem_cons.mp hp with e | e
  ·rw [e]
   exact zib hA h.2.2.1
  ·exact zhf hA r _ f h.2.2.2 hn p e
theorem ziM {cs:List Nat} (hy:y.cps.toList=c::cs) (hk:Builtin.Str.strKind y=1) (hcs:c∉cs) {ps:List Str} (hne:ps≠[]) (hf:∀p∈ps,c∉p.cps.toList):Txt.split (Str.join y ps) y=ps:=by
 have hl:y.length=(c::cs).length:=by rw [<-hy]; simp [Str.length]
 have hA:∀k,(Str.join y ps).cps.toList[k]? = some c->StrLaws.At (Str.join y ps) y (Str.join y ps).length k:=by
  intro k h
  rw [zfp,hy] at h
  have h2:=zqC hcs (fun p hp=>by obtain ⟨q,hq,rfl⟩:=List.mem_map.mp hp; exact hf q hq) k h
  rw [<-hy,<-zfp] at h2
  refine ⟨?_,?_⟩
  ·have h3:=congrArg List.length h2
   have h4:(Str.join y ps).cps.toList.length=(Str.join y ps).length:=by simp [Str.length]
   rw [List.length_take,List.length_drop,h4,hy,List.length_cons] at h3
   rw [hl,List.length_cons]
   omega
  ·rw [StrLaws.subAt_eq,hl,<-hy]
   rw [h2]
   exact beq_self_eq_true _
 have free:∀q∈Txt.split (Str.join y ps) y,c∉q.cps.toList:=by
  generalize Str.join y ps=x at hA
  have hpos:1<=y.length:=by rw [hl,List.length_cons]; omega
  have all:(∀k,¬ StrLaws.At x y x.length k)->c∉x.cps.toList:=fun h z=>by
   obtain ⟨j,hj⟩:=List.getElem?_of_mem z
   exact h j (hA j hj)
  obtain ⟨f,g1,g2⟩:=StrLaws.occ_tight x y hpos
  unfold Txt.split
  split
  ·rename_i h
   intro q hq
   rw [List.mem_singleton.mp hq]
   refine all fun k hk2=>?_
   have:=hk2.1
   have k1:=zl5 x
   simp only [Bool.or_eq_true,decide_eq_true_eq] at h
   omega
  ·split
   ·rename_i h
    intro q hq
    rw [List.mem_singleton.mp hq]
    rw [List.isEmpty_iff.mp h] at g1
    have g1:f=0:=g1
    exact all fun k=>g2 k (by omega)
   ·rw [StrLaws.partsBetween_eq]
    exact zhf hA _ 0 f g1 g2
 have ne:Txt.split (Str.join y ps) y≠[]:=by
  unfold Txt.split
  split
  ·simp
  ·split
   ·simp
   ·rw [StrLaws.partsBetween_eq]
    obtain ⟨p,r,e⟩:=StrLaws.partsFrom_ne (Str.join y ps) y.length 0 (occurrences (Str.join y ps) y 0 (Str.join y ps).length ((Str.join y ps).length + 1))
    rw [e]; simp
 have e:(Str.join y (Txt.split (Str.join y ps) y)).cps.toList=(Str.join y ps).cps.toList:=by rw [StrLaws.join_split]
 rw [zfp y (Txt.split (Str.join y ps) y),zfp y ps,hy] at e
 have e2:=zm0 (by simpa using ne) (by simpa using hne) (fun p hp=>by obtain ⟨q,hq,rfl⟩:=List.mem_map.mp hp; exact free q hq) (fun p hp=>by obtain ⟨q,hq,rfl⟩:=List.mem_map.mp hp; exact hf q hq) e
 exact (List.map_inj_right fun a b h=>Str.ext' (Array.toList_inj.mp h)).mp e2
end
end Law
namespace Law
open PySem PyProof.Rows L2 DL
abbrev letS (x:Nat):Str:=⟨#[65 + x]⟩
abbrev cl (w:Str):Option (Nat × Bool):=cls w.cps.toList
def lit (w:Str):Str:=if Txt.endswith w "*" = true then Txt.slice w none (some (-1)) else w
theorem zmY {w:Str} {l:List Nat} (h:w.cps.toList=l):w=⟨l.toArray⟩:=StrLaws.mk_of_toList h
theorem cls_some {L:List Nat} {x:Nat} {b:Bool} (h:cls L=some (x,b)):x < 8/\L=(65 + x)::(if b=true then [42] else []):=by
 unfold cls at h
 split at h
 ·split at h
  ·rename_i c hc
   cases h
   exact ⟨by omega,by rw [if_neg Bool.false_ne_true]; congr 1; omega⟩
  ·cases h
 ·split at h
  ·rename_i c d hc
   cases h
   obtain ⟨h1,h2,rfl⟩:=hc
   exact ⟨by omega,by rw [if_pos rfl]; congr 1; omega⟩
  ·cases h
 ·cases h
theorem zhY {w:Str} {x:Nat} {b:Bool} (h:cl w=some (x,b)):Txt.endswith w "*" = b:=by
 obtain ⟨hx,e⟩:=cls_some h
 rw [ziy,e]
 cases b with
 | true=>rfl
 | false=>
  show (some (65 + x) == some 42)=false
  rw [beq_eq_false_iff_ne]
  intro z
  have:=Option.some.inj z
  omega
theorem zkr {w:Str} {x:Nat} {b:Bool} (h:cl w=some (x,b)):lit w=letS x:=by
 have he:=zhY h
 obtain ⟨hx,e⟩:=cls_some h
 unfold lit
 rw [he]
 cases b with
 | true=>
  rw [if_pos rfl]
  refine zjn ?_
  have hl:w.length=2:=by rw [zcF,e]; rfl
  rw [zfW (by omega),hl,e]; rfl
 | false=>rw [if_neg Bool.false_ne_true]; exact zmY e
theorem zog (w:Str) (hw:cl w=none) (h:(lit w).length=1):∃c,lit w=⟨#[c]⟩/\¬ (65<=c/\c<=72):=by
 have hl:(lit w).cps.toList.length=1:=by rw [<-zcF]; exact h
 obtain ⟨c,hc⟩:=List.length_eq_one_iff.mp hl
 refine ⟨c,zmY hc,fun hr=>?_⟩
 unfold lit at hc
 split at hc
 ·rename_i he
  rw [ziy] at he
  have hp:1<=w.length:=by
   rw [zcF]
   cases q:w.cps.toList with
   | nil=>rw [q] at he; cases he
   | cons a l=>simp
  rw [zfW hp] at hc
  have hn:w.length=2:=by
   have:=congrArg List.length hc
   rw [List.length_take,<-zcF,List.length_singleton] at this
   omega
  rw [hn] at hc
  have hlen:w.cps.toList.length=2:=by rw [<-zcF]; exact hn
  unfold cl at hw
  match q:w.cps.toList,hlen with
  | [a,d],_=>
   rw [q] at hc he hw
   have:a=c:=(List.cons.inj hc).1
   subst this
   have hd:d=42:=by simpa using he
   subst hd
   simp only [cls,hr,and_self,if_true] at hw
   exact absurd hw (by simp)
 ·unfold cl at hw
  rw [hc] at hw
  simp only [cls,hr,and_self,if_true] at hw
  exact absurd hw (by simp)
theorem zdQ (w:Str):zaL [.str w]=.ok (.bl (Txt.endswith w "*")):=by
 refine zaQ (B:=zcp) (n:=1) ?_
 unfold zcp
 exact zap (zaA (zfv (d:=.str w) (ds:=[.str "*"]) rfl rfl rfl rfl))
theorem zfY {fa:FE} {fl fh:FP} {r:Rho} {d d':D} {lo hi:Option Int} (h1:fa r=.ok d) (h2:fl r=.ok lo) (h3:fh r=.ok hi) (h4:slX d lo hi=some d'):fSlX fa fl fh r=.ok d':=by
 unfold fSlX; rw [h1,bind_ok,h2,bind_ok,h3,bind_ok,h4]; rfl
theorem zeq {a:Str} (lo hi:Option Int) (h:a.length<=1000):slX (.str a) lo hi=some (.str (Txt.slice a lo hi)):=by
 show (if a.length<=10000 then some (D.str (Txt.slice a lo hi)) else none)=_
 rw [if_pos (by omega)]
theorem zhw {a b:Str} (h1:0 < b.length) (h2:a.length<=10000):zdE (.str a) [.str b]=some (.lst ((Txt.split a b).map D.str)):=by
 show (if 0 < b.length/\a.length<=10000 then some (D.lst ((Txt.split a b).map D.str)) else none)=_
 rw [if_pos ⟨h1,h2⟩]
theorem zet {w:Str} (h:w.length<=1000):zbk [.str w]=.ok (.str (lit w)):=by
 refine zaQ (B:=zcW) (n:=1) ?_
 unfold zcW
 refine zap (zaA ?_)
 have t:fTru (zaz (zab (gv 0) lNil) [] zaL) [some (.str w)]=.ok (Txt.endswith w "*"):=zbr (d:=.bl (Txt.endswith w "*")) (zau (zac (d:=.str w) rfl zai) (zdQ w)) rfl
 unfold lit
 by_cases c:Txt.endswith w "*" = true
 ·rw [c] at t
  rw [if_pos c]
  exact (zsh t).trans (zfY (d:=.str w) (lo:=none) (hi:=some (-1)) rfl rfl (zdS (i:=-1) rfl) (zeq _ _ h))
 ·rw [if_neg c]
  have:Txt.endswith w "*" = false:=by simpa using c
  rw [this] at t
  exact (zsi t).trans rfl
theorem zqs (w:Str):(lit w).length<=w.length:=by
 unfold lit
 split
 ·exact Txt.slice_le w _ _
 ·exact Nat.le_refl _
theorem zm1 (c:Nat):inD (.str ⟨#[c]⟩) (.str "ABCDEFGH")=some (.bl (decide (65<=c/\c<=72))):=by
 show (some (!(Builtin.Str.occurrences "ABCDEFGH" ⟨#[c]⟩ 0 ((("ABCDEFGH" : Str)).length) 1).isEmpty)).map D.bl=_
 rw [zkL]; rfl
theorem zki (c:Nat):ninD (.str ⟨#[c]⟩) (.str "ABCDEFGH")=some (.bl (! decide (65<=c/\c<=72))):=by
 show (some (!(Builtin.Str.occurrences "ABCDEFGH" ⟨#[c]⟩ 0 ((("ABCDEFGH" : Str)).length) 1).isEmpty)).map (fun b=>D.bl (! b))=_
 rw [zkL]; rfl
theorem zoj {w:Str} (h:w.length<=1000):lenD [.str w]=some (nD w.length):=by
 show (if w.length<=sizeLine then some (D.int (w.length:Int)) else none)=_
 rw [if_pos (by rw [sizeLine_eq]; omega)]
theorem ziS {w:Str} (h:w.length<=1000):zdq [.str w]=.ok (.bl (cl w).isSome):=by
 refine zaQ (B:=zeo) (n:=2) ?_
 unfold zeo
 refine (zae (r':=[some (.str w),some (.str (lit w))]) (zaC (zau (zac (d:=.str w) rfl zai) (zet h)))).trans (zap (zaA ?_))
 have hl:=zqs w
 have t:f2 (fC (zab (gv 1) lNil) lenD) (ci 1) eqD [some (.str w),some (.str (lit w))]=.ok (.bl (decide ((lit w).length=1))):=zan (a:=nD (lit w).length) (b:=nD 1) (zbA (zac (d:=.str (lit w)) rfl zai) (zoj (by omega))) rfl (zhk _ _)
 cases hc:cl w with
 | some p=>
  obtain ⟨x,b⟩:=p
  have hx:=(cls_some hc).1
  have e:=zkr hc
  rw [e] at t ⊢
  rw [decide_eq_true (show (letS x).length=1 from rfl)] at t
  refine (ze8 t).trans (zan (a:=.str (letS x)) (b:=.str "ABCDEFGH") rfl rfl ?_)
  rw [zm1,decide_eq_true (by omega)]; rfl
 | none=>
  by_cases h1:(lit w).length=1
  ·obtain ⟨c,e,hr⟩:=zog w hc h1
   rw [decide_eq_true h1] at t
   rw [e] at t ⊢
   refine (ze8 t).trans (zan (a:=.str ⟨#[c]⟩) (b:=.str "ABCDEFGH") rfl rfl ?_)
   rw [zm1,decide_eq_false hr]; rfl
  ·rw [decide_eq_false h1] at t
   exact zgJ t
theorem by8 {p:Nat->Prop} (h0:p 0) (h1:p 1) (h2:p 2) (h3:p 3) (h4:p 4) (h5:p 5) (h6:p 6) (h7:p 7) {x:Nat} (h:x < 8):p x:=by
 match x,h with
 | 0,_=>exact h0
 | 1,_=>exact h1
 | 2,_=>exact h2
 | 3,_=>exact h3
 | 4,_=>exact h4
 | 5,_=>exact h5
 | 6,_=>exact h6
 | 7,_=>exact h7
theorem zgi {x:Nat} (h:x < 8):zhE (.str "ABCDEFGH") [.str (letS x)]=some (nD x):=
 by8 (p:=fun x=>zhE (.str "ABCDEFGH") [.str (letS x)]=some (nD x)) (by kernel_rfl) (by kernel_rfl) (by kernel_rfl) (by kernel_rfl) (by kernel_rfl) (by kernel_rfl) (by kernel_rfl) (by kernel_rfl) h
def pc:List Str->Option (List (Nat × Bool))
 | []=>some []
 | w::ws=>(cl w).bind fun p=>(pc ws).map (p::·)
theorem zdR {w:Str} {ws:List Str} {l:List (Nat × Bool)} (h:pc (w::ws)=some l):∃p l',cl w=some p/\pc ws=some l'/\l=p::l':=by
 unfold pc at h
 cases e:cl w with
 | none=>rw [e] at h; cases h
 | some p=>
  rw [e] at h
  have h:(pc ws).map (p::·)=some l:=h
  cases e2:pc ws with
  | none=>rw [e2] at h; cases h
  | some l'=>rw [e2] at h; cases h; exact ⟨p,l',rfl,rfl,rfl⟩
theorem znS {ws:List Str} (h:pc ws=none):∃w∈ws,cl w=none:=by
 induction ws with
 | nil=>cases h
 | cons w ws ih=>
  unfold pc at h
  cases e:cl w with
  | none=>exact ⟨w,List.mem_cons_self,e⟩
  | some p=>
   rw [e] at h
   have h:(pc ws).map (p::·)=none:=h
   obtain ⟨z,h1,h2⟩:=ih (by simpa using h)
   exact ⟨z,List.mem_cons_of_mem _ h1,h2⟩
theorem zj0 {ws:List Str}:∀{l:List (Nat × Bool)},pc ws=some l->(ws.filter fun w=>Txt.endswith w "*").length=(l.filter (·.2)).length/\l.length=ws.length/\∀p∈l,p.1 < 8:=by
 induction ws with
 | nil=>intro l h; cases h; simp
 | cons w ws ih=>
  intro l h
  obtain ⟨p,l',h1,h2,rfl⟩:=zdR h
  obtain ⟨x,b⟩:=p
  obtain ⟨i1,i2,i3⟩:=ih h2
  refine ⟨?_,by simp [i2],fun q hq=>?_⟩
  ·rw [List.filter_cons,List.filter_cons,zhY h1]
   cases b <;> simp [i1]
  ·rcases List.mem_cons.mp hq with z | z
   ·rw [z]; exact (cls_some h1).1
   ·exact i3 q z
def gp (ws:List Str):Option (List (Nat × Bool)):=match pc ws with
 | some l=>if (l.filter (·.2)).length < 2 then some l else none
 | none=>none
abbrev WL (ws:List Str):D:=.lst (ws.map D.str)
theorem zrh {α:Type} (p:α->Bool):∀l:List α,zgF (l.map fun x=>D.bl (p x))=some (l.map p)
 | []=>rfl
 | x::l=>by
  show (zgF (l.map fun x=>D.bl (p x))).map _=_
  rw [zrh p l]; rfl
theorem ziT {ws:List Str} (hw:∀w∈ws,w.length<=1000) (hl:ws.length<=1000):zdr [WL ws]=.ok (.bl (gp ws).isSome):=by
 refine zaQ (B:=zep) (n:=2) ?_
 unfold zep
 refine (zae (r':=[some (WL ws),some (.lst ((ws.filter fun w=>Txt.endswith w "*").map D.str))]) (zaC (zcJ (l:=ws) D.str (fun w=>Txt.endswith w "*") D.str (zc2 (d:=WL ws) rfl rfl) hl fun w hx=>⟨[some (.str w)],rfl,zbr (d:=.bl (Txt.endswith w "*")) (zau (zac (d:=.str w) rfl zai) (zdQ w)) rfl,fun _=>rfl⟩))).trans (zap (zaA ?_))
 have t:f2 (fC (zab (gv 1) lNil) lenD) (ci 2) ltI [some (WL ws),some (.lst ((ws.filter fun w=>Txt.endswith w "*").map D.str))]=.ok (.bl (decide ((ws.filter fun w=>Txt.endswith w "*").length < 2))):=zan (a:=nD (ws.filter fun w=>Txt.endswith w "*").length) (b:=nD 2) (zbA (zac (d:=.lst ((ws.filter fun w=>Txt.endswith w "*").map D.str)) rfl zai) (zcn _ _)) rfl (zi0 _ _)
 have al:fC (zab (zbZ 1 [] (fSeq zbf (gv 0)) (ftN 0) (fun _=>Res.ok true) (zaz (zab (gv 0) lNil) [] zdq)) lNil) allD [some (WL ws),some (.lst ((ws.filter fun w=>Txt.endswith w "*").map D.str))]=.ok (.bl ((ws.map fun w=>(cl w).isSome).all id)):=by
  refine zbA (zac ((zcJ (l:=ws) D.str (fun _=>true) (fun w=>.bl (cl w).isSome) (zc2 (d:=WL ws) rfl rfl) hl fun w hx=>⟨[some (.str w)],rfl,rfl,fun _=>zau (zac (d:=.str w) rfl zai) (ziS (hw w hx))⟩).trans (by rw [zbV])) zai) ?_
  show (zgF _).map (fun bs=>D.bl (bs.all id))=_
  rw [zrh]; rfl
 unfold gp
 cases e:pc ws with
 | none=>
  obtain ⟨w,h1,h2⟩:=znS e
  have:((ws.map fun w=>(cl w).isSome).all id)=false:=by
   rw [List.all_eq_false]
   exact ⟨false,List.mem_map.mpr ⟨w,h1,by rw [h2]; rfl⟩,by simp⟩
  rw [this] at al
  by_cases c:(ws.filter fun w=>Txt.endswith w "*").length < 2
  ·rw [decide_eq_true c] at t; exact (ze8 t).trans al
  ·rw [decide_eq_false c] at t; exact zgJ t
 | some l=>
  obtain ⟨h1,h2,h3⟩:=zj0 e
  rw [h1] at t
  show _=Res.ok (D.bl (if (l.filter (·.2)).length < 2 then some l else none).isSome)
  by_cases c:(l.filter (·.2)).length < 2
  ·rw [decide_eq_true c] at t
   rw [if_pos c]
   refine (ze8 t).trans (al.trans ?_)
   have:∀(ws:List Str) (l:List (Nat × Bool)),pc ws=some l->((ws.map fun w=>(cl w).isSome).all id)=true:=by
    intro ws
    induction ws with
    | nil=>intro l _; rfl
    | cons w ws ih=>
     intro l h
     obtain ⟨p,l',g1,g2,_⟩:=zdR h
     rw [List.map_cons,List.all_cons,ih l' g2,g1]; rfl
   rw [this ws l e]; rfl
  ·rw [decide_eq_false c] at t
   rw [if_neg c]
   exact zgJ t
theorem zjD {ws:List Str} {l:List (Nat × Bool)} (h:pc ws=some l) (hw:∀w∈ws,w.length<=1000) (hl:ws.length<=1000):zcQ [WL ws]=.ok (LN (l.map (·.1))):=by
 have key:∀w∈ws,∃x,∃b,cl w=some (x,b):=by
  intro w hx
  have:∀(ws:List Str) (l:List (Nat × Bool)),pc ws=some l->∀w∈ws,∃x,∃b,cl w=some (x,b):=by
   intro ws
   induction ws with
   | nil=>intro l _ w hw; cases hw
   | cons z ws ih=>
    intro l h w hw
    obtain ⟨p,l',g1,g2,_⟩:=zdR h
    rcases List.mem_cons.mp hw with e | e
    ·exact ⟨p.1,p.2,by rw [e]; exact g1⟩
    ·exact ih l' g2 w e
  exact this ws l h w hx
 refine zaQ (B:=ze6) (n:=1) ?_
 unfold ze6
 refine zap (zaA ((zcJ (l:=ws) D.str (fun _=>true) (fun w=>nD (((cl w).map (·.1)).getD 0)) (zc2 (d:=WL ws) rfl rfl) hl fun w hx=>⟨[some (.str w)],rfl,rfl,fun _=>?_⟩).trans ?_))
 ·obtain ⟨x,b,e⟩:=key w hx
  refine zfv (d:=.str "ABCDEFGH") rfl rfl (zac (d:=.str (lit w)) (zau (zac (d:=.str w) rfl zai) (zet (hw w hx))) zai) ?_
  rw [zkr e,zgi (cls_some e).1,e]; rfl
 ·rw [zbV]
  congr 2
  have:∀(ws:List Str) (l:List (Nat × Bool)),pc ws=some l->(ws.map fun w=>nD (((cl w).map (·.1)).getD 0))=(l.map (·.1)).map nD:=by
   intro ws
   induction ws with
   | nil=>intro l h; cases h; rfl
   | cons z ws ih=>
    intro l h
    obtain ⟨p,l',g1,g2,rfl⟩:=zdR h
    rw [List.map_cons,List.map_cons,List.map_cons,ih l' g2,g1]; rfl
  exact this ws l h
def firstS (l:List (Nat × Bool)):Option Nat:=((l.filter (·.2)).map (·.1)).head?
theorem zkb {W:D}:∀(ws:List Str) (l:List (Nat × Bool)) (x1:Option D),pc ws=some l->(∀w∈ws,w.length<=1000) ->
  (∀y,firstS l=some y->forF (ftN 1) zcA (ws.map D.str) [some W,x1]=.rt (nD y))/\(firstS l=none->∃y1,forF (ftN 1) zcA (ws.map D.str) [some W,x1]=.nx [some W,y1])
 | [],l,x1,h,_=>by cases h; exact ⟨fun y h=>(nomatch h),fun _=>⟨x1,zbt⟩⟩
 | w::ws,l,x1,h,hw=>by
  obtain ⟨p,l',g1,g2,rfl⟩:=zdR h
  obtain ⟨x,b⟩:=p
  obtain ⟨i1,i2⟩:=zkb (W:=W) ws l' (some (.str w)) g2 fun z hz=>hw z (List.mem_cons_of_mem _ hz)
  have t:fTru (zaz (zab (gv 1) lNil) [] zaL) [some W,some (.str w)]=.ok b:=zbr (d:=.bl b) (zau (zac (d:=.str w) rfl zai) (by rw [List.append_nil,zdQ,zhY g1])) rfl
  cases b with
  | true=>
   refine ⟨fun y ey=>?_,fun h=>nomatch h⟩
   have:x=y:=Option.some.inj ey
   subst this
   refine zf5 (r1:=[some W,some (.str w)]) rfl (zap ((if_t t).trans (zap (zaA ?_))))
   refine zfv (d:=.str "ABCDEFGH") rfl rfl (zac (d:=.str (lit w)) (zau (zac (d:=.str w) rfl zai) (zet (hw w List.mem_cons_self))) zai) ?_
   rw [zkr g1,zgi (cls_some g1).1]
  | false=>
   have st:forF (ftN 1) zcA ((w::ws).map D.str) [some W,x1]=forF (ftN 1) zcA (ws.map D.str) [some W,some (.str w)]:=
    zb1 (r1:=[some W,some (.str w)]) rfl (zae ((if_f t).trans (e_skip _)))
   rw [st]
   exact ⟨i1,i2⟩
theorem zjE {ws:List Str} {l:List (Nat × Bool)} (h:pc ws=some l) (hw:∀w∈ws,w.length<=1000):zcR [WL ws]=.ok (oD (firstS l)):=by
 obtain ⟨i1,i2⟩:=zkb (W:=WL ws) ws l none h hw
 refine zaQ (B:=ze7) (n:=2) ?_
 unfold ze7
 cases e:firstS l with
 | none=>
  obtain ⟨y1,h⟩:=i2 e
  exact (zae ((zaJ (zc2 (d:=WL ws) rfl rfl)).trans h)).trans (zap (zaA rfl))
 | some y=>exact zap ((zaJ (zc2 (d:=WL ws) rfl rfl)).trans (i1 y e))
theorem zos {w:Str} {c:Nat} {L:List Nat} (h:w.cps.toList=c::L) (hl:w.length<=1000):ixA (.str w) (.int 0)=some (.str ⟨#[c]⟩):=by
 show (if w.length<=sizeLine then (atI w.cps.toList 0).map fun c=>D.str ⟨#[c]⟩ else none)=_
 rw [if_pos (by rw [sizeLine_eq]; omega),h]
 have e:atI (c::L) 0=some c:=by
  unfold atI ixN
  rw [if_pos (by omega),if_pos (by rw [List.length_cons]; omega)]
  rfl
 rw [e]; rfl
theorem zkh (t:Str):ninD (.str t) (.tup [.str "",.str "*"])=some (.bl (!(("" == t) || ("*" == t)))):=by
 show (if zcs (.str t)=true/\([.str "",.str "*"]:List D).all zcs=true then some (([.str "",.str "*"]:List D).any fun y=>eqs y (.str t)) else none).map (fun b=>D.bl (! b))=_
 rw [if_pos ⟨rfl,rfl⟩]
 simp [eqs,eqV,toV]
theorem zia {w:Str} {c:Nat} {L:List Nat} (h:w.cps.toList=c::L) (hr:65<=c/\c<=72):(Txt.slice w (some 1) none).cps.toList=L:=by
 have hl:1<=w.length:=by rw [zcF,h]; simp
 rw [ziN hl,h]; rfl
theorem zhZ {t:Str}:(("" : Str) == t)=decide (t.cps.toList=[]):=by
 rw [Bool.eq_iff_iff,beq_iff_eq,decide_eq_true_eq]
 exact ⟨fun h=>by rw [<-h]; rfl,fun h=>(zjn (by rw [h]; rfl)).symm⟩
theorem zgg {t:Str}:(("*" : Str) == t)=decide (t.cps.toList=[42]):=by
 have e:(("*" : Str)).cps.toList=[42]:=by kernel_rfl
 rw [Bool.eq_iff_iff,beq_iff_eq,decide_eq_true_eq]
 exact ⟨fun h=>by rw [<-h]; exact e,fun h=>(zjn (by rw [h,e])).symm⟩
theorem zkB {A:List D} {z:D} (h:A[A.length - 1]? = some z):ixA (.lst A) (.int (-1))=some z:=by
 have hl:A.length - 1 < A.length:=(List.getElem?_eq_some_iff.mp h).1
 show atI A (-1)=some z
 unfold atI ixN
 rw [if_neg (by omega),if_pos (by omega)]
 show A[(-1 + (A.length:Int)).toNat]? = _
 rw [show (-1 + (A.length:Int)).toNat=A.length - 1 by omega,h]
section
variable {P:D} {w:Str} {row owned:List Nat}
theorem zpb (hl:w.length<=1000):fTest (f2 (gv 3) (fun _=>Res.ok (D.str "")) eqD) [some P,some (LN row),some (LN owned),some (.str w)]=.ok (decide (w.cps.toList=[])):=by
 refine zav (zan (a:=.str w) (b:=.str "") rfl rfl ?_)
 unfold eqD
 rw [eqB_str]
 show some (D.bl (w == ""))=_
 rw [show (w == "")=(("" : Str) == w) by rw [Bool.eq_iff_iff,beq_iff_eq,beq_iff_eq]; exact ⟨Eq.symm,Eq.symm⟩,zhZ]
theorem zqr (hl:w.length<=1000) (h:cl w=none):za5 [some P,some (LN row),some (LN owned),some (.str w)]=.rt .non:=by
 refine zap ((if_t ?_).trans (zap (zaA rfl)))
 have t:=zpb (P:=P) (row:=row) (owned:=owned) hl
 cases q:w.cps.toList with
 | nil=>rw [q] at t; exact or_t t
 | cons c L=>
  rw [q,decide_eq_false (by simp)] at t
  refine (or_f t).trans ?_
  have t2:fTest (f2 (f2 (gv 3) (ci 0) ixA) (fun _=>Res.ok (D.str "ABCDEFGH")) ninD) [some P,some (LN row),some (LN owned),some (.str w)]=.ok (! decide (65<=c/\c<=72)):=zav (zan (a:=.str ⟨#[c]⟩) (b:=.str "ABCDEFGH") (zan (a:=.str w) (b:=.int 0) rfl rfl (zos q hl)) rfl (zki c))
  by_cases hr:65<=c/\c<=72
  ·rw [decide_eq_true hr] at t2
   refine (or_f t2).trans (zav (zan (a:=.str (Txt.slice w (some 1) none)) (b:=.tup [.str "",.str "*"]) (zfY (d:=.str w) (lo:=some 1) (hi:=none) rfl (zdS (i:=1) rfl) rfl (zeq _ _ hl)) (zc4 (zac (d:=.str "") rfl (zac (d:=.str "*") rfl zai)) (by simp)) ?_))
   rw [zkh,zhZ,zgg,zia q hr]
   have h1:L≠[]:=by rintro rfl; unfold cl at h; rw [q] at h; simp [cls,hr] at h
   have h2:L≠[42]:=by rintro rfl; unfold cl at h; rw [q] at h; simp [cls,hr] at h
   rw [decide_eq_false h1,decide_eq_false h2]; rfl
  ·rw [decide_eq_false hr] at t2
   exact or_t t2
theorem zoe {x:Nat} {b:Bool} (hl:w.length<=1000) (h:cl w=some (x,b)) (hn:row.length<=500) (ho:owned.length<=500):za5 [some P,some (LN row),some (LN owned),some (.str w)]=.nx [some P,some (LN (row++[x])),some (LN (owned++if b=true then [x] else [])),some (.str w)]:=by
 obtain ⟨hx,q⟩:=cls_some h
 have hr:65<=65 + x/\65 + x<=72:=by omega
 have t:=zpb (P:=P) (row:=row) (owned:=owned) hl
 rw [q,decide_eq_false (by simp)] at t
 have t2:fTest (f2 (f2 (gv 3) (ci 0) ixA) (fun _=>Res.ok (D.str "ABCDEFGH")) ninD) [some P,some (LN row),some (LN owned),some (.str w)]=.ok (! decide (65<=65 + x/\65 + x<=72)):=zav (zan (a:=.str ⟨#[65 + x]⟩) (b:=.str "ABCDEFGH") (zan (a:=.str w) (b:=.int 0) rfl rfl (zos q hl)) rfl (zki _))
 rw [decide_eq_true hr] at t2
 have sl:∀(r1 r2:List Nat),fSlX (gv 3) (zcy (ci 1)) (fun _=>Res.ok none) [some P,some (LN r1),some (LN r2),some (.str w)]=.ok (.str (Txt.slice w (some 1) none)):=fun r1 r2=>zfY (d:=.str w) (lo:=some 1) (hi:=none) rfl (zdS (i:=1) rfl) rfl (zeq _ _ hl)
 have et:=zia q hr
 refine (zae ((if_f ((or_f t).trans ((or_f t2).trans (zav (zan (a:=.str (Txt.slice w (some 1) none)) (b:=.tup [.str "",.str "*"]) (d:=.bl false) (sl _ _) (zc4 (zac (d:=.str "") rfl (zac (d:=.str "*") rfl zai)) (by simp)) ?_))))).trans (e_skip _))).trans ?_
 ·rw [zkh,zhZ,zgg,et]
  cases b <;> rfl
 refine (zae (r':=[some P,some (LN (row++[x])),some (LN owned),some (.str w)]) ?_).trans (zae ?_)
 ·refine (zeM (d:=LN row) (ds:=[nD x]) (d':=.lst (row.map nD++[nD x])) rfl rfl (zac (zfv (d:=.str "ABCDEFGH") rfl rfl (zac (d:=.str (letS x)) (zan (a:=.str w) (b:=.int 0) rfl rfl (zos q hl)) zai) (zgi hx)) zai) (zdV (by simp; omega))).trans (by show Out.nx [_,some (D.lst _),_,_]=_; rw [<-List.map_singleton,<-List.map_append])
 ·have ts:fTest (f2 (fSlX (gv 3) (zcy (ci 1)) (fun _=>Res.ok none)) (fun _=>Res.ok (D.str "*")) eqD) [some P,some (LN (row++[x])),some (LN owned),some (.str w)]=.ok b:=by
   refine zav (zan (a:=.str (Txt.slice w (some 1) none)) (b:=.str "*") (sl _ _) rfl ?_)
   unfold eqD
   rw [eqB_str]
   show some (D.bl (Txt.slice w (some 1) none == "*"))=_
   rw [show (Txt.slice w (some 1) none == "*")=(("*" : Str) == Txt.slice w (some 1) none) by rw [Bool.eq_iff_iff,beq_iff_eq,beq_iff_eq]; exact ⟨Eq.symm,Eq.symm⟩,zgg,et]
   cases b <;> rfl
  cases b with
  | false=>rw [if_neg Bool.false_ne_true,List.append_nil]; exact (if_f ts).trans (e_skip _)
  | true=>
   rw [if_pos rfl]
   refine (if_t ts).trans (zae ?_)
   refine (zeM (d:=LN owned) (ds:=[nD x]) (d':=.lst (owned.map nD++[nD x])) rfl rfl (zac (zan (a:=LN (row++[x])) (b:=.int (-1)) rfl rfl (zkB (by rw [List.map_append]; simp))) zai) (zdV (by simp; omega))).trans (by show Out.nx [_,_,some (D.lst _),_]=_; rw [<-List.map_singleton,<-List.map_append])
theorem zjS:∀(ws:List Str) (row owned:List Nat) (x3:Option D),(∀w∈ws,w.length<=1000)->row.length + ws.length<=500->owned.length + ws.length<=500 ->
  (∀l,pc ws=some l->∃y3,forF (ftN 3) za5 (ws.map D.str) [some P,some (LN row),some (LN owned),x3]=.nx [some P,some (LN (row++l.map (·.1))),some (LN (owned++(l.filter (·.2)).map (·.1))),y3]) /\
  (pc ws=none->forF (ftN 3) za5 (ws.map D.str) [some P,some (LN row),some (LN owned),x3]=.rt .non)
 | [],row,owned,x3,_,_,_=>⟨fun l h=>by cases h; exact ⟨x3,by simp only [List.map_nil,List.filter_nil,List.append_nil]; exact zbt⟩,fun h=>nomatch h⟩
 | w::ws,row,owned,x3,hw,h1,h2=>by
  simp only [List.length_cons] at h1 h2
  have hl:=hw w List.mem_cons_self
  cases e:cl w with
  | none=>
   refine ⟨fun l h=>?_,fun _=>zf5 (r1:=[some P,some (LN row),some (LN owned),some (.str w)]) rfl (zqr hl e)⟩
   obtain ⟨p,l',g1,_⟩:=zdR h
   rw [e] at g1; cases g1
  | some p=>
   obtain ⟨x,b⟩:=p
   have st:forF (ftN 3) za5 ((w::ws).map D.str) [some P,some (LN row),some (LN owned),x3]=forF (ftN 3) za5 (ws.map D.str) [some P,some (LN (row++[x])),some (LN (owned++if b=true then [x] else [])),some (.str w)]:=
    zb1 (r1:=[some P,some (LN row),some (LN owned),some (.str w)]) rfl (zoe hl e (by omega) (by omega))
   obtain ⟨i1,i2⟩:=zjS ws (row++[x]) (owned++if b=true then [x] else []) (some (.str w)) (fun z hz=>hw z (List.mem_cons_of_mem _ hz)) (by simp; omega) (by cases b <;> simp <;> omega)
   rw [st]
   refine ⟨fun l h=>?_,fun h=>i2 ?_⟩
   ·obtain ⟨p,l',g1,g2,rfl⟩:=zdR h
    rw [e] at g1; cases g1
    obtain ⟨y3,i⟩:=i1 l' g2
    refine ⟨y3,i.trans ?_⟩
    cases b <;> simp
   ·unfold pc at h
    rw [e] at h
    have h:(pc ws).map ((x,b)::·)=none:=h
    simpa using h
end
def lpD:Option (List (Nat × Bool))->D
 | none=>.non
 | some l=>.tup [LN (l.map (·.1)),LN ((l.filter (·.2)).map (·.1))]
theorem zjG {p:Str} (hp:p.length<=400) (hw:∀w∈Txt.split p " ",w.length<=1000) (hl:(Txt.split p " ").length<=500):zcT [.str p]=.ok (lpD (gp (Txt.split p " "))):=by
 have sp:fSeq zbf (fM "str" (gv 0) (zab (fun _=>Res.ok (D.str " ")) lNil) zdE) [some (.str p),some (LN []),some (LN []),none]=.ok ((Txt.split p " ").map D.str):=by
  refine zc2 (d:=.lst ((Txt.split p " ").map D.str)) (zfv (d:=.str p) rfl rfl (zac (d:=.str " ") rfl zai) ?_) rfl
  exact zhw (by decide +kernel) (by omega)
 obtain ⟨i1,i2⟩:=zjS (P:=.str p) (Txt.split p " ") [] [] none hw (by simpa using hl) (by simpa using hl)
 refine zaQ (B:=zcY) (n:=4) ?_
 unfold zcY
 refine (zae (r':=[some (.str p),some (LN []),none,none]) (zaC (zbU zai (by simp)))).trans ?_
 refine (zae (r':=[some (.str p),some (LN []),some (LN []),none]) (zaC (zbU zai (by simp)))).trans ?_
 unfold gp
 cases e:pc (Txt.split p " ") with
 | none=>exact zap ((zaJ sp).trans (i2 e))
 | some l=>
  obtain ⟨y3,h⟩:=i1 l e
  rw [List.nil_append,List.nil_append] at h
  refine (zae ((zaJ sp).trans h)).trans ?_
  have t:fTest (f2 (fC (zab (gv 2) lNil) lenD) (ci 1) gtI) [some (.str p),some (LN (l.map (·.1))),some (LN ((l.filter (·.2)).map (·.1))),y3]=.ok (decide (1 < (l.filter (·.2)).length)):=zav (zan (a:=nD (l.filter (·.2)).length) (b:=nD 1) (zbA (zac (d:=LN ((l.filter (·.2)).map (·.1))) rfl zai) (by rw [zcn,List.length_map])) rfl (zi7 _ _))
  show _=Out.rt (lpD (if (l.filter (·.2)).length < 2 then some l else none))
  by_cases c:(l.filter (·.2)).length < 2
  ·rw [decide_eq_false (by omega)] at t
   rw [if_pos c]
   exact (zae ((if_f t).trans (e_skip _))).trans (zap (zaA (zc4 (zac (d:=LN (l.map (·.1))) rfl (zac (d:=LN ((l.filter (·.2)).map (·.1))) rfl zai)) (by simp))))
  ·rw [decide_eq_true (by omega)] at t
   rw [if_neg c]
   exact zap ((if_t t).trans (zap (zaA rfl)))
theorem zaX {s1 s2:FS} {r r':Rho} {x:D} (h:s1 r=.exc x r'):seqF s1 s2 r=.exc x r':=by unfold seqF; rw [h]
theorem zcI {B:FS} {n:Nat} {ds:List D} {x:D} {r':Rho} (h:B (zao n ds)=.exc x r'):outR false (B (zao n ds))=.exc x:=by rw [h]; rfl
theorem zii {m:List Md} {nm f:Str} {fl:Rho->Res (List D)} {r:Rho} {i:Int} (h:fl r=.ok [.int i]) (hi:i.natAbs.log2 < 64):zg0 m nm f fl r=.exc (xD nm [(f,.int i)]) (forget m r):=by
 unfold zg0
 rw [h,onE_ok]
 show (if i.natAbs.log2 < 64 then _ else _)=_
 rw [if_pos hi]
theorem zjL {m:List Md} {nm:Str} {fl:Rho->Res (List D)} {r:Rho} {d:D} (h:fl r=.ok [d]):raiF m nm fl r=.exc (xD nm []) (forget m r):=by
 unfold raiF
 rw [h,onE_ok]
 rfl
theorem zfm {k:Nat} (h:k<=60):((k:Nat):Int).natAbs.log2 < 64:=by
 rw [Int.natAbs_natCast]
 have:=Nat.log2_le_self k
 omega
theorem zhX {ft:FT} {b:FS} {r r1 r':Rho} {d v:D} {ds:List D} (h1:ft d r=some r1) (h2:b r1=.exc v r'):forF ft b (d::ds) r=.exc v r':=by
 unfold forF
 simp only [h1,h2]
theorem zb4 {fl:Rho->Res (List D)} {zs:List D} {F:List D->Res D} {r:Rho} {x:Res D} (h1:fl r=.ok zs) (h2:F zs=x):zc6 fl [] F r=x:=by unfold zc6; rw [h1,bind_ok,List.append_nil,h2]
theorem znt {m:List Md} {i:Nat} {f:FE} {r:Rho} {d:D} (h:f r=.exc d):setF m i f r=.exc d (forget m r):=by unfold setF; rw [h]; rfl
theorem zkQ {m:List Md} {f:FE} {r:Rho} {d:D} (h:f r=.ok d):zhl m f r=.nx r:=by unfold zhl; rw [h]; rfl
theorem ziz {m:List Md} {f:FE} {r:Rho} {d:D} (h:f r=.exc d):zhl m f r=.exc d (forget m r):=by unfold zhl; rw [h]; rfl
theorem zpl {fa:FE} {fl fh:FP} {r:Rho} {d d':D} {lo hi:Option Int} (h1:fa r=.ok d) (h2:fl r=.ok lo) (h3:fh r=.ok hi) (h4:slA d lo hi=some d'):fSlA fa fl fh r=.ok d':=by
 unfold fSlA; rw [h1,bind_ok,h2,bind_ok,h3,bind_ok,h4]; rfl
theorem znr (l:List D) (i:Nat):slA (.lst l) none (some (i:Int))=some (.lst (l.take i)):=by
 show some (D.lst (cutL l none (some (i:Int))))=_
 unfold cutL
 rw [HT.sIx_nat,HT.sIx_none,List.drop_zero,Nat.sub_zero]
 rw [List.take_eq_take_iff.mpr (by omega:min (min i l.length) l.length=min i l.length)]
inductive Fl:D->Prop where
 | non:Fl .non
 | int (i:Int):Fl (.int i)
 | bl (b:Bool):Fl (.bl b)
abbrev TD (rows:List (List D)):D:=.tup (rows.map .tup)
def Fls (rows:List (List D)):Prop:=∀row∈rows,∀d∈row,Fl d
theorem lenL (zs:List D):lenD [.lst zs]=some (nD zs.length):=rfl
theorem lenT (zs:List D):lenD [.tup zs]=some (nD zs.length):=rfl
abbrev za9 (pre:List Nat):D:=.dic ((pre.map fun k=>(k,D.bl true)).map fun p=>(kI p.1,p.2))
def okI (m:Nat) (pre:List Nat):D->Option (List Nat)
 | .int i=>if 0<=i/\i < (m:Int)/\i.toNat∉pre then some (pre++[i.toNat]) else none
 | _=>none
def ob (m:Nat):List Nat->Nat->List D->Option Nat
 | _,_,[]=>none
 | pre,k,d::ds=>match okI m pre d with
  | none=>some k
  | some pre'=>ob m pre' (k + 1) ds
theorem zqm {m:Nat}:∀{ds:List D} {pre:List Nat} {k j:Nat},ob m pre k ds=some j->j < k + ds.length
 | [],_,_,_,h=>by simp [ob] at h
 | d::ds,pre,k,j,h=>by
  unfold ob at h
  split at h
  ·cases h; simp
  ·have:=zqm h; simp; omega
theorem zn7 {m:Nat} {pre pre':List Nat} {d:D} (h:okI m pre d=some pre'):pre'.length=pre.length + 1:=by
 unfold okI at h
 split at h
 ·split at h
  ·cases h; simp
  ·cases h
 ·cases h
def good (m:Nat) (row:List D):Bool:=decide (row.length=m/\ob m [] 0 row=none)
theorem znc (i:Int):zcB [.int i]=.ok (.bl true):=rfl
theorem zh3 (i:Int) (m:Nat):zaP [.int i,nD m]=.ok (.bl (decide (0<=i/\i < (m:Int)))):=by
 refine zaQ (B:=zbz) (n:=2) ?_
 unfold zbz
 refine zap (zaA ?_)
 rw [ze8 (zau (zac (d:=.int i) rfl zai) (znc i))]
 unfold zf6
 show (if decide ((0:Int)<=i)=true then Res.ok (D.bl (decide (i < (m:Int)))) else Res.ok (D.bl false))=_
 by_cases c:(0:Int)<=i
 ·rw [decide_eq_true c,if_pos rfl]; congr 2; rw [decide_eq_decide]; exact ⟨fun z=>⟨c,z⟩,fun z=>z.2⟩
 ·rw [decide_eq_false c,if_neg Bool.false_ne_true,decide_eq_false (fun z=>c z.1)]
theorem ziB {d:D} (m:Nat) (h:d=.non\/∃b,d=.bl b):zaP [d,nD m]=.ok (.bl false):=by
 refine zaQ (B:=zbz) (n:=2) ?_
 unfold zbz
 refine zap (zaA ?_)
 refine zgJ (zau (zac (d:=d) rfl zai) ?_)
 rcases h with rfl | ⟨b,rfl⟩ <;> rfl
theorem zhU {i:Int} (h:0<=i):D.int i=nD i.toNat:=by show D.int i=D.int (i.toNat:Int); rw [Int.toNat_of_nonneg h]
theorem zhW (pre:List Nat) (k:Nat):inD (nD k) (za9 pre)=some (.bl (decide (k∈pre))):=by
 show (some (hasK _ (kI k))).map D.bl=_
 rw [zm2,List.map_map]
 have:decide (k∈pre.map ((fun p:Nat × D=>p.1) ∘ fun k=>(k,D.bl true)))=decide (k∈pre):=by
  rw [decide_eq_decide]; simp [Function.comp_def]
 rw [this]; rfl
theorem zic {pre:List Nat} {k:Nat} (hk:k∉pre) (hl:pre.length<=60):stoD (za9 pre) (nD k) (.bl true)=some (za9 (pre++[k])):=by
 show (if _ then some (D.dic (putD _ (kI k) (.bl true))) else none)=_
 rw [if_pos (by rw [List.length_map,List.length_map,sizeLine_eq]; omega),zlF _ _ _ (by rw [List.map_map]; simpa [Function.comp_def] using hk)]
 simp
section
variable {T:D} {m:Nat}
theorem zq3 {pre:List Nat} {d:D} (hf:Fl d) (h:okI m pre d=none) {k:Nat}:zaN [some T,some (nD m),some (za9 pre),some (nD k),some d]=.rt (nD k):=by
 refine zap ((if_t ?_).trans (zap (zaA rfl)))
 have bad:zaP [d,nD m]=.ok (.bl false)->(fOr (fNot (fTru (zaz (zab (gv 4) (zab (gv 1) lNil)) [] zaP))) (fTest (f2 (gv 4) (gv 2) inD))) [some T,some (nD m),some (za9 pre),some (nD k),some d]=.ok true:=fun hb=>
  or_t (zdf (b:=false) (zbr (d:=.bl false) (zau (zac (d:=d) rfl (zac (d:=nD m) rfl zai)) hb) rfl))
 cases hf with
 | non=>exact bad (ziB m (.inl rfl))
 | bl b=>exact bad (ziB m (.inr ⟨b,rfl⟩))
 | int i=>
  by_cases c:0<=i/\i < (m:Int)
  ·have hp:i.toNat∈pre:=by
    by_cases z:i.toNat∈pre
    ·exact z
    ·have h:(if 0<=i/\i < (m:Int)/\i.toNat∉pre then some (pre++[i.toNat]) else none)=none:=h
     rw [if_pos ⟨c.1,c.2,z⟩] at h; cases h
   have hb:=zh3 i m
   rw [decide_eq_true c] at hb
   refine (or_f (zdf (b:=true) (zbr (d:=.bl true) (zau (zac (d:=.int i) rfl (zac (d:=nD m) rfl zai)) hb) rfl))).trans ?_
   refine zav (zan (a:=.int i) (b:=za9 pre) rfl rfl ?_)
   rw [zhU c.1,zhW,decide_eq_true hp]
  ·have hb:=zh3 i m
   rw [decide_eq_false c] at hb
   exact bad hb
theorem zoz {pre pre':List Nat} {d:D} (h:okI m pre d=some pre') (hl:pre.length<=60) {k:Nat}:zaN [some T,some (nD m),some (za9 pre),some (nD k),some d]=.nx [some T,some (nD m),some (za9 pre'),some (nD k),some d]:=by
 unfold okI at h
 split at h
 ·rename_i i
  split at h
  ·rename_i c
   cases h
   have hb:=zh3 i m
   rw [decide_eq_true ⟨c.1,c.2.1⟩] at hb
   refine (zae ((if_f ?_).trans (e_skip _))).trans (zae ?_)
   ·refine (or_f (zdf (b:=true) (zbr (d:=.bl true) (zau (zac (d:=.int i) rfl (zac (d:=nD m) rfl zai)) hb) rfl))).trans ?_
    refine zav (zan (a:=.int i) (b:=za9 pre) rfl rfl ?_)
    rw [zhU c.1,zhW,decide_eq_false c.2.2]
   ·refine zmI (d:=za9 pre) (k:=.int i) (v:=.bl true) (d':=za9 (pre++[i.toNat])) rfl rfl rfl ?_
    rw [zhU c.1]
    exact zic c.2.2 hl
  ·cases h
 ·cases h
theorem zkN:∀(zs:List D) (pre:List Nat) (k:Nat) (x y:Option D),(∀d∈zs,Fl d)->pre.length + zs.length<=60 ->
  (∀j,ob m pre k zs=some j->forF (ftT (zak (ftN 3) (zak (ftN 4) zaW))) zaN (enuD k zs) [some T,some (nD m),some (za9 pre),x,y]=.rt (nD j)) /\
  (ob m pre k zs=none->∃pre' x' y',forF (ftT (zak (ftN 3) (zak (ftN 4) zaW))) zaN (enuD k zs) [some T,some (nD m),some (za9 pre),x,y]=.nx [some T,some (nD m),some (za9 pre'),x',y'])
 | [],pre,k,x,y,_,_=>⟨fun j h=>(nomatch h),fun _=>⟨pre,x,y,zbt⟩⟩
 | d::zs,pre,k,x,y,hf,hl=>by
  simp only [List.length_cons] at hl
  have hd:=hf d List.mem_cons_self
  cases e:okI m pre d with
  | none=>
   have h:=zq3 (T:=T) hd e (k:=k)
   have ho:ob m pre k (d::zs)=some k:=by unfold ob; rw [e]
   rw [ho]
   refine ⟨fun j z=>?_,fun z=>(nomatch z)⟩
   cases z
   exact zf5 (r1:=[some T,some (nD m),some (za9 pre),some (nD k),some d]) rfl h
  | some pre'=>
   have h:=zoz (T:=T) e (by omega) (k:=k)
   have ho:ob m pre k (d::zs)=ob m pre' (k + 1) zs:=by conv=>lhs; unfold ob; rw [e]
   have hp:=zn7 e
   obtain ⟨i1,i2⟩:=zkN zs pre' (k + 1) (some (nD k)) (some d) (fun z hz=>hf z (List.mem_cons_of_mem _ hz)) (by omega)
   have st:forF (ftT (zak (ftN 3) (zak (ftN 4) zaW))) zaN (enuD k (d::zs)) [some T,some (nD m),some (za9 pre),x,y]=forF (ftT (zak (ftN 3) (zak (ftN 4) zaW))) zaN (enuD (k + 1) zs) [some T,some (nD m),some (za9 pre'),some (nD k),some d]:=
    zb1 (r1:=[some T,some (nD m),some (za9 pre),some (nD k),some d]) rfl h
   rw [ho,st]
   exact ⟨i1,i2⟩
theorem zly {row:List D} (ha:zbf T=some row) (ht:lenD [T]=some (nD row.length)) (hf:∀d∈row,Fl d) (hl:row.length<=60):zbl [T,nD m]=.ok (.bl (good m row)):=by
 obtain ⟨i1,i2⟩:=zkN (T:=T) (m:=m) row [] 0 none none hf (by simpa using hl)
 have fw:zb7 [T,nD m]=.ok (nD ((ob m [] 0 row).getD row.length)):=by
  refine zaQ (B:=zb9) (n:=5) ?_
  unfold zb9
  refine (zae (r':=[some T,some (nD m),some (za9 []),none,none]) rfl).trans ?_
  have hi:fEnu (gv 0) [some T,some (nD m),some (za9 []),none,none]=.ok (enuD 0 row):=by
   unfold fEnu
   show (Res.ok T).bind _=_
   rw [bind_ok,ha]; rfl
  cases e:ob m [] 0 row with
  | none=>
   obtain ⟨pre',x',y',h⟩:=i2 e
   refine (zae ((zaJ hi).trans h)).trans ?_
   exact zap (zaA (zbA (zac (d:=T) rfl zai) ht))
  | some j=>exact zap ((zaJ hi).trans (i1 j e))
 have un:zco [T,nD m]=.ok (.bl (decide (ob m [] 0 row=none))):=by
  refine zaQ (B:=zcq) (n:=2) ?_
  unfold zcq
  refine zap (zaA (zan (a:=nD ((ob m [] 0 row).getD row.length)) (b:=nD row.length) (zau (zac (d:=T) rfl (zac (d:=nD m) rfl zai)) fw) (zbA (zac (d:=T) rfl zai) ht) ?_))
  rw [zhk]
  congr 2
  rw [decide_eq_decide]
  cases e:ob m [] 0 row with
  | none=>simp
  | some j=>have:=zqm e; simp; omega
 refine zaQ (B:=zbE) (n:=2) ?_
 unfold zbE
 refine zap (zaA ?_)
 have t:f2 (fC (zab (gv 0) lNil) lenD) (gv 1) eqD (zao 2 [T,nD m])=.ok (.bl (decide (row.length=m))):=zan (a:=nD row.length) (b:=nD m) (zbA (zac (d:=T) rfl zai) ht) rfl (zhk _ _)
 unfold good
 by_cases c:row.length=m
 ·rw [decide_eq_true c] at t
  refine (ze8 t).trans (zau (zac (d:=T) rfl (zac (d:=nD m) rfl zai)) ?_)
  rw [List.append_nil,un]
  congr 2
  rw [decide_eq_decide]
  exact ⟨fun z=>⟨c,z⟩,fun z=>z.2⟩
 ·rw [decide_eq_false c] at t
  rw [decide_eq_false (fun z=>c z.1)]
  exact zgJ t
end
def fb (m:Nat):Nat->List (List D)->Option Nat
 | _,[]=>none
 | k,row::rows=>if good m row=true then fb m (k + 1) rows else some k
theorem zm7 {m:Nat}:∀{rows:List (List D)} {k:Nat},fb m k rows=none->∀row∈rows,good m row=true
 | [],_,_=>fun _ h=>(nomatch h)
 | row::rows,k,h=>by
  intro x hx
  unfold fb at h
  split at h
  ·rename_i g
   rcases List.mem_cons.mp hx with z | z
   ·rw [z]; exact g
   ·exact zm7 h x z
  ·cases h
def hd (rows:List (List D)):Nat:=(rows.headD []).length
def ver (rows:List (List D)):Option (Option Nat):=if rows.length < 1\/7 < rows.length\/hd rows < rows.length\/8 < hd rows then none else some (fb (hd rows) 0 rows)
theorem zsc {rows:List (List D)} (h:0 < rows.length) {f:List D->D}:∃row,(rows.map f)[0]? = some (f row)/\row.length=hd rows/\row∈rows:=by
 match rows,h with
 | row::_,_=>exact ⟨row,rfl,rfl,List.mem_cons_self⟩
def gD:Bool × List D->D
 | (true,row)=>.tup row
 | (false,row)=>.lst row
theorem zq0 (p:Bool × List D):zbf (gD p)=some p.2:=by obtain ⟨b,row⟩:=p; cases b <;> rfl
theorem zm3 (p:Bool × List D):lenD [gD p]=some (nD p.2.length):=by obtain ⟨b,row⟩:=p; cases b <;> rfl
theorem zqZ (p:Bool × List D):tupD [gD p]=some (.tup p.2):=by obtain ⟨b,row⟩:=p; cases b <;> rfl
abbrev RS (ps:List (Bool × List D)):List (List D):=ps.map (·.2)
section
variable {G:D} {m:Nat}
theorem zjj:∀(ps:List (Bool × List D)) (k:Nat) (x y:Option D),Fls (RS ps)->(∀row∈RS ps,row.length<=60)->k + ps.length<=60 ->
  (∀j,fb m k (RS ps)=some j->∃r',forF (ftT (zak (ftN 2) (zak (ftN 3) zaW))) za0 (enuD k (ps.map gD)) [some G,some (nD m),x,y]=.exc (xD "NoRow" [("hand",nD j)]) r') /\
  (fb m k (RS ps)=none->∃x' y',forF (ftT (zak (ftN 2) (zak (ftN 3) zaW))) za0 (enuD k (ps.map gD)) [some G,some (nD m),x,y]=.nx [some G,some (nD m),x',y'])
 | [],k,x,y,_,_,_=>⟨fun j h=>(nomatch h),fun _=>⟨x,y,zbt⟩⟩
 | p::ps,k,x,y,hf,hl,hk=>by
  simp only [List.length_cons] at hk
  have hr:=zly (m:=m) (zq0 p) (zm3 p) (hf p.2 List.mem_cons_self) (hl p.2 List.mem_cons_self)
  have t:fNot (fTru (zaz (zab (gv 3) (zab (gv 1) lNil)) [] zbl)) [some G,some (nD m),some (nD k),some (gD p)]=.ok (! good m p.2):=zdf (zbr (zau (zac (d:=gD p) rfl (zac (d:=nD m) rfl zai)) hr) rfl)
  cases e:good m p.2 with
  | false=>
   rw [e] at t
   have ho:fb m k (RS (p::ps))=some k:=by show fb m k (p.2::RS ps)=_; unfold fb; rw [e,if_neg Bool.false_ne_true]
   rw [ho]
   refine ⟨fun j z=>?_,fun z=>(nomatch z)⟩
   cases z
   exact ⟨_,zhX (r1:=[some G,some (nD m),some (nD k),some (gD p)]) rfl (zaX ((if_t t).trans (zaX (zii (i:=(k:Int)) (zac (d:=nD k) rfl zai) (zfm (by omega))))))⟩
  | true=>
   rw [e] at t
   have ho:fb m k (RS (p::ps))=fb m (k + 1) (RS ps):=by show fb m k (p.2::RS ps)=_; conv=>lhs; unfold fb; rw [e,if_pos rfl]
   rw [ho]
   obtain ⟨i1,i2⟩:=zjj ps (k + 1) (some (nD k)) (some (gD p)) (fun r z=>hf r (List.mem_cons_of_mem _ z)) (fun r z=>hl r (List.mem_cons_of_mem _ z)) (by omega)
   have st:forF (ftT (zak (ftN 2) (zak (ftN 3) zaW))) za0 (enuD k ((p::ps).map gD)) [some G,some (nD m),x,y]=forF (ftT (zak (ftN 2) (zak (ftN 3) zaW))) za0 (enuD (k + 1) (ps.map gD)) [some G,some (nD m),some (nD k),some (gD p)]:=
    zb1 (r1:=[some G,some (nD m),some (nD k),some (gD p)]) rfl (zae ((if_f t).trans (e_skip _)))
   rw [st]
   exact ⟨i1,i2⟩
end
theorem ziR (zs:List D):zaG [.lst zs]=if zs.length < 1\/7 < zs.length then .exc (xD "TooMany" []) else .ok .non:=by
 have t1:fTest (f2 (fC (zab (gv 0) lNil) lenD) (ci 1) ltI) (zao 1 [.lst zs])=.ok (decide (zs.length < 1)):=zav (zan (a:=nD zs.length) (b:=nD 1) (zbA (zac (d:=.lst zs) rfl zai) (lenL zs)) rfl (zi0 _ _))
 have t2:fTest (f2 (fC (zab (gv 0) lNil) lenD) (ci 7) gtI) (zao 1 [.lst zs])=.ok (decide (7 < zs.length)):=zav (zan (a:=nD zs.length) (b:=nD 7) (zbA (zac (d:=.lst zs) rfl zai) (lenL zs)) rfl (zi7 _ _))
 have ra:∀{q:FQ},q (zao 1 [.lst zs])=.ok true->seqF (ifF [Md.sh] q (seqF (raiF [Md.sh] "TooMany" (zab (fun _=>Res.ok (D.str "there must be from one to seven rows")) lNil)) zaj) zaj) zaj (zao 1 [.lst zs])=.exc (xD "TooMany" []) (forget [Md.sh] (zao 1 [.lst zs])):=fun h=>
  zaX ((if_t h).trans (zaX (zjL (zac (d:=.str "there must be from one to seven rows") rfl zai))))
 by_cases c1:zs.length < 1
 ·rw [decide_eq_true c1] at t1
  rw [if_pos (.inl c1)]
  exact zcI (B:=zas) (n:=1) (ra (or_t t1))
 ·rw [decide_eq_false c1] at t1
  by_cases c2:7 < zs.length
  ·rw [decide_eq_true c2] at t2
   rw [if_pos (.inr c2)]
   exact zcI (B:=zas) (n:=1) (ra ((or_f t1).trans t2))
  ·rw [decide_eq_false c2] at t2
   rw [if_neg (by omega)]
   have e:zas (zao 1 [.lst zs])=.nx (zao 1 [.lst zs]):=zae ((if_f ((or_f t1).trans t2)).trans (e_skip _))
   show outR false (zas (zao 1 [.lst zs]))=_
   rw [e]; rfl
def woD (rows:List (List D)):Res D:=match ver rows with
 | none=>.exc (xD "TooMany" [])
 | some none=>.ok (TD rows)
 | some (some j)=>.exc (xD "NoRow" [("hand",nD j)])
theorem zpx {ps:List (Bool × List D)} (hf:Fls (RS ps)) (hl:∀row∈RS ps,row.length<=60) (hk:ps.length<=60):zbm [.lst (ps.map gD)]=woD (RS ps):=by
 have hlen:(RS ps).length=ps.length:=by simp
 have rf:=ziR (ps.map gD)
 rw [List.length_map] at rf
 unfold woD
 by_cases c1:ps.length < 1\/7 < ps.length
 ·rw [if_pos c1] at rf
  have hv:ver (RS ps)=none:=by unfold ver; rw [hlen,if_pos (by omega)]
  rw [hv]
  exact zcI (B:=zaT) (n:=4) (zaX (ziz (zb4 (zac (d:=.lst (ps.map gD)) rfl zai) rf)))
 ·rw [if_neg c1] at rf
  obtain ⟨p,p0,p1⟩:∃p,(ps.map gD)[0]? = some (gD p)/\p.2.length=hd (RS ps):=by
   match ps,c1 with
   | [],c1=>exact absurd (.inl (by simp)) c1
   | p::_,_=>exact ⟨p,rfl,rfl⟩
  have st:zaT (zao 4 [.lst (ps.map gD)])=seqF (ifF q104 (fOr (fTest (f2 (gv 1) (fC (zab (gv 0) lNil) lenD) ltI)) (fTest (f2 (gv 1) (ci 8) gtI))) (seqF (raiF q104 "TooMany" (zab (fun _=>Res.ok (D.str "there must be as many things as hands or more, and at most eight")) lNil)) zaj) zaj) (seqF (zb3 q104 (fEnu (gv 0)) (ftT (zak (ftN 2) (zak (ftN 3) zaW))) za0) (seqF (retF q104 (fC (zab (zbZ 1 [] (fSeq zbf (gv 0)) (ftN 0) (fun _=>Res.ok true) (fC (zab (gv 0) lNil) tupD)) lNil) tupD)) zaj)) [some (.lst (ps.map gD)),some (nD (hd (RS ps))),none,none]:=by
   unfold zaT
   refine (zae (zkQ (zb4 (zac (d:=.lst (ps.map gD)) rfl zai) rf))).trans ?_
   refine zae (r':=[some (.lst (ps.map gD)),some (nD (hd (RS ps))),none,none]) (zaC (zbA (zac (d:=gD p) (zan (a:=.lst (ps.map gD)) (b:=nD 0) rfl rfl (zi3 p0)) zai) ?_))
   rw [zm3,p1]
  have t1:fTest (f2 (gv 1) (fC (zab (gv 0) lNil) lenD) ltI) [some (.lst (ps.map gD)),some (nD (hd (RS ps))),none,none]=.ok (decide (hd (RS ps) < ps.length)):=zav (zan (a:=nD (hd (RS ps))) (b:=nD ps.length) rfl (zbA (zac (d:=.lst (ps.map gD)) rfl zai) (zcn _ _)) (zi0 _ _))
  have t2:fTest (f2 (gv 1) (ci 8) gtI) [some (.lst (ps.map gD)),some (nD (hd (RS ps))),none,none]=.ok (decide (8 < hd (RS ps))):=zav (zan (a:=nD (hd (RS ps))) (b:=nD 8) rfl rfl (zi7 _ _))
  by_cases c2:hd (RS ps) < ps.length\/8 < hd (RS ps)
  ·have hv:ver (RS ps)=none:=by unfold ver; rw [hlen,if_pos (by omega)]
   rw [hv]
   refine zcI (B:=zaT) (n:=4) (r':=forget q104 [some (.lst (ps.map gD)),some (nD (hd (RS ps))),none,none]) (st.trans (zaX ((if_t ?_).trans (zaX (zjL (zac (d:=.str "there must be as many things as hands or more, and at most eight") rfl zai))))))
   by_cases c3:hd (RS ps) < ps.length
   ·rw [decide_eq_true c3] at t1; exact or_t t1
   ·rw [decide_eq_false c3] at t1
    rw [decide_eq_true (by omega)] at t2
    exact (or_f t1).trans t2
  ·have hv:ver (RS ps)=some (fb (hd (RS ps)) 0 (RS ps)):=by unfold ver; rw [hlen,if_neg (by omega)]
   rw [hv]
   rw [decide_eq_false (by omega)] at t1 t2
   have st2:=st.trans (zae ((if_f ((or_f t1).trans t2)).trans (e_skip _)))
   obtain ⟨i1,i2⟩:=zjj (G:=.lst (ps.map gD)) (m:=hd (RS ps)) ps 0 none none hf hl (by omega)
   cases e:fb (hd (RS ps)) 0 (RS ps) with
   | some j=>
    obtain ⟨r',h⟩:=i1 j e
    exact zcI (B:=zaT) (n:=4) (st2.trans (zaX ((zaJ (ds:=enuD 0 (ps.map gD)) rfl).trans h)))
   | none=>
    obtain ⟨x',y',h⟩:=i2 e
    refine zaQ (B:=zaT) (n:=4) (st2.trans ((zae ((zaJ (ds:=enuD 0 (ps.map gD)) rfl).trans h)).trans (zap (zaA (zbA (zac (zcJ gD (fun _=>true) (fun p=>.tup p.2) (zc2 (d:=.lst (ps.map gD)) rfl rfl) (by omega) (fun p _=>⟨[some (gD p)],rfl,rfl,fun _=>zbA (zac (d:=gD p) rfl zai) (zqZ p)⟩)) zai) ?_)))))
    rw [zbV]
    simp [tupD,RS,Function.comp_def]
theorem zke {m:Nat}:∀(l pre:List Nat) (k:Nat),(pre++l).Nodup->(∀x∈l,x < m)->ob m pre k (l.map nD)=none
 | [],_,_,_,_=>rfl
 | x::l,pre,k,hn,hb=>by
  have hx:=hb x List.mem_cons_self
  have hp:x∉pre:=fun z=>(List.nodup_append.mp hn).2.2 x z x List.mem_cons_self rfl
  have e:okI m pre (nD x)=some (pre++[x]):=by
   show (if (0:Int)<=(x:Int)/\(x:Int) < (m:Int)/\((x:Nat):Int).toNat∉pre then some (pre++[((x:Nat):Int).toNat]) else none)=_
   rw [Int.toNat_natCast,if_pos ⟨by omega,by omega,hp⟩]
  show ob m pre k (nD x::l.map nD)=none
  unfold ob
  rw [e]
  exact zke l (pre++[x]) (k + 1) (by simpa using hn) fun z hz=>hb z (List.mem_cons_of_mem _ hz)
theorem zkd {m:Nat}:∀(l pre:List Nat) (k:Nat),ob m pre k (l.map nD)=none->pre.Nodup->(pre++l).Nodup/\∀x∈l,x < m
 | [],pre,_,_,hn=>⟨by simpa using hn,fun _ h=>nomatch h⟩
 | x::l,pre,k,h,hn=>by
  have h:ob m pre k (nD x::l.map nD)=none:=h
  unfold ob at h
  have e0:okI m pre (nD x)=if (0:Int)<=(x:Int)/\(x:Int) < (m:Int)/\x∉pre then some (pre++[x]) else none:=by
   show (if (0:Int)<=(x:Int)/\(x:Int) < (m:Int)/\((x:Nat):Int).toNat∉pre then some (pre++[((x:Nat):Int).toNat]) else none)=_
   rw [Int.toNat_natCast]
  rw [e0] at h
  by_cases c:(0:Int)<=(x:Int)/\(x:Int) < (m:Int)/\x∉pre
  ·rw [if_pos c] at h
   obtain ⟨h1,h2⟩:=zkd l (pre++[x]) (k + 1) h (List.nodup_append.mpr ⟨hn,by simp,fun a ha b hb=>by rw [List.mem_singleton.mp hb]; rintro rfl; exact c.2.2 ha⟩)
   refine ⟨by simpa using h1,fun z hz=>?_⟩
   rcases List.mem_cons.mp hz with e | e
   ·rw [e]; omega
   ·exact h2 z e
  ·rw [if_neg c] at h; cases h
theorem zik:∀{l m:List Nat},l.Nodup->(∀x∈l,x∈m)->m.length<=l.length->l.Perm m
 | [],m,_,_,h=>by
  have:m=[]:=List.eq_nil_of_length_eq_zero (by simpa using h)
  rw [this]
 | x::l,m,hn,hs,h=>by
  have hx:=hs x List.mem_cons_self
  rw [List.nodup_cons] at hn
  have hl:(m.erase x).length=m.length - 1:=List.length_erase_of_mem hx
  have hm:0 < m.length:=List.length_pos_of_mem hx
  simp only [List.length_cons] at h
  have ih:=zik (l:=l) (m:=m.erase x) hn.2 (fun y hy=>(List.mem_erase_of_ne (show y≠x by rintro rfl; exact hn.1 hy)).mpr (hs y (List.mem_cons_of_mem _ hy))) (by omega)
  exact (ih.cons x).trans (List.perm_cons_erase hx).symm
theorem zhc {m:Nat} {l:List Nat}:good m (l.map nD)=true↔l.Perm (List.range m):=by
 unfold good
 rw [decide_eq_true_eq,List.length_map]
 constructor
 ·rintro ⟨h1,h2⟩
  obtain ⟨a,b⟩:=zkd l [] 0 h2 (by simp)
  exact zik (by simpa using a) (fun x hx=>List.mem_range.mpr (b x hx)) (by simp [h1])
 ·intro h
  exact ⟨by rw [h.length_eq]; simp,zke l [] 0 (by simpa using h.nodup_iff.mpr List.nodup_range) fun x hx=>List.mem_range.mp (h.mem_iff.mp hx)⟩
theorem ziE:∀l:List Nat,zej (l.map nD)=some (l.map fun x:Nat=>(x:Int))
 | []=>rfl
 | x::l=>by
  have ih:=ziE l
  simp only [List.map_cons,zej,ih]
  rfl
theorem zpB (m:Nat):((List.range m).map fun x=>((x:Nat):Int)).Pairwise (·<=·):=by
 rw [List.pairwise_map]
 exact (List.pairwise_lt_range (n:=m)).imp fun h=>by omega
theorem znn {m:Nat} {l:List Nat}:srtI (l.map fun x=>((x:Nat):Int))=((List.range m).map fun x=>((x:Nat):Int))↔l.Perm (List.range m):=by
 constructor
 ·intro h
  have:=(zdb (l.map fun x=>((x:Nat):Int))).symm
  rw [h] at this
  have h2:=this.map Int.toNat
  rw [List.map_map,List.map_map] at h2
  simpa [Function.comp_def] using h2
 ·intro h
  exact znd ((zdb _).trans (h.map _)) (zhv _) (zpB m)
theorem zl6 {ks:List Int} (h:∀k∈ks,0<=k):ks.map D.int=(ks.map Int.toNat).map nD:=by
 rw [List.map_map]
 refine List.map_congr_left fun k hk=>?_
 show D.int k=D.int ((k.toNat:Nat):Int)
 rw [Int.toNat_of_nonneg (h k hk)]
theorem zno {m:Nat} {l:List Nat} (hl:l.length < 64):∃d,zgQ [LN l]=some d/\neD d (LN (List.range m))=some (.bl (! good m (l.map nD))):=by
 refine ⟨.lst ((srtI (l.map fun x=>((x:Nat):Int))).map .int),?_,?_⟩
 ·show (zej (l.map nD)).bind _=_
  rw [ziE]
  show (if (l.map fun x=>((x:Nat):Int)).length < 64 then _ else _)=_
  rw [if_pos (by rw [List.length_map]; exact hl)]
 ·have hp:∀k∈srtI (l.map fun x=>((x:Nat):Int)),0<=k:=fun k hk=>by
   obtain ⟨x,_,rfl⟩:=List.mem_map.mp ((zdb _).mem_iff.mp hk)
   omega
  rw [zl6 hp,zmX]
  congr 3
  rw [Bool.eq_iff_iff,decide_eq_true_eq,zhc,<-znn (m:=m)]
  constructor
  ·intro h
   have:=congrArg (List.map fun x:Nat=>(x:Int)) h
   rw [List.map_map] at this
   rw [<-this]
   conv=>lhs; rw [<-List.map_id (srtI (l.map fun x=>((x:Nat):Int)))]
   refine List.map_congr_left fun k hk=>?_
   show k=((k.toNat:Nat):Int)
   rw [Int.toNat_of_nonneg (hp k hk)]
  ·intro h
   rw [h,List.map_map]
   conv=>rhs; rw [<-List.map_id (List.range m)]
   exact List.map_congr_left fun x _=>rfl
abbrev PL:=List (Nat × Bool)
def ow (l:PL):List Nat:=(l.filter (·.2)).map (·.1)
abbrev rowD (l:PL):List D:=(l.map (·.1)).map nD
abbrev zba (ls:List PL):List (List D):=ls.map rowD
def rp:List (Option Nat)->Nat->List (Option Nat)->Option Nat
 | _,_,[]=>none
 | ah,k,o::r=>if o≠none/\o∈ah then some k else rp (ah++[o]) (k + 1) r
abbrev owns (ls:List PL):List (Option Nat):=ls.map firstS
def dueD (ls:List PL):D:=match ver (zba ls) with
 | none=>.tup [.str "many",.non]
 | some (some j)=>.tup [.str "row",nD j]
 | some none=>match rp [] 0 (owns ls) with
  | none=>.tup [.str "told",.non]
  | some j=>.tup [.str "own",nD j]
section
variable {R O:D} {ls:List PL} {m:Nat}
theorem zjP (h0:∀(x2 x3 x4:Option D),fC (zab (f2 (gv 0) (ci 0) ixA) lNil) lenD [some R,some O,x2,x3,x4]=.ok (nD m)) (hm:m<=60):∀(l:List PL) (k:Nat) (x2 x3 x4:Option D),(∀p∈l,p.length < 64) ->
  (∀j,fb m k (zba l)=some j->forF (ftT (zak (ftN 2) (zak (ftN 3) zaW))) za3 (enuD k (l.map fun p=>LN (p.map (·.1)))) [some R,some O,x2,x3,x4]=.rt (.tup [.str "row",nD j])) /\
  (fb m k (zba l)=none->∃y2 y3,forF (ftT (zak (ftN 2) (zak (ftN 3) zaW))) za3 (enuD k (l.map fun p=>LN (p.map (·.1)))) [some R,some O,x2,x3,x4]=.nx [some R,some O,y2,y3,x4])
 | [],k,x2,x3,x4,_=>⟨fun j h=>(nomatch h),fun _=>⟨x2,x3,zbt⟩⟩
 | p::l,k,x2,x3,x4,hl=>by
  obtain ⟨i1,i2⟩:=zjP h0 hm l (k + 1) (some (nD k)) (some (LN (p.map (·.1)))) x4 fun q hq=>hl q (List.mem_cons_of_mem _ hq)
  obtain ⟨d,s1,s2⟩:=zno (m:=m) (l:=p.map (·.1)) (by rw [List.length_map]; exact hl p List.mem_cons_self)
  have t:fTest (f2 (fC (zab (gv 3) lNil) zgQ) (fC (zab (fC (zab (f2 (gv 0) (ci 0) ixA) lNil) lenD) lNil) zi1) neD) [some R,some O,some (nD k),some (LN (p.map (·.1))),x4]=.ok (! good m (rowD p)):=zav (zan (a:=d) (b:=LN (List.range m)) (zbA (zac (d:=LN (p.map (·.1))) rfl zai) s1) (zbA (zac (d:=nD m) (h0 _ _ _) zai) (zof (by omega))) s2)
  cases e:good m (rowD p) with
  | false=>
   rw [e] at t
   have ho:fb m k (zba (p::l))=some k:=by show fb m k (rowD p::zba l)=_; unfold fb; rw [e,if_neg Bool.false_ne_true]
   rw [ho]
   refine ⟨fun j z=>?_,fun z=>nomatch z⟩
   cases z
   exact zf5 (r1:=[some R,some O,some (nD k),some (LN (p.map (·.1))),x4]) rfl (zap ((if_t t).trans (zap (zaA (zc4 (zac (d:=.str "row") rfl (zac (d:=nD k) rfl zai)) (by simp))))))
  | true=>
   rw [e] at t
   have ho:fb m k (zba (p::l))=fb m (k + 1) (zba l):=by show fb m k (rowD p::zba l)=_; conv=>lhs; unfold fb; rw [e,if_pos rfl]
   have st:forF (ftT (zak (ftN 2) (zak (ftN 3) zaW))) za3 (enuD k ((p::l).map fun p=>LN (p.map (·.1)))) [some R,some O,x2,x3,x4]=forF (ftT (zak (ftN 2) (zak (ftN 3) zaW))) za3 (enuD (k + 1) (l.map fun p=>LN (p.map (·.1)))) [some R,some O,some (nD k),some (LN (p.map (·.1))),x4]:=
    zb1 (r1:=[some R,some O,some (nD k),some (LN (p.map (·.1))),x4]) rfl (zae ((if_f t).trans (e_skip _)))
   rw [ho,st]
   exact ⟨i1,i2⟩
theorem zqP {x:List Nat} {l:List (List Nat)}:inE (LN x) (.lst (l.map LN))=some (.bl (decide (x∈l))):=by
 have s1:Shp 60 (LN x):=zcG.mpr zlq
 have s2:Shp 60 (.lst (l.map LN)):=zcG.mpr fun d hd=>by obtain ⟨y,_,rfl⟩:=List.mem_map.mp hd; exact zcG.mpr zlq
 have e0:inE (LN x) (.lst (l.map LN))=some (.bl ((l.map LN).any fun y=>eqb y (LN x))):=by
  unfold inE
  exact if_pos ⟨s1,s2⟩
 rw [e0]
 congr 2
 rw [List.any_map,Bool.eq_iff_iff,List.any_eq_true,decide_eq_true_eq]
 have e:∀y:List Nat,eqb (LN y) (LN x)=decide (y=x):=fun y=>by
  unfold eqb
  simp only [toPy,PyData.eqv,zfx]
 constructor
 ·rintro ⟨y,hy,h⟩
  have h:eqb (LN y) (LN x)=true:=h
  rw [e,decide_eq_true_eq] at h
  rw [<-h]; exact hy
 ·intro h
  exact ⟨x,h,by show eqb (LN x) (LN x)=true; rw [e,decide_eq_true rfl]⟩
theorem zgp {l:PL} (h:(l.filter (·.2)).length < 2):ow l=(firstS l).toList:=by
 unfold ow firstS
 generalize l.filter (·.2)=k at h
 match k,h with
 | [],_=>rfl
 | [a],_=>rfl
 | _::_::_,h=>exact absurd h (by simp)
theorem zmM {l:List PL} (hl:∀p∈l,(p.filter (·.2)).length < 2) {a:Nat} : [a]∈l.map ow↔some a∈owns l:=by
 rw [List.mem_map,List.mem_map]
 constructor
 ·rintro ⟨p,hp,e⟩
  refine ⟨p,hp,?_⟩
  rw [zgp (hl p hp)] at e
  cases q:firstS p with
  | none=>rw [q] at e; cases e
  | some b=>rw [q] at e; rw [(List.cons.inj e).1]
 ·rintro ⟨p,hp,e⟩
  exact ⟨p,hp,by rw [zgp (hl p hp),e]; rfl⟩
theorem zjO:∀(l ah:List PL) (x2 x3 x4:Option D),O=.lst ((ah++l).map fun p=>LN (ow p))->(∀p∈ah++l,(p.filter (·.2)).length < 2)->(ah++l).length<=60 ->
  (∀j,rp (owns ah) ah.length (owns l)=some j->forF (ftT (zak (ftN 2) (zak (ftN 4) zaW))) za2 (enuD ah.length (l.map fun p=>LN (ow p))) [some R,some O,x2,x3,x4]=.rt (.tup [.str "own",nD j])) /\
  (rp (owns ah) ah.length (owns l)=none->∃y2 y4,forF (ftT (zak (ftN 2) (zak (ftN 4) zaW))) za2 (enuD ah.length (l.map fun p=>LN (ow p))) [some R,some O,x2,x3,x4]=.nx [some R,some O,y2,x3,y4])
 | [],ah,x2,x3,x4,_,_,_=>⟨fun j h=>(nomatch h),fun _=>⟨x2,x4,zbt⟩⟩
 | p::l,ah,x2,x3,x4,hO,hf,hl=>by
  have hp:=hf p (List.mem_append_right _ List.mem_cons_self)
  have ea:ah++p::l=ah++[p]++l:=by simp
  obtain ⟨i1,i2⟩:=zjO l (ah++[p]) (some (nD ah.length)) x3 (some (LN (ow p))) (by rw [<-ea]; exact hO) (by rw [<-ea]; exact hf) (by rw [<-ea]; exact hl)
  have hlen:(ah++[p]).length=ah.length + 1:=by simp
  have how:owns (ah++[p])=owns ah++[firstS p]:=by simp [owns]
  rw [hlen,how] at i1 i2
  have tk:fSlA (gv 1) (fun _=>Res.ok none) (zcy (gv 2)) [some R,some O,some (nD ah.length),x3,some (LN (ow p))]=.ok (.lst ((ah.map ow).map LN)):=by
   refine zpl (d:=O) (lo:=none) (hi:=some ((ah.length:Nat):Int)) rfl rfl (zdS (i:=((ah.length:Nat):Int)) rfl) ?_
   rw [hO,znr,<-List.map_take,List.take_left,List.map_map]; rfl
  have t1:fTest (f2 (gv 4) (mkL lNil) neD) [some R,some O,some (nD ah.length),x3,some (LN (ow p))]=.ok (! decide (ow p=[])):=zav (zan (a:=LN (ow p)) (b:=LN []) rfl (zbU zai (by simp)) (zmX _ _))
  have t2:fTest (f2 (gv 4) (fSlA (gv 1) (fun _=>Res.ok none) (zcy (gv 2))) inE) [some R,some O,some (nD ah.length),x3,some (LN (ow p))]=.ok (decide (ow p∈ah.map ow)):=zav (zan (a:=LN (ow p)) (b:=.lst ((ah.map ow).map LN)) rfl tk zqP)
  have ep:=zgp hp
  have hah:∀q∈ah,(q.filter (·.2)).length < 2:=fun q hq=>hf q (List.mem_append_left _ hq)
  by_cases c:firstS p≠none/\firstS p∈owns ah
  ·have ho:rp (owns ah) ah.length (owns (p::l))=some ah.length:=by show rp (owns ah) ah.length (firstS p::owns l)=_; unfold rp; rw [if_pos c]
   rw [ho]
   refine ⟨fun j z=>?_,fun z=>nomatch z⟩
   cases z
   obtain ⟨a,ha⟩:=Option.ne_none_iff_exists'.mp c.1
   rw [ha] at ep c
   have ep:ow p=[a]:=ep
   rw [ep,decide_eq_false (by simp)] at t1
   rw [ep,decide_eq_true ((zmM hah).mpr c.2)] at t2
   refine zf5 (r1:=[some R,some O,some (nD ah.length),x3,some (LN (ow p))]) rfl (zap ((if_t ?_).trans (zap (zaA (zc4 (zac (d:=.str "own") rfl (zac (d:=nD ah.length) rfl zai)) (by simp))))))
   rw [ep]
   exact (zoR t1).trans t2
  ·have ho:rp (owns ah) ah.length (owns (p::l))=rp (owns ah++[firstS p]) (ah.length + 1) (owns l):=by show rp (owns ah) ah.length (firstS p::owns l)=_; conv=>lhs; unfold rp; rw [if_neg c]
   have st:forF (ftT (zak (ftN 2) (zak (ftN 4) zaW))) za2 (enuD ah.length ((p::l).map fun p=>LN (ow p))) [some R,some O,x2,x3,x4]=forF (ftT (zak (ftN 2) (zak (ftN 4) zaW))) za2 (enuD (ah.length + 1) (l.map fun p=>LN (ow p))) [some R,some O,some (nD ah.length),x3,some (LN (ow p))]:=by
    refine zb1 (r1:=[some R,some O,some (nD ah.length),x3,some (LN (ow p))]) rfl (zae ((if_f ?_).trans (e_skip _)))
    cases q:firstS p with
    | none=>
     rw [q] at ep
     have ep:ow p=[]:=ep
     rw [decide_eq_true ep] at t1
     exact zrk t1
    | some a=>
     rw [q] at ep
     have ep:ow p=[a]:=ep
     rw [decide_eq_false (by rw [ep]; simp)] at t1
     rw [decide_eq_false (by rw [ep]; intro z; exact c ⟨by rw [q]; simp,by rw [q]; exact (zmM hah).mp z⟩)] at t2
     exact (zoR t1).trans t2
   rw [ho,st]
   exact ⟨i1,i2⟩
end
theorem zlw {ls:List PL} (hne:0 < ls.length) (h60:ls.length<=60) (hl:∀p∈ls,p.length < 61) (hf:∀p∈ls,(p.filter (·.2)).length < 2):zbD [.lst (ls.map fun p=>LN (p.map (·.1))),.lst (ls.map fun p=>LN (ow p))]=.ok (dueD ls):=by
 obtain ⟨p,p0,p1,p2⟩:∃p,(ls.map fun p=>LN (p.map (·.1)))[0]? = some (LN (p.map (·.1)))/\p.length=hd (zba ls)/\p∈ls:=by
  match ls,hne with
  | p::_,_=>exact ⟨p,rfl,by simp [hd],List.mem_cons_self⟩
 have hm:=hl p p2
 have hlen:(zba ls).length=ls.length:=by simp
 have L0:∀(x2 x3 x4:Option D),fC (zab (f2 (gv 0) (ci 0) ixA) lNil) lenD [some (.lst (ls.map fun p=>LN (p.map (·.1)))),some (.lst (ls.map fun p=>LN (ow p))),x2,x3,x4]=.ok (nD (hd (zba ls))):=fun x2 x3 x4=>zbA (zac (d:=LN (p.map (·.1))) (zan (a:=.lst (ls.map fun p=>LN (p.map (·.1)))) (b:=nD 0) rfl rfl (zi3 p0)) zai) (by rw [zcn,List.length_map,p1])
 have N0:∀(x2 x3 x4:Option D),fC (zab (gv 0) lNil) lenD [some (.lst (ls.map fun p=>LN (p.map (·.1)))),some (.lst (ls.map fun p=>LN (ow p))),x2,x3,x4]=.ok (nD ls.length):=fun x2 x3 x4=>zbA (zac (d:=.lst (ls.map fun p=>LN (p.map (·.1)))) rfl zai) (zcn _ _)
 refine zaQ (B:=zbF) (n:=5) ?_
 unfold zbF dueD
 have t1:=zav (zan (f':=fun _=>Res.ok (D.int 7)) (b:=nD 7) (N0 none none none) rfl (zi7 ls.length 7))
 have t2:=zav (zan (L0 none none none) (N0 none none none) (zi0 (hd (zba ls)) ls.length))
 have t3:=zav (zan (f':=fun _=>Res.ok (D.int 8)) (b:=nD 8) (L0 none none none) rfl (zi7 (hd (zba ls)) 8))
 by_cases c:ls.length < 1\/7 < ls.length\/hd (zba ls) < ls.length\/8 < hd (zba ls)
 ·have hv:ver (zba ls)=none:=by unfold ver; rw [hlen,if_pos c]
  rw [hv]
  refine zap ((if_t ?_).trans (zap (zaA (zc4 (zac (d:=.str "many") rfl (zac (d:=.non) rfl zai)) (by simp)))))
  by_cases c1:7 < ls.length
  ·rw [decide_eq_true c1] at t1; exact or_t t1
  ·rw [decide_eq_false c1] at t1
   refine (or_f t1).trans ?_
   by_cases c2:hd (zba ls) < ls.length
   ·rw [decide_eq_true c2] at t2; exact or_t t2
   ·rw [decide_eq_false c2] at t2
    rw [decide_eq_true (by omega)] at t3
    exact (or_f t2).trans t3
 ·have hv:ver (zba ls)=some (fb (hd (zba ls)) 0 (zba ls)):=by unfold ver; rw [hlen,if_neg c]
  rw [hv]
  rw [decide_eq_false (by omega)] at t1 t2 t3
  refine (zae ((if_f ((or_f t1).trans ((or_f t2).trans t3))).trans (e_skip _))).trans ?_
  obtain ⟨i1,i2⟩:=zjP (R:=.lst (ls.map fun p=>LN (p.map (·.1)))) (O:=.lst (ls.map fun p=>LN (ow p))) L0 (by omega) ls 0 none none none (fun q hq=>by have:=hl q hq; omega)
  cases e:fb (hd (zba ls)) 0 (zba ls) with
  | some j=>exact zap ((zaJ (ds:=enuD 0 (ls.map fun p=>LN (p.map (·.1)))) rfl).trans (i1 j e))
  | none=>
   obtain ⟨y2,y3,h⟩:=i2 e
   refine (zae ((zaJ (ds:=enuD 0 (ls.map fun p=>LN (p.map (·.1)))) rfl).trans h)).trans ?_
   obtain ⟨k1,k2⟩:=zjO (R:=.lst (ls.map fun p=>LN (p.map (·.1)))) (O:=.lst (ls.map fun p=>LN (ow p))) ls [] y2 y3 none rfl hf h60
   show seqF _ _ _=Out.rt (match rp [] 0 (owns ls) with | none=>D.tup [.str "told",.non] | some j=>.tup [.str "own",nD j])
   cases e2:rp [] 0 (owns ls) with
   | some j=>exact zap ((zaJ (ds:=enuD 0 (ls.map fun p=>LN (ow p))) rfl).trans (k1 j e2))
   | none=>
    obtain ⟨z2,z4,h2⟩:=k2 e2
    exact (zae ((zaJ (ds:=enuD 0 (ls.map fun p=>LN (ow p))) rfl).trans h2)).trans (zap (zaA (zc4 (zac (d:=.str "told") rfl (zac (d:=.non) rfl zai)) (by simp))))
structure Txs (rows:List (List Nat)) (owns:List (Option Nat)):Prop where
 n7:rows.length<=7
 b8:∀row∈rows,∀x∈row,x < 8
 l8:∀row∈rows,row.length<=8
theorem Txs.zr {rows:List (List Nat)} {owns:List (Option Nat)} (S:Txs rows owns) {p:List Nat × Option Nat} (h:p∈rows.zip owns):p.1∈rows/\p.2∈owns:=List.of_mem_zip h
theorem Txs.zl {rows:List (List Nat)} {owns:List (Option Nat)} (S:Txs rows owns):(rows.zip owns).length<=7:=by rw [List.length_zip]; exact Nat.le_trans (Nat.min_le_left _ _) S.n7
def word (x:Nat) (o:Option Nat):Str:=if o=some x then letS x++"*" else letS x
theorem zqF {x:Nat} (h:x < 8):ixA (.str "ABCDEFGH") (nD x)=some (.str (letS x)):=
 by8 (p:=fun x=>ixA (.str "ABCDEFGH") (nD x)=some (.str (letS x))) (by kernel_rfl) (by kernel_rfl) (by kernel_rfl) (by kernel_rfl) (by kernel_rfl) (by kernel_rfl) (by kernel_rfl) (by kernel_rfl) h
theorem zgd (x:Nat) (o:Option Nat):(word x o).length<=2:=by
 unfold word
 split
 ·rw [strLen_append]; exact Nat.le_refl 2
 ·exact Nat.le_succ 1
theorem zfE {a b:Str} (h:a.length + b.length<=1000):addA (.str a) (.str b)=some (.str (a++b)):=by
 show (if a.length + b.length<=sizeLine then _ else _)=_
 rw [if_pos (by rw [sizeLine_eq]; omega)]
theorem zll (x:Nat):(letS x).length + (("*" : Str)).length<=1000:=by
 have h:(("*" : Str)).length=1:=by decide +kernel
 rw [h]
 show 1 + 1<=1000
 decide
theorem zq9 (x:Nat) (o:Option Nat):eqD (nD x) (oD o)=some (.bl (decide (o=some x))):=by
 cases o with
 | none=>rfl
 | some y=>
  rw [show oD (some y)=nD y from rfl,zhk]
  congr 2
  rw [decide_eq_decide]
  exact ⟨fun h=>by rw [h],fun h=>(Option.some.inj h).symm⟩
def rowS (row:List Nat) (o:Option Nat):Str:=Str.join " " (row.map fun x=>word x o)
def zjH (rows:List (List Nat)) (owns:List (Option Nat)):Str:=Str.join "; " ((rows.zip owns).map fun p=>rowS p.1 p.2)
theorem zf7:∀l:List Str,zeN (l.map D.str)=some l
 | []=>rfl
 | x::l=>by
  show (zeN (l.map D.str)).map (x::·)=_
  rw [zf7 l]; rfl
theorem zkz {sep:Str} {l:List Str} {B:Nat} (hB:∀y∈l,y.length<=B) (h:l.length * B + l.length * sep.length<=16777216):zg9 (.str sep) [.lst (l.map D.str)]=some (.str (Str.join sep l)):=by
 show (match zeN (l.map D.str) with | some xs=>if JoinOk sep xs=true then some (D.str (Txt.join sep xs)) else none | none=>none)=_
 rw [zf7]
 have:JoinOk sep l=true:=by unfold JoinOk; rw [StrLaws.joinFits hB h]; rfl
 simp only [this,if_true]
 show some (D.str (PySem.Builtin.Str.glued sep l))=_
 rw [StrLaws.glued_eq_join]
theorem zlA {row:List Nat} (o:Option Nat) (hl:row.length<=8):(rowS row o).length<=24:=by
 have h:=StrLaws.join_length_le " " (row.map fun x=>word x o)
 have h2:=StrLaws.sumLen_le (B:=2) (row.map fun x=>word x o) (fun y hy=>by obtain ⟨x,_,rfl⟩:=List.mem_map.mp hy; exact zgd x o)
 have h3:((" " : Str)).length=1:=by decide +kernel
 rw [h3,List.length_map] at h
 rw [List.length_map] at h2
 unfold rowS
 omega
theorem zjI {row:List Nat} (o:Option Nat) {B:Nat} (hl:row.length<=B):(rowS row o).length<=3 * B:=by
 have h:=StrLaws.join_length_le " " (row.map fun x=>word x o)
 have h2:=StrLaws.sumLen_le (B:=2) (row.map fun x=>word x o) (fun y hy=>by obtain ⟨x,_,rfl⟩:=List.mem_map.mp hy; exact zgd x o)
 have h3:((" " : Str)).length=1:=by decide +kernel
 rw [h3,List.length_map] at h
 rw [List.length_map] at h2
 unfold rowS
 omega
theorem ziU {rows:List (List Nat)} {owns:List (Option Nat)} (hl:∀row∈rows,row.length<=4) (hn:rows.length<=3):(zjH rows owns).length<=42:=by
 have h:=StrLaws.join_length_le "; " ((rows.zip owns).map fun p=>rowS p.1 p.2)
 have h2:=StrLaws.sumLen_le (B:=12) ((rows.zip owns).map fun p=>rowS p.1 p.2) (fun y hy=>by obtain ⟨p,hp,rfl⟩:=List.mem_map.mp hy; exact zjI p.2 (B:=4) (hl p.1 (List.of_mem_zip hp).1))
 have h3:(("; " : Str)).length=2:=by decide +kernel
 have h4:(rows.zip owns).length<=3:=by rw [List.length_zip]; exact Nat.le_trans (Nat.min_le_left _ _) hn
 rw [h3,List.length_map] at h
 rw [List.length_map] at h2
 unfold zjH
 omega
theorem zoB {fa fb:FE} {r:Rho} {d e:DL.D} {ds es:List DL.D} (h1:fa r=.ok d) (h2:fb r=.ok e) (h3:zbf d=some ds) (h4:zbf e=some es):fZip fa fb r=.ok (List.zipWith (fun a b=>DL.D.tup [a,b]) ds es):=by
 unfold fZip; rw [h1,bind_ok,h2,bind_ok,h3,opt_some,bind_ok,h4,opt_some,bind_ok]
theorem zrt (rows:List (List Nat)) (owns:List (Option Nat)):List.zipWith (fun a b=>DL.D.tup [a,b]) (rows.map TN) (owns.map oD)=(rows.zip owns).map fun p=>.tup [TN p.1,oD p.2]:=by
 rw [List.zipWith_map,List.zip,List.map_zipWith]
theorem zph:zjr (.str "*") (.int 1)=some (.str "*"):=by kernel_rfl
theorem zpi:zjr (.str "*") (.int 0)=some (.str Str.empty):=by kernel_rfl
section
variable {rows:List (List Nat)} {owns:List (Option Nat)} {o:Option Nat} {a0 a1 a2 a3:Option D}
theorem zkp:∀(l:List Nat) (ws:List Str) (x6:Option D),(∀x∈l,x < 8)->ws.length + l.length<=60->∃y6,forF (ftN 6) zen (l.map nD) [a0,a1,a2,a3,some (oD o),some (.lst (ws.map D.str)),x6]=.nx [a0,a1,a2,a3,some (oD o),some (.lst ((ws++l.map fun x=>word x o).map D.str)),y6]
 | [],ws,x6,_,_=>⟨x6,by rw [List.map_nil,List.map_nil,List.append_nil]; exact zbt⟩
 | x::l,ws,x6,hb,hl=>by
  simp only [List.length_cons] at hl
  have hx:=hb x List.mem_cons_self
  obtain ⟨y6,ih⟩:=zkp l (ws++[word x o]) (some (nD x)) (fun z hz=>hb z (List.mem_cons_of_mem _ hz)) (by simp; omega)
  refine ⟨y6,?_⟩
  rw [List.map_cons,List.map_cons,show ws++(word x o::l.map fun x=>word x o)=ws++[word x o]++l.map fun x=>word x o by simp,<-ih]
  refine zb1 (r1:=[a0,a1,a2,a3,some (oD o),some (.lst (ws.map D.str)),some (nD x)]) rfl (zae ?_)
  refine (zeM (d:=.lst (ws.map D.str)) (ds:=[.str (word x o)]) (d':=.lst (ws.map D.str++[.str (word x o)])) rfl rfl (zac ?_ zai) (zdV (by simp; omega))).trans (by rw [List.map_append]; rfl)
  have e1:f2 (fun _=>Res.ok (D.str "ABCDEFGH")) (gv 6) ixA [a0,a1,a2,a3,some (oD o),some (.lst (ws.map D.str)),some (nD x)]=.ok (.str (letS x)):=zan (a:=.str "ABCDEFGH") (b:=nD x) rfl rfl (zqF hx)
  have e2:fC (zab (f2 (gv 6) (gv 4) eqD) lNil) zkF [a0,a1,a2,a3,some (oD o),some (.lst (ws.map D.str)),some (nD x)]=.ok (.int (if decide (o=some x)=true then 1 else 0)):=zbA (zac (d:=.bl (decide (o=some x))) (zan (a:=nD x) (b:=oD o) rfl rfl (zq9 x o)) zai) rfl
  unfold word
  by_cases c:o=some x
  ·rw [decide_eq_true c,if_pos rfl] at e2
   rw [if_pos c]
   exact zan (a:=.str (letS x)) (b:=.str "*") e1 (zan (a:=.str "*") (b:=.int 1) rfl e2 zph) (zfE (zll x))
  ·rw [decide_eq_false c,if_neg Bool.false_ne_true] at e2
   rw [if_neg c]
   refine zan (a:=.str (letS x)) (b:=.str Str.empty) e1 (zan (a:=.str "*") (b:=.int 0) rfl e2 zpi) ?_
   rw [zfE (by show 1 + 0<=1000; decide),Str.append_empty]
theorem zkq (S:Txs rows owns) {W O:D}:∀(l:List (List Nat × Option Nat)) (ps:List Str) (x3 x4 x5 x6:Option D),(∀p∈l,p∈rows.zip owns)->ps.length + l.length<=60->∃y3 y4 y5 y6,forF (ftT (zak (ftN 3) (zak (ftN 4) zaW))) zem (l.map fun p=>.tup [TN p.1,oD p.2]) [some W,some O,some (.lst (ps.map D.str)),x3,x4,x5,x6]=.nx [some W,some O,some (.lst ((ps++l.map fun p=>rowS p.1 p.2).map D.str)),y3,y4,y5,y6]
 | [],ps,x3,x4,x5,x6,_,_=>⟨x3,x4,x5,x6,by rw [List.map_nil,List.map_nil,List.append_nil]; exact zbt⟩
 | p::l,ps,x3,x4,x5,x6,hp,hl=>by
  simp only [List.length_cons] at hl
  have hr:=(S.zr (hp p List.mem_cons_self)).1
  have h8:=S.l8 _ hr
  obtain ⟨z6,hw⟩:=zkp (a0:=some W) (a1:=some O) (a2:=some (.lst (ps.map D.str))) (a3:=some (TN p.1)) (o:=p.2) p.1 [] x6 (S.b8 _ hr) (by simp; omega)
  rw [List.nil_append,List.map_nil] at hw
  obtain ⟨y3,y4,y5,y6,ih⟩:=zkq S (W:=W) (O:=O) l (ps++[rowS p.1 p.2]) (some (TN p.1)) (some (oD p.2)) (some (.lst ((p.1.map fun x=>word x p.2).map D.str))) z6 (fun q hq=>hp q (List.mem_cons_of_mem _ hq)) (by simp; omega)
  refine ⟨y3,y4,y5,y6,?_⟩
  rw [List.map_cons,List.map_cons,show ps++(rowS p.1 p.2::l.map fun p=>rowS p.1 p.2)=ps++[rowS p.1 p.2]++l.map fun p=>rowS p.1 p.2 by simp,<-ih]
  refine zb1 (r1:=[some W,some O,some (.lst (ps.map D.str)),some (TN p.1),some (oD p.2),x5,x6]) rfl ?_
  refine (zae (r':=[some W,some O,some (.lst (ps.map D.str)),some (TN p.1),some (oD p.2),some (.lst []),x6]) (zaC (zbU zai (by simp)))).trans ?_
  refine (zae ((zaJ (zc2 (d:=TN p.1) rfl rfl)).trans hw)).trans (zae ?_)
  have h3:((" " : Str)).length=1:=by decide +kernel
  refine (zeM (d:=.lst (ps.map D.str)) (ds:=[.str (rowS p.1 p.2)]) (d':=.lst (ps.map D.str++[.str (rowS p.1 p.2)])) rfl rfl (zac (zfv (d:=.str " ") rfl rfl (zac (d:=.lst ((p.1.map fun x=>word x p.2).map D.str)) rfl zai) (zkz (B:=2) (fun y hy=>by obtain ⟨x,_,rfl⟩:=List.mem_map.mp hy; exact zgd x _) (by rw [h3,List.length_map]; omega))) zai) (zdV (by simp; omega))).trans (by rw [List.map_append]; rfl)
theorem zjF (S:Txs rows owns):zcS [WD rows,OD owns]=.ok (.str (zjH rows owns)):=by
 have hz:=S.zl
 obtain ⟨y3,y4,y5,y6,hl⟩:=zkq S (W:=WD rows) (O:=OD owns) (rows.zip owns) [] none none none none (fun p hp=>hp) (by rw [List.length_nil]; omega)
 refine zaQ (B:=zcX) (n:=7) ?_
 unfold zcX
 refine (zae (r':=[some (WD rows),some (OD owns),some (.lst []),none,none,none,none]) (zaC (zbU zai (by simp)))).trans ?_
 refine (zae ((zaJ ((zoB (d:=WD rows) (e:=OD owns) rfl rfl rfl rfl).trans (by rw [zrt]))).trans hl)).trans (zap (zaA ?_))
 have h3:(("; " : Str)).length=2:=by decide +kernel
 exact zfv (d:=.str "; ") rfl rfl (zac (d:=.lst (((rows.zip owns).map fun p=>rowS p.1 p.2).map D.str)) rfl zai) (zkz (B:=24) (fun y hy=>by obtain ⟨p,hp,rfl⟩:=List.mem_map.mp hy; exact zlA p.2 (S.l8 _ (S.zr hp).1)) (by rw [h3,List.length_map]; omega))
end
theorem zm5 {a:Nat} {ah:List (Option Nat)}:a∈ah.filterMap id↔some a∈ah:=by
 rw [List.mem_filterMap]
 exact ⟨fun ⟨o,h1,h2⟩=>by rw [<-show o=some a from h2]; exact h1,fun h=>⟨_,h,rfl⟩⟩
theorem zoN {a m:Nat} (h:a < m):zaP [nD a,nD m]=.ok (.bl true):=by
 rw [zgX,decide_eq_true h]
theorem zhO {W T:D} {m:Nat} (hW:zbJ [W]=.ok (nD m)):∀(l ah:List (Option Nat)) (k:Nat) (x y:Option D),(∀z,some z∈l->z < m)->ah.length + l.length<=60->k + l.length<=60 ->
  (∀j,rp ah k l=some j->∃r',forF (ftT (zak (ftN 3) (zak (ftN 4) zaW))) za4 (enuD k (l.map oD)) [some W,some T,some (za9 (ah.filterMap id)),x,y]=.exc (xD "NoOwn" [("hand",nD j)]) r') /\
  (rp ah k l=none->∃d x' y',forF (ftT (zak (ftN 3) (zak (ftN 4) zaW))) za4 (enuD k (l.map oD)) [some W,some T,some (za9 (ah.filterMap id)),x,y]=.nx [some W,some T,some d,x',y'])
 | [],ah,k,x,y,_,_,_=>⟨fun j h=>(nomatch h),fun _=>⟨_,x,y,zbt⟩⟩
 | none::l,ah,k,x,y,h,h1,h2=>by
  simp only [List.length_cons] at h1 h2
  obtain ⟨i1,i2⟩:=zhO (T:=T) hW l (ah++[none]) (k + 1) (some (nD k)) (some .non) (fun z hz=>h z (List.mem_cons_of_mem _ hz)) (by simp; omega) (by omega)
  have st:forF (ftT (zak (ftN 3) (zak (ftN 4) zaW))) za4 (enuD k ((none::l).map oD)) [some W,some T,some (za9 (ah.filterMap id)),x,y]=forF (ftT (zak (ftN 3) (zak (ftN 4) zaW))) za4 (enuD (k + 1) (l.map oD)) [some W,some T,some (za9 (ah.filterMap id)),some (nD k),some .non]:=
   zb1 (r1:=[some W,some T,some (za9 (ah.filterMap id)),some (nD k),some .non]) rfl (zae ((if_f (zav (zan (a:=.non) (b:=.non) (d:=.bl false) rfl rfl rfl))).trans (e_skip _)))
  have ho:rp ah k (none::l)=rp (ah++[none]) (k + 1) l:=by conv=>lhs; unfold rp; rw [if_neg (fun z=>z.1 rfl)]
  have ef:(ah++[none]).filterMap id=ah.filterMap id:=by simp
  rw [ef] at i1 i2
  rw [ho,st]
  exact ⟨i1,i2⟩
 | some a::l,ah,k,x,y,h,h1,h2=>by
  simp only [List.length_cons] at h1 h2
  have ha:=h a List.mem_cons_self
  have hal:(ah.filterMap id).length<=ah.length:=List.length_filterMap_le _ _
  obtain ⟨i1,i2⟩:=zhO (T:=T) hW l (ah++[some a]) (k + 1) (some (nD k)) (some (nD a)) (fun z hz=>h z (List.mem_cons_of_mem _ hz)) (by simp; omega) (by omega)
  have t0:fTest (f2 (gv 4) (fun _=>Res.ok D.non) isnD) [some W,some T,some (za9 (ah.filterMap id)),some (nD k),some (nD a)]=.ok true:=zav (zan (a:=nD a) (b:=.non) (d:=.bl true) rfl rfl rfl)
  have t1:fNot (fTru (zaz (zab (gv 4) (zab (zaz (zab (gv 0) lNil) [] zbJ) lNil)) [] zaP)) [some W,some T,some (za9 (ah.filterMap id)),some (nD k),some (nD a)]=.ok false:=zdf (b:=true) (zbr (d:=.bl true) (zau (zac (d:=nD a) rfl (zac (d:=nD m) (zau (zac (d:=W) rfl zai) hW) zai)) (zoN ha)) rfl)
  have t2:fTest (f2 (gv 4) (gv 2) inD) [some W,some T,some (za9 (ah.filterMap id)),some (nD k),some (nD a)]=.ok (decide (a∈ah.filterMap id)):=zav (zan (a:=nD a) (b:=za9 (ah.filterMap id)) rfl rfl (zhW _ _))
  by_cases c:some a∈ah
  ·rw [decide_eq_true (zm5.mpr c)] at t2
   have ho:rp ah k (some a::l)=some k:=by unfold rp; rw [if_pos ⟨by simp,c⟩]
   rw [ho]
   refine ⟨fun j z=>?_,fun z=>nomatch z⟩
   cases z
   exact ⟨_,zhX (r1:=[some W,some T,some (za9 (ah.filterMap id)),some (nD k),some (nD a)]) rfl (zaX ((if_t t0).trans (zaX ((if_t ((or_f t1).trans t2)).trans (zaX (zii (i:=(k:Int)) (zac (d:=nD k) rfl zai) (zfm (by omega))))))))⟩
  ·have hn:a∉ah.filterMap id:=fun z=>c (zm5.mp z)
   rw [decide_eq_false hn] at t2
   have ho:rp ah k (some a::l)=rp (ah++[some a]) (k + 1) l:=by conv=>lhs; unfold rp; rw [if_neg (fun z=>c z.2)]
   have ef:(ah++[some a]).filterMap id=ah.filterMap id++[a]:=by simp
   rw [ef] at i1 i2
   have st:forF (ftT (zak (ftN 3) (zak (ftN 4) zaW))) za4 (enuD k ((some a::l).map oD)) [some W,some T,some (za9 (ah.filterMap id)),x,y]=forF (ftT (zak (ftN 3) (zak (ftN 4) zaW))) za4 (enuD (k + 1) (l.map oD)) [some W,some T,some (za9 (ah.filterMap id++[a])),some (nD k),some (nD a)]:=
    zb1 (r1:=[some W,some T,some (za9 (ah.filterMap id)),some (nD k),some (nD a)]) rfl (zae ((if_t t0).trans ((zae ((if_f ((or_f t1).trans t2)).trans (e_skip _))).trans (zae (zmI (d:=za9 (ah.filterMap id)) (k:=nD a) (v:=.bl true) (d':=za9 (ah.filterMap id++[a])) rfl rfl rfl (zic hn (by omega)))))))
   rw [ho,st]
   exact ⟨i1,i2⟩
def ooD (ow:List (Option Nat)):Res D:=match rp [] 0 ow with
 | none=>.ok (.tup (ow.map oD))
 | some j=>.exc (xD "NoOwn" [("hand",nD j)])
theorem zpz {rows:List (List D)} {ow:List (Option Nat)} (hne:0 < rows.length) (hl:ow.length=rows.length) (h60:rows.length<=60) (hb:∀z,some z∈ow->z < hd rows):zbu [TD rows,.lst (ow.map oD)]=ooD ow:=by
 have ti:zbJ [TD rows]=.ok (nD (hd rows)):=by
  obtain ⟨row,q1,q2,_⟩:=zsc (rows:=rows) hne (f:=.tup)
  refine zaQ (B:=zcV) (n:=1) ?_
  unfold zcV
  refine zap (zaA (zbA (zac (d:=.tup row) (zan (a:=TD rows) (b:=nD 0) rfl rfl (zor q1)) zai) ?_))
  rw [lenT,q2]
 obtain ⟨i1,i2⟩:=zhO (T:=.lst (ow.map oD)) ti ow [] 0 none none hb (by simp; omega) (by omega)
 have t:fTest (f2 (fC (zab (gv 1) lNil) lenD) (fC (zab (gv 0) lNil) lenD) neD) (zao 5 [TD rows,.lst (ow.map oD)])=.ok false:=by
  refine zav (zan (a:=nD rows.length) (b:=nD rows.length) (d:=.bl false) (zbA (zac (d:=.lst (ow.map oD)) rfl zai) (by rw [zcn,hl])) (zbA (zac (d:=TD rows) rfl zai) (zl1 _ _)) ?_)
  show some (D.bl (!(((rows.length:Nat):Int) == ((rows.length:Nat):Int))))=_
  simp
 unfold ooD
 cases e:rp [] 0 ow with
 | some j=>
  obtain ⟨r',h⟩:=i1 j e
  refine zcI (B:=zbL) (n:=5) (r':=r') ?_
  unfold zbL
  refine (zae ((if_f t).trans (e_skip _))).trans ?_
  refine (zae (r':=[some (TD rows),some (.lst (ow.map oD)),some (za9 []),none,none]) rfl).trans ?_
  exact zaX ((zaJ (ds:=enuD 0 (ow.map oD)) rfl).trans h)
 | none=>
  obtain ⟨d,x',y',h⟩:=i2 e
  refine zaQ (B:=zbL) (n:=5) ?_
  unfold zbL
  refine (zae ((if_f t).trans (e_skip _))).trans ?_
  refine (zae (r':=[some (TD rows),some (.lst (ow.map oD)),some (za9 []),none,none]) rfl).trans ?_
  exact (zae ((zaJ (ds:=enuD 0 (ow.map oD)) rfl).trans h)).trans (zap (zaA (zbA (zac (d:=.lst (ow.map oD)) rfl zai) rfl)))
abbrev pts (x:Str):List Str:=Txt.split x "; "
abbrev wds (p:Str):List Str:=Txt.split p " "
structure Bd (x:Str):Prop where
 l:x.length<=400
 n:(pts x).length<=60
 w:∀p∈pts x,(wds p).length<=60
theorem Bd.p {x p:Str} (b:Bd x) (h:p∈pts x):p.length<=400:=Nat.le_trans (zhN h) b.l
theorem Bd.wl {x p w:Str} (b:Bd x) (h:p∈pts x) (hw:w∈wds p):w.length<=1000:=by
 have h1:=zhN hw
 have h2:=b.p h
 omega
theorem zid (x y:Str):0 < (Txt.split x y).length:=by
 unfold Txt.split
 split
 ·simp
 ·split
  ·simp
  ·rw [StrLaws.partsBetween_eq]
   obtain ⟨p,r,e⟩:=StrLaws.partsFrom_ne x y.length 0 (Builtin.Str.occurrences x y 0 x.length (x.length + 1))
   rw [e]; simp
theorem zff (x y:Str) (hy:0 < y.length):(Txt.split x y).length<=x.length + 1:=by
 unfold Txt.split
 split
 ·simp
 ·split
  ·simp
  ·exact zim x y _ hy
theorem ziC {x:Str} (h:x.length<=59):Bd x where
 l:=by omega
 n:=Nat.le_trans (zff x "; " (by decide +kernel)) (by omega)
 w:=fun p hp=>Nat.le_trans (zff p " " (by decide +kernel)) (by have:=zhN hp; omega)
def fp:Nat->List Str->Option Nat
 | _,[]=>none
 | k,p::l=>if (gp (wds p)).isSome=true then fp (k + 1) l else some k
abbrev gl (x:Str):List PL:=(pts x).map fun p=>(gp (wds p)).getD []
theorem zhg:∀{l:List Str} {k:Nat},fp k l=none->∀p∈l,gp (wds p)=some ((gp (wds p)).getD [])
 | [],_,_=>fun _ h=>nomatch h
 | q::l,k,h=>by
  intro p hp
  unfold fp at h
  split at h
  ·rename_i g
   rcases List.mem_cons.mp hp with z | z
   ·rw [z]
    cases e:gp (wds q) with
    | none=>rw [e] at g; cases g
    | some y=>rfl
   ·exact zhg h p z
  ·cases h
def dueT (x:Str):D:=match fp 0 (pts x) with
 | some j=>.tup [.str "text",nD j]
 | none=>dueD (gl x)
theorem zow {ws:List Str} {l:PL} (h:gp ws=some l):pc ws=some l/\(l.filter (·.2)).length < 2:=by
 unfold gp at h
 cases e:pc ws with
 | none=>rw [e] at h; cases h
 | some l'=>
  rw [e] at h
  have h:(if (l'.filter (·.2)).length < 2 then some l' else none)=some l:=h
  split at h
  ·rename_i c; cases h; exact ⟨rfl,c⟩
  ·cases h
section
variable {x:Str}
theorem zie (b:Bd x):zdE (.str x) [.str "; "]=some (.lst ((pts x).map D.str)):=by
 exact zhw (by decide +kernel) (by have:=b.l; omega)
theorem zlo (b:Bd x) {p:Str} (h:p∈pts x):zdE (.str p) [.str " "]=some (WL (wds p)):=by
 exact zhw (by decide +kernel) (by have:=b.p h; omega)
theorem zks {T P:D}:∀(l:List Str) (k:Nat) (x2 x3:Option D),
  (∀j,fp k l=some j->forF (ftT (zak (ftN 2) (zak (ftN 3) zaW))) zbX (enuD k (l.map fun p=>lpD (gp (wds p)))) [some T,some P,x2,x3]=.rt (.tup [.str "text",nD j])) /\
  (fp k l=none->∃y2 y3,forF (ftT (zak (ftN 2) (zak (ftN 3) zaW))) zbX (enuD k (l.map fun p=>lpD (gp (wds p)))) [some T,some P,x2,x3]=.nx [some T,some P,y2,y3])
 | [],k,x2,x3=>⟨fun j h=>(nomatch h),fun _=>⟨x2,x3,zbt⟩⟩
 | p::l,k,x2,x3=>by
  obtain ⟨i1,i2⟩:=zks (T:=T) (P:=P) l (k + 1) (some (nD k)) (some (lpD (gp (wds p))))
  have t:fTest (f2 (gv 3) (fun _=>Res.ok D.non) isD) [some T,some P,some (nD k),some (lpD (gp (wds p)))]=.ok (!(gp (wds p)).isSome):=by
   refine zav (zan (a:=lpD (gp (wds p))) (b:=.non) rfl rfl ?_)
   cases gp (wds p) <;> rfl
  cases e:(gp (wds p)).isSome with
  | false=>
   rw [e] at t
   have ho:fp k (p::l)=some k:=by unfold fp; rw [e,if_neg Bool.false_ne_true]
   rw [ho]
   refine ⟨fun j z=>?_,fun z=>nomatch z⟩
   cases z
   exact zf5 (r1:=[some T,some P,some (nD k),some (lpD (gp (wds p)))]) rfl (zap ((if_t t).trans (zap (zaA (zc4 (zac (d:=.str "text") rfl (zac (d:=nD k) rfl zai)) (by simp))))))
  | true=>
   rw [e] at t
   have ho:fp k (p::l)=fp (k + 1) l:=by conv=>lhs; unfold fp; rw [e,if_pos rfl]
   have st:forF (ftT (zak (ftN 2) (zak (ftN 3) zaW))) zbX (enuD k ((p::l).map fun p=>lpD (gp (wds p)))) [some T,some P,x2,x3]=forF (ftT (zak (ftN 2) (zak (ftN 3) zaW))) zbX (enuD (k + 1) (l.map fun p=>lpD (gp (wds p)))) [some T,some P,some (nD k),some (lpD (gp (wds p)))]:=
    zb1 (r1:=[some T,some P,some (nD k),some (lpD (gp (wds p)))]) rfl (zae ((if_f t).trans (e_skip _)))
   rw [ho,st]
   exact ⟨i1,i2⟩
theorem zqV (b:Bd x) (h:fp 0 (pts x)=none):(gl x).length=(pts x).length/\(∀p∈gl x,p.length < 61)/\(∀p∈gl x,(p.filter (·.2)).length < 2)/\∀p∈gl x,∀q∈p,q.1 < 8:=by
 refine ⟨by simp,fun p hp=>?_,fun p hp=>?_,fun p hp=>?_⟩ <;> obtain ⟨s,hs,rfl⟩:=List.mem_map.mp hp <;> obtain ⟨g1,g2⟩:=zow (zhg h s hs) <;> obtain ⟨e1,e2,e3⟩:=zj0 g1
 ·rw [e2]; have:=b.w s hs; omega
 ·exact g2
 ·exact e3
theorem zlz (b:Bd x):zbK [.str x]=.ok (dueT x):=by
 obtain ⟨i1,i2⟩:=zks (T:=.str x) (P:=.lst ((pts x).map fun p=>lpD (gp (wds p)))) (pts x) 0 none none
 have hn:=b.n
 refine zaQ (B:=zcd) (n:=4) ?_
 unfold zcd
 refine (zae ((if_f (zdf (b:=true) (zbr (d:=.bl true) (zgA (a:=.str x) rfl rfl) rfl))).trans (e_skip _))).trans ?_
 refine (zae (r':=[some (.str x),some (.lst ((pts x).map fun p=>lpD (gp (wds p)))),none,none]) (zaC ((zcJ (l:=pts x) D.str (fun _=>true) (fun p=>lpD (gp (wds p))) (zc2 (d:=.lst ((pts x).map D.str)) (zfv (d:=.str x) rfl rfl (zac (d:=.str "; ") rfl zai) (zie b)) rfl) (by omega) fun p hp=>⟨[some (.str p)],rfl,rfl,fun _=>zau (zac (d:=.str p) rfl zai) (zjG (b.p hp) (fun w hw=>b.wl hp hw) (Nat.le_trans (b.w p hp) (by decide)))⟩).trans (by rw [zbV])))).trans ?_
 cases e:fp 0 (pts x) with
 | some j=>
  have hT:dueT x=.tup [.str "text",nD j]:=by simp only [dueT,e]
  rw [hT]
  exact zap ((zaJ (ds:=enuD 0 ((pts x).map fun p=>lpD (gp (wds p)))) rfl).trans (i1 j e))
 | none=>
  have hT:dueT x=dueD (gl x):=by simp only [dueT,e]
  rw [hT]
  obtain ⟨y2,y3,h⟩:=i2 e
  obtain ⟨g1,g2,g3,g4⟩:=zqV b e
  refine (zae ((zaJ (ds:=enuD 0 ((pts x).map fun p=>lpD (gp (wds p)))) rfl).trans h)).trans (zap (zaA ?_))
  have hne:0 < (gl x).length:=Nat.lt_of_lt_of_eq (zid x "; ") g1.symm
  have h60:(gl x).length<=60:=Nat.le_trans (Nat.le_of_eq g1) hn
  have lp:∀p∈pts x,lpD (gp (wds p))=.tup [LN (((gp (wds p)).getD []).map (·.1)),LN (ow ((gp (wds p)).getD []))]:=fun p hp=>by
   have:=zhg e p hp
   generalize gp (wds p)=o at this
   rw [this]; rfl
  have c1:∀(i:Nat) (f:PL->D),(∀p∈pts x,ixA (lpD (gp (wds p))) (nD i)=some (f ((gp (wds p)).getD [])))->zbZ 1 [] (fSeq zbf (gv 1)) (ftN 0) (fun _=>Res.ok true) (f2 (gv 0) (fun _=>Res.ok (D.int (i:Int))) ixA) [some (.str x),some (.lst ((pts x).map fun p=>lpD (gp (wds p)))),y2,y3]=.ok (.lst ((gl x).map f)):=fun i f hf=>by
   refine (zcJ (l:=pts x) (fun p=>lpD (gp (wds p))) (fun _=>true) (fun p=>f ((gp (wds p)).getD [])) (zc2 (d:=.lst ((pts x).map fun p=>lpD (gp (wds p)))) rfl rfl) (by omega) fun p hp=>⟨[some (lpD (gp (wds p)))],rfl,rfl,fun _=>zan (a:=lpD (gp (wds p))) (b:=nD i) rfl rfl (hf p hp)⟩).trans ?_
   rw [zbV,List.map_map]; rfl
  have q:∀A B:D,ixA (.tup [A,B]) (nD 0)=some A/\ixA (.tup [A,B]) (nD 1)=some B:=fun A B=>⟨zor rfl,zor rfl⟩
  have d0:=c1 0 (fun l=>LN (l.map (·.1))) fun p hp=>by rw [lp p hp]; exact (q _ _).1
  have d1:=c1 1 (fun l=>LN (ow l)) fun p hp=>by rw [lp p hp]; exact (q _ _).2
  have rd:=zlw (ls:=gl x) hne h60 g2 g3
  clear c1 lp g2 g3 g4 h i1 i2 hT
  generalize gl x=ls at d0 d1 rd hne h60 ⊢
  exact zau (zac d0 (zac d1 zai)) rd
theorem zjC (b:Bd x) {T P:D} {x4:Option D}:∀(l:List Str) (k:Nat) (x2 x3:Option D),(∀p∈l,p∈pts x)->k + l.length<=60 ->
  (∀j,fp k l=some j->∃r',forF (ftT (zak (ftN 2) (zak (ftN 3) zaW))) za1 (enuD k (l.map fun p=>WL (wds p))) [some T,some P,x2,x3,x4]=.exc (xD "NoText" [("at",nD j)]) r') /\
  (fp k l=none->∃y2 y3,forF (ftT (zak (ftN 2) (zak (ftN 3) zaW))) za1 (enuD k (l.map fun p=>WL (wds p))) [some T,some P,x2,x3,x4]=.nx [some T,some P,y2,y3,x4])
 | [],k,x2,x3,_,_=>⟨fun j h=>(nomatch h),fun _=>⟨x2,x3,zbt⟩⟩
 | p::l,k,x2,x3,hp,hk=>by
  simp only [List.length_cons] at hk
  have hpp:=hp p List.mem_cons_self
  obtain ⟨i1,i2⟩:=zjC b (T:=T) (P:=P) (x4:=x4) l (k + 1) (some (nD k)) (some (WL (wds p))) (fun q hq=>hp q (List.mem_cons_of_mem _ hq)) (by omega)
  have t:fNot (fTru (zaz (zab (gv 3) lNil) [] zdr)) [some T,some P,some (nD k),some (WL (wds p)),x4]=.ok (!(gp (wds p)).isSome):=zdf (zbr (d:=.bl (gp (wds p)).isSome) (zau (zac (d:=WL (wds p)) rfl zai) (ziT (fun w hw=>b.wl hpp hw) (by have:=b.w p hpp; omega))) rfl)
  cases e:(gp (wds p)).isSome with
  | false=>
   rw [e] at t
   have ho:fp k (p::l)=some k:=by unfold fp; rw [e,if_neg Bool.false_ne_true]
   rw [ho]
   refine ⟨fun j z=>?_,fun z=>nomatch z⟩
   cases z
   exact ⟨_,zhX (r1:=[some T,some P,some (nD k),some (WL (wds p)),x4]) rfl (zaX ((if_t t).trans (zaX (zii (i:=(k:Int)) (zac (d:=nD k) rfl zai) (zfm (by omega))))))⟩
  | true=>
   rw [e] at t
   have ho:fp k (p::l)=fp (k + 1) l:=by conv=>lhs; unfold fp; rw [e,if_pos rfl]
   have st:forF (ftT (zak (ftN 2) (zak (ftN 3) zaW))) za1 (enuD k ((p::l).map fun p=>WL (wds p))) [some T,some P,x2,x3,x4]=forF (ftT (zak (ftN 2) (zak (ftN 3) zaW))) za1 (enuD (k + 1) (l.map fun p=>WL (wds p))) [some T,some P,some (nD k),some (WL (wds p)),x4]:=
    zb1 (r1:=[some T,some P,some (nD k),some (WL (wds p)),x4]) rfl (zae ((if_f t).trans (e_skip _)))
   rw [ho,st]
   exact ⟨i1,i2⟩
def Says (r:Res D) (due:D):Prop:=(∃d,r=.ok d/\due=.tup [.str "told",.non])\/(∃j:Int,r=.exc (xD "NoText" [("at",.int j)])/\due=.tup [.str "text",.int j])\/(r=.exc (xD "TooMany" [])/\due=.tup [.str "many",.non])\/(∃j:Int,r=.exc (xD "NoRow" [("hand",.int j)])/\due=.tup [.str "row",.int j])\/∃j:Int,r=.exc (xD "NoOwn" [("hand",.int j)])/\due=.tup [.str "own",.int j]
theorem zlX {f:FE} {fl:Rho->Res (List D)} {r:Rho} {d x:D} (h:f r=.ok d) (h2:fl r=.exc x):mkT (zab f fl) r=.exc x:=by unfold mkT zab; rw [h,bind_ok,h2]; rfl
theorem zqv {f:FE} {fl:Rho->Res (List D)} {r:Rho} {x:D} (h:f r=.exc x):zab f fl r=.exc x:=by unfold zab; rw [h]; rfl
theorem znE {m:List Md} {f:FE} {r:Rho} {x:D} (h:f r=.exc x):retF m f r=.exc x (forget m r):=by unfold retF; rw [h]; rfl
section
variable {m:List Md} {fW fO:FE} {FW FO:List D->Res D} {T P y2 y3:Option D} {LW LO W O e:D}
abbrev rxB (m:List Md) (fW fO:FE) (FW FO:List D->Res D):FS:=seqF (setF m 4 (zc6 (zab fW lNil) [] FW)) (seqF (retF m (mkT (zab (gv 4) (zab (zc6 (zab (gv 4) (zab fO lNil)) [] FO) lNil)))) zaj)
theorem zpw (h1:fW [T,P,y2,y3,none]=.ok LW) (h2:FW [LW]=.exc e):∃r',rxB m fW fO FW FO [T,P,y2,y3,none]=.exc e r':=⟨_,zaX (znt (zb4 (zac h1 zai) h2))⟩
theorem zrL (h1:fW [T,P,y2,y3,none]=.ok LW) (h2:FW [LW]=.ok W) (h3:fO [T,P,y2,y3,some W]=.ok LO) (h4:FO [W,LO]=.exc e):∃r',rxB m fW fO FW FO [T,P,y2,y3,none]=.exc e r':=
 ⟨_,(zae (r':=[T,P,y2,y3,some W]) (zaC (zb4 (zac h1 zai) h2))).trans (zaX (znE (zlX (d:=W) rfl (zqv (zb4 (zac (d:=W) rfl (zac h3 zai)) h4)))))⟩
theorem zrK (h1:fW [T,P,y2,y3,none]=.ok LW) (h2:FW [LW]=.ok W) (h3:fO [T,P,y2,y3,some W]=.ok LO) (h4:FO [W,LO]=.ok O):rxB m fW fO FW FO [T,P,y2,y3,none]=.rt (.tup [W,O]):=
 (zae (r':=[T,P,y2,y3,some W]) (zaC (zb4 (zac h1 zai) h2))).trans (zap (zaA (zc4 (zac (d:=W) rfl (zac (zb4 (zac (d:=W) rfl (zac h3 zai)) h4) zai)) (by simp))))
theorem zpv {ls:List PL} {r0:Res D} {b:Out} (hb:∀{r' e},b=.exc e r'->r0=.exc e) (hb2:∀{d},b=.rt d->r0=.ok d) (st2:b=rxB m fW fO FW FO [T,P,y2,y3,none])
  (r1:fW [T,P,y2,y3,none]=.ok LW) (r2:∀x4:Option D,fO [T,P,y2,y3,x4]=.ok LO) (wo:FW [LW]=woD (zba ls))
  (ho:fb (hd (zba ls)) 0 (zba ls)=none->FO [TD (zba ls),LO]=ooD (owns ls)):Says r0 (dueD ls):=by
 cases ev:ver (zba ls) with
 | none=>
  have wo:FW [LW]=.exc (xD "TooMany" []):=by rw [wo]; simp only [woD,ev]
  have hd:dueD ls=.tup [.str "many",.non]:=by simp only [dueD,ev]
  rw [hd]
  obtain ⟨r',h⟩:=zpw (m:=m) (fO:=fO) (FO:=FO) r1 wo
  exact .inr (.inr (.inl ⟨hb (st2.trans h),rfl⟩))
 | some o=>
  cases o with
  | some j=>
   have wo:FW [LW]=.exc (xD "NoRow" [("hand",nD j)]):=by rw [wo]; simp only [woD,ev]
   have hd:dueD ls=.tup [.str "row",nD j]:=by simp only [dueD,ev]
   rw [hd]
   obtain ⟨r',h⟩:=zpw (m:=m) (fO:=fO) (FO:=FO) r1 wo
   exact .inr (.inr (.inr (.inl ⟨(j:Int),hb (st2.trans h),rfl⟩)))
  | none=>
   have wo:FW [LW]=.ok (TD (zba ls)):=by rw [wo]; simp only [woD,ev]
   have hvr:fb (Law.hd (zba ls)) 0 (zba ls)=none:=by
    unfold ver at ev
    split at ev
    ·cases ev
    ·exact Option.some.inj ev
   have ho:=ho hvr
   cases er:rp [] 0 (owns ls) with
   | none=>
    have ho:FO [TD (zba ls),LO]=.ok (.tup ((owns ls).map oD)):=by rw [ho]; simp only [ooD,er]
    have hd:dueD ls=.tup [.str "told",.non]:=by simp only [dueD,ev,er]
    rw [hd]
    exact .inl ⟨_,hb2 (st2.trans (zrK r1 wo (r2 _) ho)),rfl⟩
   | some j=>
    have ho:FO [TD (zba ls),LO]=.exc (xD "NoOwn" [("hand",nD j)]):=by rw [ho]; simp only [ooD,er]
    have hd:dueD ls=.tup [.str "own",nD j]:=by simp only [dueD,ev,er]
    rw [hd]
    obtain ⟨r',h⟩:=zrL (m:=m) r1 wo (r2 _) ho
    exact .inr (.inr (.inr (.inr ⟨(j:Int),hb (st2.trans h),rfl⟩)))
theorem zrU {ls:List PL} (hne:0 < ls.length) (h60:ls.length<=60) (hvr:fb (hd (zba ls)) 0 (zba ls)=none):zbu [TD (zba ls),.lst (ls.map fun l=>oD (firstS l))]=ooD (owns ls):=by
 have ho:=zpz (rows:=zba ls) (ow:=owns ls) (by rw [List.length_map]; exact hne) (by rw [List.length_map,List.length_map]) (by rw [List.length_map]; exact h60) (fun z hz=>by
  obtain ⟨l,hl,e3⟩:=List.mem_map.mp hz
  have hg:=zm7 hvr (rowD l) (List.mem_map.mpr ⟨l,hl,rfl⟩)
  have hp:=zhc.mp hg
  have:z∈l.map (·.1):=by
   unfold firstS at e3
   have:=List.mem_of_head? e3
   obtain ⟨q,hq,rfl⟩:=List.mem_map.mp this
   exact List.mem_map.mpr ⟨q,(List.mem_filter.mp hq).1,rfl⟩
  exact List.mem_range.mp (hp.mem_iff.mp this))
 have e4:(owns ls).map oD=ls.map fun l=>oD (firstS l):=by rw [List.map_map]; rfl
 rw [e4] at ho
 exact ho
end
theorem zpy (b:Bd x):Says (zaS [.str x]) (dueT x):=by
 obtain ⟨i1,i2⟩:=zjC b (T:=.str x) (P:=.lst ((pts x).map fun p=>WL (wds p))) (x4:=none) (pts x) 0 none none (fun p hp=>hp) (by have:=b.n; omega)
 have hn:=b.n
 have st:zaB (zao 5 [.str x])=(seqF (zb3 q0 (fEnu (gv 1)) (ftT (zak (ftN 2) (zak (ftN 3) zaW))) za1) (seqF (setF q0 4 (zc6 (zab (zbZ 1 [] (fSeq zbf (gv 1)) (ftN 0) (fun _=>Res.ok true) (zaz (zab (gv 0) lNil) [] zcQ)) lNil) [] zbm)) (seqF (retF q0 (mkT (zab (gv 4) (zab (zc6 (zab (gv 4) (zab (zbZ 1 [] (fSeq zbf (gv 1)) (ftN 0) (fun _=>Res.ok true) (zaz (zab (gv 0) lNil) [] zcR)) lNil)) [] zbu) lNil)))) zaj))) [some (.str x),some (.lst ((pts x).map fun p=>WL (wds p))),none,none,none]:=by
  unfold zaB
  refine (zae ((if_f (zdf (b:=true) (zbr (d:=.bl true) (zgA (a:=.str x) rfl rfl) rfl))).trans (e_skip _))).trans ?_
  exact zae (zaC ((zcJ (l:=pts x) D.str (fun _=>true) (fun p=>WL (wds p)) (zc2 (d:=.lst ((pts x).map D.str)) (zfv (d:=.str x) rfl rfl (zac (d:=.str "; ") rfl zai) (zie b)) rfl) (by omega) fun p hp=>⟨[some (.str p)],rfl,rfl,fun _=>zfv (d:=.str p) rfl rfl (zac (d:=.str " ") rfl zai) (zlo b hp)⟩).trans (by rw [zbV])))
 cases e:fp 0 (pts x) with
 | some j=>
  have hT:dueT x=.tup [.str "text",nD j]:=by simp only [dueT,e]
  rw [hT]
  obtain ⟨r',h⟩:=i1 j e
  exact .inr (.inl ⟨(j:Int),zcI (B:=zaB) (n:=5) (r':=r') (st.trans (zaX ((zaJ (ds:=enuD 0 ((pts x).map fun p=>WL (wds p))) rfl).trans h))),rfl⟩)
 | none=>
  have hT:dueT x=dueD (gl x):=by simp only [dueT,e]
  rw [hT]
  obtain ⟨y2,y3,h⟩:=i2 e
  obtain ⟨g1,g2,g3,g4⟩:=zqV b e
  have hne:0 < (gl x).length:=Nat.lt_of_lt_of_eq (zid x "; ") g1.symm
  have h60:(gl x).length<=60:=Nat.le_trans (Nat.le_of_eq g1) hn
  have c1:∀(F:List D->Res D) (f:PL->D) (x4:Option D),(∀p∈pts x,F [WL (wds p)]=.ok (f ((gp (wds p)).getD [])))->zbZ 1 [] (fSeq zbf (gv 1)) (ftN 0) (fun _=>Res.ok true) (zaz (zab (gv 0) lNil) [] F) [some (.str x),some (.lst ((pts x).map fun p=>WL (wds p))),y2,y3,x4]=.ok (.lst ((gl x).map f)):=fun F f x4 hf=>by
   refine (zcJ (l:=pts x) (fun p=>WL (wds p)) (fun _=>true) (fun p=>f ((gp (wds p)).getD [])) (zc2 (d:=.lst ((pts x).map fun p=>WL (wds p))) rfl rfl) (by omega) fun p hp=>⟨[some (WL (wds p))],rfl,rfl,fun _=>zau (zac (d:=WL (wds p)) rfl zai) (hf p hp)⟩).trans ?_
   rw [zbV,List.map_map]; rfl
  have r1:=c1 zcQ (fun l=>LN (l.map (·.1))) none fun p hp=>zjD (zow (zhg e p hp)).1 (fun w hw=>b.wl hp hw) (by have:=b.w p hp; omega)
  have r2:=fun x4=>c1 zcR (fun l=>oD (firstS l)) x4 fun p hp=>zjE (zow (zhg e p hp)).1 (fun w hw=>b.wl hp hw)
  have wo:=zpx (ps:=(gl x).map fun l=>(false,rowD l)) (fun row hr d hd=>by
   obtain ⟨q,hq,rfl⟩:=List.mem_map.mp hr
   obtain ⟨l,_,rfl⟩:=List.mem_map.mp hq
   obtain ⟨z,_,rfl⟩:=List.mem_map.mp (show d∈rowD l from hd)
   exact .int _) (fun row hr=>by
   obtain ⟨q,hq,rfl⟩:=List.mem_map.mp hr
   obtain ⟨l,hl,rfl⟩:=List.mem_map.mp hq
   have:=g2 l hl
   show (rowD l).length<=60
   rw [List.length_map,List.length_map]; omega) (by rw [List.length_map]; exact h60)
  have e1:((gl x).map fun l=>((false,rowD l):Bool × List D)).map gD=(gl x).map fun l=>LN (l.map (·.1)):=by rw [List.map_map]; rfl
  have e2:RS ((gl x).map fun l=>((false,rowD l):Bool × List D))=zba (gl x):=by show ((gl x).map fun l=>((false,rowD l):Bool × List D)).map (·.2)=_; rw [List.map_map]; rfl
  rw [e1,e2] at wo
  have st2:zaB (zao 5 [.str x])=(seqF (setF q0 4 (zc6 (zab (zbZ 1 [] (fSeq zbf (gv 1)) (ftN 0) (fun _=>Res.ok true) (zaz (zab (gv 0) lNil) [] zcQ)) lNil) [] zbm)) (seqF (retF q0 (mkT (zab (gv 4) (zab (zc6 (zab (gv 4) (zab (zbZ 1 [] (fSeq zbf (gv 1)) (ftN 0) (fun _=>Res.ok true) (zaz (zab (gv 0) lNil) [] zcR)) lNil)) [] zbu) lNil)))) zaj)) [some (.str x),some (.lst ((pts x).map fun p=>WL (wds p))),y2,y3,none]:=st.trans (zae ((zaJ (ds:=enuD 0 ((pts x).map fun p=>WL (wds p))) rfl).trans h))
  exact zpv (fun h=>zcI (B:=zaB) (n:=5) h) (fun h=>zaQ (B:=zaB) (n:=5) h) st2 r1 r2 wo (zrU hne h60)
end
theorem zgu {m1 m2:List Md} {t:Str->Option Bool} {s:Str} {fe:FE} {x d:D} {b:Bool} {l:List D} (h:isxD t x=some (.bl b)) (hf:b=true->fe [some x,some (.lst l)]=.ok d) (hl:l.length<=10) :
  ifF m1 (fTru (f1 (gv 0) (isxD t))) (seqF (mutF "list" m2 1 (zab (mkT (zab (fun _=>Res.ok (D.str s)) (zab fe lNil))) lNil) appD) zaj) zaj [some x,some (.lst l)]=.nx [some x,some (.lst (if b=true then l++[.tup [.str s,d]] else l))]:=by
 have t:fTru (f1 (gv 0) (isxD t)) [some x,some (.lst l)]=.ok b:=zbr (d:=.bl b) (zgA (a:=x) rfl h) rfl
 cases b with
 | false=>exact (if_f t).trans (e_skip _)
 | true=>exact (if_t t).trans (zae (zeM (d:=.lst l) (ds:=[.tup [.str s,d]]) rfl rfl (zac (zc4 (zac (d:=.str s) rfl (zac (hf rfl) zai)) (by simp)) zai) (zdV (by omega))))
theorem ze2 {x d0 d1 d2:D} {b0 b1 b2 b3:Bool} (h0:isxD zdt x=some (.bl b0)) (h1:isxD zcE x=some (.bl b1)) (h2:isxD zd3 x=some (.bl b2)) (h3:isxD zd4 x=some (.bl b3)) (h4:isxD zbM x=some (.bl true))
  (e0:b0=true->xatD ziD "at" x=some d0) (e1:b2=true->xatD zdv "hand" x=some d1) (e2:b3=true->xatD zdv "hand" x=some d2) :
  zay [x]=.ok (.lst ((if b0=true then [.tup [.str "text",d0]] else [])++(if b1=true then [.tup [.str "many",.non]] else [])++(if b2=true then [.tup [.str "row",d1]] else [])++(if b3=true then [.tup [.str "own",d2]] else []))):=by
 refine zaQ (B:=zbR) (n:=2) ?_
 unfold zbR
 refine (zae (r':=[some x,some (.lst [])]) (zaC (zbU zai (by simp)))).trans ?_
 refine (zae (zgu h0 (fun hb=>zgA (a:=x) rfl (e0 hb)) (by simp))).trans ?_
 refine (zae (zgu (d:=.non) h1 (fun _=>rfl) (by cases b0 <;> simp))).trans ?_
 refine (zae (zgu h2 (fun hb=>zgA (a:=x) rfl (e1 hb)) (by cases b0 <;> cases b1 <;> simp))).trans ?_
 refine (zae (zgu h3 (fun hb=>zgA (a:=x) rfl (e2 hb)) (by cases b0 <;> cases b1 <;> cases b2 <;> simp))).trans ?_
 refine (zae ((if_f (zdf (b:=true) (zbr (d:=.bl true) (zgA (a:=x) rfl h4) rfl))).trans (e_skip _))).trans (zap (zaA ?_))
 cases b0 <;> cases b1 <;> cases b2 <;> cases b3 <;> rfl
theorem zon (j:Int):zay [xD "NoText" [("at",.int j)]]=.ok (.lst [.tup [.str "text",.int j]]):=ze2 (d0:=.int j) (d1:=.non) (d2:=.non) (b0:=true) (b1:=false) (b2:=false) (b3:=false) rfl rfl rfl rfl rfl (fun _=>rfl) (fun h=>nomatch h) (fun h=>nomatch h)
theorem zoo:zay [xD "TooMany" []]=.ok (.lst [.tup [.str "many",.non]]):=ze2 (d0:=.non) (d1:=.non) (d2:=.non) (b0:=false) (b1:=true) (b2:=false) (b3:=false) rfl rfl rfl rfl rfl (fun h=>nomatch h) (fun h=>nomatch h) (fun h=>nomatch h)
theorem zqA (j:Int):zay [xD "NoRow" [("hand",.int j)]]=.ok (.lst [.tup [.str "row",.int j]]):=ze2 (d0:=.non) (d1:=.int j) (d2:=.non) (b0:=false) (b1:=false) (b2:=true) (b3:=false) rfl rfl rfl rfl rfl (fun h=>nomatch h) (fun _=>rfl) (fun h=>nomatch h)
theorem zqB (j:Int):zay [xD "NoOwn" [("hand",.int j)]]=.ok (.lst [.tup [.str "own",.int j]]):=ze2 (d0:=.non) (d1:=.non) (d2:=.int j) (b0:=false) (b1:=false) (b2:=false) (b3:=true) rfl rfl rfl rfl rfl (fun h=>nomatch h) (fun h=>nomatch h) (fun _=>rfl)
theorem zqp {s:Str} {d:D} (hs:PyData.strOk s=true) (hd:d=.non\/∃j:Int,d=.int j):neD (.lst [.tup [.str s,d]]) (.lst [.tup [.str s,d]])=some (.bl false):=by
 have s0:Shp 58 d:=by rcases hd with rfl | ⟨j,rfl⟩ <;> trivial
 have s1:Shp 59 (.tup [.str s,d]):=zhy.mpr fun e he=>by
  rcases List.mem_cons.mp he with z | z
  ·rw [z]; exact hs
  ·rw [List.mem_singleton.mp z]; exact s0
 have sh:Shp 60 (.lst [.tup [.str s,d]]):=zcG.mpr fun e he=>by rw [List.mem_singleton.mp he]; exact s1
 unfold neD
 rw [zix rfl sh sh]
 unfold eqb
 rcases hd with rfl | ⟨j,rfl⟩ <;> simp [toPy,zcv,PyData.eqv,PyData.eqvAll]
def Tx (T:D):Prop:=(∃x,T=.str x/\Bd x)\/isiD "str" T=some (.bl false)
theorem ix_str {S:Str} {i:Nat} (h:i < S.length) (hl:S.length<=1000):∃c:Nat,ixA (.str S) (nD i)=some (.str ⟨#[c]⟩):=by
 have hi:i < S.cps.toList.length:=by rw [<-zcF]; exact h
 refine ⟨S.cps.toList[i],?_⟩
 show (if S.length<=sizeLine then (atI S.cps.toList (i:Int)).map fun c=>D.str ⟨#[c]⟩ else none)=_
 rw [if_pos (by rw [sizeLine_eq]; omega)]
 have:atI S.cps.toList (i:Int)=some S.cps.toList[i]:=by
  unfold atI ixN
  rw [if_pos (by omega),if_pos (by omega)]
  show S.cps.toList[((i:Nat):Int).toNat]? = _
  rw [Int.toNat_natCast,List.getElem?_eq_getElem hi]
 rw [this]; rfl
abbrev chS:Str := " !\"#$&'()*+,-./0123456789:;<=>?@ABCDEFGHIJKLMNOPQRSTUVWXYZ[\\]^_abcdefghijklmnopqrstuvwxyz{|}~"
theorem zhF {x:Str} {c:Nat} (hx:x.length<=56):∃y:Str,y.length<=x.length + 1/\zbQ [.str x,nD c]=.ok (.str y):=by
 obtain ⟨S,hS0,hS1,hif⟩:∃S:Str,0 < S.length/\S.length<=200/\ifF q109 (fTest (f2 (f2 (gv 1) (ci 2) modI) (ci 0) eqD)) (seqF (setF q109 2 (fun _=>Res.ok (D.str "ABCDH*; "))) zaj) zaj [some (.str x),some (nD c),some (.str chS),none,none]=.nx [some (.str x),some (nD c),some (.str S),none,none]:=by
  have t:=zav (zan (f:=f2 (gv 1) (ci 2) modI) (f':=fun _=>Res.ok (D.int 0)) (r:=[some (.str x),some (nD c),some (.str chS),none,none]) (a:=nD (c % 2)) (b:=nD 0) (zan (a:=nD c) (b:=nD 2) rfl rfl (zdg (by decide))) rfl (zhk _ _))
  by_cases h:c % 2=0
  ·rw [decide_eq_true h] at t
   exact ⟨_,by decide +kernel,by decide +kernel,(if_t t).trans (zae (r':=[some (.str x),some (nD c),some (.str "ABCDH*; "),none,none]) (zaC rfl))⟩
  ·rw [decide_eq_false h] at t
   exact ⟨_,by decide +kernel,by decide +kernel,(if_f t).trans (e_skip _)⟩
 have hat:c / 6 % (x.length + 1) < x.length + 1:=Nat.mod_lt _ (by omega)
 generalize ea:c / 6 % (x.length + 1)=at' at hat
 obtain ⟨ch,hch⟩:=ix_str (S:=S) (i:=c / 600 % S.length) (Nat.mod_lt _ hS0) (by omega)
 have h1:(Txt.slice x none (some (at':Int))).length<=at':=Nat.le_trans (zfg _ _ _) (zqR _ _)
 have h2:(Txt.slice x (some (at':Int)) none).length<=x.length - at':=Nat.le_trans (zfg _ _ _) (zit _ _)
 have h3:(Txt.slice x (some ((at' + 1:Nat):Int)) none).length<=x.length - (at' + 1):=Nat.le_trans (zfg _ _ _) (zit _ _)
 have h4:((⟨#[ch]⟩:Str)).length=1:=rfl
 generalize hr:([some (.str x),some (nD c),some (.str S),some (nD at'),some (.str ⟨#[ch]⟩)]:Rho)=r
 have s1:fSlX (gv 0) (fun _=>Res.ok none) (zcy (gv 3)) r=.ok (.str (Txt.slice x none (some (at':Int)))):=by rw [<-hr]; exact zfY (d:=.str x) (lo:=none) (hi:=some (at':Int)) rfl rfl (zdS (i:=(at':Int)) rfl) (zeq _ _ (by omega))
 have s2:fSlX (gv 0) (zcy (gv 3)) (fun _=>Res.ok none) r=.ok (.str (Txt.slice x (some (at':Int)) none)):=by rw [<-hr]; exact zfY (d:=.str x) (lo:=some (at':Int)) (hi:=none) rfl (zdS (i:=(at':Int)) rfl) rfl (zeq _ _ (by omega))
 have s3:fSlX (gv 0) (zcy (f2 (gv 3) (ci 1) addA)) (fun _=>Res.ok none) r=.ok (.str (Txt.slice x (some ((at' + 1:Nat):Int)) none)):=by rw [<-hr]; exact zfY (d:=.str x) (lo:=some ((at' + 1:Nat):Int)) (hi:=none) rfl (zdS (i:=((at' + 1:Nat):Int)) (zan (a:=nD at') (b:=nD 1) rfl rfl (zdM _ _))) rfl (zeq _ _ (by omega))
 have s4:(fun r=>getV r 4:FE) r=.ok (.str ⟨#[ch]⟩):=by rw [<-hr]; rfl
 have s5:f2 (f2 (gv 1) (ci 2) zdA) (ci 3) modI r=.ok (nD (c / 2 % 3)):=by rw [<-hr]; exact zan (a:=nD (c / 2)) (b:=nD 3) (zan (a:=nD c) (b:=nD 2) rfl rfl (zdl (by decide) (by decide))) rfl (zdg (by decide))
 generalize Txt.slice x none (some (at':Int))=A1 at h1 s1
 generalize Txt.slice x (some (at':Int)) none=A2 at h2 s2
 generalize Txt.slice x (some ((at' + 1:Nat):Int)) none=A3 at h3 s3
 generalize (⟨#[ch]⟩:Str)=A4 at h4 s4 hr hch
 have l1:(A1++A4).length=A1.length + A4.length:=strLen_append _ _
 have l2:(A1++A4++A2).length=(A1++A4).length + A2.length:=strLen_append _ _
 have l3:(A1++A3).length=A1.length + A3.length:=strLen_append _ _
 have l4:(A1++A4++A3).length=(A1++A4).length + A3.length:=strLen_append _ _
 have hw:c / 2 % 3 < 3:=Nat.mod_lt _ (by decide)
 obtain ⟨y,hy1,hy2⟩:∃y:Str,y.length<=x.length + 1/\([.str (A1++A4++A2),.str (A1++A3),.str (A1++A4++A3)]:List D)[c / 2 % 3]? = some (.str y):=by
  generalize c / 2 % 3=j at hw
  match j,hw with
  | 0,_=>exact ⟨_,by omega,rfl⟩
  | 1,_=>exact ⟨_,by omega,rfl⟩
  | 2,_=>exact ⟨_,by omega,rfl⟩
 refine ⟨y,hy1,zaQ (B:=zbS) (n:=5) ?_⟩
 unfold zbS
 refine (zae (r':=[some (.str x),some (nD c),some (.str chS),none,none]) (zaC rfl)).trans ?_
 refine (zae hif).trans ?_
 refine (zae (r':=[some (.str x),some (nD c),some (.str S),some (nD at'),none]) (zaC (zan (a:=nD (c / 6)) (b:=nD (x.length + 1)) (zan (a:=nD c) (b:=nD 6) rfl rfl (zdl (by decide) (by decide))) (zan (a:=nD x.length) (b:=nD 1) (zbA (zac (d:=.str x) rfl zai) (zoj (by omega))) rfl (zdM _ _)) (by rw [zdg (by omega),ea])))).trans ?_
 refine (zae (r':=r) (by rw [<-hr]; exact zaC (zan (a:=.str S) (b:=nD (c / 600 % S.length)) rfl (zan (a:=nD (c / 600)) (b:=nD S.length) (zan (a:=nD c) (b:=nD 600) rfl rfl (zdl (by decide) (by decide))) (zbA (zac (d:=.str S) rfl zai) (zoj (by omega))) (zdg hS0)) hch))).trans ?_
 clear hr
 refine zap (zaA (zan (a:=.lst [.str (A1++A4++A2),.str (A1++A3),.str (A1++A4++A3)]) (b:=nD (c / 2 % 3)) (zbU (zac ?_ (zac ?_ (zac ?_ zai))) (by simp)) s5 (zi3 hy2)))
 ·exact zan (a:=.str (A1++A4)) (b:=.str A2) (zan (a:=.str A1) (b:=.str A4) s1 s4 (zfE (by omega))) s2 (zfE (by omega))
 ·exact zan (a:=.str A1) (b:=.str A3) s1 s3 (zfE (by omega))
 ·exact zan (a:=.str (A1++A4)) (b:=.str A3) (zan (a:=.str A1) (b:=.str A4) s1 s4 (zfE (by omega))) s3 (zfE (by omega))
theorem zna {k:Nat} {s:Str} (hk:0 < k) (hk2:k<=8) (hs:s.length<=15) (hf:59∉s.cps.toList):Bd (Str.join "; " (List.replicate k s)):=by
 have e:pts (Str.join "; " (List.replicate k s))=List.replicate k s:=ziM (c:=59) (cs:=[32]) (by kernel_rfl) (by decide +kernel) (by simp) (by intro z; rw [List.replicate_eq_nil_iff] at z; omega) fun p hp=>by rw [List.eq_of_mem_replicate hp]; exact hf
 refine ⟨?_,by rw [e,List.length_replicate]; omega,fun p hp=>?_⟩
 ·have h:=StrLaws.join_length_le "; " (List.replicate k s)
  have h2:=StrLaws.sumLen_le (B:=15) (List.replicate k s) (fun y hy=>by rw [List.eq_of_mem_replicate hy]; exact hs)
  have h3:(("; " : Str)).length=2:=by decide +kernel
  rw [h3,List.length_replicate] at h
  rw [List.length_replicate] at h2
  omega
 ·rw [e] at hp
  have hp:=List.eq_of_mem_replicate hp
  rw [hp]
  have h5:(wds s).length<=s.length + 1:=zff s " " (by decide +kernel)
  exact Nat.le_trans h5 (by omega)
theorem znG (ds:List D) (k:Int):repD (.lst ds) (.int k)=if -(2 ^ 62)<=k/\k < 2 ^ 62/\ds.length * k.toNat<=sizeLine then some (.lst ((List.replicate k.toNat ds).flatten)) else none:=rfl
theorem znF (s:Str) {k:Nat} (h:k<=60):repD (.lst [.str s]) (nD k)=some (.lst ((List.replicate k s).map D.str)):=by
 rw [znG,if_pos ⟨by omega,by omega,by rw [sizeLine_eq,Int.toNat_natCast,List.length_singleton]; omega⟩,Int.toNat_natCast]
 congr 2
 induction k with
 | zero=>rfl
 | succ k ih=>rw [List.replicate_succ,List.flatten_cons,ih (by omega),List.replicate_succ]; rfl
theorem zh5 {a b:List D} (h:a.length + b.length<=1000):addA (.lst a) (.lst b)=some (.lst (a++b)):=by
 show (if a.length + b.length<=sizeLine then _ else _)=_
 rw [if_pos (by rw [sizeLine_eq]; omega)]
theorem zaY {s:Str} {fl:Rho->Res (List D)} {r:Rho} {ds:List D} (h:fl r=.ok ds):zab (fun _=>Res.ok (D.str s)) fl r=.ok (.str s::ds):=zac rfl h
abbrev odd1:List D:=[.str "",.str " ",.str "A",.str "A*",.str "A**",.str "*",.str "A *",.str "a",.str "A B; A B; A B",.str "A B;A B",.str "A B ; A B",.str "A B;  A B",.str "A B; "]
abbrev odd2:List D:=[.str "; A B",.str "A  B",.str "A* B*",.str "A* B; A* B",.str "B A; A",.str "A B; A C",.str "A A; A B",.str "A,B",.str "A B\\; A B",.str "I"]
abbrev odd3:List D:=[.str "A B C D E F G H; H G F E D C B A*",.non,.int 7,.lst [.str "A"],.bl true]
abbrev odd4:List D:=[.str (Str.join "; " (List.replicate 8 "A B C D E F G H")),.str "A B C D E F G H A",.str (Str.join "; " (List.replicate 7 "A B C D E F G"))]
theorem zo7:∀d∈odd1++odd2++odd3++odd4,Tx d:=by
 have sh:∀s:Str,s.length<=59->Tx (.str s):=fun s h=>.inl ⟨s,rfl,ziC h⟩
 have b8:Tx (.str (Str.join "; " (List.replicate 8 "A B C D E F G H"))):=.inl ⟨_,rfl,zna (by decide) (by decide) (by decide +kernel) (by decide +kernel)⟩
 have b7:Tx (.str (Str.join "; " (List.replicate 7 "A B C D E F G"))):=.inl ⟨_,rfl,zna (by decide) (by decide) (by decide +kernel) (by decide +kernel)⟩
 have tn:∀d∈([]:List D),Tx d:=fun _ h=>nomatch h
 have tc:∀{d:D} {l:List D},Tx d->(∀e∈l,Tx e)->∀e∈d::l,Tx e:=fun h1 h2 e he=>(List.mem_cons.mp he).elim (fun z=>z ▸ h1) (h2 e)
 have ta:∀{a b:List D},(∀e∈a,Tx e)->(∀e∈b,Tx e)->∀e∈a++b,Tx e:=fun h1 h2 e he=>(List.mem_append.mp he).elim (h1 e) (h2 e)
 have t1:∀d∈odd1,Tx d:=(tc (sh _ (by decide +kernel)) (tc (sh _ (by decide +kernel)) (tc (sh _ (by decide +kernel)) (tc (sh _ (by decide +kernel)) (tc (sh _ (by decide +kernel)) (tc (sh _ (by decide +kernel)) (tc (sh _ (by decide +kernel)) (tc (sh _ (by decide +kernel)) (tc (sh _ (by decide +kernel)) (tc (sh _ (by decide +kernel)) (tc (sh _ (by decide +kernel)) (tc (sh _ (by decide +kernel)) (tc (sh _ (by decide +kernel)) tn)))))))))))))
 have t2:∀d∈odd2,Tx d:=(tc (sh _ (by decide +kernel)) (tc (sh _ (by decide +kernel)) (tc (sh _ (by decide +kernel)) (tc (sh _ (by decide +kernel)) (tc (sh _ (by decide +kernel)) (tc (sh _ (by decide +kernel)) (tc (sh _ (by decide +kernel)) (tc (sh _ (by decide +kernel)) (tc (sh _ (by decide +kernel)) (tc (sh _ (by decide +kernel)) tn))))))))))
 have t3:∀d∈odd3,Tx d:=(tc (sh _ (by decide +kernel)) (tc (.inr rfl) (tc (.inr rfl) (tc (.inr rfl) (tc (.inr rfl) tn)))))
 have t4:∀d∈odd4,Tx d:=(tc b8 (tc (sh _ (by decide +kernel)) (tc b7 tn)))
 exact ta (ta (ta t1 t2) t3) t4
theorem znA (c:Nat):∃T,Tx T/\zcD [nD c]=.ok T:=by
 have hl:(odd1++odd2++odd3++odd4).length=31:=rfl
 have hi:c % 31 < (odd1++odd2++odd3++odd4).length:=Nat.mod_lt _ (by decide)
 have hg:(odd1++odd2++odd3++odd4)[c % 31]? = some ((odd1++odd2++odd3++odd4)[c % 31]'hi):=List.getElem?_eq_getElem hi
 refine ⟨_,zo7 _ (List.getElem_mem hi),zaQ (B:=zdy) (n:=2) ?_⟩
 unfold zdy
 refine (zae (r':=[some (nD c),some (.lst odd1)]) (zaC (zbU (zaY (zaY (zaY (zaY (zaY (zaY (zaY (zaY (zaY (zaY (zaY (zaY (zaY zai))))))))))))) (by simp)))).trans ?_
 refine (zae (r':=[some (nD c),some (.lst (odd1++odd2))]) (zaC (zan (a:=.lst odd1) (b:=.lst odd2) rfl (zbU (zaY (zaY (zaY (zaY (zaY (zaY (zaY (zaY (zaY (zaY zai)))))))))) (by simp)) (zh5 (by simp))))).trans ?_
 refine (zae (r':=[some (nD c),some (.lst (odd1++odd2++odd3))]) (zaC (zan (a:=.lst (odd1++odd2)) (b:=.lst odd3) rfl (zbU (zaY (zac (d:=.non) rfl (zac (d:=.int 7) rfl (zac (d:=.lst [.str "A"]) (zbU (zaY zai) (by simp)) (zac (d:=.bl true) rfl zai))))) (by simp)) (zh5 (by simp))))).trans ?_
 have jn:∀(s:Str) (k:Nat) (r:Rho),k<=8->s.length<=15->fM "str" (fun _=>Res.ok (D.str "; ")) (zab (f2 (mkL (zab (fun _=>Res.ok (D.str s)) lNil)) (fun _=>Res.ok (D.int (k:Int))) repD) lNil) zg9 r=.ok (.str (Str.join "; " (List.replicate k s))):=fun s k r hk hs=>by
  have h3:(("; " : Str)).length=2:=by decide +kernel
  exact zfv (d:=.str "; ") rfl rfl (zac (d:=.lst ((List.replicate k s).map D.str)) (zan (a:=.lst [.str s]) (b:=nD k) (zbU (zaY zai) (by simp)) rfl (znF s (by omega))) zai) (zkz (B:=15) (fun y hy=>by rw [List.eq_of_mem_replicate hy]; exact hs) (by rw [h3,List.length_replicate]; omega))
 refine (zae (r':=[some (nD c),some (.lst (odd1++odd2++odd3++odd4))]) (zaC (zan (a:=.lst (odd1++odd2++odd3)) (b:=.lst odd4) rfl (zbU (zac (jn "A B C D E F G H" 8 _ (by decide) (by decide +kernel)) (zaY (zac (jn "A B C D E F G" 7 _ (by decide) (by decide +kernel)) zai))) (by simp)) (zh5 (by simp))))).trans ?_
 exact zap (zaA (zan (a:=.lst (odd1++odd2++odd3++odd4)) (b:=nD (c % 31)) rfl (zan (a:=nD c) (b:=nD 31) rfl (zbA (zac (d:=.lst (odd1++odd2++odd3++odd4)) rfl zai) (by rw [lenL]; rfl)) (zdg (by decide))) (zi3 hg)))
theorem zng {m1:List Md} {i:Nat} {h1:Str->Bool} {fb f1:FS} {r r' r2:Rho} {nm:Str} {ds:List (Str × D)} (h:fb r=.exc (xD nm ds) r') (hh:h1 nm=true) (hs:f1 (r'.set i (some (xD nm ds)))=.nx r2):tryF m1 i h1 fb f1 r=.nx (r2.set i none):=by
 unfold tryF; rw [h]
 show (if h1 nm=true then (match f1 (r'.set i (some (xD nm ds))) with | .nx r2=>Out.nx (r2.set i none) | _=>.stuck) else _)=_
 rw [if_pos hh,hs]
theorem zo9 {m1:List Md} {i:Nat} {h1:Str->Bool} {fb f1:FS} {r r':Rho} (h:fb r=.nx r'):tryF m1 i h1 fb f1 r=.nx (forget m1 r'):=by unfold tryF; rw [h]
theorem zrc {T:D} (h:Tx T):∃due,zbK [T]=.ok due/\Says (zaS [T]) due:=by
 rcases h with ⟨x,rfl,b⟩ | h
 ·exact ⟨_,zlz b,zpy b⟩
 ·refine ⟨.tup [.str "text",.int (-1)],?_,.inr (.inl ⟨-1,?_,rfl⟩)⟩
  ·refine zaQ (B:=zcd) (n:=4) ?_
   unfold zcd
   exact zap ((if_t (zdf (b:=false) (zbr (d:=.bl false) (zgA (a:=T) rfl h) rfl))).trans (zap (zaA (zc4 (zac (d:=.str "text") rfl (zac (d:=.int (-1)) rfl zai)) (by simp)))))
  ·refine zcI (B:=zaB) (n:=5) (r':=forget q0 (zao 5 [T])) ?_
   unfold zaB
   exact zaX ((if_t (zdf (b:=false) (zbr (d:=.bl false) (zgA (a:=T) rfl h) rfl))).trans (zaX (zii (i:=-1) (zac (d:=.int (-1)) rfl zai) (by decide))))
section
variable {a0 a1 a2 a3 a5:Option D} {T due:D}
theorem zgK (hd:zbK [T]=.ok due) (hs:Says (zaS [T]) due):∀(l:List Nat) (x6 x7 x8:Option D),∃y6 y7 y8,forF (ftN 6) zh7 (l.map nD) [a0,a1,a2,a3,some T,a5,x6,x7,x8]=.nx [a0,a1,a2,a3,some T,a5,y6,y7,y8]
 | [],x6,x7,x8=>⟨x6,x7,x8,zbt⟩
 | k::l,x6,x7,x8=>by
  suffices h:∃z8,zh7 [a0,a1,a2,a3,some T,a5,some (nD k),x7,x8]=.nx [a0,a1,a2,a3,some T,a5,some (nD k),some (.lst [due]),z8] by
   obtain ⟨z8,h⟩:=h
   obtain ⟨y6,y7,y8,ih⟩:=zgK hd hs l (some (nD k)) (some (.lst [due])) z8
   exact ⟨y6,y7,y8,(zb1 (r1:=[a0,a1,a2,a3,some T,a5,some (nD k),x7,x8]) rfl h).trans ih⟩
  have fin:∀(z8:Option D),(∃s d,due=.tup [.str s,d]/\PyData.strOk s=true/\(d=.non\/∃j:Int,d=.int j))->(seqF (ifF q101 (fTest (f2 (gv 7) (mkL (zab (zaz (zab (gv 4) lNil) [] zbK) lNil)) neD)) (seqF (retF q101 (fun _=>Res.ok (D.bl false))) zaj) zaj) zaj) [a0,a1,a2,a3,some T,a5,some (nD k),some (.lst [due]),z8]=.nx [a0,a1,a2,a3,some T,a5,some (nD k),some (.lst [due]),z8]:=by
   rintro z8 ⟨s,d,rfl,h1,h2⟩
   exact zae ((if_f (zav (zan (a:=.lst [.tup [.str s,d]]) (b:=.lst [.tup [.str s,d]]) rfl (zbU (zac (zau (zac (d:=T) rfl zai) hd) zai) (by simp)) (zqp h1 h2)))).trans (e_skip _))
  have st:∀s2:FS,seqF (setF q101 7 (mkL (zab (mkT (zab (fun _=>Res.ok (D.str "told")) (zab (fun _=>Res.ok D.non) lNil))) lNil))) s2 [a0,a1,a2,a3,some T,a5,some (nD k),x7,x8]=s2 [a0,a1,a2,a3,some T,a5,some (nD k),some (.lst [.tup [.str "told",.non]]),x8]:=fun s2=>
   zae (zaC (zbU (zac (d:=.tup [.str "told",.non]) (zc4 (zac (d:=.str "told") rfl (zac (d:=.non) rfl zai)) (by simp)) zai) (by simp)))
  have ex:∀{nm:Str} {ds:List (Str × D)},zaS [T]=.exc (xD nm ds)->zbq nm=true->zay [xD nm ds]=.ok (.lst [due])->tryF q101 8 zbq (seqF (zhl q101 (zc6 (zab (gv 4) lNil) [] zaS)) zaj) (seqF (setF q101 7 (zaz (zab (gv 8) lNil) [] zay)) zaj) [a0,a1,a2,a3,some T,a5,some (nD k),some (.lst [.tup [.str "told",.non]]),x8]=.nx [a0,a1,a2,a3,some T,a5,some (nD k),some (.lst [due]),none]:=fun {nm ds} h1 h2 h3=>
   (zng (nm:=nm) (ds:=ds) (r':=[a0,a1,a2,a3,some T,a5,some (nD k),some (.lst [.tup [.str "told",.non]]),x8]) (r2:=[a0,a1,a2,a3,some T,a5,some (nD k),some (.lst [due]),some (xD nm ds)]) (zaX (ziz (zb4 (zac (d:=T) rfl zai) h1))) h2 (zae (zaC (zau (zac (d:=xD nm ds) rfl zai) h3)))).trans rfl
  rcases hs with ⟨d,h1,h2⟩ | ⟨j,h1,h2⟩ | ⟨h1,h2⟩ | ⟨j,h1,h2⟩ | ⟨j,h1,h2⟩
  ·refine ⟨x8,(st _).trans ((zae (r':=[a0,a1,a2,a3,some T,a5,some (nD k),some (.lst [due]),x8]) ?_).trans (fin x8 ⟨_,_,h2,by kernel_rfl,.inl rfl⟩))⟩
   rw [h2]
   exact (zo9 (r':=[a0,a1,a2,a3,some T,a5,some (nD k),some (.lst [.tup [.str "told",.non]]),x8]) (zae (zkQ (zb4 (zac (d:=T) rfl zai) h1)))).trans rfl
  ·exact ⟨none,(st _).trans ((zae (ex h1 (by decide +kernel) (by rw [h2]; exact zon j))).trans (fin none ⟨_,_,h2,by kernel_rfl,.inr ⟨j,rfl⟩⟩))⟩
  ·exact ⟨none,(st _).trans ((zae (ex h1 (by decide +kernel) (by rw [h2]; exact zoo))).trans (fin none ⟨_,_,h2,by kernel_rfl,.inl rfl⟩))⟩
  ·exact ⟨none,(st _).trans ((zae (ex h1 (by decide +kernel) (by rw [h2]; exact zqA j))).trans (fin none ⟨_,_,h2,by kernel_rfl,.inr ⟨j,rfl⟩⟩))⟩
  ·exact ⟨none,(st _).trans ((zae (ex h1 (by decide +kernel) (by rw [h2]; exact zqB j))).trans (fin none ⟨_,_,h2,by kernel_rfl,.inr ⟨j,rfl⟩⟩))⟩
theorem zk1 {ns:List Int}:∀(ks:List Nat) (x:Str) (x5:Option D),(∀k∈ks,k<=10)->x.length + ks.length<=56->∃(y:Str) (y5:Option D),y.length<=56/\forF (ftN 5) zlb (ks.map nD) [some (IN ns),a1,a2,a3,some (.str x),x5,none,none,none]=.nx [some (IN ns),a1,a2,a3,some (.str y),y5,none,none,none]
 | [],x,x5,_,h=>⟨x,x5,by simpa using h,zbt⟩
 | k::ks,x,x5,hk,h=>by
  simp only [List.length_cons] at h
  have hk0:=hk k List.mem_cons_self
  obtain ⟨c,hc⟩:=zeb ns (4 + k) (by omega)
  obtain ⟨y,h1,h2⟩:=zhF (x:=x) (c:=c) (by omega)
  obtain ⟨z,z5,i1,i2⟩:=zk1 (ns:=ns) ks y (some (nD k)) (fun j hj=>hk j (List.mem_cons_of_mem _ hj)) (by omega)
  refine ⟨z,z5,i1,?_⟩
  rw [<-i2]
  refine zb1 (r1:=[some (IN ns),a1,a2,a3,some (.str x),some (nD k),none,none,none]) rfl (zae (zaC (zau (zac (d:=.str x) rfl (zac (d:=nD c) (zau (zac (d:=IN ns) rfl (zac (d:=nD (4 + k)) (zan (a:=nD 4) (b:=nD k) rfl rfl (zdM 4 k)) zai)) hc) zai)) h2)))
end
theorem zr4 (ns:List Int):zoT [IN ns]=.ok (.bl true):=by
 obtain ⟨c1,h1⟩:=zeb ns 1 (by decide)
 obtain ⟨c2,h2⟩:=zeb ns 2 (by decide)
 obtain ⟨c3,h3⟩:=zeb ns 3 (by decide)
 have hn:c1 % 3 < 3:=Nat.mod_lt _ (by decide)
 have hq:c1 / 3 % (5 - (1 + c1 % 3)) < 5 - (1 + c1 % 3):=Nat.mod_lt _ (by omega)
 obtain ⟨rows,r1,r2,r3⟩:=ziQ ns 8 (1 + c1 % 3) (1 + c1 % 3 + c1 / 3 % (5 - (1 + c1 % 3))) (by omega) (by omega) (by omega)
 have hsub:subI (.int 5) (nD (1 + c1 % 3))=some (nD (5 - (1 + c1 % 3))):=by
  have e:(5:Int) - ((1 + c1 % 3:Nat):Int)=((5 - (1 + c1 % 3):Nat):Int):=by omega
  show some (D.int ((5:Int) - ((1 + c1 % 3:Nat):Int)))=some (D.int _)
  rw [e]
 generalize en:1 + c1 % 3=n at r1 r2 r3 hsub hq
 generalize em:n + c1 / 3 % (5 - n)=m at r2 r3
 have hn3:n<=3:=by omega
 have hm4:m<=4:=by omega
 obtain ⟨own0,w1,w2,w3⟩:=zlx c2 n m (by omega) (by omega)
 have hl4:∀row∈rows,row.length<=4:=fun row hr=>by rw [(r2 row hr).length_eq]; simp; omega
 have S:Txs rows own0:=⟨by omega,fun row hr x hx=>by have:=List.mem_range.mp ((r2 row hr).mem_iff.mp hx); omega,fun row hr=>by have:=hl4 row hr; omega⟩
 have hT:=ziU (owns:=own0) hl4 (by omega)
 have h36:c1 / 36 % 4 < 4:=Nat.mod_lt _ (by decide)
 obtain ⟨y,y5,g1,g2⟩:=zk1 (a1:=some (nD c1)) (a2:=some (nD n)) (a3:=some (nD m)) (ns:=ns) (List.range (c1 / 36 % 4)) (zjH rows own0) none (fun k hk=>by have:=List.mem_range.mp hk; omega) (by simp; omega)
 refine zaQ (B:=zmx) (n:=9) ?_
 unfold zmx
 refine (zae (zaC (zau (zac (d:=IN ns) rfl (zac (d:=nD 1) rfl zai)) h1))).trans ?_
 refine (zae (zaC (d:=nD n) (zan (a:=nD 1) (b:=nD (c1 % 3)) rfl (zan (a:=nD c1) (b:=nD 3) rfl rfl (zdg (by decide))) (by rw [zdM,en])))).trans ?_
 refine (zae (zaC (d:=nD m) (zan (a:=nD n) (b:=nD (c1 / 3 % (5 - n))) rfl (zan (a:=nD (c1 / 3)) (b:=nD (5 - n)) (zan (a:=nD c1) (b:=nD 3) rfl rfl (zdl (by decide) (by decide))) (zan (a:=.int 5) (b:=nD n) rfl rfl hsub) (zdg (by omega))) (by rw [zdM,em])))).trans ?_
 refine (zae (zaC (d:=.str (zjH rows own0)) (zau (zac (d:=WD rows) (zau (zac (d:=IN ns) rfl (zac (d:=nD 8) rfl (zac (d:=nD n) rfl (zac (d:=nD m) rfl zai)))) r3) (zac (d:=OD own0) (zau (zac (zau (zac (d:=IN ns) rfl (zac (d:=nD 2) rfl zai)) h2) (zac (d:=nD n) rfl (zac (d:=nD m) rfl zai))) w3) zai)) (zjF S)))).trans ?_
 refine (zae ((zaJ (ds:=(List.range (c1 / 36 % 4)).map nD) (zfu (zac (d:=nD (c1 / 36 % 4)) (zan (a:=nD (c1 / 36)) (b:=nD 4) (zan (a:=nD c1) (b:=nD 36) rfl rfl (zdl (by decide) (by decide))) rfl (zdg (by decide))) zai) (zgY (by omega)))).trans g2)).trans ?_
 obtain ⟨T,hTx,hif⟩:∃T,Tx T/\ifF q101 (fTest (f2 (f2 (f2 (gv 1) (ci 144) zdA) (ci 3) modI) (ci 0) eqD)) (seqF (setF q101 4 (zaz (zab (zaz (zab (gv 0) (zab (ci 3) lNil)) [] zaO) lNil) [] zcD)) zaj) zaj [some (IN ns),some (nD c1),some (nD n),some (nD m),some (.str y),y5,none,none,none]=.nx [some (IN ns),some (nD c1),some (nD n),some (nD m),some T,y5,none,none,none]:=by
  have t:=zav (zan (f:=f2 (f2 (gv 1) (ci 144) zdA) (ci 3) modI) (f':=fun _=>Res.ok (D.int 0)) (r:=[some (IN ns),some (nD c1),some (nD n),some (nD m),some (.str y),y5,none,none,none]) (a:=nD (c1 / 144 % 3)) (b:=nD 0) (zan (a:=nD (c1 / 144)) (b:=nD 3) (zan (a:=nD c1) (b:=nD 144) rfl rfl (zdl (by decide) (by decide))) rfl (zdg (by decide))) rfl (zhk _ _))
  by_cases c:c1 / 144 % 3=0
  ·rw [decide_eq_true c] at t
   obtain ⟨T,o1,o2⟩:=znA c3
   exact ⟨T,o1,(if_t t).trans (zae (zaC (zau (zac (d:=nD c3) (zau (zac (d:=IN ns) rfl (zac (d:=nD 3) rfl zai)) h3) zai) o2)))⟩
  ·rw [decide_eq_false c] at t
   exact ⟨.str y,.inl ⟨y,rfl,ziC (by omega)⟩,(if_f t).trans (e_skip _)⟩
 refine (zae hif).trans ?_
 obtain ⟨due,d1,d2⟩:=zrc hTx
 obtain ⟨y6,y7,y8,hl⟩:=zgK (a0:=some (IN ns)) (a1:=some (nD c1)) (a2:=some (nD n)) (a3:=some (nD m)) (a5:=y5) d1 d2 (List.range 2) none none none
 exact (zae ((zaJ (ds:=(List.range 2).map nD) (zfu (zac (d:=nD 2) rfl zai) (zgY (by decide)))).trans hl)).trans (zap (zaA rfl))
theorem main (ns:List Int) (_:ns.length<=63):zoT [.lst (ns.map .int)]=.ok (.bl true):=zr4 ns
end Law
open PySem PySem.W PyProof.Rows
namespace Law
open PySem PySem.Spec PyProof.Rows L2 DL
theorem pack {P:Program} {w:World} {K:W.Frag} {h:Heap} {mg:Str->Option Value} (KX:K.In h) (G:h.Ns mainGlobals mg) {c_TradeError:Addr} {c_TooMany:Addr} {c_NoRow:Addr} {c_NoOwn:Addr} {c_NoText:Addr} {b_TradeError:List Value} {b_TooMany:List Value} {b_NoRow:List Value} {b_NoOwn:List Value} {b_NoText:List Value} {n_NoRow:Addr} {f_NoRow:Addr} {oc_NoRow kV_NoRow doc_NoRow pm_NoRow cdv_NoRow ct_NoRow:Value} {od_NoRow an_NoRow:Option Addr} {osl_NoRow:Array (Option Value)} {n_NoOwn:Addr} {f_NoOwn:Addr} {oc_NoOwn kV_NoOwn doc_NoOwn pm_NoOwn cdv_NoOwn ct_NoOwn:Value} {od_NoOwn an_NoOwn:Option Addr} {osl_NoOwn:Array (Option Value)} {n_NoText:Addr} {f_NoText:Addr} {oc_NoText kV_NoText doc_NoText pm_NoText cdv_NoText ct_NoText:Value} {od_NoText an_NoText:Option Addr} {osl_NoText:Array (Option Value)}
  (a_TradeError:W.nsIn K mainGlobals "TradeError" = some (some (.ref c_TradeError)))
  (a_TooMany:W.nsIn K mainGlobals "TooMany" = some (some (.ref c_TooMany)))
  (a_NoRow:W.nsIn K mainGlobals "NoRow" = some (some (.ref c_NoRow)))
  (a_NoOwn:W.nsIn K mainGlobals "NoOwn" = some (some (.ref c_NoOwn)))
  (a_NoText:W.nsIn K mainGlobals "NoText" = some (some (.ref c_NoText)))
  (o_TradeError:DL.xoIn K c_TradeError=some (b_TradeError,(Str.ofString "TradeError")))
  (be_TradeError:b_TradeError.contains (Value.type "BaseException")=true)
  (bo_TradeError:b_TradeError.contains (Value.type "object")=true)
  (ga_TradeError:W.findIn K (.ref c_TradeError) "__getattribute__" = some (some (.builtin "BaseException.__getattribute__")))
  (gn_TradeError:W.findIn K (.ref c_TradeError) "__getattr__" = some (none))
  (gc_TradeError:W.findIn K (.ref c_TradeError) "__class__" = some (some (.builtin "object.__class__")))
  (un_TradeError:DL.unIn K "TradeError" c_TradeError=true)
  (o_TooMany:DL.xoIn K c_TooMany=some (b_TooMany,(Str.ofString "TooMany")))
  (be_TooMany:b_TooMany.contains (Value.type "BaseException")=true)
  (bo_TooMany:b_TooMany.contains (Value.type "object")=true)
  (ga_TooMany:W.findIn K (.ref c_TooMany) "__getattribute__" = some (some (.builtin "BaseException.__getattribute__")))
  (gn_TooMany:W.findIn K (.ref c_TooMany) "__getattr__" = some (none))
  (gc_TooMany:W.findIn K (.ref c_TooMany) "__class__" = some (some (.builtin "object.__class__")))
  (un_TooMany:DL.unIn K "TooMany" c_TooMany=true)
  (o_NoRow:DL.xoIn K c_NoRow=some (b_NoRow,(Str.ofString "NoRow")))
  (be_NoRow:b_NoRow.contains (Value.type "BaseException")=true)
  (bo_NoRow:b_NoRow.contains (Value.type "object")=true)
  (ga_NoRow:W.findIn K (.ref c_NoRow) "__getattribute__" = some (some (.builtin "BaseException.__getattribute__")))
  (gn_NoRow:W.findIn K (.ref c_NoRow) "__getattr__" = some (none))
  (gc_NoRow:W.findIn K (.ref c_NoRow) "__class__" = some (some (.builtin "object.__class__")))
  (un_NoRow:DL.unIn K "NoRow" c_NoRow=true)
  (o_NoOwn:DL.xoIn K c_NoOwn=some (b_NoOwn,(Str.ofString "NoOwn")))
  (be_NoOwn:b_NoOwn.contains (Value.type "BaseException")=true)
  (bo_NoOwn:b_NoOwn.contains (Value.type "object")=true)
  (ga_NoOwn:W.findIn K (.ref c_NoOwn) "__getattribute__" = some (some (.builtin "BaseException.__getattribute__")))
  (gn_NoOwn:W.findIn K (.ref c_NoOwn) "__getattr__" = some (none))
  (gc_NoOwn:W.findIn K (.ref c_NoOwn) "__class__" = some (some (.builtin "object.__class__")))
  (un_NoOwn:DL.unIn K "NoOwn" c_NoOwn=true)
  (o_NoText:DL.xoIn K c_NoText=some (b_NoText,(Str.ofString "NoText")))
  (be_NoText:b_NoText.contains (Value.type "BaseException")=true)
  (bo_NoText:b_NoText.contains (Value.type "object")=true)
  (ga_NoText:W.findIn K (.ref c_NoText) "__getattribute__" = some (some (.builtin "BaseException.__getattribute__")))
  (gn_NoText:W.findIn K (.ref c_NoText) "__getattr__" = some (none))
  (gc_NoText:W.findIn K (.ref c_NoText) "__class__" = some (some (.builtin "object.__class__")))
  (un_NoText:DL.unIn K "NoText" c_NoText=true)
  (gg:W.specialIn K (.builtin "object.__class__") "__get__" = some (some (.builtin "getset_descriptor.__get__")))
  (gt:W.takesIn K (.builtin "object.__class__")=some true)
  (h_TradeError_TradeError:(Value.ref c_TradeError::b_TradeError).contains (.ref c_TradeError)=true)
  (h_TradeError_TooMany:(Value.ref c_TooMany::b_TooMany).contains (.ref c_TradeError)=true)
  (h_TradeError_NoRow:(Value.ref c_NoRow::b_NoRow).contains (.ref c_TradeError)=true)
  (h_TradeError_NoOwn:(Value.ref c_NoOwn::b_NoOwn).contains (.ref c_TradeError)=true)
  (h_TradeError_NoText:(Value.ref c_NoText::b_NoText).contains (.ref c_TradeError)=true)
  (e_TooMany:W.excIn K c_TooMany DL.vErr "ValueError.__new__" = true)
  (ns_NoRow:DL.nsOf K c_NoRow=some n_NoRow)
  (z_NoRow:DL.zkIn K c_NoRow n_NoRow=true)
  (g0_NoRow:W.findIn K (.ref c_NoRow) "__setattr__" = some (some (.builtin "object.__setattr__")))
  (g1_NoRow:W.findIn K (.ref c_NoRow) "hand" = some none)
  (sp_TradeError:W.specialIn K (.ref c_TradeError) "__getattribute__" = some (some (.builtin "type.__getattribute__")))
  (rd_TradeError:W.readsIn K c_TradeError (.type "type")=true)
  (fn_TradeError:W.findCls K (.ref c_TradeError) (.type "type") "__init__" = some (.val (.builtin "ValueError.__init__")))
  (i_NoRow:W.nsIn K n_NoRow "__init__" = some (some (.ref f_NoRow)))
  (kp_NoRow:W.keepIn K (.ref c_NoRow)=true)
  (l_NoRow:K.lookup f_NoRow=some ⟨oc_NoRow,od_NoRow,.func (W.fnOf "__init__" "NoRow.__init__" (L2.defArgs Law.zc7) (L2.defBody Law.zc7) (L2.defScope Law.zc7) .none kV_NoRow doc_NoRow pm_NoRow an_NoRow cdv_NoRow ct_NoRow),osl_NoRow⟩)
  (cd_NoRow:W.codeIn K cdv_NoRow "NoRow.__init__" = true)
  (kk_NoRow:W.keepIn K (.ref f_NoRow)=true)
  (fc_NoRow:W.typeIn K (.ref f_NoRow)=some (.type "function"))
  (ns_NoOwn:DL.nsOf K c_NoOwn=some n_NoOwn)
  (z_NoOwn:DL.zkIn K c_NoOwn n_NoOwn=true)
  (g0_NoOwn:W.findIn K (.ref c_NoOwn) "__setattr__" = some (some (.builtin "object.__setattr__")))
  (g1_NoOwn:W.findIn K (.ref c_NoOwn) "hand" = some none)
  (i_NoOwn:W.nsIn K n_NoOwn "__init__" = some (some (.ref f_NoOwn)))
  (kp_NoOwn:W.keepIn K (.ref c_NoOwn)=true)
  (l_NoOwn:K.lookup f_NoOwn=some ⟨oc_NoOwn,od_NoOwn,.func (W.fnOf "__init__" "NoOwn.__init__" (L2.defArgs Law.zc8) (L2.defBody Law.zc8) (L2.defScope Law.zc8) .none kV_NoOwn doc_NoOwn pm_NoOwn an_NoOwn cdv_NoOwn ct_NoOwn),osl_NoOwn⟩)
  (cd_NoOwn:W.codeIn K cdv_NoOwn "NoOwn.__init__" = true)
  (kk_NoOwn:W.keepIn K (.ref f_NoOwn)=true)
  (fc_NoOwn:W.typeIn K (.ref f_NoOwn)=some (.type "function"))
  (ns_NoText:DL.nsOf K c_NoText=some n_NoText)
  (z_NoText:DL.zkIn K c_NoText n_NoText=true)
  (g0_NoText:W.findIn K (.ref c_NoText) "__setattr__" = some (some (.builtin "object.__setattr__")))
  (g1_NoText:W.findIn K (.ref c_NoText) "at" = some none)
  (i_NoText:W.nsIn K n_NoText "__init__" = some (some (.ref f_NoText)))
  (kp_NoText:W.keepIn K (.ref c_NoText)=true)
  (l_NoText:K.lookup f_NoText=some ⟨oc_NoText,od_NoText,.func (W.fnOf "__init__" "NoText.__init__" (L2.defArgs Law.zcw) (L2.defBody Law.zcw) (L2.defScope Law.zcw) .none kV_NoText doc_NoText pm_NoText an_NoText cdv_NoText ct_NoText),osl_NoText⟩)
  (cd_NoText:W.codeIn K cdv_NoText "NoText.__init__" = true)
  (kk_NoText:W.keepIn K (.ref f_NoText)=true)
  (fc_NoText:W.typeIn K (.ref f_NoText)=some (.type "function"))
  (nn_NoText:W.kitOne K (.type "NoneType") (.ref c_NoText)=some false)
  (k_NoText_TradeError:W.kitOne K (.ref c_TradeError) (.ref c_NoText)=Law.zdt "TradeError")
  (k_NoText_TooMany:W.kitOne K (.ref c_TooMany) (.ref c_NoText)=Law.zdt "TooMany")
  (k_NoText_NoRow:W.kitOne K (.ref c_NoRow) (.ref c_NoText)=Law.zdt "NoRow")
  (k_NoText_NoOwn:W.kitOne K (.ref c_NoOwn) (.ref c_NoText)=Law.zdt "NoOwn")
  (k_NoText_NoText:W.kitOne K (.ref c_NoText) (.ref c_NoText)=Law.zdt "NoText")
  (nn_TooMany:W.kitOne K (.type "NoneType") (.ref c_TooMany)=some false)
  (k_TooMany_TradeError:W.kitOne K (.ref c_TradeError) (.ref c_TooMany)=Law.zcE "TradeError")
  (k_TooMany_TooMany:W.kitOne K (.ref c_TooMany) (.ref c_TooMany)=Law.zcE "TooMany")
  (k_TooMany_NoRow:W.kitOne K (.ref c_NoRow) (.ref c_TooMany)=Law.zcE "NoRow")
  (k_TooMany_NoOwn:W.kitOne K (.ref c_NoOwn) (.ref c_TooMany)=Law.zcE "NoOwn")
  (k_TooMany_NoText:W.kitOne K (.ref c_NoText) (.ref c_TooMany)=Law.zcE "NoText")
  (nn_NoRow:W.kitOne K (.type "NoneType") (.ref c_NoRow)=some false)
  (k_NoRow_TradeError:W.kitOne K (.ref c_TradeError) (.ref c_NoRow)=Law.zd3 "TradeError")
  (k_NoRow_TooMany:W.kitOne K (.ref c_TooMany) (.ref c_NoRow)=Law.zd3 "TooMany")
  (k_NoRow_NoRow:W.kitOne K (.ref c_NoRow) (.ref c_NoRow)=Law.zd3 "NoRow")
  (k_NoRow_NoOwn:W.kitOne K (.ref c_NoOwn) (.ref c_NoRow)=Law.zd3 "NoOwn")
  (k_NoRow_NoText:W.kitOne K (.ref c_NoText) (.ref c_NoRow)=Law.zd3 "NoText")
  (nn_NoOwn:W.kitOne K (.type "NoneType") (.ref c_NoOwn)=some false)
  (k_NoOwn_TradeError:W.kitOne K (.ref c_TradeError) (.ref c_NoOwn)=Law.zd4 "TradeError")
  (k_NoOwn_TooMany:W.kitOne K (.ref c_TooMany) (.ref c_NoOwn)=Law.zd4 "TooMany")
  (k_NoOwn_NoRow:W.kitOne K (.ref c_NoRow) (.ref c_NoOwn)=Law.zd4 "NoRow")
  (k_NoOwn_NoOwn:W.kitOne K (.ref c_NoOwn) (.ref c_NoOwn)=Law.zd4 "NoOwn")
  (k_NoOwn_NoText:W.kitOne K (.ref c_NoText) (.ref c_NoOwn)=Law.zd4 "NoText")
  (nn_ValueError:W.kitOne K (.type "NoneType") (.type "ValueError")=some false)
  (k_ValueError_TradeError:W.kitOne K (.ref c_TradeError) (.type "ValueError")=Law.zbM "TradeError")
  (k_ValueError_TooMany:W.kitOne K (.ref c_TooMany) (.type "ValueError")=Law.zbM "TooMany")
  (k_ValueError_NoRow:W.kitOne K (.ref c_NoRow) (.type "ValueError")=Law.zbM "NoRow")
  (k_ValueError_NoOwn:W.kitOne K (.ref c_NoOwn) (.type "ValueError")=Law.zbM "NoOwn")
  (k_ValueError_NoText:W.kitOne K (.ref c_NoText) (.type "ValueError")=Law.zbM "NoText"):∃(C_TradeError:Addr) (C_TooMany:Addr) (C_NoRow:Addr) (C_NoOwn:Addr) (C_NoText:Addr) (bm_TradeError:List Value) (bm_TooMany:List Value) (bm_NoRow:List Value) (bm_NoOwn:List Value) (bm_NoText:List Value),(XA K C_TradeError bm_TradeError)/\(mg "TradeError" = some (.ref C_TradeError))/\(zmu K C_TradeError zbq)/\(XC K mg "TooMany" C_TooMany)/\(XN K "TooMany" C_TooMany)/\(∀base,XCI P w K mg base "NoRow" C_NoRow "hand")/\(XN K "NoRow" C_NoRow)/\(∀base,XCI P w K mg base "NoOwn" C_NoOwn "hand")/\(XN K "NoOwn" C_NoOwn)/\(∀base,XCI P w K mg base "NoText" C_NoText "at")/\(XN K "NoText" C_NoText)/\(mg "NoText" = some (.ref C_NoText))/\(IsxOk K (.ref C_NoText) zdt)/\(zjd K "at" ziD)/\(mg "TooMany" = some (.ref C_TooMany))/\(IsxOk K (.ref C_TooMany) zcE)/\(mg "NoRow" = some (.ref C_NoRow))/\(IsxOk K (.ref C_NoRow) zd3)/\(zjd K "hand" zdv)/\(mg "NoOwn" = some (.ref C_NoOwn))/\(IsxOk K (.ref C_NoOwn) zd4)/\(IsxOk K (.type "ValueError") zbM):=
 ⟨c_TradeError,c_TooMany,c_NoRow,c_NoOwn,c_NoText,b_TradeError,b_TooMany,b_NoRow,b_NoOwn,b_NoText,(DL.zsB o_TradeError be_TradeError bo_TradeError ga_TradeError gn_TradeError gc_TradeError gg gt un_TradeError).xa,
  W.mg_of KX G a_TradeError,
  DL.zsv [((Str.ofString "TradeError"),c_TradeError,b_TradeError),((Str.ofString "TooMany"),c_TooMany,b_TooMany),((Str.ofString "NoRow"),c_NoRow,b_NoRow),((Str.ofString "NoOwn"),c_NoOwn,b_NoOwn),((Str.ofString "NoText"),c_NoText,b_NoText)] (by intro q hq; simp only [List.mem_cons,List.not_mem_nil,or_false] at hq; rcases hq with rfl | rfl | rfl | rfl | rfl <;> first | exact ⟨(DL.zsB o_TradeError be_TradeError bo_TradeError ga_TradeError gn_TradeError gc_TradeError gg gt un_TradeError),h_TradeError_TradeError⟩ | exact ⟨(DL.zsB o_TooMany be_TooMany bo_TooMany ga_TooMany gn_TooMany gc_TooMany gg gt un_TooMany),h_TradeError_TooMany⟩ | exact ⟨(DL.zsB o_NoRow be_NoRow bo_NoRow ga_NoRow gn_NoRow gc_NoRow gg gt un_NoRow),h_TradeError_NoRow⟩ | exact ⟨(DL.zsB o_NoOwn be_NoOwn bo_NoOwn ga_NoOwn gn_NoOwn gc_NoOwn gg gt un_NoOwn),h_TradeError_NoOwn⟩ | exact ⟨(DL.zsB o_NoText be_NoText bo_NoText ga_NoText gn_NoText gc_NoText gg gt un_NoText),h_TradeError_NoText⟩) (fun nm h=>by
   have h2:=List.contains_iff_mem.mp h
   simp only [List.mem_cons,List.not_mem_nil,or_false] at h2
   rcases h2 with rfl | rfl | rfl | rfl | rfl <;> simp),
  DL.zsz KX G a_TooMany e_TooMany,
  (DL.zsB o_TooMany be_TooMany bo_TooMany ga_TooMany gn_TooMany gc_TooMany gg gt un_TooMany).xn,
  DL.zsp KX G a_NoRow kp_NoRow z_NoRow o_NoRow (DL.zsy z_NoRow o_NoRow g0_NoRow g1_NoRow) i_NoRow (L2.fun_mk l_NoRow cd_NoRow kk_NoRow) fc_NoRow Law.zrq (Law.zqL (L2.fun_mk l_NoRow cd_NoRow kk_NoRow) (DL.zsy z_NoRow o_NoRow g0_NoRow g1_NoRow) (W.mg_of KX G a_TradeError) ⟨sp_TradeError,rd_TradeError,fn_TradeError⟩),
  (DL.zsB o_NoRow be_NoRow bo_NoRow ga_NoRow gn_NoRow gc_NoRow gg gt un_NoRow).xn,
  DL.zsp KX G a_NoOwn kp_NoOwn z_NoOwn o_NoOwn (DL.zsy z_NoOwn o_NoOwn g0_NoOwn g1_NoOwn) i_NoOwn (L2.fun_mk l_NoOwn cd_NoOwn kk_NoOwn) fc_NoOwn Law.zrr (Law.zqM (L2.fun_mk l_NoOwn cd_NoOwn kk_NoOwn) (DL.zsy z_NoOwn o_NoOwn g0_NoOwn g1_NoOwn) (W.mg_of KX G a_TradeError) ⟨sp_TradeError,rd_TradeError,fn_TradeError⟩),
  (DL.zsB o_NoOwn be_NoOwn bo_NoOwn ga_NoOwn gn_NoOwn gc_NoOwn gg gt un_NoOwn).xn,
  DL.zsp KX G a_NoText kp_NoText z_NoText o_NoText (DL.zsy z_NoText o_NoText g0_NoText g1_NoText) i_NoText (L2.fun_mk l_NoText cd_NoText kk_NoText) fc_NoText Law.zri (Law.zoW (L2.fun_mk l_NoText cd_NoText kk_NoText) (DL.zsy z_NoText o_NoText g0_NoText g1_NoText) (W.mg_of KX G a_TradeError) ⟨sp_TradeError,rd_TradeError,fn_TradeError⟩),
  (DL.zsB o_NoText be_NoText bo_NoText ga_NoText gn_NoText gc_NoText gg gt un_NoText).xn,
  W.mg_of KX G a_NoText,
  DL.zsu [((Str.ofString "TradeError"),c_TradeError,b_TradeError),((Str.ofString "TooMany"),c_TooMany,b_TooMany),((Str.ofString "NoRow"),c_NoRow,b_NoRow),((Str.ofString "NoOwn"),c_NoOwn,b_NoOwn),((Str.ofString "NoText"),c_NoText,b_NoText)] nn_NoText (by intro q hq; simp only [List.mem_cons,List.not_mem_nil,or_false] at hq; rcases hq with rfl | rfl | rfl | rfl | rfl <;> first | exact ⟨(DL.zsB o_TradeError be_TradeError bo_TradeError ga_TradeError gn_TradeError gc_TradeError gg gt un_TradeError),k_NoText_TradeError⟩ | exact ⟨(DL.zsB o_TooMany be_TooMany bo_TooMany ga_TooMany gn_TooMany gc_TooMany gg gt un_TooMany),k_NoText_TooMany⟩ | exact ⟨(DL.zsB o_NoRow be_NoRow bo_NoRow ga_NoRow gn_NoRow gc_NoRow gg gt un_NoRow),k_NoText_NoRow⟩ | exact ⟨(DL.zsB o_NoOwn be_NoOwn bo_NoOwn ga_NoOwn gn_NoOwn gc_NoOwn gg gt un_NoOwn),k_NoText_NoOwn⟩ | exact ⟨(DL.zsB o_NoText be_NoText bo_NoText ga_NoText gn_NoText gc_NoText gg gt un_NoText),k_NoText_NoText⟩) (fun nm b h=>by
   unfold Law.zdt at h
   have h2:nm∈([(Str.ofString "TradeError"),(Str.ofString "TooMany"),(Str.ofString "NoRow"),(Str.ofString "NoOwn"),(Str.ofString "NoText")]:List Str):=by
    split at h
    ·rename_i z; have z:=List.contains_iff_mem.mp z; simp only [List.mem_cons,List.not_mem_nil,or_false] at z ⊢; rcases z with rfl <;> simp
    ·split at h
     ·rename_i z; have z:=List.contains_iff_mem.mp z; simp only [List.mem_cons,List.not_mem_nil,or_false] at z ⊢; rcases z with rfl | rfl | rfl | rfl <;> simp
     ·cases h
   simp only [List.mem_cons,List.not_mem_nil,or_false] at h2
   rcases h2 with rfl | rfl | rfl | rfl | rfl <;> simp),
  DL.zsx [((Str.ofString "NoText"),c_NoText,b_NoText)] (by intro q hq; simp only [List.mem_cons,List.not_mem_nil,or_false] at hq; rcases hq with rfl <;> first | exact ⟨(DL.zsB o_NoText be_NoText bo_NoText ga_NoText gn_NoText gc_NoText gg gt un_NoText),(DL.zsy z_NoText o_NoText g0_NoText g1_NoText)⟩) (fun nm h=>by
   have h2:=List.contains_iff_mem.mp h
   simp only [List.mem_cons,List.not_mem_nil,or_false] at h2
   rcases h2 with rfl <;> simp),
  W.mg_of KX G a_TooMany,
  DL.zsu [((Str.ofString "TradeError"),c_TradeError,b_TradeError),((Str.ofString "TooMany"),c_TooMany,b_TooMany),((Str.ofString "NoRow"),c_NoRow,b_NoRow),((Str.ofString "NoOwn"),c_NoOwn,b_NoOwn),((Str.ofString "NoText"),c_NoText,b_NoText)] nn_TooMany (by intro q hq; simp only [List.mem_cons,List.not_mem_nil,or_false] at hq; rcases hq with rfl | rfl | rfl | rfl | rfl <;> first | exact ⟨(DL.zsB o_TradeError be_TradeError bo_TradeError ga_TradeError gn_TradeError gc_TradeError gg gt un_TradeError),k_TooMany_TradeError⟩ | exact ⟨(DL.zsB o_TooMany be_TooMany bo_TooMany ga_TooMany gn_TooMany gc_TooMany gg gt un_TooMany),k_TooMany_TooMany⟩ | exact ⟨(DL.zsB o_NoRow be_NoRow bo_NoRow ga_NoRow gn_NoRow gc_NoRow gg gt un_NoRow),k_TooMany_NoRow⟩ | exact ⟨(DL.zsB o_NoOwn be_NoOwn bo_NoOwn ga_NoOwn gn_NoOwn gc_NoOwn gg gt un_NoOwn),k_TooMany_NoOwn⟩ | exact ⟨(DL.zsB o_NoText be_NoText bo_NoText ga_NoText gn_NoText gc_NoText gg gt un_NoText),k_TooMany_NoText⟩) (fun nm b h=>by
   unfold Law.zcE at h
   have h2:nm∈([(Str.ofString "TradeError"),(Str.ofString "TooMany"),(Str.ofString "NoRow"),(Str.ofString "NoOwn"),(Str.ofString "NoText")]:List Str):=by
    split at h
    ·rename_i z; have z:=List.contains_iff_mem.mp z; simp only [List.mem_cons,List.not_mem_nil,or_false] at z ⊢; rcases z with rfl <;> simp
    ·split at h
     ·rename_i z; have z:=List.contains_iff_mem.mp z; simp only [List.mem_cons,List.not_mem_nil,or_false] at z ⊢; rcases z with rfl | rfl | rfl | rfl <;> simp
     ·cases h
   simp only [List.mem_cons,List.not_mem_nil,or_false] at h2
   rcases h2 with rfl | rfl | rfl | rfl | rfl <;> simp),
  W.mg_of KX G a_NoRow,
  DL.zsu [((Str.ofString "TradeError"),c_TradeError,b_TradeError),((Str.ofString "TooMany"),c_TooMany,b_TooMany),((Str.ofString "NoRow"),c_NoRow,b_NoRow),((Str.ofString "NoOwn"),c_NoOwn,b_NoOwn),((Str.ofString "NoText"),c_NoText,b_NoText)] nn_NoRow (by intro q hq; simp only [List.mem_cons,List.not_mem_nil,or_false] at hq; rcases hq with rfl | rfl | rfl | rfl | rfl <;> first | exact ⟨(DL.zsB o_TradeError be_TradeError bo_TradeError ga_TradeError gn_TradeError gc_TradeError gg gt un_TradeError),k_NoRow_TradeError⟩ | exact ⟨(DL.zsB o_TooMany be_TooMany bo_TooMany ga_TooMany gn_TooMany gc_TooMany gg gt un_TooMany),k_NoRow_TooMany⟩ | exact ⟨(DL.zsB o_NoRow be_NoRow bo_NoRow ga_NoRow gn_NoRow gc_NoRow gg gt un_NoRow),k_NoRow_NoRow⟩ | exact ⟨(DL.zsB o_NoOwn be_NoOwn bo_NoOwn ga_NoOwn gn_NoOwn gc_NoOwn gg gt un_NoOwn),k_NoRow_NoOwn⟩ | exact ⟨(DL.zsB o_NoText be_NoText bo_NoText ga_NoText gn_NoText gc_NoText gg gt un_NoText),k_NoRow_NoText⟩) (fun nm b h=>by
   unfold Law.zd3 at h
   have h2:nm∈([(Str.ofString "TradeError"),(Str.ofString "TooMany"),(Str.ofString "NoRow"),(Str.ofString "NoOwn"),(Str.ofString "NoText")]:List Str):=by
    split at h
    ·rename_i z; have z:=List.contains_iff_mem.mp z; simp only [List.mem_cons,List.not_mem_nil,or_false] at z ⊢; rcases z with rfl <;> simp
    ·split at h
     ·rename_i z; have z:=List.contains_iff_mem.mp z; simp only [List.mem_cons,List.not_mem_nil,or_false] at z ⊢; rcases z with rfl | rfl | rfl | rfl <;> simp
     ·cases h
   simp only [List.mem_cons,List.not_mem_nil,or_false] at h2
   rcases h2 with rfl | rfl | rfl | rfl | rfl <;> simp),
  DL.zsx [((Str.ofString "NoRow"),c_NoRow,b_NoRow),((Str.ofString "NoOwn"),c_NoOwn,b_NoOwn)] (by intro q hq; simp only [List.mem_cons,List.not_mem_nil,or_false] at hq; rcases hq with rfl | rfl <;> first | exact ⟨(DL.zsB o_NoRow be_NoRow bo_NoRow ga_NoRow gn_NoRow gc_NoRow gg gt un_NoRow),(DL.zsy z_NoRow o_NoRow g0_NoRow g1_NoRow)⟩ | exact ⟨(DL.zsB o_NoOwn be_NoOwn bo_NoOwn ga_NoOwn gn_NoOwn gc_NoOwn gg gt un_NoOwn),(DL.zsy z_NoOwn o_NoOwn g0_NoOwn g1_NoOwn)⟩) (fun nm h=>by
   have h2:=List.contains_iff_mem.mp h
   simp only [List.mem_cons,List.not_mem_nil,or_false] at h2
   rcases h2 with rfl | rfl <;> simp),
  W.mg_of KX G a_NoOwn,
  DL.zsu [((Str.ofString "TradeError"),c_TradeError,b_TradeError),((Str.ofString "TooMany"),c_TooMany,b_TooMany),((Str.ofString "NoRow"),c_NoRow,b_NoRow),((Str.ofString "NoOwn"),c_NoOwn,b_NoOwn),((Str.ofString "NoText"),c_NoText,b_NoText)] nn_NoOwn (by intro q hq; simp only [List.mem_cons,List.not_mem_nil,or_false] at hq; rcases hq with rfl | rfl | rfl | rfl | rfl <;> first | exact ⟨(DL.zsB o_TradeError be_TradeError bo_TradeError ga_TradeError gn_TradeError gc_TradeError gg gt un_TradeError),k_NoOwn_TradeError⟩ | exact ⟨(DL.zsB o_TooMany be_TooMany bo_TooMany ga_TooMany gn_TooMany gc_TooMany gg gt un_TooMany),k_NoOwn_TooMany⟩ | exact ⟨(DL.zsB o_NoRow be_NoRow bo_NoRow ga_NoRow gn_NoRow gc_NoRow gg gt un_NoRow),k_NoOwn_NoRow⟩ | exact ⟨(DL.zsB o_NoOwn be_NoOwn bo_NoOwn ga_NoOwn gn_NoOwn gc_NoOwn gg gt un_NoOwn),k_NoOwn_NoOwn⟩ | exact ⟨(DL.zsB o_NoText be_NoText bo_NoText ga_NoText gn_NoText gc_NoText gg gt un_NoText),k_NoOwn_NoText⟩) (fun nm b h=>by
   unfold Law.zd4 at h
   have h2:nm∈([(Str.ofString "TradeError"),(Str.ofString "TooMany"),(Str.ofString "NoRow"),(Str.ofString "NoOwn"),(Str.ofString "NoText")]:List Str):=by
    split at h
    ·rename_i z; have z:=List.contains_iff_mem.mp z; simp only [List.mem_cons,List.not_mem_nil,or_false] at z ⊢; rcases z with rfl <;> simp
    ·split at h
     ·rename_i z; have z:=List.contains_iff_mem.mp z; simp only [List.mem_cons,List.not_mem_nil,or_false] at z ⊢; rcases z with rfl | rfl | rfl | rfl <;> simp
     ·cases h
   simp only [List.mem_cons,List.not_mem_nil,or_false] at h2
   rcases h2 with rfl | rfl | rfl | rfl | rfl <;> simp),
  DL.zsu [((Str.ofString "TradeError"),c_TradeError,b_TradeError),((Str.ofString "TooMany"),c_TooMany,b_TooMany),((Str.ofString "NoRow"),c_NoRow,b_NoRow),((Str.ofString "NoOwn"),c_NoOwn,b_NoOwn),((Str.ofString "NoText"),c_NoText,b_NoText)] nn_ValueError (by intro q hq; simp only [List.mem_cons,List.not_mem_nil,or_false] at hq; rcases hq with rfl | rfl | rfl | rfl | rfl <;> first | exact ⟨(DL.zsB o_TradeError be_TradeError bo_TradeError ga_TradeError gn_TradeError gc_TradeError gg gt un_TradeError),k_ValueError_TradeError⟩ | exact ⟨(DL.zsB o_TooMany be_TooMany bo_TooMany ga_TooMany gn_TooMany gc_TooMany gg gt un_TooMany),k_ValueError_TooMany⟩ | exact ⟨(DL.zsB o_NoRow be_NoRow bo_NoRow ga_NoRow gn_NoRow gc_NoRow gg gt un_NoRow),k_ValueError_NoRow⟩ | exact ⟨(DL.zsB o_NoOwn be_NoOwn bo_NoOwn ga_NoOwn gn_NoOwn gc_NoOwn gg gt un_NoOwn),k_ValueError_NoOwn⟩ | exact ⟨(DL.zsB o_NoText be_NoText bo_NoText ga_NoText gn_NoText gc_NoText gg gt un_NoText),k_ValueError_NoText⟩) (fun nm b h=>by
   unfold Law.zbM at h
   have h2:nm∈([(Str.ofString "TradeError"),(Str.ofString "TooMany"),(Str.ofString "NoRow"),(Str.ofString "NoOwn"),(Str.ofString "NoText")]:List Str):=by
    split at h
    ·rename_i z; have z:=List.contains_iff_mem.mp z; simp only [List.mem_cons,List.not_mem_nil,or_false] at z ⊢; rcases z with rfl | rfl | rfl | rfl | rfl <;> simp
    ·split at h
     ·rename_i z; simp at z
     ·cases h
   simp only [List.mem_cons,List.not_mem_nil,or_false] at h2
   rcases h2 with rfl | rfl | rfl | rfl | rfl <;> simp)⟩
end Law
abbrev P0:=PySem.Challenge.rw_ringtrade_k05_texts_refused.prog
noncomputable def PySem.W.Fast.tw9506900621058421437 : Nat := 0
noncomputable def PySem.W.Fast.tw4856270723552133959 : Nat := 0
noncomputable def PySem.W.Fast.tw15606942093241037848 : Nat := 0
noncomputable def PySem.W.Fast.tw11540626276584674713 : Nat := 0
set_option maxRecDepth 100000 in
set_option maxHeartbeats 0 in
theorem PySem.Challenge.cw_ringtrade_k05_texts_refused_holds : PySem.Challenge.rw_ringtrade_k05_texts_refused.Holds := by
 w_on; o_law; k_head; (case hw=>w_witness2)
 k_fill
 refine DL.zsA (l:=PySem.Challenge.rw_ringtrade_k05_texts_refused) (k:=8) (x := "_law_script") (F:=Law.zoT) rfl rfl ⟨rfl,by decide,by decide,rfl⟩ (fun w h Y=>PySem.W.kIn_of Y) Law.main ?C
 intro w mg fa h KX G hmg
 have T:Law.Txt (L2.KOf KX) mg:=by
  dsimp only [L2.KOf]
  refine ⟨?um,?un,?uo,?up,?uq,?ur,?ut,?uu,?uv,?uw,?ux,?uy,?uz,?u0,?u1,?u2⟩
  case um|un|uo|up|uq|ur|ut|uu|uv|uw|ux|uy|uz=>(refine' PySem.W.mg_none_of KX G ?_; k_is)
  case u0=>(refine' DL.zst KX G ?z; case z=>k_is)
  case u1=>(refine' DL.zst KX G ?z; case z=>k_is)
  case u2=>(refine' DL.zss KX G ?z; case z=>k_is)
 obtain ⟨ue,ua,ub,uc,ud,uh,u3,u4,u5,u6,u7,u8,u9,ui,uj,va,vb,vc,vd,ve,vf,vg,vh,vi,vj,vk,vl,vm,vn,vo,vp,vq⟩:∃ (ue:Addr) (ua:Addr) (ub:Addr) (uc:Addr) (ud:Addr) (uh:List Value) (u3:List Value) (u4:List Value) (u5:List Value) (u6:List Value),(DL.XA (L2.KOf KX) ue uh)∧(mg "TradeError" = some (.ref ue))∧(DL.zmu (L2.KOf KX) ue Law.zbq)∧(DL.XC (L2.KOf KX) mg "TooMany" ua)∧(DL.XN (L2.KOf KX) "TooMany" ua)∧(∀ base,DL.XCI PySem.Challenge.rw_ringtrade_k05_texts_refused.prog w (L2.KOf KX) mg base "NoRow" ub "hand")∧(DL.XN (L2.KOf KX) "NoRow" ub)∧(∀ base,DL.XCI PySem.Challenge.rw_ringtrade_k05_texts_refused.prog w (L2.KOf KX) mg base "NoOwn" uc "hand")∧(DL.XN (L2.KOf KX) "NoOwn" uc)∧(∀ base,DL.XCI PySem.Challenge.rw_ringtrade_k05_texts_refused.prog w (L2.KOf KX) mg base "NoText" ud "at")∧(DL.XN (L2.KOf KX) "NoText" ud)∧(mg "NoText" = some (.ref ud))∧(DL.IsxOk (L2.KOf KX) (.ref ud) Law.zdt)∧(DL.zjd (L2.KOf KX) "at" Law.ziD)∧(mg "TooMany" = some (.ref ua))∧(DL.IsxOk (L2.KOf KX) (.ref ua) Law.zcE)∧(mg "NoRow" = some (.ref ub))∧(DL.IsxOk (L2.KOf KX) (.ref ub) Law.zd3)∧(DL.zjd (L2.KOf KX) "hand" Law.zdv)∧(mg "NoOwn" = some (.ref uc))∧(DL.IsxOk (L2.KOf KX) (.ref uc) Law.zd4)∧(DL.IsxOk (L2.KOf KX) (.type "ValueError") Law.zbM):=by
  dsimp only [L2.KOf]
  refine' Law.pack KX G ?vr ?vs ?vt ?vu ?vv ?vw ?vx ?vy ?vz ?v0 ?v1 ?v2 ?v3 ?v4 ?v5 ?v6 ?v7 ?v8 ?v9 ?wa ?wb ?wc ?wd ?we ?wf ?wg ?wh ?wi ?wj ?wk ?wl ?wm ?wn ?wo ?wp ?wq ?wr ?ws ?wt ?wu ?gg ?gt ?wv ?ww ?wx ?wy ?wz ?w0 ?w1 ?w2 ?w3 ?w4 ?w5 ?w6 ?w7 ?w8 ?w9 ?xa ?xb ?xc ?xd ?xe ?xf ?xg ?xh ?xi ?xj ?xk ?xl ?xm ?xn ?xo ?xp ?xq ?xr ?xs ?xt ?xu ?xv ?xw ?xx ?xy ?xz ?x0 ?x1 ?x2 ?x3 ?x4 ?x5 ?x6 ?x7 ?x8 ?x9 ?ya ?yb ?yc ?yd ?ye ?yf ?yg ?yh ?yi ?yj ?yk ?yl ?ym ?yn ?yo ?yp ?yq ?yr
  case vr|vs|vt|vu|vv=>k_is
  case vw=>exact rfl
  case vx|vy=>decide +kernel
  case vz|v0|v1=>k_is
  case v2=>kernel_rfl
  case v3=>exact rfl
  case v4|v5=>decide +kernel
  case v6|v7|v8=>k_is
  case v9=>kernel_rfl
  case wa=>exact rfl
  case wb|wc=>decide +kernel
  case wd|we|wf=>k_is
  case wg=>kernel_rfl
  case wh=>exact rfl
  case wi|wj=>decide +kernel
  case wk|wl|wm=>k_is
  case wn=>kernel_rfl
  case wo=>exact rfl
  case wp|wq=>decide +kernel
  case wr|ws|wt=>k_is
  case wu=>kernel_rfl
  case gg|gt=>k_is
  case wv|ww|wx|wy|wz=>decide +kernel
  case w0=>kernel_rfl
  case w1=>exact rfl
  case w2=>kernel_rfl
  case w3|w4|w5=>k_is
  case w6|w7=>kernel_rfl
  case w8|w9|xa|xb|xc|xd=>k_is
  case xe=>exact rfl
  case xf=>kernel_rfl
  case xg|xh|xi|xj|xk|xl|xm|xn=>k_is
  case xo=>exact rfl
  case xp=>kernel_rfl
  case xq|xr|xs|xt|xu|xv|xw|xx=>k_is
  case xy|xz|x0|x1|x2|x3|x4|x5|x6|x7|x8|x9|ya|yb|yc|yd|ye|yf|yg|yh|yi|yj|yk|yl|ym|yn|yo|yp|yq|yr=>kernel_rfl
 have ys:DL.DefAt (L2.KOf KX) mg "_law_cell" Law.zeI:=by
  dsimp only [L2.KOf]
  refine' DL.zsw KX G ?a ?l ?c ?k
  case a|l|c|k=>k_is
 have yt:DL.DefAt (L2.KOf KX) mg "_law_text" Law.zeF:=by
  dsimp only [L2.KOf]
  refine' DL.zsw KX G ?a ?l ?c ?k
  case a|l|c|k=>k_is
 have yu:DL.DefAt (L2.KOf KX) mg "_law_row" Law.zfd:=by
  dsimp only [L2.KOf]
  refine' DL.zsw KX G ?a ?l ?c ?k
  case a|l|c|k=>k_is
 have yv:DL.DefAt (L2.KOf KX) mg "_law_wishes" Law.zbO:=by
  dsimp only [L2.KOf]
  refine' DL.zsw KX G ?a ?l ?c ?k
  case a|l|c|k=>k_is
 have yw:DL.DefAt (L2.KOf KX) mg "_law_owns" Law.zeH:=by
  dsimp only [L2.KOf]
  refine' DL.zsw KX G ?a ?l ?c ?k
  case a|l|c|k=>k_is
 have yx:DL.DefAt (L2.KOf KX) mg "_law_changed" Law.zda:=by
  dsimp only [L2.KOf]
  refine' DL.zsw KX G ?a ?l ?c ?k
  case a|l|c|k=>k_is
 have yy:DL.DefAt (L2.KOf KX) mg "_law_odd" Law.zfe:=by
  dsimp only [L2.KOf]
  refine' DL.zsw KX G ?a ?l ?c ?k
  case a|l|c|k=>k_is
 have yz:DL.DefAt (L2.KOf KX) mg "refuse_too_many_rows" Law.zbo:=by
  dsimp only [L2.KOf]
  refine' DL.zsw KX G ?a ?l ?c ?k
  case a|l|c|k=>k_is
 have y0:DL.DefAt (L2.KOf KX) mg "is_whole" Law.zfb:=by
  dsimp only [L2.KOf]
  refine' DL.zsw KX G ?a ?l ?c ?k
  case a|l|c|k=>k_is
 have y1:DL.DefAt (L2.KOf KX) mg "is_below" Law.zfc:=by
  dsimp only [L2.KOf]
  refine' DL.zsw KX G ?a ?l ?c ?k
  case a|l|c|k=>k_is
 have y2:DL.DefAt (L2.KOf KX) mg "first_wrong" Law.zdD:=by
  dsimp only [L2.KOf]
  refine' DL.zsw KX G ?a ?l ?c ?k
  case a|l|c|k=>k_is
 have y3:DL.DefAt (L2.KOf KX) mg "are_unlike" Law.zd7:=by
  dsimp only [L2.KOf]
  refine' DL.zsw KX G ?a ?l ?c ?k
  case a|l|c|k=>k_is
 have y4:DL.DefAt (L2.KOf KX) mg "has_each_once" Law.zc0:=by
  dsimp only [L2.KOf]
  refine' DL.zsw KX G ?a ?l ?c ?k
  case a|l|c|k=>k_is
 have y5:DL.DefAt (L2.KOf KX) mg "wishes_of" Law.zbN:=by
  dsimp only [L2.KOf]
  refine' DL.zsw KX G ?a ?l ?c ?k
  case a|l|c|k=>k_is
 have y6:DL.DefAt (L2.KOf KX) mg "things_in" Law.zeC:=by
  dsimp only [L2.KOf]
  refine' DL.zsw KX G ?a ?l ?c ?k
  case a|l|c|k=>k_is
 have y7:DL.DefAt (L2.KOf KX) mg "owns_of" Law.zeD:=by
  dsimp only [L2.KOf]
  refine' DL.zsw KX G ?a ?l ?c ?k
  case a|l|c|k=>k_is
 have y8:DL.DefAt (L2.KOf KX) mg "is_starred" Law.zd6:=by
  dsimp only [L2.KOf]
  refine' DL.zsw KX G ?a ?l ?c ?k
  case a|l|c|k=>k_is
 have y9:DL.DefAt (L2.KOf KX) mg "letter_in" Law.zeE:=by
  dsimp only [L2.KOf]
  refine' DL.zsw KX G ?a ?l ?c ?k
  case a|l|c|k=>k_is
 have za:DL.DefAt (L2.KOf KX) mg "is_word" Law.zfU:=by
  dsimp only [L2.KOf]
  refine' DL.zsw KX G ?a ?l ?c ?k
  case a|l|c|k=>k_is
 have zb:DL.DefAt (L2.KOf KX) mg "is_part" Law.zcb:=by
  dsimp only [L2.KOf]
  refine' DL.zsw KX G ?a ?l ?c ?k
  case a|l|c|k=>k_is
 have zc:DL.DefAt (L2.KOf KX) mg "row_in" Law.zd5:=by
  dsimp only [L2.KOf]
  refine' DL.zsw KX G ?a ?l ?c ?k
  case a|l|c|k=>k_is
 have zd:DL.DefAt (L2.KOf KX) mg "own_in" Law.zgO:=by
  dsimp only [L2.KOf]
  refine' DL.zsw KX G ?a ?l ?c ?k
  case a|l|c|k=>k_is
 have ze:DL.DefAt (L2.KOf KX) mg "rows_read" Law.zaK:=by
  dsimp only [L2.KOf]
  refine' DL.zsw KX G ?a ?l ?c ?k
  case a|l|c|k=>k_is
 have zf:DL.DefAt (L2.KOf KX) mg "_law_kinds" Law.zc9:=by
  dsimp only [L2.KOf]
  refine' DL.zsw KX G ?a ?l ?c ?k
  case a|l|c|k=>k_is
 have zg:DL.DefAt (L2.KOf KX) mg "_law_rows_due" Law.zc1:=by
  dsimp only [L2.KOf]
  refine' DL.zsw KX G ?a ?l ?c ?k
  case a|l|c|k=>k_is
 have zh:DL.DefAt (L2.KOf KX) mg "_law_part" Law.zeG:=by
  dsimp only [L2.KOf]
  refine' DL.zsw KX G ?a ?l ?c ?k
  case a|l|c|k=>k_is
 have zi:DL.DefAt (L2.KOf KX) mg "_law_due" Law.zbh:=by
  dsimp only [L2.KOf]
  refine' DL.zsw KX G ?a ?l ?c ?k
  case a|l|c|k=>k_is
 have zj:DL.DefAt (L2.KOf KX) mg "law" Law.zmB:=by
  dsimp only [L2.KOf]
  refine' DL.zsw KX G ?a ?l ?c ?k
  case a|l|c|k=>k_is
 refine DL.zsr hmg zj (fun _ _ _ _ _ _ us hl=>match us,hl with | [_],_=>rfl) fun f fd Fn base=>?_
 have uk:=Law.zmU (P:=P0) (w:=w) (base:=base) T ys
 have zk:=Law.zmR (P:=P0) (w:=w) (base:=base) T yt
 have zl:=Law.zn4 (P:=P0) (w:=w) (base:=base) T yu
 have zm:=Law.zlg (P:=P0) (w:=w) (base:=base) T yv uk zl
 have zn:=Law.zmT (P:=P0) (w:=w) (base:=base) T yw
 have zo:=Law.zka (P:=P0) (w:=w) (base:=base) T yx
 have zp:=Law.zn5 (P:=P0) (w:=w) (base:=base) T yy
 have zq:=Law.zfQ (P:=P0) (w:=w) (base:=base) T yz ui uj
 have zr:=Law.zn2 (P:=P0) (w:=w) (base:=base) T y0
 have ul:=Law.zn3 (P:=P0) (w:=w) (base:=base) T y1 zr
 have zs:=Law.zlf (P:=P0) (w:=w) (base:=base) T y2 ul
 have zt:=Law.zlT (P:=P0) (w:=w) (base:=base) T y3 zs
 have zu:=Law.zje (P:=P0) (w:=w) (base:=base) T y4 zt
 have zv:=Law.zld (P:=P0) (w:=w) (base:=base) T y5 zq zu ui uj (va base) vb
 have zw:=Law.zmO (P:=P0) (w:=w) (base:=base) T y6
 have zx:=Law.zmP (P:=P0) (w:=w) (base:=base) T y7 zw ul (vc base) vd
 have uf:=Law.zlS (P:=P0) (w:=w) (base:=base) T y8
 have ug:=Law.zmQ (P:=P0) (w:=w) (base:=base) T y9 uf
 have zy:=Law.zoU (P:=P0) (w:=w) (base:=base) T za ug
 have zz:=Law.zoV (P:=P0) (w:=w) (base:=base) T zb uf zy
 have z0:=Law.zqk (P:=P0) (w:=w) (base:=base) T zc ug
 have z1:=Law.zql (P:=P0) (w:=w) (base:=base) T zd uf ug
 have z2:=Law.zle (P:=P0) (w:=w) (base:=base) T ze zz z0 zv z1 zx (ve base) vf
 have z3:=Law.zj9 (P:=P0) (w:=w) (base:=base) T zf vg vh vi vj vk vl vm vn vo vp vq
 have z4:=Law.zjf (P:=P0) (w:=w) (base:=base) T zg
 have z5:=Law.zmS (P:=P0) (w:=w) (base:=base) T zh
 have z6:=Law.zn6 (P:=P0) (w:=w) (base:=base) T zi z5 z4
 exact Law.zsq T Fn uk zn zm zk zo zp z2 z3 z6 u7 u8 u9
end
