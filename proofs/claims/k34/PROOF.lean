import PyProof.Rows.All
import Wide.All
import OpenK.AllK
import Wide.FinOn
import Lean
import PyProof.EqAt
import PyProof.EqKinds
import PyProof.TupleCall
import PyProof.Rows.SetFrom
import KE.KSortTup
import PyProof.Draws
import PyProof.EnumMake
import PyProof.ListRange
import PyProof.Rows.EnumRows
import PyProof.SetRoads
import PyProof.Rows.MinMaxN
import PyProof.Rows.MaxTwoN
import PyProof.ZipIter
import KE.LcSums
import PyProof.TupleOfSeq
import PySem.Challenge.RW_ringtrade_k34_rings_of_shares
noncomputable section
set_option Elab.async false
set_option linter.all false
set_option maxRecDepth 100000
set_option maxHeartbeats 4000000
section
namespace L2
open PySem PySem.Spec PyProof.Rows
abbrev aD:=Sum Int Str
def Mn:aD->Value->Bool
 | .inl k,v=>Value.isInt k v
 | .inr x,v=>Value.isStrOf x v
def yf (w:World):aD->Int
 | .inl k=>hashInt k
 | .inr x=>hashStr w x
theorem keyIs_shape:∀{k:aD} {v:Value},Mn k v=true->(∃i t,k=Sum.inl i/\v=Value.int i t)\/(∃x t,k=Sum.inr x/\v=Value.str x t)
 | .inl i,v,h=>by
  obtain ⟨t,e⟩:=Value.isInt_shape (k:=i) (v:=v) h
  exact .inl ⟨i,t,rfl,e⟩
 | .inr x,v,h=>by
  obtain ⟨t,e⟩:=Value.isStrOf_shape (x:=x) (v:=v) h
  exact .inr ⟨x,t,rfl,e⟩
theorem JW (i:Int) (t:Tok):Mn (.inl i) (.int i t)=true:=by simp [Mn,Value.isInt]
theorem JX (x:Str) (t:Tok):Mn (.inr x) (.str x t)=true:=by simp [Mn,Value.isStrOf]
theorem Fs (a b:Int):decide ((Sum.inl a:aD)=Sum.inl b)=(a == b):=by
 by_cases e:a=b
 ·subst e; simp
 ·have h:¬ (Sum.inl a:aD)=Sum.inl b:=fun q=>e (Sum.inl.inj q)
  rw [decide_eq_false h]
  exact (beq_eq_false_iff_ne.mpr e).symm
theorem Fv (a b:Str):decide ((Sum.inr a:aD)=Sum.inr b)=decide (a=b):=by
 by_cases e:a=b
 ·subst e; simp
 ·have h:¬ (Sum.inr a:aD)=Sum.inr b:=fun q=>e (Sum.inr.inj q)
  rw [decide_eq_false h,decide_eq_false e]
theorem Ft (a:Int) (b:Str):decide ((Sum.inl a:aD)=Sum.inr b)=false:=decide_eq_false (fun q=>nomatch q)
theorem Fu (a:Str) (b:Int):decide ((Sum.inr a:aD)=Sum.inl b)=false:=decide_eq_false (fun q=>nomatch q)
def fY (prog:Program) (w:World):PySem.KeyKind prog w aD where
 is:=Mn
 hash:=yf w
 inj:=fun v a b ha hb=>by
  rcases keyIs_shape ha with ⟨i,t,rfl,rfl⟩ | ⟨x,t,rfl,rfl⟩
  ·rcases keyIs_shape hb with ⟨j,u,rfl,e⟩ | ⟨y,u,rfl,e⟩
   ·injection e with e1 _; rw [e1]
   ·exact nomatch e
  ·rcases keyIs_shape hb with ⟨j,u,rfl,e⟩ | ⟨y,u,rfl,e⟩
   ·exact nomatch e
   ·injection e with e1 _; rw [e1]
 byValue:=fun k v h=>by
  rcases keyIs_shape h with ⟨i,t,rfl,rfl⟩ | ⟨x,t,rfl,rfl⟩ <;> rfl
 pyHash:=fun hv h=>by
  rcases keyIs_shape hv with ⟨i,t,rfl,rfl⟩ | ⟨x,t,rfl,rfl⟩
  ·exact wpAny_pyHash_int h
  ·exact wpAny_pyHash_str h
 eqBool:=fun hu hv h=>by
  rcases keyIs_shape hu with ⟨i,t,rfl,rfl⟩ | ⟨x,t,rfl,rfl⟩
  ·rcases keyIs_shape hv with ⟨j,u,rfl,rfl⟩ | ⟨y,u,rfl,rfl⟩
   ·rw [Fs] at h; exact wpAny_eqBool_int h
   ·rw [Ft] at h; exact SeqAt.EqAt.int_str i t y u _ _ _ _ h
  ·rcases keyIs_shape hv with ⟨j,u,rfl,rfl⟩ | ⟨y,u,rfl,rfl⟩
   ·rw [Fu] at h; exact SeqAt.EqAt.str_int x t j u _ _ _ _ h
   ·rw [Fv] at h; exact wpAny_eqBool_str h
 «strs»:=fun k x t v h=>by
  rcases keyIs_shape h with ⟨i,u,rfl,e⟩ | ⟨y,u,rfl,e⟩
  ·exact nomatch e
  ·injection e with e1 _
   subst e1
   cases v <;> rfl
theorem K2 (prog:Program) (w:World) (i:Int) (t:Tok):(fY prog w).is (.inl i) (.int i t)=true:=JW i t
theorem K3 (prog:Program) (w:World) (x:Str) (t:Tok):(fY prog w).is (.inr x) (.str x t)=true:=JX x t
inductive V where
 | non | bl (b:Bool) | int (i:Int) | str (x:Str) | byt (b:Array UInt8) | flt (b:UInt64) | ref (a:Addr) | ty (n:String)
 deriving DecidableEq
def aw:V->Value->Prop
 | .non,u=>u=Value.none
 | .bl b,u=>u=Value.bool b
 | .int i,u=>∃t,u=Value.int i t
 | .str x,u=>∃t,u=Value.str x t
 | .byt b,u=>∃t,u=Value.bytes b t
 | .flt b,u=>∃t,u=Value.float b t
 | .ref a,u=>u=Value.ref a
 | .ty n,u=>u=Value.type n
abbrev ap:List V->List Value->Prop:=Paired aw
theorem ap.length {xs:List V} {us:List Value} (r:ap xs us):xs.length=us.length:=Paired.length r
theorem ap.get:∀{xs:List V} {us:List Value} {i:Nat} {x:V},ap xs us->xs[i]? = some x->∃u,us[i]? = some u/\aw x u
 | _,_,_,_,.nil,e=>by simp at e
 | _,_,0,_,.cons r _,e=>by simp at e; subst e; exact ⟨_,rfl,r⟩
 | _,_,i + 1,x,.cons _ t,e=>by
  obtain ⟨u,h1,h2⟩:=ap.get (i:=i) (x:=x) t (by simpa using e)
  exact ⟨u,by simpa using h1,h2⟩
theorem ap.set {x:V} {u:Value} (r:aw x u):∀{xs:List V} {us:List Value} (i:Nat),ap xs us->ap (xs.set i x) (us.set i u)
 | _,_,_,.nil=>.nil
 | _,_,0,.cons _ t=>.cons r t
 | _,_,i + 1,.cons q t=>.cons q (ap.set r i t)
theorem ap.append {xs ys:List V} {us ws:List Value} (h:ap xs us) (h':ap ys ws):ap (xs++ys) (us++ws):=by
 induction h with
 | nil=>exact h'
 | cons r _ ih=>exact .cons r ih
theorem ap.take:∀{xs:List V} {us:List Value} (n:Nat),ap xs us->ap (xs.take n) (us.take n)
 | _,_,0,_=>.nil
 | _,_,_ + 1,.nil=>.nil
 | _,_,n + 1,.cons r t=>.cons r (ap.take n t)
theorem ap.drop:∀{xs:List V} {us:List Value} (n:Nat),ap xs us->ap (xs.drop n) (us.drop n)
 | _,_,0,r=>r
 | _,_,_ + 1,.nil=>.nil
 | _,_,n + 1,.cons _ t=>ap.drop n t
def dB:Option V->Option Value->Prop
 | some v,some u=>aw v u
 | none,none=>True
 | _,_=>False
def KV {κ:Type}:List (κ × V)->List (κ × Value)->Prop:=Paired fun (p:κ × V) (q:κ × Value)=>p.1=q.1/\aw p.2 q.2
def kV:aD->V
 | .inl i=>.int i
 | .inr x=>.str x
inductive HO where
 | lst (xs:List V)
 | tup (xs:List V)
 | dK (kvs:List (aD × V)) | dT (kvs:List (List aD × V))
 | set (S:Int->Bool) (n:Nat)
 | ins (C dx:Addr) (fs:List (Str × V))
 | own (x:Addr)
 | xd (fs:List (Str × V))
 | met (f x:Addr)
 | rng (lo hi:Int)
 | frz (o:Obj) (u:HO)
 | tbl (ps:Array Value)
 | ext (φ:Heap->Prop)
abbrev Hp:=Addr->Option HO
def upd (H:Hp) (a:Addr) (o:HO):Hp:=fun b=>if b=a then some o else H b
theorem cy {H:Hp} {a:Addr} {o:HO}:upd H a o a=some o:=by unfold upd; rw [if_pos rfl]
theorem bH {H:Hp} {a b:Addr} {o:HO} (h:b≠a):upd H a o b=H b:=by unfold upd; rw [if_neg h]
theorem DH {H:Hp} {a b:Addr} {o u:HO} (h:H a=some o) (h':H b=some u) (d:o≠u):a≠b:=by
 intro e; subst e; rw [h] at h'; exact d (Option.some.inj h')
theorem lF {H:Hp} {a b:Addr} {o:HO} (h:H a=some o) (h':H b=none):a≠b:=by
 intro e; subst e; rw [h] at h'; cases h'
section
variable (P:Program) (w:World)
def cm (H:Hp) (h:Heap) (a:Addr):HO->Prop
 | .lst xs=>xs.length<=sizeLine/\∃(its:List Value) (n:Nat),ap xs its/\h.get? a=some { cls:=.type "list",data:=.seq its.toArray n }
 | .tup xs=>xs.length<=sizeLine/\∃its:List Value,ap xs its/\IsTup h a its.toArray/\∃o,h.get? a=some o/\o.dict=none
 | .dK kvs=>kvs.length<=sizeLine/\(a == sysModules)=false/\∃vs,KV kvs vs/\h.DictOf (fY P w) a vs
 | .dT kvs=>kvs.length<=sizeLine/\(a == sysModules)=false/\∃xs:List (List aD × Addr × Value),
   Paired (fun (p:List aD × V) (q:List aD × Addr × Value)=>p.1=q.1/\H q.2.1=some (.tup (p.1.map kV))/\aw p.2 q.2.2) kvs xs /\
   ∃o es ep,h.get? a=some o/\o.ExactDict/\o.data=.dict es ep/\es.toList=xs.map (entryOfKey (tupleKind (fY P w)))/\(xs.map (·.1)).Nodup
 | .set S n=>h.SetOf (intKind P w) a S n
 | .ins C dx fs=>H dx=some (.own a)/\fs.length<=1000/\dx≠a/\h.get? a=some (W.instObj C dx) /\
   ∃mA,h.Ns1 dx mA/\(∀f,dB (fs.lookup f) (mA f))/\PySem.Within mA (fs.map (·.1))
 | .own _=>∃o,h.get? a=some o
 | .xd fs=>∃mA,h.Ns1 a mA/\∀f,dB (fs.lookup f) (mA f)
 | .rng lo hi=>∃t u v,h.get? a=some { cls:=.type "range",data:=.fields #[.int lo t,.int hi u,.int 1 v] }
 | .frz o u=>h.get? a=some o/\cm H h a u
 | .tbl ps=>h.get? a=some { cls:=.none,data:=.fields ps }
 | .met f x=>h.get? a=some (W.methodObj (.ref f) (.ref x))
 | .ext φ=>φ h/\(∃o,h.get? a=some o)/\∀h1 h2:Heap,φ h1->(∀o,h1.get? a=some o->h2.get? a=some o)->φ h2
def cG (H:Hp) (h:Heap):Prop:=∀a o,H a=some o->cm P w H h a o
end
section
variable {P:Program} {w:World} {H H':Hp} {h h':Heap} {a:Addr} {o:HO}
theorem cm.lt (x:cm P w H h a o):a < h.objs.size:=by
 cases o with
 | lst xs=>obtain ⟨_,_,_,_,e⟩:=x; exact Heap.lt_size e
 | tup xs=>obtain ⟨_,_,_,p,_⟩:=x; exact p.lt
 | dK kvs=>obtain ⟨_,_,_,_,o,_,_,e,_⟩:=x; exact Heap.lt_size e
 | dT kvs=>obtain ⟨_,_,_,_,o,_,_,e,_⟩:=x; exact Heap.lt_size e
 | set S n=>obtain ⟨o,_,_,_,e,_⟩:=x; exact Heap.lt_size e
 | ins C dx fs=>obtain ⟨_,_,_,e,_⟩:=x; exact Heap.lt_size e
 | own y=>obtain ⟨_,e⟩:=x; exact Heap.lt_size e
 | xd fs=>obtain ⟨_,⟨_,_,_,e,_⟩,_⟩:=x; exact Heap.lt_size e
 | rng lo hi=>obtain ⟨_,_,_,e⟩:=x; exact Heap.lt_size e
 | frz ob u=>obtain ⟨e,_⟩:=x; exact Heap.lt_size e
 | tbl ps=>exact Heap.lt_size (show h.get? a=some _ from x)
 | met f y=>exact Heap.lt_size (show h.get? a=some _ from x)
 | ext φ=>obtain ⟨_,⟨_,e⟩,_⟩:=x; exact Heap.lt_size e
theorem Paired.mapP {α β:Type} {F G:α->β->Prop} {l₁:List α} {l₂:List β} (h:Paired F l₁ l₂) (f:∀a b,F a b->G a b):Paired G l₁ l₂:=by
 induction h with
 | nil=>exact .nil
 | cons r _ ih=>exact .cons (f _ _ r) ih
theorem cm.stay (x:cm P w H h a o) (k:∀b u,(b=a\/H b=some (.own a))->h.get? b=some u->h'.get? b=some u)
  (ho:∀b,H b=some (.own a)->H' b=some (.own a)) (ht:∀b xs,H b=some (.tup xs)->H' b=some (.tup xs)):cm P w H' h' a o:=by
 induction o with
 | lst xs=>obtain ⟨z,its,n,r,e⟩:=x; exact ⟨z,its,n,r,k _ _ (.inl rfl) e⟩
 | tup xs=>obtain ⟨z,its,r,⟨ob,e,c⟩,ob2,e2,c2⟩:=x; exact ⟨z,its,r,⟨ob,k _ _ (.inl rfl) e,c⟩,ob2,k _ _ (.inl rfl) e2,c2⟩
 | dK kvs=>obtain ⟨z,y,vs,r,ob,es,ep,e,c⟩:=x; exact ⟨z,y,vs,r,ob,es,ep,k _ _ (.inl rfl) e,c⟩
 | dT kvs=>
  obtain ⟨z,y,xs,r,ob,es,ep,e,c⟩:=x
  exact ⟨z,y,xs,Paired.mapP r fun p q z=>⟨z.1,ht _ _ z.2.1,z.2.2⟩,ob,es,ep,k _ _ (.inl rfl) e,c⟩
 | set S n=>obtain ⟨ob,es,ep,t,e,c⟩:=x; exact ⟨ob,es,ep,t,k _ _ (.inl rfl) e,c⟩
 | ins C dx fs=>
  obtain ⟨d,z,ne,e,mA,⟨od,es,ep,e2,c⟩,r⟩:=x
  exact ⟨ho _ d,z,ne,k _ _ (.inl rfl) e,mA,⟨od,es,ep,k _ _ (.inr d) e2,c⟩,r⟩
 | own y=>obtain ⟨ob,e⟩:=x; exact ⟨ob,k _ _ (.inl rfl) e⟩
 | xd fs=>obtain ⟨mA,⟨od,es,ep,e,c⟩,r⟩:=x; exact ⟨mA,⟨od,es,ep,k _ _ (.inl rfl) e,c⟩,r⟩
 | rng lo hi=>obtain ⟨t,u,v,e⟩:=x; exact ⟨t,u,v,k _ _ (.inl rfl) e⟩
 | frz ob u ih=>obtain ⟨e,q⟩:=x; exact ⟨k _ _ (.inl rfl) e,ih q⟩
 | tbl ps=>
  have e:h.get? a=some { cls:=.none,data:=.fields ps }:=x
  show h'.get? a=some { cls:=.none,data:=.fields ps }
  exact k a _ (.inl rfl) e
 | met f y=>
  have e:h.get? a=some (W.methodObj (.ref f) (.ref y)):=x
  show h'.get? a=some (W.methodObj (.ref f) (.ref y))
  exact k a _ (.inl rfl) e
 | ext φ=>obtain ⟨p,⟨o,e⟩,st⟩:=x; exact ⟨st _ _ p fun o q=>k _ _ (.inl rfl) q,⟨o,k _ _ (.inl rfl) e⟩,st⟩
theorem cG.lt (x:cG P w H h) (e:H a=some o):a < h.objs.size:=(x a o e).lt
theorem cG.fresh (x:cG P w H h) (e:h.objs.size<=a):H a=none:=by
 cases q:H a with
 | none=>rfl
 | some u=>exact absurd (Nat.lt_of_lt_of_le (x.lt q) e) (Nat.lt_irrefl _)
theorem cG.kept (x:cG P w H h) (k:∀b u,h.get? b=some u->h'.get? b=some u):cG P w H h':=fun a o e=>
 (x a o e).stay (fun b u _ q=>k b u q) (fun _ q=>q) fun _ _ q=>q
theorem cG.laid (x:cG P w H h) (k:∀b u,h.get? b=some u->h'.get? b=some u) (hp:h.objs.size<=a) (new:cm P w (upd H a o) h' a o):cG P w (upd H a o) h':=fun b u e=>by
 have hn:=x.fresh hp
 by_cases hb:b=a
 ·subst hb; rw [cy] at e; cases e; exact new
 ·rw [bH hb] at e
  exact (x b u e).stay (fun c v _ q=>k c v q) (fun c q=>by rw [bH (lF q hn)]; exact q) fun c xs q=>by rw [bH (lF q hn)]; exact q
end
def Rd (H:Hp) (a:Addr) (u:HO):Prop:=H a=some u\/∃o,H a=some (.frz o u)
theorem Rd.ok {P:Program} {w:World} {H:Hp} {h:Heap} {a:Addr} {u:HO} (r:Rd H a u) (x:cG P w H h):cm P w H h a u:=by
 rcases r with r | ⟨o,r⟩
 ·exact x a u r
 ·obtain ⟨_,q⟩:=x a _ r
  exact q
def pB:Option HO->Prop
 | some (.lst _)=>True
 | some (.dK _)=>True
 | some (.dT _)=>True
 | some (.set _ _)=>True
 | some (.ins _ _ _)=>True
 | some (.ext _)=>True
 | _=>False
section
variable {P:Program} {w:World} {H:Hp} {h h':Heap} {x e:Addr} {o':HO}
theorem cG.write (ok:cG P w H h) (mu:pB (H x)) (he:e=x\/H e=some (.own x)) (k:∀b u,b≠e->h.get? b=some u->h'.get? b=some u) (heo:∃u,h'.get? e=some u)
  (new:cm P w (upd H x o') h' x o'):cG P w (upd H x o') h':=fun b u q=>by
 have nown:∀c y,H c=some (.own y)->c≠x:=fun c y r z=>by subst z; rw [r] at mu; exact mu
 have ntup:∀c xs,H c=some (.tup xs)->c≠x:=fun c xs r z=>by subst z; rw [r] at mu; exact mu
 by_cases hb:b=x
 ·subst hb; rw [cy] at q; cases q; exact new
 ·rw [bH hb] at q
  by_cases hbe:b=e
  ·have q':H b=some (.own x):=by
    rcases he with z | z
    ·exact absurd (hbe.trans z) hb
    ·rw [hbe]; exact z
   rw [q] at q'; cases q'
   obtain ⟨v,hv⟩:=heo
   exact ⟨v,by rw [hbe]; exact hv⟩
  ·refine (ok b u q).stay (fun c v hc r=>k c v ?_ r) (fun c r=>by rw [bH (nown c b r)]; exact r) fun c xs r=>by rw [bH (ntup c xs r)]; exact r
   rcases hc with rfl | hc
   ·exact hbe
   ·rintro rfl
    rcases he with z | z
    ·exact nown c b hc z
    ·rw [hc] at z; cases z; exact hb rfl
end
structure Un (fs ex:List Addr) (H H':Hp) (h h':Heap):Prop where
 keep:∀b o,h.get? b=some o->H b=none->b∉fs->b∉ex->h'.get? b=some o
 slot:∀b o,h.get? b=some o->H b=none->b∈fs->b∉ex->∃sl,h'.get? b=some { o with slots:=sl }
 free:∀b o,h.get? b=some o->H b=none->b∉ex->H' b=none
 there:∀b o,h.get? b=some o->b∉ex->∃o',h'.get? b=some o'
 tups:∀b xs,H b=some (.tup xs)->H' b=some (.tup xs)
 frzs:∀b o u,H b=some (.frz o u)->H' b=some (.frz o u)
 tbls:∀b ps,H b=some (.tbl ps)->∃more,H' b=some (.tbl (ps++more))
section
variable {fs fs' ex ex':List Addr} {H H1 H2:Hp} {h h1 h2 h':Heap} {a x e:Addr} {o:HO}
theorem Un.any (u:Un fs ex H H1 h h1) {b:Addr} {ob:Obj} (q:h.get? b=some ob) (n:H b=none) (hx:b∉ex):∃sl,h1.get? b=some { ob with slots:=sl }:=by
 by_cases hb:b∈fs
 ·exact u.slot b ob q n hb hx
 ·exact ⟨ob.slots,u.keep b ob q n hb hx⟩
theorem Un.trans (a:Un fs ex H H1 h h1) (b:Un fs ex H1 H2 h1 h2):Un fs ex H H2 h h2 where
 keep:=fun c ob q n hc hx=>b.keep c ob (a.keep c ob q n hc hx) (a.free c ob q n hx) hc hx
 slot:=fun c ob q n hc hx=>by
  obtain ⟨sl,e1⟩:=a.slot c ob q n hc hx
  obtain ⟨sl',e2⟩:=b.slot c _ e1 (a.free c ob q n hx) hc hx
  exact ⟨sl',e2⟩
 free:=fun c ob q n hx=>by
  obtain ⟨o',e1⟩:=a.there c ob q hx
  exact b.free c o' e1 (a.free c ob q n hx) hx
 there:=fun c ob q hx=>by
  obtain ⟨o',e1⟩:=a.there c ob q hx
  exact b.there c o' e1 hx
 tups:=fun c xs q=>b.tups c xs (a.tups c xs q)
 frzs:=fun c ob xs q=>b.frzs c ob xs (a.frzs c ob xs q)
 tbls:=fun c ps q=>by
  obtain ⟨m1,e1⟩:=a.tbls c ps q
  obtain ⟨m2,e2⟩:=b.tbls c _ e1
  exact ⟨m1++m2,by rw [e2,Array.append_assoc]⟩
theorem Un.kept (k:∀b u,h.get? b=some u->h'.get? b=some u):Un fs ex H H h h':=
 ⟨fun b ob q _ _ _=>k b ob q,fun b ob q _ _ _=>⟨ob.slots,k b ob q⟩,fun _ _ _ n _=>n,fun b ob q _=>⟨ob,k b ob q⟩,fun _ _ q=>q,fun _ _ _ q=>q,fun _ ps q=>⟨#[],by rw [q]; simp⟩⟩
theorem Un.refl:Un fs ex H H h h:=Un.kept fun _ _ q=>q
theorem Un.laid (k:∀b u,h.get? b=some u->h'.get? b=some u) (hp:h.objs.size<=a) (hn:H a=none):Un fs ex H (upd H a o) h h' where
 keep:=fun b u q _ _ _=>k b u q
 slot:=fun b u q _ _ _=>⟨u.slots,k b u q⟩
 free:=fun b u q n _=>by rw [bH (Nat.ne_of_lt (Nat.lt_of_lt_of_le (Heap.lt_size q) hp))]; exact n
 there:=fun b u q _=>⟨u,k b u q⟩
 tups:=fun b xs q=>by rw [bH (lF q hn)]; exact q
 frzs:=fun b u xs q=>by rw [bH (lF q hn)]; exact q
 tbls:=fun b ps q=>⟨#[],by rw [bH (lF q hn),q]; simp⟩
theorem Un.write (mu:pB (H x)) (he:e=x\/H e=some (.own x)) (k:∀b u,b≠e->h.get? b=some u->h'.get? b=some u) (heo:∃u,h'.get? e=some u):Un fs ex H (upd H x o) h h':=by
 have hx:∀b,H b=none->b≠x:=fun b n z=>by subst z; rw [n] at mu; exact mu
 have hb:∀b,H b=none->b≠e:=fun b n z=>by
  subst z
  rcases he with r | r
  ·exact hx b n r
  ·rw [n] at r; cases r
 have hm:∀b u,H b=some u->¬ pB (some u)->b≠x:=fun b u q nm z=>by subst z; rw [q] at mu; exact nm mu
 refine ⟨fun b u q n _ _=>k b u (hb b n) q,fun b u q n _ _=>⟨u.slots,k b u (hb b n) q⟩,fun b u q n _=>by rw [bH (hx b n)]; exact n,fun b u q _=>?_,
  fun b xs q=>by rw [bH (hm b _ q fun z=>z)]; exact q,fun b u xs q=>by rw [bH (hm b _ q fun z=>z)]; exact q,fun b ps q=>⟨#[],by rw [bH (hm b _ q fun z=>z),q]; simp⟩⟩
 by_cases hbe:b=e
 ·subst hbe; exact heo
 ·exact ⟨u,k b u hbe q⟩
theorem Un.mono (u:Un fs ex H H1 h h1) (hs:∀b∈fs,b∈fs') (hx:∀b∈ex,b∈ex'):Un fs' ex' H H1 h h1:=
 ⟨fun b ob q n hb he=>u.keep b ob q n (fun z=>hb (hs b z)) fun z=>he (hx b z),fun _ _ q n _ he=>u.any q n fun z=>he (hx _ z),fun b ob q n he=>u.free b ob q n fun z=>he (hx b z),fun b ob q he=>u.there b ob q fun z=>he (hx b z),u.tups,u.frzs,u.tbls⟩
end
def trk (h:Heap) (H:Hp):List Addr:=(List.range h.objs.size).filter fun a=>(H a).isSome
def fD (h:Heap) (H:Hp):Heap:=W.hideAll h (trk h H)
theorem Jt (h:Heap) (H:Hp):(fD h H).objs.size=h.objs.size:=W.hideAll_size _ _
theorem IP {h:Heap} {H:Hp} {b:Addr} {o:Obj} (e:h.get? b=some o) (n:H b=none):(fD h H).get? b=some o:=
 W.hideAll_get _ e fun hm=>by
  have q:(H b).isSome=true:=(List.mem_filter.mp hm).2
  rw [n] at q; simp at q
theorem Hm {h:Heap} {H:Hp} {b:Addr} {o:Obj} (e:(fD h H).get? b=some o):h.get? b=some o/\H b=none:=by
 have e':h.get? b=some o:=W.of_hideAll (trk h H) e
 refine ⟨e',?_⟩
 cases q:H b with
 | none=>rfl
 | some x=>
  have hm:b∈trk h H:=List.mem_filter.mpr ⟨List.mem_range.mpr (Heap.lt_size e'),by simp [q]⟩
  have z:(fD h H).get? b=none:=W.hideAll_none (trk h H) hm
  rw [z] at e; cases e
def nE (g h:Heap) (L:Addr):List (Addr × Obj):=(List.range h.objs.size).filterMap fun a=>if a=L\/(g.get? a).isSome=true then none else (h.get? a).map fun o=>(a,o)
theorem K1 {g h:Heap} {L a:Addr} {o:Obj} (h1:a≠L) (h2:g.get? a=none) (h3:h.get? a=some o):(a,o)∈nE g h L:=
 List.mem_filterMap.mpr ⟨a,List.mem_range.mpr (Heap.lt_size h3),by simp [h1,h2,h3]⟩
theorem Ls {g h:Heap} {L:Addr} {p:Addr × Obj} (hp:p∈nE g h L):p.1≠L/\g.get? p.1=none/\h.get? p.1=some p.2:=by
 obtain ⟨b,_,e⟩:=List.mem_filterMap.mp hp
 split at e
 ·cases e
 ·rename_i hn
  cases q:h.get? b with
  | none=>rw [q] at e; simp at e
  | some u=>
   rw [q] at e
   simp only [Option.map_some,Option.some.injEq] at e
   subst e
   refine ⟨fun z=>hn (.inl z),?_,q⟩
   show g.get? b=none
   cases r:g.get? b with
   | none=>rfl
   | some v=>exact (hn (.inr (by simp [r]))).elim
def rest (g h:Heap) (L d:Addr):List (Addr × Obj):=(nE g h L).filter fun p=>decide (p.1≠d)
theorem IX {g h:Heap} {L:Addr}:News g L h (nE g h L):=fun p hp=>let ⟨a,b,c⟩:=Ls hp; ⟨c,a,b⟩
structure Mod (K:W.Frag) (mg:Str->Option Value) (base:Heap):Prop where
 kin:K.In base
 glob:base.Ns mainGlobals mg
 blt:∃mb,base.Ns builtinsNs mb/\∀x:Str,x≠"__name__"->mb x=bootBuiltins x
 nolimit:base.NoLimit
structure Cx where
 prog:Program
 w:World
 K:W.Frag
 mg:Str->Option Value
 base:Heap
 A:Around
 N:List Str
 s₀:Shared
 H₀:Hp
 env:Env
 outer:List Env
 stack:List Env
 ex:List Addr
 fn:Str->Bool
 calm:Bool
 pn:List (Addr × Obj)
 xe:Value->Shared->Prop
def gU (l:List Env):List Addr:=l.filterMap (·.frame)
abbrev Cx.fs (X:Cx):List Addr:=gU X.outer
def f8 (sc:Scope) (x:Str):Prop:=sc.names.lookup x=some .local\/sc.names.lookup x=some .cell\/sc.names.lookup x=some .free
def iP (sc:Scope) (x:Str):Prop:=sc.names.lookup x=some .local\/sc.names.lookup x=some .cell
theorem dh{sc:Scope}{x:Str}(h:(match sc.names.lookup x with|some .local=>true|some .cell=>true|some .free=>true|_=>false)=true):f8 sc x:=by
 revert h;unfold f8;split<;>intro h
 ·exact .inl (by assumption)
 ·exact .inr (.inl (by assumption))
 ·exact .inr (.inr (by assumption))
 ·cases h
def yt (env:Env) (h:Heap) (m:Str->Option Value) (x:Str) (u:Value):Prop:=
 (env.kindOf x=some .local/\m x=some u)\/((env.kindOf x=some .cell\/env.kindOf x=some .free)/\∃c,env.cells.lookup x=some c/\h.IsCell c (some u))
structure Cx.Ok (X:Cx):Prop where
 mod:Mod X.K X.mg X.base
 kind:X.env.scope.kind=.function
 glob:X.env.globals=mainGlobals
 blt:X.env.builtins=builtinsNs
 above:X.s₀.heap.objs.size<=X.env.locals
 inj:∀x y c,X.env.cells.lookup x=some c->X.env.cells.lookup y=some c->x=y
 has:∀x,(X.env.kindOf x=some .cell\/X.env.kindOf x=some .free)->∃c,X.env.cells.lookup x=some c
 cab:∀x c,X.fn x=true->X.env.cells.lookup x=some c->X.s₀.heap.objs.size<=c
 hd:X.calm=true->X.A.handled=none
 frames:X.A.frames=some X.stack
 stk:X.stack=X.outer\/(X.stack=X.env::X.outer/\X.env.frame=some X.env.locals)
 exf:∀b∈X.ex,b≠X.env.locals/\∀x c,X.env.cells.lookup x=some c->c≠b
 bs:∀b o,X.base.get? b=some o->X.s₀.heap.get? b=some o/\X.H₀ b=none
 bsz:X.base.objs.size<=X.s₀.heap.objs.size
 noex:∀b o,X.base.get? b=some o->b∉X.ex
 exfs:∀b∈X.ex,b∉X.fs
 funs:X.s₀.heap.FunFrames X.base X.outer
 frf:∀b∈X.fs,X.H₀ b=none
structure Inv (X:Cx) (pz:List (Addr × Obj)) (σ:List (Option V)) (H:Hp) (s:Shared):Prop where
 ok:X.Ok
 os:s.os=X.s₀.os
 bare:AllBare s.gens
 base:Un X.fs X.ex X.H₀ H X.s₀.heap s.heap
 loc:∃m,s.heap.Ns X.env.locals m/\∀(i:Nat) (x:Str) (v:V),X.N[i]? = some x->σ[i]? = some (some v)->f8 X.env.scope x->∃u,aw v u/\yt X.env s.heap m x u
 cell:∀x c,X.env.cells.lookup x=some c->∃v,s.heap.IsCell c v
 free:H X.env.locals=none
 freeC:∀x c,X.env.cells.lookup x=some c->H c=none
 pin:∀p∈X.pn++pz,s.heap.get? p.1=some p.2/\H p.1=none/\p.1≠X.env.locals/\p.1∉X.fs/\∀v,p.2.data≠.cell v
 hok:cG X.prog X.w H s.heap
 len:σ.length=X.N.length
section
variable {X:Cx} {pz:List (Addr × Obj)} {σ:List (Option V)} {H H':Hp} {s:Shared} {h':Heap}
theorem Cx.Ok.nofr (ok:X.Ok) {b:Addr} {o:Obj} (e:X.base.get? b=some o):b∉X.fs:=fun hb=>by
 have:=(ok.funs.mem hb).1
 rw [e] at this; cases this
theorem Inv.bs (I:Inv X pz σ H s):∀b o,X.base.get? b=some o->s.heap.get? b=some o/\H b=none:=fun b o e=>
 ⟨I.base.keep b o (I.ok.bs b o e).1 (I.ok.bs b o e).2 (I.ok.nofr e) (I.ok.noex b o e),I.base.free b o (I.ok.bs b o e).1 (I.ok.bs b o e).2 (I.ok.noex b o e)⟩
theorem Inv.bk (I:Inv X pz σ H s):∀b o,X.base.get? b=some o->s.heap.get? b=some o:=fun b o e=>(I.bs b o e).1
theorem Inv.mod (I:Inv X pz σ H s):Mod X.K X.mg X.base:=I.ok.mod
theorem Inv.kIn (I:Inv X pz σ H s):X.K.In s.heap:=I.ok.mod.kin.keeps I.bk
theorem Inv.nolimit (I:Inv X pz σ H s):s.heap.NoLimit:=I.ok.mod.nolimit.keeps I.bk
theorem Inv.fr (I:Inv X pz σ H s):∃m,Fr X.base X.env.locals s.heap m:=
 let ⟨m,hn,_⟩:=I.loc
 ⟨m,hn,I.bk,Nat.le_trans I.ok.bsz I.ok.above⟩
theorem Inv.lt (I:Inv X pz σ H s):X.env.locals < s.heap.objs.size:=let ⟨_,hn,_⟩:=I.loc; hn.lt
theorem Inv.sz (I:Inv X pz σ H s):X.s₀.heap.objs.size<=s.heap.objs.size:=Nat.le_trans I.ok.above (Nat.le_of_lt I.lt)
theorem Inv.nofs (I:Inv X pz σ H s) {a:Addr} (h:s.heap.objs.size<=a):a∉X.fs:=fun hb=>by
 obtain ⟨_,o,ho,_⟩:=I.ok.funs.mem hb
 exact absurd (Nat.lt_of_lt_of_le (Heap.lt_size ho) (Nat.le_trans I.sz h)) (Nat.lt_irrefl _)
theorem Inv.cne (I:Inv X pz σ H s):∀x c,X.env.cells.lookup x=some c->c≠X.env.locals:=fun x c e z=>by
 obtain ⟨v,o,ho,hd⟩:=I.cell x c e
 obtain ⟨m,⟨o',es,ep,ho',hd',_⟩,_⟩:=I.loc
 rw [z,ho'] at ho; cases ho; rw [hd'] at hd; cases hd
theorem Inv.funs (I:Inv X pz σ H s):s.heap.FunFrames X.base X.outer:=by
 have all:∀(l:List Env),(∀b∈gU l,b∈X.fs)->X.s₀.heap.FunFrames X.base l->s.heap.FunFrames X.base l:=by
  intro l
  induction l with
  | nil=>intro _ _; trivial
  | cons env r ih=>
   intro hs hl
   obtain ⟨hk,⟨L,o,hf,hn,ho,hd⟩,hr⟩:=hl
   have hL:L∈X.fs:=hs L (by unfold gU; rw [List.filterMap_cons,hf]; exact List.mem_cons_self)
   obtain ⟨sl,e⟩:=I.base.slot L o ho (I.ok.frf L hL) hL fun z=>I.ok.exfs L z hL
   exact ⟨hk,⟨L,_,hf,hn,e,hd⟩,ih (fun b hb=>hs b (by unfold gU; rw [List.filterMap_cons,hf]; exact List.mem_cons_of_mem _ hb)) hr⟩
 exact all X.outer (fun _ hb=>hb) I.ok.funs
theorem Inv.stack (I:Inv X pz σ H s):s.heap.FunFrames X.base X.stack:=by
 rcases I.ok.stk with e | ⟨e,hf⟩
 ·rw [e]; exact I.funs
 ·rw [e]
  obtain ⟨m,hn,_⟩:=I.loc
  refine .cons (by rw [I.ok.kind]; decide) hf hn ?_ I.funs
  exact Heap.get?_none_of_le (Nat.le_trans I.ok.bsz I.ok.above)
theorem Inv.stkSub (I:Inv X pz σ H s):∀b∈gU X.stack,b∈X.env.locals::X.fs:=fun b hb=>by
 rcases I.ok.stk with e | ⟨e,hf⟩
 ·rw [e] at hb; exact List.mem_cons_of_mem _ hb
 ·rw [e] at hb
  unfold gU at hb
  rw [List.filterMap_cons,hf] at hb
  exact hb
theorem Inv.stkFree (I:Inv X pz σ H s):∀b∈gU X.stack,H b=none:=fun b hb=>by
 rcases List.mem_cons.mp (I.stkSub b hb) with e | hb
 ·rw [e]; exact I.free
 ·obtain ⟨_,o,ho,_⟩:=I.ok.funs.mem hb
  exact I.base.free b o ho (I.ok.frf b hb) fun z=>I.ok.exfs b z hb
theorem Inv.step {g':Array GenState} {t':Nat} {d':Drawn} {ch:List Addr} (I:Inv X pz σ H s)
  (hch:∀b∈ch,(b∈X.ex\/X.s₀.heap.objs.size<=b)/\b≠X.env.locals/\(∀x c,X.env.cells.lookup x=some c->c≠b)/\∀p∈X.pn++pz,p.1≠b)
  (keep:∀b o,b≠X.env.locals->b∉X.fs->b∉ch->s.heap.get? b=some o->H b=none->h'.get? b=some o)
  (slot:∀b o,b≠X.env.locals->b∈X.fs->b∉ch->s.heap.get? b=some o->H b=none->∃sl,h'.get? b=some { o with slots:=sl }) (free:∀b o,b∉ch->s.heap.get? b=some o->H b=none->H' b=none)
  (there:∀b o,b∉ch->s.heap.get? b=some o->∃o',h'.get? b=some o')
  (tups:∀b xs,H b=some (.tup xs)->H' b=some (.tup xs)) (frzs:∀b o u,H b=some (.frz o u)->H' b=some (.frz o u)) (tbls:∀b ps,H b=some (.tbl ps)->∃more,H' b=some (.tbl (ps++more)))
  (ns:∀m,s.heap.Ns X.env.locals m->h'.Ns X.env.locals m) (hok:cG X.prog X.w H' h') (hg:AllBare g') :
  Inv X pz σ H' { s with heap:=h',gens:=g',drawn:=d',toks:=t' }:=by
 have neL:∀b o,X.s₀.heap.get? b=some o->b≠X.env.locals:=fun b o e=>Nat.ne_of_lt (Nat.lt_of_lt_of_le (Heap.lt_size e) I.ok.above)
 have neC:∀b o,X.s₀.heap.get? b=some o->b∉X.ex->b∉ch:=fun b o e hx hb=>by
  rcases (hch b hb).1 with z | z
  ·exact hx z
  ·exact absurd (Nat.lt_of_lt_of_le (Heap.lt_size e) z) (Nat.lt_irrefl _)
 have cellK:∀x c,X.env.cells.lookup x=some c->∀v,s.heap.IsCell c v->h'.IsCell c v:=fun x c e v ⟨o,ho,hd⟩=>by
  have nch:c∉ch:=fun z=>(hch c z).2.2.1 x c e rfl
  by_cases hc:c∈X.fs
  ·obtain ⟨sl,q⟩:=slot c o (I.cne x c e) hc nch ho (I.freeC x c e)
   exact ⟨_,q,hd⟩
  ·exact ⟨o,keep c o (I.cne x c e) hc nch ho (I.freeC x c e),hd⟩
 refine ⟨I.ok,I.os,hg,⟨fun b o e n hb hx=>?_,fun b o e n hb hx=>?_,fun b o e n hx=>?_,fun b o e hx=>?_,fun b xs e=>tups b xs (I.base.tups b xs e),fun b o xs e=>frzs b o xs (I.base.frzs b o xs e),fun b ps e=>?_⟩,?_,fun x c e=>?_,?_,fun x c e=>?_,fun p hp=>?_,hok,I.len⟩
 ·exact keep b o (neL b o e) hb (neC b o e hx) (I.base.keep b o e n hb hx) (I.base.free b o e n hx)
 ·obtain ⟨sl,e1⟩:=I.base.slot b o e n hb hx
  obtain ⟨sl',e2⟩:=slot b _ (neL b o e) hb (neC b o e hx) e1 (I.base.free b o e n hx)
  exact ⟨sl',e2⟩
 ·obtain ⟨o',e1⟩:=I.base.there b o e hx
  exact free b o' (neC b o e hx) e1 (I.base.free b o e n hx)
 ·obtain ⟨o',e1⟩:=I.base.there b o e hx
  exact there b o' (neC b o e hx) e1
 ·obtain ⟨m1,e1⟩:=I.base.tbls b ps e
  obtain ⟨m2,e2⟩:=tbls b _ e1
  exact ⟨m1++m2,by rw [e2,Array.append_assoc]⟩
 ·obtain ⟨m,hn,hl⟩:=I.loc
  refine ⟨m,ns m hn,fun i x v e1 e2 e3=>?_⟩
  obtain ⟨u,r,l⟩:=hl i x v e1 e2 e3
  refine ⟨u,r,?_⟩
  rcases l with l | ⟨k,c,e,z⟩
  ·exact .inl l
  ·exact .inr ⟨k,c,e,cellK x c e _ z⟩
 ·obtain ⟨v,z⟩:=I.cell x c e
  exact ⟨v,cellK x c e v z⟩
 ·obtain ⟨m,⟨o,_,_,ho,_⟩,_⟩:=I.loc
  exact free _ o (fun z=>(hch _ z).2.1 rfl) ho I.free
 ·obtain ⟨v,o,ho,hd⟩:=I.cell x c e
  exact free c o (fun z=>(hch c z).2.2.1 x c e rfl) ho (I.freeC x c e)
 ·obtain ⟨e,n,ne,nf,d⟩:=I.pin p hp
  have nch:p.1∉ch:=fun z=>(hch p.1 z).2.2.2 p hp rfl
  exact ⟨keep p.1 p.2 ne nf nch e n,free p.1 p.2 nch e n,ne,nf,d⟩
theorem Inv.un {t':Nat} (I:Inv X pz σ H s) (u:Un X.fs [] H H' s.heap h') (hok:cG X.prog X.w H' h'):Inv X pz σ H' { s with heap:=h',toks:=t' }:=by
 obtain ⟨m,⟨o,es,ep,ho,r⟩,_⟩:=id I.loc
 obtain ⟨sl,hL⟩:=u.any ho I.free (by simp)
 exact I.step (g':=s.gens) (d':=s.drawn) (ch:=[]) (fun _ z=>nomatch z) (fun b o _ hb _ e n=>u.keep b o e n hb (by simp)) (fun b o _ hb _ e n=>u.slot b o e n hb (by simp)) (fun b o _ e n=>u.free b o e n (by simp)) (fun b o _ e=>u.there b o e (by simp)) u.tups u.frzs u.tbls (fun m' hm=>by
  obtain ⟨o',es',ep',ho',r'⟩:=hm
  rw [ho] at ho'; cases ho'
  exact ⟨_,es',ep',hL,r'⟩) hok I.bare
theorem Inv.call {g':Array GenState} {t':Nat} {d':Drawn} {ch:List Addr} (I:Inv X pz σ H s) (u:Un (gU X.stack) ch H H' s.heap h') (hok:cG X.prog X.w H' h') (hg:AllBare g')
  (hch:∀b∈ch,(b∈X.ex\/X.s₀.heap.objs.size<=b)/\b≠X.env.locals/\(∀x c,X.env.cells.lookup x=some c->c≠b)/\∀p∈X.pn++pz,p.1≠b) :
  Inv X pz σ H' { s with heap:=h',gens:=g',drawn:=d',toks:=t' }:=by
 obtain ⟨m,⟨o,es,ep,ho,r⟩,_⟩:=id I.loc
 obtain ⟨sl,hL⟩:=u.any ho I.free fun z=>(hch _ z).2.1 rfl
 exact I.step (ch:=ch) hch (fun b o hL hb hc e n=>u.keep b o e n (fun z=>(List.mem_cons.mp (I.stkSub b z)).elim hL hb) hc) (fun b o _ _ hc e n=>u.any e n hc) (fun b o hc e n=>u.free b o e n hc) (fun b o hc e=>u.there b o e hc) u.tups u.frzs u.tbls (fun m' hm=>by
  obtain ⟨o',es',ep',ho',r'⟩:=hm
  rw [ho] at ho'; cases ho'
  exact ⟨_,es',ep',hL,r'⟩) hok hg
theorem Inv.turned {t':Nat} {it:Addr} (I:Inv X pz σ H s) (k:∀b o,b≠it->s.heap.get? b=some o->h'.get? b=some o) (hn:H it=none) (hL:it≠X.env.locals)
  (h1:it∈X.ex\/X.s₀.heap.objs.size<=it) (h2:∀x c,X.env.cells.lookup x=some c->c≠it) (h3:∀p∈X.pn++pz,p.1≠it):Inv X pz σ H { s with heap:=h',toks:=t' }:=by
 have nit:∀b u,H b=some u->b≠it:=fun b u e z=>by rw [z,hn] at e; cases e
 refine I.step (g':=s.gens) (d':=s.drawn) (ch:=[it]) (fun b hb=>?_) (fun b o _ _ hc e _=>k b o (fun z=>hc (by simp [z])) e) (fun b o _ _ hc e _=>⟨o.slots,k b o (fun z=>hc (by simp [z])) e⟩) (fun _ _ _ _ n=>n)
  (fun b o hc e=>⟨o,k b o (fun z=>hc (by simp [z])) e⟩) (fun _ _ e=>e) (fun _ _ _ e=>e) (fun b ps e=>⟨#[],by rw [e]; simp⟩) (fun m hm=>?_) (fun b u e=>?_) I.bare
 ·have e:b=it:=by simpa using hb
  subst e
  exact ⟨h1,hL,h2,h3⟩
 ·obtain ⟨o,es,ep,ho,r⟩:=hm
  exact ⟨o,es,ep,k _ o (Ne.symm hL) ho,r⟩
 ·refine (I.hok b u e).stay (fun c v hc q=>k c v ?_ q) (fun _ q=>q) fun _ _ q=>q
  rcases hc with z | z
  ·rw [z]; exact nit b u e
  ·exact nit c _ z
theorem Inv.tok (I:Inv X pz σ H s) (t:Nat):Inv X pz σ H { s with toks:=t }:=I.un (h':=s.heap) (t':=t) Un.refl I.hok
theorem Inv.kept {t':Nat} (I:Inv X pz σ H s) (k:∀b u,s.heap.get? b=some u->h'.get? b=some u):Inv X pz σ H { s with heap:=h',toks:=t' }:=I.un (Un.kept k) (I.hok.kept k)
theorem Inv.laid {a:Addr} {o:HO} {t':Nat} (I:Inv X pz σ H s) (k:∀b u,s.heap.get? b=some u->h'.get? b=some u) (hp:s.heap.objs.size<=a) (new:cm X.prog X.w (upd H a o) h' a o) :
  Inv X pz σ (upd H a o) { s with heap:=h',toks:=t' }:=I.un (Un.laid k hp (I.hok.fresh hp)) (I.hok.laid k hp new)
theorem Inv.write {x e:Addr} {o:HO} {t':Nat} (I:Inv X pz σ H s) (mu:pB (H x)) (he:e=x\/H e=some (.own x)) (k:∀b u,b≠e->s.heap.get? b=some u->h'.get? b=some u) (heo:∃u,h'.get? e=some u)
  (new:cm X.prog X.w (upd H x o) h' x o):Inv X pz σ (upd H x o) { s with heap:=h',toks:=t' }:=I.un (Un.write mu he k heo) (I.hok.write mu he k heo new)
theorem Inv.pins_of {pins':List (Addr × Obj)} (I:Inv X pz σ H s) (h:∀p∈pins',s.heap.get? p.1=some p.2/\H p.1=none/\p.1≠X.env.locals/\p.1∉X.fs/\∀v,p.2.data≠.cell v):Inv X pins' σ H s:=
 ⟨I.ok,I.os,I.bare,I.base,I.loc,I.cell,I.free,I.freeC,fun p hp=>(List.mem_append.mp hp).elim (fun z=>I.pin p (List.mem_append_left _ z)) (h p),I.hok,I.len⟩
theorem BB {N:List Str} (hN:N.Nodup) {i j:Nat} {x:Str} (a:N[i]? = some x) (b:N[j]? = some x):i=j:=by
 obtain ⟨h1,e1⟩:=List.getElem?_eq_some_iff.mp a
 obtain ⟨h2,e2⟩:=List.getElem?_eq_some_iff.mp b
 exact (List.getElem_inj hN).mp (e1.trans e2.symm)
theorem vB {M:Model} {A:Around} {E:Value->Shared->Prop} {i:Nat} {x:Str} {v:V} {u:Value} {Q:Unit->Shared->Prop} (I:Inv X pz σ H s) (hN:X.N.Nodup) (hi:X.N[i]? = some x) (hx:iP X.env.scope x) (r:aw v u)
  (h:∀s',Inv X pz (σ.set i (some v)) H s'->(∃a,Heap.SameBut a s.heap s'.heap/\(a=X.env.locals\/X.env.cells.lookup x=some a))->Q () s') (hf:X.fn x=true\/X.env.scope.names.lookup x=some .local:=by first | exact .inl rfl | exact .inr rfl | assumption):wpAny M A (storeName X.env x u) Q E s:=by
 obtain ⟨m,hn,hl⟩:=id I.loc
 have hcls:(X.env.scope.kind == .class || (X.env.scope.kind == .module && X.env.locals != X.env.globals))=false:=by rw [I.ok.kind]; rfl
 have hiσ:i < σ.length:=by rw [I.len]; exact (List.getElem?_eq_some_iff.mp hi).1
 have cne:=I.cne
 have tracked:∀{a:Addr} {h':Heap},(∃o,s.heap.get? a=some o/\H a=none)->Heap.SameBut a s.heap h'->cG X.prog X.w H h':=fun {a h'} ha hs b ob e=>by
  obtain ⟨_,_,hfree⟩:=ha
  refine (I.hok b ob e).stay (fun c w' hc q=>(hs.2 c ?_).trans q) (fun _ q=>q) fun _ _ q=>q
  rintro rfl
  rcases hc with rfl | hc
  ·rw [hfree] at e; cases e
  ·rw [hfree] at hc; cases hc
 rcases hx with hk | hk
 ·refine wpAny_storeName_local hk hn (fun h' hn' hs=>?_) hcls
  obtain ⟨oL,_,_,hoL,_⟩:=id hn
  refine h _ ⟨I.ok,I.os,I.bare,⟨fun b o e n hb hx=>?_,fun b o e n hb hx=>?_,I.base.free,fun b o e hx=>?_,I.base.tups,I.base.frzs,I.base.tbls⟩,⟨_,hn',fun j y v' e1 e2 e3=>?_⟩,fun y c e=>?_,I.free,I.freeC,fun p hp=>?_,tracked ⟨oL,hoL,I.free⟩ hs,by simpa using I.len⟩ ⟨_,hs,.inl rfl⟩
  ·exact (hs.2 b (Nat.ne_of_lt (Nat.lt_of_lt_of_le (Heap.lt_size e) I.ok.above))).trans (I.base.keep b o e n hb hx)
  ·obtain ⟨sl,e1⟩:=I.base.slot b o e n hb hx
   exact ⟨sl,(hs.2 b (Nat.ne_of_lt (Nat.lt_of_lt_of_le (Heap.lt_size e) I.ok.above))).trans e1⟩
  ·obtain ⟨o',e1⟩:=I.base.there b o e hx
   exact ⟨o',(hs.2 b (Nat.ne_of_lt (Nat.lt_of_lt_of_le (Heap.lt_size e) I.ok.above))).trans e1⟩
  ·by_cases hj:j=i
   ·subst hj
    rw [hi] at e1; cases e1
    rw [List.getElem?_set_self hiσ] at e2
    cases e2
    exact ⟨u,r,.inl ⟨hk,by simp⟩⟩
   ·rw [List.getElem?_set_ne (Ne.symm hj)] at e2
    obtain ⟨u',r',q⟩:=hl j y v' e1 e2 e3
    refine ⟨u',r',?_⟩
    rcases q with ⟨k,e⟩ | ⟨k,c,e,z⟩
    ·refine .inl ⟨k,?_⟩
     have:y≠x:=fun e=>hj (BB hN e1 (e ▸ hi))
     simp [this,e]
    ·exact .inr ⟨k,c,e,z.sameBut hs (cne y c e)⟩
  ·obtain ⟨w',z⟩:=I.cell y c e
   exact ⟨w',z.sameBut hs (cne y c e)⟩
  ·obtain ⟨e,n,ne,nf,d⟩:=I.pin p hp
   exact ⟨(hs.2 p.1 ne).trans e,n,ne,nf,d⟩
 ·have hfn:X.fn x=true:=by
   rcases hf with z | z
   ·exact z
   ·rw [z] at hk; cases hk
  obtain ⟨c,hc⟩:=I.ok.has x (.inl hk)
  obtain ⟨w',z⟩:=I.cell x c hc
  refine wpAny_storeName_cell I.ok.kind hk hc z (fun h' hc' hs=>?_)
  obtain ⟨oc,hoc,hocd⟩:=id z
  refine h { s with heap:=h' } ⟨I.ok,I.os,I.bare,⟨fun b o e n hb hx=>?_,fun b o e n hb hx=>?_,I.base.free,fun b o e hx=>?_,I.base.tups,I.base.frzs,I.base.tbls⟩,⟨m,hn.sameBut hs (Ne.symm (cne x c hc)),fun j y v' e1 e2 e3=>?_⟩,fun y c' e=>?_,I.free,I.freeC,fun p hp=>?_,tracked ⟨oc,hoc,I.freeC x c hc⟩ hs,by simpa using I.len⟩ ⟨c,hs,.inr hc⟩
  ·exact (hs.2 b (Nat.ne_of_lt (Nat.lt_of_lt_of_le (Heap.lt_size e) (I.ok.cab x c hfn hc)))).trans (I.base.keep b o e n hb hx)
  ·obtain ⟨sl,e1⟩:=I.base.slot b o e n hb hx
   exact ⟨sl,(hs.2 b (Nat.ne_of_lt (Nat.lt_of_lt_of_le (Heap.lt_size e) (I.ok.cab x c hfn hc)))).trans e1⟩
  ·obtain ⟨o',e1⟩:=I.base.there b o e hx
   exact ⟨o',(hs.2 b (Nat.ne_of_lt (Nat.lt_of_lt_of_le (Heap.lt_size e) (I.ok.cab x c hfn hc)))).trans e1⟩
  ·by_cases hj:j=i
   ·subst hj
    rw [hi] at e1; cases e1
    rw [List.getElem?_set_self hiσ] at e2
    cases e2
    exact ⟨u,r,.inr ⟨.inl hk,c,hc,hc'⟩⟩
   ·rw [List.getElem?_set_ne (Ne.symm hj)] at e2
    obtain ⟨u',r',q⟩:=hl j y v' e1 e2 e3
    refine ⟨u',r',?_⟩
    rcases q with q | ⟨k,c',e,z'⟩
    ·exact .inl q
    ·refine .inr ⟨k,c',e,z'.sameBut hs ?_⟩
     rintro rfl
     exact hj (BB hN e1 (I.ok.inj _ _ _ e hc ▸ hi))
  ·by_cases hcc:c'=c
   ·subst hcc; exact ⟨_,hc'⟩
   ·obtain ⟨w2,z2⟩:=I.cell y c' e
    exact ⟨w2,z2.sameBut hs hcc⟩
  ·obtain ⟨e,n,ne,nf,d⟩:=I.pin p hp
   refine ⟨(hs.2 p.1 ?_).trans e,n,ne,nf,d⟩
   intro q
   rw [q,hoc] at e
   have q':oc=p.2:=Option.some.inj e
   exact d w' (by rw [<-q']; exact hocd)
theorem Bb {M:Model} {A:Around} {E:Value->Shared->Prop} {i:Nat} {x:Str} {v:V} {u:Value} {Q:Unit->Shared->Prop} (I:Inv X pz σ H s) (hN:X.N.Nodup) (hi:X.N[i]? = some x) (hx:iP X.env.scope x) (r:aw v u)
  (h:∀s',Inv X pz (σ.set i (some v)) H s'->Q () s') (hf:X.fn x=true\/X.env.scope.names.lookup x=some .local:=by first | exact .inl rfl | exact .inr rfl | assumption):wpAny M A (storeName X.env x u) Q E s:=
 vB I hN hi hx r (fun s' I' _=>h s' I') hf
theorem Inv.call' {s':Shared} {ch:List Addr} (I:Inv X pz σ H s) (ho:s'.os=s.os) (u:Un (gU X.stack) ch H H' s.heap s'.heap) (hok:cG X.prog X.w H' s'.heap) (hg:AllBare s'.gens)
  (hch:∀b∈ch,(b∈X.ex\/X.s₀.heap.objs.size<=b)/\b≠X.env.locals/\(∀x c,X.env.cells.lookup x=some c->c≠b)/\∀p∈X.pn++pz,p.1≠b):Inv X pz σ H' s':=by
 obtain ⟨h',g',d',t',o'⟩:=s'
 have e:o'=s.os:=ho
 subst e
 exact I.call (g':=g') (t':=t') (d':=d') u hok hg hch
end
abbrev XK:=Value->Option Addr->Hp->Prop
abbrev Ml:=List (Option V)
abbrev VK:=V->Hp->Prop
abbrev TE:=Ml->Hp->VK->Prop
abbrev TT:=Ml->Hp->(Bool->Hp->Prop)->Prop
abbrev TA:=Ml->Hp->(List V->Hp->Prop)->Prop
structure Ends where
 nx:Ml->Hp->Prop
 rt:VK
 bk:Ml->Hp->Prop:=fun _ _=>False
 ct:Ml->Hp->Prop:=fun _ _=>False
abbrev TS:=Ends->Ml->Hp->Prop
def EP (X:Cx) (pz:List (Addr × Obj)) (σ:Ml) (Q:VK) (u:Value) (s':Shared):Prop:=∃v H',Inv X pz σ H' s'/\aw v u/\Q v H'
def TP (X:Cx) (pz:List (Addr × Obj)) (σ:Ml) (Q:Bool->Hp->Prop) (b:Bool) (s':Shared):Prop:=∃H',Inv X pz σ H' s'/\Q b H'
def AP (X:Cx) (pz:List (Addr × Obj)) (σ:Ml) (Q:List V->Hp->Prop) (us:List Value) (s':Shared):Prop:=∃vs H',Inv X pz σ H' s'/\ap vs us/\Q vs H'
def SP (X:Cx) (pz:List (Addr × Obj)) (D:Ends) (f:Flow) (s':Shared):Prop:=
 match f with
 | .next=>∃σ' H',Inv X pz σ' H' s'/\D.nx σ' H'
 | .brk=>∃σ' H',Inv X pz σ' H' s'/\D.bk σ' H'
 | .cont=>∃σ' H',Inv X pz σ' H' s'/\D.ct σ' H'
 | .ret u=>∃v σ' H',Inv X pz σ' H' s'/\aw v u/\D.rt v H'
def PE (X:Cx) (e:Expr) (t:TE):Prop:=
 ∀(pz:List (Addr × Obj)) (s:Shared) (σ:Ml) (H:Hp) (Q:VK),Inv X pz σ H s->t σ H Q->wpAny (model X.prog X.w) X.A (eval e X.env) (EP X pz σ Q) X.xe s
def PT (X:Cx) (e:Expr) (t:TT):Prop:=
 ∀(pz:List (Addr × Obj)) (s:Shared) (σ:Ml) (H:Hp) (Q:Bool->Hp->Prop),Inv X pz σ H s->t σ H Q->wpAny (model X.prog X.w) X.A (isTrue e X.env (eval e X.env)) (TP X pz σ Q) X.xe s
def PW (X:Cx) (e:Expr) (t:TT):Prop:=
 ∀(whole:Sem Value) (pz:List (Addr × Obj)) (s:Shared) (σ:Ml) (H:Hp) (Q:Bool->Hp->Prop),Inv X pz σ H s->t σ H Q->wpAny (model X.prog X.w) X.A (isTrue e X.env whole) (TP X pz σ Q) X.xe s
theorem PW.pt {X:Cx} {e:Expr} {t:TT} (h:PW X e t):PT X e t:=h _
def PA (X:Cx) (es:List Expr) (t:TA):Prop:=
 ∀(pos:Pos) (pz:List (Addr × Obj)) (s:Shared) (σ:Ml) (H:Hp) (Q:List V->Hp->Prop),Inv X pz σ H s->t σ H Q->wpAny (model X.prog X.w) X.A (spliced (backTo pos (starEach es X.env))) (AP X pz σ Q) X.xe s
def PS (X:Cx) (st:Stmt) (t:TS):Prop:=
 ∀(pz:List (Addr × Obj)) (s:Shared) (σ:Ml) (H:Hp) (D:Ends),Inv X pz σ H s->t D σ H->wpAny (model X.prog X.w) X.A (exec st X.env) (SP X pz D) X.xe s
def cQ (X:Cx) (st:List Stmt) (t:TS):Prop:=
 ∀(pz:List (Addr × Obj)) (s:Shared) (σ:Ml) (H:Hp) (D:Ends),Inv X pz σ H s->t D σ H->wpAny (model X.prog X.w) X.A (execs st X.env) (SP X pz D) X.xe s
theorem aY {α:Type} {t:Sem α} {Q Q':α->Shared->Prop} {M:Model} {A:Around} {E:Value->Shared->Prop} {s:Shared} (h:wpAny M A t Q E s) (hQ:∀a s,Q a s->Q' a s):wpAny M A t Q' E s:=wpAny_mono h hQ fun _ _ x=>x
section
variable {X:Cx}
def xE (i:Nat):TE:=fun σ H Q=>∃v,σ[i]? = some (some v)/\Q v H
def tC (v:V):TE:=fun _ H Q=>Q v H
theorem jE {i:Nat} {x:Str} {pos:Pos} (hN:X.N[i]? = some x) (hv:f8 X.env.scope x) (hd:(x == ("__debug__" : Str))=false:=by decide) (hcd:(x == ("__classdict__" : Str))=false:=by decide):PE X (.Name x pos) (xE i):=by
 intro pz s σ H Q I h
 obtain ⟨v,e,h⟩:=h
 obtain ⟨m,hn,hl⟩:=I.loc
 obtain ⟨u,r,l⟩:=hl i x v hN e hv
 have fin:EP X pz σ Q u s:=⟨v,H,I,r,h⟩
 rcases l with ⟨hk,hm⟩ | ⟨hk,c,hc,hcell⟩
 ·exact wpAny_Name (wpAny_loadName_local I.ok.kind hk hn hm fin) hd
 ·rcases hk with hk | hk
  ·exact wpAny_Name (wpAny_loadName_cell I.ok.kind hk hc hcell fin) hd
  ·exact wpAny_Name (wpAny_loadName_free I.ok.kind hk hc hcell fin hcd) hd
theorem E3 {i j pos}:PE X (.Constant (.int i) j pos) (tC (.int i)):=fun _ _ _ H _ I h=>wpAny_Constant_int ⟨.int i,H,I.tok _,⟨_,rfl⟩,h⟩
theorem EI {b j pos}:PE X (.Constant (.bool b) j pos) (tC (.bl b)):=fun _ _ _ H _ I h=>Constant_bool ⟨.bl b,H,I,rfl,h⟩
theorem E5 {j pos}:PE X (.Constant .none j pos) (tC .non):=fun _ _ _ H _ I h=>Constant_none ⟨.non,H,I,rfl,h⟩
def Gl (X:Cx) (x:Str):Prop:=X.env.kindOf x=some .globalImplicit
theorem Az {E:Value->Shared->Prop} {pz:List (Addr × Obj)} {s:Shared} {σ:Ml} {H:Hp} {x:Str} {u:Value} {pos:Pos} {Q:Value->Shared->Prop} (I:Inv X pz σ H s) (hg:Gl X x) (hm:X.mg x=some u) (h:Q u s)
  (hd:(x == ("__debug__" : Str))=false:=by decide):wpAny (model X.prog X.w) X.A (eval (.Name x pos) X.env) Q E s:=
 Calls.Name_function_global I.ok.kind hg (Calls.loadGlobal_global (by rw [I.ok.glob]; exact I.mod.glob.keeps I.bk) hm h) hd
theorem mE {E:Value->Shared->Prop} {pz:List (Addr × Obj)} {s:Shared} {σ:Ml} {H:Hp} {x:Str} {u:Value} {pos:Pos} {Q:Value->Shared->Prop} (I:Inv X pz σ H s) (hg:Gl X x) (hm:X.mg x=none) (hv:bootBuiltins x=some u) (h:Q u s)
  (hn:x≠"__name__" := by decide) (hd:(x == ("__debug__" : Str))=false:=by decide):wpAny (model X.prog X.w) X.A (eval (.Name x pos) X.env) Q E s:=by
 obtain ⟨mb,h1,h2⟩:=I.mod.blt
 exact Calls.Name_function_global I.ok.kind hg (Calls.loadGlobal_builtin (by rw [I.ok.glob]; exact I.mod.glob.keeps I.bk) hm (by rw [I.ok.blt]; exact h1.keeps I.bk) ((h2 x hn).trans hv) h) hd
theorem GM {x:Str} {v:V} {u:Value} {pos:Pos} (hg:Gl X x) (hm:X.mg x=some u) (r:aw v u) (hd:(x == ("__debug__" : Str))=false:=by decide):PE X (.Name x pos) (tC v):=
 fun _ _ _ H _ I h=>Az I hg hm ⟨v,H,I,r,h⟩ hd
theorem Hz {x:Str} {v:V} {u:Value} {pos:Pos} (hg:Gl X x) (hm:X.mg x=none) (hv:bootBuiltins x=some u) (r:aw v u) (hn:x≠"__name__" := by decide) (hd:(x == ("__debug__" : Str))=false:=by decide):PE X (.Name x pos) (tC v):=
 fun _ _ _ H _ I h=>mE I hg hm hv ⟨v,H,I,r,h⟩ hn hd
variable {a b:Expr} {ta tb:TE} {pos:Pos}
variable {tA tB':TT} {rest:List Expr}
def xQ (t u:TT):TT:=fun σ H Q=>t σ H fun c H1=>if c=true then u σ H1 Q else Q false H1
def LS (t u:TT):TT:=fun σ H Q=>t σ H fun c H1=>if c=true then Q true H1 else u σ H1 Q
def xJ (t:TT):TT:=fun σ H Q=>t σ H fun c H1=>Q (! c) H1
theorem GV (ha:PT X a tA):PW X (.BoolOp .And [a] pos) tA:=by
 intro wh pz s σ H Q I h
 refine isTrue_and (aY (ha pz s σ H Q I h) fun c s1 e=>?_)
 cases c with
 | true=>exact isTrue_and_nil e
 | false=>exact e
theorem GC (ha:PT X a tA):PW X (.BoolOp .Or [a] pos) tA:=by
 intro wh pz s σ H Q I h
 refine isTrue_or (aY (ha pz s σ H Q I h) fun c s1 e=>?_)
 cases c with
 | false=>exact isTrue_or_nil e
 | true=>exact e
theorem Fe (ha:PT X a tA) (hb:PW X (.BoolOp .And (b::rest) pos) tB'):PW X (.BoolOp .And (a::b::rest) pos) (xQ tA tB'):=by
 intro wh pz s σ H Q I h
 refine isTrue_and (aY (ha pz s σ H _ I h) fun c s1 ⟨H1,I1,q1⟩=>?_)
 cases c with
 | true=>exact hb wh pz s1 σ H1 Q I1 q1
 | false=>exact ⟨H1,I1,q1⟩
theorem EN (ha:PT X a tA) (hb:PW X (.BoolOp .Or (b::rest) pos) tB'):PW X (.BoolOp .Or (a::b::rest) pos) (LS tA tB'):=by
 intro wh pz s σ H Q I h
 refine isTrue_or (aY (ha pz s σ H _ I h) fun c s1 ⟨H1,I1,q1⟩=>?_)
 cases c with
 | true=>exact ⟨H1,I1,q1⟩
 | false=>exact hb wh pz s1 σ H1 Q I1 q1
theorem Fd (ha:PT X a tA):PT X (.UnaryOp .Not a pos) (xJ tA):=by
 intro pz s σ H Q I h
 exact isTrue_not (ha pz s σ H (fun c H1=>Q (! c) H1) I h)
def Eu (ta tb:TE):TE:=fun σ H Q=>ta σ H fun x H1=>∃c,x=.bl c/\if c=true then tb σ H1 Q else Q (.bl false) H1
def Ez (ta:TE):TE:=fun σ H Q=>ta σ H fun x H1=>∃c,x=.bl c/\Q (.bl (! c)) H1
theorem E7 {op} {t:TE} (h:PE X a t):PE X (.BoolOp op [a] pos) t:=fun pz s σ H Q I hw=>BoolOp_one (h pz s σ H Q I hw)
theorem E2 (ha:PE X a ta) (hb:PE X (.BoolOp .And (b::rest) pos) tb):PE X (.BoolOp .And (a::b::rest) pos) (Eu ta tb):=by
 intro pz s σ H Q I h
 refine BoolOp_and (aY (ha pz s σ H _ I h) fun v s1 ⟨x,H1,I1,r1,q1⟩=>?_)
 obtain ⟨c,rfl,q1⟩:=q1
 cases r1
 refine wpAny_truthy_bool ?_
 cases c with
 | true=>exact hb pz s1 σ H1 Q I1 q1
 | false=>exact ⟨.bl false,H1,I1,rfl,q1⟩
theorem E6 (ha:PE X a ta):PE X (.UnaryOp .Not a pos) (Ez ta):=by
 intro pz s σ H Q I h
 refine UnaryOp_ (aY (ha pz s σ H _ I h) fun v s1 ⟨x,H1,I1,r1,q1⟩=>?_)
 obtain ⟨c,rfl,q1⟩:=q1
 cases r1
 exact not_of (wpAny_truthy_bool ⟨.bl (! c),H1,I1,rfl,q1⟩)
end
def aZ (K:W.Frag) (H:Hp) (a:Addr) (xs:List V):Prop:=
 Rd H a (.lst xs) \/
  ∃(o:Obj) (its:Array Value) (n:Nat),K.lookup a=some o/\o.cls=.type "list"/\o.dict=none/\o.data=.seq its n/\its.size<=sizeLine/\ap xs its.toList
def ck (K:W.Frag) (H:Hp) (a:Addr) (xs:List V):Prop:=
 Rd H a (.tup xs) \/
  ∃(o:Obj) (its:Array Value) (n:Nat),K.lookup a=some o/\o.cls=.type "tuple"/\o.data=.seq its n/\its.size<=sizeLine/\ap xs its.toList
def yn:Value->Option V
 | .none=>some .non
 | .bool b=>some (.bl b)
 | .int i _=>some (.int i)
 | .str x _=>some (.str x)
 | .bytes b _=>some (.byt b)
 | .float b _=>some (.flt b)
 | .ref a=>some (.ref a)
 | .type n=>some (.ty n)
 | _=>none
theorem aw.abs {x:V} {u:Value} (r:aw x u):yn u=some x:=by
 cases x with
 | non=>cases r; rfl
 | bl _=>cases r; rfl
 | int _=>obtain ⟨t,rfl⟩:=r; rfl
 | str _=>obtain ⟨t,rfl⟩:=r; rfl
 | byt _=>obtain ⟨t,rfl⟩:=r; rfl
 | flt _=>obtain ⟨t,rfl⟩:=r; rfl
 | ref _=>cases r; rfl
 | ty _=>cases r; rfl
theorem aw.inj {x y:V} {u:Value} (r:aw x u) (q:aw y u):x=y:=Option.some.inj (r.abs.symm.trans q.abs)
theorem ap.inj {xs ys:List V} {us:List Value} (h:ap xs us) (h':ap ys us):xs=ys:=by
 induction h generalizing ys with
 | nil=>cases h'; rfl
 | cons r t ih=>
  cases h' with
  | cons r' t'=>rw [r.inj r',ih t']
section
variable {X:Cx} {pz:List (Addr × Obj)} {σ:Ml} {H:Hp} {s:Shared} {a:Addr} {xs ys:List V}
theorem aZ.of {K:W.Frag} (h:H a=some (.lst xs)):aZ K H a xs:=.inl (.inl h)
theorem Inv.list (I:Inv X pz σ H s) (h:aZ X.K H a xs):∃its:List Value,ap xs its/\PlainL s.heap a its.toArray/\xs.length<=sizeLine:=by
 rcases h with h | ⟨o,its,n,hk,hc,hd,hs,hz,r⟩
 ·obtain ⟨z,its,n,r,e⟩:=h.ok I.hok
  exact ⟨its,r,⟨_,n,e,rfl,rfl,rfl⟩,z⟩
 ·refine ⟨its.toList,r,⟨o,n,I.kIn a o hk,hc,hd,by simpa using hs⟩,?_⟩
  have e:=r.length
  simp only [Array.length_toList] at e
  omega
theorem Inv.tuple (I:Inv X pz σ H s) (h:ck X.K H a xs):∃its:List Value,ap xs its/\IsTup s.heap a its.toArray/\xs.length<=sizeLine:=by
 rcases h with h | ⟨o,its,n,hk,hc,hs,hz,r⟩
 ·obtain ⟨z,its,r,p,_⟩:=h.ok I.hok
  exact ⟨its,r,p,z⟩
 ·refine ⟨its.toList,r,⟨o,I.kIn a o hk,hc,n,by simpa using hs⟩,?_⟩
  have e:=r.length
  simp only [Array.length_toList] at e
  omega
theorem Inv.list_inj (I:Inv X pz σ H s) (h:aZ X.K H a xs) (h':aZ X.K H a ys):xs=ys:=by
 obtain ⟨its,r,⟨o,n,e,_,_,d⟩,_⟩:=I.list h
 obtain ⟨its',r',⟨o',n',e',_,_,d'⟩,_⟩:=I.list h'
 rw [e] at e'; cases e'
 rw [d] at d'
 injection d' with d1 _
 have:its=its':=by simpa using congrArg Array.toList d1
 subst this
 exact r.inj r'
theorem Inv.tuple_inj (I:Inv X pz σ H s) (h:ck X.K H a xs) (h':ck X.K H a ys):xs=ys:=by
 obtain ⟨its,r,⟨o,e,_,n,d⟩,_⟩:=I.tuple h
 obtain ⟨its',r',⟨o',e',_,n',d'⟩,_⟩:=I.tuple h'
 rw [e] at e'; cases e'
 rw [d] at d'
 injection d' with d1 _
 have:its=its':=by simpa using congrArg Array.toList d1
 subst this
 exact r.inj r'
end
abbrev Cx.wish (X:Cx) (E:Value->Shared->Prop):Cx:={ X with xe:=E }
abbrev Cx.nox (X:Cx):Cx:=X.wish fun _ _=>False
theorem Cx.Ok.wish {X:Cx} (ok:X.Ok) (E:Value->Shared->Prop):(X.wish E).Ok:=
 ⟨ok.mod,ok.kind,ok.glob,ok.blt,ok.above,ok.inj,ok.has,ok.cab,ok.hd,ok.frames,ok.stk,ok.exf,ok.bs,ok.bsz,ok.noex,ok.exfs,ok.funs,ok.frf⟩
theorem Cx.Ok.unwish {X:Cx} {E:Value->Shared->Prop} (ok:(X.wish E).Ok):X.Ok:=
 ⟨ok.mod,ok.kind,ok.glob,ok.blt,ok.above,ok.inj,ok.has,ok.cab,ok.hd,ok.frames,ok.stk,ok.exf,ok.bs,ok.bsz,ok.noex,ok.exfs,ok.funs,ok.frf⟩
section
variable {X:Cx} {pz:List (Addr × Obj)} {σ:Ml} {H:Hp} {s:Shared} {E:Value->Shared->Prop}
theorem Inv.wish (I:Inv X pz σ H s) (E:Value->Shared->Prop):Inv (X.wish E) pz σ H s:=⟨I.ok.wish E,I.os,I.bare,I.base,I.loc,I.cell,I.free,I.freeC,I.pin,I.hok,I.len⟩
theorem Inv.unwish (I:Inv (X.wish E) pz σ H s):Inv X pz σ H s:=⟨I.ok.unwish,I.os,I.bare,I.base,I.loc,I.cell,I.free,I.freeC,I.pin,I.hok,I.len⟩
theorem SP.unwish {D:Ends} {f:Flow} {s':Shared} (h:SP (X.wish E) pz D f s'):SP X pz D f s':=by
 cases f with
 | next=>obtain ⟨σ',H',I,q⟩:=h; exact ⟨σ',H',I.unwish,q⟩
 | brk=>obtain ⟨σ',H',I,q⟩:=h; exact ⟨σ',H',I.unwish,q⟩
 | cont=>obtain ⟨σ',H',I,q⟩:=h; exact ⟨σ',H',I.unwish,q⟩
 | ret u=>obtain ⟨v,σ',H',I,r,q⟩:=h; exact ⟨v,σ',H',I.unwish,r,q⟩
theorem cQ.nox {st:List Stmt} {t:TS} (h:cQ X.nox st t):cQ X st t:=fun pz s σ H D I hw=>
 wpAny_mono (h pz s σ H D (I.wish _) hw) (fun _ _ q=>q.unwish) fun _ _ z=>False.elim z
end
section
variable {X:Cx} {st:Stmt} {rest:List Stmt} {t u:TS} {e:Expr} {te:TE} {pos:Pos}
def Ey:TS:=fun D σ H=>D.nx σ H
def xG (t u:TS):TS:=fun D σ H=>t { D with nx:=u D } σ H
theorem tX:cQ X [] Ey:=fun _ _ σ H _ I h=>wpAny_execs_nil ⟨σ,H,I,h⟩
theorem mN (h1:PS X st t) (h2:cQ X rest u):cQ X (st::rest) (xG t u):=by
 intro pz s σ H D I h
 refine wpAny_execs_cons (aY (h1 pz s σ H { D with nx:=u D } I h) fun f s1 q=>?_)
 cases f with
 | next=>
  obtain ⟨σ',H',I',q⟩:=q
  exact h2 pz s1 σ' H' D I' q
 | ret v=>exact q
 | brk=>exact q
 | cont=>exact q
theorem Inv.quiet {pz:List (Addr × Obj)} {σ:Ml} {H:Hp} {s:Shared} (I:Inv X pz σ H s):interactive X.env=false:=by simp [interactive,I.ok.kind]
def Ex (te:TE):TS:=fun D σ H=>te σ H fun _ H1=>D.nx σ H1
theorem GS (he:PE X e te) (hs:swapsWith e none pos.line X.env=pure false:=by rfl):PS X (.Expr e pos) (Ex te):=by
 intro pz s σ H D I h
 exact wpAny_Expr_any (aY (he pz s σ H _ I h) fun v s1 ⟨x,H1,I1,r1,q1⟩=>⟨σ,H1,I1,q1⟩) I.quiet hs
def xI (te:TE):TS:=fun D σ H=>te σ H D.rt
theorem Fc (he:PE X e te):PS X (.Return (some e) pos) (xI te):=by
 intro pz s σ H D I h
 exact wpAny_Return_some (aY (he pz s σ H _ I h) fun v s1 ⟨x,H1,I1,r1,q1⟩=>⟨x,σ,H1,I1,r1,q1⟩)
def xN (c:TT) (t u:TS):TS:=fun D σ H=>c σ H fun b H1=>if b=true then t D σ H1 else u D σ H1
theorem EL {c:Expr} {a b:List Stmt} {tc:TT} (hc:PT X c tc) (ha:cQ X a t) (hb:cQ X b u):PS X (.If c a b pos) (xN tc t u):=by
 intro pz s σ H D I h
 refine wpAny_If (aY (hc pz s σ H _ I h) fun d s1 ⟨H1,I1,q1⟩=>?_)
 cases d with
 | true=>exact ha pz s1 σ H1 D I1 q1
 | false=>exact hb pz s1 σ H1 D I1 q1
def FU:TS:=fun _ _ _=>False
theorem Im:PS X st FU:=fun _ _ _ _ _ _ h=>h.elim
end
abbrev TG:=V->Ml->Hp->(Ml->Hp->Prop)->Prop
abbrev jM:=List V->Ml->Hp->(Ml->Hp->Prop)->Prop
def PG (X:Cx) (target:Expr) (t:TG):Prop:=
 ∀(pz:List (Addr × Obj)) (s:Shared) (σ:Ml) (H:Hp) (v:V) (u:Value) (Q:Ml->Hp->Prop),Inv X pz σ H s->aw v u->t v σ H Q ->
  wpAny (model X.prog X.w) X.A (assign target X.env u) (fun _ s'=>∃σ' H',Inv X pz σ' H' s'/\Q σ' H') X.xe s
def jp (X:Cx) (ts:List Expr) (t:jM):Prop:=
 ∀(pz:List (Addr × Obj)) (s:Shared) (σ:Ml) (H:Hp) (vs:List V) (us:List Value) (Q:Ml->Hp->Prop),Inv X pz σ H s->ap vs us->t vs σ H Q ->
  wpAny (model X.prog X.w) X.A (assignInOrder ((assignEach ts X.env).map (·.2)) us) (fun _ s'=>∃σ' H',Inv X pz σ' H' s'/\Q σ' H') X.xe s
abbrev ku:=V->V->V->Hp->(Hp->Prop)->Prop
def fU (X:Cx) (t:ku):Prop:=
 ∀(pz:List (Addr × Obj)) (s:Shared) (σ:Ml) (H:Hp) (o i v:V) (ov iv u:Value) (Q:Hp->Prop),Inv X pz σ H s->aw o ov->aw i iv->aw v u->t o i v H Q ->
  wpAny (model X.prog X.w) X.A (setItem ov iv u) (fun _ s'=>∃H',Inv X pz σ H' s'/\Q H') X.xe s
section
variable {X:Cx} {pos:Pos}
def yL (i:Nat):TG:=fun v σ H Q=>Q (σ.set i (some v)) H
theorem GO {i:Nat} {x:Str} (hN:X.N.Nodup) (hi:X.N[i]? = some x) (hx:iP X.env.scope x) (hf:X.fn x=true\/X.env.scope.names.lookup x=some .local:=by first | exact .inl rfl | exact .inr rfl | assumption):PG X (.Name x pos) (yL i):=by
 intro pz s σ H v u Q I r h
 exact wpAny_assign_Name (Bb I hN hi hx r (fun s' I'=>⟨_,H,I',h⟩) hf)
def yj:jM:=fun vs σ H Q=>vs=[]/\Q σ H
def Dw (t:TG) (u:jM):jM:=fun vs σ H Q=>∃v r,vs=v::r/\t v σ H fun σ' H'=>u r σ' H' Q
theorem GP:jp X [] yj:=by
 intro pz s σ H vs us Q I r h
 obtain ⟨e,h⟩:=h
 subst e
 cases r
 exact assignInOrder_nil ⟨σ,H,I,h⟩
theorem Ij {e:Expr} {es:List Expr} {t:TG} {u:jM} (h1:PG X e t) (h2:jp X es u)
  (hs:(assignEach (e::es) X.env).map (·.2)=assign e X.env::(assignEach es X.env).map (·.2):=by rfl):jp X (e::es) (Dw t u):=by
 intro pz s σ H vs us Q I r h
 obtain ⟨v,vr,e1,h⟩:=h
 subst e1
 cases r with
 | cons r rr=>
  rw [hs]
  refine assignInOrder_cons (aY (h1 pz s σ H _ _ _ I r h) fun _ s1 ⟨σ1,H1,I1,q1⟩=>?_)
  exact h2 pz s1 σ1 H1 _ _ Q I1 rr q1
def yh (K:W.Frag) (n:Nat) (t:jM):TG:=fun v σ H Q=>∃a xs,v=.ref a/\ck K H a xs/\xs.length=n/\t xs σ H Q
theorem E9 {es:List Expr} {k:Nat} {t:jM} {n:Nat} (hc:X.calm=true) (h:jp X es t)
  (hn:(assignEach es X.env).length=n:=by rfl) (hst:(assignEach es X.env).findIdx? (·.1)=none:=by rfl):PG X (.Tuple es k pos) (yh X.K n t):=by
 intro pz s σ H v u Q I r hw
 obtain ⟨a,xs,e1,hq,hl,hw⟩:=hw
 subst e1
 cases r
 obtain ⟨its,rv,ht,hz⟩:=I.tuple hq
 refine assign_Tuple_tuple (I.ok.hd hc) ht (by simp [hn,<-hl,rv.length]) hst fun h' hx=>?_
 have I1:Inv X pz σ H { s with heap:=h' }:=I.kept (t':=s.toks) fun b o e=>hx b o (Nat.ne_of_lt (Heap.lt_size e)) e
 exact h pz _ σ H xs _ Q I1 (by simpa using rv) hw
def yi (to ti:TE) (t:ku):TG:=fun v σ H Q=>to σ H fun o H1=>ti σ H1 fun i H2=>t o i v H2 fun H3=>Q σ H3
theorem sM {o i:Expr} {to ti:TE} {t:ku} (ho:PE X o to) (hi:PE X i ti) (hs:fU X t)
  (ha:∀v,assign (.Subscript o i pos) X.env v=(do
   let ov <-holding [v] (eval o X.env)
   let iv <-holding [v,ov] (eval i X.env)
   standAt pos
   holding [v,ov,iv] (setItem ov iv v)
   release [v,ov,iv] []):=by intro _; rfl):PG X (.Subscript o i pos) (yi to ti t):=by
 intro pz s σ H v u Q I r h
 rw [ha]
 refine wpAny_bind (wpAny_holding (aY (ho pz s σ H _ I h) fun ov s1 ⟨x,H1,I1,r1,q1⟩=>?_))
 refine wpAny_bind (wpAny_holding (aY (hi pz s1 σ H1 _ I1 q1) fun iv s2 ⟨y,H2,I2,r2,q2⟩=>?_))
 refine wpAny_bind (wpAny_standAt (wpAny_bind (wpAny_holding (aY (hs pz s2 σ H2 x y v ov iv u _ I2 r1 r2 r q2) fun _ s3 ⟨H3,I3,q3⟩=>?_))))
 exact wpAny_release ⟨σ,H3,I3,q3⟩
def oR (te:TE) (g:TG):TS:=fun D σ H=>te σ H fun x H1=>g x σ H1 D.nx
theorem pS {tg e:Expr} {te:TE} {g:TG} (he:PE X e te) (hg:PG X tg g) (hs:swapsWithSole [tg] e pos.line X.env=pure false:=by rfl) (hw:swappedStores [tg] e X.env=pure none:=by rfl)
  (h1:(assignEach [tg] X.env).map (·.2)=[assign tg X.env]:=by rfl):PS X (.Assign [tg] e pos) (oR te g):=by
 intro pz s σ H D I h
 refine wpAny_Assign_stores (aY (he pz s σ H _ I h) fun v s1 ⟨x,H1,I1,r1,q1⟩=>?_) hs hw
 rw [h1]
 exact aY (hg pz s1 σ H1 x v _ I1 r1 q1) fun _ s2 q=>q
theorem sO {i:Nat} {x:Str} {e:Expr} {te:TE} {pos':Pos} (hN:X.N.Nodup) (hi:X.N[i]? = some x) (hx:iP X.env.scope x) (he:PE X e te) (hs:swapsWith e (some (.Name x pos')) pos.line X.env=pure false:=by rfl) (hf:X.fn x=true\/X.env.scope.names.lookup x=some .local:=by first | exact .inl rfl | exact .inr rfl | assumption) :
  PS X (.Assign [.Name x pos'] e pos) (oR te (yL i)):=by
 intro pz s σ H D I h
 refine wpAny_Assign_Name (aY (he pz s σ H _ I h) fun v s1 ⟨y,H1,I1,r1,q1⟩=>?_) hs
 exact Bb I1 hN hi hx r1 (fun s2 I2=>⟨_,H1,I2,q1⟩) hf
end
section
variable {X:Cx} {pos:Pos}
def FV (c:TT) (tb:TS):TS:=fun D σ H=>∃W:Nat->Ml->Hp->Prop,(∃m,W m σ H)/\∀m σ H,W m σ H ->
 c σ H fun b H1=>if b=true then ∃N:Ml->Hp->Prop,(∀σ' H',N σ' H'->∃m',m' < m/\W m' σ' H')/\tb { D with nx:=N,ct:=N,bk:=D.nx } σ H1 else D.nx σ H1
theorem Io {c:Expr} {body:List Stmt} {tc:TT} {tb:TS} (hp:PassesOwn (model X.prog X.w) X.A X.env X.xe) (hc:PT X c tc) (hb:cQ X body tb):PS X (.While c body [] pos) (FV tc tb):=by
 intro pz s σ H D I h
 obtain ⟨W,⟨m0,w0⟩,turn⟩:=h
 refine wpAny_While (codeAny_whileLoop (fun n s'=>∃σ' H',Inv X pz σ' H' s'/\W n σ' H') ?_ m0 ⟨σ,H,I,w0⟩)
 rintro n s1 ⟨σ1,H1,I1,w1⟩
 refine wpAny_passesOwn hp (aY (hc pz s1 σ1 H1 _ I1 (turn n σ1 H1 w1)) fun b s2 ⟨H2,I2,q2⟩=>?_)
 cases b with
 | true=>
  obtain ⟨N,hN,q2⟩:=q2
  rw [if_pos rfl]
  refine wpAny_passesOwn hp (aY (hb pz s2 σ1 H2 _ I2 q2) fun f s3 q3=>?_)
  cases f with
  | next=>
   obtain ⟨σ3,H3,I3,n3⟩:=q3
   obtain ⟨m',hm,w3⟩:=hN σ3 H3 n3
   exact ⟨m',hm,σ3,H3,I3,w3⟩
  | cont=>
   obtain ⟨σ3,H3,I3,n3⟩:=q3
   obtain ⟨m',hm,w3⟩:=hN σ3 H3 n3
   exact ⟨m',hm,σ3,H3,I3,w3⟩
  | brk=>exact q3
  | ret v=>exact q3
 | false=>
  rw [if_neg Bool.false_ne_true]
  exact wpAny_execs_nil ⟨σ1,H2,I2,q2⟩
end
structure It where
 go:Nat->Hp->Prop
 yld:Nat->Hp->V->Hp->Prop
 stop:Nat->Hp->Prop
def de (X:Cx) (pz:List (Addr × Obj)) (H:Hp) (b:Addr):Prop:=
 H b=none/\b≠X.env.locals/\b∉X.fs/\(b∈X.ex\/X.s₀.heap.objs.size<=b)/\(∀x c,X.env.cells.lookup x=some c->c≠b)/\∀p∈X.pn++pz,p.1≠b
theorem Inv.fpOk {X:Cx} {pz:List (Addr × Obj)} {σ:Ml} {H H':Hp} {s:Shared} {b:Addr} (I:Inv X pz σ H s) (hb:s.heap.objs.size<=b) (hn:H' b=none):de X pz H' b:=by
 refine ⟨hn,Nat.ne_of_gt (Nat.lt_of_lt_of_le I.lt hb),I.nofs hb,.inr (Nat.le_trans I.sz hb),fun x c e z=>?_,fun p hp z=>?_⟩
 ·obtain ⟨v,q⟩:=I.cell x c e
  exact absurd (Nat.lt_of_lt_of_le q.lt (by rw [z]; exact hb)) (Nat.lt_irrefl _)
 ·exact absurd (Nat.lt_of_lt_of_le (Heap.lt_size (I.pin p hp).1) (by rw [z]; exact hb)) (Nat.lt_irrefl _)
structure Turn (P:Program) (w:World) (K:W.Frag) (tg:Expr) (J:It) (fp:List Addr) (it:Addr) (tn:Nat->Heap->Prop):Prop where
 mem:it∈fp
 obj:∀i h,tn i h->∀b∈fp,∃o,h.get? b=some o/\∀v,o.data≠.cell v
 keep:∀i h h',tn i h->(∀b∈fp,∀o,h.get? b=some o->h'.get? b=some o)->tn i h'
 item:∀(X:Cx),X.prog=P->X.w=w->X.K=K->X.calm=true->∀(i:Nat) (pz:List (Addr × Obj)) (s:Shared) (σ:Ml) (H:Hp) (E:Value->Shared->Prop),Inv X pz σ H s->(∀b∈fp,de X pz H b)->tn i s.heap->J.go i H ->
  wpAny (model P w) X.A (pyNext (.ref it)) (fun r s1=>∃u,r=some u /\
   wpAny (model P w) X.A (letOwnedTupleGo tg (.ref it) u) (fun _ s2=>∃x H',Inv X pz σ H' s2/\aw x u/\J.yld i H x H'/\tn (i + 1) s2.heap/\∀b∈fp,H' b=none) E s1) E s
 done:∀(X:Cx),X.prog=P->X.w=w->X.K=K->X.calm=true->∀(i:Nat) (pz:List (Addr × Obj)) (s:Shared) (σ:Ml) (H:Hp) (E:Value->Shared->Prop),Inv X pz σ H s->(∀b∈fp,de X pz H b)->tn i s.heap->J.stop i H ->
  wpAny (model P w) X.A (pyNext (.ref it)) (fun r s1=>r=none/\Inv X pz σ H s1) E s
 self:∀(A:Around) (i:Nat) (s:Shared) (Q:Value->Shared->Prop) (E:Value->Shared->Prop),tn i s.heap->Q (.ref it) s->wpAny (model P w) A (pyIter (.ref it)) Q E s
abbrev TI:=Ml->Hp->(It->Hp->Prop)->Prop
def Dl (X:Cx) (pz:List (Addr × Obj)) (σ:Ml) (tg:Expr) (R:It->Hp->Prop) (itv:Value) (s2:Shared):Prop:=
 ∃(it:Addr) (fp:List Addr) (tn:Nat->Heap->Prop) (J:It) (H':Hp),itv=.ref it/\Inv X pz σ H' s2/\Turn X.prog X.w X.K tg J fp it tn/\tn 0 s2.heap/\(∀b∈fp,de X pz H' b)/\R J H'
def PI (X:Cx) (tg iter:Expr) (wi:TI):Prop:=
 ∀(pz:List (Addr × Obj)) (s:Shared) (σ:Ml) (H:Hp) (R:It->Hp->Prop),Inv X pz σ H s->wi σ H R ->
  wpAny (model X.prog X.w) X.A (eval iter X.env) (fun v s1=>wpAny (model X.prog X.w) X.A (pyIter v) (Dl X pz σ tg R) X.xe s1) X.xe s
theorem sk {M:Model} {A:Around} {E:Value->Shared->Prop} {s:Shared} {tg:Expr} {it:Addr} {u:Value} {o:Obj} {n:String} {vs:Array Value} {Q:Unit->Shared->Prop} (ho:s.heap.get? it=some o) (hc:o.cls=.type n) (hd:o.data=.fields vs)
    (hn : ["enumerate","zip","dict_itemiterator","dict_reverseitemiterator","odict_iterator","itertools.zip_longest","itertools.pairwise"].contains n=false) (hQ:Q () s):wpAny M A (letOwnedTupleGo tg (.ref it) u) Q E s:=by
  unfold letOwnedTupleGo
  cases tg <;> first
    | exact wpAny_pure hQ
    | (cases u <;> first
        | exact wpAny_pure hQ
        | (refine wpAny_bind (wpAny_load ho ?_)
           rw [hc,hd]
           show wpAny M A (if (["enumerate","zip","dict_itemiterator","dict_reverseitemiterator","odict_iterator","itertools.zip_longest","itertools.pairwise"].contains n && vs[0]? == some (rawInt _))=true then _ else _) Q E s
           rw [if_neg (by intro h; rw [hn,Bool.false_and] at h; cases h)]
           exact wpAny_pure hQ))
def pE (K:W.Frag) (a:Addr):It:=
 ⟨fun i H=>∃xs x,aZ K H a xs/\xs[i]? = some x,fun i H x H'=>H'=H/\∀xs,aZ K H a xs->xs[i]? = some x,fun i H=>∃xs,aZ K H a xs/\xs.length<=i⟩
def yu (K:W.Frag) (a:Addr):It:=
 ⟨fun i H=>∃xs x,ck K H a xs/\xs[i]? = some x,fun i H x H'=>H'=H/\∀xs,ck K H a xs->xs[i]? = some x,fun i H=>∃xs,ck K H a xs/\xs.length<=i⟩
def rZ (lo:Int) (n:Nat):It:=⟨fun i _=>i < n,fun i H x H'=>H'=H/\x=.int (lo + i),fun i _=>n<=i⟩
theorem Kv {P:Program} {w:World} {K:W.Frag} {tg:Expr} (a it:Addr):Turn P w K tg (pE K a) [it] it (fun i h=>h.IsListIter it a i) where
 mem:=by simp
 obj:=fun i h st b hb=>by
  have e:b=it:=by simpa using hb
  subst e
  obtain ⟨o,e,c,d⟩:=st
  exact ⟨o,e,fun v z=>by rw [d] at z; cases z⟩
 keep:=fun i h h' st k=>st.at fun o e=>k it (by simp) o e
 item:=by
  intro X hP hw hK hc i pz s σ H E I hf st hg
  subst hP hw hK
  obtain ⟨xs,x,hq,hx⟩:=hg
  obtain ⟨its,rv,p,hz⟩:=I.list hq
  obtain ⟨u,hu,ru⟩:=rv.get hx
  obtain ⟨f0,f1,f2,f3,f4,f5⟩:=hf it (by simp)
  refine wpAny_pyNext_list_item st p.isList (x:=u) (by simpa using hu) fun h' st' sb=>?_
  have I1:Inv X pz σ H { s with heap:=h' }:=I.turned (t':=s.toks) (fun b o hb e=>(sb.2 b hb).trans e) f0 f1 f3 f4 f5
  obtain ⟨o,e,c,d⟩:=id st'
  exact ⟨u,rfl,sk (s:={ s with heap:=h' }) e c d (by decide) ⟨x,H,I1,ru,⟨rfl,fun ys hy=>by rw [I.list_inj hy hq]; exact hx⟩,st',fun b hb=>(hf b hb).1⟩⟩
 done:=by
  intro X hP hw hK hc i pz s σ H E I hf st hg
  subst hP hw hK
  obtain ⟨xs,hq,hx⟩:=hg
  obtain ⟨its,rv,p,hz⟩:=I.list hq
  obtain ⟨f0,f1,f2,f3,f4,f5⟩:=hf it (by simp)
  have hl:=rv.length
  exact wpAny_pyNext_list_end (I.ok.hd hc) st p.isList (by simp; omega) fun h' eb=>⟨rfl,I.turned (t':=s.toks) (fun b o hb e=>eb b o hb e) f0 f1 f3 f4 f5⟩
 self:=fun _ _ _ _ _ st h=>wpAny_pyIter_listiter st h
theorem KJ {P:Program} {w:World} {K:W.Frag} {tg:Expr} (a it:Addr):Turn P w K tg (yu K a) [it] it (fun i h=>h.IsTupleIter it a i) where
 mem:=by simp
 obj:=fun i h st b hb=>by
  have e:b=it:=by simpa using hb
  subst e
  obtain ⟨o,e,c,d⟩:=st
  exact ⟨o,e,fun v z=>by rw [d] at z; cases z⟩
 keep:=fun i h h' st k=>st.at fun o e=>k it (by simp) o e
 item:=by
  intro X hP hw hK hc i pz s σ H E I hf st hg
  subst hP hw hK
  obtain ⟨xs,x,hq,hx⟩:=hg
  obtain ⟨its,rv,p,hz⟩:=I.tuple hq
  obtain ⟨u,hu,ru⟩:=rv.get hx
  obtain ⟨f0,f1,f2,f3,f4,f5⟩:=hf it (by simp)
  refine wpAny_pyNext_tuple_item st (show s.heap.IsTuple a its.toArray from p) (x:=u) (by simpa using hu) fun h' st' sb=>?_
  have I1:Inv X pz σ H { s with heap:=h' }:=I.turned (t':=s.toks) (fun b o hb e=>(sb.2 b hb).trans e) f0 f1 f3 f4 f5
  obtain ⟨o,e,c,d⟩:=id st'
  exact ⟨u,rfl,sk (s:={ s with heap:=h' }) e c d (by decide) ⟨x,H,I1,ru,⟨rfl,fun ys hy=>by rw [I.tuple_inj hy hq]; exact hx⟩,st',fun b hb=>(hf b hb).1⟩⟩
 done:=by
  intro X hP hw hK hc i pz s σ H E I hf st hg
  subst hP hw hK
  obtain ⟨xs,hq,hx⟩:=hg
  obtain ⟨its,rv,p,hz⟩:=I.tuple hq
  obtain ⟨f0,f1,f2,f3,f4,f5⟩:=hf it (by simp)
  have hl:=rv.length
  exact wpAny_pyNext_tuple_end (I.ok.hd hc) st (show s.heap.IsTuple a its.toArray from p) (by simp; omega) fun h' eb=>⟨rfl,I.turned (t':=s.toks) (fun b o hb e=>eb b o hb e) f0 f1 f3 f4 f5⟩
 self:=fun _ _ _ _ _ st h=>wpAny_pyIter_tupleiter st h
theorem KI {P:Program} {w:World} {K:W.Frag} {tg:Expr} (it:Addr) (lo:Int) (n:Nat):Turn P w K tg (rZ lo n) [it] it (fun i h=>IsRangeIter h it (lo + (i:Nat) * 1) ((n:Int) - (i:Nat)) 1) where
 mem:=by simp
 obj:=fun i h st b hb=>by
  have e:b=it:=by simpa using hb
  subst e
  exact ⟨_,st,fun v z=>by
   have z':Data.fields _=Data.cell v:=z
   cases z'⟩
 keep:=fun i h h' st k=>k it (by simp) _ st
 item:=by
  intro X hP hw hK hc i pz s σ H E I hf st hg
  subst hP hw hK
  obtain ⟨f0,f1,f2,f3,f4,f5⟩:=hf it (by simp)
  have W:=Walks.range (prog:=X.prog) (w:=X.w) (I.ok.hd hc) it lo 1 n
  refine W.item i s _ _ hg st fun v h' tk hv st' kk=>?_
  obtain ⟨t,rfl⟩:=hv
  have I1:Inv X pz σ H { s with heap:=h',toks:=tk }:=I.turned (fun b o hb e=>kk b o (by simpa using hb) e) f0 f1 f3 f4 f5
  refine ⟨_,rfl,sk (s:={ s with heap:=h',toks:=tk }) (n := "range_iterator") st' rfl rfl (by decide) ⟨.int (lo + i),H,I1,⟨t,?_⟩,⟨rfl,rfl⟩,st',fun b hb=>(hf b hb).1⟩⟩
  rw [Int.mul_one]
 done:=by
  intro X hP hw hK hc i pz s σ H E I hf st hg
  subst hP hw hK
  obtain ⟨f0,f1,f2,f3,f4,f5⟩:=hf it (by simp)
  exact wpAny_pyNext_range_end (I.ok.hd hc) st (by have:n<=i:=hg; omega) fun h' eb=>⟨rfl,I.turned (t':=s.toks) (fun b o hb e=>eb b o hb e) f0 f1 f3 f4 f5⟩
 self:=fun _ _ _ _ _ st h=>wpAny_pyIter_rangeiter st h
section
variable {X:Cx} {tg:Expr}
theorem Iw {pz:List (Addr × Obj)} {σ:Ml} {H:Hp} {s:Shared} {R:It->Hp->Prop} {E:Value->Shared->Prop} {lo hi:Int} {t u v:Tok} {tk:Nat} (I:Inv X pz σ H s) (h1 : -(2 ^ 62)<=lo) (h2:lo < 2 ^ 62) (h3 : -(2 ^ 62)<=hi) (h4:hi < 2 ^ 62)
  (q:R (rZ lo (hi - lo).toNat) H):wpAny (model X.prog X.w) X.A (pyIter (.ref s.heap.objs.size)) (Dl X pz σ tg R) E { s with heap:=s.heap.push { cls:=.type "range",data:=.fields #[.int lo t,.int hi u,.int 1 v] },toks:=tk }:=by
 refine wpAny_pyIter_range (IsRange.new ..) (small_one h1 h2 h3 h4) ?_
 have I1:Inv X pz σ H { s with heap:=s.heap.push { cls:=.type "range",data:=.fields #[.int lo t,.int hi u,.int 1 v] },toks:=tk }:=I.kept fun b o e=>Heap.get?_push_of_some _ e
 refine ⟨(s.heap.push { cls:=.type "range",data:=.fields #[.int lo t,.int hi u,.int 1 v] }).objs.size,[(s.heap.push { cls:=.type "range",data:=.fields #[.int lo t,.int hi u,.int 1 v] }).objs.size],_,_,H,rfl,
  I1.kept (t':=tk) fun b o e=>Heap.get?_push_of_some _ e,KI _ lo (hi - lo).toNat,?_,fun b hb=>?_,q⟩
 ·have e1:lo + ((0:Nat):Int) * 1=lo:=by simp
  have e2:(((hi - lo).toNat:Nat):Int) - ((0:Nat):Int)=Builtin.Range.rangeSize lo hi 1:=by rw [rangeSize_one]; split <;> omega
  show IsRangeIter _ _ (lo + ((0:Nat):Int) * 1) ((((hi - lo).toNat:Nat):Int) - ((0:Nat):Int)) 1
  rw [e1,e2]
  exact Heap.get?_push_size _ rfl
 ·have e:b=(s.heap.push { cls:=.type "range",data:=.fields #[.int lo t,.int hi u,.int 1 v] }).objs.size:=by simpa using hb
  subst e
  exact I1.fpOk (Nat.le_refl _) (I1.hok.fresh (Nat.le_refl _))
def Dz (ta:TA):TI:=fun σ H R=>ta σ H fun vs H1=>∃j:Int,vs=[.int j]/\-(2 ^ 62)<=j/\j < 2 ^ 62/\R (rZ 0 j.toNat) H1
theorem JQ {a:Expr} {ta:TA} {p pos:Pos} (hg:Gl X "range") (hm:X.mg "range" = none) (ha:PA X [a] ta) (hs:starEach [a] X.env=[(false,eval a X.env)]:=by rfl):PI X tg (.Call (.Name "range" p) [a] [] pos) (Dz ta):=by
 intro pz s σ H R I h
 refine Call_ (mE I hg hm boot_range (PyProof.Rows.callWith_type1 (aY (ha pos pz s σ H _ I h) fun us s1 ⟨vs,H1,I1,r1,q1⟩=>?_) hs rfl))
 obtain ⟨j,e,q1,q2,q⟩:=q1
 subst e
 cases r1 with
 | cons r rr=>
  cases rr
  obtain ⟨t,rfl⟩:=r
  exact call_range_1 (Iw I1 (by omega) (by omega) q1 q2 (by simpa using q))
def xO (wi:TI) (g:TG) (tb:TS):TS:=fun D σ H=>wi σ H fun J H1=>∃W:Nat->Nat->Ml->Hp->Prop,(∃m,W 0 m σ H1)/\∀i m σ H,W i m σ H ->
 (J.stop i H/\D.nx σ H)\/(J.go i H/\∃N:Ml->Hp->Prop,(∀σ' H',N σ' H'->∃m',m' < m/\W (i + 1) m' σ' H')/\∀x H',J.yld i H x H'->g x σ H' fun σ2 H2=>tb { D with nx:=N,ct:=N,bk:=D.nx } σ2 H2)
def nA (fp:List Addr) (h:Heap):List (Addr × Obj):=fp.filterMap fun b=>(h.get? b).map fun o=>(b,o)
theorem qS {fp:List Addr} {h:Heap} {b:Addr} {o:Obj} (hb:b∈fp) (e:h.get? b=some o):(b,o)∈nA fp h:=List.mem_filterMap.mpr ⟨b,hb,by rw [e]; rfl⟩
theorem J6 {fp:List Addr} {h:Heap} {p:Addr × Obj} (hp:p∈nA fp h):p.1∈fp/\h.get? p.1=some p.2:=by
 obtain ⟨b,hb,e⟩:=List.mem_filterMap.mp hp
 cases q:h.get? b with
 | none=>rw [q] at e; cases e
 | some o=>
  rw [q] at e
  have e':(b,o)=p:=Option.some.inj e
  subst e'
  exact ⟨hb,q⟩
theorem Inv.pinned {pz:List (Addr × Obj)} {σ:Ml} {H:Hp} {s:Shared} {fp:List Addr} (I:Inv X pz σ H s) (hf:∀b∈fp,de X pz H b) (ho:∀b∈fp,∃o,s.heap.get? b=some o/\∀v,o.data≠.cell v):Inv X (pz++nA fp s.heap) σ H s:=
 I.pins_of fun p hp=>(List.mem_append.mp hp).elim (fun z=>I.pin p (List.mem_append_right _ z)) fun z=>by
  obtain ⟨hb,e⟩:=J6 z
  obtain ⟨f0,f1,f2,_⟩:=hf p.1 hb
  obtain ⟨o,e',d⟩:=ho p.1 hb
  rw [e] at e'; cases e'
  exact ⟨e,f0,f1,f2,d⟩
theorem Inv.unpinned {pz pl:List (Addr × Obj)} {σ:Ml} {H:Hp} {s:Shared} (I:Inv X (pz++pl) σ H s):Inv X pz σ H s:=I.pins_of fun p hp=>I.pin p (List.mem_append_right _ (List.mem_append_left _ hp))
theorem pT {iter:Expr} {body:List Stmt} {wi:TI} {g:TG} {tb:TS} {pos:Pos} (hp:PassesOwn (model X.prog X.w) X.A X.env X.xe) (hc:X.calm=true) (hi:PI X tg iter wi) (hg:PG X tg g) (hb:cQ X body tb)
  (hs:∀x,foldedSetIterable iter X.env x=pure x:=by intro _; rfl):PS X (.For tg iter body [] pos) (xO wi g tb):=by
 intro pz s σ H D I h
 refine wpAny_For (aY (hi pz s σ H _ I h) fun v s1 h1=>aY h1 fun itv s2 h2=>?_) hs
 obtain ⟨it,fp,tn,J,H2,e,I2,T,st2,f2,W,⟨m0,w0⟩,turn⟩:=h2
 subst e
 have stat:∀{H':Hp},(∀b∈fp,H' b=none)->∀b∈fp,de X pz H' b:=fun hn b hb=>⟨hn b hb,(f2 b hb).2⟩
 refine codeAny_forLoop_any (fun n s'=>∃i σ' H',Inv X pz σ' H' s'/\tn i s'.heap/\(∀b∈fp,H' b=none)/\W i n σ' H') ?_ m0 ⟨0,σ,H2,I2,st2,fun b hb=>(f2 b hb).1,w0⟩
 rintro n s3 ⟨i,σ3,H3,I3,st3,fr3,w3⟩
 rcases turn i n σ3 H3 w3 with ⟨stop,qn⟩ | ⟨go,N,hN,step⟩
 ·refine wpAny_passesOwn hp (aY (T.done X rfl rfl rfl hc i pz s3 σ3 H3 X.xe I3 (stat fr3) st3 stop) fun r s4 ⟨hr,I4⟩=>?_)
  subst hr
  exact wpAny_execs_nil ⟨σ3,H3,I4,qn⟩
 ·refine wpAny_passesOwn hp (aY (T.item X rfl rfl rfl hc i pz s3 σ3 H3 X.xe I3 (stat fr3) st3 go) fun r s4 ⟨u,hr,h4⟩=>?_)
  subst hr
  refine wpAny_passesOwn hp (aY h4 fun _ s5 ⟨x,H5,I5,r5,y5,st5,fr5⟩=>?_)
  have I5':=I5.pinned (stat fr5) (T.obj _ _ st5)
  refine wpAny_passesOwn hp (aY (hg _ s5 σ3 H5 x u _ I5' r5 (step x H5 y5)) fun _ s6 ⟨σ6,H6,I6,q6⟩=>?_)
  refine wpAny_passesOwn hp (aY (hb _ s6 σ6 H6 _ I6 q6) fun f s7 q7=>?_)
  have again:∀{σ7:Ml} {H7:Hp},Inv X (pz++nA fp s5.heap) σ7 H7 s7->N σ7 H7->∃m,m < n/\∃i σ' H',Inv X pz σ' H' s7/\tn i s7.heap/\(∀b∈fp,H' b=none)/\W i m σ' H':=fun {σ7 H7} I7 n7=>by
   obtain ⟨m',hm,w7⟩:=hN σ7 H7 n7
   refine ⟨m',hm,i + 1,σ7,H7,I7.unpinned,T.keep _ _ _ st5 fun b hb o e=>(I7.pin (b,o) (List.mem_append_right _ (List.mem_append_right _ (qS hb e)))).1,fun b hb=>?_,w7⟩
   obtain ⟨o,e,d⟩:=T.obj _ _ st5 b hb
   exact (I7.pin (b,o) (List.mem_append_right _ (List.mem_append_right _ (qS hb e)))).2.1
  cases f with
  | next=>obtain ⟨σ7,H7,I7,n7⟩:=q7; exact again I7 n7
  | cont=>obtain ⟨σ7,H7,I7,n7⟩:=q7; exact again I7 n7
  | brk=>obtain ⟨σ7,H7,I7,q7⟩:=q7; exact ⟨σ7,H7,I7.unpinned,q7⟩
  | ret v=>obtain ⟨x7,σ7,H7,I7,r7,q7⟩:=q7; exact ⟨x7,σ7,H7,I7.unpinned,r7,q7⟩
end
abbrev R2:=V->V->Hp->VK->Prop
def bi (X:Cx) (f:Value->Value->Sem Value) (r:R2):Prop:=
 ∀(pz:List (Addr × Obj)) (s:Shared) (σ:Ml) (H:Hp) (x y:V) (v u:Value) (Q:VK),Inv X pz σ H s->aw x v->aw y u->r x y H Q ->
  wpAny (model X.prog X.w) X.A (f v u) (EP X pz σ Q) X.xe s
def yo (X:Cx) (f:Value->Sem Value) (r:V->Hp->VK->Prop):Prop:=
 ∀(pz:List (Addr × Obj)) (s:Shared) (σ:Ml) (H:Hp) (x:V) (v:Value) (Q:VK),Inv X pz σ H s->aw x v->r x H Q ->
  wpAny (model X.prog X.w) X.A (f v) (EP X pz σ Q) X.xe s
def dH (X:Cx) (f:Value) (r:List V->Hp->VK->Prop):Prop:=
 ∀(pz:List (Addr × Obj)) (s:Shared) (σ:Ml) (H:Hp) (xs:List V) (us:List Value) (Q:VK),Inv X pz σ H s->ap xs us->r xs H Q ->
  wpAny (model X.prog X.w) X.A (call f us) (EP X pz σ Q) X.xe s
def yp (X:Cx) (r:V->Hp->(Bool->Hp->Prop)->Prop):Prop:=
 ∀(pz:List (Addr × Obj)) (s:Shared) (σ:Ml) (H:Hp) (x:V) (v:Value) (Q:Bool->Hp->Prop),Inv X pz σ H s->aw x v->r x H Q ->
  wpAny (model X.prog X.w) X.A (truthy v) (TP X pz σ Q) X.xe s
def oP (r:R2) (ta tb:TE):TE:=fun σ H Q=>ta σ H fun x H1=>tb σ H1 fun y H2=>r x y H2 Q
def LO (r:V->Hp->VK->Prop) (ta:TE):TE:=fun σ H Q=>ta σ H fun x H1=>r x H1 Q
def rI (C:Int->Int->Prop) (g:Int->Int->V):R2:=fun x y H Q=>∃i j,x=.int i/\y=.int j/\C i j/\Q (g i j) H
def i7 (g:Int->Int->V):R2:=fun x y H Q=>∃i j,x=.int i/\y=.int j/\Q (g i j) H
def rU (g:Int->V):V->Hp->VK->Prop:=fun x H Q=>∃i,x=.int i/\Q (g i) H
section
variable {X:Cx} {a b c:Expr} {ta tb tc:TE} {pos:Pos}
theorem lZ (ha:PE X a ta) (hb:PE X b tb) {pz:List (Addr × Obj)} {s:Shared} {σ:Ml} {H:Hp} {R:V->V->Hp->Prop} (I:Inv X pz σ H s)
  (h:ta σ H fun x H1=>tb σ H1 fun y H2=>R x y H2) {Q:Value->Shared->Prop} {f:Value->Value->Sem Value}
  (hf:∀v u s2 x y H2,Inv X pz σ H2 s2->aw x v->aw y u->R x y H2->wpAny (model X.prog X.w) X.A (f v u) Q X.xe s2) :
  wpAny (model X.prog X.w) X.A (eval a X.env) (fun v s₁=>wpAny (model X.prog X.w) X.A (eval b X.env) (fun u s₂=>wpAny (model X.prog X.w) X.A (f v u) Q X.xe s₂) X.xe s₁) X.xe s:=by
 refine aY (ha pz s σ H _ I h) fun v s1 ⟨x,H1,I1,r1,q1⟩=>?_
 refine aY (hb pz s1 σ H1 _ I1 q1) fun u s2 ⟨y,H2,I2,r2,q2⟩=>?_
 exact hf v u s2 x y H2 I2 r1 r2 q2
theorem EJ {op:Operator} {r:R2} (ho:bi X (binaryOp op) r) (ha:PE X a ta) (hb:PE X b tb):PE X (.BinOp a op b pos) (oP r ta tb):=by
 intro pz s σ H Q I h
 exact wpAny_BinOp (lZ ha hb I h fun v u s2 x y H2 I2 rx ry q=>ho pz s2 σ H2 x y v u Q I2 rx ry q)
theorem EK {op:UnaryOp} {r:V->Hp->VK->Prop} (ho:yo X (unaryOp op) r) (ha:PE X a ta):PE X (.UnaryOp op a pos) (LO r ta):=by
 intro pz s σ H Q I h
 exact UnaryOp_ (aY (ha pz s σ H _ I h) fun v s1 ⟨x,H1,I1,r1,q1⟩=>ho pz s1 σ H1 x v Q I1 r1 q1)
theorem m9 {f:Value->Value->Sem Value} {C:Int->Int->Prop} {g:Int->Int->Int}
  (rule:∀(i j:Int) (t u:Tok) (s:Shared) (Q:Value->Shared->Prop) (E:Value->Shared->Prop),C i j->Q (.int (g i j) s.toks) { s with toks:=s.toks + 1 }->wpAny (model X.prog X.w) X.A (f (.int i t) (.int j u)) Q E s) :
  bi X f (rI C fun i j=>.int (g i j)):=by
 intro pz s σ H x y v u Q I rx ry h
 obtain ⟨i,j,rfl,rfl,hc,q⟩:=h
 obtain ⟨t,rfl⟩:=rx
 obtain ⟨t',rfl⟩:=ry
 exact rule i j t t' s _ _ hc ⟨.int (g i j),H,I.tok _,⟨_,rfl⟩,q⟩
theorem pe {f:Value->Value->Sem Value} {g:Int->Int->Int}
  (rule:∀(i j:Int) (t u:Tok) (s:Shared) (Q:Value->Shared->Prop) (E:Value->Shared->Prop),Q (.int (g i j) s.toks) { s with toks:=s.toks + 1 }->wpAny (model X.prog X.w) X.A (f (.int i t) (.int j u)) Q E s) :
  bi X f (i7 fun i j=>.int (g i j)):=by
 intro pz s σ H x y v u Q I rx ry h
 obtain ⟨i,j,rfl,rfl,q⟩:=h
 obtain ⟨t,rfl⟩:=rx
 obtain ⟨t',rfl⟩:=ry
 exact rule i j t t' s _ _ ⟨.int (g i j),H,I.tok _,⟨_,rfl⟩,q⟩
theorem kn {f:Value->Value->Sem Value} {g:Int->Int->Bool}
  (rule:∀(i j:Int) (t u:Tok) (s:Shared) (Q:Value->Shared->Prop) (E:Value->Shared->Prop),Q (.bool (g i j)) s->wpAny (model X.prog X.w) X.A (f (.int i t) (.int j u)) Q E s) :
  bi X f (i7 fun i j=>.bl (g i j)):=by
 intro pz s σ H x y v u Q I rx ry h
 obtain ⟨i,j,rfl,rfl,q⟩:=h
 obtain ⟨t,rfl⟩:=rx
 obtain ⟨t',rfl⟩:=ry
 exact rule i j t t' s _ _ ⟨.bl (g i j),H,I,rfl,q⟩
def iC (i j:Int):Prop:=0 < j/\j < 1073741824
def iA (i j:Int):Prop:=0<=j/\j<=1000000/\i.natAbs < 2 ^ 64
def gI (i j:Int):Prop:=(-(2 ^ 64) < i/\i < 2 ^ 64)\/(-(2 ^ 64) < j/\j < 2 ^ 64)
theorem gI.ok {i j:Int} (h:gI i j):IntMulOk i j:=by
 rcases h with ⟨h1,h2⟩ | ⟨h1,h2⟩
 ·exact .of_left (intBits_le_64 h1 h2)
 ·exact .of_right (intBits_le_64 h1 h2)
theorem zU:bi X (binaryOp .Add) (i7 fun i j=>.int (i + j)):=pe fun _ _ _ _ _ _ _ q=>add_int q
theorem E1:bi X (binaryOp .Sub) (i7 fun i j=>.int (i - j)):=pe fun _ _ _ _ _ _ _ q=>sub_int q
theorem EY:bi X (binaryOp .Mult) (rI gI fun i j=>.int (i * j)):=m9 fun _ _ _ _ _ _ _ hc q=>mul_int q hc.ok
theorem Hv:bi X (binaryOp .FloorDiv) (rI iC fun i j=>.int (i / j)):=m9 fun i j _ _ _ _ _ hc q=>by
 have h1:(0:Int) < j:=hc.1
 have h2:j < 1073741824:=hc.2
 exact floordiv_int (by omega) (by rw [Int.fdiv_eq_ediv_of_nonneg i (by omega)]; exact q) (.inl (PyProof.noPylong_small (by omega)))
theorem EX:bi X (binaryOp .Mod) (rI (fun _ j=>0 < j) fun i j=>.int (i % j)):=m9 fun i j _ _ _ _ _ hc q=>by
 have h1:(0:Int) < j:=hc
 exact mod_int' (by omega) (by rw [Int.fmod_eq_emod_of_nonneg i (by omega)]; exact q)
theorem EZ:bi X (binaryOp .Pow) (rI iA fun i j=>.int (i ^ j.toNat)):=m9 fun _ _ _ _ _ _ _ hc q=>pow_int_small hc.1 hc.2.1 hc.2.2 q
theorem LM {f:Value->Sem Value} {g:Int->Int}
  (rule:∀(i:Int) (t:Tok) (s:Shared) (Q:Value->Shared->Prop) (E:Value->Shared->Prop),Q (.int (g i) s.toks) { s with toks:=s.toks + 1 }->wpAny (model X.prog X.w) X.A (f (.int i t)) Q E s) :
  yo X f (rU fun i=>.int (g i)):=by
 intro pz s σ H x v Q I rx h
 obtain ⟨i,rfl,q⟩:=h
 obtain ⟨t,rfl⟩:=rx
 exact rule i t s _ _ ⟨.int (g i),H,I.tok _,⟨_,rfl⟩,q⟩
theorem F5:yo X (unaryOp .USub) (rU fun i=>.int (-i)):=LM fun _ _ _ _ _ q=>neg_int q
end
def j8:V->V->Bool
 | .non,.non=>true | .non,.int _=>true | .int _,.non=>true | .non,.bl _=>true | .bl _,.non=>true | .non,.str _=>true | .str _,.non=>true
 | .int _,.int _=>true | .bl _,.bl _=>true | .str _,.str _=>true | .byt _,.byt _=>true
 | .int _,.str _=>true | .str _,.int _=>true | .bl _,.str _=>true | .str _,.bl _=>true
 | _,_=>false
def Dg:R2:=fun x y H Q=>j8 x y=true/\Q (.bl (decide (x=y))) H
def Df:R2:=fun x y H Q=>j8 x y=true/\Q (.bl (! decide (x=y))) H
theorem tK {i j:Int}:decide (V.int i=V.int j)=(i == j):=by
 rw [Bool.eq_iff_iff]
 simp
theorem sF {i j:Bool}:decide (V.bl i=V.bl j)=(i == j):=by
 rw [Bool.eq_iff_iff]
 simp
theorem tM {i j:Str}:decide (V.str i=V.str j)=(i == j):=by
 rw [Bool.eq_iff_iff]
 simp
theorem zZ {i j:Array UInt8}:decide (V.byt i=V.byt j)=(i.toList == j.toList):=by
 rw [Bool.eq_iff_iff]
 cases i
 cases j
 simp
section
variable {X:Cx} {a b c:Expr} {ta tb tc:TE} {pos:Pos}
theorem cz {pz:List (Addr × Obj)} {σ:Ml} {H:Hp} {s:Shared} {Q:VK} {k k':Bool} (I:Inv X pz σ H s) (q:Q (.bl k) H) (e:k=k'):EP X pz σ Q (.bool k') s:=by
 subst e
 exact ⟨.bl k,H,I,rfl,q⟩
theorem yF:bi X (compareOp .Eq) Dg:=by
 intro pz s σ H x y v u Q I rx ry h
 obtain ⟨hs,q⟩:=h
 cases x with
 | non=>
  cases rx
  cases y with
  | non=>cases ry; exact PySem.EqNone.eq_none_none (cz I q (by simp))
  | bl j=>cases ry; exact PySem.EqNone.eq_none_bool (cz I q (by simp))
  | int j=>obtain ⟨t',rfl⟩:=ry; exact PySem.EqNone.eq_none_int (cz I q (by simp))
  | str j=>obtain ⟨t',rfl⟩:=ry; exact PySem.EqNone.eq_none_str (cz I q (by simp))
  | _=>exact absurd (show false=true from hs) Bool.false_ne_true
 | bl i=>
  cases rx
  cases y with
  | non=>cases ry; exact PySem.EqNone.eq_bool_none (cz I q (by simp))
  | bl j=>cases ry; exact eq_bool (cz I q sF)
  | str j=>obtain ⟨t',rfl⟩:=ry; exact PySem.EqMixed.eq_bool_str (cz I q (by simp))
  | _=>exact absurd (show false=true from hs) Bool.false_ne_true
 | int i=>
  obtain ⟨t,rfl⟩:=rx
  cases y with
  | non=>cases ry; exact PySem.EqNone.eq_int_none (cz I q (by simp))
  | int j=>obtain ⟨t',rfl⟩:=ry; exact eq_int (cz I q tK)
  | str j=>obtain ⟨t',rfl⟩:=ry; exact PySem.EqMixed.eq_int_str (cz I q (by simp))
  | _=>exact absurd (show false=true from hs) Bool.false_ne_true
 | str i=>
  obtain ⟨t,rfl⟩:=rx
  cases y with
  | non=>cases ry; exact PySem.EqNone.eq_str_none (cz I q (by simp))
  | bl j=>cases ry; exact PySem.EqMixed.eq_str_bool (cz I q (by simp))
  | int j=>obtain ⟨t',rfl⟩:=ry; exact PySem.EqMixed.eq_str_int (cz I q (by simp))
  | str j=>obtain ⟨t',rfl⟩:=ry; exact eq_str (cz I q tM)
  | _=>exact absurd (show false=true from hs) Bool.false_ne_true
 | byt i=>
  obtain ⟨t,rfl⟩:=rx
  cases y with
  | byt j=>obtain ⟨t',rfl⟩:=ry; exact W.eq_bytes (cz I q zZ)
  | _=>exact absurd (show false=true from hs) Bool.false_ne_true
 | _=>cases y <;> exact absurd (show false=true from hs) Bool.false_ne_true
theorem DP:bi X (compareOp .NotEq) Df:=by
 intro pz s σ H x y v u Q I rx ry h
 obtain ⟨hs,q⟩:=h
 cases x with
 | non=>
  cases rx
  cases y with
  | non=>cases ry; exact PySem.EqNone.ne_none_none (cz I q (by simp))
  | bl j=>cases ry; exact PySem.EqNone.ne_none_bool (cz I q (by simp))
  | int j=>obtain ⟨t',rfl⟩:=ry; exact PySem.EqNone.ne_none_int (cz I q (by simp))
  | str j=>obtain ⟨t',rfl⟩:=ry; exact PySem.EqNone.ne_none_str (cz I q (by simp))
  | _=>exact absurd (show false=true from hs) Bool.false_ne_true
 | bl i=>
  cases rx
  cases y with
  | non=>cases ry; exact PySem.EqNone.ne_bool_none (cz I q (by simp))
  | bl j=>cases ry; exact ne_bool (cz I q (congrArg not sF))
  | str j=>obtain ⟨t',rfl⟩:=ry; exact PySem.EqMixed.ne_bool_str (cz I q (by simp))
  | _=>exact absurd (show false=true from hs) Bool.false_ne_true
 | int i=>
  obtain ⟨t,rfl⟩:=rx
  cases y with
  | non=>cases ry; exact PySem.EqNone.ne_int_none (cz I q (by simp))
  | int j=>obtain ⟨t',rfl⟩:=ry; exact ne_int (cz I q (congrArg not tK))
  | str j=>obtain ⟨t',rfl⟩:=ry; exact PySem.EqMixed.ne_int_str (cz I q (by simp))
  | _=>exact absurd (show false=true from hs) Bool.false_ne_true
 | str i=>
  obtain ⟨t,rfl⟩:=rx
  cases y with
  | non=>cases ry; exact PySem.EqNone.ne_str_none (cz I q (by simp))
  | bl j=>cases ry; exact PySem.EqMixed.ne_str_bool (cz I q (by simp))
  | int j=>obtain ⟨t',rfl⟩:=ry; exact PySem.EqMixed.ne_str_int (cz I q (by simp))
  | str j=>obtain ⟨t',rfl⟩:=ry; exact ne_str (cz I q (congrArg not tM))
  | _=>exact absurd (show false=true from hs) Bool.false_ne_true
 | byt i=>
  obtain ⟨t,rfl⟩:=rx
  cases y with
  | byt j=>obtain ⟨t',rfl⟩:=ry; exact W.ne_bytes (cz I q (congrArg not zZ))
  | _=>exact absurd (show false=true from hs) Bool.false_ne_true
 | _=>cases y <;> exact absurd (show false=true from hs) Bool.false_ne_true
theorem sv:bi X (compareOp .Lt) (i7 fun i j=>.bl (decide (i < j))):=kn fun _ _ _ _ _ _ _ q=>lt_int q
theorem yH:bi X (compareOp .LtE) (i7 fun i j=>.bl (decide (i<=j))):=kn fun _ _ _ _ _ _ _ q=>le_int q
theorem yG:bi X (compareOp .Gt) (i7 fun i j=>.bl (decide (j < i))):=kn fun _ _ _ _ _ _ _ q=>gt_int q
theorem DO:bi X (compareOp .GtE) (i7 fun i j=>.bl (decide (j<=i))):=kn fun _ _ _ _ _ _ _ q=>ge_int q
theorem JO:bi X (compareOp .In) (fun x y H Q=>∃i j,x=.str i/\y=.str j/\Q (.bl (!(Builtin.Str.occurrences j i 0 j.length 1).isEmpty)) H):=by
 intro pz s σ H x y v u Q I rx ry h
 obtain ⟨i,j,rfl,rfl,q⟩:=h
 obtain ⟨t,rfl⟩:=rx
 obtain ⟨t',rfl⟩:=ry
 exact in_str (cz I q rfl)
theorem EW:bi X (compareOp .Is) (fun x y H Q=>y=.non/\Q (.bl (decide (x=.non))) H):=by
 intro pz s σ H x y v u Q I rx ry h
 obtain ⟨rfl,q⟩:=h
 cases ry
 refine is_none_gen (cz I q ?_)
 cases x <;> first
  | (cases rx; rfl)
  | (obtain ⟨t,rfl⟩:=rx; rfl)
theorem Al:bi X (compareOp .IsNot) (fun x y H Q=>y=.non/\Q (.bl (! decide (x=.non))) H):=by
 intro pz s σ H x y v u Q I rx ry h
 obtain ⟨rfl,q⟩:=h
 cases ry
 refine isnot_none_gen (cz I q ?_)
 cases x <;> first
  | (cases rx; rfl)
  | (obtain ⟨t,rfl⟩:=rx; rfl)
theorem bi.or {f:Value->Value->Sem Value} {r r':R2} (h:bi X f r) (h':bi X f r'):bi X f (fun x y H Q=>r x y H Q\/r' x y H Q):=by
 intro pz s σ H x y v u Q I rx ry q
 rcases q with q | q
 ·exact h pz s σ H x y v u Q I rx ry q
 ·exact h' pz s σ H x y v u Q I rx ry q
theorem iI (b:Expr) {op:CmpOp} (h:op≠.In:=by decide) (h2:op≠.NotIn:=by decide):behindInMarks op b=false:=by
 have e1:(op == CmpOp.In)=false:=by cases op <;> first | rfl | exact absurd rfl h
 have e2:(op == CmpOp.NotIn)=false:=by cases op <;> first | rfl | exact absurd rfl h2
 cases b <;> simp [behindInMarks,e1,e2]
theorem GL {op:CmpOp} {r:R2} (ho:bi X (compareOp op) r) (ha:PE X a ta) (hb:PE X b tb) (hm:behindInMarks op b=false):PE X (.Compare a [op] [b] pos) (oP r ta tb):=by
 intro pz s σ H Q I h
 exact wpAny_Compare1 (lZ ha hb I h fun v u s2 x y H2 I2 rx ry q=>ho pz s2 σ H2 x y v u Q I2 rx ry q) hm
def yP (t:TE):TT:=fun σ H Q=>t σ H fun x H'=>∃k,x=.bl k/\Q k H'
theorem GT {op:CmpOp} {r:R2} (ho:bi X (compareOp op) r) (ha:PE X a ta) (hb:PE X b tb) (hm:behindInMarks op b=false):PT X (.Compare a [op] [b] pos) (yP (oP r ta tb)):=by
 intro pz s σ H Q I h
 refine wpAny_isTrue_Compare1 (aY (ha pz s σ H _ I h) fun v s1 ⟨x,H1,I1,r1,q1⟩=>aY (hb pz s1 σ H1 _ I1 q1) fun u s2 ⟨y,H2,I2,r2,q2⟩=>
  aY (ho pz s2 σ H2 x y v u _ I2 r1 r2 q2) fun c s3 ⟨z,H3,I3,r3,k,e,q3⟩=>?_) hm
 subst e
 cases r3
 exact wpAny_truthy_bool ⟨H3,I3,q3⟩
def zu (r r':R2) (ta tb tc:TE):TE:=fun σ H Q=>ta σ H fun x H1=>tb σ H1 fun y H2=>r x y H2 fun z H3=>∃k,z=.bl k /\
 (if k=true then tc σ H3 fun w' H4=>r' y w' H4 Q else Q (.bl false) H3)
theorem Ip {op op':CmpOp} {r r':R2} (ho:bi X (compareOp op) r) (ho':bi X (compareOp op') r') (ha:PE X a ta) (hb:PE X b tb) (hc:PE X c tc)
  (hm:lastMarks [op,op'] [b,c]=false:=by with_unfolding_all rfl):PT X (.Compare a [op,op'] [b,c] pos) (yP (zu r r' ta tb tc)):=by
 intro pz s σ H Q I h
 refine isTrue_chain (aY (ha pz s σ H _ I h) fun v s1 ⟨x,H1,I1,r1,q1⟩=>test_link (aY (hb pz s1 σ H1 _ I1 q1) fun u s2 ⟨y,H2,I2,r2,q2⟩=>
  aY (ho pz s2 σ H2 x y v u _ I2 r1 r2 q2) fun d s3 ⟨z,H3,I3,r3,k,e,q3⟩=>?_)) hm
 subst e
 cases r3
 refine wpAny_truthy_bool ?_
 cases k with
 | false=>
  obtain ⟨k',e',q'⟩:=q3
  cases e'
  exact ite_ff ⟨H3,I3,q'⟩
 | true=>
  refine ite_tt (test_last (aY (hc pz s3 σ H3 _ I3 q3) fun w' s4 ⟨z',H4,I4,r4,q4⟩=>aY (ho' pz s4 σ H4 y z' u w' _ I4 r2 r4 q4) fun d' s5 ⟨z2,H5,I5,r5,k2,e2,q5⟩=>?_))
  subst e2
  cases r5
  exact wpAny_truthy_bool ⟨H5,I5,q5⟩
def l6 (K:W.Frag) (x:V) (H:Hp) (k:Bool):Prop:=
 match x with
 | .non=>k=false
 | .bl b=>k=b
 | .int i=>k=(i != 0)
 | .str y=>y.length<=sizeLine/\k=((y.length:Int) != 0)
 | .byt y=>y.size<=sizeLine/\k=((y.size:Int) != 0)
 | .ref p=>(∃xs,aZ K H p xs/\k = ! xs.isEmpty)\/(∃xs,ck K H p xs/\k = ! xs.isEmpty)\/∃kvs,Rd H p (.dK kvs)/\k = ! kvs.isEmpty
 | _=>False
theorem Kn {κ:Type} {kvs:List (κ × V)} {vs:List (κ × Value)} (r:KV kvs vs):(! vs.isEmpty) = ! kvs.isEmpty:=by
 cases r <;> rfl
theorem Cf {xs:List V} {its:List Value} (r:ap xs its):(! its.toArray.isEmpty) = ! xs.isEmpty:=by
 cases r <;> simp
theorem mG:(sizeLine:Nat) < 2 ^ 63:=by rw [sizeLine_eq]; decide
theorem FZ:yp X (fun x H Q=>∃k,l6 X.K x H k/\Q k H):=by
 intro pz s σ H x v Q I rx h
 obtain ⟨k,e,q⟩:=h
 have hl:=mG
 have hs:sizeLine=16777216:=sizeLine_eq
 cases x with
 | non=>
  cases rx
  have e':k=false:=e
  subst e'
  exact truthy_none ⟨H,I,q⟩
 | bl b=>
  cases rx
  have e':k=b:=e
  subst e'
  exact wpAny_truthy_bool ⟨H,I,q⟩
 | int i=>
  obtain ⟨t,rfl⟩:=rx
  have e':k=(i != 0):=e
  subst e'
  exact PySem.P.truthy_int ⟨H,I,q⟩
 | str y=>
  obtain ⟨t,rfl⟩:=rx
  obtain ⟨hy,e'⟩:y.length<=sizeLine/\k=((y.length:Int) != 0):=e
  subst e'
  exact PySem.P.truthy_str (by omega) ⟨H,I.tok _,q⟩
 | byt y=>
  obtain ⟨t,rfl⟩:=rx
  obtain ⟨hy,e'⟩:y.size<=sizeLine/\k=((y.size:Int) != 0):=e
  subst e'
  exact W.truthy_bytes (by omega) ⟨H,I.tok _,q⟩
 | ref p=>
  cases rx
  have e':(∃xs,aZ X.K H p xs/\k = ! xs.isEmpty)\/(∃xs,ck X.K H p xs/\k = ! xs.isEmpty)\/∃kvs,Rd H p (.dK kvs)/\k = ! kvs.isEmpty:=e
  rcases e' with ⟨xs,hx,e'⟩ | ⟨xs,hx,e'⟩ | ⟨kvs,hx,e'⟩
  ·subst e'
   obtain ⟨its,r,pl,hz⟩:=I.list hx
   have hlen:=r.length
   exact wpAny_truthy_list pl.isList (by simp only [List.size_toArray]; omega) ⟨H,I.tok _,by rw [Cf r]; exact q⟩
  ·subst e'
   obtain ⟨its,r,pl,hz⟩:=I.tuple hx
   have hlen:=r.length
   exact truthy_tuple pl (by simp only [List.size_toArray]; omega) ⟨H,I.tok _,by rw [Cf r]; exact q⟩
  ·subst e'
   obtain ⟨hz,hS,vs,r,m⟩:kvs.length<=sizeLine/\(p == sysModules)=false/\∃vs,KV kvs vs/\s.heap.DictOf (fY X.prog X.w) p vs:=hx.ok I.hok
   have hlen:kvs.length=vs.length:=Paired.length r
   exact wpAny_truthy_dict hS m (by omega) ⟨H,I.tok _,by rw [Kn r]; exact q⟩
 | _=>exact (show False from e).elim
theorem Iq (ha:PE X a ta) (he:∀whole,isTrue a X.env whole=(do let v <-whole; standAt a.pos; holding [v] (truthy v))) :
  PT X a (fun σ H Q=>ta σ H fun x H'=>∃k,l6 X.K x H' k/\Q k H'):=by
 intro pz s σ H Q I h
 exact isTrue_plain (aY (ha pz s σ H _ I h) fun v s1 ⟨x,H1,I1,r1,q1⟩=>FZ pz s1 σ H1 x v Q I1 r1 q1) (he _)
theorem Cg:bi X (binaryOp .Add) (fun x y H Q=>∃i j,x=.str i/\y=.str j/\i.length + j.length<=sizeLine/\Q (.str (i++j)) H):=by
 intro pz s σ H x y v u Q I rx ry h
 obtain ⟨i,j,rfl,rfl,hz,q⟩:=h
 obtain ⟨t,rfl⟩:=rx
 obtain ⟨t',rfl⟩:=ry
 exact add_str (fun t' tk=>⟨.str (i++j),H,I.tok _,⟨_,rfl⟩,q⟩) hz
theorem fL {x:V} {us:List Value} (r:ap [x] us):∃u,us=[u]/\aw x u:=by
 cases r with
 | cons r1 r2=>cases r2; exact ⟨_,rfl,r1⟩
theorem sB {x y:V} {us:List Value} (r:ap [x,y] us):∃u w',us=[u,w']/\aw x u/\aw y w':=by
 cases r with
 | cons r1 r2=>
  cases r2 with
  | cons r3 r4=>cases r4; exact ⟨_,_,rfl,r1,r3⟩
theorem Jc:dH X (.builtin "abs") (fun xs H Q=>∃i,xs=[.int i]/\Q (.int (if i < 0 then -i else i)) H):=by
 intro pz s σ H xs us Q I r h
 obtain ⟨i,rfl,q⟩:=h
 obtain ⟨u,rfl,t,rfl⟩:=fL r
 exact call_abs_int fun u tk=>⟨.int (if i < 0 then -i else i),H,I.tok _,⟨_,rfl⟩,q⟩
def pC (K:W.Frag) (x:V) (H:Hp) (n:Nat):Prop:=
 match x with
 | .str y=>y.length<=sizeLine/\n=y.length
 | .byt y=>y.size<=sizeLine/\n=y.size
 | .ref p=>(∃xs,aZ K H p xs/\n=xs.length)\/∃xs,ck K H p xs/\n=xs.length
 | _=>False
theorem Jg:dH X (.builtin "len") (fun xs H Q=>∃x n,xs=[x]/\pC X.K x H n/\Q (.int n) H):=by
 intro pz s σ H xs us Q I r h
 obtain ⟨x,n,rfl,e,q⟩:=h
 obtain ⟨u,rfl,rx⟩:=fL r
 have hl:=mG
 have hs:sizeLine=16777216:=sizeLine_eq
 cases x with
 | str y=>
  obtain ⟨t,rfl⟩:=rx
  obtain ⟨hy,e'⟩:y.length<=sizeLine/\n=y.length:=e
  subst e'
  exact len_str (by omega) ⟨.int _,H,I.tok _,⟨_,rfl⟩,q⟩
 | byt y=>
  obtain ⟨t,rfl⟩:=rx
  obtain ⟨hy,e'⟩:y.size<=sizeLine/\n=y.size:=e
  subst e'
  exact W.len_bytes (by omega) ⟨.int _,H,I.tok _,⟨_,rfl⟩,q⟩
 | ref p=>
  cases rx
  have e':(∃xs,aZ X.K H p xs/\n=xs.length)\/∃xs,ck X.K H p xs/\n=xs.length:=e
  rcases e' with ⟨xs,hx,e'⟩ | ⟨xs,hx,e'⟩
  ·subst e'
   obtain ⟨its,r',pl,hz⟩:=I.list hx
   have hlen:=r'.length
   exact Calls.call_len_list pl.isList (by simp only [List.size_toArray]; omega) ⟨.int xs.length,H,I.tok _,⟨_,by simp only [List.size_toArray]; rw [hlen]⟩,q⟩
  ·subst e'
   obtain ⟨its,r',pl,hz⟩:=I.tuple hx
   have hlen:=r'.length
   exact len_tuple pl (by simp only [List.size_toArray]; omega) ⟨.int xs.length,H,I.tok _,⟨_,by simp only [List.size_toArray]; rw [hlen]⟩,q⟩
 | _=>exact (show False from e).elim
end
structure ObjM (h:Heap) (x dx C:Addr) (mA:Str->Option Value):Prop where
 obj:h.get? x=some (W.instObj C dx)
 ns:h.Ns1 dx mA
 ne:dx≠x
theorem dB.some_of {v:V} {o:Option Value} (r:dB (some v) o):∃u,o=some u/\aw v u:=by
 cases o with
 | none=>exact (show False from r).elim
 | some u=>exact ⟨u,rfl,r⟩
structure Cls (K:W.Frag) (C:Addr):Prop where
 pg:W.plainGet K C Str.empty=true
 hd:W.hasDictIn K C=true
 po:W.plainOver K C=true
 sa:W.findIn K (.ref C) "__setattr__" = some (some (.builtin "object.__setattr__"))
theorem Cls.get {K:W.Frag} {C:Addr} (c:Cls K C) (f:Str):W.plainGet K C f=true:=c.pg
structure Con (K:W.Frag) (C:Addr) (f:Str) (v:V) (u:Value):Prop where
 at_:W.findIn K (.ref C) f=some (some u)
 rel:aw v u
 get:W.specialIn K u "__get__" = some none
 cp:W.copiedNames.contains f=false
structure Meth (K:W.Frag) (C:Addr) (m:Str) (f:Addr):Prop where
 at_:W.findIn K (.ref C) m=some (some (.ref f))
 fn:W.isFn K (.ref f)=true
 kp:W.keepIn K (.ref f)=true
section
variable {X:Cx} {pz:List (Addr × Obj)} {σ:Ml} {H:Hp} {s:Shared} {A:Around} {E:Value->Shared->Prop} {Q:Value->Shared->Prop} {c:Value} {b:Bool}
inductive TyOf (K:W.Frag) (H:Hp):V->Value->Prop where
 | non:TyOf K H .non (.type "NoneType")
 | bl (x:Bool):TyOf K H (.bl x) (.type "bool")
 | int (i:Int):TyOf K H (.int i) (.type "int")
 | str (x:Str):TyOf K H (.str x) (.type "str")
 | flt (x:UInt64):TyOf K H (.flt x) (.type "float")
 | lst {a:Addr} {xs:List V} (e:H a=some (.lst xs)):TyOf K H (.ref a) (.type "list")
 | frz {a:Addr} {o:Obj} {xs:List V} (e:H a=some (.frz o (.lst xs))):TyOf K H (.ref a) (.type "list")
 | tup {a:Addr} {xs:List V} (e:H a=some (.tup xs)):TyOf K H (.ref a) (.type "tuple")
 | dK {a:Addr} {kvs:List (aD × V)} (e:H a=some (.dK kvs)):TyOf K H (.ref a) (.type "dict")
 | dT {a:Addr} {kvs:List (List aD × V)} (e:H a=some (.dT kvs)):TyOf K H (.ref a) (.type "dict")
 | ins {a C dx:Addr} {fs:List (Str × V)} (e:H a=some (.ins C dx fs)) (cl:Cls K C) (ha:W.findIn K (.ref C) "__class__" = some (some (.builtin "object.__class__")))
   (hn:W.specialIn K (.builtin "object.__class__") "__get__" = some (some (.builtin "getset_descriptor.__get__"))) (htk:W.takesIn K (.builtin "object.__class__")=some true)
   (hm:W.mroIn K C (.type "object")=some true):TyOf K H (.ref a) (.ref C)
end
structure Room (k:Nat) (A:Around):Prop where
 hd:A.handled=none
 dp:A.depth + 3 * k + 5 < recursionLimit
 un:A.units + 16 * k + 200 < cLine
 gd:A.guards=some []
theorem Room.mono {j k:Nat} {A:Around} (r:Room k A) (h:j<=k):Room j A:=⟨r.hd,by have:=r.dp; omega,by have:=r.un; omega,r.gd⟩
theorem Room.deeper {k:Nat} {A:Around} (r:Room (k + 1) A) (env:Env):Room k (A.deeper env):=
 ⟨r.hd,by have:=r.dp; show A.depth + 1 + 3 * k + 5 < _; omega,by have:=r.un; show A.units + 3 + 16 * k + 200 < _; omega,r.gd⟩
theorem Room.depth {k:Nat} {A:Around} (r:Room k A):A.depth < recursionLimit:=by have:=r.dp; omega
theorem Room.units {k:Nat} {A:Around} (r:Room k A):A.units + 64 < cLine:=by have:=r.un; omega
def xK:TA:=fun _ H Q=>Q [] H
def Ew (ta:TE) (tr:TA):TA:=fun σ H Q=>ta σ H fun x H1=>tr σ H1 fun xs H2=>Q (x::xs) H2
section
variable {X:Cx} {e:Expr} {es:List Expr} {te:TE} {t:TA} {pos:Pos}
theorem iV:PA X [] xK:=fun _ _ _ _ H Q I h=>Calls.spliced_nil ⟨[],H,I,.nil,h⟩
theorem gM (ha:PE X e te) (hr:PA X es t) (hs:starEach (e::es) X.env=(false,eval e X.env)::starEach es X.env:=by rfl):PA X (e::es) (Ew te t):=by
 intro pos pz s σ H Q I h
 rw [hs]
 show wpAny _ _ (spliced ((false,eval e X.env)::backTo pos (starEach es X.env))) _ _ s
 refine Calls.spliced_cons (aY (ha pz s σ H _ I h) fun u s1 ⟨x,H1,I1,r1,q1⟩=>?_)
 exact aY (hr pos pz s1 σ H1 _ I1 q1) fun us s2 ⟨xs,H2,I2,r2,q2⟩=>⟨x::xs,H2,I2,.cons r1 r2,q2⟩
def xF (t:TA):TE:=fun σ H Q=>t σ H fun xs H1=>xs.length<=sizeLine/\∀p,H1 p=none->Q (.ref p) (upd H1 p (.tup xs))
def xL (t:TA):TE:=fun σ H Q=>t σ H fun xs H1=>xs.length<=sizeLine/\∀p,H1 p=none->Q (.ref p) (upd H1 p (.lst xs))
theorem E8 {x1} (h:PA X es t):PE X (.Tuple es x1 pos) (xF t):=by
 intro pz s σ H Q I hq
 refine wpAny_Tuple_spliced (aY (h pos pz s σ H _ I hq) fun us s1 ⟨xs,H1,I1,r,z,q⟩=>⟨by rw [<-r.length]; exact z,?_⟩)
 have hf:H1 s1.heap.objs.size=none:=I1.hok.fresh (Nat.le_refl _)
 refine ⟨.ref s1.heap.objs.size,upd H1 s1.heap.objs.size (.tup xs),I1.laid (t':=s1.toks) (fun b u e=>Heap.get?_push_of_some _ e) (Nat.le_refl _) ?_,rfl,q _ hf⟩
 exact ⟨z,us,r,⟨_,Heap.get?_push_size _ rfl,rfl,_,rfl⟩,_,Heap.get?_push_size _ rfl,rfl⟩
theorem E4 (h:PA X es t):PE X (.List es pos) (xL t):=by
 intro pz s σ H Q I hq
 refine wpAny_List_spliced (aY (h pos pz s σ H _ I hq) fun us s1 ⟨xs,H1,I1,r,z,q⟩=>⟨by rw [<-r.length]; exact z,?_⟩)
 have hf:H1 s1.heap.objs.size=none:=I1.hok.fresh (Nat.le_refl _)
 refine ⟨.ref s1.heap.objs.size,upd H1 s1.heap.objs.size (.lst xs),I1.laid (t':=s1.toks) (fun b u e=>Heap.get?_push_of_some _ e) (Nat.le_refl _) ?_,rfl,q _ hf⟩
 exact ⟨z,us,0,r,Heap.get?_push_size _ rfl⟩
end
abbrev Sp:=List V->Hp->VK->XK->Prop
abbrev iz:=List Env->Hp->Shared->XK->Value->Shared->Prop
structure Env0 (P:Program) (w:World) (K:W.Frag) (mg:Str->Option Value) (base:Heap) (A:Around) (outer:List Env) (s:Shared) (H:Hp):Prop where
 frames:A.frames=some outer
 mod:Mod K mg base
 bs:∀b o,base.get? b=some o->s.heap.get? b=some o/\H b=none
 bsz:base.objs.size<=s.heap.objs.size
 funs:s.heap.FunFrames base outer
 frf:∀b∈gU outer,H b=none
 hok:cG P w H s.heap
 bare:AllBare s.gens
def CE (outer:List Env) (P:Program) (w:World) (H:Hp) (s:Shared) (Q:VK) (u:Value) (s':Shared):Prop:=
 ∃v H',s'.os=s.os/\AllBare s'.gens/\Un (gU outer) [] H H' s.heap s'.heap/\cG P w H' s'.heap/\aw v u/\Q v H'
def CR (CX:iz) (outer:List Env) (P:Program) (w:World) (H:Hp) (s:Shared) (Q:VK) (E:XK) (r:Result) (s':Shared):Prop:=
 match r with
 | .ok (.ret u)=>CE outer P w H s Q u s'
 | .ok _=>False
 | .error e=>CX outer H s E e s'
structure FnOk (P:Program) (w:World) (K:W.Frag) (mg:Str->Option Value) (base:Heap) (CX:iz) (k:Nat) (f:Addr) (fd:FuncData) (ps:List Str) (sp:Sp):Prop where
 len:∀vs H Q E,sp vs H Q E->vs.length=ps.length
 run:∀(A:Around) (outer:List Env) (s:Shared) (H:Hp) (args:Args) (us:List Value) (vs:List V) (Q:VK) (E:XK),Room k A->Env0 P w K mg base A outer s H->BindsTo s fd args (ps.zip us)->ap vs us->sp vs H Q E ->
  codeAny (model P w) A (.call (.ref f) args) (CR CX outer P w H s Q E) s
theorem FnOk.mono {P:Program} {w:World} {K:W.Frag} {mg:Str->Option Value} {base:Heap} {CX:iz} {j k:Nat} {f:Addr} {fd:FuncData} {ps:List Str} {sp:Sp} (F:FnOk P w K mg base CX j f fd ps sp) (h:j<=k) :
  FnOk P w K mg base CX k f fd ps sp:=⟨F.len,fun A outer s H args us vs Q E hr=>F.run A outer s H args us vs Q E (hr.mono h)⟩
section
variable {X:Cx} {pz:List (Addr × Obj)} {σ:Ml} {H:Hp} {s s':Shared}
theorem Inv.env0 (I:Inv X pz σ H s):Env0 X.prog X.w X.K X.mg X.base X.A X.stack s H:=
 ⟨I.ok.frames,I.ok.mod,I.bs,Nat.le_trans I.ok.bsz I.sz,I.stack,I.stkFree,I.hok,I.bare⟩
theorem Inv.after {Q:VK} {u:Value} (I:Inv X pz σ H s) (h:CE X.stack X.prog X.w H s Q u s'):EP X pz σ Q u s':=by
 obtain ⟨v,H',os,bare,un,hok,r,q⟩:=h
 obtain ⟨hh,g,d,t,os'⟩:=s'
 obtain rfl:os'=s.os:=os
 exact ⟨v,H',I.call (h':=hh) (g':=g) (d':=d) (t':=t) (ch:=[]) un hok bare (fun b z=>absurd z (by simp)),r,q⟩
end
def Ev (sp:Sp) (dvs:List V) (E:XK) (t:TA):TE:=fun σ H Q=>t σ H fun vs H1=>sp (vs++dvs) H1 Q E
def jt (K:W.Frag) (fd:FuncData) (ps:List Str) (ds:List Value):Prop:=
 ∀(s:Shared) (us:List Value),K.In s.heap->(us++ds).length=ps.length->BindsTo s fd ⟨us,[]⟩ (ps.zip (us++ds))
theorem jt.all {K:W.Frag} {fd:FuncData} {ps:List Str} (h:∀us:List Value,us.length=ps.length->bindArgs fd ⟨us,[]⟩=pure (ps.zip us)):jt K fd ps []:=fun s us _ hl=>by
 rw [List.append_nil] at hl ⊢
 exact .of_eq (h us hl)
def sK (CX:iz) (X:Cx) (E:XK):Prop:=∀(pz:List (Addr × Obj)) (σ:Ml) (H:Hp) (s:Shared) (e:Value) (s':Shared),Inv X pz σ H s->CX X.stack H s E e s'->X.xe e s'
section
variable {X:Cx} {CX:iz} {k:Nat} {f C:Addr} {fd:FuncData} {ps:List Str} {sp:Sp} {dvs:List V} {ds:List Value} {E:XK} {x m:Str} {p pos apos:Pos} {e o:Expr} {es:List Expr} {ta:TE} {t:TA}
theorem GJ {pz:List (Addr × Obj)} {σ:Ml} {H:Hp} {s:Shared} {Q:VK} {us:List Value} {vs:List V} (F:FnOk X.prog X.w X.K X.mg X.base CX k f fd ps sp) (hr:Room k X.A) (hb:jt X.K fd ps ds) (hd:ap dvs ds) (hx:sK CX X E)
  (I:Inv X pz σ H s) (r:ap vs us) (h:sp (vs++dvs) H Q E):wpAny (model X.prog X.w) X.A (call (.ref f) us) (EP X pz σ Q) X.xe s:=by
 have r2:ap (vs++dvs) (us++ds):=r.append hd
 have hl:(us++ds).length=ps.length:=by rw [<-r2.length]; exact F.len _ _ _ _ h
 refine wpAny_call (codeAny_mono (F.run X.A X.stack s H ⟨us,[]⟩ (us++ds) (vs++dvs) Q E hr I.env0 (hb s us I.kIn hl) r2 h) fun r s' hq=>?_)
 cases r with
 | error e=>exact hx pz σ H s e s' I hq
 | ok fl=>
  cases fl with
  | ret u=>exact I.after hq
  | next=>exact False.elim hq
  | brk=>exact False.elim hq
  | cont=>exact False.elim hq
theorem GK (F:FnOk X.prog X.w X.K X.mg X.base CX k f fd ps sp) (hr:Room k X.A) (hg:Gl X x) (hm:X.mg x=some (.ref f)) (hk:W.keepIn X.K (.ref f)=true) (hb:jt X.K fd ps ds) (hd:ap dvs ds) (hx:sK CX X E)
  (ha:PA X (e::es) t) (hdb:(x == ("__debug__" : Str))=false:=by decide) (he:starEach (e::es) X.env=(false,eval e X.env)::starEach es X.env:=by rfl) (hpl:(backTo pos (starEach es X.env)).any (·.1)=false:=by rfl) :
  PE X (.Call (.Name x p) (e::es) [] pos) (Ev sp dvs E t):=by
 intro pz s σ H Q I h
 refine wpAny_Call_Name_kw (Az I hg hm ?_ hdb)
 refine W.callWith_K (h₀:=X.base) I.ok.mod.kin hk (aY (ha pos pz s σ H _ I h) fun us s1 ⟨vs,H1,I1,r,q⟩=>⟨I1.kIn,?_⟩) he hpl
 exact GJ F hr hb hd hx I1 r q
structure Mk (K:W.Frag) (C f:Addr):Prop where
 makes:W.makesIn K C=true
 init:W.findIn K (.ref C) "__init__" = some (some (.ref f))
 fn:W.isFn K (.ref f)=true
 kp:W.keepIn K (.ref C)=true
end
section
variable {X:Cx} {CX:iz} {k:Nat} {f C:Addr} {fd:FuncData} {ps ks:List Str} {sp:Sp} {E:XK} {x m:Str} {p pos apos kpos:Pos} {e o:Expr} {es:List Expr} {kws:List Keyword} {te ta:TE} {t tk:TA} {nm:Option Str}
structure KBinds (K:W.Frag) (fd:FuncData) (ps ks:List Str) (g:List Value->List Value->List Value) (gV:List V->List V->List V):Prop where
 to:∀(s:Shared) (us ws:List Value),K.In s.heap->(g us ws).length=ps.length->BindsTo s fd ⟨us,ks.zip ws⟩ (ps.zip (g us ws))
 rel:∀{vs:List V} {us:List Value} {zs:List V} {ws:List Value},ap vs us->ap zs ws->ap (gV vs zs) (g us ws)
variable {g:List Value->List Value->List Value} {gV:List V->List V->List V}
end
structure FnScope (N P:List Str) (sc:Scope):Prop where
 kind:sc.kind=.function
 co:sc.isCoroutine=false
 gen:sc.isGenerator=false
 nd:N.Nodup
 pre:N.take P.length=P
 par:∀x∈P,sc.names.lookup x=some .local\/sc.names.lookup x=some .cell
 nofree:∀y∈sc.names,y.2≠.free
theorem BI {kindOf:Str->Option NameKind} {x:Str}:∀{binds:List (Str × Value)} {m:Str->Option Value},(∀v,(x,v)∉binds)->bindL kindOf binds m x=m x
 | [],_,_=>rfl
 | (n,v)::r,m,h=>by
  unfold bindL
  rw [BI fun w hw=>h w (List.mem_cons_of_mem _ hw)]
  split
  ·have:x≠n:=by rintro rfl; exact h v List.mem_cons_self
   simp [this]
  ·rfl
theorem BG {kindOf:Str->Option NameKind} {x:Str}:∀{binds:List (Str × Value)} {m:Str->Option Value},(∀v,(x,v)∉binds)->bindC kindOf binds m x=m x
 | [],_,_=>rfl
 | (n,v)::r,m,h=>by
  unfold bindC
  rw [BG fun w hw=>h w (List.mem_cons_of_mem _ hw)]
  split
  ·rfl
  ·have:x≠n:=by rintro rfl; exact h v List.mem_cons_self
   simp [this]
theorem BH {kindOf:Str->Option NameKind} {x:Str} {v:Value}:∀{P:List Str} {vs:List Value} {i:Nat} {m:Str->Option Value},P.Nodup->P[i]? = some x->vs[i]? = some v->kindOf x=some .local ->
  bindL kindOf (P.zip vs) m x=some v
 | [],_,_,_,_,h,_,_=>by simp at h
 | _::_,[],_,_,_,_,h,_=>by simp at h
 | p::P,w::vs,0,m,nd,h1,h2,hk=>by
  simp at h1 h2; subst h1; subst h2
  show bindL kindOf ((p,w)::P.zip vs) m p=_
  unfold bindL
  rw [BI fun v hv=>(List.nodup_cons.mp nd).1 (List.of_mem_zip hv).1,if_pos hk]
  simp
 | p::P,w::vs,i + 1,m,nd,h1,h2,hk=>by
  show bindL kindOf ((p,w)::P.zip vs) m x=_
  unfold bindL
  exact BH (i:=i) (List.nodup_cons.mp nd).2 (by simpa using h1) (by simpa using h2) hk
theorem BF {kindOf:Str->Option NameKind} {x:Str} {v:Value}:∀{P:List Str} {vs:List Value} {i:Nat} {m:Str->Option Value},P.Nodup->P[i]? = some x->vs[i]? = some v->kindOf x≠some .local ->
  bindC kindOf (P.zip vs) m x=some v
 | [],_,_,_,_,h,_,_=>by simp at h
 | _::_,[],_,_,_,_,h,_=>by simp at h
 | p::P,w::vs,0,m,nd,h1,h2,hk=>by
  simp at h1 h2; subst h1; subst h2
  show bindC kindOf ((p,w)::P.zip vs) m p=_
  unfold bindC
  rw [BG fun v hv=>(List.nodup_cons.mp nd).1 (List.of_mem_zip hv).1,if_neg hk]
  simp
 | p::P,w::vs,i + 1,m,nd,h1,h2,hk=>by
  show bindC kindOf ((p,w)::P.zip vs) m x=_
  unfold bindC
  exact BF (i:=i) (List.nodup_cons.mp nd).2 (by simpa using h1) (by simpa using h2) hk
def bV (N:List Str) (vs:List V):Ml:=vs.map some++List.replicate (N.length - vs.length) none
def aU (CX:iz) (P:Program) (w:World) (K:W.Frag) (mg:Str->Option Value) (base:Heap) (N:List Str) (qual:Str) (scope:Scope) (f:Addr) (cd:Value) (A:Around) (outer:List Env) (s:Shared) (H:Hp) (E:XK):Cx where
 prog:=P
 w:=w
 K:=K
 mg:=mg
 base:=base
 A:=A.deeper (envOfC qual scope s.heap.objs.size f cd)
 N:=N
 s₀:=s
 H₀:=H
 env:=envOfC qual scope s.heap.objs.size f cd
 outer:=outer
 stack:=envOfC qual scope s.heap.objs.size f cd::outer
 ex:=[]
 calm:=true
 fn:=fun _=>true
 pn:=[]
 xe:=fun e s'=>wpAny (model P w) (A.deeper (envOfC qual scope s.heap.objs.size f cd)) (leaving (envOfC qual scope s.heap.objs.size f cd) e) (fun _ s''=>CX outer H s E e s'') (fun e' s''=>CX outer H s E e' s'') s'
theorem Bl {sc:Scope} {n:Nat} {x:Str} (h:sc.names.lookup x=some .cell):∃c,(cellsFrom n sc.names []).lookup x=some c:=by
 have q:=W.cellsFrom_some sc.names n [] (.inl h)
 exact Option.isSome_iff_exists.mp q
theorem Kd {CX:iz} {P:Program} {w:World} {K:W.Frag} {mg:Str->Option Value} {base:Heap} {N ps:List Str} {qual:Str} {scope:Scope} {f:Addr} {cd:Value} {A:Around} {outer:List Env} {s s1:Shared} {H:Hp} {E:XK} {us:List Value} {vs:List V}
  (S:FnScope N ps scope) (hd:A.handled=none) (e0:Env0 P w K mg base A outer s H) (hl:vs.length=ps.length) (r:ap vs us)
  (x:InCallC s s.heap.objs.size (bindL (envOfC qual scope s.heap.objs.size f cd).kindOf (ps.zip us) fun _=>none) (cellsFrom (s.heap.objs.size + 1) scope.names []) (bindC (envOfC qual scope s.heap.objs.size f cd).kindOf (ps.zip us) fun _=>none) s1) :
  Inv (aU CX P w K mg base N qual scope f cd A outer s H E) [] (bV N vs) H s1:=by
 have hpl:ps.length<=N.length:=by have:=congrArg List.length S.pre; rw [List.length_take] at this; omega
 obtain ⟨h1,tk,rfl,hk⟩:=x.done
 have noA:∀b:Addr,b∉(aU CX P w K mg base N qual scope f cd A outer s H E).ex:=fun b z=>absurd (show b∈([]:List Addr) from z) (by simp)
 refine ⟨⟨e0.mod,S.kind,rfl,rfl,Nat.le_refl _,fun y z c h1 h2=>?_,fun y hy=>?_,fun y c _ h=>?_,fun _=>hd,Around.frames_deeper e0.frames,.inr ⟨rfl,rfl⟩,fun b z=>absurd z (noA b),e0.bs,e0.bsz,fun b _ _=>noA b,fun b z=>absurd z (noA b),e0.funs,e0.frf⟩,
  rfl,e0.bare,Un.kept hk,⟨_,x.toInCall.ns,fun i y v h1 h2 h3=>?_⟩,fun y c h=>⟨_,x.cell y c h⟩,e0.hok.fresh (Nat.le_refl _),fun y c h=>?_,fun p hp=>absurd (show p∈([]:List (Addr × Obj)) from hp) (by simp),e0.hok.kept hk,?_⟩
 ·exact name_of_addr x.apart (PySem.mem_of_lookup h1) (PySem.mem_of_lookup h2)
 ·have hy:scope.names.lookup y=some .cell\/scope.names.lookup y=some .free:=hy
  rcases hy with hy | hy
  ·exact Bl hy
  ·exact absurd rfl (S.nofree _ (PySem.mem_of_lookup hy))
 ·exact Nat.le_of_lt (x.above y c (PySem.mem_of_lookup h))
 ·have hi:i < vs.length:=by
   unfold bV at h2
   by_cases hi:i < vs.length
   ·exact hi
   ·rw [List.getElem?_append_right (by simpa using hi)] at h2
    rw [List.getElem?_replicate] at h2
    split at h2 <;> cases h2
  have ha:vs[i]? = some v:=by
   unfold bV at h2
   rw [List.getElem?_append_left (by simpa using hi),List.getElem?_map] at h2
   cases e:vs[i]? with
   | none=>rw [e] at h2; cases h2
   | some a=>rw [e] at h2; cases h2; rfl
  obtain ⟨u,hu,rv⟩:=r.get ha
  have hp:ps[i]? = some y:=by
   rw [<-S.pre,List.getElem?_take_of_lt (by omega)]; exact h1
  have ndP:ps.Nodup:=by rw [<-S.pre]; exact S.nd.sublist (List.take_sublist _ _)
  refine ⟨u,rv,?_⟩
  rcases S.par y (List.mem_of_getElem? hp) with k | k
  ·exact .inl ⟨k,BH ndP hp hu k⟩
  ·obtain ⟨c,e⟩:=Bl (n:=s.heap.objs.size + 1) k
   refine .inr ⟨.inl k,c,e,?_⟩
   have q:=x.cell y c e
   rw [BF ndP hp hu (by show scope.names.lookup y≠_; rw [k]; decide)] at q
   exact q
 ·exact e0.hok.fresh (Nat.le_of_lt (x.above y c (PySem.mem_of_lookup h)))
 ·unfold bV
  show _=N.length
  rw [List.length_append,List.length_map,List.length_replicate]
  omega
theorem Dv {CX:iz} {P:Program} {w:World} {K:W.Frag} {mg:Str->Option Value} {base:Heap} {k:Nat} {f:Addr} {name qual:Str} {params:Arguments} {body:List Stmt} {scope:Scope} {dV kV doc pm cdv ct oc:Value} {an od:Option Addr}
  {osl:Array (Option Value)} {N ps:List Str} {sp:Sp} (lk:K.lookup f=some ⟨oc,od,.func (W.fnOf name qual params body scope dV kV doc pm an cdv ct),osl⟩) (hcd:W.codeIn K cdv qual=true) (S:FnScope N ps scope)
  (len:∀vs H Q E,sp vs H Q E->vs.length=ps.length)
  (hbody:∀(A:Around) (outer:List Env) (s:Shared) (H:Hp) (vs:List V) (Q:VK) (E:XK),Room k (A.deeper (envOfC qual scope s.heap.objs.size f cdv))->sp vs H Q E ->
   ∃t,cQ (aU CX P w K mg base N qual scope f cdv A outer s H E) body t/\t { nx:=fun _ H'=>Q .non H',rt:=Q } (bV N vs) H) :
  FnOk P w K mg base CX (k + 1) f (W.fnOf name qual params body scope dV kV doc pm an cdv ct) ps sp:=by
 refine ⟨len,fun A outer s H args us vs Q E hr e0 hb r hsp=>?_⟩
 have hl:=len _ _ _ _ hsp
 have KX:K.In s.heap:=e0.mod.kin.keeps fun b o e=>(e0.bs b o e).1
 have lim:s.heap.NoLimit:=e0.mod.nolimit.keeps fun b o e=>(e0.bs b o e).1
 have hkind:∀y∈ps.zip us,scope.names.lookup y.1=some .local\/(scope.names.lookup y.1=some .cell/\((cellsFrom (s.heap.objs.size + 1) scope.names []).lookup y.1).isSome=true):=fun ⟨n,v⟩ hy=>by
  rcases S.par n (List.of_mem_zip hy).1 with q | q
  ·exact .inl q
  ·exact .inr ⟨q,W.cellsFrom_some _ _ _ (.inl q)⟩
 refine codeAny_call_function hr.depth (KX _ _ lk) rfl S.co S.gen rfl (W.codeRec_of KX hcd) (hb _ _ _ _ ?_)
 refine wpAny_newFunctionEnv_cells S.kind hkind fun env he s1 x=>?_
 subst he
 refine ⟨lim.keeps x.toInCall.keep,codeAny_func ?_⟩
 obtain ⟨t,ht,hq⟩:=hbody A outer s H vs Q E (hr.deeper _) hsp
 have I:Inv (aU CX P w K mg base N qual scope f cdv A outer s H E) [] (bV N vs) H s1:=Kd S hr.hd e0 hl r x
 refine wpAny_mono (ht [] s1 (bV N vs) H _ I hq) (fun fl s' hs=>?_) fun e s' hs=>hs
 have fin:∀{σ':Ml} {H':Hp} {v:V} {u:Value},Inv (aU CX P w K mg base N qual scope f cdv A outer s H E) [] σ' H' s'->aw v u->Q v H'->CE outer P w H s Q u s':=
  fun {σ' H' v u} J rv q=>⟨v,H',J.os,J.bare,J.base,J.hok,rv,q⟩
 cases fl with
 | ret u=>
  obtain ⟨v,σ',H',J,rv,q⟩:=hs
  exact fin J rv q
 | next=>
  obtain ⟨σ',H',J,q⟩:=hs
  exact fin (v:=V.non) (u:=Value.none) J rfl q
 | brk=>
  obtain ⟨_,_,_,q⟩:=hs
  exact False.elim q
 | cont=>
  obtain ⟨_,_,_,q⟩:=hs
  exact False.elim q
section
variable {X:Cx} {x:Str} {p pos:Pos} {e:Expr} {es:List Expr} {t:TA} {id T:String} {r:List V->Hp->VK->Prop}
def rQ (r:List V->Hp->VK->Prop) (t:TA):TE:=fun σ H Q=>t σ H fun vs H1=>r vs H1 Q
theorem lA (hc:dH X (.builtin id) r) (hg:Gl X x) (hm:X.mg x=none) (hv:bootBuiltins x=some (.builtin id)) (ha:PA X (e::es) t) (hn:x≠"__name__" := by decide) (hdb:(x == ("__debug__" : Str))=false:=by decide)
  (he:starEach (e::es) X.env=(false,eval e X.env)::starEach es X.env:=by rfl) (hpl:(backTo pos (starEach es X.env)).any (·.1)=false:=by rfl):PE X (.Call (.Name x p) (e::es) [] pos) (rQ r t):=by
 intro pz s σ H Q I h
 refine wpAny_Call_Name_kw (mE I hg hm hv ?_ hn hdb)
 exact PyProof.Rows.callWith_builtin1 (aY (ha pos pz s σ H _ I h) fun us s1 ⟨vs,H1,I1,r1,q1⟩=>hc pz s1 σ H1 vs us Q I1 r1 q1) he hpl
theorem kN (hc:dH X (.type T) r) (hg:Gl X x) (hm:X.mg x=none) (hv:bootBuiltins x=some (.type T)) (ha:PA X (e::es) t) (hn:x≠"__name__" := by decide) (hdb:(x == ("__debug__" : Str))=false:=by decide)
  (he:starEach (e::es) X.env=(false,eval e X.env)::starEach es X.env:=by rfl) (hpl:(backTo pos (starEach es X.env)).any (·.1)=false:=by rfl):PE X (.Call (.Name x p) (e::es) [] pos) (rQ r t):=by
 intro pz s σ H Q I h
 refine wpAny_Call_Name_kw (mE I hg hm hv ?_ hn hdb)
 exact PyProof.Rows.callWith_type1 (aY (ha pos pz s σ H _ I h) fun us s1 ⟨vs,H1,I1,r1,q1⟩=>hc pz s1 σ H1 vs us Q I1 r1 q1) he hpl
end
end L2
namespace HT
open PySem PyProof.Rows
section
open PySem.SeqAt
open PySem.AutoSeq1 (wpAny_loadPart')
open PySem.MeetsSeq PySem.MeetsSeq2 PySem.MeetsSeq3
end
section
variable {prog:Program} {w:World} {A:Around} {E:Value->Shared->Prop} {s:Shared}
theorem kr {t b:Addr} {vs ws:List Value} {Q:Value->Shared->Prop} (ht:IsTup s.heap t vs.toArray) (hb:IsTup s.heap b ws.toArray) (hv:vs≠[])
  (h1:ws=[]->Q (.ref t) s) (h2:ws≠[]->Q (.ref s.heap.objs.size) { s with heap:=s.heap.push { cls:=.type "tuple",data:=.seq (vs++ws).toArray } })
  (hsz:vs.length + ws.length<=sizeLine):wpAny (model prog w) A (binaryOp .Add (.ref t) (.ref b)) Q E s:=by
 obtain ⟨⟨cls,dd,data,sl⟩,ho,hc,n,hd⟩:=id ht
 obtain ⟨⟨cls2,dd2,data2,sl2⟩,ho2,hc2,n2,hd2⟩:=id hb
 simp only at hc hd hc2 hd2
 subst hc hd hc2 hd2
 have e:vs.toArray++ws.toArray=(vs++ws).toArray:=by simp
 by_cases hw:ws=[]
 ·exact concat_meets ⟨_,ho,rfl⟩ ⟨_,ho2,rfl⟩ noFill_tuple_add seq_tuple_add PySem.F.slot_tuple_add PySem.F.entry_tuple_add (PySem.F.args_tuple_add_2 _ _)
   (tuple_addW1 t b vs.toArray ws.toArray n n2 dd dd2 sl sl2 (by simpa using hv) (by simp [hw])) ⟨ho,ho2,h1 hw⟩
 ·refine concat_meets ⟨_,ho,rfl⟩ ⟨_,ho2,rfl⟩ noFill_tuple_add seq_tuple_add PySem.F.slot_tuple_add PySem.F.entry_tuple_add (PySem.F.args_tuple_add_2 _ _)
   (tuple_addW2 t b vs.toArray ws.toArray n n2 dd dd2 sl sl2 (by simpa using hv) (by simpa using hw) (by rw [List.size_toArray,List.size_toArray]; exact hsz)) ⟨ho,ho2,?_⟩
  rw [e]
  exact h2 hw
def sIx (n d:Nat):Option Int->Nat
 | none=>d
 | some v=>if v < 0 then (v + (n:Int)).toNat else min v.toNat n
theorem bJ (n d:Nat):sIx n d none=d:=rfl
theorem bA (n d k:Nat):sIx n d (some (k:Int))=min k n:=by
 show (if (k:Int) < 0 then ((k:Int) + (n:Int)).toNat else min (k:Int).toNat n)=min k n
 rw [if_neg (by omega),Int.toNat_natCast]
theorem Gm (n d:Nat) (hd:d<=n) (o:Option Int):sIx n d o<=n:=by
 cases o with
 | none=>exact hd
 | some v=>
  show (if v < 0 then (v + (n:Int)).toNat else min v.toNat n)<=n
  by_cases hv:v < 0
  ·rw [if_pos hv]; omega
  ·rw [if_neg hv]; exact Nat.min_le_right _ _
theorem zV (v:Int) (n d:Nat):(if v < 0 then max (v + (n:Int)) 0 else min v (n:Int))=((sIx n d (some v):Nat):Int):=by
 show (if v < 0 then max (v + (n:Int)) 0 else min v (n:Int))=(((if v < 0 then (v + (n:Int)).toNat else min v.toNat n):Nat):Int)
 by_cases hv:v < 0
 ·simp only [if_pos hv]; omega
 ·simp only [if_neg hv]; omega
theorem Kj (lo hi:Option Int) (n:Nat):Builtin.Slice.sliceAdjust lo hi 1 (n:Int)=(((sIx n 0 lo:Nat):Int),((sIx n n hi:Nat):Int)):=by
 have h1:¬ ((1:Int) < 0):=by omega
 unfold Builtin.Slice.sliceAdjust
 simp only [h1,if_false]
 refine Prod.ext ?_ ?_
 ·cases lo with
  | none=>rfl
  | some v=>exact zV v n 0
 ·cases hi with
  | none=>rfl
  | some v=>exact zV v n n
theorem Kq (i j:Nat):Builtin.Slice.slicePlaces (i:Int) (j:Int) 1=j - i:=by
 unfold Builtin.Slice.slicePlaces
 have h1:(1:Int) > 0:=by omega
 simp only [h1,if_true,Int.ediv_one]
 split <;> omega
theorem B4 {v:Value} {o:Option Int} {Q:Option Int->Shared->Prop} (p:IsPart v o) (h:Q o s):wpAny (model prog w) A (Builtin.Slice.slicePartIndex v) Q E s:=by
 cases p with
 | none=>exact slicePart_none h
 | int i t=>exact slicePart_int h
theorem LA {sl:Addr} {vl vu:Value} {lo hi:Option Int} {n:Nat} {Q:Int × Int × Nat->Shared->Prop} (hs:s.heap.IsSliceOf sl vl vu .none) (pl:IsPart vl lo) (pu:IsPart vu hi)
  (h:Q (((sIx n 0 lo:Nat):Int),1,sIx n n hi - sIx n 0 lo) s):wpAny (model prog w) A (Builtin.Slice.sliceApplied (.ref sl) (pure (n:Int))) Q E s:=by
 obtain ⟨os,hos,hcs,hds⟩:=id hs
 unfold Builtin.Slice.sliceApplied Builtin.Slice.sliceFields
 refine wpAny_bind (wpAny_bind (wpAny_field hos hds (x:=vl) rfl (wpAny_bind (wpAny_field hos hds (x:=vu) rfl (wpAny_bind (wpAny_field hos hds (x:=.none) rfl (wpAny_pure ?_)))))))
 refine wpAny_bind (slicePart_none ?_)
 show wpAny _ _ (if ((1:Int) == 0)=true then _ else _) _ _ s
 rw [if_neg (by decide)]
 refine wpAny_bind (B4 pl (wpAny_bind (B4 pu (wpAny_bind (wpAny_pure ?_)))))
 show wpAny _ _ (match Builtin.Slice.sliceAdjust lo hi 1 (n:Int) with | (lo,hi)=>pure (lo,(1:Int),Builtin.Slice.slicePlaces lo hi 1)) _ _ s
 rw [Kj lo hi n]
 show wpAny _ _ (pure (((sIx n 0 lo:Nat):Int),(1:Int),Builtin.Slice.slicePlaces ((sIx n 0 lo:Nat):Int) ((sIx n n hi:Nat):Int) 1)) _ _ s
 rw [Kq]
 exact wpAny_pure h
theorem Ik (xs:Array Value) (i k:Nat):((List.range k).filterMap fun (m:Nat)=>xs[((i:Int) + (m:Int) * 1).toNat]?).toArray=((xs.toList.drop i).take k).toArray:=by
 have e:(fun (m:Nat)=>xs[((i:Int) + (m:Int) * 1).toNat]?)=fun m=>xs[i + m]?:=by
  funext m
  have:((i:Int) + (m:Int) * 1).toNat=i + m:=by omega
  rw [this]
 rw [e]
 have:=pick_run xs i k
 rw [List.filterMap_map] at this
 have e2:((fun x=>xs[x]?) ∘ fun x=>i + x)=fun m=>xs[i + m]?:=rfl
 rw [e2] at this
 rw [this]
theorem c5 {t sl:Addr} {items:Array Value} {vl vu:Value} {lo hi:Option Int} {Q:Value->Shared->Prop} (ht:IsTup s.heap t items) (hs:s.heap.IsSliceOf sl vl vu .none) (pl:IsPart vl lo) (pu:IsPart vu hi)
  (hw:¬ (sIx items.size 0 lo=0/\sIx items.size items.size hi=items.size))
  (h:Q (.ref s.heap.objs.size) { s with heap:=s.heap.push { cls:=.type "tuple",data:=.seq ((items.toList.drop (sIx items.size 0 lo)).take (sIx items.size items.size hi - sIx items.size 0 lo)).toArray } })
  (hsz:items.size<=sizeLine):wpAny (model prog w) A (getItem (.ref t) (.ref sl)) Q E s:=by
 have htake:sizeOk (.seq ((items.toList.drop (sIx items.size 0 lo)).take (sIx items.size items.size hi - sIx items.size 0 lo)).toArray):=by
  show ((items.toList.drop (sIx items.size 0 lo)).take (sIx items.size items.size hi - sIx items.size 0 lo)).toArray.size<=sizeLine
  rw [List.size_toArray,List.length_take,List.length_drop,Array.length_toList]
  omega
 have hj:sIx items.size items.size hi<=items.size:=Gm _ _ (Nat.le_refl _) hi
 obtain ⟨os,hos,hcs,hds⟩:=id hs
 have hTs:s.TypeIs (.ref sl) "slice" := ⟨os,hos,hcs⟩
 unfold getItem
 try with_reducible refine wpAny_holding ?_
 first | refine wpAny_bind (wpAny_pure ?_) | skip
 refine wpAny_bind (wpAny_sequenceKey ht.typeIs (by decide) ?_)
 refine wpAny_bind (wpAny_callSpecial?_slot (name:=Str.ofString "__getitem__") ht.typeIs PyProof.Rows.slot_tuple_getitem
  (wpAny_call_entry PyProof.Rows.slot_tuple_getitem ht.typeIs entry_tuple_getitem ?_ (args_tuple_getitem _ _)))
 show wpAny _ _ (Builtin.Tuple.tupleItemsOf (.ref t) >>= _) _ _ s
 refine wpAny_bind (tupleItemsOf_ ht ?_)
 refine wpAny_bind (wpAny_typeOf hTs ?_)
 rw [if_pos (by decide)]
 refine wpAny_bind (LA hs pl pu ?_)
 have hno:¬ ((((sIx items.size 0 lo:Nat):Int) == 0 && (1:Int) == 1 && (sIx items.size items.size hi - sIx items.size 0 lo) == items.size)=true):=by
  intro q
  rw [Bool.and_eq_true,Bool.and_eq_true] at q
  have q1:((sIx items.size 0 lo:Nat):Int)=0:=eq_of_beq q.1.1
  have q2:sIx items.size items.size hi - sIx items.size 0 lo=items.size:=eq_of_beq q.2
  exact hw ⟨by omega,by omega⟩
 show wpAny _ _ (if (((sIx items.size 0 lo:Nat):Int) == 0 && (1:Int) == 1 && (sIx items.size items.size hi - sIx items.size 0 lo) == items.size)=true then _ else _) _ _ s
 rw [if_neg hno,Ik]
 first
  | exact wpAny_bind (m:=Builtin.Tuple.tupleExact _) (wpAny_newObj_type (wpAny_pure ⟨_,rfl,wpAny_pure h⟩) htake)
  | exact wpAny_bind (m:=Builtin.Tuple.tupleExact _) (wpAny_newObj_type (wpAny_bind (wpAny_pure (wpAny_pure ⟨_,rfl,wpAny_pure h⟩))) htake)
  | exact wpAny_bind (wpAny_bind (m:=Builtin.Tuple.tupleExact _) (wpAny_newObj_type (wpAny_pure (wpAny_pure ⟨_,rfl,wpAny_pure h⟩)) htake))
  | exact wpAny_bind (wpAny_bind (m:=Builtin.Tuple.tupleExact _) (wpAny_newObj_type (wpAny_pure ⟨_,rfl,wpAny_pure h⟩) htake))
end
end HT
namespace L2
open PySem PySem.Spec PyProof.Rows
abbrev TO:=Ml->Hp->(Option Int->Hp->Prop)->Prop
def PO (X:Cx) (e:Option Expr) (t:TO):Prop:=
 ∀(pz:List (Addr × Obj)) (s:Shared) (σ:Ml) (H:Hp) (Q:Option Int->Hp->Prop),Inv X pz σ H s->t σ H Q ->
  wpAny (model X.prog X.w) X.A (evalPart e X.env) (fun u s'=>∃o H',Inv X pz σ H' s'/\IsPart u o/\Q o H') X.xe s
def HY:TO:=fun _ H Q=>Q none H
def EA (t:TE):TO:=fun σ H Q=>t σ H fun x H1=>∃i,x=.int i/\Q (some i) H1
theorem vN {ns:List Int}:∀{us:List Value},ap (ns.map V.int) us->IntsAre us ns:=by
 induction ns with
 | nil=>intro us r; rw [List.map_nil] at r; cases r; exact .nil
 | cons n ns ih=>
  intro us r
  rw [List.map_cons] at r
  cases r with
  | cons r1 r2=>
   obtain ⟨t,e⟩:=r1
   subst e
   exact .cons n t (ih r2)
section
variable {X:Cx} {e:Expr} {te:TE} {lo hi:Option Expr} {tl th:TO} {pos p2:Pos}
theorem GQ:PO X none HY:=by
 intro pz s σ H Q I h
 rw [evalPart_none]
 exact wpAny_pure ⟨none,H,I,.none,h⟩
theorem GR (h:PE X e te):PO X (some e) (EA te):=by
 intro pz s σ H Q I hw
 rw [evalPart_some]
 refine aY (h pz s σ H _ I hw) fun u s1 ⟨x,H1,I1,r1,q1⟩=>?_
 obtain ⟨i,rfl,q⟩:=q1
 obtain ⟨t,rfl⟩:=r1
 exact ⟨some i,H1,I1,.int i t,q⟩
def kY (X:Cx) (r:V->Option Int->Option Int->Hp->VK->Prop):Prop:=
 ∀(pz:List (Addr × Obj)) (s:Shared) (σ:Ml) (H:Hp) (x:V) (v vl vu:Value) (lo hi:Option Int) (sl:Addr) (Q:VK),Inv X pz σ H s->aw x v->s.heap.IsSliceOf sl vl vu .none->IsPart vl lo->IsPart vu hi->r x lo hi H Q ->
  ∃T id,typeLookup (.type T) "__getitem__" = pure (some (.builtin id))/\s.TypeIs v T/\wpAny (model X.prog X.w) X.A (getItem v (.ref sl)) (EP X pz σ Q) X.xe s
theorem kY.or {r r':V->Option Int->Option Int->Hp->VK->Prop} (h:kY X r) (h':kY X r'):kY X (fun x lo hi H Q=>r x lo hi H Q\/r' x lo hi H Q):=by
 intro pz s σ H x v vl vu lo hi sl Q I rx hs pl pu q
 rcases q with q | q
 ·exact h pz s σ H x v vl vu lo hi sl Q I rx hs pl pu q
 ·exact h' pz s σ H x v vl vu lo hi sl Q I rx hs pl pu q
def LQ (r:V->Option Int->Option Int->Hp->VK->Prop) (te:TE) (tl th:TO):TE:=fun σ H Q=>te σ H fun x H1=>tl σ H1 fun l H2=>th σ H2 fun u H3=>r x l u H3 Q
theorem Ii {r:V->Option Int->Option Int->Hp->VK->Prop} (hr:kY X r) (he:PE X e te) (hl:PO X lo tl) (hu:PO X hi th):PE X (.Subscript e (.Slice lo hi none p2) pos) (LQ r te tl th):=by
 intro pz s σ H Q I h
 refine Subscript_ (aY (he pz s σ H _ I h) fun v s1 ⟨x,H1,I1,r1,q1⟩=>?_)
 refine wpAny_Slice (aY (hl pz s1 σ H1 _ I1 q1) fun vl s2 ⟨l,H2,I2,pl,q2⟩=>aY (hu pz s2 σ H2 _ I2 q2) fun vu s3 ⟨u,H3,I3,pu,q3⟩=>?_)
 rw [evalPart_none]
 refine wpAny_pure ?_
 have I4:Inv X pz σ H3 { s3 with heap:=s3.heap.push { cls:=.type "slice",data:=.fields #[vl,vu,.none] } }:=I3.kept (t':=s3.toks) fun b ob q=>Heap.get?_push_of_some _ q
 obtain ⟨T,id,hT,ht,hg⟩:=hr pz { s3 with heap:=s3.heap.push { cls:=.type "slice",data:=.fields #[vl,vu,.none] } } σ H3 x v vl vu l u s3.heap.objs.size Q I4 r1 (Heap.IsSliceOf.new ..) pl pu q3
 show wpAny (model X.prog X.w) X.A (subscriptTail e (.Slice lo hi none p2) v (.ref s3.heap.objs.size)) (EP X pz σ Q) X.xe { s3 with heap:=s3.heap.push { cls:=.type "slice",data:=.fields #[vl,vu,.none] } }
 exact tail_any (ops:=[.ref s3.heap.objs.size,v]) ht hT hg (by with_unfolding_all rfl)
def ir (xs:List V) (lo hi:Option Int):List V:=(xs.drop (HT.sIx xs.length 0 lo)).take (HT.sIx xs.length xs.length hi - HT.sIx xs.length 0 lo)
theorem Cv (xs:List V) (lo hi:Option Int):(ir xs lo hi).length<=xs.length:=by
 unfold ir
 rw [List.length_take,List.length_drop]
 omega
def xX (K:W.Frag):V->Option Int->Option Int->Hp->VK->Prop:=fun x lo hi H Q=>∃a xs,x=.ref a/\ck K H a xs /\
 ¬ (HT.sIx xs.length 0 lo=0/\HT.sIx xs.length xs.length hi=xs.length)/\∀p,H p=none->Q (.ref p) (upd H p (.tup (ir xs lo hi)))
theorem Gw:kY X (xX X.K):=by
 intro pz s σ H x v vl vu lo hi sl Q I rx hs pl pu h
 obtain ⟨a,xs,rfl,hx,hw,q⟩:=h
 cases rx
 obtain ⟨its,r,ht,hz⟩:=I.tuple hx
 have hlen:its.toArray.size=xs.length:=by rw [List.size_toArray]; exact r.length.symm
 refine ⟨"tuple",_,PyProof.Rows.slot_tuple_getitem.lookup,ht.typeIs,?_⟩
 refine HT.c5 ht hs pl pu (by rw [hlen]; exact hw) ?_ (by rw [hlen]; exact hz)
 rw [hlen]
 refine ⟨.ref s.heap.objs.size,_,I.laid (t':=s.toks) (o:=.tup (ir xs lo hi)) (fun b ob q=>Heap.get?_push_of_some _ q) (Nat.le_refl _) ?_,rfl,q _ (I.hok.fresh (Nat.le_refl _))⟩
 exact ⟨Nat.le_trans (Cv xs lo hi) hz,_,(r.drop (HT.sIx xs.length 0 lo)).take (HT.sIx xs.length xs.length hi - HT.sIx xs.length 0 lo),IsTup.new _ _,_,Heap.get?_push_size _ rfl,rfl⟩
def sg (K:W.Frag):R2:=fun x y H Q=>∃a b xs ys,x=.ref a/\y=.ref b/\ck K H a xs/\ck K H b ys/\xs≠[]/\xs.length + ys.length<=sizeLine /\
 (ys=[]->Q (.ref a) H)/\(ys≠[]->∀p,H p=none->Q (.ref p) (upd H p (.tup (xs++ys))))
theorem ap.nil_iff {xs:List V} {us:List Value} (r:ap xs us):us=[]↔xs=[]:=by
 cases r with
 | nil=>simp
 | cons _ _=>simp
theorem AD:bi X (binaryOp .Add) (sg X.K):=by
 intro pz s σ H x y v u Q I rx ry h
 obtain ⟨a,b,xs,ys,rfl,rfl,ha,hb,hx,hz,q1,q2⟩:=h
 cases rx
 cases ry
 obtain ⟨its,r1,p1,_⟩:=I.tuple ha
 obtain ⟨its2,r2,p2,_⟩:=I.tuple hb
 refine HT.kr p1 p2 (fun z=>hx (r1.nil_iff.mp z)) (fun z=>⟨.ref a,H,I,rfl,q1 (r2.nil_iff.mp z)⟩) (fun z=>?_) (by rw [<-r1.length,<-r2.length]; exact hz)
 refine ⟨.ref s.heap.objs.size,_,I.laid (t':=s.toks) (o:=.tup (xs++ys)) (fun b ob q=>Heap.get?_push_of_some _ q) (Nat.le_refl _) ?_,rfl,q2 (fun w=>z (r2.nil_iff.mpr w)) _ (I.hok.fresh (Nat.le_refl _))⟩
 exact ⟨by rw [List.length_append]; exact hz,_,r1.append r2,IsTup.new _ _,_,Heap.get?_push_size _ rfl,rfl⟩
end
def c6 (n:Nat) (i:Int):Option Nat:=if 0<=i then (if i < n then some i.toNat else none) else if -(n:Int)<=i then some (i + n).toNat else none
def eY {α:Type} (xs:List α) (i:Int):Option α:=(c6 xs.length i).bind fun j=>xs[j]?
theorem tR {n:Nat} {i:Int} {j:Nat} (h:c6 n i=some j):seqIndex? i n=some j/\j < n/\-(n:Int)<=i/\i < n:=by
 unfold c6 at h
 by_cases h0:0<=i
 ·rw [if_pos h0] at h
  by_cases h1:i < n
  ·rw [if_pos h1] at h
   have e:i.toNat=j:=Option.some.inj h
   exact ⟨by rw [seqIndex_of h0 h1,e],by omega,by omega,h1⟩
  ·rw [if_neg h1] at h; cases h
 ·rw [if_neg h0] at h
  by_cases h1 : -(n:Int)<=i
  ·rw [if_pos h1] at h
   have e:(i + n).toNat=j:=Option.some.inj h
   exact ⟨by rw [seqIndex_neg (by omega) h1,e],by omega,h1,by omega⟩
  ·rw [if_neg h1] at h; cases h
theorem uA {α:Type} {xs:List α} {i:Int} {v:α} (h:eY xs i=some v):∃j,seqIndex? i xs.length=some j/\xs[j]? = some v/\j < xs.length/\-(xs.length:Int)<=i/\i < xs.length:=by
 unfold eY at h
 cases e:c6 xs.length i with
 | none=>rw [e] at h; cases h
 | some j=>
  rw [e] at h
  obtain ⟨h1,h2,h3,h4⟩:=tR e
  exact ⟨j,h1,h,h2,h3,h4⟩
def nC (b:Expr):Prop:=∀o i,subscripted b false o i=operate [o,i] (getItem o i)
def js (X:Cx) (r:R2):Prop:=
 ∀(value slice:Expr) (pz:List (Addr × Obj)) (s:Shared) (σ:Ml) (H:Hp) (x y:V) (v u:Value) (Q:VK),Inv X pz σ H s->aw x v->aw y u->r x y H Q ->
  subscripted slice false v u=operate [v,u] (getItem v u)->wpAny (model X.prog X.w) X.A (subscriptTail value slice v u) (EP X pz σ Q) X.xe s
def l9 (X:Cx) (id:String) (r:V->List V->Hp->VK->Prop):Prop:=
 ∀(pz:List (Addr × Obj)) (s:Shared) (σ:Ml) (H:Hp) (x:V) (xs:List V) (v:Value) (us:List Value) (Q:VK),Inv X pz σ H s->aw x v->ap xs us->r x xs H Q ->
  wpAny (model X.prog X.w) X.A (call (.builtin id) (v::us)) (EP X pz σ Q) X.xe s
section
variable {X:Cx} {a b:Expr} {ta tb:TE} {pos:Pos}
theorem js.or {r r':R2} (h:js X r) (h':js X r'):js X (fun x y H Q=>r x y H Q\/r' x y H Q):=by
 intro value slice pz s σ H x y v u Q I rx ry q hs
 rcases q with q | q
 ·exact h value slice pz s σ H x y v u Q I rx ry q hs
 ·exact h' value slice pz s σ H x y v u Q I rx ry q hs
theorem se {r:R2} (hr:js X r) (ha:PE X a ta) (hb:PE X b tb) (hs:nC b):PE X (.Subscript a b pos) (oP r ta tb):=by
 intro pz s σ H Q I h
 exact Subscript_ (lZ ha hb I h fun v u s2 x y H2 I2 rx ry q=>hr a b pz s2 σ H2 x y v u Q I2 rx ry q (hs _ _))
def oZ (K:W.Frag):R2:=fun x y H Q=>∃p xs i v,x=.ref p/\y=.int i/\aZ K H p xs/\eY xs i=some v/\Q v H
def oX (K:W.Frag):R2:=fun x y H Q=>∃p xs i v,x=.ref p/\y=.int i/\ck K H p xs/\eY xs i=some v/\Q v H
def oY:R2:=fun x y H Q=>∃z i c,x=.str z/\y=.int i/\z.length<=sizeLine/\eY z.cps.toList i=some c/\Q (.str ⟨#[c]⟩) H
theorem tT:js X (oZ X.K):=by
 intro value slice pz s σ H x y v u Q I rx ry h hs
 obtain ⟨p,xs,i,z,rfl,rfl,hq,he,q⟩:=h
 cases rx
 obtain ⟨t,rfl⟩:=ry
 obtain ⟨its,r,pl,hz⟩:=I.list hq
 obtain ⟨j,h1,h2,h3,h4,h5⟩:=uA he
 obtain ⟨w,ew,rw'⟩:=r.get h2
 have hl:=r.length
 have hn:=mG
 have fin:EP X pz σ Q w s:=⟨z,H,I,rw',q⟩
 by_cases h0:0<=i
 ·have hj:i.toNat=j:=by
   rw [seqIndex_of h0 h5] at h1
   exact Option.some.inj h1
  exact item_listR pl.isList h0 (by omega) (by rw [hj]; simpa using ew) fin hs
 ·have hj:(i + (its.toArray.size:Int)).toNat=j:=by
   rw [seqIndex_neg (by omega) h4] at h1
   rw [List.size_toArray,<-hl]
   exact Option.some.inj h1
  exact subscriptTail_builtinR (x:=w) pl.isList.typeIs slot_list_getitem.lookup
   (wpAny_getItem_list_neg (Q:=fun r s'=>r=w/\EP X pz σ Q r s') pl.isList (by omega) (by rw [List.size_toArray] <;> omega) (by omega) (by rw [hj]; simpa using ew) ⟨rfl,fin⟩) hs
theorem Fm:js X (oX X.K):=by
 intro value slice pz s σ H x y v u Q I rx ry h hs
 obtain ⟨p,xs,i,z,rfl,rfl,hq,he,q⟩:=h
 cases rx
 obtain ⟨t,rfl⟩:=ry
 obtain ⟨its,r,pl,hz⟩:=I.tuple hq
 obtain ⟨j,h1,h2,h3,h4,h5⟩:=uA he
 obtain ⟨w,ew,rw'⟩:=r.get h2
 have hl:=r.length
 have hn:=mG
 have fin:EP X pz σ Q w s:=⟨z,H,I,rw',q⟩
 exact subscriptTail_builtinR (x:=w) pl.typeIs slot_tuple_getitem.lookup
  (getItem_tuple (j:=j) (Q:=fun r s'=>r=w/\EP X pz σ Q r s') pl (by omega) (by omega) (by rw [List.size_toArray,<-hl]; exact h1) (by simpa using ew) ⟨rfl,fin⟩) hs
theorem Fl:js X oY:=by
 intro value slice pz s σ H x y v u Q I rx ry h hs
 obtain ⟨z,i,c,rfl,rfl,hz,he,q⟩:=h
 obtain ⟨t,rfl⟩:=rx
 obtain ⟨t',rfl⟩:=ry
 obtain ⟨j,h1,h2,h3,h4,h5⟩:=uA he
 have hl:z.cps.toList.length=z.length:=by simp [Str.length]
 rw [hl] at h1 h4 h5
 have hn:=mG
 exact tail_any (typeIs_str s z t) slot_str_getitem.lookup (getItem_str (c:=c) (by
  have e1:decide (i < -(2 ^ 63:Int))=false:=decide_eq_false (by omega)
  have e2:decide (i >= 2 ^ 63)=false:=decide_eq_false (by omega)
  rw [e1,e2,Bool.or_false]) (by rw [h1]; simpa using h2) ⟨.str ⟨#[c]⟩,H,I.tok _,⟨_,rfl⟩,q⟩) hs
def xZ (K:W.Frag):R2:=fun x y H Q=>oZ K x y H Q\/oX K x y H Q\/oY x y H Q
theorem Fk:js X (xZ X.K):=tT.or (Fm.or Fl)
theorem Ko (its:List Value) (n j:Nat) (u:Value):Obj.mapSeq (·.setIfInBounds j u) { cls:=.type "list",data:=.seq its.toArray n }={ cls:=.type "list",data:=.seq (its.set j u).toArray n }:=by
 simp [Obj.mapSeq]
theorem Inv.lst {pz:List (Addr × Obj)} {σ:Ml} {H:Hp} {s:Shared} {p:Addr} {xs:List V} (I:Inv X pz σ H s) (h:H p=some (.lst xs)) :
  ∃(its:List Value) (n:Nat),ap xs its/\s.heap.get? p=some { cls:=.type "list",data:=.seq its.toArray n }/\xs.length<=sizeLine:=by
 obtain ⟨z,its,n,r,e⟩:=I.hok p _ h
 exact ⟨its,n,r,e,z⟩
theorem Inv.lstUpd {pz:List (Addr × Obj)} {σ:Ml} {H:Hp} {s:Shared} {p:Addr} {xs ys:List V} {its its':List Value} {n n':Nat} {f:Obj->Obj} (I:Inv X pz σ H s) (h:H p=some (.lst xs))
  (ho:s.heap.get? p=some { cls:=.type "list",data:=.seq its.toArray n }) (hf:f { cls:=.type "list",data:=.seq its.toArray n }={ cls:=.type "list",data:=.seq its'.toArray n' }) (r:ap ys its') (hz:ys.length<=sizeLine) (t:Nat) :
  Inv X pz σ (upd H p (.lst ys)) { s with heap:=s.heap.update p f,toks:=t }:=by
 have e:(s.heap.update p f).get? p=some { cls:=.type "list",data:=.seq its'.toArray n' }:=by
  rw [Heap.get?_update_self f ho (by rw [hf] <;> rfl),hf]
 refine I.write (x:=p) (e:=p) (by rw [h]; trivial) (.inl rfl) (fun b u hb q=>(Heap.get?_update_other _ _ (Ne.symm hb)).trans q) ⟨_,e⟩ ?_
 exact ⟨hz,its',n',r,e⟩
def ze:V->V->V->Hp->(Hp->Prop)->Prop:=fun o i v H Q=>∃p xs k j,o=.ref p/\i=.int k/\H p=some (.lst xs)/\c6 xs.length k=some j/\Q (upd H p (.lst (xs.set j v)))
theorem uO:fU X ze:=by
 intro pz s σ H o i v ov iv u Q I ro ri rv h
 obtain ⟨p,xs,k,j,rfl,rfl,hp,hj,q⟩:=h
 cases ro
 obtain ⟨t,rfl⟩:=ri
 obtain ⟨its,n,r,ho,hz⟩:=I.lst hp
 obtain ⟨h1,h2,h3,h4⟩:=tR hj
 have hl:=r.length
 have hn:=mG
 have I':Inv X pz σ (upd H p (.lst (xs.set j v))) { s with heap:=s.heap.update p (Obj.mapSeq (·.setIfInBounds j u)) }:=
  I.lstUpd hp ho (Ko its n j u) (r.set rv j) (by rw [List.length_set]; exact hz) s.toks
 by_cases h0:0<=k
 ·have hk:k.toNat=j:=by
   rw [seqIndex_of h0 h4] at h1
   exact Option.some.inj h1
  exact W.ki_setAt ho h0 (by omega) (by rw [List.size_toArray,<-hl]; exact h4) (by rw [hk]; exact ⟨_,I',q⟩)
 ·have hk:(k + (its.toArray.size:Int)).toNat=j:=by
   rw [seqIndex_neg (by omega) h3] at h1
   rw [List.size_toArray,<-hl]
   exact Option.some.inj h1
  exact W.ki_setBack ho (by omega) (by rw [List.size_toArray,<-hl]; exact h3) (by omega) (by rw [hk]; exact ⟨_,I',q⟩)
theorem Ld (lo hi:Option Int) (n:Nat):(sliceBounds lo hi none n).1=((HT.sIx n 0 lo:Nat):Int)/\(sliceBounds lo hi none n).2.1=((HT.sIx n n hi:Nat):Int)/\(sliceBounds lo hi none n).2.2=1:=by
 refine ⟨?_,?_,rfl⟩
 ·cases lo with
  | none=>simp [sliceBounds,HT.sIx]
  | some i=>
   simp only [sliceBounds,HT.sIx,Option.getD_none,show (1:Int) > 0 by decide,if_true]
   by_cases h:i < 0
   ·simp only [h,if_true] <;> omega
   ·simp only [h,if_false] <;> omega
 ·cases hi with
  | none=>simp [sliceBounds,HT.sIx]
  | some i=>
   simp only [sliceBounds,HT.sIx,Option.getD_none,show (1:Int) > 0 by decide,if_true]
   by_cases h:i < 0
   ·simp only [h,if_true] <;> omega
   ·simp only [h,if_false] <;> omega
theorem Lx (its:List Value) (lo hi:Option Int):slicePick its.toArray lo hi none=((its.drop (HT.sIx its.length 0 lo)).take (HT.sIx its.length its.length hi - HT.sIx its.length 0 lo)).toArray:=by
 obtain ⟨h1,h2,h3⟩:=Ld lo hi its.toArray.size
 unfold slicePick
 rw [h1,h2,h3]
 simp only [sliceRange_one,pick_run,List.size_toArray] <;> rfl
def xY (K:W.Frag):V->Option Int->Option Int->Hp->VK->Prop:=fun x lo hi H Q=>∃a xs,x=.ref a/\aZ K H a xs/\∀p,H p=none->Q (.ref p) (upd H p (.lst (ir xs lo hi)))
theorem HV:kY X (xY X.K):=by
 intro pz s σ H x v vl vu lo hi sl Q I rx hs pl pu h
 obtain ⟨a,xs,rfl,hx,q⟩:=h
 cases rx
 obtain ⟨its,r,ht,hz⟩:=I.list hx
 have hlen:=r.length
 refine ⟨"list",_,slot_list_getitem.lookup,ht.isList.typeIs,?_⟩
 refine wpAny_getItem_list_slice ht.isList hs pl pu .none (by simp) ?_ (by rw [List.size_toArray] <;> omega)
 rw [Lx,<-hlen]
 refine ⟨.ref s.heap.objs.size,_,I.laid (t':=s.toks) (o:=.lst (ir xs lo hi)) (fun b ob q=>Heap.get?_push_of_some _ q) (Nat.le_refl _) ?_,rfl,q _ (I.hok.fresh (Nat.le_refl _))⟩
 exact ⟨Nat.le_trans (Cv xs lo hi) hz,_,0,(r.drop (HT.sIx xs.length 0 lo)).take (HT.sIx xs.length xs.length hi - HT.sIx xs.length 0 lo),Heap.get?_push_size _ rfl⟩
def fH:V->Bool
 | .non=>true
 | .bl _=>true
 | .int _=>true
 | .str _=>true
 | _=>false
def io:V->V->Bool
 | .non,.non=>true
 | .bl a,.bl b=>a == b
 | .bl a,.int b=>(if a then 1 else 0) == b
 | .int a,.bl b=>a == (if b then 1 else 0)
 | .int a,.int b=>a == b
 | .str a,.str b=>a == b
 | _,_=>false
theorem Eb {A:Around} {s:Shared} {y x:V} {u v:Value} (ry:aw y u) (rx:aw x v) (fy:fH y=true) (fx:fH x=true):SeqAt.EqAt A s u v (io y x):=by
 cases y with
 | non=>
  cases ry
  cases x with
  | non=>cases rx; exact SeqAt.EqAt.same _
  | bl b=>cases rx; exact SeqAt.EqAt.none_bool b
  | int b=>obtain ⟨t,rfl⟩:=rx; exact SeqAt.EqAt.none_int b t
  | str b=>obtain ⟨t,rfl⟩:=rx; exact SeqAt.EqAt.none_str b t
  | _=>exact absurd (show false=true from fx) Bool.false_ne_true
 | bl a=>
  cases ry
  cases x with
  | non=>cases rx; exact SeqAt.EqAt.bool_none a
  | bl b=>cases rx; exact SeqAt.EqAt.bool_bool a b
  | int b=>obtain ⟨t,rfl⟩:=rx; exact SeqAt.EqAt.bool_int a b t
  | str b=>obtain ⟨t,rfl⟩:=rx; exact SeqAt.EqAt.bool_str a b t
  | _=>exact absurd (show false=true from fx) Bool.false_ne_true
 | int a=>
  obtain ⟨t',rfl⟩:=ry
  cases x with
  | non=>cases rx; exact SeqAt.EqAt.int_none a t'
  | bl b=>cases rx; exact SeqAt.EqAt.int_bool a t' b
  | int b=>obtain ⟨t,rfl⟩:=rx; exact SeqAt.EqAt.int_int a t' b t
  | str b=>obtain ⟨t,rfl⟩:=rx; exact SeqAt.EqAt.int_str a t' b t
  | _=>exact absurd (show false=true from fx) Bool.false_ne_true
 | str a=>
  obtain ⟨t',rfl⟩:=ry
  cases x with
  | non=>cases rx; exact SeqAt.EqAt.str_none a t'
  | bl b=>cases rx; exact SeqAt.EqAt.str_bool a t' b
  | int b=>obtain ⟨t,rfl⟩:=rx; exact SeqAt.EqAt.str_int a t' b t
  | str b=>obtain ⟨t,rfl⟩:=rx; exact SeqAt.EqAt.str_str a t' b t
  | _=>exact absurd (show false=true from fx) Bool.false_ne_true
 | _=>exact absurd (show false=true from fy) Bool.false_ne_true
def dG (x:V) (u:Value):Bool:=match u with
 | .none=>io .non x
 | .bool b=>io (.bl b) x
 | .int i _=>io (.int i) x
 | .str z _=>io (.str z) x
 | _=>false
theorem pY {x y:V} {u:Value} (r:aw y u) (f:fH y=true):dG x u=io y x:=by
 cases y with
 | non=>cases r; rfl
 | bl b=>cases r; rfl
 | int i=>obtain ⟨t,rfl⟩:=r; rfl
 | str z=>obtain ⟨t,rfl⟩:=r; rfl
 | _=>exact absurd (show false=true from f) Bool.false_ne_true
theorem nG {x:V}:∀{xs:List V} {us:List Value},ap xs us->xs.all fH=true->us.any (dG x)=xs.any fun y=>io y x
 | _,_,.nil,_=>rfl
 | y::xs,u::us,.cons r t,f=>by
  rw [List.all_cons,Bool.and_eq_true] at f
  rw [List.any_cons,List.any_cons,pY r f.1,nG t f.2]
theorem lz {A:Around} {s:Shared} {x:V} {v:Value} (rx:aw x v) (fx:fH x=true):∀{xs:List V} {us:List Value},ap xs us->xs.all fH=true->∀u∈us,SeqAt.EqAt A s u v (dG x u)
 | _,_,.nil,_=>fun u hu=>by cases hu
 | y::xs,u::us,.cons r t,f=>fun u' hu=>by
  rw [List.all_cons,Bool.and_eq_true] at f
  rcases List.mem_cons.mp hu with rfl | hu
  ·rw [pY r f.1]; exact Eb r rx f.1 fx
  ·exact lz rx fx t f.2 u' hu
def rT (x:V) (xs:List V):Bool:=xs.any fun y=>io y x
def ya (K:W.Frag) (neg:Bool):R2:=fun x y H Q=>∃p xs,y=.ref p/\(aZ K H p xs\/ck K H p xs)/\fH x=true/\xs.all fH=true/\Q (.bl (if neg then ! rT x xs else rT x xs)) H
theorem Kb:bi X (compareOp .In) (ya X.K false):=by
 intro pz s σ H x y v u Q I rx ry h
 obtain ⟨p,xs,rfl,hq,fx,fs,q⟩:=h
 cases ry
 rcases hq with hq | hq
 ·obtain ⟨its,r,pl,hz⟩:=I.list hq
  refine SeqAt.in_listAt (dG x) pl.isList (fun w hw=>lz rx fx r fs w (by simpa using hw)) ⟨.bl _,H,I,rfl,?_⟩
  rw [show its.toArray.any (dG x)=its.any (dG x) by simp,nG r fs]
  exact q
 ·obtain ⟨its,r,pl,hz⟩:=I.tuple hq
  refine SeqAt.in_tupleAt (dG x) pl (fun w hw=>lz rx fx r fs w (by simpa using hw)) ⟨.bl _,H,I,rfl,?_⟩
  rw [show its.toArray.any (dG x)=its.any (dG x) by simp,nG r fs]
  exact q
theorem Lj:bi X (compareOp .NotIn) (ya X.K true):=by
 intro pz s σ H x y v u Q I rx ry h
 obtain ⟨p,xs,rfl,hq,fx,fs,q⟩:=h
 cases ry
 rcases hq with hq | hq
 ·obtain ⟨its,r,pl,hz⟩:=I.list hq
  refine SeqAt.notIn_listAt (dG x) pl.isList (fun w hw=>lz rx fx r fs w (by simpa using hw)) ⟨.bl _,H,I,rfl,?_⟩
  rw [show its.toArray.any (dG x)=its.any (dG x) by simp,nG r fs]
  exact q
 ·obtain ⟨its,r,pl,hz⟩:=I.tuple hq
  refine SeqAt.notIn_tupleAt (dG x) pl (fun w hw=>lz rx fx r fs w (by simpa using hw)) ⟨.bl _,H,I,rfl,?_⟩
  rw [show its.toArray.any (dG x)=its.any (dG x) by simp,nG r fs]
  exact q
theorem Ll:bi X (compareOp .NotIn) (fun x y H Q=>∃i j,x=.str i/\y=.str j/\Q (.bl (!(!(Builtin.Str.occurrences j i 0 j.length 1).isEmpty))) H):=by
 intro pz s σ H x y v u Q I rx ry h
 obtain ⟨i,j,rfl,rfl,q⟩:=h
 obtain ⟨t,rfl⟩:=rx
 obtain ⟨t',rfl⟩:=ry
 exact notIn_str ⟨.bl _,H,I,rfl,q⟩
theorem dH.or {f:Value} {r r':List V->Hp->VK->Prop} (h:dH X f r) (h':dH X f r'):dH X f (fun xs H Q=>r xs H Q\/r' xs H Q):=by
 intro pz s σ H xs us Q I rs q
 rcases q with q | q
 ·exact h pz s σ H xs us Q I rs q
 ·exact h' pz s σ H xs us Q I rs q
theorem KU:dH X (.type "list") (fun xs H Q=>∃p ys,xs=[.ref p]/\(aZ X.K H p ys\/ck X.K H p ys)/\∀l,H l=none->Q (.ref l) (upd H l (.lst ys))):=by
 intro pz s σ H xs us Q I r h
 obtain ⟨p,ys,rfl,hq,q⟩:=h
 obtain ⟨u,rfl,rx⟩:=fL r
 cases rx
 have fin:∀(its:List Value),ap ys its->ys.length<=sizeLine->∀(h':Heap) (c':Nat),(∀b o',s.heap.get? b=some o'->h'.get? b=some o') ->
   h'.get? s.heap.objs.size=some { cls:=.type "list",dict:=none,data:=.seq its.toArray c',slots:=#[] }->EP X pz σ Q (.ref s.heap.objs.size) { s with heap:=h' }:=fun its r' hz h' c' kp e=>
  ⟨.ref s.heap.objs.size,_,I.laid (t':=s.toks) kp (Nat.le_refl _) (show cm X.prog X.w _ h' _ (.lst ys) from ⟨hz,its,c',r',e⟩),rfl,q _ (I.hok.fresh (Nat.le_refl _))⟩
 rcases hq with hq | hq
 ·obtain ⟨its,r',pl,hz⟩:=I.list hq
  have hlen:=r'.length
  obtain ⟨o,ho,hc,n,hd⟩:=pl.isList
  exact call_list_seq p (.inl rfl) ho hc hd (fun h' c' kp e=>fin its r' hz h' c' kp e) (by simp only [List.size_toArray] <;> omega)
 ·obtain ⟨its,r',pl,hz⟩:=I.tuple hq
  have hlen:=r'.length
  obtain ⟨o,ho,hc,n,hd⟩:=pl
  exact call_list_seq p (.inr rfl) ho hc hd (fun h' c' kp e=>fin its r' hz h' c' kp e) (by simp only [List.size_toArray] <;> omega)
theorem Lh:dH X (.type "tuple") (fun xs H Q=>∃p ys,xs=[.ref p]/\((aZ X.K H p ys/\∀l,H l=none->Q (.ref l) (upd H l (.tup ys)))\/(ck X.K H p ys/\Q (.ref p) H))):=by
 intro pz s σ H xs us Q I r h
 obtain ⟨p,ys,rfl,h⟩:=h
 obtain ⟨u,rfl,rx⟩:=fL r
 cases rx
 rcases h with ⟨hq,q⟩ | ⟨hq,q⟩
 ·obtain ⟨its,r',pl,hz⟩:=I.list hq
  have hlen:=r'.length
  refine call_tuple_list pl.isList (fun h' kp=>?_) (by simp only [List.size_toArray] <;> omega)
  have I1:Inv X pz σ H { s with heap:=h' }:=I.kept (t':=s.toks) kp
  have I2:Inv X pz σ (upd H h'.objs.size (.tup ys)) { s with heap:=h'.push { cls:=.type "tuple",data:=.seq its.toArray } }:=
   I1.laid (t':=s.toks) (fun b o e=>Heap.get?_push_of_some _ e) (Nat.le_refl _) (show cm X.prog X.w _ _ _ (.tup ys) from ⟨hz,its,r',IsTup.new _ _,_,Heap.get?_push_size _ rfl,rfl⟩)
  exact ⟨.ref h'.objs.size,_,I2,rfl,q _ (I1.hok.fresh (Nat.le_refl _))⟩
 ·obtain ⟨its,r',pl,hz⟩:=I.tuple hq
  exact call_tuple_same pl ⟨.ref p,H,I,rfl,q⟩
def oO (K:W.Frag) (T:String) (x:V) (H:Hp):Prop:=match x with
 | .str _=>T = "str"
 | .int _=>T = "int"
 | .ref p=>(T = "list"/\∃xs,aZ K H p xs)\/(T = "tuple"/\((∃o,K.lookup p=some o/\o.cls=.type "tuple"/\o.dict=none)\/∃xs,Rd H p (.tup xs))) \/
   (T = "dict"/\((∃kvs,Rd H p (.dK kvs))\/∃kvs,H p=some (.dT kvs)))\/(T = "set"/\∃S n,H p=some (.set S n))
 | _=>False
theorem F3 {pz:List (Addr × Obj)} {σ:Ml} {H:Hp} {s:Shared} {T:String} {x:V} {v:Value} (I:Inv X pz σ H s) (r:aw x v) (ty:oO X.K T x H) :
  s.TypeIs v T/\∀a,v=.ref a->∃ob,s.heap.get? a=some ob/\ob.dict=none:=by
 cases x with
 | str z=>
  obtain ⟨t,rfl⟩:=r
  cases (show T = "str" from ty)
  exact ⟨typeIs_str s z t,fun _ e=>nomatch e⟩
 | int i=>
  obtain ⟨t,rfl⟩:=r
  cases (show T = "int" from ty)
  exact ⟨typeIs_int s i t,fun _ e=>nomatch e⟩
 | ref p=>
  cases r
  rcases ty with ⟨rfl,xs,hq⟩ | ⟨rfl,⟨o,hk,hc,hd⟩ | ⟨xs,hq⟩⟩ | ⟨rfl,hk⟩ | ⟨rfl,S,n,hk⟩
  ·obtain ⟨its,_,pl,_⟩:=I.list hq
   refine ⟨pl.isList.typeIs,fun a e=>?_⟩
   cases e
   obtain ⟨o,n,e,c,hd,_⟩:=pl
   exact ⟨o,e,hd⟩
  ·refine ⟨⟨o,I.kIn p o hk,hc⟩,fun a e=>?_⟩
   cases e
   exact ⟨o,I.kIn _ o hk,hd⟩
  ·obtain ⟨_,its,_,⟨o,ho,hc,_⟩,o2,ho2,hd2⟩:=hq.ok I.hok
   refine ⟨⟨o,ho,hc⟩,fun a e=>?_⟩
   cases e
   exact ⟨o2,ho2,hd2⟩
  ·have z:∃o,s.heap.get? p=some o/\o.ExactDict:=by
    rcases hk with ⟨kvs,hk⟩ | ⟨kvs,hk⟩
    ·obtain ⟨_,_,_,_,o,_,_,e,ex,_⟩:=(show cm X.prog X.w H s.heap p (.dK kvs) from hk.ok I.hok)
     exact ⟨o,e,ex⟩
    ·obtain ⟨_,_,_,_,o,_,_,e,ex,_⟩:=I.hok p _ hk
     exact ⟨o,e,ex⟩
   obtain ⟨o,e,ex⟩:=z
   refine ⟨⟨o,e,ex.1⟩,fun a e2=>?_⟩
   cases e2
   exact ⟨o,e,ex.2.1⟩
  ·obtain ⟨o,_,_,_,e,ex,_⟩:=I.hok p _ hk
   refine ⟨⟨o,e,ex.1⟩,fun a e2=>?_⟩
   cases e2
   exact ⟨o,e,ex.2.1⟩
 | _=>exact False.elim ty
def LY (K:W.Frag) (T:String) (r:V->List V->Hp->VK->Prop) (to:TE) (t:TA):TE:=fun σ H Q=>to σ H fun x H1=>oO K T x H1/\t σ H1 fun xs H2=>r x xs H2 Q
variable {o e:Expr} {es:List Expr} {to:TE} {t:TA} {name:Str} {apos cpos:Pos} {T id:String} {r:V->List V->Hp->VK->Prop}
theorem yI (pa:PlainAttrs T) (slot:Slot T name id) (hty:typeOf (.builtin id)=pure (.type "method_descriptor")) (hm:l9 X id r) (ho:PE X o to) (ha:PA X (e::es) t)
  (hbase:attributeBase o name X.env (eval o X.env)=eval o X.env:=by rfl)
  (hfew:((backTo cpos (starEach (e::es) X.env)).all (fun x=>! x.1) && (backToKw cpos (keywordEach [] X.env)).all (fun x=>x.1.isSome)
   && decide ((e::es).length + ([]:List Keyword).length + (if ([]:List Keyword).isEmpty then 0 else 1) < 30))=true:=by rfl)
  (hline:(apos.endLine == cpos.line)=true:=by rfl) (hs:starEach (e::es) X.env=(false,eval e X.env)::starEach es X.env:=by rfl) (hplain:(backTo cpos (starEach es X.env)).any (·.1)=false:=by rfl) :
  PE X (.Call (.Attribute o name apos) (e::es) [] cpos) (LY X.K T r to t):=by
 intro pz s σ H Q I h
 refine wpAny_Call_method_late hbase hfew hline rfl (aY (ho pz s σ H _ I h) fun v s1 ⟨x,H1,I1,r1,ty,q1⟩=>?_)
 obtain ⟨h1,h2⟩:=F3 I1 r1 ty
 refine ⟨T,id,pa,slot,hty,h1,h2,?_⟩
 have hA:=ha cpos pz s1 σ H1 _ I1 q1
 rw [hs] at hA ⊢
 refine Calls.callWith_builtin (by show (false || (backTo cpos (starEach es X.env)).any (·.1))=false; rw [hplain] <;> rfl) (Calls.evalArgs_plain ?_)
 exact aY hA fun us s2 ⟨vs,H2,I2,r2,q2⟩=>hm pz s2 σ H2 x vs v us Q I2 r1 r2 q2
end
def Mb (X:Cx) (id:String) (r:V->List V->Hp->VK->Prop):Prop:=
 ∀(pz:List (Addr × Obj)) (s:Shared) (σ:Ml) (H:Hp) (x:V) (xs:List V) (v:Value) (us:List Value) (Q:VK),Inv X pz σ H s->aw x v->ap xs us->r x xs H Q ->
  wpAny (model X.prog X.w) X.A (call (.builtin id) (v::us)) (EP X pz σ Q) X.xe s
theorem ap.one {x:V} {us:List Value} (h:ap [x] us):∃u,us=[u]/\aw x u:=by
 cases h with
 | cons r t=>cases t; exact ⟨_,rfl,r⟩
theorem ap.zero:∀{us:List Value},ap [] us->us=[]
 | _,.nil=>rfl
theorem ap.eraseIdx:∀{xs:List V} {us:List Value} (i:Nat),ap xs us->ap (xs.eraseIdx i) (us.eraseIdx i)
 | _,_,_,.nil=>.nil
 | _,_,0,.cons _ t=>t
 | _,_,i + 1,.cons r t=>.cons r (ap.eraseIdx i t)
section
variable {X:Cx} {pz:List (Addr × Obj)} {σ:Ml} {H:Hp} {s:Shared} {l b:Addr} {xs ys zs:List V}
theorem Inv.lset {its its':List Value} {n:Nat} {f:Array Value->Array Value} {t':Nat} (I:Inv X pz σ H s) (hH:H l=some (.lst xs))
  (e:s.heap.get? l=some { cls:=.type "list",data:=.seq its.toArray n }) (hf:f its.toArray=its'.toArray) (hv:ap ys its') (hz:ys.length<=sizeLine) :
  Inv X pz σ (upd H l (.lst ys)) { s with heap:=s.heap.update l (Obj.mapSeq f),toks:=t' }:=by
 have q:=PySem.IsL.update e f
 rw [hf] at q
 refine I.write (x:=l) (e:=l) (by rw [hH]; exact trivial) (.inl rfl) (fun b' u hb hu=>(Heap.get?_update_other s.heap (Obj.mapSeq f) (Ne.symm hb)).trans hu) ⟨_,q⟩ ?_
 exact ⟨hz,its',_,hv,q⟩
theorem Inv.lnew {its:List Value} {t':Nat} (I:Inv X pz σ H s) (hv:ap ys its) (hz:ys.length<=sizeLine) :
  Inv X pz σ (upd H s.heap.objs.size (.lst ys)) { s with heap:=s.heap.push { cls:=.type "list",data:=.seq its.toArray },toks:=t' }:=
 I.laid (fun _ _ q=>Heap.get?_push_of_some _ q) (Nat.le_refl _) ⟨hz,its,0,hv,Heap.get?_push_size _ rfl⟩
theorem Inv.fresh (I:Inv X pz σ H s):H s.heap.objs.size=none:=I.hok.fresh (Nat.le_refl _)
theorem Inv.lstM (I:Inv X pz σ H s) (hH:H l=some (.lst xs)):xs.length<=sizeLine/\∃(its:List Value) (n:Nat),ap xs its/\xs.length=its.length/\s.heap.get? l=some { cls:=.type "list",data:=.seq its.toArray n }:=by
 obtain ⟨z,its,n,r,e⟩:=I.hok l _ hH
 exact ⟨z,its,n,r,r.length,e⟩
end
section
variable {X:Cx}
def At:V->List V->Hp->VK->Prop:=fun x vs H Q=>∃l xs y,x=.ref l/\vs=[y]/\H l=some (.lst xs)/\xs.length < sizeLine/\Q .non (upd H l (.lst (xs++[y])))
theorem jY:Mb X "list.append" At:=by
 intro pz s σ H x vs v us Q I rx rv h
 obtain ⟨l,xs,y,rfl,rfl,hH,hz,q⟩:=h
 cases rx
 obtain ⟨u,rfl,ru⟩:=rv.one
 obtain ⟨z,its,n,r,hl,e⟩:=I.lstM hH
 refine call_meets F.slot_list_append ⟨_,e,rfl⟩ F.entry_list_append (F.args_list_append_2 _ _) (PySem.list_append l its.toArray n u (by rw [List.size_toArray]; omega)) ⟨e,?_⟩
 refine ⟨.non,_,I.lset (its':=its++[u]) hH e (by simp) (r.append (.cons ru .nil)) ?_,rfl,q⟩
 rw [List.length_append,List.length_singleton]
 omega
end
section
variable {κ:Type} [DecidableEq κ]
def cA (kvs:List (κ × V)) (k:κ):Option V:=(kvs.find? fun kv=>decide (kv.1=k)).map (·.2)
def cY (kvs:List (κ × V)) (k:κ) (v:V):List (κ × V):=
 if (kvs.any fun kv=>decide (kv.1=k))=true then kvs.map (fun kv=>if kv.1=k then (kv.1,v) else kv) else kvs++[(k,v)]
theorem qB {p:κ × V} {r:List (κ × V)} {k:κ} (e:p.1=k):cA (p::r) k=some p.2:=by simp [cA,List.find?_cons,e]
theorem nP {p:κ × V} {r:List (κ × V)} {k:κ} (e:¬ p.1=k):cA (p::r) k=cA r k:=by simp [cA,List.find?_cons,e]
theorem Bf (k:κ):∀kvs:List (κ × V),(kvs.any fun kv=>decide (kv.1=k))=(cA kvs k).isSome
 | []=>rfl
 | p::r=>by
  rw [List.any_cons]
  by_cases e:p.1=k
  ·simp only [qB e,decide_eq_true e,Bool.true_or,Option.isSome_some]
  ·rw [nP e,decide_eq_false e,Bool.false_or]; exact Bf k r
theorem Cs (kvs:List (κ × V)) (k:κ) (v:V):(cY kvs k v).length<=kvs.length + 1:=by
 unfold cY
 split
 ·rw [List.length_map]; omega
 ·rw [List.length_append,List.length_cons,List.length_nil]; omega
theorem dB.isSome_eq {o:Option V} {u:Option Value} (r:dB o u):o.isSome=u.isSome:=by
 cases o with
 | none=>cases u with
  | none=>rfl
  | some _=>exact (show False from r).elim
 | some _=>cases u with
  | none=>exact (show False from r).elim
  | some _=>rfl
theorem dB.getD {o:Option V} {u:Option Value} {d:V} {d':Value} (r:dB o u) (rd:aw d d'):aw (o.getD d) (u.getD d'):=by
 cases o with
 | none=>cases u with
  | none=>exact rd
  | some _=>exact (show False from r).elim
 | some _=>cases u with
  | none=>exact (show False from r).elim
  | some _=>exact r
theorem KV.val {kvs:List (κ × V)} {vs:List (κ × Value)} (r:KV kvs vs) (k:κ):dB (cA kvs k) (valueAt vs k):=by
 unfold KV at r
 induction r with
 | nil=>exact True.intro
 | @cons p q ps qs h t ih=>
  obtain ⟨h1,h2⟩:=h
  by_cases e:p.1=k
  ·have e':q.1=k:=h1.symm.trans e
   have b:valueAt (q::qs) k=some q.2:=by simp [valueAt,List.find?_cons,e']
   rw [qB e,b]; exact h2
  ·have e':¬ q.1=k:=fun z=>e (h1.trans z)
   have b:valueAt (q::qs) k=valueAt qs k:=by simp [valueAt,List.find?_cons,e']
   rw [nP e,b]; exact ih
theorem KV.any {kvs:List (κ × V)} {vs:List (κ × Value)} (r:KV kvs vs) (k:κ):(kvs.any fun kv=>decide (kv.1=k))=vs.any fun kv=>decide (kv.1=k):=by
 unfold KV at r
 induction r with
 | nil=>rfl
 | cons h t ih=>rw [List.any_cons,List.any_cons,ih,h.1]
theorem KV.repl {kvs:List (κ × V)} {vs:List (κ × Value)} (r:KV kvs vs) (k:κ) {y:V} {u:Value} (ry:aw y u) :
  KV (kvs.map fun kv=>if kv.1=k then (kv.1,y) else kv) (vs.map fun kv=>if kv.1=k then (kv.1,u) else kv):=by
 unfold KV at r ⊢
 induction r with
 | nil=>exact .nil
 | @cons p q ps qs h t ih=>
  rw [List.map_cons,List.map_cons]
  refine .cons ?_ ih
  obtain ⟨h1,h2⟩:=h
  by_cases e:p.1=k
  ·rw [if_pos e,if_pos (h1.symm.trans e)]; exact ⟨h1,ry⟩
  ·rw [if_neg e,if_neg (fun z=>e (h1.trans z))]; exact ⟨h1,h2⟩
theorem KV.put {kvs:List (κ × V)} {vs:List (κ × Value)} (r:KV kvs vs) (k:κ) {y:V} {u:Value} (ry:aw y u):KV (cY kvs k y) (stored vs k u):=by
 unfold cY stored
 rw [r.any k]
 by_cases e:(vs.any fun kv=>decide (kv.1=k))=true
 ·rw [if_pos e,if_pos e]; exact r.repl k ry
 ·rw [if_neg e,if_neg e]; exact Paired.snoc r ⟨rfl,ry⟩
theorem KV.length {kvs:List (κ × V)} {vs:List (κ × Value)} (r:KV kvs vs):kvs.length=vs.length:=Paired.length r
end
theorem nq {P:Program} {w:World} {k:aD} {u:Value} (r:aw (kV k) u):(fY P w).is k u=true:=by
 cases k with
 | inl i=>obtain ⟨t,e⟩:=(show ∃t,u=Value.int i t from r); subst e; exact K2 P w i t
 | inr x=>obtain ⟨t,e⟩:=(show ∃t,u=Value.str x t from r); subst e; exact K3 P w x t
theorem BN {P:Program} {w:World}:∀{ks:List aD} {us:List Value},ap (ks.map kV) us->ItemsAre (fY P w) ks us
 | [],_,r=>by rw [List.map_nil] at r; cases r; exact .nil
 | k::ks,_,r=>by
  rw [List.map_cons] at r
  cases r with
  | cons h t=>exact .cons (nq h) (BN t)
abbrev KT (H:Hp):List (List aD × V)->List (List aD × Addr × Value)->Prop:=Paired fun p q=>p.1=q.1/\H q.2.1=some (.tup (p.1.map kV))/\aw p.2 q.2.2
theorem KT.val {H:Hp} {kvs:List (List aD × V)} {xs:List (List aD × Addr × Value)} (r:KT H kvs xs) (k:List aD):dB (cA kvs k) ((atKey xs k).map (·.2)):=by
 induction r with
 | nil=>exact True.intro
 | @cons p q ps qs h t ih=>
  obtain ⟨h1,_,h2⟩:=h
  by_cases e:p.1=k
  ·have e':q.1=k:=h1.symm.trans e
   have b:atKey (q::qs) k=some q.2:=by simp [atKey,List.find?_cons,e']
   rw [qB e,b]; exact h2
  ·have e':¬ q.1=k:=fun z=>e (h1.trans z)
   have b:atKey (q::qs) k=atKey qs k:=by simp [atKey,List.find?_cons,e']
   rw [nP e,b]; exact ih
theorem KT.repl {H:Hp} {kvs:List (List aD × V)} {xs:List (List aD × Addr × Value)} (r:KT H kvs xs) (k:List aD) {y:V} {u:Value} (ry:aw y u) :
  KT H (kvs.map fun kv=>if kv.1=k then (kv.1,y) else kv) (xs.map (putAt k u)):=by
 induction r with
 | nil=>exact .nil
 | @cons p q ps qs h t ih=>
  rw [List.map_cons,List.map_cons]
  refine .cons ?_ ih
  obtain ⟨h1,h2,h3⟩:=h
  unfold putAt
  by_cases e:p.1=k
  ·rw [if_pos e,if_pos (h1.symm.trans e)]; exact ⟨h1,h2,ry⟩
  ·rw [if_neg e,if_neg (fun z=>e (h1.trans z))]; exact ⟨h1,h2,h3⟩
theorem KT.put {H:Hp} {kvs:List (List aD × V)} {xs:List (List aD × Addr × Value)} (r:KT H kvs xs) (k:List aD) {b:Addr} {y:V} {u:Value} (hb:H b=some (.tup (k.map kV))) (ry:aw y u) :
  KT H (cY kvs k y) (storedH xs k b u):=by
 have e:(kvs.any fun kv=>decide (kv.1=k))=(atKey xs k).isSome:=by
  rw [Bf,(r.val k).isSome_eq,Option.isSome_map]
 unfold cY storedH
 rw [e]
 by_cases q:(atKey xs k).isSome=true
 ·rw [if_pos q,if_pos q]; exact r.repl k ry
 ·rw [if_neg q,if_neg q]; exact Paired.snoc r ⟨rfl,hb,ry⟩
theorem KT.keeps {H H':Hp} {kvs:List (List aD × V)} {xs:List (List aD × Addr × Value)} (r:KT H kvs xs) (ht:∀b ys,H b=some (.tup ys)->H' b=some (.tup ys)):KT H' kvs xs:=
 Paired.mapP r fun _ _ z=>⟨z.1,ht _ _ z.2.1,z.2.2⟩
section
variable {P:Program} {w:World} {H:Hp} {h:Heap} {a:Addr}
theorem zg {u:HO} (ok:cG P w H h) (e:Rd H a u):cm P w H h a u:=e.ok ok
theorem mn {kvs:List (aD × V)} (ok:cG P w H h) (e:Rd H a (.dK kvs)):kvs.length<=sizeLine/\(a == sysModules)=false/\∃vs,KV kvs vs/\h.DictOf (fY P w) a vs:=
 show cm P w H h a (.dK kvs) from zg ok e
theorem Dr {kvs:List (aD × V)} (ok:cG P w H h) (e:H a=some (.dK kvs)):kvs.length<=sizeLine/\(a == sysModules)=false/\∃vs,KV kvs vs/\h.DictOf (fY P w) a vs:=mn ok (.inl e)
theorem ny {ks:List aD} (ok:cG P w H h) (e:H a=some (.tup (ks.map kV))):(tupleKind (fY P w)).is h ks a:=by
 obtain ⟨_,its,r,⟨o,h1,h2,n,h3⟩,_⟩:=(show cm P w H h a (.tup (ks.map kV)) from ok a _ e)
 exact ⟨o,its.toArray,n,h1,h2,h3,by simpa using BN r⟩
theorem nc {kvs:List (List aD × V)} (ok:cG P w H h) (e:Rd H a (.dT kvs)):kvs.length<=sizeLine/\(a == sysModules)=false /\
  ∃xs,KT H kvs xs/\h.DictOfH (tupleKind (fY P w)) a xs:=by
 obtain ⟨z,y,xs,r,o,es,ep,h1,h2,h3,h4,h5⟩:=(show cm P w H h a (.dT kvs) from zg ok e)
 refine ⟨z,y,xs,r,o,es,ep,h1,h2,h3,h4,fun x hx=>?_,h5⟩
 have all:∀{l:List (List aD × V)} {m:List (List aD × Addr × Value)},KT H l m->∀x∈m,(tupleKind (fY P w)).is h x.1 x.2.1:=by
  intro l m q
  induction q with
  | nil=>intro x hx; exact nomatch hx
  | @cons p q ps qs hq t ih=>
   intro x hx
   rcases List.mem_cons.mp hx with e | hx
   ·subst e
    exact ny ok (by rw [<-hq.1]; exact hq.2.1)
   ·exact ih x hx
 exact all r x hx
theorem Ds {kvs:List (List aD × V)} (ok:cG P w H h) (e:H a=some (.dT kvs)):kvs.length<=sizeLine/\(a == sysModules)=false /\
  ∃xs,KT H kvs xs/\h.DictOfH (tupleKind (fY P w)) a xs:=nc ok (.inl e)
end
def eN (H:Hp) (a:Addr) (y:V) (r:Option V):Prop:=
 (∃kvs k,Rd H a (.dK kvs)/\y=kV k/\r=cA kvs k)\/∃kvs k b,Rd H a (.dT kvs)/\y=.ref b/\H b=some (.tup (k.map kV))/\r=cA kvs k
def gH (H:Hp) (a:Addr) (y v:V) (H':Hp):Prop:=
 (∃kvs k,H a=some (.dK kvs)/\y=kV k/\kvs.length < sizeLine/\H'=upd H a (.dK (cY kvs k v))) \/
 ∃kvs k b,H a=some (.dT kvs)/\y=.ref b/\H b=some (.tup (k.map kV))/\kvs.length < sizeLine/\H'=upd H a (.dT (cY kvs k v))
theorem eN.k {H:Hp} {a:Addr} {kvs:List (aD × V)} {k:aD} (e:H a=some (.dK kvs)):eN H a (kV k) (cA kvs k):=.inl ⟨kvs,k,.inl e,rfl,rfl⟩
theorem eN.t {H:Hp} {a b:Addr} {kvs:List (List aD × V)} {k:List aD} (e:H a=some (.dT kvs)) (eb:H b=some (.tup (k.map kV))):eN H a (.ref b) (cA kvs k):=.inr ⟨kvs,k,b,.inl e,rfl,eb,rfl⟩
theorem gH.k {H:Hp} {a:Addr} {kvs:List (aD × V)} {k:aD} {v:V} (e:H a=some (.dK kvs)) (hl:kvs.length < sizeLine):gH H a (kV k) v (upd H a (.dK (cY kvs k v))):=.inl ⟨kvs,k,e,rfl,hl,rfl⟩
theorem gH.t {H:Hp} {a b:Addr} {kvs:List (List aD × V)} {k:List aD} {v:V} (e:H a=some (.dT kvs)) (eb:H b=some (.tup (k.map kV))) (hl:kvs.length < sizeLine) :
  gH H a (.ref b) v (upd H a (.dT (cY kvs k v))):=.inr ⟨kvs,k,b,e,rfl,eb,hl,rfl⟩
section
variable {X:Cx} {pz:List (Addr × Obj)} {σ:Ml} {H:Hp} {s:Shared} {a:Addr} {y v:V} {u r:Value} {o:Option V} {A:Around} {E:Value->Shared->Prop}
theorem Inv.big (I:Inv X pz σ H s):sysModules < s.heap.objs.size:=by
 have h:mainGlobals < s.heap.objs.size:=(I.mod.glob.keeps I.bk).lt
 exact Nat.lt_trans (by decide) h
theorem Jo {Q:Value->Shared->Prop} (hu:A.units + 1 < cLine) (I:Inv X pz σ H s) (g:eN H a y (some v)) (ry:aw y u) (h:∀w' s',Inv X pz σ H s'->aw v w'->Q w' s') :
  wpAny (model X.prog X.w) A (getItem (.ref a) u) Q E s:=by
 rcases g with ⟨kvs,k,e,ey,l⟩ | ⟨kvs,k,b,e,ey,eb,l⟩
 ·subst ey
  obtain ⟨z,hd,vs,rel,dd⟩:=mn I.hok e
  obtain ⟨w',hw,rw'⟩:=dB.some_of (v:=v) (o:=valueAt vs k) (by rw [l]; exact rel.val k)
  exact wpAny_getItem_of (nq ry) dd.mapOf hw (h w' _ (I.tok _) rw')
 ·subst ey
  cases (show u=Value.ref b from ry)
  obtain ⟨z,hd,xs,rel,dd⟩:=nc I.hok e
  obtain ⟨w',hw,rw'⟩:=dB.some_of (v:=v) (o:=(atKey xs k).map (·.2)) (by rw [l]; exact rel.val k)
  obtain ⟨p,hp,hp2⟩:=Option.map_eq_some_iff.mp hw
  refine wpAny_getItem_heap (tupleKind_room_in1 hu) (ny I.hok eb) dd hp ?_
  rw [hp2]
  exact h w' _ (I.tok _) rw'
theorem yk {Q:Value->Shared->Prop} (hu:A.units + 1 < cLine) (I:Inv X pz σ H s) (g:eN H a y o) (ry:aw y u) (h:∀s',Inv X pz σ H s'->Q (.bool o.isSome) s') :
  wpAny (model X.prog X.w) A (compareOp .In u (.ref a)) Q E s:=by
 rcases g with ⟨kvs,k,e,ey,l⟩ | ⟨kvs,k,b,e,ey,eb,l⟩
 ·subst ey
  obtain ⟨z,hd,vs,rel,dd⟩:=mn I.hok e
  refine wpAny_in_of (nq ry) hd dd.mapOf ?_
  rw [<-(rel.val k).isSome_eq,<-l]
  exact h _ (I.tok _)
 ·subst ey
  cases (show u=Value.ref b from ry)
  obtain ⟨z,hd,xs,rel,dd⟩:=nc I.hok e
  refine wpAny_in_heap (tupleKind_room_in1 hu) (ny I.hok eb) hd dd ?_
  have q:=(rel.val k).isSome_eq
  rw [Option.isSome_map] at q
  rw [<-q,<-l]
  exact h _ (I.tok _)
theorem HE {Q:Value->Shared->Prop} (hu:A.units + 1 < cLine) (I:Inv X pz σ H s) (g:eN H a y o) (ry:aw y u) (h:∀s',Inv X pz σ H s'->Q (.bool (! o.isSome)) s') :
  wpAny (model X.prog X.w) A (compareOp .NotIn u (.ref a)) Q E s:=by
 rcases g with ⟨kvs,k,e,ey,l⟩ | ⟨kvs,k,b,e,ey,eb,l⟩
 ·subst ey
  obtain ⟨z,hd,vs,rel,dd⟩:=mn I.hok e
  refine wpAny_notIn_of (nq ry) hd dd.mapOf ?_
  rw [<-(rel.val k).isSome_eq,<-l]
  exact h _ (I.tok _)
 ·subst ey
  cases (show u=Value.ref b from ry)
  obtain ⟨z,hd,xs,rel,dd⟩:=nc I.hok e
  refine wpAny_notIn_heap (tupleKind_room_in1 hu) (ny I.hok eb) hd dd ?_
  have q:=(rel.val k).isSome_eq
  rw [Option.isSome_map] at q
  rw [<-q,<-l]
  exact h _ (I.tok _)
theorem zY {h':Heap} {t':Nat} {ob:HO} (I:Inv X pz σ H s) (mu:pB (H a)) (hs:Heap.SameBut a s.heap h') (he:∃q,h'.get? a=some q) (new:cm X.prog X.w (upd H a ob) h' a ob) :
  Inv X pz σ (upd H a ob) { s with heap:=h',toks:=t' }:=
 I.write (x:=a) (e:=a) mu (.inl rfl) (fun b q hb z=>(hs.2 b hb).trans z) he new
theorem D8 {P:Program} {w:World} {H':Hp} {h':Heap} {kvs:List (aD × V)} {vs:List (aD × Value)} (z:kvs.length<=sizeLine) (hd:(a == sysModules)=false) (rel:KV kvs vs) (dd:h'.DictOf (fY P w) a vs) :
  cm P w H' h' a (.dK kvs):=⟨z,hd,vs,rel,dd⟩
theorem Jp {H':Hp} {Q:Unit->Shared->Prop} (hu:A.units + 1 < cLine) (I:Inv X pz σ H s) (g:gH H a y v H') (ry:aw y u) (rv:aw v r) (h:∀s',Inv X pz σ H' s'->Q () s') :
  wpAny (model X.prog X.w) A (setItem (.ref a) u r) Q E s:=by
 rcases g with ⟨kvs,k,e,ey,l,eH⟩ | ⟨kvs,k,b,e,ey,eb,l,eH⟩
 ·subst ey eH
  obtain ⟨z,hd,vs,rel,dd⟩:=Dr I.hok e
  have hz:vs.length<=sizeLine:=by rw [<-rel.length]; exact z
  have hl:(cY kvs k v).length<=sizeLine:=by have:=Cs kvs k v; omega
  refine wpAny_setItem_pairs (hsz:=hz) (nq ry) dd fun h' dd' hs=>h _ ?_
  have he:∃q,h'.get? a=some q:=let ⟨q,_,_,hq,_⟩:=dd'; ⟨q,hq⟩
  exact zY I (by rw [e]; exact True.intro) hs he (D8 hl hd (rel.put k rv) dd')
 ·subst ey eH
  cases (show u=Value.ref b from ry)
  obtain ⟨z,hd,xs,rel,dd⟩:=Ds I.hok e
  have hz:xs.length<=sizeLine:=by rw [<-Paired.length rel]; exact z
  have hl:(cY kvs k v).length<=sizeLine:=by have:=Cs kvs k v; omega
  refine wpAny_setItem_heap (hsz:=hz) (tupleKind_room_in1 hu) (ny I.hok eb) dd fun h' dd' hs=>h _ ?_
  obtain ⟨q,es,ep,hq,h2,h3,h4,_,h5⟩:=dd'
  refine zY I (by rw [e]; exact True.intro) hs ⟨q,hq⟩ ⟨hl,hd,_,(rel.put k eb rv).keeps fun c ys ec=>?_,q,es,ep,hq,h2,h3,h4,h5⟩
  rw [bH (DH ec e (fun z=>nomatch z))]
  exact ec
end
section
variable {X:Cx} {pz:List (Addr × Obj)} {σ:Ml} {H:Hp} {s:Shared} {a:Addr} {kvs:List (aD × V)} {k:aD} {u:Value} {A:Around} {E:Value->Shared->Prop}
theorem Dq {Q:Value->Shared->Prop} (I:Inv X pz σ H s) (e:Rd H a (.dK kvs)) (h:∀t s',Inv X pz σ H s'->Q (.int kvs.length t) s'):wpAny (model X.prog X.w) A (call (.builtin "len") [.ref a]) Q E s:=by
 obtain ⟨z,hd,vs,rel,dd⟩:=mn I.hok e
 refine call_len_dict hd dd (by rw [<-rel.length]; rw [sizeLine_eq] at z; omega) ?_
 rw [<-rel.length]
 exact h _ _ (I.tok _)
end
theorem KZ {X:Cx} {pz:List (Addr × Obj)} {σ:Ml} {H:Hp} {s:Shared} {a:Addr} {y:V} {o:Option V} (I:Inv X pz σ H s) (g:eN H a y o):s.TypeIs (.ref a) "dict" := by
 rcases g with ⟨kvs,k,e,_,_⟩ | ⟨kvs,k,b,e,_,_,_⟩
 ·obtain ⟨_,_,vs,_,dd⟩:=mn I.hok e
  exact dd.typeIs
 ·obtain ⟨_,_,xs,_,dd⟩:=nc I.hok e
  exact dd.typeIs
theorem IG {P:Program} {w:World} {H:Hp} (h:Heap) (hb:sysModules < h.objs.size):cm P w H (h.push { cls:=.type "dict",data:=.dict #[] }) h.objs.size (.dK []):=
 ⟨Nat.zero_le _,beq_eq_false_iff_ne.mpr (Ne.symm (Nat.ne_of_lt hb)),[],.nil,Heap.DictOf.new h⟩
def GB:TE:=fun _ H Q=>∀p,H p=none->Q (.ref p) (upd H p (.dK []))
section
variable {X:Cx} {pos:Pos}
theorem Ig:PE X (.Dict [] [] pos) GB:=fun pz s σ H Q I h=>
 wpAny_Dict_empty ⟨.ref s.heap.objs.size,_,I.laid (a:=s.heap.objs.size) (o:=.dK []) (t':=s.toks) (fun _ _ q=>Heap.get?_push_of_some _ q) (Nat.le_refl _) (IG s.heap I.big),rfl,h _ (I.hok.fresh (Nat.le_refl _))⟩
end
structure M1 (X:Cx) (o:Expr) (m:Str) (apos:Pos) (e:Expr) (cpos:Pos):Prop where
 base:attributeBase o m X.env (eval o X.env)=eval o X.env
 few:((backTo cpos (starEach [e] X.env)).all (fun x=>! x.1) && (backToKw cpos (keywordEach [] X.env)).all (fun x=>x.1.isSome)
  && decide (([e]:List Expr).length + ([]:List Keyword).length + (if ([]:List Keyword).isEmpty then 0 else 1) < 30))=true
 line:(apos.endLine == cpos.line)=true
 trees:backTo cpos (starEach [e] X.env)=[(false,eval e X.env)]
structure M2 (X:Cx) (o:Expr) (m:Str) (apos:Pos) (e f:Expr) (cpos:Pos):Prop where
 base:attributeBase o m X.env (eval o X.env)=eval o X.env
 few:((backTo cpos (starEach [e,f] X.env)).all (fun x=>! x.1) && (backToKw cpos (keywordEach [] X.env)).all (fun x=>x.1.isSome)
  && decide (([e,f]:List Expr).length + ([]:List Keyword).length + (if ([]:List Keyword).isEmpty then 0 else 1) < 30))=true
 line:(apos.endLine == cpos.line)=true
 trees:backTo cpos (starEach [e,f] X.env)=[(false,eval e X.env),(false,eval f X.env)]
end L2
namespace Att
open PySem PySem.W PySem.Calls PyProof.Rows
theorem LB {P:Params} {h:Heap}:∀(ns:List Int) (vs:List Value),WellAll P h vs (ns.map WData.int)->IntsAre vs ns:=by
 intro ns
 induction ns with
 | nil=>
  intro vs w
  rw [List.map_nil] at w
  cases w
  exact .nil
 | cons n ns ih=>
  intro vs w
  rw [List.map_cons] at w
  cases w with
  | cons a b=>
   cases a
   exact .cons _ _ (ih _ b)
theorem KA {l:OpenLaw} {n:Nat} (hn:l.most=some n) {P:Params} {h:Heap} {args:List WData} {vals:List Value}
  (hpre:l.row.toRowW.claim.pre args=true) (hwl:WellAll P h vals args) :
  ∃a vs ns,vals=[Value.ref a]/\args=[WData.list (ns.map WData.int)]/\h.get? a=some { cls:=.type "list",data:=.seq vs.toArray }/\IntsAre vs ns/\ns.length<=n:=by
 have hsh:WShape.hasAll [] args [.list .int]=true:=(pre_splitW hpre).1
 have hc:l.pre.holds [] { args:=args }=true:=(pre_splitW hpre).2
 obtain ⟨d,r,rfl,h1,h2⟩:=hasAllW_cons hsh
 obtain rfl:=hasAllW_nil h2
 obtain ⟨xs,rfl,h3⟩:=hasW_list h1
 obtain ⟨ns,rfl⟩:=items_int h3
 have hlen:ns.length<=n:=by
  unfold OpenLaw.pre at hc
  have h4:(WTm.not (.lt (.lit (.int (n:Int))) (.len (.arg 0)))).holds [] { args:=[.list (ns.map .int)] }=true:=by
   have h4:=(holds_andW hc).1
   rw [hn] at h4
   exact h4
  have h5:=condW_of h4 (w_not (w_lt w_lit (w_len_list (w_arg rfl))))
  rw [List.length_map] at h5
  refine Nat.le_of_not_lt fun q=>?_
  have q':(n:Int) < ((ns.length:Nat):Int):=by omega
  first
   | (rw [decide_eq_true q'] at h5; exact absurd h5 (by decide))
   | (simp at h5; omega)
 cases hwl with
 | cons w1 w2=>
  cases w2
  cases w1 with
  | list ho hall=>exact ⟨_,_,ns,rfl,rfl,ho,LB ns _ hall,hlen⟩
theorem JR (l:OpenLaw) (args:List WData):l.row.toRowW.claim.post args (.bool true) args=true:=
 postW_of (r:=l.row.toRowW) (X:=(true == true))
  (show WShape.has [] (.bool true) .bool=true by first | rfl | decide | simp [WShape.has,WShape.arms,WShape.armsAll])
  (show (WTm.eq .res (.lit (.bool true))).value [] { args:=args,res:=some (.bool true),after:=args }=some (.bool (true == true)) from w_eq_bool (w_res rfl) w_lit) rfl
theorem attach_call {l:OpenLaw} {n:Nat} {q:Program} {loose:List Str} {XP:(Str->Option Value)->Heap->Prop} {YP:World->Heap->Prop} {d:DefRec}
  (hn:l.most=some n) (hdf:d.params.defaults=[])
  (call:∀(w:World) (s₀ s₁:Shared) (mg mb:Str->Option Value) (fa:Addr) (o:Obj) (pm cd doc:Value) (a:Addr) (vs:List Value) (ns:List Int),
   Ground q loose [] XP w s₀ mg mb s₁.heap->YP w s₁.heap ->
   s₁.heap.get? fa=some o->o.data=.func (docDef d.name d.params d.body d.scope pm cd doc)->s₁.heap.CodeRec cd d.name->mg d.name=some (.ref fa) ->
   s₁.heap.get? a=some { cls:=.type "list",data:=.seq vs.toArray }->IntsAre vs ns->ns.length<=n->s₁.gens = #[] ->
   codeAny (model l.prog w) callerA (.call (.ref fa) ⟨[.ref a],[]⟩) (fun r s'=>r=.ok (.ret (.bool true))/\OldK s₁.heap s'.heap/\s'.os=s₁.os/\AllBare s'.gens) s₁) :
  WalkO q loose XP YP l.row.toRowW d [] (fun f vs=>PySem.call f vs):=by
 intro w s₀ s₁ mg mb G Y fa o pm cd doc dV kV ho hd hcd hD hmg hg args vals as hpre hlay hrd hwl hlo
 obtain rfl:dV=.none:=Dflts.none hD hdf
 obtain rfl:kV=.none:=Dflts.noKw hD
 obtain ⟨a,vs,ns,rfl,rfl,hobj,hints,hlen⟩:=KA hn hpre hwl
 refine enter_call (codeAny_mono (call w s₀ s₁ mg mb fa o pm cd doc a vs ns G Y ho (fd_plain hd) hcd hmg hobj hints hlen hg) fun r s' hq=>?_)
 obtain ⟨rfl,h2,h3,h4⟩:=hq
 exact ⟨.inl ⟨.bool true,.bool true,[],rfl,fun _=>rfl,.bool true,JR l _,fun _=>⟨List.Pairwise.nil,fun _ hm=>(nomatch hm)⟩⟩,h2,h3,h4⟩
end Att
namespace L2
open PySem PySem.Spec PyProof.Rows
theorem BL:∀{vs:List Value} {ns:List Int},IntsAre vs ns->ap (ns.map V.int) vs
 | _,_,.nil=>.nil
 | _,_,.cons n t h=>.cons ⟨t,rfl⟩ (BL h)
def l8 (H:Hp):Prop:=∀b,H b=none\/∃o xs,H b=some (.frz o (.lst xs))
theorem IR {P:Program} {w:World} {K:W.Frag} {mg mb:Str->Option Value} {CX:iz} {k:Nat} {fa a:Addr} {fd:FuncData} {x:Str} {sp:Sp} {s₁:Shared} {vs:List Value} {ns:List Int}
  (KX:K.In s₁.heap) (hns:s₁.heap.Ns mainGlobals mg) (hb:s₁.heap.Ns builtinsNs mb) (hbb:∀x:Str,x≠"__name__"->mb x=bootBuiltins x) (hlim:s₁.heap.NoLimit) (hg:s₁.gens = #[])
  (ha:s₁.heap.get? a=some { cls:=.type "list",data:=.seq vs.toArray }) (hi:IntsAre vs ns) (hl:ns.length<=sizeLine) (hr:Room k callerA)
  (F:∀base:Heap,K.In base->base.Ns mainGlobals mg->FnOk P w K mg base CX k fa fd [x] sp) (hbind:∀(s:Shared) (u:Value),BindsTo s fd ⟨[u],[]⟩ [(x,u)])
  (hsp:∀H:Hp,l8 H->aZ K H a (ns.map V.int)->sp [.ref a] H (fun v _=>v=.bl true) fun _ _ _=>False)
  (hCX:∀H e s',CX [] H s₁ (fun _ _ _=>False) e s'->False) :
  codeAny (model P w) callerA (.call (.ref fa) ⟨[.ref a],[]⟩) (fun r s'=>r=.ok (.ret (.bool true))/\OldK s₁.heap s'.heap/\s'.os=s₁.os/\AllBare s'.gens) s₁:=by
 have rv:=BL hi
 have lenV:=hi.length
 have core:∀H:Hp,l8 H->aZ K H a (ns.map V.int)->cG P w H s₁.heap->(∀b,H b≠none->b=a)->(H a≠none->K.lookup a=none) ->
   codeAny (model P w) callerA (.call (.ref fa) ⟨[.ref a],[]⟩) (fun r s'=>r=.ok (.ret (.bool true))/\OldK s₁.heap s'.heap/\s'.os=s₁.os/\AllBare s'.gens) s₁:=by
  intro H hO hS hok hA hK
  have base_of:∀{b:Addr} {o:Obj},s₁.heap.get? b=some o->H b=none->(fD s₁.heap H).get? b=some o:=fun e n=>IP e n
  have noA:∀{b:Addr} {o:Obj} {es:Array DictEntry} {ep:Nat},s₁.heap.get? b=some o->o.data=.dict es ep->H b=none:=fun {b o es ep} e d=>by
   cases q:H b with
   | none=>rfl
   | some u=>
    have e':b=a:=hA b (by rw [q]; simp)
    subst e'
    rw [ha] at e; cases e
    have d':Data.seq vs.toArray _=Data.dict es ep:=d
    cases d'
  have nsK:∀{b:Addr} {m:Str->Option Value},s₁.heap.Ns b m->(fD s₁.heap H).Ns b m:=fun {b m} ⟨o,es,ep,e,d,r⟩=>⟨o,es,ep,base_of e (noA e d),d,r⟩
  have hKb:K.In (fD s₁.heap H):=fun b o e=>base_of (KX b o e) (by
   cases q:H b with
   | none=>rfl
   | some u=>
    have e':b=a:=hA b (by rw [q]; simp)
    subst e'
    rw [hK (by rw [q]; simp)] at e; cases e)
  have hM:Mod K mg (fD s₁.heap H):=⟨hKb,nsK hns,⟨mb,nsK hb,hbb⟩,let ⟨mc,h1,h2⟩:=hlim; ⟨mc,nsK h1,h2⟩⟩
  have e0:Env0 P w K mg (fD s₁.heap H) callerA [] s₁ H:=⟨rfl,hM,fun b o e=>Hm e,Nat.le_of_eq (Jt _ _),trivial,fun b hb=>absurd (show b∈([]:List Addr) from hb) (by simp),hok,.of_eq hg⟩
  refine codeAny_mono ((F _ hKb (nsK hns)).run callerA [] s₁ H ⟨[.ref a],[]⟩ [.ref a] [.ref a] _ _ hr e0 (hbind s₁ (.ref a)) (.cons rfl .nil) (hsp H hO hS)) fun r s' h=>?_
  cases r with
  | error e=>exact (hCX H e s' h).elim
  | ok fl=>
   cases fl with
   | next=>exact False.elim h
   | brk=>exact False.elim h
   | cont=>exact False.elim h
   | ret u=>
    obtain ⟨v,H',os,bare,un,hok',r',q⟩:=h
    have q':v=.bl true:=q
    subst q'
    obtain rfl:u=Value.bool true:=r'
    refine ⟨rfl,OldK.of_keep fun b o e=>?_,os,bare⟩
    cases q:H b with
    | none=>exact un.keep b o e q (by intro z; exact absurd (show b∈([]:List Addr) from z) (by simp)) (by simp)
    | some u=>
     rcases hO b with z | ⟨ob,xs,z⟩
     ·rw [q] at z; cases z
     ·have z2:=un.frzs b ob _ z
      obtain ⟨e1,_⟩:=hok b _ z
      obtain ⟨e2,_⟩:=hok' b _ z2
      rw [e] at e1; cases e1
      exact e2
 cases hk:K.lookup a with
 | some o=>
  have e:=KX a o hk
  rw [ha] at e
  cases e
  refine core (fun _=>none) (fun _=>.inl rfl) (.inr ⟨_,vs.toArray,_,hk,rfl,rfl,rfl,by rw [List.size_toArray,lenV]; exact hl,by simpa using rv⟩) (fun b u z=>by have z':(none:Option HO)=some u:=z; cases z') (fun b z=>absurd rfl z) fun z=>absurd rfl z
 | none=>
  refine core (fun b=>if b=a then some (.frz { cls:=.type "list",data:=.seq vs.toArray } (.lst (ns.map V.int))) else none) (fun b=>?_) (.inl (.inr ⟨{ cls:=.type "list",data:=.seq vs.toArray },if_pos rfl⟩)) (fun b u z=>?_) (fun b z=>?_) fun _=>hk
  ·by_cases hb:b=a
   ·exact .inr ⟨_,_,if_pos hb⟩
   ·exact .inl (if_neg hb)
  ·by_cases hb:b=a
   ·have z':=(if_pos hb).symm.trans z
    cases z'
    subst hb
    exact ⟨ha,by rw [List.length_map]; exact hl,vs,_,rv,ha⟩
   ·have z':=(if_neg hb).symm.trans z
    cases z'
  ·by_cases hb:b=a
   ·exact hb
   ·exact absurd (if_neg hb) z
abbrev aO {K:W.Frag} {h:Heap} (_:K.In h):W.Frag:=K
theorem j6 {l:W.OpenLaw} {n k:Nat} {q:Program} {loose:List Str} {XP:(Str->Option Value)->Heap->Prop} {YP:World->Heap->Prop} {d:DefRec} {K:Params->W.Frag} {CX:World->iz} {sp:World->Sp} {x:Str}
  (hn:l.most=some n) (hn2:n<=sizeLine) (hdf:d.params.defaults=[]) (hr:Room k callerA)
  (hY:∀(w:World) (h:Heap),YP w h->(K w.params).In h)
  (F:∀(w:World) (mg:Str->Option Value) (fa:Addr) (h:Heap),(K w.params).In h->h.Ns mainGlobals mg->mg d.name=some (.ref fa) ->
   ∃fd:FuncData,(∀(s:Shared) (u:Value),BindsTo s fd ⟨[u],[]⟩ [(x,u)]) /\
    ∀base:Heap,(K w.params).In base->base.Ns mainGlobals mg->FnOk l.prog w (K w.params) mg base (CX w) k fa fd [x] (sp w))
  (hsp:∀(w:World) (H:Hp) (a:Addr) (ns:List Int),ns.length<=n->l8 H->aZ (K w.params) H a (ns.map V.int)->sp w [.ref a] H (fun v _=>v=.bl true) fun _ _ _=>False)
  (hCX:∀(w:World) (H:Hp) (s:Shared) (e:Value) (s':Shared),CX w [] H s (fun _ _ _=>False) e s'->False) :
  W.WalkO q loose XP YP l.row.toRowW d [] (fun f vs=>PySem.call f vs):=by
 refine Att.attach_call hn hdf fun w s₀ s₁ mg mb fa o pm cd doc a vs ns G Y ho hd hcd hmg hobj hints hlen hg=>?_
 have KX:=hY w _ Y
 obtain ⟨fd,hb,hF⟩:=F w mg fa _ KX G.T.g hmg
 exact IR KX G.T.g G.T.b G.T.builtins G.T.nolimit hg hobj hints (Nat.le_trans hlen hn2) hr hF hb (fun H hO hS=>hsp w H a ns hlen hO hS) fun H e s'=>hCX w H s₁ e s'
def jV (s:Stmt):Arguments:=match s with
 | .FunctionDef _ a _ _ _ _ _ _ _ _=>a
 | _=>{ posonlyargs:=[],args:=[],vararg:=none,kwonlyargs:=[],kw_defaults:=[],kwarg:=none,defaults:=[] }
def hX (s:Stmt):List Stmt:=match s with
 | .FunctionDef _ _ b _ _ _ _ _ _ _=>b
 | _=>[]
def az (s:Stmt):Scope:=match s with
 | .FunctionDef _ _ _ _ _ _ sc _ _ _=>sc
 | _=>{ kind:=.function,names:=[],isGenerator:=false,isCoroutine:=false }
abbrev bP:iz:=fun _ _ _ _ _ _=>False
abbrev E0:XK:=fun _ _ _=>False
theorem EH {X:Cx}:sK bP X E0:=fun _ _ _ _ _ _ _ h=>h.elim
structure Fun (K:W.Frag) (x qual:Str) (st:Stmt) (f:Addr) (fd:FuncData):Prop where
 ex:∃(oc:Value) (od:Option Addr) (kV doc pm:Value) (an:Option Addr) (cdv ct:Value) (osl:Array (Option Value)),
  fd=W.fnOf x qual (jV st) (hX st) (az st) .none kV doc pm an cdv ct/\K.lookup f=some ⟨oc,od,.func fd,osl⟩/\W.codeIn K cdv qual=true
 kp:W.keepIn K (.ref f)=true
section
variable {P:Program} {w:World} {K:W.Frag} {mg:Str->Option Value} {base:Heap}
theorem Fun.ok {x qual:Str} {st:Stmt} {f:Addr} {fd:FuncData} {N ps:List Str} {k:Nat} {sp:Sp} (F:Fun K x qual st f fd) (S:FnScope N ps (az st)) (len:∀vs H Q E,sp vs H Q E->vs.length=ps.length)
  (hbody:∀(cdv:Value) (A:Around) (outer:List Env) (s:Shared) (H:Hp) (vs:List V) (Q:VK) (E:XK),Room k (A.deeper (envOfC qual (az st) s.heap.objs.size f cdv))->sp vs H Q E ->
   ∃t,cQ (aU bP P w K mg base N qual (az st) f cdv A outer s H E).nox (hX st) t/\t { nx:=fun _ H'=>Q .non H',rt:=Q } (bV N vs) H):FnOk P w K mg base bP (k + 1) f fd ps sp:=by
 obtain ⟨oc,od,kV,doc,pm,an,cdv,ct,osl,rfl,lk,hcd⟩:=F.ex
 refine Dv lk hcd S len fun A outer s H vs Q E hr hsp=>?_
 obtain ⟨t,h,q⟩:=hbody cdv A outer s H vs Q E hr hsp
 exact ⟨t,h.nox,q⟩
theorem Fun.binds {x qual:Str} {st:Stmt} {f:Addr} {fd:FuncData} {ps:List Str} (F:Fun K x qual st f fd)
  (h:∀(kV doc pm:Value) (an:Option Addr) (cdv ct:Value) (us:List Value),us.length=ps.length->bindArgs (W.fnOf x qual (jV st) (hX st) (az st) .none kV doc pm an cdv ct) ⟨us,[]⟩=pure (ps.zip us)):jt K fd ps []:=by
 obtain ⟨oc,od,kV,doc,pm,an,cdv,ct,osl,rfl,lk,hcd⟩:=F.ex
 exact .all (h kV doc pm an cdv ct)
theorem Ee {x qual:Str} {st:Stmt} {f:Addr} {oc:Value} {od an:Option Addr} {osl:Array (Option Value)} {kV doc pm cdv ct:Value} (l:K.lookup f=some ⟨oc,od,.func (W.fnOf x qual (jV st) (hX st) (az st) .none kV doc pm an cdv ct),osl⟩)
  (c:W.codeIn K cdv qual=true) (k:W.keepIn K (.ref f)=true):Fun K x qual st f (W.fnOf x qual (jV st) (hX st) (az st) .none kV doc pm an cdv ct):=⟨⟨oc,od,kV,doc,pm,an,cdv,ct,osl,rfl,l,c⟩,k⟩
end
theorem yM {A:Around} {k:Nat} (hr:Room k A):A.units + 1 < cLine:=Nat.lt_of_le_of_lt (Nat.add_le_add_left (by decide:1<=64) _) hr.units
section
variable {X:Cx}
theorem Jz:dH X (.builtin "len") (fun xs H Q=>∃a kvs,xs=[V.ref a]/\Rd H a (.dK kvs)/\Q (.int kvs.length) H):=by
 intro pz s σ H xs us Q I r h
 obtain ⟨a,kvs,rfl,ha,q⟩:=h
 obtain ⟨u,rfl,ru⟩:=fL r
 cases ru
 exact Dq I ha fun t s' I'=>⟨.int kvs.length,H,I',⟨t,rfl⟩,q⟩
end
def Same (H H':Hp):Prop:=∀b o,H b=some o->H' b=some o
theorem Same.trans {H H1 H2:Hp} (a:Same H H1) (b:Same H1 H2):Same H H2:=fun c o h=>b c o (a c o h)
theorem Same.free {H H':Hp} (e:Same H H') {l:Addr} (h:H' l=Option.none):H l=Option.none:=by
 cases q:H l with
 | none=>rfl
 | some o=>
  rw [e l o q] at h
  cases h
theorem Same.seq {K:W.Frag} {H H':Hp} {a:Addr} {xs:List V} (e:Same H H') (h:aZ K H a xs):aZ K H' a xs:=by
 rcases h with (h | ⟨o,h⟩) | h
 ·exact .inl (.inl (e _ _ h))
 ·exact .inl (.inr ⟨o,e _ _ h⟩)
 ·exact .inr h
end L2
end
namespace DL
open PySem
section
open PySem.SeqAt
open PySem.AutoSeq1 (wpAny_loadPart')
open PySem.MeetsSeq PySem.MeetsSeq2 PySem.MeetsSeq3
def sT (items:Array Value) (x:Value):Nat->Option Fin × Unit->Sem (ForInStep (Option Fin × Unit)):=fun i _=>match items[i]? with
 | some y=>do
  let c <-eqBool y x
  if c=true then do
    let r <-retInt i
    pure (ForInStep.done (some r,()))
   else pure (ForInStep.yield (none,()))
 | _=>pure (ForInStep.yield (none,()))
theorem Hg {prog:Program} {w:World} {A:Around} {E:Value->Shared->Prop} {s:Shared} {items:Array Value} {x:Value} {e:Value->Bool} {j:Nat} (hj:j < items.size) (hit:e items[j]=true) (he:∀y,y∈items->EqAt A s y x (e y))
  {Q:Option Fin × Unit->Shared->Prop} (hq:Q (some (.done (.ret (.int j s.toks))),()) { s with toks:=s.toks + 1 }) :
  ∀(k i:Nat),j=i + k->(∀m (hm:m < items.size),i<=m->m < j->e items[m]=false)->wpAny (model prog w) A (forIn (List.range' i (items.size - i)) (none,()) (sT items x)) Q E s:=by
 intro k
 induction k with
 | zero=>
  intro i hk _
  obtain rfl:j=i:=by omega
  obtain ⟨r,hr⟩:∃r,items.size - j=r + 1:=⟨items.size - j - 1,by omega⟩
  rw [hr,List.range'_succ,List.forIn_cons]
  refine wpAny_bind ?_
  unfold sT
  rw [show items[j]? = some items[j] by simp [hj]]
  refine wpAny_bind (he _ (Array.getElem_mem hj) prog w _ _ ?_)
  rw [hit,if_pos rfl]
  refine wpAny_bind (m:=retInt j) ?_
  unfold retInt
  wp_walk
  exact hq
 | succ k ih=>
  intro i hk hno
  have hi:i < items.size:=by omega
  obtain ⟨r,hr⟩:∃r,items.size - i=r + 1:=⟨items.size - i - 1,by omega⟩
  rw [hr,List.range'_succ,List.forIn_cons]
  refine wpAny_bind ?_
  unfold sT
  rw [show items[i]? = some items[i] by simp [hi]]
  refine wpAny_bind (he _ (Array.getElem_mem hi) prog w _ _ ?_)
  rw [hno i hi (Nat.le_refl _) (by omega),if_neg Bool.false_ne_true]
  refine wpAny_pure ?_
  have:=ih (i + 1) (by omega) (fun m hm h1 h2=>hno m hm (by omega) h2)
  rw [show items.size - (i + 1)=r by omega] at this
  exact this
theorem Ly (l:Addr) (items:Array Value) (n:Nat) (dd:Option Addr) (sl:Array (Option Value)) (x:Value) (e:Value->Bool) (j:Nat) (hj:j < items.size)
  (hit:e items[j]=true) (hno:∀m (hm:m < items.size),m < j->e items[m]=false) :
  Meets (Builtin.«tuple.index» ⟨[.ref l,x],[]⟩)
   (fun A R s=>s.heap.get? l=some { cls:=.type "tuple",dict:=dd,data:=.seq items n,slots:=sl }/\(∀y,y∈items->EqAt A.in1 s y x (e y))/\R (.ok (.ret (.int j s.toks))) { s with toks:=s.toks + 1 }):=by
 intro prog w A R s h
 obtain ⟨hp,g,d,tk,os⟩:=s; obtain ⟨hl,he,h⟩:=h
 unfold Builtin.«tuple.index»
 simp only [Std.Legacy.Range.forIn_eq_forIn_range']
 generalize hF : @forIn Sem (List Nat) Nat _ (Option Fin × Unit)=F
 wp_walk using wpAny_loadPart' hl
 subst hF
 rw [show ([:min items.size items.size]:Std.Legacy.Range).size=items.size - 0 by simp [Std.Legacy.Range.size]]
 refine Hg hj hit he ?_ j 0 (by omega) (fun m hm _ h2=>hno m hm h2)
 exact wpAny_pure h
end
end DL
namespace DL
open PySem PyProof.Rows
theorem KQ:isSubtype (.type "tuple") (.type "set")=pure false:=by rw [isSubtype_type]; kernel_rfl
theorem Lf:isSubtype (.type "tuple") (.type "frozenset")=pure false:=by rw [isSubtype_type]; kernel_rfl
section
variable {prog:Program} {w:World} {A:Around} {E:Value->Shared->Prop} {s:Shared}
abbrev eu (led:Bool):Obj:={ cls:=.type "set",dict:=none,data:=.set #[] 0 (.fresh 0 0 led) }
def sL (prog:Program) (w:World) (s:Shared) (ns:List Int) (n:Nat) (h':Heap):Prop:=
 h'.SetOf (intKind prog w) s.heap.objs.size (fun k=>(firstMet (fun i=>ns.getD i 0) n).any (· == k)) (firstMet (fun i=>ns.getD i 0) n).length/\∀b o,b < s.heap.objs.size->s.heap.get? b=some o->h'.get? b=some o
set_option maxHeartbeats 3200000 in
theorem Li {t:Addr} {items:Array Value} {ns:List Int} {led:Bool} {R:Result->Shared->Prop} (hh:A.handled=none) (ht:s.heap.IsTuple t items) (hi:IntsAre items.toList ns) (hb:items.size + 1 < scanBound)
  (hR:∀h' tk,sL prog w s ns items.size h'->R (.ok (.ret .none)) { s with heap:=h',toks:=tk }) :
  wpAny (model prog w) A.in1 (Builtin.«set.__init__» ⟨[.ref s.heap.objs.size,.ref t],[]⟩) (fun fin s'=>match fin with | .done f=>R (.ok f) s' | .again c'=>c'.quiet=true/\codeAny (model prog w) A c' R s') (fun e s'=>R (.error e) s') { s with heap:=s.heap.push (eu led) }:=by
 obtain ⟨⟨ocls,odict,odata,oslots⟩,hol,hcl,nl,hdl⟩:=ht
 simp only at hcl hdl
 subst hcl; subst hdl
 have hol1:=Heap.get?_push_of_some (eu led) hol
 have g1:=KQ
 have g2:=Lf
 have g3:(Value.type "tuple" == Value.type "dict")=false:=by decide
 have hT1:(s.heap.push (eu led)).IsTuple t items:=⟨_,hol1,rfl,nl,rfl⟩
 have hS:(s.heap.push (eu led)).get? s.heap.objs.size=some (eu led):=Heap.get?_push_size _ rfl
 unfold Builtin.«set.__init__» noKeywords Builtin.Frozenset.updateFrom
 generalize hPI:pyIter=PI
 wp_walk
 subst hPI
 refine wpAny_pyIter_tuple hT1 (wpAny_bind (wpAny_runValue ?_))
 have ltT:t < s.heap.objs.size:=Heap.lt_size hol
 have z1:(s.heap.push (eu led)).objs.size=s.heap.objs.size + 1:=Heap.size_push ..
 have neI:t≠(s.heap.push (eu led)).objs.size:=by rw [z1]; exact Nat.ne_of_lt (Nat.lt_succ_of_lt ltT)
 have hout:s.heap.objs.size∉[(s.heap.push (eu led)).objs.size,t]:=by
  rw [z1]
  simp only [List.mem_cons,List.not_mem_nil,or_false,not_or]
  exact ⟨Nat.ne_of_lt (Nat.lt_succ_self _),Nat.ne_of_gt ltT⟩
 have hval:∀(i:Nat) (v:Value),items[i]? = some v->∃tk,v=.int ((fun i=>ns.getD i 0) i) tk:=fun i v hv=>IntsAre.int_at hi i v (by rw [Array.getElem?_toList]; exact hv)
 refine codeAny_set_update_loopS ((Walks.tuple (A:=A.in1.in1) hh _ t neI items).toS) s.heap.objs.size hout (fun i=>ns.getD i 0) hval hb (items.size - 0) 0 _ (by omega) (Nat.zero_le _) ⟨⟨_,Heap.get?_push_size _ rfl,rfl,rfl⟩,hT1.push _⟩ ?_ fun s' hm hS'=>?_
 ·exact SetOf_congr ((setObjOf_fresh (knd:=intKind prog w) led).setOf (Heap.get?_push_of_some _ hS) (by unfold scanBound; omega)) (fun _=>rfl) rfl
 ·obtain ⟨h',g',d',tk',os'⟩:=s'
  obtain rfl:g'=s.gens:=hm.gens
  obtain rfl:d'=s.drawn:=hm.drawn
  obtain rfl:os'=s.os:=hm.os
  show wpAny _ _ _ _ _ _
  refine wpAny_pure ?_
  show wpAny _ _ (ret Value.none) _ _ _
  refine wpAny_pure (hR h' tk' ⟨hS',fun b o hb2 e=>?_⟩)
  refine hm.heap b o ?_ (Heap.get?_push_of_some _ (Heap.get?_push_of_some _ e))
  rw [z1]
  simp only [List.mem_cons,List.not_mem_nil,or_false,not_or]
  exact ⟨Nat.ne_of_lt hb2,Nat.ne_of_lt (Nat.lt_succ_of_lt hb2)⟩
set_option maxHeartbeats 3200000 in
theorem KW {t:Addr} {items:Array Value} {ns:List Int} {Q:Value->Shared->Prop} (hh:A.handled=none) (ht:s.heap.IsTuple t items) (hi:IntsAre items.toList ns) (hb:items.size + 1 < scanBound)
  (h:∀h' tk,sL prog w s ns items.size h'->Q (.ref s.heap.objs.size) { s with heap:=h',toks:=tk }):wpAny (model prog w) A (call (.type "set") [.ref t]) Q E s:=by
 obtain ⟨c,tl,hmro⟩:=F.called_set.mro
 have a1:=F.called_set.made
 have a2:=F.called_set.sub
 refine wpAny_call (codeAny_of_tree ?_)
 show wpAny _ _ (callAny (.type "set") _) _ _ _
 refine wpAny_pure ⟨Code.quiet_builtin _ (by decide +kernel),codeAny_builtin F.entry_type_call ?_⟩
 rw [Around.under_plain (weight_type_call_type "set" [.ref t] []) rfl]
 have a3:=F.called_set.notType
 have a4:=F.called_set.canCreate
 have a5:=F.typeCall_set_1 (.ref t)
 repeat (any_goals (first | assumption | wp_step))
 refine codeAny_mono (code_set_new_1 (.ref t) (E:=E) (Q₁:=fun obj s₁=>∃led:Bool,obj=.ref s.heap.objs.size/\s₁ = { s with heap:=s.heap.push (eu led) }) fun led=>⟨led,rfl,rfl⟩) fun r s₁ hr=>?_
 cases r with
 | error e=>exact hr
 | ok fl=>
  cases fl with
  | ret obj=>
   obtain ⟨led,rfl,rfl⟩:=hr
   have hT:Shared.TypeIs { s with heap:=s.heap.push (eu led) } (.ref s.heap.objs.size) "set" := ⟨_,Heap.get?_push_size _ rfl,rfl⟩
   have b1:=F.called_set.init.lookup
   have b2:=F.called_set.init.bind (.ref s.heap.objs.size)
   repeat (any_goals (first | assumption | wp_step))
   refine codeAny_mono (codeAny_call_builtin (R:=wants (fun r s₂=>r=.none/\∃h' tk,s₂ = { s with heap:=h',toks:=tk }/\sL prog w s ns items.size h') E) F.called_set.init.plain F.entry_set_init (check_set_init_1 hT ?_)) fun r₂ s₂ hr₂=>?_
   ·refine Li (A:=A.in1) (led:=led) hh ht hi hb fun h2 tk he=>?_
    exact ⟨rfl,h2,tk,rfl,he⟩
   ·cases r₂ with
    | error e=>exact hr₂
    | ok fl₂=>
     cases fl₂ with
     | ret r=>
      obtain ⟨rfl,h',tk,rfl,he⟩:=hr₂
      repeat (any_goals (first | assumption | wp_step))
      exact h _ _ he
     | _=>exact hr₂.elim
  | _=>exact hr.elim
end
end DL
namespace DL
open PySem PyProof.Rows PySem.W
def zO {α:Type} (c:Nat->Nat->Bool):KasT α->α
 | .ret a=>a
 | .ask i j k=>zO c (k (c i j))
inductive Asks (n:Nat) {α:Type} (P:α->Prop):KasT α->Prop where
 | ret {a:α}:P a->Asks n P (.ret a)
 | ask {i j:Nat} {k:Bool->KasT α}:i < n->j < n->(∀b,Asks n P (k b))->Asks n P (.ask i j k)
theorem Asks.bind {n:Nat} {α β:Type} {P:α->Prop} {P':β->Prop} {t:KasT α} {f:α->KasT β} (h:Asks n P t) (hf:∀a,P a->Asks n P' (f a)):Asks n P' (t.bind f):=by
 induction h with
 | ret h=>exact hf _ h
 | ask h1 h2 _ ih=>exact .ask h1 h2 ih
theorem Asks.run {n:Nat} {α:Type} {P:α->Prop} {t:KasT α} (h:Asks n P t) (c:Nat->Nat->Bool):P (zO c t):=by
 induction h with
 | ret h=>exact h
 | ask _ _ _ ih=>exact ih _
theorem Asks.mono {n:Nat} {α:Type} {P P':α->Prop} {t:KasT α} (h:Asks n P t) (hp:∀a,P a->P' a):Asks n P' t:=by
 induction h with
 | ret h=>exact .ret (hp _ h)
 | ask h1 h2 _ ih=>exact .ask h1 h2 ih
section
variable {n:Nat} (hn:0 < n)
include hn
end
end DL
namespace DL
open PySem PyProof.Rows PySem.W PySem.Calls
end DL
namespace DL
open PySem PySem.Spec PyProof.Rows L2 PySem.W PySem.Calls
structure Lft (fr:List Addr) (a:Addr) (oe:Obj) (vs:Array Value) (T:Option Addr) (v:Value) (h h':Heap):Prop where
 keep:∀b o,b∉fr->b≠a->T≠some b->h.get? b=some o->h'.get? b=some o
 slot:∀b o,h.get? b=some o->(∀vs:Array Value,o.data≠Data.fields vs)->∃sl,h'.get? b=some { cls:=o.cls,dict:=o.dict,data:=o.data,slots:=sl }
 obj:∃tb ot ts,(h.get? tb=none\/T=some tb)/\tb≠a/\h'.get? a=some { cls:=oe.cls,dict:=oe.dict,data:=.fields (vs.setIfInBounds 1 (.ref tb)),slots:=oe.slots }/\h'.get? tb=some ot/\ot.data=.fields ts/\ts[3]? = some v
def DU (h B:Heap) (a:Addr) (cls:Value) (od L:Option Addr):Prop:=
 ∃oe vs,h.get? a=some oe/\oe.cls=cls/\(∀dx,od=some dx->oe.dict=some dx)/\oe.data=.fields vs /\
  (vs[1]? = some Value.none\/(∃T oT ts,vs[1]? = some (.ref T)/\B.get? T=none/\T≠a/\h.get? T=some oT/\oT.data=.fields ts/\ts[3]? = some Value.none) \/
   ∃l T oT ts,L=some l/\vs[1]? = some (.ref T)/\B.get? T=none/\T≠a/\h.get? T=some oT/\oT.data=.fields ts/\ts[3]? = some (rawInt ↑l))
def xA (st:List Env):Option Addr:=st.head?.bind (·.frame)
structure Fly (P:Program) (w:World) (st:List Env) (H:Hp) (s:Shared) (H':Hp) (a:Addr) (cls:Value) (od:Option Addr) (s':Shared):Prop where
 os:s'.os=s.os
 bare:AllBare s'.gens
 un:Un (gU st) [] H H' s.heap s'.heap
 hok:cG P w H' s'.heap
 ex:∃B:Heap,B.StaysIn s'.heap/\B.get? a=none/\s'.heap.FunFrames B st/\DU s'.heap B a cls od (xA st) /\
  (∀b o,s.heap.get? b=some o->b∉gU st->∃o',B.get? b=some o')/\∀b u,H' b=some u->∃o',B.get? b=some o'
def Mc (P:Program) (w:World):iz:=fun outer H s E e s'=>∃a cls H' od,e=.ref a/\Fly P w outer H s H' a cls od s'/\E cls od H'
abbrev xy:List Value:=[Value.type "ValueError",Value.type "Exception",Value.type "BaseException",Value.type "object"]
structure XC (K:W.Frag) (mg:Str->Option Value) (x:Str) (C:Addr):Prop where
 bound:mg x=some (.ref C)
 exc:excIn K C xy "ValueError.__new__" = true
end DL
namespace DL
open PySem PySem.Spec PyProof.Rows L2
inductive D where
 | non | bl (b:Bool) | int (i:Int) | str (x:Str)
 | tup (ds:List D) | lst (ds:List D)
 | dic (kvs:List (aD × D))
 | obj (c:Nat) (fs:List (Str × D))
instance:Inhabited D:=⟨.non⟩
inductive Res (α:Type) where
 | ok (a:α) | exc (x:D) | stuck
def Res.bind {α β:Type} (r:Res α) (f:α->Res β):Res β:=match r with
 | .ok a=>f a
 | .exc x=>.exc x
 | .stuck=>.stuck
@[simp] theorem bind_ok {α β:Type} (a:α) (f:α->Res β):(Res.ok a).bind f=f a:=rfl
@[simp] theorem bind_exc {α β:Type} (x:D) (f:α->Res β):(Res.exc x:Res α).bind f=.exc x:=rfl
@[simp] theorem bind_stuck {α β:Type} (f:α->Res β):(Res.stuck:Res α).bind f=.stuck:=rfl
def fin {α:Type} (r:Res α) (q:α->Prop) (x:D->Prop):Prop:=match r with
 | .ok a=>q a
 | .exc e=>x e
 | .stuck=>False
theorem bz {α:Type} {r:Res α} {q q':α->Prop} {x:D->Prop} (h:fin r q x) (hq:∀a,q a->q' a):fin r q' x:=by
 cases r with
 | ok a=>exact hq a h
 | exc e=>exact h
 | stuck=>exact h
theorem bv {α β:Type} {r:Res α} {f:α->Res β} {q:β->Prop} {x:D->Prop} (h:fin (r.bind f) q x):fin r (fun a=>fin (f a) q x) x:=by
 cases r with
 | ok a=>exact h
 | exc e=>exact h
 | stuck=>exact h
abbrev GH:=Addr->Option D
inductive Scl:V->D->Prop where
 | non:Scl .non .non
 | bl (b:Bool):Scl (.bl b) (.bl b)
 | int (i:Int):Scl (.int i) (.int i)
 | str (x:Str):Scl (.str x) (.str x)
inductive KC (K:W.Frag) (a:Addr):D->Prop where
 | lst {xs:List V} {ds:List D}:aZ K (fun _=>none) a xs->Paired Scl xs ds->KC K a (.lst ds)
 | tup {xs:List V} {ds:List D}:ck K (fun _=>none) a xs->Paired Scl xs ds->(∃o,K.lookup a=some o/\o.cls=.type "tuple"/\o.dict=none)->KC K a (.tup ds)
inductive RG (K:W.Frag) (G:GH):V->D->Prop where
 | scl {v:V} {d:D}:Scl v d->RG K G v d
 | ref {a:Addr} {d:D}:G a=some d->RG K G (.ref a) d
 | kc {a:Addr} {d:D}:KC K a d->RG K G (.ref a) d
abbrev bL (K:W.Frag) (G:GH):List V->List D->Prop:=Paired (RG K G)
abbrev gE (K:W.Frag) (G:GH):List (aD × V)->List (aD × D)->Prop:=Paired fun p q=>p.1=q.1/\RG K G p.2 q.2
abbrev xD (nm:Str) (ds:List (Str × D)):D:=.obj 0 (("__class__",.str nm)::ds)
def XN (K:W.Frag) (nm:Str) (C:Addr):Prop:=∃o cd,K.lookup C=some o/\o.data=Data.cls cd/\cd.name=nm
def Di (a C:Addr) (od:Option Addr):Heap->Prop:=fun h=>∃oe vs,h.get? a=some oe/\oe.cls=.ref C/\(∀dx,od=some dx->oe.dict=some dx)/\oe.data=.fields vs
def XF (G:GH) (od:Option Addr) (ds:List (Str × D)):Prop:=match od with
 | none=>ds=[]
 | some dx=>G dx=some (.obj 1 ds)
theorem XF.mono {G G':GH} {od:Option Addr} {ds:List (Str × D)} (h:XF G od ds) (ge:∀a d,G a=some d->G' a=some d):XF G' od ds:=by
 cases od with
 | none=>exact h
 | some dx=>exact ge _ _ h
abbrev Ma (K:W.Frag) (G:GH):List (Str × V)->List (Str × D)->Prop:=Paired fun p q=>p.1=q.1/\RG K G p.2 q.2
inductive OB (K:W.Frag) (G:GH) (H:Hp) (a:Addr):D->Prop where
 | lst {xs:List V} {ds:List D}:Rd H a (.lst xs)->bL K G xs ds->OB K G H a (.lst ds)
 | tup {xs:List V} {ds:List D}:Rd H a (.tup xs)->bL K G xs ds->OB K G H a (.tup ds)
 | dic {ob:Obj} {ps:List (aD × V)} {kvs:List (aD × D)}:H a=some (.frz ob (.dK ps))->gE K G ps kvs->OB K G H a (.dic kvs)
 | exc {nm:Str} {C:Addr} {od:Option Addr} {ds:List (Str × D)}:H a=some (.ext (Di a C od))->XN K nm C->XF G od ds->OB K G H a (xD nm ds)
 | fld {fs:List (Str × V)} {ds:List (Str × D)}:H a=some (.xd fs)->Ma K G fs ds->OB K G H a (.obj 1 ds)
def aP (K:W.Frag) (G:GH) (H:Hp):Prop:=∀a d,G a=some d->OB K G H a d
inductive OwnO (K:W.Frag) (G:GH) (H:Hp) (a:Addr):D->Prop where
 | lst {xs:List V} {ds:List D}:H a=some (.lst xs)->bL K G xs ds->OwnO K G H a (.lst ds)
 | dic {ps:List (aD × V)} {kvs:List (aD × D)}:H a=some (.dK ps)->gE K G ps kvs->OwnO K G H a (.dic kvs)
structure Own (K:W.Frag) (G:GH) (H:Hp) (a:Addr) (d:D):Prop where
 un:G a=none
 ob:OwnO K G H a d
structure Grow (K:W.Frag) (G:GH) (H:Hp) (G':GH) (H':Hp):Prop where
 ok:aP K G' H'
 he:∀a o,H a=some o->H' a=some o
 ge:∀a d,G a=some d->G' a=some d
 gf:∀a,H a≠none->G' a=G a
section
variable {K:W.Frag} {G G' G1 G2:GH} {H H' H1 H2:Hp} {a p:Addr} {d:D} {v:V}
theorem Rd.mono {u:HO} (h:Rd H a u) (he:∀a o,H a=some o->H' a=some o):Rd H' a u:=by
 rcases h with h | ⟨o,h⟩
 ·exact .inl (he _ _ h)
 ·exact .inr ⟨o,he _ _ h⟩
theorem Rd.isS {u:HO} (h:Rd H a u):H a≠none:=by
 rcases h with h | ⟨o,h⟩ <;> rw [h] <;> simp
theorem RG.mono (h:RG K G v d) (ge:∀a d,G a=some d->G' a=some d):RG K G' v d:=by
 cases h with
 | scl s=>exact .scl s
 | ref e=>exact .ref (ge _ _ e)
 | kc k=>exact .kc k
theorem bL.mono {xs:List V} {ds:List D} (h:bL K G xs ds) (ge:∀a d,G a=some d->G' a=some d):bL K G' xs ds:=Paired.mono (fun _ _ r=>r.mono ge) h
theorem gE.mono {xs:List (aD × V)} {ds:List (aD × D)} (h:gE K G xs ds) (ge:∀a d,G a=some d->G' a=some d):gE K G' xs ds:=Paired.mono (fun _ _ r=>⟨r.1,r.2.mono ge⟩) h
theorem OB.mono (h:OB K G H a d) (ge:∀a d,G a=some d->G' a=some d) (he:∀o,H a=some o->H' a=some o):OB K G' H' a d:=by
 have rd:∀{u:HO},Rd H a u->Rd H' a u:=fun r=>by
  rcases r with r | ⟨o,r⟩
  ·exact .inl (he _ r)
  ·exact .inr ⟨o,he _ r⟩
 cases h with
 | lst r s=>exact .lst (rd r) (s.mono ge)
 | tup r s=>exact .tup (rd r) (s.mono ge)
 | dic r s=>exact .dic (he _ r) (gE.mono s ge)
 | exc r n f=>exact .exc (he _ r) n (f.mono ge)
 | fld r s=>exact .fld (he _ r) (Paired.mono (fun _ _ r=>⟨r.1,r.2.mono ge⟩) s)
theorem OB.isS (h:OB K G H a d):H a≠none:=by
 cases h with
 | lst r s=>exact Rd.isS r
 | tup r s=>exact Rd.isS r
 | dic r s=>rw [r]; simp
 | exc r n f=>rw [r]; simp
 | fld r s=>rw [r]; simp
theorem aP.isN (g:aP K G H) (h:H p=none):G p=none:=by
 cases e:G p with
 | none=>rfl
 | some d=>exact absurd h (g p d e).isS
theorem OwnO.isS (h:OwnO K G H a d):H a≠none:=by
 cases h with
 | lst r s=>rw [r]; simp
 | dic r s=>rw [r]; simp
theorem OwnO.mono (h:OwnO K G H a d) (ge:∀a d,G a=some d->G' a=some d) (he:∀o,H a=some o->H' a=some o):OwnO K G' H' a d:=by
 cases h with
 | lst r s=>exact .lst (he _ r) (s.mono ge)
 | dic r s=>exact .dic (he _ r) (gE.mono s ge)
theorem Own.mono (h:Own K G H a d) (w:Grow K G H G' H'):Own K G' H' a d:=
 ⟨by rw [w.gf a h.ob.isS]; exact h.un,h.ob.mono w.ge fun o e=>w.he _ _ e⟩
def fz (H:Hp) (a:Addr) (ob:Obj):Hp:=match H a with
 | some (.dK ps)=>upd H a (.frz ob (.dK ps))
 | _=>H
theorem ng {b:Addr} {ob:Obj} (h:b≠a):fz H a ob b=H b:=by
 unfold fz
 cases e:H a with
 | none=>rfl
 | some u=>cases u <;> first | rfl | exact bH h
theorem FK {xs:List V} {ob:Obj} (h:H a=some (.lst xs)):fz H a ob=H:=by
 unfold fz
 rw [h]
theorem FJ {ps:List (aD × V)} {ob:Obj} (h:H a=some (.dK ps)):fz H a ob a=some (.frz ob (.dK ps)):=by
 unfold fz
 rw [h]; exact cy
theorem OwnO.fast (h:OwnO K G H a d) (ob:Obj):OB K G (fz H a ob) a d:=by
 cases h with
 | lst r s=>rw [FK r]; exact .lst (.inl r) s
 | dic r s=>exact .dic (FJ r) s
theorem aP.fast (g:aP K G H) (hn:G a=none) (ob:Obj):aP K G (fz H a ob):=fun b d e=>by
 have hb:b≠a:=by rintro rfl; rw [hn] at e; cases e
 exact (g b d e).mono (fun _ _ z=>z) fun o z=>by rw [ng hb]; exact z
theorem Grow.refl (g:aP K G H):Grow K G H G H:=⟨g,fun _ _ e=>e,fun _ _ e=>e,fun _ _=>rfl⟩
theorem Grow.trans (x:Grow K G H G1 H1) (y:Grow K G1 H1 G2 H2):Grow K G H G2 H2:=
 ⟨y.ok,fun a o e=>y.he _ _ (x.he _ _ e),fun a d e=>y.ge _ _ (x.ge _ _ e),fun a h=>by
  have h1:H1 a≠Option.none:=by
   cases e:H a with
   | none=>exact absurd e h
   | some o=>rw [x.he _ _ e]; simp
  rw [y.gf a h1,x.gf a h]⟩
def gset (G:GH) (a:Addr) (d:D):GH:=fun b=>if b=a then some d else G b
theorem dE:gset G a d a=some d:=if_pos rfl
theorem eR {b:Addr} (h:b≠a):gset G a d b=G b:=if_neg h
theorem eQ (hn:G a=none):∀b e,G b=some e->gset G a d b=some e:=fun b e h=>by
 have:b≠a:=by rintro rfl; rw [hn] at h; cases h
 rw [eR this]; exact h
theorem aP.gset (g:aP K G H) (hn:G a=none) (o:OB K G H a d):aP K (gset G a d) H:=fun b e h=>by
 by_cases hb:b=a
 ·subst hb; rw [dE] at h; cases h
  exact o.mono (eQ hn) fun _ q=>q
 ·rw [eR hb] at h
  exact (g b e h).mono (eQ hn) fun _ q=>q
theorem zx (hn:H p=none) {o:HO}:∀a u,H a=some u->upd H p o a=some u:=fun a u e=>by
 rw [bH (lF e hn)]; exact e
theorem Grow.new (g:aP K G H) (hn:H p=none) (o:HO):Grow K G H G (upd H p o):=
 ⟨fun a d e=>(g a d e).mono (fun _ _ q=>q) fun u q=>zx hn _ _ q,fun a u e=>zx hn _ _ e,fun _ _ e=>e,fun _ _=>rfl⟩
theorem Grow.newF (g:aP K G H) (hn:H p=none) {o:HO} (ob:OB K G (upd H p o) p d):Grow K G H (gset G p d) (upd H p o):=by
 have w:=Grow.new g hn o
 have gn:=g.isN hn
 exact ⟨w.ok.gset gn ob,w.he,fun a e h=>eQ gn a e h,fun a h=>eR (by rintro rfl; exact h hn)⟩
theorem Grow.frz (w:Grow K G H G' H') (hn:H a=none) (o:Own K G' H' a d) (ob:Obj):Grow K G H (gset G' a d) (fz H' a ob):=
 ⟨(w.ok.fast o.un ob).gset o.un (o.ob.fast ob),fun b u e=>by rw [ng (by rintro rfl; rw [hn] at e; cases e)]; exact w.he b u e,fun b e h=>eQ o.un b e (w.ge b e h),fun b h=>by rw [eR (by rintro rfl; exact h hn)]; exact w.gf b h⟩
theorem RG.lst {ds:List D} (g:aP K G H) (h:RG K G v (.lst ds)):∃a xs,v=.ref a/\aZ K H a xs/\bL K G xs ds:=by
 cases h with
 | scl s=>cases s
 | ref e=>
  cases g _ _ e with
  | lst r s=>exact ⟨_,_,rfl,.inl r,s⟩
 | kc k=>
  cases k with
  | lst r s=>
   refine ⟨_,_,rfl,?_,Paired.mono (fun _ _ z=>.scl z) s⟩
   rcases r with (r | ⟨o,r⟩) | r
   ·cases r
   ·cases r
   ·exact .inr r
theorem RG.tup {ds:List D} (g:aP K G H) (h:RG K G v (.tup ds)):∃a xs,v=.ref a/\ck K H a xs/\bL K G xs ds:=by
 cases h with
 | scl s=>cases s
 | ref e=>
  cases g _ _ e with
  | tup r s=>exact ⟨_,_,rfl,.inl r,s⟩
 | kc k=>
  cases k with
  | tup r s _=>
   refine ⟨_,_,rfl,?_,Paired.mono (fun _ _ z=>.scl z) s⟩
   rcases r with (r | ⟨o,r⟩) | r
   ·cases r
   ·cases r
   ·exact .inr r
theorem RG.dic {kvs:List (aD × D)} (g:aP K G H) (h:RG K G v (.dic kvs)):∃a ps,v=.ref a/\Rd H a (.dK ps)/\gE K G ps kvs:=by
 cases h with
 | scl s=>cases s
 | ref e=>
  cases g _ _ e with
  | dic r s=>exact ⟨_,_,rfl,.inr ⟨_,r⟩,s⟩
 | kc k=>cases k
theorem RG.int {i:Int} (g:aP K G H) (h:RG K G v (.int i)):v=.int i:=by
 cases h with
 | scl s=>cases s; rfl
 | ref e=>cases g _ _ e
 | kc k=>cases k
theorem RG.str {x:Str} (g:aP K G H) (h:RG K G v (.str x)):v=.str x:=by
 cases h with
 | scl s=>cases s; rfl
 | ref e=>cases g _ _ e
 | kc k=>cases k
theorem RG.bl {b:Bool} (g:aP K G H) (h:RG K G v (.bl b)):v=.bl b:=by
 cases h with
 | scl s=>cases s; rfl
 | ref e=>cases g _ _ e
 | kc k=>cases k
theorem RG.non (g:aP K G H) (h:RG K G v .non):v=.non:=by
 cases h with
 | scl s=>cases s; rfl
 | ref e=>cases g _ _ e
 | kc k=>cases k
def RB (K:W.Frag) (G:GH) (H:Hp) (v:V) (d:D):Prop:=RG K G v d\/∃a,v=.ref a/\Own K G H a d
theorem RG.rb (h:RG K G v d):RB K G H v d:=.inl h
theorem RB.mono (h:RB K G H v d) (w:Grow K G H G' H'):RB K G' H' v d:=by
 rcases h with h | ⟨a,e,h⟩
 ·exact .inl (h.mono w.ge)
 ·exact .inr ⟨a,e,h.mono w⟩
theorem RB.lst {ds:List D} (g:aP K G H) (h:RB K G H v (.lst ds)):∃a xs,v=.ref a/\aZ K H a xs/\bL K G xs ds:=by
 rcases h with h | ⟨a,e,h⟩
 ·exact h.lst g
 ·cases h.ob with
  | lst r s=>exact ⟨a,_,e,aZ.of r,s⟩
theorem RB.tup {ds:List D} (g:aP K G H) (h:RB K G H v (.tup ds)):∃a xs,v=.ref a/\ck K H a xs/\bL K G xs ds:=by
 rcases h with h | ⟨a,e,h⟩
 ·exact h.tup g
 ·cases h.ob
theorem RB.dic {kvs:List (aD × D)} (g:aP K G H) (h:RB K G H v (.dic kvs)):∃a ps,v=.ref a/\Rd H a (.dK ps)/\gE K G ps kvs:=by
 rcases h with h | ⟨a,e,h⟩
 ·exact h.dic g
 ·cases h.ob with
  | dic r s=>exact ⟨a,_,e,.inl r,s⟩
theorem RB.int {i:Int} (g:aP K G H) (h:RB K G H v (.int i)):v=.int i:=by
 rcases h with h | ⟨a,e,h⟩
 ·exact h.int g
 ·cases h.ob
theorem RB.str {x:Str} (g:aP K G H) (h:RB K G H v (.str x)):v=.str x:=by
 rcases h with h | ⟨a,e,h⟩
 ·exact h.str g
 ·cases h.ob
theorem RB.bl {b:Bool} (g:aP K G H) (h:RB K G H v (.bl b)):v=.bl b:=by
 rcases h with h | ⟨a,e,h⟩
 ·exact h.bl g
 ·cases h.ob
theorem RB.non (g:aP K G H) (h:RB K G H v .non):v=.non:=by
 rcases h with h | ⟨a,e,h⟩
 ·exact h.non g
 ·cases h.ob
theorem Paired.get {α β:Type} {F:α->β->Prop}:∀{l:List α} {r:List β} {i:Nat} {b:β},Paired F l r->r[i]? = some b->∃a,l[i]? = some a/\F a b
 | _,_,_,_,.nil,e=>by simp at e
 | _,_,0,_,.cons h _,e=>by simp at e; subst e; exact ⟨_,rfl,h⟩
 | _,_,i + 1,b,.cons _ t,e=>by
  obtain ⟨a,h1,h2⟩:=Paired.get (i:=i) t (by simpa using e)
  exact ⟨a,by simpa using h1,h2⟩
theorem Paired.app {α β:Type} {F:α->β->Prop} {l l':List α} {r r':List β} (h:Paired F l r) (q:Paired F l' r'):Paired F (l++l') (r++r'):=by
 induction h with
 | nil=>exact q
 | cons h _ ih=>exact .cons h ih
theorem Paired.tk {α β:Type} {F:α->β->Prop} {l:List α} {r:List β} (n:Nat) (h:Paired F l r):Paired F (l.take n) (r.take n):=by
 induction h generalizing n with
 | nil=>cases n <;> exact .nil
 | cons h _ ih=>cases n with
  | zero=>exact .nil
  | succ n=>exact .cons h (ih n)
theorem Paired.dr {α β:Type} {F:α->β->Prop} {l:List α} {r:List β} (n:Nat) (h:Paired F l r):Paired F (l.drop n) (r.drop n):=by
 induction h generalizing n with
 | nil=>cases n <;> exact .nil
 | cons h t ih=>cases n with
  | zero=>exact .cons h t
  | succ n=>exact ih n
theorem Paired.st {α β:Type} {F:α->β->Prop} {a:α} {b:β} (h:F a b) {l:List α} {r:List β} (n:Nat) (p:Paired F l r):Paired F (l.set n a) (r.set n b):=by
 induction p generalizing n with
 | nil=>exact .nil
 | cons q t ih=>cases n with
  | zero=>exact .cons h t
  | succ n=>exact .cons q (ih n)
theorem Paired.er {α β:Type} {F:α->β->Prop} {l:List α} {r:List β} (n:Nat) (p:Paired F l r):Paired F (l.eraseIdx n) (r.eraseIdx n):=by
 induction p generalizing n with
 | nil=>exact .nil
 | cons q t ih=>cases n with
  | zero=>exact t
  | succ n=>exact .cons q (ih n)
end
inductive Md where
 | sh | ow | bw
 deriving DecidableEq
abbrev ak:=List (Option D)
structure GE where
 gh:GH
 h0:Hp
 hd:Nat->Option (Option V × Option D)
def Bw (K:W.Frag) (h0:Hp) (G:GH) (H:Hp) (v:V) (d:D):Prop:=RG K G v d\/∃a,v=V.ref a/\Own K G H a d/\h0 a≠none
theorem Bw.grow {K:W.Frag} {h0:Hp} {G G':GH} {H H':Hp} {v:V} {d:D} (h:Bw K h0 G H v d) (w:Grow K G H G' H'):Bw K h0 G' H' v d:=by
 rcases h with h | ⟨a,e,h1,h2⟩
 ·exact .inl (h.mono w.ge)
 ·exact .inr ⟨a,e,h1.mono w,h2⟩
theorem Bw.rb {K:W.Frag} {h0:Hp} {G:GH} {H:Hp} {v:V} {d:D} (h:Bw K h0 G H v d):RB K G H v d:=by
 rcases h with h | ⟨a,e,h1,h2⟩
 ·exact .inl h
 ·exact .inr ⟨a,e,h1⟩
def Lk (r:ak) (st:L2.Ml) (i:Nat) (o:Option V × Option D):Prop:=st[i]? = some o.1/\∀d,r[i]? = some (some d)->o.2=some d
structure SI (X:Cx) (g:GE) (m:List Md) (r:ak) (G:GH) (st:L2.Ml) (H:Hp):Prop where
 gok:aP X.K G H
 old:∀a o,g.h0 a=some o->H a=some o
 ge:∀a d,g.gh a=some d->G a=some d
 gf:∀a,g.h0 a≠none->G a=g.gh a
 lm:m.length=st.length
 lr:r.length=st.length
 sh:∀(i:Nat) d,r[i]? = some (some d)->m[i]? = some .sh->∃v,st[i]? = some (some v)/\RG X.K G v d
 ow:∀(i:Nat) d,r[i]? = some (some d)->m[i]? = some .ow->∃a,st[i]? = some (some (V.ref a))/\Own X.K G H a d/\g.h0 a=none
 bw:∀(i:Nat) d,r[i]? = some (some d)->m[i]? = some .bw->∃v,st[i]? = some (some v)/\Bw X.K g.h0 G H v d
 dis:∀(i j:Nat) a d e,i≠j->r[i]? = some (some d)->r[j]? = some (some e)->m[i]? = some .ow->m[j]? = some .ow->st[i]? = some (some (V.ref a))->st[j]? = some (some (V.ref a))->False
 lk:∀(i:Nat) o,g.hd i=some o->m[i]? = some .bw->Lk r st i o
section
variable {X:Cx} {g:GE} {m:List Md} {r:ak} {G G':GH} {st:L2.Ml} {H H':Hp}
theorem SI.grow (s:SI X g m r G st H) (w:Grow X.K G H G' H'):SI X g m r G' st H' where
 gok:=w.ok
 old:=fun a o e=>w.he _ _ (s.old a o e)
 ge:=fun a d e=>w.ge _ _ (s.ge a d e)
 gf:=fun a h=>by
  have h1:H a≠none:=by
   cases e:g.h0 a with
   | none=>exact absurd e h
   | some o=>rw [s.old _ _ e]; simp
  rw [w.gf a h1,s.gf a h]
 lm:=s.lm
 lr:=s.lr
 sh:=fun i d h1 h2=>by obtain ⟨v,h3,h4⟩:=s.sh i d h1 h2; exact ⟨v,h3,h4.mono w.ge⟩
 ow:=fun i d h1 h2=>by obtain ⟨a,h3,h4,h5⟩:=s.ow i d h1 h2; exact ⟨a,h3,h4.mono w,h5⟩
 bw:=fun i d h1 h2=>by obtain ⟨v,h3,h4⟩:=s.bw i d h1 h2; exact ⟨v,h3,h4.grow w⟩
 dis:=s.dis
 lk:=s.lk
theorem SI.grown (s:SI X g m r G st H):Grow X.K g.gh g.h0 G H:=⟨s.gok,s.old,s.ge,s.gf⟩
theorem SI.frz (s:SI X g m r G st H) (i:Nat) (hi:m[i]? = some .ow):(∃G',(∀a d,G a=some d->G' a=some d)/\SI X g (m.set i .sh) r G' st H)\/∃a,∀ob,∃G',(∀a d,G a=some d->G' a=some d)/\SI X g (m.set i .sh) r G' st (fz H a ob):=by
 have hlt:i < m.length:=(List.getElem?_eq_some_iff.mp hi).1
 by_cases hb:∃d,r[i]? = some (some d)
 ·obtain ⟨d,hd⟩:=hb
  obtain ⟨a,h1,h2,h3⟩:=s.ow i d hd hi
  refine .inr ⟨a,fun ob=>⟨gset G a d,eQ h2.un,(s.gok.fast h2.un ob).gset h2.un (h2.ob.fast ob),fun b o e=>by rw [ng (by rintro rfl; rw [h3] at e; cases e)]; exact s.old b o e,fun b e h=>eQ h2.un b e (s.ge b e h),fun b h=>?_,by simpa using s.lm,s.lr,?_,?_,?_,?_,fun j o hj hm=>?_⟩⟩
  ·rw [eR (by rintro rfl; exact h h3)]; exact s.gf b h
  ·intro j e hj hm
   by_cases hij:i=j
   ·subst hij
    rw [hd] at hj; cases hj
    exact ⟨_,h1,.ref dE⟩
   ·rw [List.getElem?_set_ne hij] at hm
    obtain ⟨v,q1,q2⟩:=s.sh j e hj hm
    exact ⟨v,q1,q2.mono (eQ h2.un)⟩
  ·intro j e hj hm
   by_cases hij:i=j
   ·subst hij
    rw [List.getElem?_set_self hlt] at hm; cases hm
   ·rw [List.getElem?_set_ne hij] at hm
    obtain ⟨b,q1,q2,q3⟩:=s.ow j e hj hm
    have hba:b≠a:=by
     rintro rfl
     exact s.dis i j b d e hij hd hj hi hm h1 q1
    exact ⟨b,q1,⟨by rw [eR hba]; exact q2.un,q2.ob.mono (eQ h2.un) fun _ z=>by rw [ng hba]; exact z⟩,q3⟩
  ·intro j e hj hm
   by_cases hij:i=j
   ·subst hij
    rw [List.getElem?_set_self hlt] at hm; cases hm
   ·rw [List.getElem?_set_ne hij] at hm
    obtain ⟨v,q1,q2⟩:=s.bw j e hj hm
    refine ⟨v,q1,?_⟩
    rcases q2 with q2 | ⟨b,rfl,q2,q3⟩
    ·exact .inl (q2.mono (eQ h2.un))
    ·have hba:b≠a:=by rintro rfl; exact q3 h3
     exact .inr ⟨b,rfl,⟨by rw [eR hba]; exact q2.un,q2.ob.mono (eQ h2.un) fun _ z=>by rw [ng hba]; exact z⟩,q3⟩
  ·intro j k b e e' hjk hj hk hm hm' q1 q2
   have hij:i≠j:=by
    rintro rfl
    rw [List.getElem?_set_self hlt] at hm; cases hm
   have hik:i≠k:=by
    rintro rfl
    rw [List.getElem?_set_self hlt] at hm'; cases hm'
   rw [List.getElem?_set_ne hij] at hm
   rw [List.getElem?_set_ne hik] at hm'
   exact s.dis j k b e e' hjk hj hk hm hm' q1 q2
  ·refine s.lk j o hj ?_
   by_cases hij:i=j
   ·subst hij; rw [List.getElem?_set_self hlt] at hm; cases hm
   ·rw [List.getElem?_set_ne hij] at hm; exact hm
 ·refine .inl ⟨G,fun _ _ z=>z,s.gok,s.old,s.ge,s.gf,by simpa using s.lm,s.lr,?_,?_,?_,?_,fun j o hj hm=>?_⟩
  ·intro j e hj hm
   have hij:i≠j:=by rintro rfl; exact hb ⟨e,hj⟩
   rw [List.getElem?_set_ne hij] at hm
   exact s.sh j e hj hm
  ·intro j e hj hm
   have hij:i≠j:=by rintro rfl; exact hb ⟨e,hj⟩
   rw [List.getElem?_set_ne hij] at hm
   exact s.ow j e hj hm
  ·intro j e hj hm
   have hij:i≠j:=by rintro rfl; exact hb ⟨e,hj⟩
   rw [List.getElem?_set_ne hij] at hm
   exact s.bw j e hj hm
  ·intro j k b e e' hjk hj hk hm hm' q1 q2
   have hij:i≠j:=by rintro rfl; exact hb ⟨e,hj⟩
   have hik:i≠k:=by rintro rfl; exact hb ⟨e',hk⟩
   rw [List.getElem?_set_ne hij] at hm
   rw [List.getElem?_set_ne hik] at hm'
   exact s.dis j k b e e' hjk hj hk hm hm' q1 q2
  ·refine s.lk j o hj ?_
   by_cases hij:i=j
   ·subst hij; rw [List.getElem?_set_self hlt] at hm; cases hm
   ·rw [List.getElem?_set_ne hij] at hm; exact hm
end
theorem PE.imp {X:Cx} {e:Expr} {t t':TE} (h:PE X e t) (i:∀σ H Q,t' σ H Q->t σ H Q):PE X e t':=fun pz s σ H Q I q=>h pz s σ H Q I (i σ H Q q)
theorem PT.imp {X:Cx} {e:Expr} {t t':TT} (h:PT X e t) (i:∀σ H Q,t' σ H Q->t σ H Q):PT X e t':=fun pz s σ H Q I q=>h pz s σ H Q I (i σ H Q q)
theorem PW.imp {X:Cx} {e:Expr} {t t':TT} (h:PW X e t) (i:∀σ H Q,t' σ H Q->t σ H Q):PW X e t':=fun whole pz s σ H Q I q=>h whole pz s σ H Q I (i σ H Q q)
theorem PA.imp {X:Cx} {e:List Expr} {t t':TA} (h:PA X e t) (i:∀σ H Q,t' σ H Q->t σ H Q):PA X e t':=fun pos pz s σ H Q I q=>h pos pz s σ H Q I (i σ H Q q)
theorem PS.imp {X:Cx} {e:Stmt} {t t':TS} (h:PS X e t) (i:∀D σ H,t' D σ H->t D σ H):PS X e t':=fun pz s σ H D I q=>h pz s σ H D I (i D σ H q)
theorem cQ.imp {X:Cx} {e:List Stmt} {t t':TS} (h:cQ X e t) (i:∀D σ H,t' D σ H->t D σ H):cQ X e t':=fun pz s σ H D I q=>h pz s σ H D I (i D σ H q)
def Dm (X:Cx) (σ:L2.Ml) (G:GH) (H':Hp) (e:Value) (x:D) (s':Shared):Prop:=
 ∃pz s H1 a C od nm ds,e=.ref a/\x=xD nm ds/\XN X.K nm C/\XF G od ds/\Inv X pz σ H1 s/\Fly X.prog X.w X.stack H1 s H' a (.ref C) od s'
def XW (X:Cx) (σ:L2.Ml) (G:GH) (H:Hp) (x:D):Prop:=∀pz e s' G' H',Grow X.K G H G' H'->Inv X pz σ H' s'->Dm X σ G' H' e x s'->X.xe e s'
theorem XW.grow {X:Cx} {σ:L2.Ml} {G G1:GH} {H H1:Hp} {x:D} (h:XW X σ G H x) (w:Grow X.K G H G1 H1):XW X σ G1 H1 x:=fun pz e s' G' H' w' I q=>h pz e s' G' H' (w.trans w') I q
abbrev FE:=ak->Res D
def tE (X:Cx) (g:GE) (m:List Md) (f:FE):TE:=fun σ H Q=>∃r G,SI X g m r G σ H/\fin (f r) (fun d=>∀v G' H',Grow X.K G H G' H'->RG X.K G' v d->Q v H') (XW X σ G H)
def tB (X:Cx) (g:GE) (m:List Md) (f:FE):TE:=fun σ H Q=>∃r G,SI X g m r G σ H/\fin (f r) (fun d=>∀v G' H',Grow X.K G H G' H'->RB X.K G' H' v d->Q v H') (XW X σ G H)
def tO (X:Cx) (g:GE) (m:List Md) (f:FE):TE:=fun σ H Q=>∃r G,SI X g m r G σ H/\fin (f r) (fun d=>∀a G' H',Grow X.K G H G' H'->H a=none->Own X.K G' H' a d->Q (.ref a) H') (XW X σ G H)
def tQ (X:Cx) (g:GE) (m:List Md) (f:ak->Res Bool):TT:=fun σ H Q=>∃r G,SI X g m r G σ H/\fin (f r) (fun b=>∀G' H',Grow X.K G H G' H'->Q b H') (XW X σ G H)
def tL (X:Cx) (g:GE) (m:List Md) (f:ak->Res (List D)):TA:=fun σ H Q=>∃r G,SI X g m r G σ H/\fin (f r) (fun ds=>∀vs G' H',Grow X.K G H G' H'->bL X.K G' vs ds->Q vs H') (XW X σ G H)
def xM (X:Cx) (g:GE) (m:List Md) (f:ak->Res (List D)):TA:=fun σ H Q=>∃r G,SI X g m r G σ H/\fin (f r) (fun ds=>∀vs G' H',Grow X.K G H G' H'->Paired (RB X.K G' H') vs ds->Q vs H') (XW X σ G H)
def SE (X:Cx) (g:GE) (m:List Md) (e:Expr) (f:FE):Prop:=PE X e (tE X g m f)
def SB (X:Cx) (g:GE) (m:List Md) (e:Expr) (f:FE):Prop:=PE X e (tB X g m f)
def SO (X:Cx) (g:GE) (m:List Md) (e:Expr) (f:FE):Prop:=PE X e (tO X g m f)
def SQ (X:Cx) (g:GE) (m:List Md) (e:Expr) (f:ak->Res Bool):Prop:=PT X e (tQ X g m f)
def SW (X:Cx) (g:GE) (m:List Md) (e:Expr) (f:ak->Res Bool):Prop:=PW X e (tQ X g m f)
def SA (X:Cx) (g:GE) (m:List Md) (es:List Expr) (f:ak->Res (List D)):Prop:=PA X es (tL X g m f)
def g6 (X:Cx) (g:GE) (m:List Md) (es:List Expr) (f:ak->Res (List D)):Prop:=PA X es (xM X g m f)
section
variable {X:Cx} {g:GE} {m:List Md} {e a b c:Expr} {f fa fb fc:FE} {pos:Pos}
theorem SE.toB (h:SE X g m e f):SB X g m e f:=PE.imp h fun σ H Q ⟨r,G,si,q⟩=>⟨r,G,si,bz q fun d k v G' H' w z=>k v G' H' w z.rb⟩
theorem Inv.fast {pz:List (Addr × Obj)} {σ:L2.Ml} {H:Hp} {s:Shared} (I:Inv X pz σ H s) (a:Addr):∃ob,Inv X pz σ (fz H a ob) s:=by
 cases e:H a with
 | none=>exact ⟨{ cls:=.none,data:=.fields #[] },by unfold fz; rw [e]; exact I⟩
 | some u=>
  cases u with
  | dK ps=>
   obtain ⟨z1,z2,vs,z3,o,es,ep,z4,z5⟩:=(show cm X.prog X.w H s.heap a (.dK ps) from I.hok a _ e)
   have ef:fz H a o=upd H a (.frz o (.dK ps)):=by unfold fz; rw [e]
   refine ⟨o,?_⟩
   rw [ef]
   exact I.write (t':=s.toks) (h':=s.heap) (x:=a) (e:=a) (by rw [e]; exact trivial) (.inl rfl) (fun b u _ q=>q) ⟨o,z4⟩ (show cm X.prog X.w _ s.heap a (.frz o (.dK ps)) from ⟨z4,z1,z2,vs,z3,o,es,ep,z4,z5⟩)
  | _=>exact ⟨{ cls:=.none,data:=.fields #[] },by unfold fz; rw [e]; exact I⟩
theorem SO.toE (h:SO X g m e f):SE X g m e f:=by
 intro pz s σ H Q I ⟨r,G,si,q⟩
 refine aY (h pz s σ H (fun v H'=>∃a,v=.ref a/\∀ob,Q v (fz H' a ob)) I ⟨r,G,si,bz q fun d k a G' H' w hn o=>⟨a,rfl,fun ob=>k _ _ _ (w.frz hn o ob) (.ref dE)⟩⟩) fun u s' ⟨v,H',I',rv,a,_,z⟩=>?_
 obtain ⟨ob,I2⟩:=Inv.fast I' a
 exact ⟨v,_,I2,rv,z ob⟩
theorem SO.toB (h:SO X g m e f):SB X g m e f:=h.toE.toB
theorem tw {v:V} {d:D} (h:PE X e (tC v)) (s:Scl v d):SE X g m e fun _=>.ok d:=
 PE.imp h fun σ H Q ⟨r,G,si,q⟩=>q v G H (Grow.refl si.gok) (.scl s)
theorem dC {i:Int} {j}:SE X g m (.Constant (.int i) j pos) fun _=>.ok (.int i):=tw E3 (.int i)
theorem bM {i:Bool} {j}:SE X g m (.Constant (.bool i) j pos) fun _=>.ok (.bl i):=tw EI (.bl i)
theorem kA {j}:SE X g m (.Constant .none j pos) fun _=>.ok .non:=tw E5 .non
def dc (r:ak) (i:Nat):Res D:=match r[i]? with
 | some (some d)=>.ok d
 | _=>.stuck
theorem uI {r:ak} {i:Nat} {q:D->Prop} {x:D->Prop} (h:fin (dc r i) q x):∃d,r[i]? = some (some d)/\q d:=by
 unfold dc at h
 split at h
 ·rename_i d e; exact ⟨d,e,h⟩
 ·exact h.elim
theorem Em (i:Nat) {x:Str} (hm:m[i]? = some .sh) (hN:X.N[i]? = some x) (hv:f8 X.env.scope x) (hd:(x == ("__debug__" : Str))=false:=by decide) (hcd:(x == ("__classdict__" : Str))=false:=by decide) :
  SE X g m (.Name x pos) fun r=>dc r i:=by
 refine PE.imp (jE hN hv hd hcd) fun σ H Q ⟨r,G,si,q⟩=>?_
 obtain ⟨d,e,k⟩:=uI q
 obtain ⟨v,e1,e2⟩:=si.sh i d e hm
 exact ⟨v,e1,k v G H (Grow.refl si.gok) e2⟩
theorem Go (i:Nat) {x:Str} (hm:i < m.length) (hN:X.N[i]? = some x) (hv:f8 X.env.scope x) (hd:(x == ("__debug__" : Str))=false:=by decide) (hcd:(x == ("__classdict__" : Str))=false:=by decide) :
  SB X g m (.Name x pos) fun r=>dc r i:=by
 refine PE.imp (jE hN hv hd hcd) fun σ H Q ⟨r,G,si,q⟩=>?_
 obtain ⟨d,e,k⟩:=uI q
 have hm':m[i]? = some m[i]:=List.getElem?_eq_getElem hm
 cases h:m[i] with
 | sh=>
  obtain ⟨v,e1,e2⟩:=si.sh i d e (hm'.trans (by rw [h]))
  exact ⟨v,e1,k v G H (Grow.refl si.gok) e2.rb⟩
 | ow=>
  obtain ⟨v,e1,e2,_⟩:=si.ow i d e (hm'.trans (by rw [h]))
  exact ⟨_,e1,k _ G H (Grow.refl si.gok) (.inr ⟨v,rfl,e2⟩)⟩
 | bw=>
  obtain ⟨v,e1,e2⟩:=si.bw i d e (hm'.trans (by rw [h]))
  exact ⟨_,e1,k _ G H (Grow.refl si.gok) e2.rb⟩
theorem lQ {β:Type} {k:D->D->Res β} {q:β->Prop} {R:V->V->Hp->Prop} {r:ak} {G:GH} {σ:L2.Ml} {H:Hp} (si:SI X g m r G σ H)
  (h:fin ((fa r).bind fun d1=>(fb r).bind fun d2=>k d1 d2) q (XW X σ G H))
  (hk:∀d1 d2 v1 v2 G2 H2,Grow X.K G H G2 H2->RB X.K G2 H2 v1 d1->RB X.K G2 H2 v2 d2->fin (k d1 d2) q (XW X σ G H)->R v1 v2 H2) :
  tB X g m fa σ H fun v1 H1=>tB X g m fb σ H1 fun v2 H2=>R v1 v2 H2:=by
 refine ⟨r,G,si,bz (bv h) fun d1 h1 v1 G1 H1 w1 r1=>⟨r,G1,si.grow w1,?_⟩⟩
 cases e:fb r with
 | ok d2=>
  rw [e] at h1
  exact fun v2 G2 H2 w2 r2=>hk d1 d2 v1 v2 G2 H2 (w1.trans w2) (r1.mono w2) r2 h1
 | exc x=>
  rw [e] at h1
  exact (show XW X σ G H x from h1).grow w1
 | stuck=>
  rw [e] at h1
  exact h1
def bZ {α:Type}:Option α->Res α
 | some a=>.ok a
 | none=>.stuck
@[simp] theorem opt_some {α:Type} (a:α):bZ (some a)=.ok a:=rfl
@[simp] theorem opt_none {α:Type}:bZ (none:Option α)=.stuck:=rfl
theorem cD {α:Type} {o:Option α} {q:α->Prop} {x:D->Prop} (h:fin (bZ o) q x):∃a,o=some a/\q a:=by
 cases o with
 | none=>exact h.elim
 | some a=>exact ⟨a,rfl,h⟩
def dU (K:W.Frag) (r:R2) (k:D->D->Option D):Prop:=∀(G:GH) (H:Hp) (v1 v2:V) (d1 d2 d:D) (Q:VK),aP K G H->RB K G H v1 d1->RB K G H v2 d2->k d1 d2=some d ->
 (∀v G' H',Grow K G H G' H'->RG K G' v d->Q v H')->r v1 v2 H Q
def f2 (fa fb:FE) (k:D->D->Option D):FE:=fun r=>(fa r).bind fun d1=>(fb r).bind fun d2=>bZ (k d1 d2)
theorem sj {R:R2} {k:D->D->Option D} (ho:dU X.K R k) (h:PE X e (oP R (tB X g m fa) (tB X g m fb))):SE X g m e (f2 fa fb k):=by
 refine PE.imp h fun σ H Q ⟨r,G,si,q⟩=>?_
 refine lQ si q fun d1 d2 v1 v2 G2 H2 w r1 r2 q2=>?_
 obtain ⟨d,e,q2⟩:=cD q2
 exact ho G2 H2 v1 v2 d1 d2 d Q w.ok r1 r2 e fun v G' H' w' z=>q2 v G' H' (w.trans w') z
theorem jO {op:Operator} {R:R2} {k:D->D->Option D} (hr:bi X (binaryOp op) R) (ho:dU X.K R k) (ha:SB X g m a fa) (hb:SB X g m b fb):SE X g m (.BinOp a op b pos) (f2 fa fb k):=sj ho (EJ hr ha hb)
theorem nu {op:CmpOp} {R:R2} {k:D->D->Option D} (hr:bi X (compareOp op) R) (ho:dU X.K R k) (ha:SB X g m a fa) (hb:SB X g m b fb) (hm:behindInMarks op b=false):SE X g m (.Compare a [op] [b] pos) (f2 fa fb k):=sj ho (GL hr ha hb hm)
def jn:D->Option Bool
 | .bl b=>some b
 | _=>none
def bq (f:FE):ak->Res Bool:=fun r=>(f r).bind fun d=>bZ (jn d)
theorem jy {op:CmpOp} {R:R2} {k:D->D->Option D} (hr:bi X (compareOp op) R) (ho:dU X.K R k) (ha:SB X g m a fa) (hb:SB X g m b fb) (hm:behindInMarks op b=false):SQ X g m (.Compare a [op] [b] pos) (bq (f2 fa fb k)):=by
 refine PT.imp (GT hr ha hb hm) fun σ H Q ⟨r,G,si,q⟩=>?_
 have e:bq (f2 fa fb k) r=(fa r).bind fun d1=>(fb r).bind fun d2=>(bZ (k d1 d2)).bind fun d=>bZ (jn d):=by
  unfold bq f2
  cases fa r with
  | ok d1=>cases fb r <;> rfl
  | exc _=>rfl
  | stuck=>rfl
 rw [e] at q
 refine lQ (R:=fun x y H2=>R x y H2 fun x H'=>∃k,x=V.bl k/\Q k H') si q fun d1 d2 v1 v2 G2 H2 w r1 r2 q3=>?_
 obtain ⟨d,e,q3⟩:=cD (bv q3)
 obtain ⟨b,eb,q3⟩:=cD q3
 cases d with
 | bl b'=>
  cases eb
  exact ho G2 H2 v1 v2 d1 d2 _ _ w.ok r1 r2 e fun v G' H' w' z=>⟨_,z.bl w'.ok,q3 G' H' (w.trans w')⟩
 | _=>cases eb
end
instance decMul (i j:Int):Decidable (gI i j):=by unfold gI; infer_instance
instance decDiv (i j:Int):Decidable (iC i j):=by unfold iC; infer_instance
instance decPow (i j:Int):Decidable (iA i j):=by unfold iA; infer_instance
def ky (k:Int->Int->D):D->D->Option D
 | .int a,.int b=>some (k a b)
 | _,_=>none
def jv (C:Int->Int->Prop) [∀a b,Decidable (C a b)] (k:Int->Int->D):D->D->Option D
 | .int a,.int b=>if C a b then some (k a b) else none
 | _,_=>none
@[simp] theorem ints2_int (k:Int->Int->D) (a b:Int):ky k (.int a) (.int b)=some (k a b):=rfl
@[simp] theorem intsC_int (C:Int->Int->Prop) [∀a b,Decidable (C a b)] (k:Int->Int->D) (a b:Int):jv C k (.int a) (.int b)=if C a b then some (k a b) else none:=rfl
section
variable {K:W.Frag}
theorem jW {gv:Int->Int->V} {gd:Int->Int->D} (hs:∀i j,Scl (gv i j) (gd i j)):dU K (i7 gv) (ky gd):=by
 intro G H v1 v2 d1 d2 d Q g r1 r2 e q
 unfold ky at e
 split at e
 ·cases e
  exact ⟨_,_,r1.int g,r2.int g,q _ G H (Grow.refl g) (.scl (hs _ _))⟩
 ·cases e
theorem mM {C:Int->Int->Prop} [∀a b,Decidable (C a b)] {gv:Int->Int->V} {gd:Int->Int->D} (hs:∀i j,Scl (gv i j) (gd i j)):dU K (rI C gv) (jv C gd):=by
 intro G H v1 v2 d1 d2 d Q g r1 r2 e q
 unfold jv at e
 split at e
 ·split at e
  ·rename_i hc
   cases e
   exact ⟨_,_,r1.int g,r2.int g,hc,q _ G H (Grow.refl g) (.scl (hs _ _))⟩
  ·cases e
 ·cases e
end
abbrev oS:D->D->Option D:=ky fun a b=>.int (a - b)
abbrev bx:D->D->Option D:=jv gI fun a b=>.int (a * b)
abbrev kE:D->D->Option D:=jv iC fun a b=>.int (a / b)
abbrev ba:D->D->Option D:=jv (fun _ b=>0 < b) fun a b=>.int (a % b)
abbrev je:D->D->Option D:=jv iA fun a b=>.int (a ^ b.toNat)
abbrev iM:D->D->Option D:=ky fun a b=>.bl (decide (a < b))
abbrev nb:D->D->Option D:=ky fun a b=>.bl (decide (a<=b))
abbrev iO:D->D->Option D:=ky fun a b=>.bl (decide (b < a))
abbrev yg:D->D->Option D:=ky fun a b=>.bl (decide (b<=a))
section
variable {X:Cx} {g:GE} {m:List Md} {e a b c:Expr} {f fa fb fc:FE} {pos:Pos}
theorem Ek (ha:SB X g m a fa) (hb:SB X g m b fb):SE X g m (.BinOp a .Sub b pos) (f2 fa fb oS):=jO E1 (jW fun _ _=>.int _) ha hb
theorem iG (ha:SB X g m a fa) (hb:SB X g m b fb):SE X g m (.BinOp a .Mult b pos) (f2 fa fb bx):=jO EY (mM fun _ _=>.int _) ha hb
theorem pV (ha:SB X g m a fa) (hb:SB X g m b fb):SE X g m (.BinOp a .FloorDiv b pos) (f2 fa fb kE):=jO Hv (mM fun _ _=>.int _) ha hb
theorem eO (ha:SB X g m a fa) (hb:SB X g m b fb):SE X g m (.BinOp a .Mod b pos) (f2 fa fb ba):=jO EX (mM fun _ _=>.int _) ha hb
theorem Ei (ha:SB X g m a fa) (hb:SB X g m b fb):SE X g m (.BinOp a .Pow b pos) (f2 fa fb je):=jO EZ (mM fun _ _=>.int _) ha hb
theorem lR (ha:SB X g m a fa) (hb:SB X g m b fb):SE X g m (.Compare a [.Lt] [b] pos) (f2 fa fb iM):=nu sv (jW fun _ _=>.bl _) ha hb (iI _)
theorem oV (ha:SB X g m a fa) (hb:SB X g m b fb):SE X g m (.Compare a [.Gt] [b] pos) (f2 fa fb iO):=nu yG (jW fun _ _=>.bl _) ha hb (iI _)
theorem lU (ha:SB X g m a fa) (hb:SB X g m b fb):SQ X g m (.Compare a [.Lt] [b] pos) (bq (f2 fa fb iM)):=jy sv (jW fun _ _=>.bl _) ha hb (iI _)
theorem yb (ha:SB X g m a fa) (hb:SB X g m b fb):SQ X g m (.Compare a [.LtE] [b] pos) (bq (f2 fa fb nb)):=jy yH (jW fun _ _=>.bl _) ha hb (iI _)
theorem j9 (ha:SB X g m a fa) (hb:SB X g m b fb):SQ X g m (.Compare a [.Gt] [b] pos) (bq (f2 fa fb iO)):=jy yG (jW fun _ _=>.bl _) ha hb (iI _)
theorem yc (ha:SB X g m a fa) (hb:SB X g m b fb):SQ X g m (.Compare a [.GtE] [b] pos) (bq (f2 fa fb yg)):=jy DO (jW fun _ _=>.bl _) ha hb (iI _)
def f1 (fa:FE) (k:D->Option D):FE:=fun r=>(fa r).bind fun d=>bZ (k d)
def jf:D->Option D
 | .int a=>some (.int (-a))
 | _=>none
@[simp] theorem negI_int (a:Int):jf (.int a)=some (.int (-a)):=rfl
theorem yW (ha:SB X g m a fa):SE X g m (.UnaryOp .USub a pos) (f1 fa jf):=by
 refine PE.imp (EK F5 ha) fun σ H Q ⟨r,G,si,q⟩=>⟨r,G,si,bz (bv q) fun d q1 v G1 H1 w1 r1=>?_⟩
 obtain ⟨d',e,q2⟩:=cD q1
 cases d with
 | int i=>
  cases e
  exact ⟨i,r1.int w1.ok,q2 _ G1 H1 w1 (.scl (.int _))⟩
 | _=>cases e
def gq:D->Option Bool
 | .non=>some false
 | .bl b=>some b
 | .int i=>some (i != 0)
 | .str y=>if y.length<=sizeLine then some ((y.length:Int) != 0) else none
 | .lst ds=>some (! ds.isEmpty)
 | .tup ds=>some (! ds.isEmpty)
 | .dic kvs=>some (! kvs.isEmpty)
 | .obj _ _=>none
theorem uU {α β:Type} {F:α->β->Prop} {l:List α} {r:List β} (h:Paired F l r):l.isEmpty=r.isEmpty:=by cases h <;> rfl
theorem Ia {K:W.Frag} {G:GH} {H:Hp} {v:V} {d:D} {b:Bool} (gk:aP K G H) (h:RB K G H v d) (e:gq d=some b):l6 K v H b:=by
 cases d with
 | non=>cases e; rw [h.non gk]; rfl
 | bl b'=>cases e; rw [h.bl gk]; rfl
 | int i=>cases e; rw [h.int gk]; rfl
 | str y=>
  rw [h.str gk]
  have e':(if y.length<=sizeLine then some ((y.length:Int) != 0) else none)=some b:=e
  by_cases hy:y.length<=sizeLine
  ·rw [if_pos hy] at e'; cases e'; exact ⟨hy,rfl⟩
  ·rw [if_neg hy] at e'; cases e'
 | lst ds=>
  cases e
  obtain ⟨a,xs,rfl,s,r⟩:=h.lst gk
  exact .inl ⟨xs,s,by rw [uU r]⟩
 | tup ds=>
  cases e
  obtain ⟨a,xs,rfl,s,r⟩:=h.tup gk
  exact .inr (.inl ⟨xs,s,by rw [uU r]⟩)
 | dic kvs=>
  cases e
  obtain ⟨a,xs,rfl,s,r⟩:=h.dic gk
  exact .inr (.inr ⟨xs,s,by rw [uU r]⟩)
 | obj _ _=>cases e
def aL (f:FE):ak->Res Bool:=fun r=>(f r).bind fun d=>bZ (gq d)
theorem cO (ha:SB X g m a fa) (he:∀whole,isTrue a X.env whole=(do let v <-whole; standAt a.pos; holding [v] (truthy v)):=by intro _; rfl):SQ X g m a (aL fa):=by
 refine PT.imp (Iq ha he) fun σ H Q ⟨r,G,si,q⟩=>⟨r,G,si,bz (bv q) fun d q1 v G1 H1 w1 r1=>?_⟩
 obtain ⟨b,e,q2⟩:=cD q1
 exact ⟨b,Ia w1.ok r1 e,q2 G1 H1 w1⟩
abbrev FQ:=ak->Res Bool
def dy (p q:FQ):FQ:=fun r=>(p r).bind fun c=>if c=true then q r else .ok false
def eL (p q:FQ):FQ:=fun r=>(p r).bind fun c=>if c=true then .ok true else q r
def bg (p:FQ):FQ:=fun r=>(p r).bind fun c=>.ok (! c)
variable {p q:FQ} {rest:List Expr}
theorem Du {α:Type} {r:Res α} {q:α->Prop} {x x':D->Prop} (h:fin r q x) (hx:∀e,x e->x' e):fin r q x':=by
 cases r with
 | ok a=>exact h
 | exc e=>exact hx e h
 | stuck=>exact h
theorem iJ {α:Type} {r:Res α} {σ:L2.Ml} {G G1:GH} {H H1:Hp} {P P':α->Prop} (h:fin r P (XW X σ G H)) (w:Grow X.K G H G1 H1) (hp:∀a,P a->P' a):fin r P' (XW X σ G1 H1):=Du (bz h hp) fun _ x=>x.grow w
theorem pU (ha:SQ X g m a p):SW X g m (.BoolOp .And [a] pos) p:=GV ha
theorem iF (ha:SQ X g m a p):SW X g m (.BoolOp .Or [a] pos) p:=GC ha
theorem pK (ha:SQ X g m a p) (hb:SW X g m (.BoolOp .And (b::rest) pos) q):SW X g m (.BoolOp .And (a::b::rest) pos) (dy p q):=by
 refine PW.imp (Fe ha hb) fun σ H Q ⟨r,G,si,k⟩=>⟨r,G,si,bz (bv k) fun c k1 G1 H1 w1=>?_⟩
 cases c with
 | true=>rw [if_pos rfl] at k1 ⊢; exact ⟨r,G1,si.grow w1,iJ k1 w1 fun b z G' H' w'=>z G' H' (w1.trans w')⟩
 | false=>rw [if_neg Bool.false_ne_true] at k1 ⊢; exact k1 G1 H1 w1
theorem cK (ha:SQ X g m a p) (hb:SW X g m (.BoolOp .Or (b::rest) pos) q):SW X g m (.BoolOp .Or (a::b::rest) pos) (eL p q):=by
 refine PW.imp (EN ha hb) fun σ H Q ⟨r,G,si,k⟩=>⟨r,G,si,bz (bv k) fun c k1 G1 H1 w1=>?_⟩
 cases c with
 | true=>rw [if_pos rfl] at k1 ⊢; exact k1 G1 H1 w1
 | false=>rw [if_neg Bool.false_ne_true] at k1 ⊢; exact ⟨r,G1,si.grow w1,iJ k1 w1 fun b z G' H' w'=>z G' H' (w1.trans w')⟩
theorem SW.toQ (h:SW X g m e p):SQ X g m e p:=PW.pt h
theorem d9 (ha:SQ X g m a p):SQ X g m (.UnaryOp .Not a pos) (bg p):=
 PT.imp (Fd ha) fun σ H Q ⟨r,G,si,k⟩=>⟨r,G,si,bz (bv k) fun c k1 G1 H1 w1=>k1 G1 H1 w1⟩
def ig (fa fb:FE):FE:=fun r=>(fa r).bind fun d=>(bZ (jn d)).bind fun c=>if c=true then fb r else .ok (.bl false)
def LL (fa fb:FE):FE:=fun r=>(fa r).bind fun d=>(bZ (jn d)).bind fun c=>if c=true then .ok (.bl true) else fb r
def gp (fa:FE):FE:=fun r=>(fa r).bind fun d=>(bZ (jn d)).bind fun c=>.ok (.bl (! c))
theorem yY {op} (h:SE X g m a fa):SE X g m (.BoolOp op [a] pos) fa:=E7 h
theorem yT (ha:SE X g m a fa) (hb:SE X g m (.BoolOp .And (b::rest) pos) fb):SE X g m (.BoolOp .And (a::b::rest) pos) (ig fa fb):=by
 refine PE.imp (E2 ha hb) fun σ H Q ⟨r,G,si,k⟩=>⟨r,G,si,bz (bv k) fun d k1 v G1 H1 w1 r1=>?_⟩
 obtain ⟨c,e,k2⟩:=cD (bv k1)
 cases d with
 | bl c'=>
  cases e
  refine ⟨_,r1.bl w1.ok,?_⟩
  cases c with
  | true=>rw [if_pos rfl] at k2 ⊢; exact ⟨r,G1,si.grow w1,iJ k2 w1 fun b z v G' H' w'=>z v G' H' (w1.trans w')⟩
  | false=>rw [if_neg Bool.false_ne_true] at k2 ⊢; exact k2 _ G1 H1 w1 (.scl (.bl _))
 | _=>cases e
theorem yX (ha:SE X g m a fa):SE X g m (.UnaryOp .Not a pos) (gp fa):=by
 refine PE.imp (E6 ha) fun σ H Q ⟨r,G,si,k⟩=>⟨r,G,si,bz (bv k) fun d k1 v G1 H1 w1 r1=>?_⟩
 obtain ⟨c,e,k2⟩:=cD (bv k1)
 cases d with
 | bl c'=>cases e; exact ⟨_,r1.bl w1.ok,k2 _ G1 H1 w1 (.scl (.bl _))⟩
 | _=>cases e
def L8 (p:FQ) (fa fb:FE):FE:=fun r=>(p r).bind fun c=>if c=true then fa r else fb r
variable {es:List Expr} {fl fr:ak->Res (List D)}
def aa:ak->Res (List D):=fun _=>.ok []
def ae (fa:FE) (fl:ak->Res (List D)):ak->Res (List D):=fun r=>(fa r).bind fun d=>(fl r).bind fun ds=>.ok (d::ds)
theorem bI:SA X g m [] aa:=PA.imp iV fun σ H Q ⟨r,G,si,k⟩=>k [] G H (Grow.refl si.gok) .nil
theorem aT (ha:SE X g m e fa) (hr:SA X g m es fl) (hs:starEach (e::es) X.env=(false,eval e X.env)::starEach es X.env:=by rfl):SA X g m (e::es) (ae fa fl):=by
 refine PA.imp (gM ha hr hs) fun σ H Q ⟨r,G,si,k⟩=>⟨r,G,si,bz (bv k) fun d k1 v G1 H1 w1 r1=>⟨r,G1,si.grow w1,?_⟩⟩
 exact iJ (bv k1) w1 fun ds z vs G2 H2 w2 r2=>z (v::vs) G2 H2 (w1.trans w2) (.cons (r1.mono w2.ge) r2)
theorem aW:g6 X g m [] aa:=PA.imp iV fun σ H Q ⟨r,G,si,k⟩=>k [] G H (Grow.refl si.gok) .nil
theorem aV (ha:SB X g m e fa) (hr:g6 X g m es fl) (hs:starEach (e::es) X.env=(false,eval e X.env)::starEach es X.env:=by rfl):g6 X g m (e::es) (ae fa fl):=by
 refine PA.imp (gM ha hr hs) fun σ H Q ⟨r,G,si,k⟩=>⟨r,G,si,bz (bv k) fun d k1 v G1 H1 w1 r1=>⟨r,G1,si.grow w1,?_⟩⟩
 exact iJ (bv k1) w1 fun ds z vs G2 H2 w2 r2=>z (v::vs) G2 H2 (w1.trans w2) (.cons (r1.mono w2) r2)
def sz (ds:List D):Option (List D):=if ds.length<=sizeLine then some ds else none
theorem pR {ds ds':List D} (h:sz ds=some ds'):ds'=ds/\ds.length<=sizeLine:=by
 unfold sz at h; split at h
 ·rename_i hl; cases h; exact ⟨rfl,hl⟩
 ·cases h
theorem Es {ds:List D} (h:ds.length<=sizeLine):sz ds=some ds:=if_pos h
def c0 (fl:ak->Res (List D)):FE:=fun r=>(fl r).bind fun ds=>(bZ (sz ds)).bind fun ds=>.ok (.tup ds)
def eJ (fl:ak->Res (List D)):FE:=fun r=>(fl r).bind fun ds=>(bZ (sz ds)).bind fun ds=>.ok (.lst ds)
theorem eh {x1} (h:SA X g m es fl):SE X g m (.Tuple es x1 pos) (c0 fl):=by
 refine PE.imp (E8 h) fun σ H Q ⟨r,G,si,k⟩=>⟨r,G,si,bz (bv k) fun ds k1 vs G1 H1 w1 r1=>?_⟩
 obtain ⟨ds',e,k2⟩:=cD (bv k1)
 obtain ⟨rfl,hl⟩:=pR e
 have hlen:=Paired.length r1
 refine ⟨by omega,fun p hp=>?_⟩
 exact k2 _ _ _ (w1.trans (Grow.newF (d:=.tup ds') w1.ok hp (.tup (.inl cy) r1))) (.ref dE)
theorem fW (h:SA X g m es fl):SO X g m (.List es pos) (eJ fl):=by
 refine PE.imp (E4 h) fun σ H Q ⟨r,G,si,k⟩=>⟨r,G,si,bz (bv k) fun ds k1 vs G1 H1 w1 r1=>?_⟩
 obtain ⟨ds',e,k2⟩:=cD (bv k1)
 obtain ⟨rfl,hl⟩:=pR e
 have hlen:=Paired.length r1
 refine ⟨by omega,fun p hp=>?_⟩
 have hn:H p=none:=by
  cases q:H p with
  | none=>rfl
  | some o=>rw [w1.he _ _ q] at hp; cases hp
 exact k2 p G1 _ (w1.trans (Grow.new w1.ok hp _)) hn ⟨w1.ok.isN hp,.lst cy r1⟩
end
def lh (K:W.Frag) (r:List V->Hp->VK->Prop) (k:List D->Option D):Prop:=∀(G:GH) (H:Hp) (vs:List V) (ds:List D) (d:D) (Q:VK),aP K G H->Paired (RB K G H) vs ds->k ds=some d ->
 (∀v G' H',Grow K G H G' H'->RG K G' v d->Q v H')->r vs H Q
def yD (K:W.Frag) (r:List V->Hp->VK->Prop) (k:List D->Option D):Prop:=∀(G:GH) (H:Hp) (vs:List V) (ds:List D) (d:D) (Q:VK),aP K G H->Paired (RB K G H) vs ds->k ds=some d ->
 (∀a G' H',Grow K G H G' H'->H a=none->Own K G' H' a d->Q (.ref a) H')->r vs H Q
def fC (fl:ak->Res (List D)) (k:List D->Option D):FE:=fun r=>(fl r).bind fun ds=>bZ (k ds)
theorem Grow.back {K:W.Frag} {G G1:GH} {H H1:Hp} (w:Grow K G H G1 H1) {a:Addr} (hn:H1 a=none):H a=none:=by
 cases q:H a with
 | none=>rfl
 | some o=>rw [w.he _ _ q] at hn; cases hn
section
variable {X:Cx} {g:GE} {m:List Md} {e a b c:Expr} {f fa fb fc:FE} {pos p p2:Pos} {es:List Expr} {fl:ak->Res (List D)} {x:Str} {id T:String} {R:List V->Hp->VK->Prop} {k:List D->Option D}
theorem ii (hk:lh X.K R k) (h:PE X e (rQ R (xM X g m fl))):SE X g m e (fC fl k):=by
 refine PE.imp h fun σ H Q ⟨r,G,si,q⟩=>⟨r,G,si,bz (bv q) fun ds q1 vs G1 H1 w1 r1=>?_⟩
 obtain ⟨d,e,q2⟩:=cD q1
 exact hk G1 H1 vs ds d Q w1.ok r1 e fun v G' H' w' z=>q2 v G' H' (w1.trans w') z
theorem Ef (hk:yD X.K R k) (h:PE X e (rQ R (xM X g m fl))):SO X g m e (fC fl k):=by
 refine PE.imp h fun σ H Q ⟨r,G,si,q⟩=>⟨r,G,si,bz (bv q) fun ds q1 vs G1 H1 w1 r1=>?_⟩
 obtain ⟨d,e,q2⟩:=cD q1
 exact hk G1 H1 vs ds d Q w1.ok r1 e fun v G' H' w' hn z=>q2 v G' H' (w1.trans w') (w1.back hn) z
def lenD:List D->Option D
 | [.str y]=>if y.length<=sizeLine then some (.int y.length) else none
 | [.lst ds]=>some (.int ds.length)
 | [.tup ds]=>some (.int ds.length)
 | [.dic kvs]=>some (.int kvs.length)
 | _=>none
theorem Fw {K:W.Frag}:lh K (fun xs H Q=>(∃x n,xs=[x]/\pC K x H n/\Q (.int n) H)\/∃a kvs,xs=[V.ref a]/\Rd H a (.dK kvs)/\Q (.int kvs.length) H) lenD:=by
 intro G H vs ds d Q gk rs e q
 unfold lenD at e
 split at e
 ·split at e
  ·cases e
   cases rs with
   | cons r t=>cases t; exact .inl ⟨_,_,rfl,by rw [r.str gk]; exact ⟨by assumption,rfl⟩,q _ G H (Grow.refl gk) (.scl (.int _))⟩
  ·cases e
 ·cases e
  cases rs with
  | cons r t=>
   cases t
   obtain ⟨a,xs,rfl,s,r⟩:=r.lst gk
   have:=Paired.length r
   exact .inl ⟨_,_,rfl,.inl ⟨xs,s,rfl⟩,q _ G H (Grow.refl gk) (.scl (by rw [this]; exact .int _))⟩
 ·cases e
  cases rs with
  | cons r t=>
   cases t
   obtain ⟨a,xs,rfl,s,r⟩:=r.tup gk
   have:=Paired.length r
   exact .inl ⟨_,_,rfl,.inr ⟨xs,s,rfl⟩,q _ G H (Grow.refl gk) (.scl (by rw [this]; exact .int _))⟩
 ·cases e
  cases rs with
  | cons r t=>
   cases t
   obtain ⟨a,xs,rfl,s,r⟩:=r.dic gk
   have:=Paired.length r
   exact .inr ⟨_,_,rfl,s,q _ G H (Grow.refl gk) (.scl (by rw [this]; exact .int _))⟩
 ·cases e
theorem dJ (hg:Gl X "len") (hm:X.mg "len" = none) (ha:g6 X g m (e::es) fl) (he:starEach (e::es) X.env=(false,eval e X.env)::starEach es X.env:=by rfl) (hpl:(backTo pos (starEach es X.env)).any (·.1)=false:=by rfl) :
  SE X g m (.Call (.Name "len" p) (e::es) [] pos) (fC fl lenD):=ii Fw (lA (dH.or Jg Jz) hg hm PySem.boot_len ha (by decide) (by decide) he hpl)
def jx:List D->Option D
 | [.lst ds]=>some (.lst ds)
 | [.tup ds]=>some (.lst ds)
 | _=>none
theorem Hj {K:W.Frag}:yD K (fun xs H Q=>∃p ys,xs=[.ref p]/\(aZ K H p ys\/ck K H p ys)/\∀l,H l=none->Q (.ref l) (upd H l (.lst ys))) jx:=by
 intro G H vs ds d Q gk rs e q
 have fin:∀{ys:List V} {zs:List D},bL K G ys zs->(∀(a:Addr) (G':GH) (H':Hp),Grow K G H G' H'->H a=none->Own K G' H' a (.lst zs)->Q (.ref a) H')->∀l,H l=none->Q (.ref l) (upd H l (.lst ys)):=
  fun r q l hl=>q l G _ (Grow.new gk hl _) hl ⟨gk.isN hl,.lst cy r⟩
 unfold jx at e
 split at e
 ·cases e
  cases rs with
  | cons r t=>
   cases t
   obtain ⟨a,xs,rfl,s,r⟩:=r.lst gk
   exact ⟨a,xs,rfl,.inl s,fin r q⟩
 ·cases e
  cases rs with
  | cons r t=>
   cases t
   obtain ⟨a,xs,rfl,s,r⟩:=r.tup gk
   exact ⟨a,xs,rfl,.inr s,fin r q⟩
 ·cases e
theorem qd (hg:Gl X "list") (hm:X.mg "list" = none) (ha:g6 X g m (e::es) fl) (he:starEach (e::es) X.env=(false,eval e X.env)::starEach es X.env:=by rfl) (hpl:(backTo pos (starEach es X.env)).any (·.1)=false:=by rfl) :
  SO X g m (.Call (.Name "list" p) (e::es) [] pos) (fC fl jx):=Ef Hj (kN KU hg hm rfl ha (by decide) (by decide) he hpl)
def tupD:List D->Option D
 | [.lst ds]=>some (.tup ds)
 | [.tup ds]=>some (.tup ds)
 | _=>none
theorem F0 {K:W.Frag}:lh K (fun xs H Q=>∃p ys,xs=[.ref p]/\((aZ K H p ys/\∀l,H l=none->Q (.ref l) (upd H l (.tup ys)))\/(ck K H p ys/\Q (.ref p) H))) tupD:=by
 intro G H vs ds d Q gk rs e q
 unfold tupD at e
 split at e
 ·cases e
  cases rs with
  | cons r t=>
   cases t
   obtain ⟨a,xs,rfl,s,r⟩:=r.lst gk
   exact ⟨a,xs,rfl,.inl ⟨s,fun l hl=>q _ _ _ (Grow.newF gk hl (.tup (.inl cy) r)) (.ref dE)⟩⟩
 ·cases e
  cases rs with
  | cons r t=>
   cases t
   rcases r with r | ⟨a,_,o⟩
   ·obtain ⟨a,xs,rfl,s,r'⟩:=r.tup gk
    exact ⟨a,xs,rfl,.inr ⟨s,q _ G H (Grow.refl gk) r⟩⟩
   ·cases o.ob
 ·cases e
theorem gm (hg:Gl X "tuple") (hm:X.mg "tuple" = none) (ha:g6 X g m (e::es) fl) (he:starEach (e::es) X.env=(false,eval e X.env)::starEach es X.env:=by rfl) (hpl:(backTo pos (starEach es X.env)).any (·.1)=false:=by rfl) :
  SE X g m (.Call (.Name "tuple" p) (e::es) [] pos) (fC fl tupD):=ii F0 (kN Lh hg hm rfl ha (by decide) (by decide) he hpl)
def ixD:D->D->Option D
 | .lst ds,.int i=>eY ds i
 | .tup ds,.int i=>eY ds i
 | .str z,.int i=>if z.length<=sizeLine then (eY z.cps.toList i).map fun c=>.str ⟨#[c]⟩ else none
 | _,_=>none
theorem yy {K:W.Frag} {G:GH} {xs:List V} {ds:List D} {i:Int} {d:D} (r:bL K G xs ds) (h:eY ds i=some d):∃v,eY xs i=some v/\RG K G v d:=by
 unfold eY at h ⊢
 rw [Paired.length r]
 cases e:c6 ds.length i with
 | none=>rw [e] at h; cases h
 | some j=>
  rw [e] at h
  exact Paired.get r h
theorem sr {K:W.Frag}:dU K (xZ K) ixD:=by
 intro G H v1 v2 d1 d2 d Q gk r1 r2 e q
 unfold ixD at e
 split at e
 ·obtain ⟨a,xs,rfl,s,r⟩:=r1.lst gk
  obtain ⟨v,ev,rv⟩:=yy r e
  exact .inl ⟨a,xs,_,v,rfl,r2.int gk,s,ev,q v G H (Grow.refl gk) rv⟩
 ·obtain ⟨a,xs,rfl,s,r⟩:=r1.tup gk
  obtain ⟨v,ev,rv⟩:=yy r e
  exact .inr (.inl ⟨a,xs,_,v,rfl,r2.int gk,s,ev,q v G H (Grow.refl gk) rv⟩)
 ·split at e
  ·rename_i z i hz
   cases ec:eY z.cps.toList i with
   | none=>rw [ec] at e; cases e
   | some c=>
    rw [ec] at e; cases e
    exact .inr (.inr ⟨z,i,c,r1.str gk,r2.int gk,hz,ec,q _ G H (Grow.refl gk) (.scl (.str _))⟩)
  ·cases e
 ·cases e
def bW {α:Type} (xs:List α) (lo hi:Option Int):List α:=(xs.drop (HT.sIx xs.length 0 lo)).take (HT.sIx xs.length xs.length hi - HT.sIx xs.length 0 lo)
theorem yz {α β:Type} {F:α->β->Prop} {xs:List α} {ds:List β} (r:Paired F xs ds) (lo hi:Option Int):Paired F (bW xs lo hi) (bW ds lo hi):=by
 unfold bW
 rw [Paired.length r]
 exact Paired.tk _ (Paired.dr _ r)
abbrev FP:=ak->Res (Option Int)
def tP (X:Cx) (g:GE) (m:List Md) (f:FP):TO:=fun σ H Q=>∃r G,SI X g m r G σ H/\fin (f r) (fun o=>∀G' H',Grow X.K G H G' H'->Q o H') (XW X σ G H)
def rX (X:Cx) (g:GE) (m:List Md) (e:Option Expr) (f:FP):Prop:=PO X e (tP X g m f)
theorem PO.imp {X:Cx} {e:Option Expr} {t t':TO} (h:PO X e t) (i:∀σ H Q,t' σ H Q->t σ H Q):PO X e t':=fun pz s σ H Q I q=>h pz s σ H Q I (i σ H Q q)
def L9:D->Option Int
 | .int i=>some i
 | _=>none
def g9 (f:FE):FP:=fun r=>(f r).bind fun d=>(bZ (L9 d)).bind fun i=>.ok (some i)
theorem kJ:rX X g m none fun _=>.ok none:=PO.imp GQ fun σ H Q ⟨r,G,si,q⟩=>q G H (Grow.refl si.gok)
theorem kK (h:SB X g m e f):rX X g m (some e) (g9 f):=by
 refine PO.imp (GR h) fun σ H Q ⟨r,G,si,q⟩=>⟨r,G,si,bz (bv q) fun d q1 v G1 H1 w1 r1=>?_⟩
 obtain ⟨i,e,q2⟩:=cD (bv q1)
 cases d with
 | int j=>cases e; exact ⟨_,r1.int w1.ok,q2 G1 H1 w1⟩
 | _=>cases e
def jK (d:D) (lo hi:Option Int):Option D:=match d with
 | .tup ds=>if HT.sIx ds.length 0 lo=0/\HT.sIx ds.length ds.length hi=ds.length then none else some (.tup (bW ds lo hi))
 | .lst ds=>some (.lst (bW ds lo hi))
 | _=>none
def gW (fa:FE) (fl fh:FP):FE:=fun r=>(fa r).bind fun d=>(fl r).bind fun lo=>(fh r).bind fun hi=>bZ (jK d lo hi)
theorem Gv {R:V->Option Int->Option Int->Hp->Prop} {fl fh:FP} {r:ak} {G:GH} {σ:L2.Ml} {H:Hp} {q:D->Prop} (si:SI X g m r G σ H) (h:fin (gW fa fl fh r) q (XW X σ G H))
  (hk:∀d lo hi v G2 H2 d',Grow X.K G H G2 H2->RB X.K G2 H2 v d->jK d lo hi=some d'->q d'->R v lo hi H2) :
  tB X g m fa σ H fun x H1=>tP X g m fl σ H1 fun l H2=>tP X g m fh σ H2 fun u H3=>R x l u H3:=by
 refine ⟨r,G,si,bz (bv h) fun d h1 v G1 H1 w1 r1=>⟨r,G1,si.grow w1,iJ (bv h1) w1 fun lo h2 G2 H2 w2=>⟨r,G2,(si.grow w1).grow w2,?_⟩⟩⟩
 refine iJ (bv h2) (w1.trans w2) fun hi h3 G3 H3 w3=>?_
 obtain ⟨d',e,h4⟩:=cD h3
 exact hk d lo hi v G3 H3 d' ((w1.trans w2).trans w3) ((r1.mono w2).mono w3) e h4
theorem kB {lo hi:Option Expr} {fl fh:FP} (he:SB X g m e f) (hl:rX X g m lo fl) (hu:rX X g m hi fh):SE X g m (.Subscript e (.Slice lo hi none p2) pos) (gW f fl fh):=by
 refine PE.imp (Ii (kY.or HV Gw) he hl hu) fun σ H Q ⟨r,G,si,q⟩=>?_
 refine Gv si q fun d lo hi v G2 H2 d' w r1 e q2=>?_
 cases d with
 | tup ds=>
  obtain ⟨a,xs,rfl,s,r⟩:=r1.tup w.ok
  have e':(if HT.sIx ds.length 0 lo=0/\HT.sIx ds.length ds.length hi=ds.length then none else some (D.tup (bW ds lo hi)))=some d':=e
  by_cases hw:HT.sIx ds.length 0 lo=0/\HT.sIx ds.length ds.length hi=ds.length
  ·rw [if_pos hw] at e'; cases e'
  rw [if_neg hw] at e'
  cases e'
  rw [<-Paired.length r] at hw
  refine .inr ⟨a,xs,rfl,s,hw,fun p hp=>?_⟩
  exact q2 _ _ _ (w.trans (Grow.newF w.ok hp (.tup (.inl cy) (yz r lo hi)))) (.ref dE)
 | lst ds=>
  cases e
  obtain ⟨a,xs,rfl,s,r⟩:=r1.lst w.ok
  exact .inl ⟨a,xs,rfl,s,fun p hp=>q2 _ _ _ (w.trans (Grow.newF w.ok hp (.lst (.inl cy) (yz r lo hi)))) (.ref dE)⟩
 | _=>cases e
end
inductive Out where
 | nx (r:ak) | rt (d:D) | bk (r:ak) | ct (r:ak) | exc (x:D) (r:ak) | stuck
abbrev FS:=ak->Out
def aJ (G G':GH):Prop:=∀a d,G a=some d->G' a=some d
theorem aJ.refl (G:GH):aJ G G:=fun _ _ e=>e
theorem aJ.trans {G G1 G2:GH} (a:aJ G G1) (b:aJ G1 G2):aJ G G2:=fun x d e=>b x d (a x d e)
def forget (m:List Md) (r:ak):ak:=List.zipWith (fun md o=>if md=Md.sh then o else none) m r
def fV (m:List Md):List Md:=m.map fun _=>Md.sh
theorem n8 {m:List Md} {r:ak} {i:Nat} {d:D} (h:(forget m r)[i]? = some (some d)):r[i]? = some (some d)/\m[i]? = some .sh:=by
 unfold forget at h
 rw [List.getElem?_zipWith] at h
 cases e1:m[i]? with
 | none=>rw [e1] at h; cases h
 | some md=>
  cases e2:r[i]? with
  | none=>rw [e1,e2] at h; cases h
  | some o=>
   rw [e1,e2] at h
   have h':(if md=Md.sh then o else none)=some d:=Option.some.inj h
   split at h'
   ·rename_i hm; subst hm; rw [h']; exact ⟨rfl,rfl⟩
   ·cases h'
section
variable {X:Cx} {g:GE} {m:List Md} {r:ak} {G:GH} {st:L2.Ml} {H:Hp}
theorem SI.forget (s:SI X g m r G st H):SI X g (fV m) (forget m r) G st H where
 gok:=s.gok
 old:=s.old
 ge:=s.ge
 gf:=s.gf
 lm:=by rw [fV,List.length_map]; exact s.lm
 lr:=by rw [DL.forget,List.length_zipWith,s.lm,s.lr,Nat.min_self]
 sh:=fun i d h _=>s.sh i d (n8 h).1 (n8 h).2
 ow:=fun i d h hm=>by rw [fV,List.getElem?_map,(n8 h).2] at hm; cases hm
 bw:=fun i d h hm=>by rw [fV,List.getElem?_map,(n8 h).2] at hm; cases hm
 dis:=fun i j a d e _ h _ hm=>by rw [fV,List.getElem?_map,(n8 h).2] at hm; cases hm
 lk:=fun i o _ hm=>by rw [fV,List.getElem?_map] at hm; cases q:m[i]? <;> rw [q] at hm <;> cases hm
theorem SI.set (s:SI X g m r G st H) (i:Nat) {v:V} {d:D} (hv:RG X.K G v d):SI X g (m.set i .sh) (r.set i (some d)) G (st.set i (some v)) H where
 gok:=s.gok
 old:=s.old
 ge:=s.ge
 gf:=s.gf
 lm:=by simp [s.lm]
 lr:=by simp [s.lr]
 sh:=fun j e h hm=>by
  by_cases hij:i=j
  ·subst hij
   have hl:i < r.length:=by
    have:=(List.getElem?_eq_some_iff.mp h).1
    simpa using this
   rw [List.getElem?_set_self hl] at h
   cases h
   exact ⟨v,by rw [List.getElem?_set_self (by rw [<-s.lr]; exact hl)],hv⟩
  ·rw [List.getElem?_set_ne hij] at h hm
   rw [List.getElem?_set_ne hij]
   exact s.sh j e h hm
 ow:=fun j e h hm=>by
  by_cases hij:i=j
  ·subst hij
   have hl:i < m.length:=by
    have:=(List.getElem?_eq_some_iff.mp hm).1
    simpa using this
   rw [List.getElem?_set_self hl] at hm; cases hm
  ·rw [List.getElem?_set_ne hij] at h hm
   rw [List.getElem?_set_ne hij]
   exact s.ow j e h hm
 bw:=fun j e h hm=>by
  by_cases hij:i=j
  ·subst hij
   have hl:i < m.length:=by
    have:=(List.getElem?_eq_some_iff.mp hm).1
    simpa using this
   rw [List.getElem?_set_self hl] at hm; cases hm
  ·rw [List.getElem?_set_ne hij] at h hm
   rw [List.getElem?_set_ne hij]
   exact s.bw j e h hm
 dis:=fun j k a d1 d2 hjk h1 h2 hm hm' q1 q2=>by
  have hij:i≠j:=by
   rintro rfl
   have hl:i < m.length:=by
    have:=(List.getElem?_eq_some_iff.mp hm).1
    simpa using this
   rw [List.getElem?_set_self hl] at hm; cases hm
  have hik:i≠k:=by
   rintro rfl
   have hl:i < m.length:=by
    have:=(List.getElem?_eq_some_iff.mp h2).1
    rw [List.length_set,s.lr,<-s.lm] at this; exact this
   rw [List.getElem?_set_self hl] at hm'; cases hm'
  rw [List.getElem?_set_ne hij] at h1 hm q1
  rw [List.getElem?_set_ne hik] at h2 hm' q2
  exact s.dis j k a d1 d2 hjk h1 h2 hm hm' q1 q2
 lk:=fun j o hj hm=>by
  have hij:i≠j:=by
   rintro rfl
   have hl:i < m.length:=by
    have:=(List.getElem?_eq_some_iff.mp hm).1
    simpa using this
   rw [List.getElem?_set_self hl] at hm; cases hm
  rw [List.getElem?_set_ne hij] at hm
  have:=s.lk j o hj hm
  exact ⟨by rw [List.getElem?_set_ne hij]; exact this.1,fun d h=>this.2 d (by rw [List.getElem?_set_ne hij] at h; exact h)⟩
theorem SI.setO (s:SI X g m r G st H) (i:Nat) {a:Addr} {d:D} (ho:Own X.K G H a d) (h0:g.h0 a=none) (hx:∀(j:Nat) (b:Addr) (e:D),r[j]? = some (some e)->m[j]? = some Md.ow->st[j]? = some (some (V.ref b))->b≠a) :
  SI X g (m.set i .ow) (r.set i (some d)) G (st.set i (some (V.ref a))) H where
 gok:=s.gok
 old:=s.old
 ge:=s.ge
 gf:=s.gf
 lm:=by simp [s.lm]
 lr:=by simp [s.lr]
 sh:=fun j e h hm=>by
  by_cases hij:i=j
  ·subst hij
   have hl:i < m.length:=by
    have:=(List.getElem?_eq_some_iff.mp hm).1
    simpa using this
   rw [List.getElem?_set_self hl] at hm; cases hm
  ·rw [List.getElem?_set_ne hij] at h hm
   rw [List.getElem?_set_ne hij]
   exact s.sh j e h hm
 ow:=fun j e h hm=>by
  by_cases hij:i=j
  ·subst hij
   have hl:i < r.length:=by
    have:=(List.getElem?_eq_some_iff.mp h).1
    simpa using this
   rw [List.getElem?_set_self hl] at h
   cases h
   exact ⟨a,by rw [List.getElem?_set_self (by rw [<-s.lr]; exact hl)],ho,h0⟩
  ·rw [List.getElem?_set_ne hij] at h hm
   rw [List.getElem?_set_ne hij]
   exact s.ow j e h hm
 bw:=fun j e h hm=>by
  by_cases hij:i=j
  ·subst hij
   have hl:i < m.length:=by
    have:=(List.getElem?_eq_some_iff.mp hm).1
    simpa using this
   rw [List.getElem?_set_self hl] at hm; cases hm
  ·rw [List.getElem?_set_ne hij] at h hm
   rw [List.getElem?_set_ne hij]
   exact s.bw j e h hm
 dis:=fun j k b d1 d2 hjk h1 h2 hm hm' q1 q2=>by
  by_cases hij:i=j
  ·subst hij
   rw [List.getElem?_set_ne hjk] at h2 hm' q2
   have hl:i < st.length:=by
    have:=(List.getElem?_eq_some_iff.mp q1).1
    simpa using this
   rw [List.getElem?_set_self hl] at q1
   have e:a=b:=by injection q1 with q1; injection q1 with q1; injection q1
   exact hx k b d2 h2 hm' q2 e.symm
  ·by_cases hik:i=k
   ·subst hik
    rw [List.getElem?_set_ne hij] at h1 hm q1
    have hl:i < st.length:=by
     have:=(List.getElem?_eq_some_iff.mp q2).1
     simpa using this
    rw [List.getElem?_set_self hl] at q2
    have e:a=b:=by injection q2 with q2; injection q2 with q2; injection q2
    exact hx j b d1 h1 hm q1 e.symm
   ·rw [List.getElem?_set_ne hij] at h1 hm q1
    rw [List.getElem?_set_ne hik] at h2 hm' q2
    exact s.dis j k b d1 d2 hjk h1 h2 hm hm' q1 q2
 lk:=fun j o hj hm=>by
  have hij:i≠j:=by
   rintro rfl
   have hl:i < m.length:=by
    have:=(List.getElem?_eq_some_iff.mp hm).1
    simpa using this
   rw [List.getElem?_set_self hl] at hm; cases hm
  rw [List.getElem?_set_ne hij] at hm
  have:=s.lk j o hj hm
  exact ⟨by rw [List.getElem?_set_ne hij]; exact this.1,fun d h=>this.2 d (by rw [List.getElem?_set_ne hij] at h; exact h)⟩
theorem SI.other (s:SI X g m r G st H) {p:Addr} (hp:G p=none) (h0:g.h0 p=none) (hm:∀(i:Nat),m[i]?≠some Md.ow) (o:HO):SI X g m r G st (upd H p o) where
 gok:=fun b e h=>(s.gok b e h).mono (fun _ _ z=>z) fun o' q=>by rw [bH (by rintro rfl; rw [hp] at h; cases h)]; exact q
 old:=fun b o' h=>by rw [bH (by rintro rfl; rw [h0] at h; cases h)]; exact s.old b o' h
 ge:=s.ge
 gf:=s.gf
 lm:=s.lm
 lr:=s.lr
 sh:=s.sh
 ow:=fun i d _ h=>absurd h (hm i)
 bw:=fun i d h1 h2=>by
  obtain ⟨v,h3,h4⟩:=s.bw i d h1 h2
  refine ⟨v,h3,?_⟩
  rcases h4 with h4 | ⟨a,rfl,h4,h5⟩
  ·exact .inl h4
  ·have ha:a≠p:=by rintro rfl; exact h5 h0
   exact .inr ⟨a,rfl,⟨h4.un,h4.ob.mono (fun _ _ z=>z) fun o' z=>by rw [bH ha]; exact z⟩,h5⟩
 dis:=fun i j a d e _ _ _ h=>absurd h (hm i)
 lk:=s.lk
theorem SI.less (s:SI X g m r G st H) {r':ak} (hl:r'.length=r.length) (h:∀(i:Nat) d,r'[i]? = some (some d)->r[i]? = some (some d)):SI X g m r' G st H:=
 ⟨s.gok,s.old,s.ge,s.gf,s.lm,hl.trans s.lr,fun i d a b=>s.sh i d (h i d a) b,fun i d a b=>s.ow i d (h i d a) b,fun i d a b=>s.bw i d (h i d a) b,fun i j a d e n p q x y=>s.dis i j a d e n (h i d p) (h j e q) x y,fun i o hi hm=>by
  have:=s.lk i o hi hm
  exact ⟨this.1,fun d hd=>this.2 d (h i d hd)⟩⟩
theorem SI.held (s:SI X g m r G st H) {j:Nat} {b:Addr} {e:D} (h:r[j]? = some (some e)) (hm:m[j]? = some .ow) (hs:st[j]? = some (some (V.ref b))):H b≠none:=by
 obtain ⟨a,h1,h2,_⟩:=s.ow j e h hm
 rw [hs] at h1
 injection h1 with h1; injection h1 with h1; injection h1 with h1
 rw [h1]; exact h2.ob.isS
theorem SI.new (s:SI X g m r G st H) {a:Addr} (hn:H a=none):g.h0 a=none:=by
 cases q:g.h0 a with
 | none=>rfl
 | some o=>rw [s.old _ _ q] at hn; cases hn
theorem SI.setN (s:SI X g m r G st H) {G':GH} {H':Hp} (w:Grow X.K G H G' H') (i:Nat) {a:Addr} {d:D} (hn:H a=none) (ho:Own X.K G' H' a d):SI X g (m.set i .ow) (r.set i (some d)) G' (st.set i (some (V.ref a))) H':=by
 refine (s.grow w).setO i ho ?_ fun j b e h1 h2 h3=>?_
 ·cases q:g.h0 a with
  | none=>rfl
  | some o=>rw [s.old _ _ q] at hn; cases hn
 ·rintro rfl
  exact s.held h1 h2 h3 hn
theorem SI.mut (s:SI X g m r G st H) {i:Nat} {d:D} (hm:m[i]? = some .ow) (hd:r[i]? = some (some d)) :
  ∃a,st[i]? = some (some (V.ref a))/\Own X.K G H a d/\∀(o':HO) (d':D),OwnO X.K G (upd H a o') a d'->SI X g m (r.set i (some d')) G st (upd H a o'):=by
 obtain ⟨a,h1,h2,h3⟩:=s.ow i d hd hm
 have hl:i < r.length:=(List.getElem?_eq_some_iff.mp hd).1
 refine ⟨a,h1,h2,fun o' d' ob=>?_⟩
 have oth:∀(j:Nat) (b:Addr) (e:D),j≠i->r[j]? = some (some e)->m[j]? = some .ow->st[j]? = some (some (V.ref b))->b≠a:=fun j b e hj q1 q2 q3 z=>by
  subst z
  exact s.dis i j b d e (Ne.symm hj) hd q1 hm q2 h1 q3
 refine ⟨fun b e h=>?_,fun b o h=>?_,s.ge,s.gf,s.lm,by simp [s.lr],?_,?_,?_,?_,fun j o hj hm'=>?_⟩
 ·have hb:b≠a:=by rintro rfl; rw [h2.un] at h; cases h
  exact (s.gok b e h).mono (fun _ _ z=>z) fun o q=>by rw [bH hb]; exact q
 ·have hb:b≠a:=by rintro rfl; rw [h3] at h; cases h
  rw [bH hb]; exact s.old b o h
 ·intro j e h hm'
  have hij:i≠j:=by rintro rfl; rw [hm] at hm'; cases hm'
  rw [List.getElem?_set_ne hij] at h
  exact s.sh j e h hm'
 ·intro j e h hm'
  by_cases hij:i=j
  ·subst hij
   rw [List.getElem?_set_self hl] at h; cases h
   exact ⟨a,h1,⟨h2.un,ob⟩,h3⟩
  ·rw [List.getElem?_set_ne hij] at h
   obtain ⟨b,q1,q2,q3⟩:=s.ow j e h hm'
   have hb:=oth j b e (Ne.symm hij) h hm' q1
   exact ⟨b,q1,⟨q2.un,q2.ob.mono (fun _ _ z=>z) fun o z=>by rw [bH hb]; exact z⟩,q3⟩
 ·intro j e h hm'
  have hij:i≠j:=by rintro rfl; rw [hm] at hm'; cases hm'
  rw [List.getElem?_set_ne hij] at h
  obtain ⟨v,q1,q2⟩:=s.bw j e h hm'
  refine ⟨v,q1,?_⟩
  rcases q2 with q2 | ⟨b,rfl,q2,q3⟩
  ·exact .inl q2
  ·have hb:b≠a:=by rintro rfl; exact q3 h3
   exact .inr ⟨b,rfl,⟨q2.un,q2.ob.mono (fun _ _ z=>z) fun o z=>by rw [bH hb]; exact z⟩,q3⟩
 ·have bound:∀(j:Nat) e,(r.set i (some d'))[j]? = some (some e)->∃e',r[j]? = some (some e'):=fun j e h=>by
   by_cases hij:i=j
   ·subst hij; exact ⟨d,hd⟩
   ·rw [List.getElem?_set_ne hij] at h; exact ⟨e,h⟩
  intro j k b d1 d2 hjk q1 q2 p1 p2 z1 z2
  obtain ⟨e1,q1⟩:=bound j d1 q1
  obtain ⟨e2,q2⟩:=bound k d2 q2
  exact s.dis j k b e1 e2 hjk q1 q2 p1 p2 z1 z2
 ·have hij:i≠j:=by rintro rfl; rw [hm] at hm'; cases hm'
  have:=s.lk j o hj hm'
  exact ⟨this.1,fun d'' h=>this.2 d'' (by rw [List.getElem?_set_ne hij] at h; exact h)⟩
end
def RV (ro:Bool) (K:W.Frag) (H0:Hp) (G:GH) (H:Hp) (v:V) (d:D):Prop:=match ro with
 | false=>RG K G v d
 | true=>(∃a,v=.ref a/\H0 a=none/\Own K G H a d)\/(d=.non/\v=.non)
def cf (X:Cx) (g:GE) (ro:Bool) (m' mb:List Md) (G:GH) (D:Ends):Out->Prop
 | .nx r'=>∀σ' G' H',aJ G G'->SI X g m' r' G' σ' H'->D.nx σ' H'
 | .rt d=>∀v G' H',Grow X.K g.gh g.h0 G' H'->RV ro X.K g.h0 G' H' v d->D.rt v H'
 | .bk r'=>∀σ' G' H',aJ G G'->SI X g mb r' G' σ' H'->D.bk σ' H'
 | .ct r'=>∀σ' G' H',aJ G G'->SI X g mb r' G' σ' H'->D.ct σ' H'
 | .exc x r'=>∀pz e s' σ' G' H',aJ G G'->SI X g (fV m') r' G' σ' H'->Inv X pz σ' H' s'->Dm X σ' G' H' e x s'->X.xe e s'
 | .stuck=>False
def tS (X:Cx) (g:GE) (ro:Bool) (m m' mb:List Md) (f:FS):TS:=fun D σ H=>∃r G,SI X g m r G σ H/\cf X g ro m' mb G D (f r)
def SS (X:Cx) (g:GE) (ro:Bool) (mb m:List Md) (st:Stmt) (f:FS) (m':List Md):Prop:=m'.length=m.length/\PS X st (tS X g ro m m' mb f)
def gb (X:Cx) (g:GE) (ro:Bool) (mb m:List Md) (st:List Stmt) (f:FS) (m':List Md):Prop:=m'.length=m.length/\cQ X st (tS X g ro m m' mb f)
theorem qF {m m':List Md} (h:m'.length=m.length):fV m'=fV m:=by
 unfold fV
 rw [List.map_const',List.map_const',h]
theorem cf.x {X:Cx} {g:GE} {ro:Bool} {m m' mb:List Md} {r:ak} {G:GH} {D:Ends} {σ:L2.Ml} {H:Hp} {x:DL.D} (h:cf X g ro m' mb G D (.exc x (forget m r))) (si:SI X g m r G σ H) (hl:m'.length=m.length):XW X σ G H x:=
 fun pz e s' G' H' w I ex=>h pz e s' σ G' H' w.ge (by rw [qF hl]; exact (si.grow w).forget) I ex
section
variable {X:Cx} {g:GE} {ro:Bool} {m m' m1 mb:List Md} {e a b c tg:Expr} {f fa fb fc:FE} {p:FQ} {pos pos':Pos} {st:Stmt} {sts sts':List Stmt} {s1 s2:FS}
theorem cf.gle {G G1:GH} {D:Ends} {o:Out} (h:cf X g ro m' mb G D o) (w:aJ G G1):cf X g ro m' mb G1 D o:=by
 cases o with
 | nx r'=>exact fun σ' G' H' q si=>h σ' G' H' (w.trans q) si
 | rt d=>exact h
 | bk r'=>exact fun σ' G' H' q si=>h σ' G' H' (w.trans q) si
 | ct r'=>exact fun σ' G' H' q si=>h σ' G' H' (w.trans q) si
 | exc x r'=>exact fun pz e s' σ' G' H' q=>h pz e s' σ' G' H' (w.trans q)
 | stuck=>exact h
def Mg (s1 s2:FS):FS:=fun r=>match s1 r with
 | .nx r'=>s2 r'
 | o=>o
def ar:FS:=fun r=>.nx r
theorem ax:gb X g ro mb m [] ar m:=⟨rfl,cQ.imp tX fun D σ H ⟨r,G,si,q⟩=>q σ G H (aJ.refl G) si⟩
theorem aj (h1:SS X g ro mb m st s1 m1) (h2:gb X g ro mb m1 sts s2 m'):gb X g ro mb m (st::sts) (Mg s1 s2) m':=by
 refine ⟨h2.1.trans h1.1,cQ.imp (mN h1.2 h2.2) fun D σ H ⟨r,G,si,q⟩=>⟨r,G,si,?_⟩⟩
 unfold Mg at q
 cases e:s1 r with
 | nx r'=>
  rw [e] at q
  exact fun σ' G' H' w si'=>⟨r',G',si',cf.gle q w⟩
 | rt d=>rw [e] at q; exact q
 | bk r'=>rw [e] at q; exact q
 | ct r'=>rw [e] at q; exact q
 | exc x r'=>rw [e] at q; exact fun pz e s' σ' G' H' w si'=>q pz e s' σ' G' H' w (by rw [qF h2.1]; exact si')
 | stuck=>rw [e] at q; exact q
theorem G9:SS X g ro mb m st (fun _=>.stuck) m:=⟨rfl,PS.imp Im fun D σ H ⟨r,G,si,q⟩=>q⟩
theorem nv (i:Nat) (hi:m[i]? = some .ow) (h:SS X g ro mb (m.set i .sh) st s1 m'):SS X g ro mb m st s1 m':=by
 refine ⟨h.1.trans (by simp),fun pz s σ H D I ⟨r,G,si,q⟩=>?_⟩
 rcases si.frz i hi with ⟨G',le,si'⟩ | ⟨a,z⟩
 ·exact h.2 pz s σ H D I ⟨r,G',si',cf.gle q le⟩
 ·obtain ⟨ob,I2⟩:=Inv.fast I a
  obtain ⟨G',le,si'⟩:=z ob
  exact h.2 pz s σ _ D I2 ⟨r,G',si',cf.gle q le⟩
def gA {α:Type} (m:List Md) (r:ak) (x:Res α) (k:α->Out):Out:=match x with
 | .ok a=>k a
 | .exc e=>.exc e (forget m r)
 | .stuck=>.stuck
@[simp] theorem onE_ok {α:Type} (m:List Md) (r:ak) (a:α) (k:α->Out):gA m r (.ok a) k=k a:=rfl
theorem hW {α:Type} {x:Res α} {k:α->Out} {r:ak} {G:GH} {D:Ends} {σ:L2.Ml} {H:Hp} (si:SI X g m r G σ H) (hl:m'.length=m.length) (h:cf X g ro m' mb G D (gA m r x k)):fin x (fun a=>cf X g ro m' mb G D (k a)) (XW X σ G H):=by
 cases x with
 | ok a=>exact h
 | exc e=>exact cf.x h si hl
 | stuck=>exact h
def ao (m:List Md) (i:Nat) (f:FE):FS:=fun r=>gA m r (f r) fun d=>.nx (r.set i (some d))
theorem Ej (i:Nat) {x:Str} (hN:X.N.Nodup) (hi:X.N[i]? = some x) (hx:iP X.env.scope x) (he:SE X g m e f) (hs:swapsWith e (some (.Name x pos')) pos.line X.env=pure false:=by rfl)
  (hf:X.fn x=true\/X.env.scope.names.lookup x=some .local:=by first | exact .inl rfl | exact .inr rfl | assumption):SS X g ro mb m (.Assign [.Name x pos'] e pos) (ao m i f) (m.set i .sh):=by
 have hl:(m.set i .sh).length=m.length:=by simp
 refine ⟨hl,PS.imp (sO hN hi hx he hs hf) fun D σ H ⟨r,G,si,q⟩=>⟨r,G,si,?_⟩⟩
 exact bz (hW si hl q) fun d q v G' H' w rv=>q _ G' H' w.ge ((si.grow w).set i rv)
theorem hU (i:Nat) {x:Str} (hN:X.N.Nodup) (hi:X.N[i]? = some x) (hx:iP X.env.scope x) (he:SO X g m e f) (hs:swapsWith e (some (.Name x pos')) pos.line X.env=pure false:=by rfl)
  (hf:X.fn x=true\/X.env.scope.names.lookup x=some .local:=by first | exact .inl rfl | exact .inr rfl | assumption):SS X g ro mb m (.Assign [.Name x pos'] e pos) (ao m i f) (m.set i .ow):=by
 have hl:(m.set i .ow).length=m.length:=by simp
 refine ⟨hl,PS.imp (sO hN hi hx he hs hf) fun D σ H ⟨r,G,si,q⟩=>⟨r,G,si,?_⟩⟩
 exact bz (hW si hl q) fun d q a G' H' w hn ho=>q _ G' H' w.ge (si.setN w i hn ho)
def au (m:List Md) (f:FE):FS:=fun r=>gA m r (f r) fun d=>.rt d
theorem bf (he:SE X g m e f):SS X g false mb m (.Return (some e) pos) (au m f) m:=
 ⟨rfl,PS.imp (Fc he) fun D σ H ⟨r,G,si,q⟩=>⟨r,G,si,bz (hW si rfl q) fun d q v G' H' w rv=>q v G' H' (si.grow w).grown rv⟩⟩
def bS (m:List Md) (p:FQ) (s1 s2:FS):FS:=fun r=>gA m r (p r) fun c=>if c=true then s1 r else s2 r
theorem a9 (hc:SQ X g m c p) (h1:gb X g ro mb m sts s1 m') (h2:gb X g ro mb m sts' s2 m'):SS X g ro mb m (.If c sts sts' pos) (bS m p s1 s2) m':=by
 refine ⟨h1.1,PS.imp (EL hc h1.2 h2.2) fun D σ H ⟨r,G,si,q⟩=>⟨r,G,si,bz (hW si h1.1 q) fun c q G' H' w=>?_⟩⟩
 cases c with
 | true=>rw [if_pos rfl] at q ⊢; exact ⟨r,G',si.grow w,cf.gle q w.ge⟩
 | false=>rw [if_neg Bool.false_ne_true] at q ⊢; exact ⟨r,G',si.grow w,cf.gle q w.ge⟩
theorem uW (i:Nat) (h:gb X g ro mb m sts s1 m') (hi:m'[i]? = some .ow):gb X g ro mb m sts s1 (m'.set i .sh):=by
 refine ⟨by simp [h.1],fun pz s σ H D I ⟨r,G,si,q⟩=>?_⟩
 refine aY (h.2 pz s σ H ⟨fun σ' H'=>D.nx σ' H'\/∃a,∀ob,D.nx σ' (fz H' a ob),D.rt,D.bk,D.ct⟩ I ⟨r,G,si,?_⟩) fun f s' p=>?_
 ·cases e:s1 r with
  | nx r'=>
   rw [e] at q
   intro σ' G' H' w si'
   rcases si'.frz i hi with ⟨G2,le,si2⟩ | ⟨a,z⟩
   ·exact .inl (q σ' G2 H' (w.trans le) si2)
   ·refine .inr ⟨a,fun ob=>?_⟩
    obtain ⟨G2,le,si2⟩:=z ob
    exact q σ' G2 _ (w.trans le) si2
  | rt d=>rw [e] at q; exact q
  | bk r'=>rw [e] at q; exact q
  | ct r'=>rw [e] at q; exact q
  | exc x r'=>rw [e] at q; exact fun pz e s' σ' G' H' w si'=>q pz e s' σ' G' H' w (by rw [qF (m:=m') (by simp)]; exact si')
  | stuck=>rw [e] at q; exact q
 ·cases f with
  | next=>
   obtain ⟨σ',H',I',z | ⟨a,z⟩⟩:=p
   ·exact ⟨σ',H',I',z⟩
   ·obtain ⟨ob,I2⟩:=Inv.fast I' a
    exact ⟨σ',_,I2,z ob⟩
  | brk=>exact p
  | cont=>exact p
  | ret u=>exact p
end
abbrev FT:=D->ak->Option ak
abbrev jN:=List D->ak->Option ak
def tG (X:Cx) (g:GE) (m m':List Md) (ft:FT):TG:=fun v σ H Q=>∃r G d,SI X g m r G σ H/\RG X.K G v d/\∃r',ft d r=some r'/\∀σ',SI X g m' r' G σ' H->Q σ' H
def LW (X:Cx) (g:GE) (m m':List Md) (ft:jN):jM:=fun vs σ H Q=>∃r G ds,SI X g m r G σ H/\bL X.K G vs ds/\∃r',ft ds r=some r'/\∀σ',SI X g m' r' G σ' H->Q σ' H
theorem PG.imp {X:Cx} {e:Expr} {t t':TG} (h:PG X e t) (i:∀v σ H Q,t' v σ H Q->t v σ H Q):PG X e t':=fun pz s σ H v u Q I r q=>h pz s σ H v u Q I r (i v σ H Q q)
theorem jp.imp {X:Cx} {e:List Expr} {t t':jM} (h:jp X e t) (i:∀v σ H Q,t' v σ H Q->t v σ H Q):jp X e t':=fun pz s σ H v u Q I r q=>h pz s σ H v u Q I r (i v σ H Q q)
def SG (X:Cx) (g:GE) (m:List Md) (tg:Expr) (ft:FT) (m':List Md):Prop:=m'.length=m.length/\PG X tg (tG X g m m' ft)
structure SGs (X:Cx) (g:GE) (m:List Md) (ts:List Expr) (n:Nat) (ft:jN) (m':List Md):Prop where
 ml:m'.length=m.length
 ln:∀ds r r',ft ds r=some r'->ds.length=n
 pg:jp X ts (LW X g m m' ft)
def av (i:Nat):FT:=fun d r=>some (r.set i (some d))
def bT (ft:jN):FT:=fun d r=>match d with
 | .tup ds=>ft ds r
 | .lst ds=>ft ds r
 | _=>none
def bQ:jN:=fun ds r=>match ds with
 | []=>some r
 | _=>none
def aK (ft:FT) (fts:jN):jN:=fun ds r=>match ds with
 | []=>none
 | d::ds=>(ft d r).bind fun r'=>fts ds r'
section
variable {X:Cx} {g:GE} {m m' m1:List Md} {tg:Expr} {ts:List Expr} {ft:FT} {fts:jN} {pos:Pos} {n:Nat}
theorem FL (i:Nat) {x:Str} (hN:X.N.Nodup) (hi:X.N[i]? = some x) (hx:iP X.env.scope x) (hf:X.fn x=true\/X.env.scope.names.lookup x=some .local:=by first | exact .inl rfl | exact .inr rfl | assumption) :
  SG X g m (.Name x pos) (av i) (m.set i .sh):=
 ⟨by simp,PG.imp (GO hN hi hx hf) fun v σ H Q ⟨r,G,d,si,rv,r',e,k⟩=>by cases e; exact k _ (si.set i rv)⟩
theorem dY:SGs X g m [] 0 bQ m:=by
 refine ⟨rfl,fun ds r r' e=>?_,jp.imp GP fun v σ H Q ⟨r,G,ds,si,rv,r',e,k⟩=>?_⟩
 ·cases ds with
  | nil=>rfl
  | cons _ _=>cases e
 ·cases rv with
  | nil=>cases e; exact ⟨rfl,k σ si⟩
  | cons _ _=>cases e
theorem bO (h1:SG X g m tg ft m1) (h2:SGs X g m1 ts n fts m') (hs:(assignEach (tg::ts) X.env).map (·.2)=assign tg X.env::(assignEach ts X.env).map (·.2):=by rfl):SGs X g m (tg::ts) (n + 1) (aK ft fts) m':=by
 refine ⟨h2.ml.trans h1.1,fun ds r r' e=>?_,jp.imp (Ij h1.2 h2.pg hs) fun v σ H Q ⟨r,G,ds,si,rv,r',e,k⟩=>?_⟩
 ·cases ds with
  | nil=>cases e
  | cons d ds=>
   have e':((ft d r).bind fun r'=>fts ds r')=some r':=e
   cases q:ft d r with
   | none=>rw [q] at e'; cases e'
   | some r1=>
    rw [q] at e'
    have:=h2.ln ds r1 r' e'
    simp [this]
 ·cases rv with
  | nil=>cases e
  | @cons v0 d vs ds rv rs=>
   have e':((ft d r).bind fun r'=>fts ds r')=some r':=e
   cases q:ft d r with
   | none=>rw [q] at e'; cases e'
   | some r1=>
    rw [q] at e'
    exact ⟨_,_,rfl,r,G,d,si,rv,r1,q,fun σ' si'=>⟨r1,G,ds,si',rs,r',e',k⟩⟩
theorem Fa {k:Nat} {t:jM} (hc:X.calm=true) (h:jp X ts t) (hn:(assignEach ts X.env).length=n) (hst:(assignEach ts X.env).findIdx? (·.1)=none) :
  PG X (.Tuple ts k pos) (fun v σ H Q=>∃a xs,v=.ref a/\aZ X.K H a xs/\xs.length=n/\t xs σ H Q):=by
 intro pz s σ H v u Q I r hw
 obtain ⟨a,xs,e1,hq,hl,hw⟩:=hw
 subst e1
 cases r
 obtain ⟨its,rv,⟨o,nn,l1,l2,l3,l4⟩,hz⟩:=I.list hq
 rw [PyProof.Rows.assign_Tuple]
 refine wpAny_bind (wpAny_standAt ?_)
 unfold unpack
 rw [hst,show (assignEach ts X.env).length=its.toArray.size by simp [hn,<-hl,rv.length]]
 refine wpAny_bind (wpAny_holding (W.kun_itemsOf (I.ok.hd hc) ⟨o,l1,l2,nn,l4⟩ fun h' hx=>?_))
 have I1:Inv X pz σ H { s with heap:=h' }:=I.kept (t':=s.toks) fun b o e=>hx b o (Nat.ne_of_lt (Heap.lt_size e)) e
 exact h pz _ σ H xs _ Q I1 (by simpa using rv) hw
theorem PG.or {e:Expr} {t t':TG} (h:PG X e t) (h':PG X e t'):PG X e (fun v σ H Q=>t v σ H Q\/t' v σ H Q):=fun pz s σ H v u Q I r q=>q.elim (h pz s σ H v u Q I r) (h' pz s σ H v u Q I r)
theorem dZ {k:Nat} (hc:X.calm=true) (h:SGs X g m ts n fts m') (hn:(assignEach ts X.env).length=n:=by rfl) (hst:(assignEach ts X.env).findIdx? (·.1)=none:=by rfl):SG X g m (.Tuple ts k pos) (bT fts) m':=by
 refine ⟨h.ml,PG.imp (PG.or (E9 hc h.pg hn hst) (Fa hc h.pg hn hst)) fun v σ H Q ⟨r,G,d,si,rv,r',e,k⟩=>?_⟩
 cases d with
 | tup ds=>
  obtain ⟨a,xs,rfl,s,rs⟩:=rv.tup si.gok
  exact .inl ⟨a,xs,rfl,s,(Paired.length rs).trans (h.ln ds r r' e),r,G,ds,si,rs,r',e,k⟩
 | lst ds=>
  obtain ⟨a,xs,rfl,s,rs⟩:=rv.lst si.gok
  exact .inr ⟨a,xs,rfl,s,(Paired.length rs).trans (h.ln ds r r' e),r,G,ds,si,rs,r',e,k⟩
 | _=>cases e
end
structure Yields (K:W.Frag) (J:It) (ds:List D) (G0:GH):Prop where
 go:∀G H (i:Nat),aJ G0 G->aP K G H->i < ds.length->J.go i H
 yld:∀G H (i:Nat) x H' d,aJ G0 G->aP K G H->J.yld i H x H'->ds[i]? = some d->∃G',Grow K G H G' H'/\RG K G' x d
 stop:∀G H,aJ G0 G->aP K G H->J.stop ds.length H
abbrev FI:=ak->Res (List D)
def tI (X:Cx) (g:GE) (m:List Md) (f:FI):TI:=fun σ H R=>∃r G,SI X g m r G σ H/\fin (f r) (fun ds=>∀J G' H',Grow X.K G H G' H'->Yields X.K J ds G'->R J H') (XW X σ G H)
def gC (X:Cx) (g:GE) (m:List Md) (tg iter:Expr) (f:FI):Prop:=PI X tg iter (tI X g m f)
theorem PI.imp {X:Cx} {tg e:Expr} {t t':TI} (h:PI X tg e t) (i:∀σ H Q,t' σ H Q->t σ H Q):PI X tg e t':=fun pz s σ H R I q=>h pz s σ H R I (i σ H R q)
theorem tH {K:W.Frag} {a:Addr} {ds:List D} {G0:GH} (h0:RG K G0 (.ref a) (.lst ds)):Yields K (pE K a) ds G0:=by
 have at_:∀G H,aJ G0 G->aP K G H->∃xs,aZ K H a xs/\bL K G xs ds:=fun G H w gk=>by
  obtain ⟨b,xs,e,s,r⟩:=(h0.mono w).lst gk
  cases e
  exact ⟨xs,s,r⟩
 refine ⟨fun G H i w gk hi=>?_,fun G H i x H' d w gk y e=>?_,fun G H w gk=>?_⟩
 ·obtain ⟨xs,s,r⟩:=at_ G H w gk
  have hl:=Paired.length r
  exact ⟨xs,xs[i],s,List.getElem?_eq_getElem (by omega)⟩
 ·obtain ⟨xs,s,r⟩:=at_ G H w gk
  obtain ⟨rfl,y⟩:=y
  obtain ⟨v,e1,rv⟩:=Paired.get r e
  have:=y xs s
  rw [e1] at this; cases this
  exact ⟨G,Grow.refl gk,rv⟩
 ·obtain ⟨xs,s,r⟩:=at_ G H w gk
  exact ⟨xs,s,Nat.le_of_eq (Paired.length r)⟩
theorem tm {K:W.Frag} {a:Addr} {ds:List D} {G0:GH} (h0:RG K G0 (.ref a) (.tup ds)):Yields K (yu K a) ds G0:=by
 have at_:∀G H,aJ G0 G->aP K G H->∃xs,ck K H a xs/\bL K G xs ds:=fun G H w gk=>by
  obtain ⟨b,xs,e,s,r⟩:=(h0.mono w).tup gk
  cases e
  exact ⟨xs,s,r⟩
 refine ⟨fun G H i w gk hi=>?_,fun G H i x H' d w gk y e=>?_,fun G H w gk=>?_⟩
 ·obtain ⟨xs,s,r⟩:=at_ G H w gk
  have hl:=Paired.length r
  exact ⟨xs,xs[i],s,List.getElem?_eq_getElem (by omega)⟩
 ·obtain ⟨xs,s,r⟩:=at_ G H w gk
  obtain ⟨rfl,y⟩:=y
  obtain ⟨v,e1,rv⟩:=Paired.get r e
  have:=y xs s
  rw [e1] at this; cases this
  exact ⟨G,Grow.refl gk,rv⟩
 ·obtain ⟨xs,s,r⟩:=at_ G H w gk
  exact ⟨xs,s,Nat.le_of_eq (Paired.length r)⟩
def cJ (lo:Int) (n:Nat):List D:=(List.range n).map fun (i:Nat)=>D.int (lo + (i:Int))
theorem Ga {K:W.Frag} {lo:Int} {n:Nat} {G0:GH}:Yields K (rZ lo n) (cJ lo n) G0:=by
 have hl:(cJ lo n).length=n:=by simp [cJ]
 refine ⟨fun G H i w gk hi=>(by rw [hl] at hi; exact hi),fun G H i x H' d w gk y e=>?_,fun G H w gk=>(by rw [hl]; exact Nat.le_refl _)⟩
 obtain ⟨rfl,rfl⟩:=y
 have hi:i < n:=by
  have:=(List.getElem?_eq_some_iff.mp e).1
  rw [hl] at this; exact this
 unfold cJ at e
 rw [List.getElem?_map,List.getElem?_range hi] at e
 cases e
 exact ⟨G,Grow.refl gk,.scl (.int _)⟩
def bp:D->Option (List D)
 | .lst ds=>some ds
 | .tup ds=>some ds
 | _=>none
section
variable {X:Cx} {g:GE} {m m' m1 mb:List Md} {tg e a b c iter:Expr} {f fa fb:FE} {p:FQ} {pos pos':Pos} {ro:Bool} {fl:ak->Res (List D)} {sts:List Stmt} {s1:FS}
def aC (k:D->Option (List D)) (f:FE):FI:=fun r=>(f r).bind fun d=>bZ (k d)
theorem sN {l:Expr} {tl:TE} (hl:PE X l tl):PI X tg l (fun σ H R=>tl σ H fun x H1=>(∃a,x=.ref a/\(∃xs,aZ X.K H1 a xs)/\R (pE X.K a) H1)\/∃a,x=.ref a/\(∃xs,ck X.K H1 a xs)/\R (yu X.K a) H1):=by
 intro pz s σ H R I h
 refine aY (hl pz s σ H _ I h) fun v s1 ⟨x,H1,I1,r1,q1⟩=>?_
 rcases q1 with ⟨a,e,⟨xs,hq⟩,q⟩ | ⟨a,e,⟨xs,hq⟩,q⟩
 ·subst e
  cases r1
  obtain ⟨its,rv,p,hz⟩:=I1.list hq
  refine wpAny_pyIter_list p.isList ?_
  refine ⟨s1.heap.objs.size,[s1.heap.objs.size],_,_,H1,rfl,I1.kept (t':=s1.toks) fun b o e=>Heap.get?_push_of_some _ e,Kv a _,⟨_,Heap.get?_push_size _ rfl,rfl,rfl⟩,fun b hb=>?_,q⟩
  have e:b=s1.heap.objs.size:=by simpa using hb
  subst e
  exact I1.fpOk (Nat.le_refl _) (I1.hok.fresh (Nat.le_refl _))
 ·subst e
  cases r1
  obtain ⟨its,rv,p,hz⟩:=I1.tuple hq
  refine wpAny_pyIter_tuple (show s1.heap.IsTuple a its.toArray from p) ?_
  refine ⟨s1.heap.objs.size,[s1.heap.objs.size],_,_,H1,rfl,I1.kept (t':=s1.toks) fun b o e=>Heap.get?_push_of_some _ e,KJ a _,⟨_,Heap.get?_push_size _ rfl,rfl,rfl⟩,fun b hb=>?_,q⟩
  have e:b=s1.heap.objs.size:=by simpa using hb
  subst e
  exact I1.fpOk (Nat.le_refl _) (I1.hok.fresh (Nat.le_refl _))
theorem mr (h:SE X g m e f):gC X g m tg e (aC bp f):=by
 refine PI.imp (sN h) fun σ H R ⟨r,G,si,q⟩=>⟨r,G,si,bz (bv q) fun d q v G' H' w rv=>?_⟩
 obtain ⟨ds,e,q⟩:=cD q
 cases d with
 | lst ds'=>
  cases e
  obtain ⟨a,xs,rfl,s,rs⟩:=rv.lst w.ok
  exact .inl ⟨a,rfl,⟨xs,s⟩,q _ G' H' w (tH rv)⟩
 | tup ds'=>
  cases e
  obtain ⟨a,xs,rfl,s,rs⟩:=rv.tup w.ok
  exact .inr ⟨a,rfl,⟨xs,s⟩,q _ G' H' w (tm rv)⟩
 | _=>cases e
structure YieldsC (K:W.Frag) (J:It) (ds:List D) (G0:GH) (H0:Hp):Prop where
 go:∀G H (i:Nat),Grow K G0 H0 G H->i < ds.length->J.go i H
 yld:∀G H (i:Nat) x H' d,Grow K G0 H0 G H->J.yld i H x H'->ds[i]? = some d->∃G',Grow K G H G' H'/\RG K G' x d
 stop:∀G H,Grow K G0 H0 G H->J.stop ds.length H
theorem Yields.toC {K:W.Frag} {J:It} {ds:List D} {G0:GH} {H0:Hp} (y:Yields K J ds G0):YieldsC K J ds G0 H0:=
 ⟨fun G H i w hi=>y.go G H i w.ge w.ok hi,fun G H i x H' d w q e=>y.yld G H i x H' d w.ge w.ok q e,fun G H w=>y.stop G H w.ge w.ok⟩
def LU (X:Cx) (g:GE) (m:List Md) (f:FI):TI:=fun σ H R=>∃r G,SI X g m r G σ H/\fin (f r) (fun ds=>∀J G' H',Grow X.K G H G' H'->YieldsC X.K J ds G' H'->R J H') (XW X σ G H)
def iw (X:Cx) (g:GE) (m:List Md) (tg iter:Expr) (f:FI):Prop:=PI X tg iter (LU X g m f)
theorem gC.toC {fi:FI} (h:gC X g m tg iter fi):iw X g m tg iter fi:=PI.imp h fun σ H R ⟨r,G,si,q⟩=>⟨r,G,si,bz q fun ds k J G' H' w y=>k J G' H' w y.toC⟩
theorem F9 {K:W.Frag} {a:Addr} {ds:List D} {G0:GH} {H0:Hp} (o:Own K G0 H0 a (.lst ds)):YieldsC K (pE K a) ds G0 H0:=by
 have at_:∀G H,Grow K G0 H0 G H->∃xs,aZ K H a xs/\bL K G xs ds:=fun G H w=>by
  cases (o.mono w).ob with
  | lst r s=>exact ⟨_,aZ.of r,s⟩
 refine ⟨fun G H i w hi=>?_,fun G H i x H' d w y e=>?_,fun G H w=>?_⟩
 ·obtain ⟨xs,s,r⟩:=at_ G H w
  have hl:=Paired.length r
  exact ⟨xs,xs[i],s,List.getElem?_eq_getElem (by omega)⟩
 ·obtain ⟨xs,s,r⟩:=at_ G H w
  obtain ⟨rfl,y⟩:=y
  obtain ⟨v,e1,rv⟩:=Paired.get r e
  have:=y xs s
  rw [e1] at this; cases this
  exact ⟨G,Grow.refl w.ok,rv⟩
 ·obtain ⟨xs,s,r⟩:=at_ G H w
  exact ⟨xs,s,Nat.le_of_eq (Paired.length r)⟩
theorem dL (h:SB X g m e f):iw X g m tg e (aC bp f):=by
 refine PI.imp (sN h) fun σ H R ⟨r,G,si,q⟩=>⟨r,G,si,bz (bv q) fun d q v G' H' w rv=>?_⟩
 obtain ⟨ds,e,q⟩:=cD q
 cases d with
 | lst ds'=>
  cases e
  rcases rv with rv | ⟨a,rfl,o⟩
  ·obtain ⟨a,xs,rfl,s,rs⟩:=rv.lst w.ok
   exact .inl ⟨a,rfl,⟨xs,s⟩,q _ G' H' w (tH rv).toC⟩
  ·cases o.ob with
   | lst r s=>exact .inl ⟨a,rfl,⟨_,aZ.of r⟩,q _ G' H' w (F9 o)⟩
 | tup ds'=>
  cases e
  rcases rv with rv | ⟨a,rfl,o⟩
  ·obtain ⟨a,xs,rfl,s,rs⟩:=rv.tup w.ok
   exact .inr ⟨a,rfl,⟨xs,s⟩,q _ G' H' w (tm rv).toC⟩
  ·cases o.ob
 | _=>cases e
def cw:List D->Option (List D)
 | [.int j]=>if -(2 ^ 62)<=j/\j < 2 ^ 62 then some (cJ 0 j.toNat) else none
 | _=>none
def cC (k:List D->Option (List D)) (fl:ak->Res (List D)):FI:=fun r=>(fl r).bind fun ds=>bZ (k ds)
theorem iY {pn:Pos} (hg:Gl X "range") (hm:X.mg "range" = none) (ha:g6 X g m [a] fl) (hs:starEach [a] X.env=[(false,eval a X.env)]:=by rfl):gC X g m tg (.Call (.Name "range" pn) [a] [] pos) (cC cw fl):=by
 refine PI.imp (JQ hg hm ha hs) fun σ H R ⟨r,G,si,q⟩=>⟨r,G,si,bz (bv q) fun ds q vs G' H' w rs=>?_⟩
 obtain ⟨zs,e,q⟩:=cD q
 unfold cw at e
 split at e
 ·split at e
  ·rename_i j hj
   cases e
   cases rs with
   | cons r1 t=>cases t; exact ⟨j,by rw [r1.int w.ok],hj.1,hj.2,q _ G' H' w Ga⟩
  ·cases e
 ·cases e
def aE (ft:FT) (body:FS):List D->FS
 | [],r=>.nx r
 | d::ds,r=>match ft d r with
  | none=>.stuck
  | some r1=>match body r1 with
   | .nx r'=>aE ft body ds r'
   | .ct r'=>aE ft body ds r'
   | .bk r'=>.nx r'
   | o=>o
def cI (m:List Md) (fi:FI) (ft:FT) (body:FS):FS:=fun r=>gA m r (fi r) fun ds=>aE ft body ds r
theorem fI (hp:PassesOwn (model X.prog X.w) X.A X.env X.xe) (hc:X.calm=true) {ft:FT} {fi:FI} (hi:gC X g m tg iter fi) (hg:SG X g m tg ft m) (hb:gb X g ro m m sts s1 m)
  (hs:∀x,foldedSetIterable iter X.env x=pure x:=by intro _; rfl):SS X g ro mb m (.For tg iter sts [] pos) (cI m fi ft s1) m:=by
 refine ⟨rfl,PS.imp (pT hp hc hi hg.2 hb.2 hs) fun D σ H ⟨r,G,si,q⟩=>⟨r,G,si,bz (hW si rfl q) fun ds q J G0 H0 w0 Y=>?_⟩⟩
 refine ⟨fun i n σ H=>∃r G,SI X g m r G σ H/\aJ G0 G/\i<=ds.length/\n=ds.length - i/\cf X g ro m mb G D (aE ft s1 (ds.drop i) r),⟨ds.length,r,G0,si.grow w0,aJ.refl G0,Nat.zero_le _,rfl,cf.gle q w0.ge⟩,?_⟩
 rintro i n σ1 H1 ⟨r1,G1,si1,le1,hi,rfl,q1⟩
 by_cases hlt:i < ds.length
 ·have hd:ds.drop i=ds[i]::ds.drop (i + 1):=List.drop_eq_getElem_cons hlt
  rw [hd] at q1
  unfold aE at q1
  refine .inr ⟨Y.go G1 H1 i le1 si1.gok hlt,fun σ' H'=>∃r G,SI X g m r G σ' H'/\aJ G0 G/\cf X g ro m mb G D (aE ft s1 (ds.drop (i + 1)) r),fun σ' H' ⟨r',G',si',le',q'⟩=>⟨ds.length - (i + 1),by omega,r',G',si',le',hlt,rfl,q'⟩,fun x H' y=>?_⟩
  obtain ⟨G',w',rv⟩:=Y.yld G1 H1 i x H' ds[i] le1 si1.gok y (List.getElem?_eq_getElem hlt)
  have le':aJ G0 G':=le1.trans w'.ge
  cases eft:ft ds[i] r1 with
  | none=>simp only [eft] at q1; exact q1.elim
  | some r2=>
   simp only [eft] at q1
   refine ⟨r1,G',ds[i],si1.grow w',rv,r2,eft,fun σ2 si2=>⟨r2,G',si2,?_⟩⟩
   cases eb:s1 r2 with
   | nx r'=>simp only [eb] at q1; exact fun σ3 G3 H3 le3 si3=>⟨r',G3,si3,le'.trans le3,cf.gle q1 (aJ.trans w'.ge le3)⟩
   | ct r'=>simp only [eb] at q1; exact fun σ3 G3 H3 le3 si3=>⟨r',G3,si3,le'.trans le3,cf.gle q1 (aJ.trans w'.ge le3)⟩
   | bk r'=>simp only [eb] at q1; exact fun σ3 G3 H3 le3 si3=>q1 σ3 G3 H3 (aJ.trans w'.ge le3) si3
   | rt d=>simp only [eb] at q1; exact q1
   | exc x r'=>simp only [eb] at q1; exact fun pz e s' σ3 G3 H3 le3=>q1 pz e s' σ3 G3 H3 (aJ.trans w'.ge le3)
   | stuck=>simp only [eb] at q1; exact q1
 ·have e:i=ds.length:=by omega
  subst e
  rw [List.drop_length] at q1
  exact .inl ⟨Y.stop G1 H1 le1 si1.gok,q1 σ1 G1 H1 (aJ.refl _) si1⟩
def cR (m:List Md):List Md:=m.map fun x=>if x=Md.sh then Md.sh else Md.bw
def lf (m:List Md) (r:ak) (st:L2.Ml) (G:GH) (H:Hp):GE:=⟨G,H,fun i=>if m[i]? = some Md.ow\/m[i]? = some Md.bw then some ((st[i]?).join,(r[i]?).join) else none⟩
theorem nY {m:List Md} {i:Nat} {x:Md} (h:m[i]? = some x):(cR m)[i]? = some (if x=Md.sh then Md.sh else Md.bw):=by
 unfold cR; rw [List.getElem?_map,h]; rfl
theorem IT {m:List Md} {i:Nat} (h:(cR m)[i]? = some Md.sh):m[i]? = some Md.sh:=by
 cases q:m[i]? with
 | none=>unfold cR at h; rw [List.getElem?_map,q] at h; cases h
 | some x=>
  rw [nY q] at h
  cases x <;> first | rfl | (simp at h)
theorem Bt {m:List Md} {i:Nat} (h:(cR m)[i]? = some Md.ow):False:=by
 cases q:m[i]? with
 | none=>unfold cR at h; rw [List.getElem?_map,q] at h; cases h
 | some x=>
  rw [nY q] at h
  cases x <;> simp at h
theorem lockM_bw {m:List Md} {i:Nat} (h:(cR m)[i]? = some Md.bw):m[i]? = some Md.ow\/m[i]? = some Md.bw:=by
 cases q:m[i]? with
 | none=>unfold cR at h; rw [List.getElem?_map,q] at h; cases h
 | some x=>
  rw [nY q] at h
  cases x with
  | sh=>simp at h
  | ow=>exact .inl rfl
  | bw=>exact .inr rfl
theorem SI.lock {r:ak} {G:GH} {st:L2.Ml} {H:Hp} (s:SI X g m r G st H):SI X (lf m r st G H) (cR m) r G st H where
 gok:=s.gok
 old:=fun _ _ e=>e
 ge:=fun _ _ e=>e
 gf:=fun _ _=>rfl
 lm:=by unfold cR; rw [List.length_map]; exact s.lm
 lr:=s.lr
 sh:=fun i d h hm=>s.sh i d h (IT hm)
 ow:=fun i d h hm=>(Bt hm).elim
 bw:=fun i d h hm=>by
  rcases lockM_bw hm with z | z
  ·obtain ⟨a,h1,h2,_⟩:=s.ow i d h z
   exact ⟨_,h1,.inr ⟨a,rfl,h2,h2.ob.isS⟩⟩
  ·obtain ⟨v,h1,h2⟩:=s.bw i d h z
   refine ⟨v,h1,?_⟩
   rcases h2 with h2 | ⟨a,e,h2,_⟩
   ·exact .inl h2
   ·exact .inr ⟨a,e,h2,h2.ob.isS⟩
 dis:=fun i j a d e _ _ _ hm=>(Bt hm).elim
 lk:=fun i o h hm=>by
  have h':(if m[i]? = some Md.ow\/m[i]? = some Md.bw then some ((st[i]?).join,(r[i]?).join) else none)=some o:=h
  rw [if_pos (lockM_bw hm)] at h'
  cases h'
  have hi:i < st.length:=by
   have:=(List.getElem?_eq_some_iff.mp hm).1
   unfold cR at this
   rw [List.length_map,s.lm] at this; exact this
  refine ⟨?_,fun d hd=>by rw [hd]; rfl⟩
  rw [List.getElem?_eq_getElem hi]; rfl
theorem SI.unlock {r r':ak} {G G':GH} {st st':L2.Ml} {H H':Hp} (s:SI X g m r G st H) (s':SI X (lf m r st G H) (cR m) r' G' st' H'):SI X g m r' G' st' H':=by
 have w:Grow X.K G H G' H':=s'.grown
 have hlk:∀(i:Nat),(m[i]? = some Md.ow\/m[i]? = some Md.bw)->st'[i]? = some (st[i]?).join/\∀d,r'[i]? = some (some d)->r[i]? = some (some d):=fun i hi=>by
  have hm:(cR m)[i]? = some Md.bw:=by
   rcases hi with z | z <;> rw [nY z] <;> simp
  obtain ⟨h1,h2⟩:=s'.lk i ((st[i]?).join,(r[i]?).join) (if_pos hi) hm
  refine ⟨h1,fun d hd=>?_⟩
  have:=h2 d hd
  cases q:r[i]? with
  | none=>rw [q] at this; cases this
  | some o=>rw [q] at this; rw [show o=some d from this]
 have hst:∀(i:Nat) v,(m[i]? = some Md.ow\/m[i]? = some Md.bw)->st[i]? = some (some v)->st'[i]? = some (some v):=fun i v hi h=>by
  rw [(hlk i hi).1,h]; rfl
 refine ⟨s'.gok,fun a o e=>s'.old a o (s.old a o e),fun a d e=>s'.ge a d (s.ge a d e),fun a h=>?_,?_,s'.lr,fun i d h hm=>?_,fun i d h hm=>?_,fun i d h hm=>?_,fun i j a d e hij h1 h2 m1 m2 q1 q2=>?_,fun i o hi hm=>?_⟩
 ·have h1:H a≠none:=by
   cases e:g.h0 a with
   | none=>exact absurd e h
   | some o=>rw [s.old _ _ e]; simp
  rw [w.gf a h1,s.gf a h]
 ·have:=s'.lm
  unfold cR at this
  rw [List.length_map] at this; exact this
 ·exact s'.sh i d h (by rw [nY hm]; simp)
 ·obtain ⟨a,h1,h2,h3⟩:=s.ow i d ((hlk i (.inl hm)).2 d h) hm
  exact ⟨a,hst i _ (.inl hm) h1,h2.mono w,h3⟩
 ·obtain ⟨v,h1,h2⟩:=s.bw i d ((hlk i (.inr hm)).2 d h) hm
  exact ⟨v,hst i _ (.inr hm) h1,h2.grow w⟩
 ·have e1:=(hlk i (.inl m1)).2 d h1
  have e2:=(hlk j (.inl m2)).2 e h2
  obtain ⟨b,z1,_,_⟩:=s.ow i d e1 m1
  obtain ⟨c,z2,_,_⟩:=s.ow j e e2 m2
  have y1:=hst i _ (.inl m1) z1
  have y2:=hst j _ (.inl m2) z2
  rw [q1] at y1
  rw [q2] at y2
  cases y1
  cases y2
  exact s.dis i j a d e hij e1 e2 m1 m2 z1 z2
 ·obtain ⟨h1,h2⟩:=s.lk i o hi hm
  refine ⟨?_,fun d hd=>h2 d ((hlk i (.inr hm)).2 d hd)⟩
  rw [(hlk i (.inr hm)).1,h1]; rfl
theorem SI.unlockX {r r':ak} {G G':GH} {st st':L2.Ml} {H H':Hp} (s:SI X g m r G st H) (s':SI X (lf m r st G H) (fV (cR m)) r' G' st' H'):SI X g (fV m) r' G' st' H':=by
 have w:Grow X.K G H G' H':=s'.grown
 have el:fV (cR m)=fV m:=qF (by unfold cR; rw [List.length_map])
 rw [el] at s'
 have no:∀{i:Nat} {x:Md},(fV m)[i]? = some x->x=Md.sh:=fun {i x} h=>by
  unfold fV at h
  rw [List.getElem?_map] at h
  cases q:m[i]? with
  | none=>rw [q] at h; cases h
  | some y=>rw [q] at h; cases h; rfl
 refine ⟨s'.gok,fun a o e=>s'.old a o (s.old a o e),fun a d e=>s'.ge a d (s.ge a d e),fun a h=>?_,s'.lm,s'.lr,s'.sh,fun i d h hm=>(nomatch (no hm)),fun i d h hm=>(nomatch (no hm)),fun i j a d e hij h1 h2 m1 m2=>(nomatch (no m1)),fun i o hi hm=>(nomatch (no hm))⟩
 have h1:H a≠none:=by
  cases e:g.h0 a with
  | none=>exact absurd e h
  | some o=>rw [s.old _ _ e]; simp
 rw [w.gf a h1,s.gf a h]
theorem tq (hp:PassesOwn (model X.prog X.w) X.A X.env X.xe) (hc:X.calm=true) {ft:FT} {fi:FI} (hi:iw X g m tg iter fi) (hg:∀g',SG X g' (cR m) tg ft (cR m)) (hb:∀g',gb X g' ro (cR m) (cR m) sts s1 (cR m))
  (hs:∀x,foldedSetIterable iter X.env x=pure x:=by intro _; rfl):SS X g ro mb m (.For tg iter sts [] pos) (cI m fi ft s1) m:=by
 have hgA:PG X tg (fun v σ H Q=>∃g',tG X g' (cR m) (cR m) ft v σ H Q):=fun pz s σ H v u Q I r ⟨g',q⟩=>(hg g').2 pz s σ H v u Q I r q
 have hbA:cQ X sts (fun D σ H=>∃g',tS X g' ro (cR m) (cR m) (cR m) s1 D σ H):=fun pz s σ H D I ⟨g',q⟩=>(hb g').2 pz s σ H D I q
 refine ⟨rfl,PS.imp (pT hp hc hi hgA hbA hs) fun D σ H ⟨r,G,si,q⟩=>⟨r,G,si,bz (hW si rfl q) fun ds q J G0 H0 w0 Y=>?_⟩⟩
 have si0:=si.grow w0
 refine ⟨fun i n σ1 H1=>∃r1 G1,SI X (lf m r σ G0 H0) (cR m) r1 G1 σ1 H1/\i<=ds.length/\n=ds.length - i/\cf X g ro m mb G1 D (aE ft s1 (ds.drop i) r1),⟨ds.length,r,G0,si0.lock,Nat.zero_le _,rfl,cf.gle q w0.ge⟩,?_⟩
 rintro i n σ1 H1 ⟨r1,G1,si1,hi,rfl,q1⟩
 have wg:Grow X.K G0 H0 G1 H1:=si1.grown
 by_cases hlt:i < ds.length
 ·have hd:ds.drop i=ds[i]::ds.drop (i + 1):=List.drop_eq_getElem_cons hlt
  rw [hd] at q1
  unfold aE at q1
  refine .inr ⟨Y.go G1 H1 i wg hlt,fun σ' H'=>∃r' G',SI X (lf m r σ G0 H0) (cR m) r' G' σ' H'/\cf X g ro m mb G' D (aE ft s1 (ds.drop (i + 1)) r'),fun σ' H' ⟨r',G',si',q'⟩=>⟨ds.length - (i + 1),by omega,r',G',si',hlt,rfl,q'⟩,fun x H' y=>?_⟩
  obtain ⟨G',w',rv⟩:=Y.yld G1 H1 i x H' ds[i] wg y (List.getElem?_eq_getElem hlt)
  cases eft:ft ds[i] r1 with
  | none=>simp only [eft] at q1; exact q1.elim
  | some r2=>
   simp only [eft] at q1
   refine ⟨lf m r σ G0 H0,r1,G',ds[i],si1.grow w',rv,r2,eft,fun σ2 si2=>⟨lf m r σ G0 H0,r2,G',si2,?_⟩⟩
   cases eb:s1 r2 with
   | nx r'=>simp only [eb] at q1; exact fun σ3 G3 H3 le3 si3=>⟨r',G3,si3,cf.gle q1 (aJ.trans w'.ge le3)⟩
   | ct r'=>simp only [eb] at q1; exact fun σ3 G3 H3 le3 si3=>⟨r',G3,si3,cf.gle q1 (aJ.trans w'.ge le3)⟩
   | bk r'=>simp only [eb] at q1; exact fun σ3 G3 H3 le3 si3=>q1 σ3 G3 H3 (aJ.trans w'.ge le3) (si0.unlock si3)
   | rt d=>
    simp only [eb] at q1
    intro v G2 H2 wr rv2
    refine q1 v G2 H2 (si0.grown.trans wr) ?_
    cases ro with
    | false=>exact rv2
    | true=>
     rcases rv2 with ⟨a,e1,e2,e3⟩ | z
     ·exact .inl ⟨a,e1,si0.grown.back e2,e3⟩
     ·exact .inr z
   | exc x r'=>simp only [eb] at q1; exact fun pz e s' σ3 G3 H3 le3 si3=>q1 pz e s' σ3 G3 H3 (aJ.trans w'.ge le3) (si0.unlockX si3)
   | stuck=>simp only [eb] at q1; exact q1
 ·have e:i=ds.length:=by omega
  subst e
  rw [List.drop_length] at q1
  exact .inl ⟨Y.stop G1 H1 wg,q1 σ1 G1 H1 (aJ.refl _) (si0.unlock si1)⟩
def dM (m:List Md) (p:FQ) (body:FS):Nat->FS
 | 0,_=>.stuck
 | n + 1,r=>gA m r (p r) fun c=>if c=true then (match body r with
   | .nx r'=>dM m p body n r'
   | .ct r'=>dM m p body n r'
   | .bk r'=>.nx r'
   | o=>o) else .nx r
theorem nN (n:Nat) (hp:PassesOwn (model X.prog X.w) X.A X.env X.xe) (hc:SQ X g m c p) (hb:gb X g ro m m sts s1 m):SS X g ro mb m (.While c sts [] pos) (dM m p s1 n) m:=by
 refine ⟨rfl,PS.imp (Io hp hc hb.2) fun D σ H ⟨r,G,si,q⟩=>?_⟩
 refine ⟨fun n σ H=>∃r G,SI X g m r G σ H/\cf X g ro m mb G D (dM m p s1 n r),⟨n,r,G,si,q⟩,?_⟩
 rintro n σ1 H1 ⟨r1,G1,si1,q1⟩
 cases n with
 | zero=>exact q1.elim
 | succ n=>
  unfold dM at q1
  refine ⟨r1,G1,si1,bz (hW si1 rfl q1) fun c q2 G2 H2 w2=>?_⟩
  cases c with
  | false=>rw [if_neg Bool.false_ne_true] at q2 ⊢; exact q2 σ1 G2 H2 w2.ge (si1.grow w2)
  | true=>
   rw [if_pos rfl] at q2 ⊢
   refine ⟨fun σ' H'=>∃r G,SI X g m r G σ' H'/\cf X g ro m mb G D (dM m p s1 n r),fun σ' H' h=>⟨n,Nat.lt_succ_self _,h⟩,r1,G2,si1.grow w2,?_⟩
   cases eb:s1 r1 with
   | nx r'=>simp only [eb] at q2; exact fun σ3 G3 H3 le3 si3=>⟨r',G3,si3,cf.gle q2 (aJ.trans w2.ge le3)⟩
   | ct r'=>simp only [eb] at q2; exact fun σ3 G3 H3 le3 si3=>⟨r',G3,si3,cf.gle q2 (aJ.trans w2.ge le3)⟩
   | bk r'=>simp only [eb] at q2; exact fun σ3 G3 H3 le3 si3=>q2 σ3 G3 H3 (aJ.trans w2.ge le3) si3
   | rt d=>simp only [eb] at q2; exact q2
   | exc x r'=>simp only [eb] at q2; exact fun pz e s' σ3 G3 H3 le3=>q2 pz e s' σ3 G3 H3 (aJ.trans w2.ge le3)
   | stuck=>simp only [eb] at q2; exact q2
def jm (m:List Md) (f:FE) (ft:FT):FS:=fun r=>gA m r (f r) fun d=>match ft d r with
 | some r'=>.nx r'
 | none=>.stuck
theorem yV {ft:FT} (he:SE X g m e f) (hg:SG X g m tg ft m') (hs:swapsWithSole [tg] e pos.line X.env=pure false:=by rfl) (hw:swappedStores [tg] e X.env=pure none:=by rfl)
  (h1:(assignEach [tg] X.env).map (·.2)=[assign tg X.env]:=by rfl):SS X g ro mb m (.Assign [tg] e pos) (jm m f ft) m':=by
 refine ⟨hg.1,PS.imp (pS he hg.2 hs hw h1) fun D σ H ⟨r,G,si,q⟩=>⟨r,G,si,bz (hW si hg.1 q) fun d q v G' H' w rv=>?_⟩⟩
 cases e1:ft d r with
 | none=>simp only [e1] at q; exact q.elim
 | some r'=>
  simp only [e1] at q
  exact ⟨r,G',d,si.grow w,rv,r',e1,fun σ' si'=>q σ' G' H' w.ge si'⟩
end
def na:Res D->Res D
 | .ok d=>.ok d
 | _=>.stuck
@[simp] theorem noX_ok (d:D):na (.ok d)=.ok d:=rfl
inductive ArgsOk (K:W.Frag) (G:GH) (H:Hp):List Md->List V->List D->Prop where
 | nil:ArgsOk K G H [] [] []
 | sh {v:V} {d:D} {ms:List Md} {vs:List V} {ds:List D}:RG K G v d->ArgsOk K G H ms vs ds->ArgsOk K G H (.sh::ms) (v::vs) (d::ds)
 | bw {v:V} {d:D} {ms:List Md} {vs:List V} {ds:List D}:RB K G H v d->ArgsOk K G H ms vs ds->ArgsOk K G H (.bw::ms) (v::vs) (d::ds)
section
variable {K:W.Frag} {G G':GH} {H H':Hp}
theorem ArgsOk.mono:∀{ms:List Md} {vs:List V} {ds:List D},ArgsOk K G H ms vs ds->Grow K G H G' H'->ArgsOk K G' H' ms vs ds
 | _,_,_,.nil,_=>.nil
 | _,_,_,.sh h t,w=>.sh (h.mono w.ge) (t.mono w)
 | _,_,_,.bw h t,w=>.bw (h.mono w) (t.mono w)
theorem ArgsOk.len {ms:List Md} {vs:List V} {ds:List D} (h:ArgsOk K G H ms vs ds):vs.length=ms.length/\ds.length=ms.length:=by
 induction h with
 | nil=>exact ⟨rfl,rfl⟩
 | sh h t ih=>exact ⟨congrArg (· + 1) ih.1,congrArg (· + 1) ih.2⟩
 | bw h t ih=>exact ⟨congrArg (· + 1) ih.1,congrArg (· + 1) ih.2⟩
theorem ArgsOk.app {dvs:List V} {dds:List D} (hs:Paired Scl dvs dds):∀{ms:List Md} {vs:List V} {ds:List D},ArgsOk K G H ms vs ds->ArgsOk K G H (ms++List.replicate dds.length .sh) (vs++dvs) (ds++dds)
 | _,_,_,.nil=>by
  induction hs with
  | nil=>exact .nil
  | cons h t ih=>exact .sh (.scl h) ih
 | _,_,_,.sh h t=>.sh h (t.app hs)
 | _,_,_,.bw h t=>.bw h (t.app hs)
theorem ArgsOk.get:∀{ms:List Md} {vs:List V} {ds:List D} {i:Nat} {d:D},ArgsOk K G H ms vs ds->ds[i]? = some d->∃v,vs[i]? = some v/\((ms[i]? = some .sh/\RG K G v d)\/(ms[i]? = some .bw/\RB K G H v d))
 | _,_,_,_,_,.nil,e=>by simp at e
 | _,_,_,0,_,.sh h t,e=>by simp at e; subst e; exact ⟨_,rfl,.inl ⟨rfl,h⟩⟩
 | _,_,_,0,_,.bw h t,e=>by simp at e; subst e; exact ⟨_,rfl,.inr ⟨rfl,h⟩⟩
 | _,_,_,i + 1,d,.sh h t,e=>by
  obtain ⟨v,h1,h2⟩:=t.get (i:=i) (d:=d) (by simpa using e)
  exact ⟨v,by simpa using h1,by simpa using h2⟩
 | _,_,_,i + 1,d,.bw h t,e=>by
  obtain ⟨v,h1,h2⟩:=t.get (i:=i) (d:=d) (by simpa using e)
  exact ⟨v,by simpa using h1,by simpa using h2⟩
end
def j7 (K:W.Frag) (ro:Bool) (ms:List Md) (F:List D->Res D):Sp:=fun vs H Q _=>∃G ds,aP K G H/\ArgsOk K G H ms vs ds/\fin (F ds) (fun d=>∀v G' H',Grow K G H G' H'->RV ro K H G' H' v d->Q v H') fun _=>False
def aH (ro:Bool):Out->Res D
 | .nx _=>if ro=true then .stuck else .ok .non
 | .rt d=>.ok d
 | .exc x _=>.exc x
 | _=>.stuck
def bG (n:Nat) (ds:List D):ak:=ds.map some++List.replicate (n - ds.length) none
def kL (n:Nat) (ms:List Md):List Md:=ms++List.replicate (n - ms.length) .sh
section
variable {P:Program} {w:World} {K:W.Frag} {mg:Str->Option Value} {base:Heap}
theorem IE {X:Cx} {N:List Str} {ms:List Md} {vs:List V} {ds:List D} {G:GH} {H:Hp} (gk:aP X.K G H) (rs:ArgsOk X.K G H ms vs ds) (hn:ms.length<=N.length):SI X ⟨G,H,fun _=>none⟩ (kL N.length ms) (bG N.length ds) G (L2.bV N vs) H:=by
 obtain ⟨l1,l2⟩:=rs.len
 have e1:(L2.bV N vs).length=N.length:=by unfold L2.bV; rw [List.length_append,List.length_map,List.length_replicate]; omega
 have e2:(bG N.length ds).length=N.length:=by unfold bG; rw [List.length_append,List.length_map,List.length_replicate]; omega
 have e3:(kL N.length ms).length=N.length:=by unfold kL; rw [List.length_append,List.length_replicate]; omega
 have at_:∀(i:Nat) d,(bG N.length ds)[i]? = some (some d)->i < ms.length/\(kL N.length ms)[i]? = ms[i]?/\∃v,(L2.bV N vs)[i]? = some (some v)/\((ms[i]? = some .sh/\RG X.K G v d)\/(ms[i]? = some .bw/\RB X.K G H v d)):=fun i d h=>by
  unfold bG at h
  by_cases hi:i < ds.length
  ·rw [List.getElem?_append_left (by simpa using hi),List.getElem?_map] at h
   have hd:ds[i]? = some d:=by
    cases z:ds[i]? with
    | none=>rw [z] at h; cases h
    | some d'=>rw [z] at h; cases h; rfl
   obtain ⟨v,hv,rv⟩:=rs.get hd
   refine ⟨by omega,?_,v,?_,rv⟩
   ·unfold kL
    rw [List.getElem?_append_left (by omega)]
   ·unfold L2.bV
    rw [List.getElem?_append_left (by rw [List.length_map]; omega),List.getElem?_map,hv]
    rfl
  ·rw [List.getElem?_append_right (by simpa using hi),List.getElem?_replicate] at h
   split at h <;> cases h
 refine ⟨gk,fun _ _ e=>e,fun _ _ e=>e,fun _ _=>rfl,by rw [e3,e1],by rw [e1,e2],fun i d h hm=>?_,fun i d h hm=>?_,fun i d h hm=>?_,fun i j a d e _ h _ hm=>?_,fun i o h=>nomatch h⟩
 ·obtain ⟨_,hq,v,h1,h2⟩:=at_ i d h
  rw [hq] at hm
  rcases h2 with ⟨_,h2⟩ | ⟨h3,h2⟩
  ·exact ⟨v,h1,h2⟩
  ·rw [hm] at h3; cases h3
 ·obtain ⟨_,hq,v,h1,h2⟩:=at_ i d h
  rw [hq] at hm
  rcases h2 with ⟨h3,h2⟩ | ⟨h3,h2⟩ <;> rw [hm] at h3 <;> cases h3
 ·obtain ⟨_,hq,v,h1,h2⟩:=at_ i d h
  rw [hq] at hm
  rcases h2 with ⟨h3,h2⟩ | ⟨h3,h2⟩
  ·rw [hm] at h3; cases h3
  ·refine ⟨v,h1,?_⟩
   rcases h2 with h2 | ⟨a,rfl,h2⟩
   ·exact .inl h2
   ·exact .inr ⟨a,rfl,h2,h2.ob.isS⟩
 ·obtain ⟨_,hq,v,h1,h2⟩:=at_ i d h
  rw [hq] at hm
  rcases h2 with ⟨h3,h2⟩ | ⟨h3,h2⟩ <;> rw [hm] at h3 <;> cases h3
theorem Jb {X:Cx} {ro:Bool} {fs:FS} {m':List Md} {G:GH} {H:Hp} {r:ak} {Q:VK} (q:fin (aH ro (fs r)) (fun d=>∀v G' H',Grow X.K G H G' H'->RV ro X.K H G' H' v d->Q v H') fun _=>False) :
  cf X ⟨G,H,fun _=>none⟩ ro m' [] G { nx:=fun _ H'=>Q .non H',rt:=Q } (fs r):=by
 cases e:fs r with
 | nx r'=>
  rw [e] at q
  cases ro with
  | false=>exact fun σ' G' H' _ si=>q .non G' H' si.grown (.scl .non)
  | true=>exact q.elim
 | rt d=>rw [e] at q; exact fun v G' H' wg rv=>q v G' H' wg rv
 | bk r'=>rw [e] at q; exact q.elim
 | ct r'=>rw [e] at q; exact q.elim
 | exc x r'=>rw [e] at q; exact q.elim
 | stuck=>rw [e] at q; exact q
theorem zI {x qual:Str} {st:Stmt} {f:Addr} {fd:FuncData} {N ps:List Str} {k:Nat} {ro:Bool} {ms:List Md} {fs:FS} {m':List Md} (F:Fun K x qual st f fd) (S:FnScope N ps (az st)) (hms:ms.length=ps.length)
  (hbody:∀(cdv:Value) (A:Around) (outer:List Env) (s:Shared) (H:Hp) (g:GE) (E:XK),Room k (A.deeper (envOfC qual (az st) s.heap.objs.size f cdv)) ->
   gb (aU bP P w K mg base N qual (az st) f cdv A outer s H E).nox g ro [] (kL N.length ms) (hX st) fs m') :
  FnOk P w K mg base bP (k + 1) f fd ps (j7 K ro ms fun ds=>aH ro (fs (bG N.length ds))):=by
 refine F.ok S (fun vs H Q E ⟨G,ds,gk,rs,q⟩=>rs.len.1.trans hms) fun cdv A outer s H vs Q E hr h=>?_
 obtain ⟨G,ds,gk,rs,q⟩:=h
 have hpl:ps.length<=N.length:=by have:=congrArg List.length S.pre; rw [List.length_take] at this; omega
 exact ⟨_,(hbody cdv A outer s H ⟨G,H,fun _=>none⟩ E hr).2,bG N.length ds,G,IE gk rs (by omega),Jb q⟩
end
section
variable {X:Cx} {g:GE} {m:List Md} {e:Expr} {f:FE} {es:List Expr} {fl:ak->Res (List D)} {k:Nat} {fa:Addr} {fd:FuncData} {ps:List Str} {F:List D->Res D} {dvs:List V} {ds:List Value} {dds:List D} {x:Str} {p pos:Pos} {ms:List Md}
def Mf (X:Cx) (g:GE) (m:List Md) (ms:List Md) (f:ak->Res (List D)):TA:=fun σ H Q=>∃r G,SI X g m r G σ H/\fin (f r) (fun ds=>∀vs G' H',Grow X.K G H G' H'->ArgsOk X.K G' H' ms vs ds->Q vs H') (XW X σ G H)
def k6 (X:Cx) (g:GE) (m:List Md) (es:List Expr) (ms:List Md) (f:ak->Res (List D)):Prop:=PA X es (Mf X g m ms f)
theorem aS:k6 X g m [] [] aa:=PA.imp iV fun σ H Q ⟨r,G,si,k⟩=>k [] G H (Grow.refl si.gok) .nil
theorem aI (ha:SE X g m e f) (hr:k6 X g m es ms fl) (hs:starEach (e::es) X.env=(false,eval e X.env)::starEach es X.env:=by rfl):k6 X g m (e::es) (.sh::ms) (ae f fl):=by
 refine PA.imp (gM ha hr hs) fun σ H Q ⟨r,G,si,k⟩=>⟨r,G,si,bz (bv k) fun d k1 v G1 H1 w1 r1=>⟨r,G1,si.grow w1,?_⟩⟩
 exact iJ (bv k1) w1 fun ds z vs G2 H2 w2 r2=>z (v::vs) G2 H2 (w1.trans w2) (.sh (r1.mono w2.ge) r2)
theorem ah (ha:SB X g m e f) (hr:k6 X g m es ms fl) (hs:starEach (e::es) X.env=(false,eval e X.env)::starEach es X.env:=by rfl):k6 X g m (e::es) (.bw::ms) (ae f fl):=by
 refine PA.imp (gM ha hr hs) fun σ H Q ⟨r,G,si,k⟩=>⟨r,G,si,bz (bv k) fun d k1 v G1 H1 w1 r1=>⟨r,G1,si.grow w1,?_⟩⟩
 exact iJ (bv k1) w1 fun ds z vs G2 H2 w2 r2=>z (v::vs) G2 H2 (w1.trans w2) (.bw (r1.mono w2) r2)
def aA (fl:ak->Res (List D)) (dds:List D) (F:List D->Res D):FE:=fun r=>(fl r).bind fun ds=>na (F (ds++dds))
theorem Jy {ro:Bool} {vs:List V} {zs:List D} {G:GH} {H:Hp} {Q:VK} (gk:aP X.K G H) (rs:ArgsOk X.K G H ms vs zs) (hsc:Paired Scl dvs dds) (q:fin (na (F (zs++dds))) (fun d=>∀v G' H',Grow X.K G H G' H'->RV ro X.K H G' H' v d->Q v H') fun _=>False) :
  j7 X.K ro (ms++List.replicate dds.length .sh) F (vs++dvs) H Q E0:=by
 refine ⟨G,zs++dds,gk,rs.app hsc,?_⟩
 cases e:F (zs++dds) with
 | ok d=>rw [e] at q; exact q
 | exc x=>rw [e] at q; exact q.elim
 | stuck=>rw [e] at q; exact q.elim
theorem Jr {α:Type} {r:Res α} {q:α->Prop} {x:D->Prop} (h:fin r q x) (hr:∀e,r≠.exc e):fin r q fun _=>False:=by
 cases r with
 | ok a=>exact h
 | exc e=>exact absurd rfl (hr e)
 | stuck=>exact h
theorem FH (r:Res D) (e:D):na r≠.exc e:=by cases r <;> simp [na]
theorem Gn (G1:FnOk X.prog X.w X.K X.mg X.base bP k fa fd ps (j7 X.K false (ms++List.replicate dds.length .sh) F)) (hr:Room k X.A) (hg:Gl X x) (hm:X.mg x=some (.ref fa)) (hk:W.keepIn X.K (.ref fa)=true) (hb:jt X.K fd ps ds) (hd:ap dvs ds) (hsc:Paired Scl dvs dds)
  (ha:k6 X g m (e::es) ms fl) (hdb:(x == ("__debug__" : Str))=false:=by decide) (he:starEach (e::es) X.env=(false,eval e X.env)::starEach es X.env:=by rfl) (hpl:(backTo pos (starEach es X.env)).any (·.1)=false:=by rfl) :
  SE X g m (.Call (.Name x p) (e::es) [] pos) (aA fl dds F):=by
 refine PE.imp (GK G1 hr hg hm hk hb hd EH ha hdb he hpl) fun σ H Q ⟨r,G,si,q⟩=>⟨r,G,si,?_⟩
 cases ez:fl r with
 | ok zs=>
  unfold aA at q
  rw [ez] at q
  intro vs G' H' w' rs
  exact Jy w'.ok rs hsc (bz (Jr q (FH _)) fun d k v G2 H2 w2 rv=>k v G2 H2 (w'.trans w2) rv)
 | exc x=>unfold aA at q; rw [ez] at q; exact q
 | stuck=>unfold aA at q; rw [ez] at q; exact q
end
theorem IF {env:Env}:∀(l:List (Str × NameKind)) (cs:List (Str × Addr)),(∀x∈l,x.2=.free->∃c,env.cells.lookup x.1=some c)->(∀x c,cs.lookup x=some c->env.cells.lookup x=some c) ->
  ∃cl,(forIn l cs (fun (x:Str × NameKind) (cs:List (Str × Addr))=>if (x.2 == NameKind.free)=true then (do let a <-cellOf env x.1; pure (ForInStep.yield ((x.1,a)::cs))) else pure (ForInStep.yield cs)):Sem (List (Str × Addr)))=pure cl /\
   (∀x c,cl.lookup x=some c->env.cells.lookup x=some c)/\(∀x,(x,NameKind.free)∈l->∃c,cl.lookup x=some c)/\(∀x c,cs.lookup x=some c->∃c',cl.lookup x=some c'):=by
 intro l
 induction l with
 | nil=>intro cs _ h; exact ⟨cs,rfl,h,fun x hx=>(by cases hx),fun x c h=>⟨c,h⟩⟩
 | cons y l ih=>
  intro cs hf hc
  obtain ⟨n,k⟩:=y
  by_cases hk:k=.free
  ·subst hk
   obtain ⟨c,ec⟩:=hf (n,.free) List.mem_cons_self rfl
   have e1:cellOf env n=pure c:=by unfold cellOf; rw [ec]
   have hc':∀x c',((n,c)::cs).lookup x=some c'->env.cells.lookup x=some c':=fun x c' h=>by
    rw [List.lookup_cons] at h
    cases q:x == n with
    | true=>rw [q] at h; cases h; rw [eq_of_beq q]; exact ec
    | false=>rw [q] at h; exact hc x c' h
   obtain ⟨cl,e2,h1,h2,h3⟩:=ih ((n,c)::cs) (fun x hx=>hf x (List.mem_cons_of_mem _ hx)) hc'
   refine ⟨cl,?_,h1,fun x hx=>?_,fun x c' h=>?_⟩
   ·rw [<-e2]
    rw [List.forIn_cons]
    show (cellOf env n >>= fun a=>pure (ForInStep.yield ((n,a)::cs))) >>= _=_
    rw [e1]
    rfl
   ·rcases List.mem_cons.mp hx with z | z
    ·cases z; exact h3 n c (by rw [List.lookup_cons]; simp)
    ·exact h2 x z
   ·cases q:x == n with
    | true=>exact h3 x c (by rw [List.lookup_cons,q])
    | false=>exact h3 x c' (by rw [List.lookup_cons,q]; exact h)
  ·obtain ⟨cl,e2,h1,h2,h3⟩:=ih cs (fun x hx=>hf x (List.mem_cons_of_mem _ hx)) hc
   have hb:(k == NameKind.free)=false:=by simpa using hk
   refine ⟨cl,?_,h1,fun x hx=>?_,h3⟩
   ·rw [<-e2,List.forIn_cons]
    simp only [hb,Bool.false_eq_true,if_false]
    rfl
   ·rcases List.mem_cons.mp hx with z | z
    ·cases z; exact absurd rfl hk
    ·exact h2 x z
theorem Km {scope:Scope} {env:Env} (hf:∀x∈scope.names,x.2=.free->∃c,env.cells.lookup x.1=some c) :
  ∃cl,closureFor scope env=pure cl/\(∀x c,cl.lookup x=some c->env.cells.lookup x=some c)/\(∀x,(x,NameKind.free)∈scope.names->∃c,cl.lookup x=some c):=by
 obtain ⟨cl,e,h1,h2,_⟩:=IF scope.names [] hf (fun x c h=>by cases h)
 refine ⟨cl,?_,h1,h2⟩
 have e0:closureFor scope env=((forIn scope.names ([]:List (Str × Addr)) (fun (x:Str × NameKind) (cs:List (Str × Addr))=>if (x.2 == NameKind.free)=true then (do let a <-cellOf env x.1; pure (ForInStep.yield ((x.1,a)::cs))) else pure (ForInStep.yield cs)):Sem (List (Str × Addr))) >>= fun cs=>pure cs):=rfl
 rw [e0,e]
 rfl
theorem CG {f:Str->NameKind->NameKind}:∀(l:List (Str × NameKind)) (x:Str),(l.map fun y=>(y.1,f y.1 y.2)).lookup x=(l.lookup x).map (f x)
 | [],x=>rfl
 | (n,k)::l,x=>by
  rw [List.map_cons,List.lookup_cons,List.lookup_cons]
  cases q:x == n with
  | true=>simp [eq_of_beq q]
  | false=>exact CG l x
def eB (env:Env) (n:Str) (k:NameKind):NameKind:=if (k == .free && env.scope.kind == .function && env.kindOf n == some .cell)=true then .cell else k
theorem CH (scope:Scope) (env:Env) (x:Str):(relabel scope env).names.lookup x=(scope.names.lookup x).map (eB env x):=by
 rw [<-CG]
 unfold relabel
 congr 1
 apply List.map_congr_left
 intro y _
 obtain ⟨n,k⟩:=y
 show (if (k == NameKind.free && env.scope.kind == .function && env.kindOf n == some .cell)=true then (n,NameKind.cell) else (n,k))=(n,eB env n k)
 unfold eB
 split <;> rfl
structure CompSc (X:Cx) (scope:Scope) (N':List Str) (nl:Nat) (cap:List Nat):Prop where
 kind:scope.kind=.function
 nocell:∀y∈scope.names,y.2≠.cell
 names:∀y∈scope.names,y.2=.local->scope.names.lookup y.1=some .local
 freeK:∀y∈scope.names,y.2=.free->X.env.kindOf y.1=some .cell\/X.env.kindOf y.1=some .free
 len:N'.length=nl + cap.length
 capN:∀j,j < cap.length->∃x,N'[nl + j]? = some x/\X.N[cap.getD j 0]? = some x/\scope.names.lookup x=some .free
def eV (X:Cx) (s₀:Shared) (H₀:Hp) (N':List Str) (scope:Scope) (cl:List (Str × Addr)) (C:Addr) (fp:List Addr):Cx where
 prog:=X.prog
 w:=X.w
 K:=X.K
 mg:=X.mg
 base:=X.base
 A:=X.A
 N:=N'
 s₀:=s₀
 H₀:=H₀
 env:=compEnvC scope cl C X.env
 outer:=X.stack
 stack:=X.stack
 ex:=fp
 fn:=fun _=>false
 calm:=X.calm
 pn:=[]
 xe:=fun _ _=>False
section
variable {X:Cx} {pz:List (Addr × Obj)} {σ:L2.Ml} {H:Hp} {s:Shared} {scope:Scope} {N':List Str} {nl:Nat} {cap:List Nat} {cl:List (Str × Addr)} {C:Addr} {fp:List Addr}
theorem D6 (I:Inv X pz σ H s) (sc:CompSc X scope N' nl cap) (h1:∀x c,cl.lookup x=some c->X.env.cells.lookup x=some c) (h2:∀x,(x,NameKind.free)∈scope.names->∃c,cl.lookup x=some c)
  (hf:∀b∈fp,de X pz H b/\b < s.heap.objs.size) (hC:s.heap.objs.size<=C):(eV X s H N' scope cl C fp).Ok where
 mod:=I.ok.mod
 kind:=sc.kind
 glob:=I.ok.glob
 blt:=I.ok.blt
 above:=hC
 inj:=fun x y c a b=>I.ok.inj x y c (h1 x c a) (h1 y c b)
 has:=fun x hk=>by
  have hk':(scope.names.lookup x).map (eB X.env x)=some .cell\/(scope.names.lookup x).map (eB X.env x)=some .free:=by
   rw [<-CH]; exact hk
  cases e:scope.names.lookup x with
  | none=>rw [e] at hk'; rcases hk' with z | z <;> cases z
  | some k=>
   have hm:=PySem.mem_of_lookup e
   have kf:k=.free:=by
    rw [e] at hk'
    have hk2:eB X.env x k=.cell\/eB X.env x k=.free:=by
     rcases hk' with z | z
     ·exact .inl (Option.some.inj z)
     ·exact .inr (Option.some.inj z)
    unfold eB at hk2
    split at hk2
    ·rename_i hc
     simp only [Bool.and_eq_true,beq_iff_eq] at hc
     exact hc.1.1
    ·rcases hk2 with z | z
     ·exact absurd z (sc.nocell _ hm)
     ·exact z
   subst kf
   exact h2 x hm
 cab:=fun x c h=>by cases h
 hd:=I.ok.hd
 frames:=I.ok.frames
 stk:=.inl rfl
 exf:=fun b hb=>⟨Nat.ne_of_lt (Nat.lt_of_lt_of_le (hf b hb).2 hC),fun x c e=>(hf b hb).1.2.2.2.2.1 x c (h1 x c e)⟩
 bs:=I.bs
 bsz:=Nat.le_trans I.ok.bsz I.sz
 noex:=fun b o e hb=>by
  obtain ⟨_,_,_,hx,_⟩:=(hf b hb).1
  rcases hx with z | z
  ·exact I.ok.noex b o e z
  ·exact absurd (Nat.lt_of_lt_of_le (Heap.lt_size e) (Nat.le_trans I.ok.bsz z)) (Nat.lt_irrefl _)
 exfs:=fun b hb hfs=>by
  obtain ⟨_,q1,q2,_⟩:=(hf b hb).1
  rcases List.mem_cons.mp (I.stkSub b hfs) with z | z
  ·exact q1 z
  ·exact q2 z
 funs:=I.stack
 frf:=I.stkFree
end
def ff (ft:FT) (q:FQ) (fe:FE) (r0:ak):List D->Res (List D)
 | []=>.ok []
 | d::ds=>(bZ (ft d r0)).bind fun r1=>(q r1).bind fun c=>if c=true then (fe r1).bind fun v=>(ff ft q fe r0 ds).bind fun vs=>.ok (v::vs) else ff ft q fe r0 ds
def bu (nl:Nat) (cap:List Nat) (r:ak):ak:=List.replicate nl none++cap.map fun i=>r.getD i none
def aM (nl:Nat) (cap:List Nat) (m:List Md):List Md:=List.replicate nl Md.sh++cap.map fun i=>if m.getD i Md.sh=Md.sh then Md.sh else Md.bw
def dz (nl:Nat) (cap:List Nat) (st:L2.Ml):L2.Ml:=List.replicate nl none++cap.map fun i=>st.getD i none
theorem nO {α:Type} {nl:Nat} {cap:List Nat} {u:α} {h:Nat->α} {i:Nat} (hi:nl<=i):(List.replicate nl u++cap.map h)[i]? = (cap[i - nl]?).map h:=by
 rw [List.getElem?_append_right (by simpa using hi),List.length_replicate,List.getElem?_map]
section
variable {X:Cx} {pz:List (Addr × Obj)} {σ:L2.Ml} {H H':Hp} {s:Shared} {scope:Scope} {N':List Str} {nl:Nat} {cap:List Nat} {cl:List (Str × Addr)} {C:Addr} {fp:List Addr} {g:GE} {G G':GH} {m:List Md} {r:ak}
theorem Dp (si:SI X g m r G σ H) (w:Grow X.K G H G' H'):SI (eV X s H N' scope cl C fp) ⟨G,H,fun _=>none⟩ (aM nl cap m) (bu nl cap r) G' (dz nl cap σ) H':=by
 have lens:(aM nl cap m).length=nl + cap.length:=by simp [aM]
 have lens2:(bu nl cap r).length=nl + cap.length:=by simp [bu]
 have lens3:(dz nl cap σ).length=nl + cap.length:=by simp [dz]
 have rget:∀(i:Nat) d,(bu nl cap r)[i]? = some (some d)->nl<=i/\∃j,cap[i - nl]? = some j/\r[j]? = some (some d):=fun i d h=>by
  by_cases hi:i < nl
  ·unfold bu at h
   rw [List.getElem?_append_left (by simpa using hi),List.getElem?_replicate] at h
   split at h <;> cases h
  ·refine ⟨by omega,?_⟩
   unfold bu at h
   rw [nO (by omega)] at h
   cases e:cap[i - nl]? with
   | none=>rw [e] at h; cases h
   | some j=>
    rw [e] at h
    refine ⟨j,rfl,?_⟩
    have h':r.getD j none=some d:=Option.some.inj h
    rw [List.getD_eq_getElem?_getD] at h'
    cases e2:r[j]? with
    | none=>rw [e2] at h'; cases h'
    | some o=>rw [e2] at h'; rw [show o=some d from h']
 have mget:∀(i j:Nat) md,nl<=i->cap[i - nl]? = some j->(aM nl cap m)[i]? = some md->md=if m.getD j Md.sh=Md.sh then Md.sh else Md.bw:=fun i j md hi hj h=>by
  unfold aM at h
  rw [nO hi,hj] at h
  exact (Option.some.inj h).symm
 have sget:∀(i j:Nat) v,nl<=i->cap[i - nl]? = some j->σ[j]? = some (some v)->(dz nl cap σ)[i]? = some (some v):=fun i j v hi hj h=>by
  unfold dz
  rw [nO hi,hj]
  show some (σ.getD j none)=_
  rw [List.getD_eq_getElem?_getD,h]
  rfl
 have mj:∀(j:Nat) d,r[j]? = some (some d)->m[j]? = some (m.getD j Md.sh):=fun j d h=>by
  have hl:j < m.length:=by
   have:=(List.getElem?_eq_some_iff.mp h).1
   rw [si.lr,<-si.lm] at this; exact this
  rw [List.getD_eq_getElem?_getD,List.getElem?_eq_getElem hl]
  rfl
 refine ⟨w.ok,w.he,w.ge,w.gf,by rw [lens,lens3],by rw [lens2,lens3],fun i d h hm=>?_,fun i d h hm=>?_,fun i d h hm=>?_,fun i j a d e _ h _ hm=>?_,fun i o h=>nomatch h⟩
 ·obtain ⟨hi,j,hj,hr⟩:=rget i d h
  have e:=mget i j _ hi hj hm
  have hsh:m.getD j Md.sh=Md.sh:=by
   by_cases z:m.getD j Md.sh=Md.sh
   ·exact z
   ·rw [if_neg z] at e; cases e
  obtain ⟨v,h1,h2⟩:=si.sh j d hr (by rw [mj j d hr,hsh])
  exact ⟨v,sget i j v hi hj h1,h2.mono w.ge⟩
 ·obtain ⟨hi,j,hj,hr⟩:=rget i d h
  have e:=mget i j _ hi hj hm
  split at e <;> cases e
 ·obtain ⟨hi,j,hj,hr⟩:=rget i d h
  have e:=mget i j _ hi hj hm
  have hsh:m.getD j Md.sh≠Md.sh:=by
   intro z
   rw [if_pos z] at e; cases e
  have hmj:=mj j d hr
  cases q:m.getD j Md.sh with
  | sh=>exact absurd q hsh
  | ow=>
   rw [q] at hmj
   obtain ⟨a,h1,h2,_⟩:=si.ow j d hr hmj
   exact ⟨_,sget i j _ hi hj h1,.inr ⟨a,rfl,h2.mono w,h2.ob.isS⟩⟩
  | bw=>
   rw [q] at hmj
   obtain ⟨v,h1,h2⟩:=si.bw j d hr hmj
   refine ⟨v,sget i j _ hi hj h1,?_⟩
   rcases h2 with h2 | ⟨a,rfl,h2,_⟩
   ·exact .inl (h2.mono w.ge)
   ·exact .inr ⟨a,rfl,h2.mono w,h2.ob.isS⟩
 ·obtain ⟨hi,j',hj,hr⟩:=rget i d h
  have e:=mget i j' _ hi hj hm
  split at e <;> cases e
theorem D5 (I:Inv X pz σ H s) (ok:(eV X s H N' scope cl C fp).Ok) (sc:CompSc X scope N' nl cap) (h1:∀x c,cl.lookup x=some c->X.env.cells.lookup x=some c) (h2:∀x,(x,NameKind.free)∈scope.names->∃c,cl.lookup x=some c)
  (hN:X.N.Nodup) {s4:Shared} {H4:Hp} {mc:Str->Option Value} (hos:s4.os=s.os) (hb:AllBare s4.gens) (kp:∀b o,s.heap.get? b=some o->s4.heap.get? b=some o) (hns:s4.heap.Ns C mc) (hC:s.heap.objs.size<=C) (hHC:H4 C=none)
  (hH:∀b,H b=none->b < s.heap.objs.size->H4 b=none) (un:Un (gU X.stack) fp H H4 s.heap s4.heap) (hok:cG X.prog X.w H4 s4.heap):Inv (eV X s H N' scope cl C fp) [] (dz nl cap σ) H4 s4:=by
 refine ⟨ok,hos,hb,un,⟨mc,hns,fun i x v e1 e2 e3=>?_⟩,fun x c e=>?_,hHC,fun x c e=>?_,fun p hp=>absurd (show p∈([]:List (Addr × Obj)) from hp) (by simp),hok,?_⟩
 ·have hi:nl<=i:=by
   by_cases z:i < nl
   ·unfold dz at e2
    rw [List.getElem?_append_left (by simpa using z),List.getElem?_replicate] at e2
    split at e2 <;> cases e2
   ·omega
  unfold dz at e2
  rw [nO hi] at e2
  cases ej:cap[i - nl]? with
  | none=>rw [ej] at e2; cases e2
  | some j=>
   rw [ej] at e2
   have hj:i - nl < cap.length:=(List.getElem?_eq_some_iff.mp ej).1
   obtain ⟨x',q1,q2,q3⟩:=sc.capN (i - nl) hj
   have ed:cap.getD (i - nl) 0=j:=by rw [List.getD_eq_getElem?_getD,ej]; rfl
   rw [ed] at q2
   have ei:nl + (i - nl)=i:=by omega
   rw [ei] at q1
   have e1':N'[i]? = some x:=e1
   rw [q1] at e1'
   have ex:x'=x:=Option.some.inj e1'
   subst ex
   have hv:σ[j]? = some (some v):=by
    have z:σ.getD j none=some v:=Option.some.inj e2
    rw [List.getD_eq_getElem?_getD] at z
    cases q:σ[j]? with
    | none=>rw [q] at z; cases z
    | some o=>rw [q] at z; rw [show o=some v from z]
   have hfree:=PySem.mem_of_lookup q3
   have kX:=sc.freeK _ hfree rfl
   obtain ⟨mx,hnx,hl⟩:=I.loc
   obtain ⟨u,ru,lk⟩:=hl j x' v q2 hv (.inr kX)
   refine ⟨u,ru,.inr ?_⟩
   obtain ⟨c,ec⟩:=h2 x' hfree
   have hkk:Env.kindOf (eV X s H N' scope cl C fp).env x'=some .cell\/Env.kindOf (eV X s H N' scope cl C fp).env x'=some .free:=by
    have z:(relabel scope X.env).names.lookup x'=some (eB X.env x' .free):=by rw [CH,q3]; rfl
    show (relabel scope X.env).names.lookup x'=_\/(relabel scope X.env).names.lookup x'=_
    rw [z]
    unfold eB
    split
    ·exact .inl rfl
    ·exact .inr rfl
   refine ⟨hkk,c,ec,?_⟩
   rcases lk with ⟨k,_⟩ | ⟨_,c',ec',hcell⟩
   ·rcases kX with z | z <;> rw [k] at z <;> cases z
   ·rw [h1 x' c ec] at ec'
    cases ec'
    obtain ⟨o,ho,hd⟩:=hcell
    exact ⟨o,kp c o ho,hd⟩
 ·obtain ⟨v,o,ho,hd⟩:=I.cell x c (h1 x c e)
  exact ⟨v,o,kp c o ho,hd⟩
 ·obtain ⟨v,o,ho,hd⟩:=I.cell x c (h1 x c e)
  exact hH c (I.freeC x c (h1 x c e)) (Heap.lt_size ho)
 ·show (dz nl cap σ).length=N'.length
  rw [sc.len]
  simp [dz]
end
section
variable {prog:Program} {w:World} {A:Around} {R:Result->Shared->Prop} {s:Shared}
theorem HD {elt target iter:Expr} {ifs:List Expr} {scope:Scope} {pos:Pos} {it acc:Value} {env:Env} (I:Nat->Shared->Prop)
  (turn:∀n s,I n s->wpAny (model prog w) A (pyNext it) (fun r s1=>match r with
   | none=>R (.ok .next) s1
   | some v=>wpAny (model prog w) A (letOwnedTupleGo target it v) (fun _ s1'=>wpAny (model prog w) A (assign target env v) (fun _ s2=>
     wpAny (model prog w) A (forIn ifs true fun c r=>if r=true then do let ok <-isTrue c env (eval c env); pure (ForInStep.yield ok) else pure (ForInStep.yield r)) (fun ok s3=>
      if ok=true then wpAny (model prog w) A (eval elt env) (fun x s4=>
       wpAny (model prog w) A (call (.builtin "list.append") [acc,x]) (fun _ s5=>∃m,m < n/\I m s5) (notedBy (model prog w) A env fun e s'=>R (.error e) s') s4) (notedBy (model prog w) A env fun e s'=>R (.error e) s') s3
      else ∃m,m < n/\I m s3) (notedBy (model prog w) A env fun e s'=>R (.error e) s') s2) (notedBy (model prog w) A env fun e s'=>R (.error e) s') s1')
     (notedBy (model prog w) A env fun e s'=>R (.error e) s') s1) (notedBy (model prog w) A env fun e s'=>R (.error e) s') s)
  (n:Nat) (h:I n s):codeAny (model prog w) A (.compLoop (.ListComp elt [⟨target,iter,ifs,0⟩] scope pos) 0 it acc env) R s:=by
 refine codeAny_loop rfl I (fun n s hI=>?_) n h
 show wpAny _ A ((compTurn (.ListComp elt [⟨target,iter,ifs,0⟩] scope pos) 0 it acc env).onRaise (fun x=>do noteFrame x env; theTreesLotGoes x)) _ _ s
 refine wpAny_noted ?_
 rw [compTurn_list]
 refine wpAny_bind (wpAny_standAt (wpAny_bind (wpAny_mono (turn n s hI) (fun r s1 h1=>?_) fun _ _ h'=>h')))
 cases r with
 | none=>exact wpAny_pure h1
 | some v=>
  refine wpAny_bind (wpAny_mono h1 (fun _ s1' h1'=>?_) fun _ _ h'=>h')
  refine wpAny_bind (wpAny_mono h1' (fun _ s2 h2=>wpAny_bind (wpAny_mono h2 (fun ok s3 h3=>?_) fun _ _ h'=>h')) fun _ _ h'=>h')
  cases ok with
  | false=>exact wpAny_pure ⟨rfl,h3⟩
  | true=>
   exact wpAny_bind (wpAny_bind (wpAny_mono h3 (fun x s4 h4=>wpAny_bind (wpAny_mono h4 (fun _ s5 h5=>wpAny_pure (wpAny_pure ⟨rfl,h5⟩)) fun _ _ h'=>h')) fun _ _ h'=>h'))
end
def kZ (X:Cx) (g:GE) (m:List Md) (ifs:List Expr) (f:FQ):Prop:=∀(pz:List (Addr × Obj)) (s:Shared) (σ:L2.Ml) (H:Hp) (Q:Bool->Hp->Prop),Inv X pz σ H s->tQ X g m f σ H Q ->
 wpAny (model X.prog X.w) X.A (forIn ifs true fun c r=>if r=true then do let ok <-isTrue c X.env (eval c X.env); pure (ForInStep.yield ok) else pure (ForInStep.yield r)) (TP X pz σ Q) X.xe s
section
variable {X:Cx} {g:GE} {m:List Md} {c:Expr} {p:FQ}
theorem eS:kZ X g m [] fun _=>.ok true:=fun pz s σ H Q I ⟨r,G,si,q⟩=>wpAny_tests_nil ⟨H,I,q G H (Grow.refl si.gok)⟩
theorem ls (h:SQ X g m c p):kZ X g m [c] p:=fun pz s σ H Q I q=>wpAny_tests_one (h pz s σ H Q I q)
end
def gF (ft:FT) (nl:Nat):Prop:=∀d r r1,ft d r=some r1->r1.length=r.length/\∀i,nl<=i->r1[i]? = r[i]?
def pI (ft:jN) (nl:Nat):Prop:=∀d r r1,ft d r=some r1->r1.length=r.length/\∀i,nl<=i->r1[i]? = r[i]?
theorem cF {i nl:Nat} (h:i < nl):gF (av i) nl:=fun d r r1 e=>by
 cases e
 exact ⟨by simp,fun j hj=>by rw [List.getElem?_set_ne (by omega)]⟩
theorem nR {nl:Nat}:pI bQ nl:=fun ds r r1 e=>by
 cases ds with
 | nil=>cases e; exact ⟨rfl,fun _ _=>rfl⟩
 | cons _ _=>cases e
theorem jI {ft:FT} {fts:jN} {nl:Nat} (h1:gF ft nl) (h2:pI fts nl):pI (aK ft fts) nl:=fun ds r r1 e=>by
 cases ds with
 | nil=>cases e
 | cons d ds=>
  have e':((ft d r).bind fun r'=>fts ds r')=some r1:=e
  cases q:ft d r with
  | none=>rw [q] at e'; cases e'
  | some r2=>
   rw [q] at e'
   obtain ⟨a1,a2⟩:=h1 d r r2 q
   obtain ⟨b1,b2⟩:=h2 ds r2 r1 e'
   exact ⟨b1.trans a1,fun i hi=>(b2 i hi).trans (a2 i hi)⟩
theorem nw {fts:jN} {nl:Nat} (h:pI fts nl):gF (bT fts) nl:=fun d r r1 e=>by
 cases d with
 | tup ds=>exact h ds r r1 e
 | lst ds=>exact h ds r r1 e
 | _=>cases e
section
variable {X:Cx} {pz:List (Addr × Obj)} {σ:L2.Ml} {H2:Hp} {s2:Shared} {scope:Scope} {N':List Str} {nl:Nat} {cap:List Nat} {cl:List (Str × Addr)} {fp:List Addr} {g:GE} {G2:GH} {m:List Md} {r:ak} {elt tg iter:Expr} {ifs:List Expr} {pos:Pos}
 {J:It} {it:Addr} {tn:Nat->Heap->Prop} {ds vs:List D} {ft:FT} {q:FQ} {fe:FE} {E:Value->Shared->Prop}
theorem HB (i:Nat):(aM nl cap m)[i]?≠some Md.ow:=fun h=>by
 by_cases hi:i < nl
 ·unfold aM at h
  rw [List.getElem?_append_left (by simpa using hi),List.getElem?_replicate] at h
  split at h <;> cases h
 ·unfold aM at h
  rw [nO (by omega)] at h
  cases e:cap[i - nl]? with
  | none=>rw [e] at h; cases h
  | some j=>
   rw [e] at h
   have h':(if m.getD j Md.sh=Md.sh then Md.sh else Md.bw)=Md.ow:=Option.some.inj h
   split at h' <;> cases h'
theorem Jl {i:Nat} (hi:i < nl) (d:D):(bu nl cap r)[i]?≠some (some d):=fun h=>by
 unfold bu at h
 rw [List.getElem?_append_left (by simpa using hi),List.getElem?_replicate] at h
 split at h <;> cases h
def xP (El:W.Frag->GH->Hp->GH->Hp->V->D->Prop) (X:Cx) (g:GE) (m:List Md) (f:FE):TE:=fun σ H Q=>∃r G,SI X g m r G σ H/\fin (f r) (fun d=>∀v G' H',Grow X.K G H G' H'->El X.K G H G' H' v d->Q v H') (XW X σ G H)
theorem vM {El:W.Frag->GH->Hp->GH->Hp->V->D->Prop} {Rl:Addr->GH->Hp->List V->List D->Prop} (R0:∀p G H,Rl p G H [] []) (Rg:∀{p G H G' H' ws ds},Rl p G H ws ds->Grow X.K G H G' H'->Rl p G' H' ws ds) (Rn:∀{p G H ws ds},Rl p G H ws ds->ws.length=ds.length)
  (Ra:∀{p G H G' H' ws ds v d},Rl p G H ws ds->Grow X.K G H G' H'->Grow X.K G2 H2 G H->H p=some (.lst ws)->El X.K G H G' H' v d->Rl p G' (upd H' p (.lst (ws++[v]))) (ws++[v]) (ds++[d])) (hN:X.N.Nodup) (hcalm:X.calm=true) (sc:CompSc X scope N' nl cap) (h1:∀x c,cl.lookup x=some c->X.env.cells.lookup x=some c) (h2:∀x,(x,NameKind.free)∈scope.names->∃c,cl.lookup x=some c)
  (I2:Inv X pz σ H2 s2) (si:SI X g m r G2 σ H2) (T:Turn X.prog X.w X.K tg J fp it tn) (st:tn 0 s2.heap) (hf:∀b∈fp,de X pz H2 b) (Y:YieldsC X.K J ds G2 H2) (hsz:ds.length<=sizeLine)
  (hg:∀C,SG (eV X s2 H2 N' scope cl C fp) ⟨G2,H2,fun _=>none⟩ (aM nl cap m) tg ft (aM nl cap m)) (hft:gF ft nl) (hq:∀C,kZ (eV X s2 H2 N' scope cl C fp) ⟨G2,H2,fun _=>none⟩ (aM nl cap m) ifs q) (he:∀C,PE (eV X s2 H2 N' scope cl C fp) elt (xP El (eV X s2 H2 N' scope cl C fp) ⟨G2,H2,fun _=>none⟩ (aM nl cap m) fe))
  (hres:ff ft q fe (bu nl cap r) ds=.ok vs) {RR:Value->Addr->Result->Shared->Prop}
  (hRR:∀(p C:Addr) (s':Shared) (H':Hp) (G':GH),Inv X pz σ H' s'->(∃mm,s'.heap.Ns C mm)->H' C=none->C≠X.env.locals->X.s₀.heap.objs.size<=C->(∀x c,X.env.cells.lookup x=some c->c≠C)->(∀z∈X.pn++pz,z.1≠C) ->
   Grow X.K G2 H2 G' H'->H2 p=none->(∃ws,H' p=some (.lst ws)/\G' p=none/\Rl p G' H' ws vs)->RR (.ref p) C (.ok .next) s') :
  wpAny (model X.prog X.w) X.A (newList []) (fun acc s3=>wpAny (model X.prog X.w) X.A (newFunctionEnv scope X.env.globals cl [] X.env.qual none .none (some X.env)) (fun cenv s4=>
   codeAny (model X.prog X.w) X.A (.compStart (.ListComp elt [⟨tg,iter,ifs,0⟩] scope pos) 0 (.ref it) acc { cenv with scope:=relabel scope X.env }) (RR acc cenv.locals) s4) E s3) E s2:=by
 refine wpAny_newObj_type (wpAny_newFunctionEnv sc.nocell (by intro y hy; simp at hy) (fun h₁ hns₁ hsb₁=>?_) sc.kind)
 dsimp only at hns₁ hsb₁ ⊢
 generalize hH2:s2.heap.push { cls:=.type "list",dict:=none,data:=.seq ([]:List Value).toArray }=HH at hns₁ hsb₁ ⊢
 have hC:HH.objs.size=s2.heap.objs.size + 1:=by rw [<-hH2,Heap.size_push]
 have hDC:s2.heap.objs.size≠HH.objs.size:=by rw [hC]; exact Nat.ne_of_lt (Nat.lt_succ_self _)
 have hCle:s2.heap.objs.size<=HH.objs.size:=by rw [hC]; exact Nat.le_succ _
 have below:∀b,b < s2.heap.objs.size->b≠HH.objs.size/\b≠s2.heap.objs.size:=fun b hb=>⟨by rw [hC]; exact Nat.ne_of_lt (Nat.lt_succ_of_lt hb),Nat.ne_of_lt hb⟩
 have old:∀b o,s2.heap.get? b=some o->h₁.get? b=some o:=fun b o e=>hsb₁.extBut b o (below b (Heap.lt_size e)).1 (Heap.get?_push_of_some _ (hH2 ▸ Heap.get?_push_of_some _ e))
 have hacc:h₁.get? s2.heap.objs.size=some { cls:=.type "list",dict:=none,data:=.seq ([]:List Value).toArray }:=hsb₁.extBut _ _ hDC (Heap.get?_push_of_some _ (hH2 ▸ Heap.get?_push_size _ rfl))
 have hp2:H2 s2.heap.objs.size=none:=I2.hok.fresh (Nat.le_refl _)
 have hflt:∀b∈fp,de X pz H2 b/\b < s2.heap.objs.size:=fun b hb=>⟨hf b hb,by
  obtain ⟨o,e,_⟩:=T.obj 0 s2.heap st b hb
  exact Heap.lt_size e⟩
 have ok:=D6 (fp:=fp) I2 sc h1 h2 hflt hCle
 generalize hXX:eV X s2 H2 N' scope cl HH.objs.size fp=XX at ok
 have hG2p:G2 s2.heap.objs.size=none:=si.gok.isN hp2
 have w0:Grow X.K G2 H2 G2 (upd H2 s2.heap.objs.size (.lst [])):=Grow.new si.gok hp2 _
 have hok4:cG X.prog X.w (upd H2 s2.heap.objs.size (.lst [])) h₁:=I2.hok.laid old (Nat.le_refl _) ⟨Nat.zero_le _,[],0,.nil,hacc⟩
 have IC:Inv XX [] (dz nl cap σ) (upd H2 s2.heap.objs.size (.lst [])) { s2 with heap:=h₁,toks:=s2.toks + ([]:List (Str × Value)).length }:=by
  subst hXX
  refine D5 I2 ok sc h1 h2 hN rfl I2.bare old hns₁ hCle ?_ (fun b hb hlt=>?_) (Un.laid old (Nat.le_refl _) hp2) hok4
  ·rw [bH (Ne.symm hDC)]; exact I2.hok.fresh hCle
  ·rw [bH (below b hlt).2]; exact hb
 have SC:SI XX ⟨G2,H2,fun _=>none⟩ (aM nl cap m) (bu nl cap r) G2 (dz nl cap σ) (upd H2 s2.heap.objs.size (.lst [])):=by
  subst hXX
  exact Dp si w0
 have hst₁:tn 0 h₁:=T.keep _ _ _ st fun b _ o e=>old b o e
 have hfX:∀(H':Hp),(∀b∈fp,H' b=none)->∀b∈fp,de XX [] H' b:=fun H' hn b hb=>by
  clear IC SC
  subst hXX
  obtain ⟨z0,z1,z2,z3,z4,z5⟩:=hf b hb
  refine ⟨hn b hb,?_,?_,?_,?_,?_⟩
  ·exact (below b (hflt b hb).2).1
  ·intro hfs
   rcases List.mem_cons.mp (I2.stkSub b hfs) with z | z
   ·exact z1 z
   ·exact z2 z
  ·exact .inl hb
  ·exact fun x c e=>z4 x c (h1 x c e)
  ·intro p hp; exact absurd (show p∈([]:List (Addr × Obj)) from hp) (by simp)
 have eA:XX.A=X.A:=Eq.rec (motive:=fun z _=>z.A=X.A) rfl hXX
 have eP:XX.prog=X.prog:=Eq.rec (motive:=fun z _=>z.prog=X.prog) rfl hXX
 have eW:XX.w=X.w:=Eq.rec (motive:=fun z _=>z.w=X.w) rfl hXX
 have eK:XX.K=X.K:=Eq.rec (motive:=fun z _=>z.K=X.K) rfl hXX
 have eX:XX.xe=fun _ _=>False:=Eq.rec (motive:=fun z _=>z.xe=fun _ _=>False) rfl hXX
 have eE:XX.env=compEnvC scope cl HH.objs.size X.env:=Eq.rec (motive:=fun z _=>z.env=compEnvC scope cl HH.objs.size X.env) rfl hXX
 have eC:XX.calm=true:=Eq.rec (motive:=fun z _=>z.calm=true) hcalm hXX
 have eH:XX.H₀ = H2:=Eq.rec (motive:=fun z _=>z.H₀ = H2) rfl hXX
 have hg':PG XX tg (tG XX ⟨G2,H2,fun _=>none⟩ (aM nl cap m) (aM nl cap m) ft):=Eq.rec (motive:=fun z _=>PG z tg (tG z ⟨G2,H2,fun _=>none⟩ (aM nl cap m) (aM nl cap m) ft)) (hg _).2 hXX
 have hq':kZ XX ⟨G2,H2,fun _=>none⟩ (aM nl cap m) ifs q:=Eq.rec (motive:=fun z _=>kZ z ⟨G2,H2,fun _=>none⟩ (aM nl cap m) ifs q) (hq _) hXX
 have he':PE XX elt (xP El XX ⟨G2,H2,fun _=>none⟩ (aM nl cap m) fe):=Eq.rec (motive:=fun z _=>PE z elt (xP El z ⟨G2,H2,fun _=>none⟩ (aM nl cap m) fe)) (he _) hXX
 have fin':∀{H':Hp} {s':Shared} {σ':L2.Ml} {G':GH} {ws:List V},Inv XX [] σ' H' s'->Grow X.K G2 H2 G' H'->H' s2.heap.objs.size=some (.lst ws)->G' s2.heap.objs.size=none->Rl s2.heap.objs.size G' H' ws vs->RR (.ref s2.heap.objs.size) HH.objs.size (.ok .next) s':=fun {H' s' σ' G' ws} J1 wg hpp hgp rs=>by
  clear IC SC hfX hg' hq' he' eA eP eW eK eX eE eC eH
  subst hXX
  have un:=J1.base
  refine hRR _ _ s' H' G' ?_ (let ⟨mm,hn,_⟩:=J1.loc; ⟨mm,hn⟩) J1.free (Nat.ne_of_gt (Nat.lt_of_lt_of_le I2.lt hCle)) (Nat.le_trans I2.sz hCle) (fun x c e z=>?_) (fun z hz e=>?_) wg hp2 ⟨_,hpp,hgp,rs⟩
  ·refine I2.call' J1.os un J1.hok J1.bare fun b hb=>?_
   obtain ⟨z0,z1,z2,z3,z4,z5⟩:=hf b hb
   exact ⟨z3,z1,z4,z5⟩
  ·obtain ⟨v,o,ho,_⟩:=I2.cell x c e
   exact absurd (Nat.lt_of_lt_of_le (Heap.lt_size ho) hCle) (by rw [z]; exact Nat.lt_irrefl _)
  ·have:=(I2.pin z hz).1
   exact absurd (Nat.lt_of_lt_of_le (Heap.lt_size this) hCle) (by rw [e]; exact Nat.lt_irrefl _)
 have loop:codeAny (model X.prog X.w) X.A (.compLoop (.ListComp elt [⟨tg,iter,ifs,0⟩] scope pos) 0 (.ref it) (.ref s2.heap.objs.size) (compEnvC scope cl HH.objs.size X.env)) (RR (.ref s2.heap.objs.size) HH.objs.size)
   { s2 with heap:=h₁,toks:=s2.toks + ([]:List (Str × Value)).length }:=by
  refine HD (fun n s'=>∃(i:Nat) (σ':L2.Ml) (H':Hp) (G':GH) (ws:List V) (done rest:List D),Inv XX [] σ' H' s'/\SI XX ⟨G2,H2,fun _=>none⟩ (aM nl cap m) (bu nl cap r) G' σ' H'/\tn i s'.heap/\(∀b∈fp,H' b=none)/\Grow X.K G2 H2 G' H' /\
    H' s2.heap.objs.size=some (.lst ws)/\G' s2.heap.objs.size=none/\Rl s2.heap.objs.size G' H' ws done/\ff ft q fe (bu nl cap r) (ds.drop i)=.ok rest/\vs=done++rest/\done.length<=i/\i<=ds.length/\n=ds.length - i) ?_ ds.length
   ⟨0,_,_,G2,[],[],vs,IC,SC,hst₁,fun b hb=>?_,w0,cy,hG2p,R0 _ _ _,hres,rfl,Nat.le_refl _,Nat.zero_le _,rfl⟩
  rotate_left
  ·rw [bH (below b (hflt b hb).2).2]; exact (hf b hb).1
  rintro n s3 ⟨i,σ3,H3,G3,ws,done,rest,I3,S3,st3,fr3,w3,hp3,hg3,rs3,hr3,hv3,hd3,hi3,rfl⟩
  have weaken:∀{α:Type} {t:Sem α} {Q:α->Shared->Prop} {s':Shared} {E':Value->Shared->Prop},wpAny (model XX.prog XX.w) XX.A t Q XX.xe s'->wpAny (model X.prog X.w) X.A t Q E' s':=fun h=>by
   rw [eP,eW,eA,eX] at h
   exact wpAny_mono h (fun _ _ z=>z) fun _ _ z=>z.elim
  by_cases hlt:i < ds.length
  ·have hd:ds.drop i=ds[i]::ds.drop (i + 1):=List.drop_eq_getElem_cons hlt
   rw [hd] at hr3
   unfold ff at hr3
   have it3:=T.item XX eP eW eK eC i [] s3 σ3 H3 (notedBy (model X.prog X.w) X.A (compEnvC scope cl HH.objs.size X.env) fun e s'=>RR (.ref s2.heap.objs.size) HH.objs.size (.error e) s') I3 (hfX H3 fr3) st3 (Y.go G3 H3 i w3 hlt)
   rw [eA] at it3
   refine aY it3 fun rr s4 ⟨u,hr,h4⟩=>?_
   subst hr
   refine aY h4 fun _ s5 ⟨x,H5,I5,r5,y5,st5,fr5⟩=>?_
   obtain ⟨G5,w5,rv5⟩:=Y.yld G3 H3 i x H5 ds[i] w3 y5 (List.getElem?_eq_getElem hlt)
   have w25:=w3.trans w5
   cases eft:ft ds[i] (bu nl cap r) with
   | none=>rw [eft] at hr3; cases hr3
   | some r1=>
    rw [eft] at hr3
    simp only [opt_some,bind_ok] at hr3
    have I5':=I5.pinned (hfX H5 fr5) (T.obj _ _ st5)
    have S5:SI XX ⟨G2,H2,fun _=>none⟩ (aM nl cap m) (bu nl cap r) G5 σ3 H5:=S3.grow (by rw [eK]; exact w5)
    have rv5':RG XX.K G5 x ds[i]:=by rw [eK]; exact rv5
    have as5:=hg' _ s5 σ3 H5 x u (fun σ6 H6=>H6=H5/\SI XX ⟨G2,H2,fun _=>none⟩ (aM nl cap m) r1 G5 σ6 H5) I5' r5 ⟨bu nl cap r,G5,ds[i],S5,rv5',r1,eft,fun σ6 si6=>⟨rfl,si6⟩⟩
    rw [eE] at as5
    refine aY (weaken as5) fun _ s6 ⟨σ6,H6,I6,e6,S6⟩=>?_
    subst e6
    obtain ⟨fl1,fl2⟩:=hft _ _ _ eft
    cases eq1:q r1 with
    | stuck=>rw [eq1] at hr3; cases hr3
    | exc xx=>rw [eq1] at hr3; cases hr3
    | ok b1=>
     rw [eq1] at hr3
     simp only [bind_ok] at hr3
     have te6:=hq' _ s6 σ6 H6 (fun b H7=>b=b1/\∃G7,Grow X.K G5 H6 G7 H7) I6 ⟨r1,G5,S6,by rw [eq1]; exact fun G7 H7 w7=>⟨rfl,G7,by rw [eK] at w7; exact w7⟩⟩
     rw [eE] at te6
     refine aY (weaken te6) fun b s7 ⟨H7,I7,eb,G7,w7⟩=>?_
     subst eb
     have S7:SI XX ⟨G2,H2,fun _=>none⟩ (aM nl cap m) r1 G7 σ6 H7:=S6.grow (by rw [eK]; exact w7)
     have w27:=w25.trans w7
     have hp7:H7 s2.heap.objs.size=some (.lst ws):=w7.he _ _ (w5.he _ _ hp3)
     have hg7:G7 s2.heap.objs.size=none:=by
      rw [w7.gf _ (by rw [w5.he _ _ hp3]; simp),w5.gf _ (by rw [hp3]; simp)]; exact hg3
     have back:∀{σ8:L2.Ml} {H8:Hp} {G8:GH} {s8:Shared},Inv XX ([]++nA fp s5.heap) σ8 H8 s8->Inv XX [] σ8 H8 s8/\tn (i + 1) s8.heap/\∀b∈fp,H8 b=none:=fun {σ8 H8 G8 s8} I8=>by
      refine ⟨I8.unpinned,T.keep _ _ _ st5 fun b hb o e=>(I8.pin (b,o) (List.mem_append_right _ (List.mem_append_right _ (qS hb e)))).1,fun b hb=>?_⟩
      obtain ⟨o,e,_⟩:=T.obj _ _ st5 b hb
      exact (I8.pin (b,o) (List.mem_append_right _ (List.mem_append_right _ (qS hb e)))).2.1
     have less:∀{σ8:L2.Ml} {H8:Hp} {G8:GH},SI XX ⟨G2,H2,fun _=>none⟩ (aM nl cap m) r1 G8 σ8 H8->SI XX ⟨G2,H2,fun _=>none⟩ (aM nl cap m) (bu nl cap r) G8 σ8 H8:=fun h=>h.less fl1.symm fun j d hj=>by
      by_cases hjn:j < nl
      ·exact absurd hj (Jl hjn d)
      ·rw [fl2 j (by omega)]; exact hj
     cases b with
     | false=>
      rw [if_neg Bool.false_ne_true] at hr3 ⊢
      obtain ⟨I7',t7,f7⟩:=back (G8:=G7) I7
      exact ⟨ds.length - (i + 1),by omega,i + 1,σ6,H7,G7,ws,done,rest,I7',less S7,t7,f7,w27,hp7,hg7,Rg rs3 (w5.trans w7),hr3,hv3,by omega,hlt,rfl⟩
     | true=>
      rw [if_pos rfl] at hr3 ⊢
      cases ee1:fe r1 with
      | stuck=>rw [ee1] at hr3; cases hr3
      | exc xx=>rw [ee1] at hr3; cases hr3
      | ok d1=>
       rw [ee1] at hr3
       simp only [bind_ok] at hr3
       cases er:ff ft q fe (bu nl cap r) (ds.drop (i + 1)) with
       | stuck=>rw [er] at hr3; cases hr3
       | exc xx=>rw [er] at hr3; cases hr3
       | ok rest'=>
        rw [er] at hr3
        simp only [bind_ok] at hr3
        cases hr3
        have el7:=he' _ s7 σ6 H7 (fun v H8=>∃G8,Grow X.K G7 H7 G8 H8/\El X.K G7 H7 G8 H8 v d1) I7 ⟨r1,G7,S7,by rw [ee1]; exact fun v G8 H8 w8 rv=>⟨G8,by rw [eK] at w8; exact w8,by rw [eK] at rv; exact rv⟩⟩
        rw [eE] at el7
        refine aY (weaken el7) fun u8 s8 ⟨v8,H8,I8,r8,G8,w8,rv8⟩=>?_
        have hp8:H8 s2.heap.objs.size=some (.lst ws):=w8.he _ _ hp7
        have hg8:G8 s2.heap.objs.size=none:=by rw [w8.gf _ (by rw [hp7]; simp)]; exact hg7
        have S8:SI XX ⟨G2,H2,fun _=>none⟩ (aM nl cap m) r1 G8 σ6 H8:=S7.grow (by rw [eK]; exact w8)
        have hlen:=Rn rs3
        have ap8:=jY (X:=XX) _ s8 σ6 H8 (.ref s2.heap.objs.size) [v8] (.ref s2.heap.objs.size) [u8] (fun v H9=>H9=upd H8 s2.heap.objs.size (.lst (ws++[v8]))) I8 rfl (.cons r8 .nil) ⟨_,ws,v8,rfl,rfl,hp8,by omega,rfl⟩
        refine aY (weaken ap8) fun u9 s9 ⟨v9,H9,I9,r9,e9⟩=>?_
        subst e9
        obtain ⟨I9',t9,f9⟩:=back (G8:=G8) I9
        have rsn:=Ra (Rg rs3 (w5.trans w7)) w8 w27 hp7 rv8
        have w28:=w27.trans w8
        refine ⟨ds.length - (i + 1),by omega,i + 1,σ6,_,G8,ws++[v8],done++[d1],rest',I9',less (S8.other hg8 hp2 HB _),t9,f9,?_,cy,hg8,rsn,er,by rw [hv3,List.append_assoc]; rfl,by rw [List.length_append,List.length_singleton]; omega,hlt,rfl⟩
        refine ⟨fun b e hb=>(w28.ok b e hb).mono (fun _ _ z=>z) fun o z=>?_,fun b o hb=>?_,w28.ge,w28.gf⟩
        ·rw [bH (by rintro rfl; rw [hg8] at hb; cases hb)]; exact z
        ·rw [bH (by rintro rfl; rw [hp2] at hb; cases hb)]; exact w28.he b o hb
  ·have e:i=ds.length:=by omega
   subst e
   rw [List.drop_length] at hr3
   cases hr3
   rw [List.append_nil] at hv3
   subst hv3
   have dn:=T.done XX eP eW eK eC ds.length [] s3 σ3 H3 (notedBy (model X.prog X.w) X.A (compEnvC scope cl HH.objs.size X.env) fun e s'=>RR (.ref s2.heap.objs.size) HH.objs.size (.error e) s') I3 (hfX H3 fr3) st3 (Y.stop G3 H3 w3)
   rw [eA] at dn
   refine aY dn fun rr s4 ⟨hr,I4⟩=>?_
   subst hr
   exact fin' I4 w3 hp3 hg3 rs3
 exact codeAny_compStart_list loop (T.self X.A 0 _ _ _ hst₁ loop)
end
def pf:Res (List D)->Res (List D)
 | .ok d=>.ok d
 | _=>.stuck
@[simp] theorem noXL_ok (d:List D):pf (.ok d)=.ok d:=rfl
def bU (nl:Nat) (cap:List Nat) (fi:FI) (ft:FT) (q:FQ) (fe:FE):FE:=fun r=>(fi r).bind fun ds=>(bZ (sz ds)).bind fun ds=>(pf (ff ft q fe (bu nl cap r) ds)).bind fun vs=>.ok (.lst vs)
section
variable {X:Cx} {g:GE} {m mb:List Md} {scope:Scope} {N':List Str} {nl:Nat} {cap:List Nat} {elt tg iter:Expr} {ifs:List Expr} {pos pos' spos:Pos} {fi:FI} {ft:FT} {q:FQ} {fe:FE} {ro:Bool}
theorem IJ {r:ak} {d:D} (h:bU nl cap fi ft q fe r=.ok d):∃ds vs,fi r=.ok ds/\ds.length<=sizeLine/\ff ft q fe (bu nl cap r) ds=.ok vs/\d=.lst vs:=by
 unfold bU at h
 cases e1:fi r with
 | ok ds=>
  rw [e1,bind_ok] at h
  cases e2:sz ds with
  | none=>rw [e2] at h; cases h
  | some ds'=>
   obtain ⟨rfl,hl⟩:=pR e2
   rw [e2,opt_some,bind_ok] at h
   cases e3:ff ft q fe (bu nl cap r) ds' with
   | ok vs=>rw [e3,noXL_ok,bind_ok] at h; cases h; exact ⟨ds',vs,rfl,hl,e3,rfl⟩
   | exc x=>rw [e3] at h; cases h
   | stuck=>rw [e3] at h; cases h
 | exc x=>rw [e1] at h; cases h
 | stuck=>rw [e1] at h; cases h
theorem BZ {r:ak} {P:D->Prop} {x:D->Prop} (h:fin (bU nl cap fi ft q fe r) P x):fin (fi r) (fun ds=>∃vs,ds.length<=sizeLine/\ff ft q fe (bu nl cap r) ds=.ok vs/\P (.lst vs)) x:=by
 unfold bU at h
 refine bz (bv h) fun ds h1=>?_
 obtain ⟨ds',e2,h2⟩:=cD (bv h1)
 obtain ⟨rfl,hl⟩:=pR e2
 cases e3:ff ft q fe (bu nl cap r) ds' with
 | ok vs=>rw [e3] at h2; exact ⟨vs,hl,rfl,h2⟩
 | exc x=>rw [e3] at h2; exact h2.elim
 | stuck=>rw [e3] at h2; exact h2.elim
theorem CompSc.clo {pz:List (Addr × Obj)} {σ:L2.Ml} {H:Hp} {s:Shared} (sc:CompSc X scope N' nl cap) (ok:X.Ok):∃cl,closureFor scope X.env=pure cl/\(∀x c,cl.lookup x=some c->X.env.cells.lookup x=some c)/\(∀x,(x,NameKind.free)∈scope.names->∃c,cl.lookup x=some c):=
 Km fun y hy hf=>ok.has y.1 (sc.freeK y hy hf)
theorem fX (hN:X.N.Nodup) (hcalm:X.calm=true) (sc:CompSc X scope N' nl cap) (hi:iw X g m tg iter fi) (hg:∀s0 H0 cl C fp g',SG (eV X s0 H0 N' scope cl C fp) g' (aM nl cap m) tg ft (aM nl cap m)) (hft:gF ft nl)
  (hq:∀s0 H0 cl C fp g',kZ (eV X s0 H0 N' scope cl C fp) g' (aM nl cap m) ifs q) (he:∀s0 H0 cl C fp g',SE (eV X s0 H0 N' scope cl C fp) g' (aM nl cap m) elt fe)
  (hs:∀x,foldedSetIterable iter X.env x=pure x:=by intro _; rfl):SO X g m (.ListComp elt [⟨tg,iter,ifs,0⟩] scope pos) (bU nl cap fi ft q fe):=by
 intro pz s σ H Q I h
 obtain ⟨r,G,si,k⟩:=h
 obtain ⟨cl,hcl,h1,h2⟩:=sc.clo (pz:=pz) (σ:=σ) (H:=H) (s:=s) I.ok
 have k1:=BZ k
 rw [eval_ListComp]
 refine wpAny_comprehension_free (use:=none) rfl hs hcl sc.kind sc.names (aY (hi pz s σ H (fun J H'=>∃G' ds vs,Grow X.K G H G' H'/\YieldsC X.K J ds G' H'/\ds.length<=sizeLine/\ff ft q fe (bu nl cap r) ds=.ok vs /\
  (∀a G' H',Grow X.K G H G' H'->H a=none->Own X.K G' H' a (.lst vs)->Q (.ref a) H')) I ⟨r,G,si,bz k1 fun ds ⟨vs,z1,z2,z3⟩ J G' H' w y=>⟨G',ds,vs,w,y,z1,z2,z3⟩⟩) fun v s1 hv=>aY hv fun itv s2 hv2=>?_)
 obtain ⟨it,fp,tn,J,H2,rfl,I2,T,st,hf,G2,ds,vs,w2,Y,hsz,hres,hQ⟩:=hv2
 refine vM (El:=fun K _ _ G' _ v d=>RG K G' v d) (Rl:=fun _ G _ ws ds=>bL X.K G ws ds) (fun _ _ _=>.nil) (fun h w=>h.mono w.ge) Paired.length (fun h w _ _ e=>Paired.snoc (h.mono w.ge) e) (RR:=fun acc C=>compPost (model X.prog X.w) X.A X.xe none (EP X pz σ Q) acc C) hN hcalm sc h1 h2 I2 (si.grow w2) T st hf Y hsz (fun C=>hg _ _ _ _ _ _) hft (fun C=>hq _ _ _ _ _ _) (fun C=>he _ _ _ _ _ _) hres ?_
 intro p C s' H' G' I' hns hC1 hC2 hC3 hC4 hC5 w' hp ⟨ws,o1,o2,o3⟩
 have ho:Own X.K G' H' p (.lst vs):=⟨o2,.lst o1 o3⟩
 obtain ⟨mm,hn⟩:=hns
 refine ⟨mm,hn,fun h' hsb=>⟨.ref p,H',?_,rfl,hQ p G' H' (w2.trans w') (w2.back hp) ho⟩⟩
 exact I'.turned (it:=C) (t':=s'.toks) (fun b o hb e=>hsb.extBut b o hb e) hC1 hC2.symm.symm (.inr hC3) hC4 hC5
theorem jZ (i:Nat) {y:Str} (hN:X.N.Nodup) (hcalm:X.calm=true) (hy:X.N[i]? = some y) (hyl:X.env.scope.names.lookup y=some .local) (sc:CompSc X scope N' nl cap) (hi:iw X g m tg iter fi) (hg:∀s0 H0 cl C fp g',SG (eV X s0 H0 N' scope cl C fp) g' (aM nl cap m) tg ft (aM nl cap m)) (hft:gF ft nl)
  (hq:∀s0 H0 cl C fp g',kZ (eV X s0 H0 N' scope cl C fp) g' (aM nl cap m) ifs q) (he:∀s0 H0 cl C fp g',SE (eV X s0 H0 N' scope cl C fp) g' (aM nl cap m) elt fe)
  (hsw:swapsWith (.ListComp elt [⟨tg,iter,ifs,0⟩] scope pos) (some (.Name y pos')) spos.line X.env=pure true:=by rfl) (hs:∀x,foldedSetIterable iter X.env x=pure x:=by intro _; rfl) :
  SS X g ro mb m (.Assign [.Name y pos'] (.ListComp elt [⟨tg,iter,ifs,0⟩] scope pos) spos) (ao m i (bU nl cap fi ft q fe)) (m.set i .ow):=by
 refine ⟨by simp,?_⟩
 intro pz s σ H D0 I h
 obtain ⟨r,G,si,k⟩:=h
 obtain ⟨cl,hcl,h1,h2⟩:=sc.clo (pz:=pz) (σ:=σ) (H:=H) (s:=s) I.ok
 have k1:=BZ (hW si (m':=m.set i .ow) (by simp) k)
 rw [exec_Assign_Name_used _ _ _ _ hsw]
 refine wpAny_bind (wpAny_standAt (wpAny_bind ?_))
 show wpAny _ X.A (do let _ <-comprehension (.ListComp elt [⟨tg,iter,ifs,0⟩] scope pos) scope X.env _ (newList []) false (eval iter X.env) (some (assign (.Name y pos') X.env))) _ _ s
 refine wpAny_bind (wpAny_mono (wpAny_comprehension_free (use:=some (assign (.Name y pos') X.env)) (Q:=fun _ s'=>SP X pz D0 .next s') rfl hs hcl sc.kind sc.names (aY (hi pz s σ H (fun J H'=>∃G' ds vs,Grow X.K G H G' H'/\YieldsC X.K J ds G' H'/\ds.length<=sizeLine/\ff ft q fe (bu nl cap r) ds=.ok vs /\
  (∀σ' G' H',aJ G G'->SI X g (m.set i .ow) (r.set i (some (.lst vs))) G' σ' H'->D0.nx σ' H')) I ⟨r,G,si,bz k1 fun ds ⟨vs,z1,z2,z3⟩ J G' H' w y=>⟨G',ds,vs,w,y,z1,z2,z3⟩⟩) fun v s1 hv=>aY hv fun itv s2 hv2=>?_)) (fun _ s' hq=>wpAny_pure (wpAny_pure hq)) fun _ _ e=>e)
 obtain ⟨it,fp,tn,J,H2,rfl,I2,T,st,hf,G2,ds,vs,w2,Y,hsz,hres,hQ⟩:=hv2
 refine vM (El:=fun K _ _ G' _ v d=>RG K G' v d) (Rl:=fun _ G _ ws ds=>bL X.K G ws ds) (fun _ _ _=>.nil) (fun h w=>h.mono w.ge) Paired.length (fun h w _ _ e=>Paired.snoc (h.mono w.ge) e) (RR:=fun acc C=>compPost (model X.prog X.w) X.A X.xe (some (assign (.Name y pos') X.env)) (fun _ s'=>SP X pz D0 .next s') acc C) hN hcalm sc h1 h2 I2 (si.grow w2) T st hf Y hsz (fun C=>hg _ _ _ _ _ _) hft (fun C=>hq _ _ _ _ _ _) (fun C=>he _ _ _ _ _ _) hres ?_
 intro p C s' H' G' I' hns hC1 hC2 hC3 hC4 hC5 w' hp ⟨ws,o1,o2,o3⟩
 have ho:Own X.K G' H' p (.lst vs):=⟨o2,.lst o1 o3⟩
 obtain ⟨mm,hn⟩:=hns
 show wpAny _ X.A (assign (.Name y pos') X.env (.ref p)) _ _ s'
 refine wpAny_assign_Name (vB I' hN hy (.inl hyl) (v:=.ref p) rfl (fun s'' I'' ⟨a,hsb,ha⟩=>?_) (.inr hyl))
 have hCa:C≠a:=by
  rcases ha with z | z
  ·rw [z]; exact hC2
  ·exact (hC4 y a z).symm
 refine ⟨mm,hn.sameBut hsb hCa,fun h' hsb'=>?_⟩
 refine ⟨_,H',I''.turned (it:=C) (t':=s''.toks) (fun b o hb e=>hsb'.extBut b o hb e) hC1 hC2 (.inr hC3) hC4 hC5,?_⟩
 exact hQ _ G' H' (w2.trans w').ge (si.setN (w2.trans w') i (w2.back hp) ho)
end
def jq (K:W.Frag) (r:V->List V->Hp->VK->Prop) (mk:D->List D->Option D):Prop:=∀(G:GH) (H:Hp) (a:Addr) (d:D) (vs:List V) (ds:List D) (d':D) (Q:VK),aP K G H->Own K G H a d->bL K G vs ds->mk d ds=some d' ->
 (∀o',OwnO K G (upd H a o') a d'->Q .non (upd H a o'))->r (.ref a) vs H Q
def rP (T:String):D->Bool
 | .lst _=>T == "list"
 | .dic _=>T == "dict"
 | _=>false
def cM (T:String) (m:List Md) (i:Nat) (fl:ak->Res (List D)) (mk:D->List D->Option D):FS:=fun r=>match r[i]? with
 | some (some d)=>if rP T d=true then gA m r (fl r) fun ds=>(match mk d ds with
  | some d'=>.nx (r.set i (some d'))
  | none=>.stuck) else .stuck
 | _=>.stuck
theorem F4 {K:W.Frag} {G:GH} {H:Hp} {a:Addr} {d:D} {T:String} (o:Own K G H a d) (t:rP T d=true):oO K T (.ref a) H:=by
 cases o.ob with
 | lst r s=>exact .inl ⟨eq_of_beq t,_,aZ.of r⟩
 | dic r s=>exact .inr (.inr (.inl ⟨eq_of_beq t,.inl ⟨_,.inl r⟩⟩))
section
variable {X:Cx} {g:GE} {m mb:List Md} {e a b o:Expr} {es:List Expr} {f fa fb:FE} {fl:ak->Res (List D)} {pos pos' apos cpos:Pos} {ro:Bool} {x name:Str} {T id:String} {R:V->List V->Hp->VK->Prop} {mk:D->List D->Option D}
theorem IW (i:Nat) (hm:m[i]? = some .ow) (hk:jq X.K R mk) {D0:Ends} {σ:L2.Ml} {H:Hp} (h:tS X g ro m m mb (cM T m i fl mk) D0 σ H) :
  ∃v,σ[i]? = some (some v)/\oO X.K T v H/\tL X g m fl σ H fun xs H2=>R v xs H2 fun _ H1=>D0.nx σ H1:=by
 obtain ⟨r,G,si,k⟩:=h
 unfold cM at k
 cases er:r[i]? with
 | none=>simp only [er] at k; exact (show False from k).elim
 | some oo=>
  cases oo with
  | none=>simp only [er] at k; exact (show False from k).elim
  | some d=>
   simp only [er] at k
   by_cases ht:rP T d=true
   ·rw [if_pos ht] at k
    obtain ⟨a,h1,h2,h3⟩:=si.mut hm er
    refine ⟨_,h1,F4 h2 ht,r,G,si,bz (hW si rfl k) fun ds k2 vs G' H' w rs=>?_⟩
    cases em:mk d ds with
    | none=>simp only [em] at k2; exact (show False from k2).elim
    | some d'=>
     simp only [em] at k2
     obtain ⟨a',h1',h2',h3'⟩:=(si.grow w).mut hm er
     rw [h1] at h1'; cases h1'
     exact hk G' H' a d vs ds d' _ w.ok h2' rs em fun o' ob=>k2 σ G' _ w.ge (h3' o' d' ob)
   ·rw [if_neg ht] at k; exact (show False from k).elim
theorem jz (i:Nat) (hm:m[i]? = some .ow) (pa:PlainAttrs T) (slot:Slot T name id) (hty:typeOf (.builtin id)=pure (.type "method_descriptor")) (hmt:l9 X id R) (hk:jq X.K R mk) (hN:X.N[i]? = some x) (hv:f8 X.env.scope x) (ha:SA X g m (e::es) fl)
  (hd:(x == ("__debug__" : Str))=false:=by decide) (hcd:(x == ("__classdict__" : Str))=false:=by decide)
  (hbase:attributeBase (.Name x pos') name X.env (eval (.Name x pos') X.env)=eval (.Name x pos') X.env:=by rfl)
  (hfew:((backTo cpos (starEach (e::es) X.env)).all (fun x=>! x.1) && (backToKw cpos (keywordEach [] X.env)).all (fun x=>x.1.isSome) && decide ((e::es).length + ([]:List Keyword).length + (if ([]:List Keyword).isEmpty then 0 else 1) < 30))=true:=by rfl)
  (hline:(apos.endLine == cpos.line)=true:=by rfl) (hst:starEach (e::es) X.env=(false,eval e X.env)::starEach es X.env:=by rfl) (hplain:(backTo cpos (starEach es X.env)).any (·.1)=false:=by rfl) :
  SS X g ro mb m (.Expr (.Call (.Attribute (.Name x pos') name apos) (e::es) [] cpos) pos) (cM T m i fl mk) m:=
 ⟨rfl,PS.imp (GS (yI pa slot hty hmt (jE hN hv hd hcd) ha hbase hfew hline hst hplain)) fun D0 σ H h=>IW i hm hk h⟩
def appD:D->List D->Option D
 | .lst ds,[d]=>if ds.length < sizeLine then some (.lst (ds++[d])) else none
 | _,_=>none
theorem kH {K:W.Frag}:jq K At appD:=by
 intro G H a d vs ds d' Q gk ow rs e q
 unfold appD at e
 split at e
 ·split at e
  ·rename_i hl
   cases e
   cases ow.ob with
   | lst r s=>
    cases rs with
    | cons r1 t=>
     cases t
     have:=Paired.length s
     exact ⟨a,_,_,rfl,rfl,r,by omega,q _ (.lst cy (Paired.snoc s r1))⟩
  ·cases e
 ·cases e
def so (x:Int) (n:Nat):Nat:=if x < 0 then (x + (n:Int)).toNat else min x.toNat n
def cu {α:Type} (xs:List α) (x:Int) (y:α):List α:=xs.take (so x xs.length)++y::xs.drop (so x xs.length)
def Aw:V->List V->Hp->VK->Prop:=fun x vs H Q=>∃l xs i y,x=.ref l/\vs=[.int i,y]/\H l=some (.lst xs)/\-(2 ^ 63)<=i/\i < 2 ^ 63/\xs.length < sizeLine/\Q .non (upd H l (.lst (cu xs i y)))
theorem J4:l9 X "list.insert" Aw:=by
 intro pz s σ H x vs v us Q I rx rv h
 obtain ⟨l,xs,i,y,rfl,rfl,hH,h1,h2,hz,q⟩:=h
 cases rx
 obtain ⟨u,w',rfl,⟨t,rfl⟩,ry⟩:=sB rv
 obtain ⟨z,its,n,r,hl,e⟩:=I.lstM hH
 have hfit:¬(! Builtin.List.listFitsIndex i)=true:=by rw [fitsIndex_both h1 h2]; exact Bool.false_ne_true
 refine call_meets PySem.F.slot_list_insert ⟨_,e,rfl⟩ PySem.F.entry_list_insert (PySem.F.args_list_insert_3 _ _ _) (AutoListH.list_insert_list_int_val_1 l its.toArray n i t w' hfit (by rw [List.size_toArray]; omega)) ⟨e,?_⟩
 refine ⟨.non,_,I.lset (its':=cu its i w') hH e ?_ ?_ ?_,rfl,q⟩
 ·show ((its.toArray.extract 0 (if i < 0 then (i + ((its.toArray.size:Nat):Int)).toNat else min i.toNat its.toArray.size)).push w'++its.toArray.extract (if i < 0 then (i + ((its.toArray.size:Nat):Int)).toNat else min i.toNat its.toArray.size))=(cu its i w').toArray
  rw [List.size_toArray]
  unfold cu so
  generalize (if i < 0 then (i + ((its.length:Nat):Int)).toNat else min i.toNat its.length)=k
  apply Array.ext'
  simp
  exact List.take_of_length_le (by rw [List.length_drop]; exact Nat.le_refl _)
 ·unfold cu
  rw [hl]
  exact ap.append (r.take _) (.cons ry (r.drop _))
 ·unfold cu
  rw [List.length_append,List.length_cons,List.length_take,List.length_drop]
  omega
def insD:D->List D->Option D
 | .lst ds,[.int i,d]=>if ds.length < sizeLine/\-(2 ^ 63)<=i/\i < 2 ^ 63 then some (.lst (cu ds i d)) else none
 | _,_=>none
theorem Ff {α β:Type} {F:α->β->Prop} {l:List α} {r:List β} {x:α} {y:β} (h:Paired F l r) (i:Int) (hxy:F x y):Paired F (cu l i x) (cu r i y):=by
 unfold cu
 rw [Paired.length h]
 exact Paired.app (Paired.tk _ h) (.cons hxy (Paired.dr _ h))
theorem Fg {K:W.Frag}:jq K Aw insD:=by
 intro G H a d vs ds d' Q gk ow rs e q
 unfold insD at e
 split at e
 ·split at e
  ·rename_i hl
   cases e
   cases ow.ob with
   | lst r s=>
    cases rs with
    | cons r1 t=>
     cases t with
     | cons r2 t=>
      cases t
      have:=Paired.length s
      exact ⟨a,_,_,_,rfl,by rw [r1.int gk],r,hl.2.1,hl.2.2,by omega,q _ (.lst cy (Ff s _ r2))⟩
  ·cases e
 ·cases e
end
def cx:D->Bool
 | .non=>true
 | .bl _=>true
 | .int _=>true
 | .str _=>true
 | _=>false
def fJ:D->V
 | .non=>.non
 | .bl b=>.bl b
 | .int i=>.int i
 | .str x=>.str x
 | _=>.non
def eM (a b:D):Bool:=io (fJ a) (fJ b)
@[simp] theorem eqs_int (a b:Int):eM (.int a) (.int b)=(a == b):=rfl
@[simp] theorem eqs_str (a b:Str):eM (.str a) (.str b)=(a == b):=rfl
@[simp] theorem eqs_non_int (b:Int):eM .non (.int b)=false:=rfl
@[simp] theorem eqs_int_non (b:Int):eM (.int b) .non=false:=rfl
section
variable {K:W.Frag} {G:GH} {H:Hp} {v:V} {d:D}
theorem RB.flat (h:RB K G H v d) (gk:aP K G H) (hf:cx d=true):v=fJ d/\fH v=true:=by
 cases d with
 | non=>rw [h.non gk]; exact ⟨rfl,rfl⟩
 | bl b=>rw [h.bl gk]; exact ⟨rfl,rfl⟩
 | int i=>rw [h.int gk]; exact ⟨rfl,rfl⟩
 | str x=>rw [h.str gk]; exact ⟨rfl,rfl⟩
 | _=>cases hf
theorem yC {xs:List V} {ds:List D} (h:bL K G xs ds) (gk:aP K G H) (hf:ds.all cx=true):xs=ds.map fJ/\xs.all fH=true:=by
 induction h with
 | nil=>exact ⟨rfl,rfl⟩
 | cons r t ih=>
  rw [List.all_cons,Bool.and_eq_true] at hf
  obtain ⟨e1,e2⟩:=RB.flat (H:=H) r.rb gk hf.1
  obtain ⟨e3,e4⟩:=ih hf.2
  exact ⟨by rw [List.map_cons,<-e3,<-e1],by rw [List.all_cons,e2,e4]; rfl⟩
end
def fw:D->Option aD
 | .int i=>some (.inl i)
 | .str x=>some (.inr x)
 | _=>none
def fE (kvs:List (aD × D)) (k:aD):Bool:=kvs.any fun kv=>decide (kv.1=k)
def bN (kvs:List (aD × D)) (k:aD):Option D:=(kvs.find? fun kv=>decide (kv.1=k)).map (·.2)
def iN (x c:D):Option Bool:=match c with
 | .lst ds=>if cx x=true/\ds.all cx=true then some (ds.any fun y=>eM y x) else none
 | .tup ds=>if cx x=true/\ds.all cx=true then some (ds.any fun y=>eM y x) else none
 | .dic kvs=>(fw x).map (fE kvs)
 | .str y=>match x with
  | .str z=>some (!(Builtin.Str.occurrences y z 0 y.length 1).isEmpty)
  | _=>none
 | _=>none
def jL (x c:D):Option D:=(iN x c).map .bl
def da (x c:D):Option D:=(iN x c).map fun b=>.bl (! b)
theorem zH {K:W.Frag} {G:GH} {k:aD} {ps:List (aD × V)} {kvs:List (aD × D)} (h:gE K G ps kvs) (d:D) (e:bN kvs k=some d):∃v,cA ps k=some v/\RG K G v d:=by
 induction h with
 | nil=>cases e
 | @cons p q ps kvs r t ih=>
  obtain ⟨k1,v1⟩:=p
  obtain ⟨k2,d2⟩:=q
  obtain ⟨e1,r1⟩:=r
  have e1':k1=k2:=e1
  subst e1'
  by_cases hk:k1=k
  ·subst hk
   have:d2=d:=by simpa [bN,List.find?_cons] using e
   subst this
   exact ⟨v1,qB rfl,r1⟩
  ·have e':bN kvs k=some d:=by simpa [bN,List.find?_cons,hk] using e
   obtain ⟨v,h1,h2⟩:=ih e'
   exact ⟨v,by rw [nP hk]; exact h1,h2⟩
theorem Js {K:W.Frag} {G:GH} {k:aD} {ps:List (aD × V)} {kvs:List (aD × D)} (h:gE K G ps kvs) (e:bN kvs k=none):cA ps k=none:=by
 induction h with
 | nil=>rfl
 | @cons p q ps kvs r t ih=>
  obtain ⟨k1,v1⟩:=p
  obtain ⟨k2,d2⟩:=q
  obtain ⟨e1,r1⟩:=r
  have e1':k1=k2:=e1
  subst e1'
  by_cases hk:k1=k
  ·subst hk; simp [bN,List.find?_cons] at e
  ·have e':bN kvs k=none:=by simpa [bN,List.find?_cons,hk] using e
   rw [nP hk]; exact ih e'
theorem FO (kvs:List (aD × D)) (k:aD):fE kvs k=(bN kvs k).isSome:=by
 induction kvs with
 | nil=>rfl
 | cons p r ih=>
  by_cases e:p.1=k
  ·simp [fE,bN,List.find?_cons,e]
  ·have h1:fE (p::r) k=fE r k:=by simp [fE,e]
   have h2:bN (p::r) k=bN r k:=by simp [bN,List.find?_cons,e]
   rw [h1,h2,ih]
theorem sP {K:W.Frag} {G:GH} {H:Hp} {v:V} {d:D} {k:aD} (gk:aP K G H) (h:RB K G H v d) (e:fw d=some k):v=kV k:=by
 cases d with
 | int i=>cases e; exact h.int gk
 | str x=>cases e; exact h.str gk
 | _=>cases e
section
variable {X:Cx} {g:GE} {m mb:List Md} {e a b o c:Expr} {f fa fb fc:FE} {pos pos':Pos}
def lT (neg:Bool):R2:=fun y x H Q=>∃a o,x=.ref a/\eN H a y o/\Q (.bl (if neg then ! o.isSome else o.isSome)) H
theorem EV (hu:X.A.units + 1 < cLine):bi X (compareOp .In) (lT false):=by
 intro pz s σ H y x u v Q I ry rx h
 obtain ⟨a,oo,rfl,hg,q⟩:=h
 cases rx
 exact yk hu I hg ry fun s' I'=>⟨.bl _,H,I',rfl,q⟩
theorem Hy (hu:X.A.units + 1 < cLine):bi X (compareOp .NotIn) (lT true):=by
 intro pz s σ H y x u v Q I ry rx h
 obtain ⟨a,oo,rfl,hg,q⟩:=h
 cases rx
 exact HE hu I hg ry fun s' I'=>⟨.bl _,H,I',rfl,q⟩
def ik (K:W.Frag) (neg:Bool):R2:=fun x y H Q=>ya K neg x y H Q\/lT neg x y H Q\/∃i j,x=.str i/\y=.str j/\Q (.bl (if neg then !(!(Builtin.Str.occurrences j i 0 j.length 1).isEmpty) else !(Builtin.Str.occurrences j i 0 j.length 1).isEmpty)) H
theorem zh (hu:X.A.units + 1 < cLine):bi X (compareOp .In) (ik X.K false):=bi.or Kb (bi.or (EV hu) JO)
theorem Hx (hu:X.A.units + 1 < cLine):bi X (compareOp .NotIn) (ik X.K true):=bi.or Lj (bi.or (Hy hu) Ll)
theorem AH {K:W.Frag} (neg:Bool):dU K (ik K neg) (fun x c=>(iN x c).map fun b=>.bl (if neg then ! b else b)):=by
 intro G H v1 v2 d1 d2 d Q gk r1 r2 e q
 have seq:∀{xs:List V} {ds:List D} {p:Addr},bL K G xs ds->v2=.ref p->(aZ K H p xs\/ck K H p xs)->cx d1=true->ds.all cx=true->d=.bl (if neg then !(ds.any fun y=>eM y d1) else ds.any fun y=>eM y d1)->ik K neg v1 v2 H Q:=fun {xs ds p} rs e2 hs hf hfs ed=>by
  obtain ⟨e1,f1⟩:=RB.flat r1 gk hf
  obtain ⟨e3,f3⟩:=yC rs gk hfs
  refine .inl ⟨p,xs,e2,hs,f1,f3,q _ G H (Grow.refl gk) ?_⟩
  have:rT v1 xs=ds.any fun y=>eM y d1:=by
   unfold rT
   rw [e3,List.any_map,e1]
   rfl
  rw [this,ed]
  exact .scl (.bl _)
 cases d2 with
 | lst ds=>
  by_cases hc:cx d1=true/\ds.all cx=true
  ·simp only [iN,if_pos hc,Option.map_some] at e
   obtain ⟨p,xs,e2,hs,rs⟩:=r2.lst gk
   exact seq rs e2 (.inl hs) hc.1 hc.2 (Option.some.inj e).symm
  ·simp only [iN,if_neg hc,Option.map_none] at e
   cases e
 | tup ds=>
  by_cases hc:cx d1=true/\ds.all cx=true
  ·simp only [iN,if_pos hc,Option.map_some] at e
   obtain ⟨p,xs,e2,hs,rs⟩:=r2.tup gk
   exact seq rs e2 (.inr hs) hc.1 hc.2 (Option.some.inj e).symm
  ·simp only [iN,if_neg hc,Option.map_none] at e
   cases e
 | dic kvs=>
  simp only [iN] at e
  cases ek:fw d1 with
  | none=>rw [ek] at e; cases e
  | some k=>
   rw [ek] at e
   cases e
   obtain ⟨p,ps,rfl,hs,rs⟩:=r2.dic gk
   refine .inr (.inl ⟨p,cA ps k,rfl,by rw [sP gk r1 ek]; exact .inl ⟨ps,k,hs,rfl,rfl⟩,q _ G H (Grow.refl gk) ?_⟩)
   have:(cA ps k).isSome=fE kvs k:=by
    rw [FO]
    cases eg:bN kvs k with
    | none=>rw [Js rs eg]; rfl
    | some d=>obtain ⟨v,h1,_⟩:=zH rs d eg; rw [h1]; rfl
   rw [this]
   exact .scl (.bl _)
 | str y=>
  cases d1 with
  | str z=>cases e; exact .inr (.inr ⟨z,y,r1.str gk,r2.str gk,q _ G H (Grow.refl gk) (.scl (.bl _))⟩)
  | _=>cases e
 | _=>cases e
theorem yO {K:W.Frag}:dU K (ik K false) jL:=by
 have h:=AH (K:=K) false
 have e:(fun x c=>(iN x c).map fun b=>D.bl (if false=true then ! b else b))=jL:=by
  funext x c; unfold jL; cases iN x c <;> rfl
 rw [e] at h; exact h
theorem FG {K:W.Frag}:dU K (ik K true) da:=by
 have h:=AH (K:=K) true
 have e:(fun x c=>(iN x c).map fun b=>D.bl (if true=true then ! b else b))=da:=by
  funext x c; unfold da; cases iN x c <;> rfl
 rw [e] at h; exact h
theorem xS (hu:X.A.units + 1 < cLine) (ha:SB X g m a fa) (hb:SB X g m b fb) (hm:behindInMarks .In b=false:=by rfl):SE X g m (.Compare a [.In] [b] pos) (f2 fa fb jL):=nu (zh hu) yO ha hb hm
theorem o6 (hu:X.A.units + 1 < cLine) (ha:SB X g m a fa) (hb:SB X g m b fb) (hm:behindInMarks .In b=false:=by rfl):SQ X g m (.Compare a [.In] [b] pos) (bq (f2 fa fb jL)):=jy (zh hu) yO ha hb hm
theorem nj (hu:X.A.units + 1 < cLine) (ha:SB X g m a fa) (hb:SB X g m b fb) (hm:behindInMarks .NotIn b=false:=by rfl):SQ X g m (.Compare a [.NotIn] [b] pos) (bq (f2 fa fb da)):=jy (Hx hu) FG ha hb hm
def lX:D->D->Option D
 | .non,.non=>some (.bl true)
 | _,.non=>some (.bl false)
 | _,_=>none
def fB:D->D->Option D
 | .non,.non=>some (.bl false)
 | _,.non=>some (.bl true)
 | _,_=>none
theorem RB.isnon {K:W.Frag} {G:GH} {H:Hp} {v:V} {d:D} (gk:aP K G H) (h:RB K G H v d):(v=.non↔d=.non):=by
 constructor
 ·intro e
  subst e
  rcases h with h | ⟨a,e,_⟩
  ·cases h with
   | scl s=>cases s; rfl
  ·cases e
 ·intro e
  subst e
  exact h.non gk
theorem DA {K:W.Frag}:dU K (fun x y H Q=>y=.non/\Q (.bl (decide (x=.non))) H) lX:=by
 intro G H v1 v2 d1 d2 d Q gk r1 r2 e q
 have hn:=r1.isnon gk
 cases d2 with
 | non=>
  refine ⟨r2.non gk,q _ G H (Grow.refl gk) ?_⟩
  cases d1 with
  | non=>cases e; rw [decide_eq_true (hn.mpr rfl)]; exact .scl (.bl _)
  | _=>cases e; rw [decide_eq_false (fun z=>by have:=hn.mp z; cases this)]; exact .scl (.bl _)
 | _=>cases d1 <;> cases e
theorem zN {K:W.Frag}:dU K (fun x y H Q=>y=.non/\Q (.bl (! decide (x=.non))) H) fB:=by
 intro G H v1 v2 d1 d2 d Q gk r1 r2 e q
 have hn:=r1.isnon gk
 cases d2 with
 | non=>
  refine ⟨r2.non gk,q _ G H (Grow.refl gk) ?_⟩
  cases d1 with
  | non=>cases e; rw [decide_eq_true (hn.mpr rfl)]; exact .scl (.bl _)
  | _=>cases e; rw [decide_eq_false (fun z=>by have:=hn.mp z; cases this)]; exact .scl (.bl _)
 | _=>cases d1 <;> cases e
theorem Eh (ha:SB X g m a fa) (hb:SB X g m b fb):SE X g m (.Compare a [.IsNot] [b] pos) (f2 fa fb fB):=nu Al zN ha hb (iI _)
theorem o5 (ha:SB X g m a fa) (hb:SB X g m b fb):SQ X g m (.Compare a [.Is] [b] pos) (bq (f2 fa fb lX)):=jy EW DA ha hb (iI _)
theorem EO (ha:SB X g m a fa) (hb:SB X g m b fb):SQ X g m (.Compare a [.IsNot] [b] pos) (bq (f2 fa fb fB)):=jy Al zN ha hb (iI _)
end
end DL
section
namespace DL
open PySem PySem.Spec PyProof.Rows L2
section
variable {X:Cx} {g:GE} {m mb:List Md} {e a b o c:Expr} {f fa fb fc:FE} {pos pos' p1 p2:Pos} {ro:Bool} {x:Str}
def o4:R2:=fun x y H Q=>∃a v,x=.ref a/\eN H a y (some v)/\Q v H
theorem Fj (hu:X.A.units + 1 < cLine):js X o4:=by
 intro value slice pz s σ H x y v u Q I rx ry h hs
 obtain ⟨a,w,rfl,hg,q⟩:=h
 cases rx
 exact tail_any (KZ I hg) PySem.F.slot_dict_getitem.lookup (Jo hu I hg ry fun w' s' I' rw'=>⟨w,H,I',rw',q⟩) hs
def am:D->D->Option D
 | .dic kvs,k=>(fw k).bind (bN kvs)
 | c,k=>ixD c k
theorem Fi {K:W.Frag}:dU K (fun x y H Q=>o4 x y H Q\/xZ K x y H Q) am:=by
 intro G H v1 v2 d1 d2 d Q gk r1 r2 e q
 cases d1 with
 | dic kvs=>
  obtain ⟨a,ps,rfl,hs,rs⟩:=r1.dic gk
  have e':(fw d2).bind (bN kvs)=some d:=e
  cases ek:fw d2 with
  | none=>rw [ek] at e'; cases e'
  | some k=>
   rw [ek] at e'
   obtain ⟨v,h1,h2⟩:=zH rs d e'
   refine .inl ⟨a,v,rfl,?_,q v G H (Grow.refl gk) h2⟩
   rw [sP gk r2 ek,<-h1]
   exact .inl ⟨ps,k,hs,rfl,rfl⟩
 | lst ds=>exact .inr (sr G H v1 v2 _ d2 d Q gk r1 r2 e q)
 | tup ds=>exact .inr (sr G H v1 v2 _ d2 d Q gk r1 r2 e q)
 | str ds=>exact .inr (sr G H v1 v2 _ d2 d Q gk r1 r2 e q)
 | _=>cases e
theorem cS (hu:X.A.units + 1 < cLine) (ha:SB X g m a fa) (hb:SB X g m b fb) (hs:nC b:=by intro _ _; rfl):SE X g m (.Subscript a b pos) (f2 fa fb am):=sj Fi (se (js.or (Fj hu) Fk) ha hb hs)
theorem ES:SO X g m (.Dict [] [] pos) fun _=>.ok (.dic []):=
 PE.imp Ig fun σ H Q ⟨r,G,si,q⟩ p hp=>q p G _ (Grow.new si.gok hp _) hp ⟨si.gok.isN hp,.dic cy .nil⟩
def eI (kvs:List (aD × D)) (k:aD) (d:D):List (aD × D):=if (kvs.any fun kv=>decide (kv.1=k))=true then kvs.map fun kv=>if kv.1=k then (kv.1,d) else kv else kvs++[(k,d)]
theorem HL {K:W.Frag} {G:GH} {k:aD} {ps:List (aD × V)} {kvs:List (aD × D)} (h:gE K G ps kvs):(ps.any fun kv=>decide (kv.1=k))=kvs.any fun kv=>decide (kv.1=k):=by
 induction h with
 | nil=>rfl
 | cons r t ih=>rw [List.any_cons,List.any_cons,ih,r.1]
theorem EM {K:W.Frag} {G:GH} {ps:List (aD × V)} {kvs:List (aD × D)} {k:aD} {v:V} {d:D} (r:gE K G ps kvs) (h:RG K G v d):gE K G (cY ps k v) (eI kvs k d):=by
 unfold cY eI
 rw [HL r]
 by_cases hc:(kvs.any fun kv=>decide (kv.1=k))=true
 ·rw [if_pos hc,if_pos hc]
  clear hc
  induction r with
  | nil=>exact .nil
  | @cons p q ps kvs r t ih=>
   refine .cons ?_ ih
   obtain ⟨p1,p2⟩:=p
   obtain ⟨q1,q2⟩:=q
   have e:p1=q1:=r.1
   subst e
   by_cases hk:p1=k
   ·simp only [hk,if_true,true_and]; exact h
   ·simp only [hk,if_false,true_and]; exact r.2
 ·rw [if_neg hc,if_neg hc]
  exact Paired.snoc r ⟨rfl,h⟩
def gr:D->D->D->Option D
 | .lst ds,.int k,v=>(c6 ds.length k).map fun j=>.lst (ds.set j v)
 | .dic kvs,k,v=>(fw k).bind fun k=>if kvs.length < sizeLine then some (.dic (eI kvs k v)) else none
 | _,_,_=>none
def zd:V->V->V->Hp->(Hp->Prop)->Prop:=fun o i v H Q=>∃p H',o=.ref p/\gH H p i v H'/\Q H'
theorem He (hu:X.A.units + 1 < cLine):fU X zd:=by
 intro pz s σ H o i v ov iv u Q I ro ri rv h
 obtain ⟨p,H',rfl,hp,q⟩:=h
 cases ro
 exact Jp hu I hp ri rv fun s' I'=>⟨H',I',q⟩
theorem fU.or {t t':ku} (h:fU X t) (h':fU X t'):fU X (fun o i v H Q=>t o i v H Q\/t' o i v H Q):=by
 intro pz s σ H o i v ov iv u Q I ro ri rv q
 rcases q with q | q
 ·exact h pz s σ H o i v ov iv u Q I ro ri rv q
 ·exact h' pz s σ H o i v ov iv u Q I ro ri rv q
theorem Gz {K:W.Frag} {G:GH} {H:Hp} {a:Addr} {d k v d':D} {kv vv:V} {Q:Hp->Prop} (gk:aP K G H) (ow:Own K G H a d) (rk:RB K G H kv k) (rv:RG K G vv v) (e:gr d k v=some d') (q:∀o',OwnO K G (upd H a o') a d'->Q (upd H a o')) :
  ze (.ref a) kv vv H Q\/zd (.ref a) kv vv H Q:=by
 cases ow.ob with
 | @lst xs ds r s=>
  cases k with
  | int k=>
   have e':(c6 ds.length k).map (fun j=>D.lst (ds.set j v))=some d':=e
   cases ej:c6 ds.length k with
   | none=>rw [ej] at e'; cases e'
   | some j=>
    rw [ej] at e'
    cases e'
    exact .inl ⟨a,xs,k,j,rfl,rk.int gk,r,by rw [Paired.length s]; exact ej,q _ (.lst cy (Paired.st rv j s))⟩
  | _=>cases e
 | @dic ps kvs r s=>
  have e':(fw k).bind (fun k=>if kvs.length < sizeLine then some (D.dic (eI kvs k v)) else none)=some d':=e
  cases ek:fw k with
  | none=>rw [ek] at e'; cases e'
  | some k'=>
   rw [ek] at e'
   have e2:(if kvs.length < sizeLine then some (D.dic (eI kvs k' v)) else none)=some d':=e'
   by_cases hl:kvs.length < sizeLine
   ·rw [if_pos hl] at e2
    cases e2
    have:=Paired.length s
    refine .inr ⟨a,_,rfl,?_,q _ (.dic cy (EM s rv))⟩
    rw [sP gk rk ek]
    exact gH.k r (by omega)
   ·rw [if_neg hl] at e2; cases e2
def eG (m:List Md) (i:Nat) (fk fv:FE):FS:=fun r=>gA m r (fv r) fun v=>match r[i]? with
 | some (some d)=>gA m r (fk r) fun k=>(match gr d k v with
  | some d'=>.nx (r.set i (some d'))
  | none=>.stuck)
 | _=>.stuck
theorem lc (i:Nat) (hu:X.A.units + 1 < cLine) (hm:m[i]? = some .ow) (hN:X.N[i]? = some x) (hv:f8 X.env.scope x) (hk:SB X g m b fb) (he:SE X g m e f)
  (hd:(x == ("__debug__" : Str))=false:=by decide) (hcd:(x == ("__classdict__" : Str))=false:=by decide)
  (ha:∀v,assign (.Subscript (.Name x p1) b p2) X.env v=(do
   let ov <-holding [v] (eval (.Name x p1) X.env)
   let iv <-holding [v,ov] (eval b X.env)
   standAt p2
   holding [v,ov,iv] (setItem ov iv v)
   release [v,ov,iv] []):=by intro _; rfl)
  (hs:swapsWithSole [.Subscript (.Name x p1) b p2] e pos.line X.env=pure false:=by rfl) (hw:swappedStores [.Subscript (.Name x p1) b p2] e X.env=pure none:=by rfl)
  (h1:(assignEach [.Subscript (.Name x p1) b p2] X.env).map (·.2)=[assign (.Subscript (.Name x p1) b p2) X.env]:=by rfl) :
  SS X g ro mb m (.Assign [.Subscript (.Name x p1) b p2] e pos) (eG m i fb f) m:=by
 refine ⟨rfl,PS.imp (pS he (sM (jE hN hv hd hcd) hk (fU.or uO (He hu)) ha) hs hw h1) fun D0 σ H ⟨r,G,si,k⟩=>⟨r,G,si,?_⟩⟩
 refine bz (hW si rfl k) fun v k1 vv G1 H1 w1 rv=>?_
 cases er:r[i]? with
 | none=>simp only [er] at k1; exact (show False from k1).elim
 | some oo=>
  cases oo with
  | none=>simp only [er] at k1; exact (show False from k1).elim
  | some d=>
   simp only [er] at k1
   obtain ⟨a,h1,h2,h3⟩:=(si.grow w1).mut hm er
   refine ⟨_,h1,r,G1,si.grow w1,?_⟩
   refine bz (hW (m:=m) (si.grow w1) rfl (cf.gle k1 w1.ge)) fun kk k2 kv G2 H2 w2 rk=>?_
   cases es:gr d kk v with
   | none=>simp only [es] at k2; exact (show False from k2).elim
   | some d'=>
    simp only [es] at k2
    obtain ⟨a',h1',h2',h3'⟩:=((si.grow w1).grow w2).mut hm er
    rw [h1] at h1'; cases h1'
    exact Gz w2.ok h2' rk (rv.mono w2.ge) es fun o' ob=>k2 σ G2 _ w2.ge (h3' o' d' ob)
end
mutual
def bj:D->PyData
 | .non=>.none
 | .bl b=>.bool b
 | .int i=>.int i
 | .str x=>.str x
 | .tup ds=>.tuple (zdH ds)
 | .lst ds=>.list (zdH ds)
 | .dic _=>.none
 | .obj _ _=>.none
def zdH:List D->List PyData
 | []=>[]
 | d::ds=>bj d::zdH ds
end
def bX:Nat->D->Prop
 | _,.non=>True
 | _,.bl _=>True
 | _,.int _=>True
 | _,.str x=>PyData.strOk x=true
 | 0,.tup _=>False
 | 0,.lst _=>False
 | k + 1,.tup ds=>∀d∈ds,bX k d
 | k + 1,.lst ds=>∀d∈ds,bX k d
 | _,.dic _=>False
 | _,.obj _ _=>False
theorem AJ {k:Nat} {ds:List D}:bX (k + 1) (.lst ds)↔∀d∈ds,bX k d:=by simp only [bX]
theorem ly {k:Nat} {ds:List D}:bX (k + 1) (.tup ds)↔∀d∈ds,bX k d:=by simp only [bX]
def lY (a b:D):Bool:=PyData.eqv (bj a) (bj b)
section
variable {X:Cx} {pz:List (Addr × Obj)} {σ:L2.Ml} {H:Hp} {s:Shared} {G:GH}
theorem Mj {k:Nat} (ih:∀(d:D) (v:V) (u:Value),bX k d->RG X.K G v d->L2.aw v u->∃as,Reads s.heap u (bj d) as) (ds:List D) (vs:List V) (us:List Value) (h:∀d∈ds,bX k d) (r:bL X.K G vs ds) (q:ap vs us):∃as,ReadsAll s.heap us (zdH ds) as:=by
 induction r generalizing us with
 | nil=>cases q; exact ⟨[],.nil⟩
 | cons r t ih'=>
  cases q with
  | cons r' t'=>
   obtain ⟨a1,h1⟩:=ih _ _ _ (h _ List.mem_cons_self) r r'
   obtain ⟨a2,h2⟩:=ih' _ (fun x hx=>h x (List.mem_cons_of_mem _ hx)) t'
   exact ⟨a1++a2,.cons h1 h2⟩
theorem qz (I:Inv X pz σ H s) (gk:aP X.K G H):∀(k:Nat) (d:D) (v:V) (u:Value),bX k d->RB X.K G H v d->L2.aw v u->∃as,Reads s.heap u (bj d) as:=by
 intro k
 induction k with
 | zero=>
  intro d v u hs r ru
  cases d with
  | non=>rw [r.non gk] at ru; cases ru; exact ⟨_,.none⟩
  | bl b=>rw [r.bl gk] at ru; cases ru; exact ⟨_,.bool b⟩
  | int i=>rw [r.int gk] at ru; obtain ⟨t,rfl⟩:=ru; exact ⟨_,.int i t⟩
  | str x=>rw [r.str gk] at ru; obtain ⟨t,rfl⟩:=ru; exact ⟨_,.str x t⟩
  | tup _=>unfold bX at hs; exact hs.elim
  | lst _=>unfold bX at hs; exact hs.elim
  | dic _=>unfold bX at hs; exact hs.elim
  | obj _ _=>unfold bX at hs; exact hs.elim
 | succ k ih=>
  intro d v u hs r ru
  cases d with
  | non=>rw [r.non gk] at ru; cases ru; exact ⟨_,.none⟩
  | bl b=>rw [r.bl gk] at ru; cases ru; exact ⟨_,.bool b⟩
  | int i=>rw [r.int gk] at ru; obtain ⟨t,rfl⟩:=ru; exact ⟨_,.int i t⟩
  | str x=>rw [r.str gk] at ru; obtain ⟨t,rfl⟩:=ru; exact ⟨_,.str x t⟩
  | tup ds=>
   obtain ⟨a,xs,rfl,sq,rs⟩:=r.tup gk
   cases ru
   obtain ⟨its,rv,pl,_⟩:=I.tuple sq
   obtain ⟨o,ho,hc,n,hd⟩:=pl
   obtain ⟨as,h⟩:=Mj (k:=k) (fun d v u h1 h2 h3=>ih d v u h1 h2.rb h3) ds xs its (ly.mp hs) rs rv
   refine ⟨as,?_⟩
   unfold bj
   exact .tuple ho hc hd (by simpa using h)
  | lst ds=>
   obtain ⟨a,xs,rfl,sq,rs⟩:=r.lst gk
   cases ru
   obtain ⟨its,rv,pl,_⟩:=I.list sq
   obtain ⟨o,ho,hc,n,hd⟩:=pl.isList
   obtain ⟨as,h⟩:=Mj (k:=k) (fun d v u h1 h2 h3=>ih d v u h1 h2.rb h3) ds xs its (AJ.mp hs) rs rv
   refine ⟨a::as,?_⟩
   unfold bj
   exact .list ho hc hd (by simpa using h)
  | dic _=>unfold bX at hs; exact hs.elim
  | obj _ _=>unfold bX at hs; exact hs.elim
theorem tz {k:Nat} (ih:∀d,bX k d->PyData.canLay0 (bj d)=true/\PyData.depth (bj d)<=k):∀ds:List D,(∀d∈ds,bX k d)->PyData.canLayAll0 (zdH ds)=true/\PyData.depthAll (zdH ds)<=k
 | [],_=>by unfold zdH PyData.canLayAll0 PyData.depthAll; exact ⟨rfl,Nat.zero_le _⟩
 | d::ds,h=>by
  obtain ⟨a1,a2⟩:=ih d (h d List.mem_cons_self)
  obtain ⟨b1,b2⟩:=tz ih ds fun x hx=>h x (List.mem_cons_of_mem _ hx)
  unfold zdH PyData.canLayAll0 PyData.depthAll
  rw [a1,b1]
  exact ⟨rfl,Nat.max_le.mpr ⟨a2,b2⟩⟩
theorem Gq:∀(k:Nat) (d:D),bX k d->PyData.canLay0 (bj d)=true/\PyData.depth (bj d)<=k:=by
 intro k
 induction k with
 | zero=>
  intro d hs
  cases d with
  | non=>unfold bj PyData.canLay0 PyData.depth; exact ⟨rfl,Nat.zero_le _⟩
  | bl b=>unfold bj PyData.canLay0 PyData.depth; exact ⟨rfl,Nat.zero_le _⟩
  | int i=>unfold bj PyData.canLay0 PyData.depth; exact ⟨rfl,Nat.zero_le _⟩
  | str x=>unfold bX at hs; unfold bj PyData.canLay0 PyData.depth; exact ⟨hs,Nat.zero_le _⟩
  | tup _=>unfold bX at hs; exact hs.elim
  | lst _=>unfold bX at hs; exact hs.elim
  | dic _=>unfold bX at hs; exact hs.elim
  | obj _ _=>unfold bX at hs; exact hs.elim
 | succ k ih=>
  intro d hs
  cases d with
  | non=>unfold bj PyData.canLay0 PyData.depth; exact ⟨rfl,Nat.zero_le _⟩
  | bl b=>unfold bj PyData.canLay0 PyData.depth; exact ⟨rfl,Nat.zero_le _⟩
  | int i=>unfold bj PyData.canLay0 PyData.depth; exact ⟨rfl,Nat.zero_le _⟩
  | str x=>unfold bX at hs; unfold bj PyData.canLay0 PyData.depth; exact ⟨hs,Nat.zero_le _⟩
  | tup ds=>
   obtain ⟨b1,b2⟩:=tz ih ds (ly.mp hs)
   unfold bj PyData.canLay0 PyData.depth
   exact ⟨b1,Nat.succ_le_succ b2⟩
  | lst ds=>
   obtain ⟨b1,b2⟩:=tz ih ds (AJ.mp hs)
   unfold bj PyData.canLay0 PyData.depth
   exact ⟨b1,Nat.succ_le_succ b2⟩
  | dic _=>unfold bX at hs; exact hs.elim
  | obj _ _=>unfold bX at hs; exact hs.elim
theorem qE {d:D} (h:bX 60 d):SeqAt.shaped (bj d)=true:=by
 obtain ⟨a,b⟩:=Gq 60 d h
 unfold SeqAt.shaped
 rw [a,decide_eq_true (Nat.le_trans b (by decide))]
 rfl
end
section
variable {X:Cx} {g:GE} {m mb:List Md} {e a b o c:Expr} {f fa fb fc:FE} {pos pos':Pos}
def mB (a b:D):Bool:=cx a && cx b && j8 (fJ a) (fJ b)
open Classical in
def ip (a b:D):Option Bool:=if mB a b=true then some (eM a b) else if bX 60 a/\bX 60 b then some (lY a b) else none
def eqD (a b:D):Option D:=(ip a b).map .bl
def neD (a b:D):Option D:=(ip a b).map fun c=>.bl (! c)
theorem uH {a b:D} (h:mB a b=false) (h1:bX 60 a) (h2:bX 60 b):ip a b=some (lY a b):=by
 unfold ip
 rw [if_neg (by rw [h]; exact Bool.false_ne_true),if_pos ⟨h1,h2⟩]
theorem IH {a b:D} (h:mB a b=true):ip a b=some (eM a b):=by
 unfold ip
 rw [if_pos h]
@[simp] theorem eqB_int (a b:Int):ip (.int a) (.int b)=some (a == b):=IH rfl
theorem A8 {a b:D} (h:j8 (fJ a) (fJ b)=true) (fa:cx a=true) (fb:cx b=true):decide (fJ a=fJ b)=eM a b:=by
 cases a <;> cases b <;> first
  | exact absurd (show false=true from fa) Bool.false_ne_true
  | exact absurd (show false=true from fb) Bool.false_ne_true
  | exact absurd (show false=true from h) Bool.false_ne_true
  | exact tK
  | exact sF
  | exact tM
  | rfl
  | simp [fJ,eM,io]
def qm (K:W.Frag) (neg:Bool):R2:=fun x y H Q=>∃(G:GH) (d1 d2:D),aP K G H/\RB K G H x d1/\RB K G H y d2/\bX 60 d1/\bX 60 d2/\Q (.bl (if neg then ! lY d1 d2 else lY d1 d2)) H
theorem BR (hu:X.A.units + 64 < cLine):bi X (compareOp .Eq) (qm X.K false):=by
 intro pz s σ H x y v u Q I rx ry h
 obtain ⟨G,d1,d2,gk,r1,r2,s1,s2,q⟩:=h
 obtain ⟨as,h1⟩:=qz I gk 60 d1 x v s1 r1 rx
 obtain ⟨bs,h2⟩:=qz I gk 60 d2 y u s2 r2 ry
 exact SeqAt.compareEq_shaped h1 h2 (qE s1) (qE s2) hu ⟨.bl _,H,I,rfl,q⟩
theorem JP (hu:X.A.units + 64 < cLine):bi X (compareOp .NotEq) (qm X.K true):=by
 intro pz s σ H x y v u Q I rx ry h
 obtain ⟨G,d1,d2,gk,r1,r2,s1,s2,q⟩:=h
 obtain ⟨as,h1⟩:=qz I gk 60 d1 x v s1 r1 rx
 obtain ⟨bs,h2⟩:=qz I gk 60 d2 y u s2 r2 ry
 exact SeqAt.compareNe_shaped h1 h2 (qE s1) (qE s2) hu ⟨.bl _,H,I,rfl,q⟩
theorem eq_cases {a b:D} {c:Bool} (h:ip a b=some c):(mB a b=true/\c=eM a b)\/(bX 60 a/\bX 60 b/\c=lY a b):=by
 unfold ip at h
 split at h
 ·rename_i hs; cases h; exact .inl ⟨hs,rfl⟩
 ·split at h
  ·rename_i hs; cases h; exact .inr ⟨hs.1,hs.2,rfl⟩
  ·cases h
theorem yA {K:W.Frag}:dU K (fun x y H Q=>Dg x y H Q\/qm K false x y H Q) eqD:=by
 intro G H v1 v2 d1 d2 d Q gk r1 r2 e q
 unfold eqD at e
 cases ec:ip d1 d2 with
 | none=>rw [ec] at e; cases e
 | some c=>
  rw [ec] at e
  cases e
  rcases eq_cases ec with ⟨hs,rfl⟩ | ⟨s1,s2,rfl⟩
  ·unfold mB at hs
   rw [Bool.and_eq_true,Bool.and_eq_true] at hs
   obtain ⟨e1,_⟩:=RB.flat r1 gk hs.1.1
   obtain ⟨e2,_⟩:=RB.flat r2 gk hs.1.2
   refine .inl ⟨by rw [e1,e2]; exact hs.2,?_⟩
   rw [e1,e2,A8 hs.2 hs.1.1 hs.1.2]
   exact q _ G H (Grow.refl gk) (.scl (.bl _))
  ·exact .inr ⟨G,d1,d2,gk,r1,r2,s1,s2,q _ G H (Grow.refl gk) (.scl (.bl _))⟩
theorem DI {K:W.Frag}:dU K (fun x y H Q=>Df x y H Q\/qm K true x y H Q) neD:=by
 intro G H v1 v2 d1 d2 d Q gk r1 r2 e q
 unfold neD at e
 cases ec:ip d1 d2 with
 | none=>rw [ec] at e; cases e
 | some c=>
  rw [ec] at e
  cases e
  rcases eq_cases ec with ⟨hs,rfl⟩ | ⟨s1,s2,rfl⟩
  ·unfold mB at hs
   rw [Bool.and_eq_true,Bool.and_eq_true] at hs
   obtain ⟨e1,_⟩:=RB.flat r1 gk hs.1.1
   obtain ⟨e2,_⟩:=RB.flat r2 gk hs.1.2
   refine .inl ⟨by rw [e1,e2]; exact hs.2,?_⟩
   rw [e1,e2,A8 hs.2 hs.1.1 hs.1.2]
   exact q _ G H (Grow.refl gk) (.scl (.bl _))
  ·exact .inr ⟨G,d1,d2,gk,r1,r2,s1,s2,q _ G H (Grow.refl gk) (.scl (.bl _))⟩
theorem xT (hu:X.A.units + 64 < cLine) (ha:SB X g m a fa) (hb:SB X g m b fb):SE X g m (.Compare a [.Eq] [b] pos) (f2 fa fb eqD):=nu (bi.or yF (BR hu)) yA ha hb (iI _)
theorem o7 (hu:X.A.units + 64 < cLine) (ha:SB X g m a fa) (hb:SB X g m b fb):SQ X g m (.Compare a [.Eq] [b] pos) (bq (f2 fa fb eqD)):=jy (bi.or yF (BR hu)) yA ha hb (iI _)
theorem eD (hu:X.A.units + 64 < cLine) (ha:SB X g m a fa) (hb:SB X g m b fb):SQ X g m (.Compare a [.NotEq] [b] pos) (bq (f2 fa fb neD)):=jy (bi.or DP (JP hu)) DI ha hb (iI _)
def nB (fa fb fc:FE) (k k':D->D->Option D):FE:=fun r=>(fa r).bind fun x=>(fb r).bind fun y=>(bZ (k x y)).bind fun z=>(bZ (jn z)).bind fun c=>if c=true then (fc r).bind fun w=>bZ (k' y w) else .ok (.bl false)
def sf (K:W.Frag):R2:=fun x y H Q=>∃l b xs zs,x=.ref l/\y=.ref b/\aZ K H l xs/\aZ K H b zs/\xs.length + zs.length<=sizeLine/\∀p,H p=none->Q (.ref p) (upd H p (.lst (xs++zs)))
theorem AC:bi X (binaryOp .Add) (sf X.K):=by
 intro pz s σ H x y v u Q I rx ry h
 obtain ⟨l,b,xs,zs,rfl,rfl,hH,hB,hz,q⟩:=h
 cases rx
 cases ry
 obtain ⟨its,r,pl,_⟩:=I.list hH
 obtain ⟨its2,r2,pl2,_⟩:=I.list hB
 have l1:=r.length
 have l2:=r2.length
 obtain ⟨⟨cls,dd,data,sl⟩,ho,hc,n,hd⟩:=pl.isList
 obtain ⟨⟨cls2,dd2,data2,sl2⟩,ho2,hc2,n2,hd2⟩:=pl2.isList
 simp only at hc hd hc2 hd2
 subst hc hd hc2 hd2
 have e:its.toArray++its2.toArray=(its++its2).toArray:=by simp
 refine concat_meets ⟨_,ho,rfl⟩ ⟨_,ho2,rfl⟩ noFill_list_add seq_list_add PySem.F.slot_list_add PySem.F.entry_list_add (PySem.F.args_list_add_2 _ _) (list_addW _ _ its.toArray its2.toArray n n2 dd dd2 sl sl2 (by simp; omega)) ⟨ho,ho2,?_⟩
 rw [e]
 exact ⟨.ref _,_,I.lnew (t':=s.toks) (r.append r2) (by rw [List.length_append]; omega),rfl,q _ I.fresh⟩
def addA:D->D->Option D
 | .int a,.int b=>some (.int (a + b))
 | .str a,.str b=>if a.length + b.length<=sizeLine then some (.str (a++b)) else none
 | .lst a,.lst b=>if a.length + b.length<=sizeLine then some (.lst (a++b)) else none
 | .tup (x::a),.tup b=>if (x::a).length + b.length<=sizeLine then some (.tup (x::a++b)) else none
 | _,_=>none
theorem Af {K:W.Frag}:dU K (fun x y H Q=>(∃i j,x=.int i/\y=.int j/\Q (.int (i + j)) H)\/(∃i j,x=.str i/\y=.str j/\i.length + j.length<=sizeLine/\Q (.str (i++j)) H)\/sf K x y H Q\/sg K x y H Q) addA:=by
 intro G H v1 v2 d1 d2 d Q gk r1 r2 e q
 unfold addA at e
 split at e
 ·cases e
  exact .inl ⟨_,_,r1.int gk,r2.int gk,q _ G H (Grow.refl gk) (.scl (.int _))⟩
 ·split at e
  ·rename_i hl
   cases e
   exact .inr (.inl ⟨_,_,r1.str gk,r2.str gk,hl,q _ G H (Grow.refl gk) (.scl (.str _))⟩)
  ·cases e
 ·split at e
  ·rename_i hl
   cases e
   obtain ⟨a,xs,rfl,s1,t1⟩:=r1.lst gk
   obtain ⟨b,ys,rfl,s2,t2⟩:=r2.lst gk
   have l1:=Paired.length t1
   have l2:=Paired.length t2
   exact .inr (.inr (.inl ⟨a,b,xs,ys,rfl,rfl,s1,s2,by omega,fun p hp=>q _ _ _ (Grow.newF gk hp (.lst (.inl cy) (Paired.app t1 t2))) (.ref dE)⟩))
  ·cases e
 ·split at e
  ·rename_i x0 a0 b0 hl
   cases e
   rcases r1 with r1 | ⟨a',_,oo⟩
   ·obtain ⟨a,xs,rfl,s1,t1⟩:=r1.tup gk
    obtain ⟨b,ys,rfl,s2,t2⟩:=r2.tup gk
    have l1:=Paired.length t1
    have l2:=Paired.length t2
    refine .inr (.inr (.inr ⟨a,b,xs,ys,rfl,rfl,s1,s2,?_,by omega,fun hy=>?_,fun _ p hp=>q _ _ _ (Grow.newF gk hp (.tup (.inl cy) (Paired.app t1 t2))) (.ref dE)⟩))
    ·rintro rfl
     cases t1
    ·subst hy
     cases t2
     refine q _ G H (Grow.refl gk) ?_
     rw [List.append_nil]
     exact r1
   ·cases oo.ob
  ·cases e
 ·cases e
theorem cT (ha:SB X g m a fa) (hb:SB X g m b fb):SE X g m (.BinOp a .Add b pos) (f2 fa fb addA):=jO (bi.or zU (bi.or Cg (bi.or AC AD))) Af ha hb
end
end DL
end
namespace DL
open PySem PySem.Spec PyProof.Rows L2
structure DefAt (K:W.Frag) (mg:Str->Option Value) (x:Str) (st:Stmt):Prop where
 ex:∃f fd,mg x=some (.ref f)/\Fun K x x st f fd
structure Callee (P:Program) (w:World) (K:W.Frag) (mg:Str->Option Value) (base:Heap) (x:Str) (ps:List Str) (ds:List Value) (k:Nat) (ro:Bool) (ms:List Md) (F:List D->Res D):Prop where
 ex:∃f fd,mg x=some (.ref f)/\W.keepIn K (.ref f)=true/\jt K fd ps ds/\FnOk P w K mg base bP k f fd ps (j7 K ro ms F)
section
variable {P:Program} {w:World} {K:W.Frag} {mg:Str->Option Value} {base:Heap}
theorem FB {x:Str} {st:Stmt} {N ps:List Str} {k:Nat} {ro:Bool} {ms:List Md} {fs:FS} {m':List Md} (A:DefAt K mg x st) (S:FnScope N ps (az st)) (hms:ms.length=ps.length)
  (hb:∀(kV doc pm:Value) (an:Option Addr) (cdv ct:Value) (us:List Value),us.length=ps.length->bindArgs (W.fnOf x x (jV st) (hX st) (az st) .none kV doc pm an cdv ct) ⟨us,[]⟩=pure (ps.zip us))
  (hbody:∀(f:Addr) (cdv:Value) (A:Around) (outer:List Env) (s:Shared) (H:Hp) (g:GE) (E:XK),Room k (A.deeper (envOfC x (az st) s.heap.objs.size f cdv)) ->
   gb (aU bP P w K mg base N x (az st) f cdv A outer s H E).nox g ro [] (kL N.length ms) (hX st) fs m') :
  Callee P w K mg base x ps [] (k + 1) ro ms fun ds=>aH ro (fs (bG N.length ds)):=by
 obtain ⟨f,fd,h1,F⟩:=A.ex
 exact ⟨f,fd,h1,F.kp,F.binds hb,zI F S hms (hbody f)⟩
structure DefAtD (K:W.Frag) (mg:Str->Option Value) (x:Str) (st:Stmt) (dds:List Value):Prop where
 ex:∃(f T:Addr) (o:Obj) (n:Nat) (oc:Value) (od:Option Addr) (kV doc pm:Value) (an:Option Addr) (cdv ct:Value) (osl:Array (Option Value)),
  mg x=some (.ref f)/\K.lookup T=some o/\o.data=.seq dds.toArray n/\K.lookup f=some ⟨oc,od,.func (W.fnOf x x (jV st) (hX st) (az st) (.ref T) kV doc pm an cdv ct),osl⟩/\W.codeIn K cdv x=true/\W.keepIn K (.ref f)=true
end
section
variable {X:Cx} {g:GE} {m:List Md} {e:Expr} {es:List Expr} {fl:ak->Res (List D)} {k:Nat} {ps:List Str} {F:List D->Res D} {dvs:List V} {ds:List Value} {dds:List D} {x:Str} {p pos:Pos} {i:Nat} {ms ms':List Md}
theorem D4 (c:Callee X.prog X.w X.K X.mg X.base x ps ds k false ms' F) (hr:Room k X.A) (ha:k6 X g m (e::es) ms fl) (hms:ms'=ms++List.replicate dds.length .sh:=by rfl) (hg:Gl X x:=by rfl) (hd:ap dvs ds:=by exact .nil) (hsc:Paired Scl dvs dds:=by exact .nil)
  (hdb:(x == ("__debug__" : Str))=false:=by decide) (he:starEach (e::es) X.env=(false,eval e X.env)::starEach es X.env:=by rfl) (hpl:(backTo pos (starEach es X.env)).any (·.1)=false:=by rfl) :
  SE X g m (.Call (.Name x p) (e::es) [] pos) (aA fl dds F):=by
 subst hms
 obtain ⟨f,fd,h1,h2,h3,h4⟩:=c.ex
 exact Gn h4 hr hg h1 h2 h3 hd hsc ha hdb he hpl
theorem v_ (i:Nat) (hm:m[i]? = some .sh:=by rfl) (hN:X.N[i]? = some x:=by rfl) (hv:f8 X.env.scope x:=by first | exact Or.inl rfl | exact Or.inr (Or.inl rfl) | exact Or.inr (Or.inr rfl)) (hd:(x == ("__debug__" : Str))=false:=by decide) (hcd:(x == ("__classdict__" : Str))=false:=by decide) :
  SE X g m (.Name x p) fun r=>dc r i:=Em i hm hN hv hd hcd
theorem af (i:Nat) (hm:i < m.length:=by decide) (hN:X.N[i]? = some x:=by rfl) (hv:f8 X.env.scope x:=by first | exact Or.inl rfl | exact Or.inr (Or.inl rfl) | exact Or.inr (Or.inr rfl)) (hd:(x == ("__debug__" : Str))=false:=by decide) (hcd:(x == ("__classdict__" : Str))=false:=by decide) :
  SB X g m (.Name x p) fun r=>dc r i:=Go i hm hN hv hd hcd
end
def zX (osc:Scope) (ON:List Str) (sc:Scope) (N':List Str) (nl:Nat) (cap:List Nat):Bool:=
 decide (sc.kind=.function) && sc.names.all (fun y=>decide (y.2≠.cell)) && sc.names.all (fun y=>decide (y.2≠.local) || decide (sc.names.lookup y.1=some .local)) &&
 sc.names.all (fun y=>decide (y.2≠.free) || (decide (osc.names.lookup y.1=some .cell) || decide (osc.names.lookup y.1=some .free))) && decide (N'.length=nl + cap.length) &&
 (List.range cap.length).all fun j=>match N'[nl + j]?,ON[cap.getD j 0]? with
  | some x,some y=>decide (x=y) && decide (sc.names.lookup x=some .free)
  | _,_=>false
theorem c7 {X:Cx} {osc:Scope} {ON:List Str} {sc:Scope} {N':List Str} {nl:Nat} {cap:List Nat} (h1:X.env.scope=osc) (h2:X.N=ON) (h:zX osc ON sc N' nl cap=true):CompSc X sc N' nl cap:=by
 subst h1 h2
 unfold zX at h
 simp only [Bool.and_eq_true,List.all_eq_true,decide_eq_true_eq,Bool.or_eq_true] at h
 obtain ⟨⟨⟨⟨⟨a1,a2⟩,a3⟩,a4⟩,a5⟩,a6⟩:=h
 refine ⟨a1,a2,fun y hy hl=>(a3 y hy).resolve_left fun z=>z hl,fun y hy hf=>(a4 y hy).resolve_left fun z=>z hf,a5,fun j hj=>?_⟩
 have h6:=a6 j (List.mem_range.mpr hj)
 cases e1:N'[nl + j]? with
 | none=>rw [e1] at h6; cases h6
 | some x=>
  cases e2:X.N[cap.getD j 0]? with
  | none=>rw [e1,e2] at h6; cases h6
  | some y=>
   rw [e1,e2] at h6
   simp only [Bool.and_eq_true,decide_eq_true_eq] at h6
   exact ⟨x,rfl,by rw [h6.1],h6.2⟩
section
variable {X:Cx} {g:GE} {m mb:List Md} {e a b c:Expr} {f fa fb fc:FE} {pos pos':Pos}
theorem Kl {R R':R2} {k k':D->D->Option D} (ho:dU X.K R k) (ho':dU X.K R' k') {σ:L2.Ml} {H:Hp} {Q:VK} (h:tE X g m (nB fa fb fc k k') σ H Q):zu R R' (tB X g m fa) (tB X g m fb) (tB X g m fc) σ H Q:=by
 obtain ⟨r,G,si,q⟩:=h
 refine lQ si q fun d1 d2 v1 v2 G2 H2 w r1 r2 q2=>?_
 obtain ⟨z,ez,q3⟩:=cD (bv q2)
 obtain ⟨cc,ec,q4⟩:=cD (bv q3)
 refine ho G2 H2 v1 v2 d1 d2 z _ w.ok r1 r2 ez fun v G3 H3 w3 rv=>?_
 cases z with
 | bl b'=>
  cases ec
  refine ⟨_,rv.bl w3.ok,?_⟩
  cases cc with
  | false=>rw [if_neg Bool.false_ne_true] at q4 ⊢; exact q4 _ G3 H3 (w.trans w3) (.scl (.bl _))
  | true=>
   rw [if_pos rfl] at q4 ⊢
   refine ⟨r,G3,(si.grow w).grow w3,iJ (bv q4) (w.trans w3) fun d3 q5 v3 G4 H4 w4 r3=>?_⟩
   obtain ⟨d,e,q6⟩:=cD q5
   exact ho' G4 H4 v2 v3 d2 d3 d Q w4.ok ((r2.mono w3).mono w4) r3 e fun v G' H' w' z=>q6 v G' H' (((w.trans w3).trans w4).trans w') z
 | _=>cases ec
theorem HZ {σ:L2.Ml} {H:Hp} {Q:Bool->Hp->Prop} (h:tQ X g m (bq f) σ H Q):tE X g m f σ H fun x H'=>∃k,x=.bl k/\Q k H':=by
 obtain ⟨r,G,si,q⟩:=h
 refine ⟨r,G,si,bz (bv q) fun d q1 v G' H' w rv=>?_⟩
 obtain ⟨b,e,q2⟩:=cD q1
 cases d with
 | bl b'=>cases e; exact ⟨_,rv.bl w.ok,q2 G' H' w⟩
 | _=>cases e
theorem Iv {op op':CmpOp} {R R':R2} {k k':D->D->Option D} (hr:bi X (compareOp op) R) (hr':bi X (compareOp op') R') (ho:dU X.K R k) (ho':dU X.K R' k') (ha:SB X g m a fa) (hb:SB X g m b fb) (hc:SB X g m c fc)
  (hm:lastMarks [op,op'] [b,c]=false:=by with_unfolding_all rfl):SQ X g m (.Compare a [op,op'] [b,c] pos) (bq (nB fa fb fc k k')):=PT.imp (Ip hr hr' ha hb hc hm) fun σ H Q h=>Kl ho ho' (HZ h)
theorem DK {K:W.Frag}:dU K (i7 fun i j=>V.bl (decide (i < j))) iM:=jW fun _ _=>.bl _
theorem DJ {K:W.Frag}:dU K (i7 fun i j=>V.bl (decide (i<=j))) nb:=jW fun _ _=>.bl _
end
theorem ce {K:W.Frag} {h:Heap} {mg:Str->Option Value} {x:Str} {st:Stmt} (KX:K.In h) (G:h.Ns mainGlobals mg) {f:Addr} {oc:Value} {od an:Option Addr} {osl:Array (Option Value)} {kV doc pm cdv ct:Value} (a:W.nsIn K mainGlobals x=some (some (.ref f)))
  (l:K.lookup f=some ⟨oc,od,.func (W.fnOf x x (jV st) (hX st) (az st) .none kV doc pm an cdv ct),osl⟩) (c:W.codeIn K cdv x=true) (k:W.keepIn K (.ref f)=true):DefAt K mg x st:=
 ⟨f,_,W.mg_of KX G a,Ee l c k⟩
theorem DR {P:Program} {w:World} {K:W.Frag} {mg:Str->Option Value} {x p:Str} {st:Stmt} {k:Nat} {F:List D->Res D} {fa:Addr} (hfa:mg x=some (.ref fa)) (A:DefAt K mg x st)
  (hb:∀(kV doc pm:Value) (an:Option Addr) (cdv ct:Value) (us:List Value),us.length=[p].length->bindArgs (W.fnOf x x (jV st) (hX st) (az st) .none kV doc pm an cdv ct) ⟨us,[]⟩=pure ([p].zip us))
  (C:∀(f:Addr) (fd:FuncData),Fun K x x st f fd->∀base:Heap,FnOk P w K mg base bP k f fd [p] (j7 K false [.sh] F)) :
  ∃fd:FuncData,(∀(s:Shared) (u:Value),BindsTo s fd ⟨[u],[]⟩ [(p,u)])/\∀base:Heap,K.In base->base.Ns mainGlobals mg->FnOk P w K mg base bP k fa fd [p] (j7 K false [.sh] F):=by
 obtain ⟨f,fd,h1,Fn⟩:=A.ex
 rw [hfa] at h1
 cases h1
 refine ⟨fd,fun s u=>?_,fun base _ _=>C fa fd Fn base⟩
 obtain ⟨oc,od,kV,doc,pm,an,cdv,ct,osl,rfl,lk,hcd⟩:=Fn.ex
 exact .of_eq (hb kV doc pm an cdv ct [u] rfl)
theorem DQ {l:W.OpenLaw} {k:Nat} {q:Program} {loose:List Str} {XP:(Str->Option Value)->Heap->Prop} {YP:World->Heap->Prop} {d:DefRec} {K:Params->W.Frag} {x:Str} {F:List D->Res D} (hn:l.most=some 63) (hdf:d.params.defaults=[]) (hr:Room k callerA)
  (hY:∀(w:World) (h:Heap),YP w h->(K w.params).In h) (hF:∀ns:List Int,ns.length<=63->F [.lst (ns.map .int)]=.ok (.bl true))
  (C:∀(w:World) (mg:Str->Option Value) (fa:Addr) (h:Heap),(K w.params).In h->h.Ns mainGlobals mg->mg d.name=some (.ref fa) ->
   ∃fd:FuncData,(∀(s:Shared) (u:Value),BindsTo s fd ⟨[u],[]⟩ [(x,u)])/\∀base:Heap,(K w.params).In base->base.Ns mainGlobals mg->FnOk l.prog w (K w.params) mg base bP k fa fd [x] (j7 (K w.params) false [.sh] F)) :
  W.WalkO q loose XP YP l.row.toRowW d [] (fun f vs=>PySem.call f vs):=by
 refine L2.j6 (n:=63) (k:=k) (x:=x) (CX:=fun _=>bP) (sp:=fun w=>j7 (K w.params) false [.sh] F) hn (by decide) hdf hr hY C (fun w H a ns hl hO hS=>?_) fun _ _ _ _ _ z=>z
 have intsP:∀(l:List Int),Paired Scl (l.map V.int) (l.map D.int):=fun l=>by
  induction l with
  | nil=>exact .nil
  | cons i l ih=>exact .cons (.int i) ih
 rcases hS with hS | hS
 ·refine ⟨fun b=>if b=a then some (.lst (ns.map D.int)) else none,[.lst (ns.map .int)],fun b d' hb=>?_,.sh (.ref (if_pos rfl)) .nil,?_⟩
  ·by_cases e:b=a
   ·subst e
    have hb':some (D.lst (ns.map D.int))=some d':=(if_pos rfl).symm.trans hb
    cases hb'
    exact .lst hS (Paired.mono (fun _ _ z=>.scl z) (intsP ns))
   ·have hb':(none:Option D)=some d':=(if_neg e).symm.trans hb
    cases hb'
  ·rw [hF ns hl]
   intro v G' H' w' rv
   exact rv.bl w'.ok
 ·refine ⟨fun _=>none,[.lst (ns.map .int)],fun b d' hb=>(by cases hb),.sh (.kc (.lst (.inr hS) (intsP ns))) .nil,?_⟩
  rw [hF ns hl]
  intro v G' H' w' rv
  exact rv.bl w'.ok
section
open AutoSeq1 (wpAny_loadPart')
section
variable {prog:Program} {w:World} {A:Around} {E:Value->Shared->Prop} {s:Shared}
theorem LJ {it t:Addr} {i:Nat} {items} {x:Value} {Q:Value->Shared->Prop} (hit:s.heap.IsTupleIter it t i) (ht:s.heap.IsTuple t items) (hx:items[i]? = some x)
  (hQ:∀h',h'.IsTupleIter it t (i + 1)->Heap.SameBut it s.heap h'->Q x { s with heap:=h' }):wpAny (model prog w) A (Builtin.SmallTypes.nextOf (.ref it)) Q E s:=by
 obtain ⟨o,ho,hc,hd⟩:=id hit
 obtain ⟨ol,hol,_,nl,hdl⟩:=ht
 unfold Builtin.SmallTypes.nextOf
 refine wpAny_bind (wpAny_callSpecial?_slot (name:=Str.ofString "__next__") hit.typeIs F.slot_tuple_iterator_next
  (wpAny_call_entry F.slot_tuple_iterator_next hit.typeIs F.entry_tuple_iterator_next ?_ (F.args_tuple_iterator_next_1 _)))
 show wpAny _ _ (field (.ref it) 0 >>= _) _ _ s
 refine wpAny_bind (wpAny_field ho hd (x:=.ref t) rfl ?_)
 show wpAny _ _ (if (Value.ref t == Value.none)=true then _ else _) _ _ s
 rw [if_neg (show ¬ ((Value.ref t == Value.none)=true) from Bool.false_ne_true)]
 show wpAny _ _ (field (.ref it) 1 >>= _) _ _ s
 refine wpAny_bind (wpAny_field ho hd (x:=.int i 0) rfl ?_)
 show wpAny _ _ (seqItems? (.ref t) >>= _) _ _ s
 refine wpAny_bind (wpAny_seqItems hol hdl ?_)
 simp only [Int.toNat_natCast,hx]
 refine wpAny_bind (wpAny_setField ho hd (by simp) (wpAny_pure ⟨x,rfl,wpAny_pure (hQ _ ?_ (Heap.SameBut.update ..))⟩))
 exact ⟨_,Heap.get?_update_self _ ho (Obj.isFreed_of_fields (Obj.data_mapFields hd _)),(Obj.cls_mapFields ..).trans hc,by
  rw [Obj.data_mapFields hd]; simp [rawInt]⟩
theorem Lz {it t:Addr} {i:Nat} {items} {Q:Value->Shared->Prop} (hh:A.handled=none) (hit:s.heap.IsTupleIter it t i) (ht:s.heap.IsTuple t items) (hx:items[i]? = none)
  (hE:∀h' e,Heap.ExtBut it s.heap h'->(∃o,h'.get? e=some o/\o.cls=.type "StopIteration")->E (.ref e) { s with heap:=h' }):wpAny (model prog w) A (Builtin.SmallTypes.nextOf (.ref it)) Q E s:=by
 obtain ⟨o,ho,hc,hd⟩:=id hit
 obtain ⟨ol,hol,_,nl,hdl⟩:=ht
 unfold Builtin.SmallTypes.nextOf
 refine wpAny_bind (wpAny_callSpecial?_slot (name:=Str.ofString "__next__") hit.typeIs F.slot_tuple_iterator_next
  (wpAny_call_entry F.slot_tuple_iterator_next hit.typeIs F.entry_tuple_iterator_next ?_ (F.args_tuple_iterator_next_1 _)))
 show wpAny _ _ (field (.ref it) 0 >>= _) _ _ s
 refine wpAny_bind (wpAny_field ho hd (x:=.ref t) rfl ?_)
 show wpAny _ _ (if (Value.ref t == Value.none)=true then _ else _) _ _ s
 rw [if_neg (show ¬ ((Value.ref t == Value.none)=true) from Bool.false_ne_true)]
 show wpAny _ _ (field (.ref it) 1 >>= _) _ _ s
 refine wpAny_bind (wpAny_field ho hd (x:=.int i 0) rfl ?_)
 show wpAny _ _ (seqItems? (.ref t) >>= _) _ _ s
 refine wpAny_bind (wpAny_seqItems hol hdl ?_)
 simp only [Int.toNat_natCast,hx]
 refine wpAny_bind (wpAny_rule (wpAny_bind (wpAny_setField ho hd (by simp) ?_)))
 show wpAny _ _ (newExc (.type "StopIteration") [] >>= _) _ _ _
 refine wpAny_bind ?_
 simp only [newExc,newTuple]
 refine wpAny_bind (wpAny_newObj_type ?_ (by size_fits))
 refine wpAny_bind (m:=firstArgMember _ _) (wpAny_of_eq (a:=Value.none) (by first | rfl | (simp only [firstArgMember]; rfl)) ?_)
 refine wpAny_newObj_type ?_ (by size_fits)
 simp only [raiseNew]
 refine wpAny_bind (wpAny_handled ?_)
 first | rw [show A.in1.handled=none from hh] | rw [hh]
 refine wpAny_bind (wpAny_pure (wpAny_throw ?_))
 exact hE _ _ (((Heap.SameBut.update ..).extBut.push _).push _) ⟨_,Heap.get?_push_size _ rfl,rfl⟩
end
theorem sG {prog:Program} {w:World} {A:Around} (hh:A.handled=none) (it l:Addr) (hne:l≠it) (items:Array Value) :
  Draws prog w A it [it,l] items.size (fun i v=>items[i]? = some v) (fun i h=>h.IsTupleIter it l i/\h.IsTuple l items) where
 live:=fun _ _ st=>let ⟨o,ho,_⟩:=st.1; ⟨o,ho⟩
 frame:=fun _ _ _ st hk=>⟨let ⟨o,ho,r⟩:=st.1; ⟨o,hk it (by simp) o ho,r⟩,let ⟨o,ho,r⟩:=st.2; ⟨o,hk l (by simp) o ho,r⟩⟩
 item:=fun i s Q E hi st hQ=>by
  refine LJ st.1 st.2 (x:=items[i]) (by simp [hi]) fun h' hit' hs'=>?_
  exact hQ _ h' s.toks (by simp [hi]) ⟨hit',st.2.extBut hs'.extBut hne⟩ hs'
 done:=fun s Q E st hE=>Lz hh st.1 st.2 (by simp) hE
theorem LC (l:Addr) (items:Array Value) (n:Nat) (dct:Option Addr) (sl:Array (Option Value)) :
  Meets (Builtin.«enumerate.__new__» ⟨[.type "enumerate",.ref l],[]⟩) (fun _ R s=>s.heap.get? l=some { cls:=.type "tuple",dict:=dct,data:=.seq items n,slots:=sl } /\
   R (.ok (.ret (.ref (s.heap.push { cls:=.type "tuple_iterator",data:=.fields #[.ref l,.int 0 0] }).objs.size)))
    { s with heap:=(s.heap.push { cls:=.type "tuple_iterator",data:=.fields #[.ref l,.int 0 0] }).push { cls:=.type "enumerate",data:=.fields #[.none,.bool false,.ref s.heap.objs.size,rawInt 0,.none,.none] } }):=
 .of_wp fun prog w A R s h=>by
  obtain ⟨hp,g,d,tk,os⟩:=s; obtain ⟨hl,h⟩:=h
  have hsub:=sub_enumerate
  have hL:Heap.IsTuple (Shared.heap ⟨hp,g,d,tk,os⟩) l items:=⟨_,hl,rfl,n,rfl⟩
  wp_walk using wpAny_loadPart' hl
  refine wpAny_stack_any fun st=>wpAny_pure ?_
  split
  ·rename_i c _ _ _ _ _
   cases (c == Value.type "enumerate")
   ·wp_walk using wpAny_loadPart' hl,wpAny_pyIter_tuple hL
    exact ⟨_,rfl,h⟩
   ·wp_walk using wpAny_loadPart' hl,wpAny_pyIter_tuple hL
    exact ⟨_,rfl,h⟩
  ·wp_walk using wpAny_loadPart' hl,wpAny_pyIter_tuple hL
   exact ⟨_,rfl,h⟩
section
variable {prog:Program} {w:World} {A:Around} {E:Value->Shared->Prop} {s:Shared}
theorem Me {l:Addr} {items:Array Value} {Q:Value->Shared->Prop} (hL:s.heap.IsTuple l items)
  (h:∀h',IsEnum h' (s.heap.objs.size + 1) s.heap.objs.size 0 .none->h'.IsTupleIter s.heap.objs.size l 0->h'.objs.size=s.heap.objs.size + 2 ->
   (∀b o,s.heap.get? b=some o->h'.get? b=some o)->Q (.ref (s.heap.objs.size + 1)) { s with heap:=h' }) :
  wpAny (model prog w) A (call (.type "enumerate") [.ref l]) Q E s:=by
 obtain ⟨⟨c,dct,dt,sl⟩,hl,hc,n,hd⟩:=hL
 replace hc:c=.type "tuple" := hc
 replace hd:dt=.seq items n:=hd
 subst hc hd
 refine callType_new F.called_enumerate (by decide) (F.typeCall_enumerate_1 _) (F.newCall_enumerate_1 _) (fun obj=>F.args_object_init_2 obj _) F.entry_enumerate_new
  (LC l items n dct sl) ⟨hl,?_⟩
 have hz:(s.heap.push { cls:=.type "tuple_iterator",data:=.fields #[.ref l,.int 0 0] }).objs.size=s.heap.objs.size + 1:=Heap.size_push ..
 show _/\_
 rw [hz]
 have he:IsEnum ((s.heap.push { cls:=.type "tuple_iterator",data:=.fields #[.ref l,.int 0 0] }).push
   { cls:=.type "enumerate",data:=.fields #[.none,.bool false,.ref s.heap.objs.size,rawInt 0,.none,.none] }) (s.heap.objs.size + 1) s.heap.objs.size 0 .none:=by
  have:=Heap.get?_push_size (s.heap.push { cls:=.type "tuple_iterator",data:=.fields #[.ref l,.int 0 0] })
   (o:={ cls:=.type "enumerate",data:=.fields #[.none,.bool false,.ref s.heap.objs.size,rawInt 0,.none,.none] }) rfl
  rw [hz] at this; exact this
 refine ⟨⟨_,he,rfl⟩,h _ he ⟨_,Heap.get?_push_of_some _ (Heap.get?_push_size _ rfl),rfl,rfl⟩ (by rw [Heap.size_push,hz]) fun b o x=>Heap.get?_push_of_some _ (Heap.get?_push_of_some _ x)⟩
end
theorem uN {X:Cx} {pz:List (Addr × Obj)} {σ:L2.Ml} {H:Hp} {s:Shared} {h':Heap} {ch:List Addr} {T:Addr} {o:HO} {t':Nat} (I:Inv X pz σ H s)
  (hch:∀b∈ch,de X pz H b) (k:∀b ob,b∉ch->s.heap.get? b=some ob->h'.get? b=some ob) (hT:s.heap.objs.size<=T) (new:cm X.prog X.w (upd H T o) h' T o):Inv X pz σ (upd H T o) { s with heap:=h',toks:=t' }:=by
 have hTn:H T=none:=I.hok.fresh hT
 have trk:∀b u,H b=some u->b∉ch:=fun b u e hb=>by rw [(hch b hb).1] at e; cases e
 have neT:∀b ob,s.heap.get? b=some ob->b≠T:=fun b ob e=>Nat.ne_of_lt (Nat.lt_of_lt_of_le (Heap.lt_size e) hT)
 have keepU:∀b u,H b=some u->upd H T o b=some u:=fun b u e=>by rw [bH (lF e hTn)]; exact e
 refine I.step (g':=s.gens) (d':=s.drawn) (ch:=ch) (fun b hb=>?_) (fun b ob _ _ hc e _=>k b ob hc e) (fun b ob _ _ hc e _=>⟨ob.slots,k b ob hc e⟩) (fun b ob hc e n=>by rw [bH (neT b ob e)]; exact n)
  (fun b ob hc e=>⟨ob,k b ob hc e⟩) (fun b xs e=>keepU b _ e) (fun b ob u e=>keepU b _ e) (fun b ps e=>⟨#[],by rw [keepU b _ e]; simp⟩) (fun m hm=>?_) (fun b u e=>?_) I.bare
 ·obtain ⟨z0,z1,z2,z3,z4,z5⟩:=hch b hb
  exact ⟨z3,z1,z4,z5⟩
 ·obtain ⟨ob,es,ep,ho,r⟩:=hm
  exact ⟨ob,es,ep,k _ ob (fun hb=>(hch _ hb).2.1 rfl) ho,r⟩
 ·by_cases hb:b=T
  ·subst hb
   rw [cy] at e
   cases e
   exact new
  ·rw [bH hb] at e
   refine (I.hok b u e).stay (fun c v hc q=>k c v ?_ q) (fun c q=>keepU c _ q) fun c xs q=>keepU c _ q
   rcases hc with z | z
   ·rw [z]; exact trk b u e
   ·exact trk c _ z
def k9 (sq:Hp->List V->Prop):It:=
 ⟨fun i H=>∃xs x,sq H xs/\xs[i]? = some x,fun i H x H'=>∃p v,H p=none/\x=.ref p/\H'=upd H p (.tup [.int i,v])/\∀xs,sq H xs->xs[i]? = some v,fun i H=>∃xs,sq H xs/\xs.length=i⟩
theorem Ao {P:Program} {w:World} {H:Hp} {h:Heap} {T:Addr} {i:Nat} {tk:Tok} {x:Value} {v:V} (hT:h.get? T=some { cls:=.type "tuple",data:=.seq #[.int i tk,x] }) (r:L2.aw v x):cm P w H h T (.tup [.int i,v]):=
 ⟨by show 2<=sizeLine; decide,[.int i tk,x],.cons ⟨tk,rfl⟩ (.cons r .nil),⟨_,hT,rfl,0,rfl⟩,_,hT,rfl⟩
theorem KG {P:Program} {w:World} {K:W.Frag} {elts:List Expr} {k:Nat} {pos:Pos} (a it e:Addr) (hei:e≠it):Turn P w K (.Tuple elts k pos) (k9 fun H xs=>aZ K H a xs) [e,it] e (fun i h=>(∃old,IsEnum h e it i old)/\h.IsListIter it a i) where
 mem:=by simp
 obj:=fun i h st b hb=>by
  obtain ⟨⟨old,he⟩,o,ho,hc,hd⟩:=st
  rcases List.mem_cons.mp hb with rfl | hb
  ·exact ⟨_,he,fun v z=>by have z':Data.fields _=Data.cell v:=z; cases z'⟩
  ·rw [List.mem_singleton.mp hb]
   exact ⟨o,ho,fun v z=>by rw [hd] at z; cases z⟩
 keep:=fun i h h' st kk=>by
  obtain ⟨⟨old,he⟩,hi⟩:=st
  exact ⟨⟨old,kk e (by simp) _ he⟩,hi.at fun o q=>kk it (by simp) o q⟩
 item:=by
  intro X hP hw hK hc i pz s σ H E I hf st hg
  subst hP hw hK
  obtain ⟨xs,x,hq,hx⟩:=hg
  obtain ⟨its,rv,p,hz⟩:=I.list hq
  obtain ⟨⟨old,he⟩,hi⟩:=st
  obtain ⟨o1,ho1,hc1,hd1⟩:=id hi
  obtain ⟨o2,ho2,hc2,_⟩:=id p.isList
  have hai:a≠it:=by rintro rfl; rw [ho1] at ho2; cases ho2; rw [hc1] at hc2; exact absurd hc2 (by decide)
  have hea:e≠a:=by rintro rfl; rw [he] at ho2; cases ho2; exact absurd (show Value.type "enumerate" = _ from hc2) (by decide)
  have hlt:i < its.toArray.size:=by
   have:=(List.getElem?_eq_some_iff.mp hx).1
   rw [List.size_toArray,<-rv.length]; exact this
  refine wpAny_pyNext_enum_itemD (Draws.list (A:=X.A.in1) (show X.A.in1.handled=none from I.ok.hd hc) it a hai its.toArray) he ⟨hi,p.isList⟩ hlt hei (by simp [hei,hea]) fun y h' tk hP ho hs' hT hsz hk=>?_
  refine ⟨_,rfl,wpAny_letOwnedTupleGo_enum ho fun h'' he'' hs''=>?_⟩
  obtain ⟨u,hu,ru⟩:=rv.get hx
  have hy:y=u:=by
   have:its[i]? = some y:=by simpa using hP
   rw [hu] at this; exact (Option.some.inj this).symm
  subst hy
  have hTe:s.heap.objs.size≠e:=Nat.ne_of_gt (Heap.lt_size he)
  have hT'':h''.get? s.heap.objs.size=some { cls:=.type "tuple",data:=.seq #[.int i tk,y] }:=(hs''.2 _ hTe).trans hT
  refine ⟨.ref s.heap.objs.size,upd H s.heap.objs.size (.tup [.int i,x]),uN (s:=s) (h':=h'') (t':=tk + 1) (ch:=[e,it]) I hf (fun b ob hb q=>?_) (Nat.le_refl _) (Ao hT'' ru),rfl,⟨_,x,I.hok.fresh (Nat.le_refl _),rfl,rfl,fun ys hy=>by rw [I.list_inj hy hq]; exact hx⟩,⟨⟨_,by simpa using he''⟩,hs'.1.extBut hs''.extBut (Ne.symm hei)⟩,fun b hb=>?_⟩
  ·have hbe:b≠e:=fun z=>hb (by simp [z])
   exact (hs''.2 b hbe).trans (hk b ob hbe (fun z=>hb (by simp [z])) q)
  ·rw [bH ?_]
   ·exact (hf b hb).1
   ·rcases List.mem_cons.mp hb with rfl | hb
    ·exact Nat.ne_of_lt (Heap.lt_size he)
    ·rw [List.mem_singleton.mp hb]; exact Nat.ne_of_lt (Heap.lt_size ho1)
 done:=by
  intro X hP hw hK hc i pz s σ H E I hf st hg
  subst hP hw hK
  obtain ⟨xs,hq,hx⟩:=hg
  obtain ⟨its,rv,p,hz⟩:=I.list hq
  obtain ⟨⟨old,he⟩,hi⟩:=st
  obtain ⟨o1,ho1,hc1,hd1⟩:=id hi
  obtain ⟨o2,ho2,hc2,_⟩:=id p.isList
  have hai:a≠it:=by rintro rfl; rw [ho1] at ho2; cases ho2; rw [hc1] at hc2; exact absurd hc2 (by decide)
  obtain ⟨f0,f1,f2,f3,f4,f5⟩:=hf it (by simp)
  have hn:its.toArray.size=i:=by rw [List.size_toArray,<-rv.length]; exact hx
  refine wpAny_pyNext_enum_endD (Draws.list (A:=X.A.in1) (show X.A.in1.handled=none from I.ok.hd hc) it a hai its.toArray) he ⟨by rw [hn]; exact hi,p.isList⟩ fun h' eb=>⟨rfl,I.turned (t':=s.toks) (fun b o hb q=>eb b o hb q) f0 f1 f3 f4 f5⟩
 self:=fun _ _ _ _ _ st h=>let ⟨⟨_,he⟩,_⟩:=st; wpAny_pyIter_enum he h
theorem IsTupleIter.at' {h h':Heap} {a t:Addr} {i:Nat} (x:h.IsTupleIter a t i) (hs:∀o,h.get? a=some o->h'.get? a=some o):h'.IsTupleIter a t i:=let ⟨o,ho,r⟩:=x; ⟨o,hs o ho,r⟩
theorem KH {P:Program} {w:World} {K:W.Frag} {elts:List Expr} {k:Nat} {pos:Pos} (a it e:Addr) (hei:e≠it):Turn P w K (.Tuple elts k pos) (k9 fun H xs=>ck K H a xs) [e,it] e (fun i h=>(∃old,IsEnum h e it i old)/\h.IsTupleIter it a i) where
 mem:=by simp
 obj:=fun i h st b hb=>by
  obtain ⟨⟨old,he⟩,o,ho,hc,hd⟩:=st
  rcases List.mem_cons.mp hb with rfl | hb
  ·exact ⟨_,he,fun v z=>by have z':Data.fields _=Data.cell v:=z; cases z'⟩
  ·rw [List.mem_singleton.mp hb]
   exact ⟨o,ho,fun v z=>by rw [hd] at z; cases z⟩
 keep:=fun i h h' st kk=>by
  obtain ⟨⟨old,he⟩,hi⟩:=st
  exact ⟨⟨old,kk e (by simp) _ he⟩,IsTupleIter.at' hi fun o q=>kk it (by simp) o q⟩
 item:=by
  intro X hP hw hK hc i pz s σ H E I hf st hg
  subst hP hw hK
  obtain ⟨xs,x,hq,hx⟩:=hg
  obtain ⟨its,rv,p,hz⟩:=I.tuple hq
  obtain ⟨⟨old,he⟩,hi⟩:=st
  obtain ⟨o1,ho1,hc1,hd1⟩:=id hi
  obtain ⟨o2,ho2,hc2,_⟩:=id p
  have hai:a≠it:=by rintro rfl; rw [ho1] at ho2; cases ho2; rw [hc1] at hc2; exact absurd hc2 (by decide)
  have hea:e≠a:=by rintro rfl; rw [he] at ho2; cases ho2; exact absurd (show Value.type "enumerate" = _ from hc2) (by decide)
  have hlt:i < its.toArray.size:=by
   have:=(List.getElem?_eq_some_iff.mp hx).1
   rw [List.size_toArray,<-rv.length]; exact this
  refine wpAny_pyNext_enum_itemD (sG (A:=X.A.in1) (show X.A.in1.handled=none from I.ok.hd hc) it a hai its.toArray) he ⟨hi,p⟩ hlt hei (by simp [hei,hea]) fun y h' tk hP ho hs' hT hsz hk=>?_
  refine ⟨_,rfl,wpAny_letOwnedTupleGo_enum ho fun h'' he'' hs''=>?_⟩
  obtain ⟨u,hu,ru⟩:=rv.get hx
  have hy:y=u:=by
   have:its[i]? = some y:=by simpa using hP
   rw [hu] at this; exact (Option.some.inj this).symm
  subst hy
  have hTe:s.heap.objs.size≠e:=Nat.ne_of_gt (Heap.lt_size he)
  have hT'':h''.get? s.heap.objs.size=some { cls:=.type "tuple",data:=.seq #[.int i tk,y] }:=(hs''.2 _ hTe).trans hT
  refine ⟨.ref s.heap.objs.size,upd H s.heap.objs.size (.tup [.int i,x]),uN (s:=s) (h':=h'') (t':=tk + 1) (ch:=[e,it]) I hf (fun b ob hb q=>?_) (Nat.le_refl _) (Ao hT'' ru),rfl,⟨_,x,I.hok.fresh (Nat.le_refl _),rfl,rfl,fun ys hy=>by rw [I.tuple_inj hy hq]; exact hx⟩,⟨⟨_,by simpa using he''⟩,hs'.1.extBut hs''.extBut (Ne.symm hei)⟩,fun b hb=>?_⟩
  ·have hbe:b≠e:=fun z=>hb (by simp [z])
   exact (hs''.2 b hbe).trans (hk b ob hbe (fun z=>hb (by simp [z])) q)
  ·rw [bH ?_]
   ·exact (hf b hb).1
   ·rcases List.mem_cons.mp hb with rfl | hb
    ·exact Nat.ne_of_lt (Heap.lt_size he)
    ·rw [List.mem_singleton.mp hb]; exact Nat.ne_of_lt (Heap.lt_size ho1)
 done:=by
  intro X hP hw hK hc i pz s σ H E I hf st hg
  subst hP hw hK
  obtain ⟨xs,hq,hx⟩:=hg
  obtain ⟨its,rv,p,hz⟩:=I.tuple hq
  obtain ⟨⟨old,he⟩,hi⟩:=st
  obtain ⟨o1,ho1,hc1,hd1⟩:=id hi
  obtain ⟨o2,ho2,hc2,_⟩:=id p
  have hai:a≠it:=by rintro rfl; rw [ho1] at ho2; cases ho2; rw [hc1] at hc2; exact absurd hc2 (by decide)
  obtain ⟨f0,f1,f2,f3,f4,f5⟩:=hf it (by simp)
  have hn:its.toArray.size=i:=by rw [List.size_toArray,<-rv.length]; exact hx
  refine wpAny_pyNext_enum_endD (sG (A:=X.A.in1) (show X.A.in1.handled=none from I.ok.hd hc) it a hai its.toArray) he ⟨by rw [hn]; exact hi,p⟩ fun h' eb=>⟨rfl,I.turned (t':=s.toks) (fun b o hb q=>eb b o hb q) f0 f1 f3 f4 f5⟩
 self:=fun _ _ _ _ _ st h=>let ⟨⟨_,he⟩,_⟩:=st; wpAny_pyIter_enum he h
end
def kR:D->Option String
 | .non=>some "NoneType"
 | .bl _=>some "bool"
 | .int _=>some "int"
 | .str _=>some "str"
 | .tup _=>some "tuple"
 | .lst _=>some "list"
 | .dic _=>some "dict"
 | .obj _ _=>none
def fQ (t T:String):Bool:=t == T || (t == "bool" && T == "int")
def db (T:String) (d:D):Option D:=(kR d).map fun t=>.bl (fQ t T)
def Dj (K:W.Frag) (x:V) (H:Hp) (t:String):Prop:=match x with
 | .non=>t = "NoneType"
 | .bl _=>t = "bool"
 | .int _=>t = "int"
 | .str _=>t = "str"
 | .ref p=>(t = "list"/\∃xs,aZ K H p xs)\/(t = "tuple"/\∃xs,ck K H p xs)\/(t = "dict"/\∃kvs,Rd H p (.dK kvs))
 | _=>False
theorem F1 {K:W.Frag} {G:GH} {H:Hp} {v:V} {d:D} {t:String} (gk:aP K G H) (h:RB K G H v d) (e:kR d=some t):Dj K v H t:=by
 cases d with
 | non=>cases e; rw [h.non gk]; rfl
 | bl b=>cases e; rw [h.bl gk]; rfl
 | int i=>cases e; rw [h.int gk]; rfl
 | str x=>cases e; rw [h.str gk]; rfl
 | tup ds=>cases e; obtain ⟨a,xs,rfl,s,r⟩:=h.tup gk; exact .inr (.inl ⟨rfl,xs,s⟩)
 | lst ds=>cases e; obtain ⟨a,xs,rfl,s,r⟩:=h.lst gk; exact .inl ⟨rfl,xs,s⟩
 | dic ds=>cases e; obtain ⟨a,xs,rfl,s,r⟩:=h.dic gk; exact .inr (.inr ⟨rfl,xs,s⟩)
 | obj _ _=>cases e
section
variable {X:Cx} {g:GE} {m:List Md} {e a:Expr} {f:FE} {pos p p2:Pos}
theorem Jf:dH X (.builtin "isinstance") (fun xs H Q=>∃x t T b,xs=[x,.ty T]/\Dj X.K x H t/\W.kitOne X.K (.type t) (.type T)=some b/\Q (.bl b) H):=by
 intro pz s σ H xs us Q I r h
 obtain ⟨x,t,T,b,rfl,ty,e,q⟩:=h
 obtain ⟨u,w',rfl,rx,ry⟩:=sB r
 cases ry
 have fin:∀tk,EP X pz σ Q (.bool b) { s with toks:=tk }:=fun tk=>⟨.bl b,H,I.tok tk,rfl,q⟩
 cases x with
 | non=>cases rx; cases (show t = "NoneType" from ty); exact W.kia_one W.kitx_none I.kIn True.intro e (fun z=>nomatch z) fin
 | bl y=>cases rx; cases (show t = "bool" from ty); exact W.kia_one W.kitx_bool I.kIn True.intro e (fun z=>nomatch z) fin
 | int i=>obtain ⟨t,rfl⟩:=rx; cases ty; exact W.kia_one W.kitx_int I.kIn True.intro e (fun z=>nomatch z) fin
 | str i=>obtain ⟨t,rfl⟩:=rx; cases ty; exact W.kia_one W.kitx_str I.kIn True.intro e (fun z=>nomatch z) fin
 | ref p=>
  cases rx
  rcases ty with ⟨rfl,xs,hq⟩ | ⟨rfl,xs,hq⟩ | ⟨rfl,kvs,hq⟩
  ·obtain ⟨its,_,pl,_⟩:=I.list hq
   obtain ⟨o,ho,hc,_⟩:=pl.isList
   exact W.kia_one W.kitx_list I.kIn ⟨o,ho,hc⟩ e (fun z=>nomatch z) fin
  ·obtain ⟨its,_,pl,_⟩:=I.tuple hq
   obtain ⟨o,ho,hc,_⟩:=pl
   exact W.kia_one W.kitx_tuple I.kIn ⟨o,ho,hc⟩ e (fun z=>nomatch z) fin
  ·obtain ⟨_,_,vs,_,pp⟩:=(show cm X.prog X.w H s.heap p (.dK kvs) from hq.ok I.hok)
   obtain ⟨o,es,ep,h1,h2,_⟩:=pp
   exact W.kia_one W.kitx_dict I.kIn ⟨o,h1,h2.1⟩ e (fun z=>nomatch z) fin
 | _=>exact (show False from ty).elim
theorem iT (x:Str) (T:String) (hv:bootBuiltins x=some (.type T)) (hk:∀(d:D) (t:String),kR d=some t->W.kitOne X.K (.type t) (.type T)=some (fQ t T)) (hg:Gl X "isinstance") (hm:X.mg "isinstance" = none) (hgT:Gl X x) (hmT:X.mg x=none) (he:SB X g m e f)
  (hn:x≠"__name__" := by decide) (hd:(x == ("__debug__" : Str))=false:=by decide) (hs1:starEach [e,.Name x p2] X.env=(false,eval e X.env)::starEach [.Name x p2] X.env:=by rfl) (hs2:starEach [.Name x p2] X.env=(false,eval (.Name x p2) X.env)::starEach [] X.env:=by rfl)
  (hpl:(backTo pos (starEach [.Name x p2] X.env)).any (·.1)=false:=by rfl) :
  SE X g m (.Call (.Name "isinstance" p) [e,.Name x p2] [] pos) (f1 f (db T)):=by
 refine PE.imp (lA Jf hg hm (by first | exact PyProof.Rows.boot_isinstance | rfl) (gM he (gM (Hz (v:=.ty T) hgT hmT hv rfl hn hd) iV hs2) hs1) (by decide) (by decide) hs1 hpl) fun σ H Q ⟨r,G,si,q⟩=>⟨r,G,si,bz (bv q) fun d q1 v G1 H1 w1 r1=>?_⟩
 obtain ⟨d',e',q2⟩:=cD q1
 unfold db at e'
 cases et:kR d with
 | none=>rw [et] at e'; cases e'
 | some t=>
  rw [et] at e'
  cases e'
  exact ⟨v,t,T,_,rfl,F1 w1.ok r1 et,hk d t et,q2 _ G1 H1 w1 (.scl (.bl _))⟩
end
theorem uT {d:D} {t:String} (h:kR d=some t) {P:String->Prop} (h1:P "NoneType") (h2:P "bool") (h3:P "int") (h4:P "str") (h5:P "tuple") (h6:P "list") (h7:P "dict"):P t:=by
 cases d <;> cases h <;> assumption
theorem tU (K:W.Frag) (d:D) (t:String) (h:kR d=some t):W.kitOne K (.type t) (.type "int")=some (fQ t "int"):=uT (P:=fun t=>W.kitOne K (.type t) (.type "int")=some (fQ t "int")) h (by kernel_rfl) (by kernel_rfl) (by kernel_rfl) (by kernel_rfl) (by kernel_rfl) (by kernel_rfl) (by kernel_rfl)
theorem uQ (K:W.Frag) (d:D) (t:String) (h:kR d=some t):W.kitOne K (.type t) (.type "bool")=some (fQ t "bool"):=uT (P:=fun t=>W.kitOne K (.type t) (.type "bool")=some (fQ t "bool")) h (by kernel_rfl) (by kernel_rfl) (by kernel_rfl) (by kernel_rfl) (by kernel_rfl) (by kernel_rfl) (by kernel_rfl)
theorem nX (K:W.Frag) (d:D) (t:String) (h:kR d=some t):W.kitOne K (.type t) (.type "tuple")=some (fQ t "tuple"):=uT (P:=fun t=>W.kitOne K (.type t) (.type "tuple")=some (fQ t "tuple")) h (by kernel_rfl) (by kernel_rfl) (by kernel_rfl) (by kernel_rfl) (by kernel_rfl) (by kernel_rfl) (by kernel_rfl)
section
variable {X:Cx} {g:GE} {m:List Md} {e a b:Expr} {f fa:FE} {pos p pos2 p2:Pos} {es:List Expr} {fl:ak->Res (List D)}
def cU (lo:Int) (n:Nat):List V:=(List.range n).map fun (i:Nat)=>V.int (lo + (i:Int))
theorem zj {K:W.Frag} {G:GH} (lo:Int) (n:Nat):bL K G (cU lo n) (cJ lo n):=by
 unfold cU cJ
 induction (List.range n) with
 | nil=>exact .nil
 | cons i l ih=>exact .cons (.scl (.int _)) ih
theorem wF:∀{xs:List V} {us:List Value},xs.length=us.length->(∀(j:Nat) v u,xs[j]? = some v->us[j]? = some u->L2.aw v u)->ap xs us
 | [],[],_,_=>.nil
 | v::xs,u::us,hl,h=>.cons (h 0 v u rfl rfl) (wF (by simpa using hl) fun j a b e1 e2=>h (j + 1) a b (by simpa using e1) (by simpa using e2))
 | [],_::_,hl,_=>by simp at hl
 | _::_,[],hl,_=>by simp at hl
theorem A3 {lo:Int} {n:Nat} {acc:Array Value} (h:ItemsOf (fun i v=>∃t,v=.int (lo + i * 1) t) acc n):ap (cU lo n) acc.toList:=by
 refine wF (by simp [cU,h.1]) fun j v u e1 e2=>?_
 have hj:j < n:=by
  have:=(List.getElem?_eq_some_iff.mp e1).1
  simpa [cU] using this
 unfold cU at e1
 rw [List.getElem?_map,List.getElem?_range hj] at e1
 cases e1
 obtain ⟨t,rfl⟩:=h.2 j u (by rw [<-Array.getElem?_toList]; exact e2)
 exact ⟨t,by simp⟩
theorem JB:dH X (.type "range") (fun xs H Q=>∃j,xs=[.int j]/\∀p,H p=none->Q (.ref p) (upd H p (.rng 0 j))):=by
 intro pz s σ H xs us Q I r h
 obtain ⟨j,rfl,q⟩:=h
 obtain ⟨u,rfl,t,rfl⟩:=fL r
 refine call_range_1 ⟨.ref s.heap.objs.size,_,I.laid (o:=.rng 0 j) (fun b o e=>Heap.get?_push_of_some _ e) (Nat.le_refl _) ⟨_,_,_,Heap.get?_push_size _ rfl⟩,rfl,q _ (I.hok.fresh (Nat.le_refl _))⟩
theorem JC:dH X (.type "range") (fun xs H Q=>∃i j,xs=[.int i,.int j]/\∀p,H p=none->Q (.ref p) (upd H p (.rng i j))):=by
 intro pz s σ H xs us Q I r h
 obtain ⟨i,j,rfl,q⟩:=h
 obtain ⟨u,u',rfl,⟨t,rfl⟩,⟨t',rfl⟩⟩:=sB r
 refine call_range_2 ⟨.ref s.heap.objs.size,_,I.laid (o:=.rng i j) (fun b o e=>Heap.get?_push_of_some _ e) (Nat.le_refl _) ⟨_,_,_,Heap.get?_push_size _ rfl⟩,rfl,q _ (I.hok.fresh (Nat.le_refl _))⟩
theorem Lg (hc:X.calm=true):dH X (.type "list") (fun xs H Q=>∃p lo hi,xs=[.ref p]/\H p=some (.rng lo hi)/\(-(2 ^ 62)<=lo/\lo < 2 ^ 62/\-(2 ^ 62)<=hi/\hi < 2 ^ 62)/\(hi - lo).toNat<=sizeLine/\∀l,H l=none->Q (.ref l) (upd H l (.lst (cU lo (hi - lo).toNat)))):=by
 intro pz s σ H xs us Q I r h
 obtain ⟨p,lo,hi,rfl,hp,⟨h1,h2,h3,h4⟩,hz,q⟩:=h
 obtain ⟨u,rfl,rx⟩:=fL r
 cases rx
 obtain ⟨t,u,v,ho⟩:=(show cm X.prog X.w H s.heap p (.rng lo hi) from I.hok p _ hp)
 have e2:Builtin.Range.rangeSize lo hi 1=(((hi - lo).toNat:Nat):Int):=by rw [rangeSize_one]; split <;> omega
 refine call_list_range (I.ok.hd hc) (r:=p) (a:=lo) (b:=hi) (c:=1) ho (small_one h1 h2 h3 h4) e2 (by rw [sizeLine_eq] at hz; omega) fun h' tk acc c' kp hS hacc=>?_
 refine ⟨.ref s.heap.objs.size,_,I.laid (t':=tk) kp (Nat.le_refl _) (show cm X.prog X.w _ h' _ (.lst (cU lo (hi - lo).toNat)) from ⟨by unfold cU; rw [List.length_map,List.length_range]; exact hz,acc.toList,c',A3 hacc,by rw [Array.toArray_toList]; exact hS⟩),rfl,q _ (I.hok.fresh (Nat.le_refl _))⟩
def kz:List D->Option D
 | [.int j]=>if -(2 ^ 62)<=j/\j < 2 ^ 62/\j.toNat<=sizeLine then some (.lst (cJ 0 j.toNat)) else none
 | _=>none
theorem Ed {H:Hp} {p l:Addr} {o:HO} (h:upd H p o l=none):H l=none/\l≠p:=by
 by_cases e:l=p
 ·subst e; rw [cy] at h; cases h
 ·rw [bH e] at h; exact ⟨h,e⟩
theorem qt (hc:X.calm=true) (hgl:Gl X "list") (hml:X.mg "list" = none) (hg:Gl X "range") (hm:X.mg "range" = none) (ha:g6 X g m [a] fl)
  (hs:starEach [a] X.env=(false,eval a X.env)::starEach [] X.env:=by rfl)
  (hs2:starEach [.Call (.Name "range" p2) [a] [] pos2] X.env=(false,eval (.Call (.Name "range" p2) [a] [] pos2) X.env)::starEach [] X.env:=by rfl) :
  SO X g m (.Call (.Name "list" p) [.Call (.Name "range" p2) [a] [] pos2] [] pos) (fC fl kz):=by
 refine PE.imp (kN (Lg hc) hgl hml rfl (gM (kN JB hg hm boot_range ha (by decide) (by decide) hs rfl) iV hs2) (by decide) (by decide) hs2 rfl) fun σ H Q ⟨r,G,si,q⟩=>⟨r,G,si,bz (bv q) fun ds q1 vs G1 H1 w1 rs=>?_⟩
 obtain ⟨d,e,q2⟩:=cD q1
 unfold kz at e
 split at e
 ·split at e
  ·rename_i j hj
   cases e
   cases rs with
   | cons r1 t=>
    cases t
    refine ⟨j,by rw [r1.int w1.ok],fun p hp=>⟨p,0,j,rfl,cy,⟨by decide,by decide,hj.1,hj.2.1⟩,by simpa using hj.2.2,fun l hl=>?_⟩⟩
    obtain ⟨hl1,hl2⟩:=Ed hl
    have w2:=Grow.new w1.ok hp (.rng 0 j)
    have w3:=Grow.new w2.ok hl (.lst (cU 0 (j - 0).toNat))
    refine q2 l G1 _ (w1.trans (w2.trans w3)) (w1.back hl1) ⟨w1.ok.isN hl1,.lst cy ?_⟩
    rw [show j - 0=j by omega]
    exact zj 0 _
  ·cases e
 ·cases e
end
def yr (K:W.Frag) (r:V->List V->Hp->VK->Prop) (k:D->List D->Option D):Prop:=∀(G:GH) (H:Hp) (v:V) (d:D) (vs:List V) (ds:List D) (d':D) (Q:VK),aP K G H->RB K G H v d->Paired (RB K G H) vs ds->k d ds=some d' ->
 (∀v' G' H',Grow K G H G' H'->RG K G' v' d'->Q v' H')->r v vs H Q
def rO (T:String):D->Bool
 | .lst _=>T == "list"
 | .tup _=>T == "tuple"
 | .dic _=>T == "dict"
 | .str _=>T == "str"
 | .int _=>T == "int"
 | _=>false
theorem F2 {K:W.Frag} {G:GH} {H:Hp} {v:V} {d:D} {T:String} (gk:aP K G H) (h:RB K G H v d) (t:rO T d=true):oO K T v H:=by
 cases d with
 | lst ds=>obtain ⟨a,xs,rfl,s,r⟩:=h.lst gk; exact .inl ⟨eq_of_beq t,xs,s⟩
 | tup ds=>
  have e:T = "tuple" := eq_of_beq t
  rcases h with h | ⟨a,rfl,o⟩
  ·cases h with
   | scl s=>cases s
   | ref q=>
    cases gk _ _ q with
    | tup r s=>exact .inr (.inl ⟨e,.inr ⟨_,r⟩⟩)
   | kc k=>
    cases k with
    | tup r s z=>exact .inr (.inl ⟨e,.inl z⟩)
  ·cases o.ob
 | dic ds=>obtain ⟨a,xs,rfl,s,r⟩:=h.dic gk; exact .inr (.inr (.inl ⟨eq_of_beq t,.inl ⟨xs,s⟩⟩))
 | str x=>rw [h.str gk]; exact eq_of_beq t
 | int x=>rw [h.int gk]; exact eq_of_beq t
 | _=>cases t
def fM (T:String) (fo:FE) (fl:ak->Res (List D)) (k:D->List D->Option D):FE:=fun r=>(fo r).bind fun d=>if rO T d=true then (fl r).bind fun ds=>bZ (k d ds) else .stuck
section
variable {X:Cx} {g:GE} {m mb:List Md} {e a b o:Expr} {es:List Expr} {f fa fb fo:FE} {fl:ak->Res (List D)} {pos pos' apos cpos:Pos} {ro:Bool} {x name:Str} {T id:String} {R:V->List V->Hp->VK->Prop} {k:D->List D->Option D}
theorem ij (pa:PlainAttrs T) (slot:Slot T name id) (hty:typeOf (.builtin id)=pure (.type "method_descriptor")) (hmt:l9 X id R) (hk:yr X.K R k) (ho:SB X g m o fo) (ha:g6 X g m (e::es) fl)
  (hbase:attributeBase o name X.env (eval o X.env)=eval o X.env:=by rfl)
  (hfew:((backTo cpos (starEach (e::es) X.env)).all (fun x=>! x.1) && (backToKw cpos (keywordEach [] X.env)).all (fun x=>x.1.isSome) && decide ((e::es).length + ([]:List Keyword).length + (if ([]:List Keyword).isEmpty then 0 else 1) < 30))=true:=by rfl)
  (hline:(apos.endLine == cpos.line)=true:=by rfl) (hst:starEach (e::es) X.env=(false,eval e X.env)::starEach es X.env:=by rfl) (hplain:(backTo cpos (starEach es X.env)).any (·.1)=false:=by rfl) :
  SE X g m (.Call (.Attribute o name apos) (e::es) [] cpos) (fM T fo fl k):=by
 refine PE.imp (yI pa slot hty hmt ho ha hbase hfew hline hst hplain) fun σ H Q ⟨r,G,si,q⟩=>⟨r,G,si,bz (bv q) fun d q1 v G1 H1 w1 r1=>?_⟩
 by_cases ht:rO T d=true
 ·rw [if_pos ht] at q1
  refine ⟨F2 w1.ok r1 ht,r,G1,si.grow w1,iJ (bv q1) w1 fun ds q2 vs G2 H2 w2 rs=>?_⟩
  obtain ⟨d',e',q3⟩:=cD q2
  exact hk G2 H2 v d vs ds d' Q w2.ok (r1.mono w2) rs e' fun v' G' H' w' z=>q3 v' G' H' ((w1.trans w2).trans w') z
 ·rw [if_neg ht] at q1; exact q1.elim
def ju (x:V):List V->Option Nat
 | []=>none
 | y::xs=>if io y x=true then some 0 else (ju x xs).map (· + 1)
def gJ (x:D):List D->Option Nat
 | []=>none
 | y::xs=>if eM y x=true then some 0 else (gJ x xs).map (· + 1)
theorem uK (x:D):∀ds:List D,ju (fJ x) (ds.map fJ)=gJ x ds
 | []=>rfl
 | y::ds=>by
  show (if io (fJ y) (fJ x)=true then some 0 else (ju (fJ x) (ds.map fJ)).map (· + 1))=if eM y x=true then some 0 else (gJ x ds).map (· + 1)
  rw [uK x ds]; rfl
theorem uJ {x:V} {xs:List V} {us:List Value} {j:Nat} (h0:ap xs us) (f:xs.all fH=true) (h:ju x xs=some j):∃hj:j < us.length,dG x us[j]=true/\∀i (hi:i < us.length),i < j->dG x us[i]=false:=by
 induction h0 generalizing j with
 | nil=>cases h
 | @cons y u xs us r t ih=>
  rw [List.all_cons,Bool.and_eq_true] at f
  unfold ju at h
  by_cases hy:io y x=true
  ·rw [if_pos hy] at h
   cases h
   exact ⟨Nat.zero_lt_succ _,by show dG x u=true; rw [pY r f.1]; exact hy,fun i _ hlt=>absurd hlt (Nat.not_lt_zero _)⟩
  ·rw [if_neg hy] at h
   cases e:ju x xs with
   | none=>rw [e] at h; cases h
   | some z=>
    rw [e] at h
    cases h
    obtain ⟨a,b,c⟩:=ih f.2 e
    refine ⟨Nat.succ_lt_succ a,b,fun i hi hlt=>?_⟩
    cases i with
    | zero=>show dG x u=false; rw [pY r f.1]; simpa using hy
    | succ i=>exact c i (Nat.lt_of_succ_lt_succ hi) (Nat.lt_of_succ_lt_succ hlt)
def Au (K:W.Frag):V->List V->Hp->VK->Prop:=fun x vs H Q=>∃p xs y j,x=.ref p/\vs=[y]/\aZ K H p xs/\fH y=true/\xs.all fH=true/\ju y xs=some j/\Q (.int j) H
def Av (K:W.Frag):V->List V->Hp->VK->Prop:=fun x vs H Q=>∃p xs y j,x=.ref p/\vs=[y]/\ck K H p xs/\fH y=true/\xs.all fH=true/\ju y xs=some j/\Q (.int j) H
theorem BQ:l9 X "list.index" (Au X.K):=by
 intro pz s σ H x vs v us Q I rx rv h
 obtain ⟨p,xs,y,j,rfl,rfl,hq,fy,fx,e,q⟩:=h
 cases rx
 obtain ⟨u,rfl,ru⟩:=fL rv
 obtain ⟨its,r,pl,hz⟩:=I.list hq
 obtain ⟨o,n,ho,hc,hd,hs⟩:=pl
 obtain ⟨a,b,c⟩:=uJ r fx e
 have hl:=r.length
 obtain ⟨ocls,odict,odata,oslots⟩:=o
 simp only at hc hd hs
 subst hc hd hs
 refine call_meets PySem.F.slot_list_index ⟨_,ho,rfl⟩ PySem.F.entry_list_index (PySem.F.args_list_index_2 _ _)
  (SeqAt.list_indexAt p its.toArray n none oslots u (dG y) j (by simpa using a) (by rw [sizeLine_eq] at hz; omega) (by simpa using b) (fun i hi hlt=>by simpa using c i (by simpa using hi) hlt)) ⟨ho,fun w hw=>lz ru fy r fx w (by simpa using hw),⟨.int j,H,I.tok _,⟨_,rfl⟩,q⟩⟩
theorem qH:l9 X "tuple.index" (Av X.K):=by
 intro pz s σ H x vs v us Q I rx rv h
 obtain ⟨p,xs,y,j,rfl,rfl,hq,fy,fx,e,q⟩:=h
 cases rx
 obtain ⟨u,rfl,ru⟩:=fL rv
 obtain ⟨its,r,pl,hz⟩:=I.tuple hq
 obtain ⟨o,ho,hc,n,hs⟩:=pl
 obtain ⟨a,b,c⟩:=uJ r fx e
 have hl:=r.length
 obtain ⟨ocls,odict,odata,oslots⟩:=o
 simp only at hc hs
 subst hc hs
 refine call_meets PySem.F.slot_tuple_index ⟨_,ho,rfl⟩ PySem.F.entry_tuple_index (PySem.F.args_tuple_index_2 _ _)
  (Ly p its.toArray n odict oslots u (dG y) j (by simpa using a) (by simpa using b) (fun i hi hlt=>by simpa using c i (by simpa using hi) hlt)) ⟨ho,fun w hw=>lz ru fy r fx w (by simpa using hw),⟨.int j,H,I.tok _,⟨_,rfl⟩,q⟩⟩
def zM:D->List D->Option D
 | .lst ds,[x]=>if cx x=true/\ds.all cx=true then (gJ x ds).map fun j=>.int j else none
 | .tup ds,[x]=>if cx x=true/\ds.all cx=true then (gJ x ds).map fun j=>.int j else none
 | _,_=>none
theorem Ce {K:W.Frag} {G:GH} {H:Hp} {ds:List D} {xs:List V} {x d':D} {v:V} (gk:aP K G H) (rs:bL K G xs ds) (rx:RB K G H v x) (e:(if cx x=true/\ds.all cx=true then (gJ x ds).map fun j=>D.int j else none)=some d') :
  ∃j:Nat,d'=.int j/\fH v=true/\xs.all fH=true/\ju v xs=some j:=by
 by_cases hc:cx x=true/\ds.all cx=true
 ·rw [if_pos hc] at e
  obtain ⟨e1,f1⟩:=RB.flat rx gk hc.1
  obtain ⟨e3,f3⟩:=yC rs gk hc.2
  cases ef:gJ x ds with
  | none=>rw [ef] at e; cases e
  | some j=>
   rw [ef] at e
   cases e
   exact ⟨j,rfl,f1,f3,by rw [e1,e3,uK]; exact ef⟩
 ·rw [if_neg hc] at e; cases e
def nJ (d:D) (ds:List D):Option D:=match d with
 | .lst _=>zM d ds
 | _=>none
def mI (d:D) (ds:List D):Option D:=match d with
 | .tup _=>zM d ds
 | _=>none
theorem BM {K:W.Frag}:yr K (Au K) nJ:=by
 intro G H v d vs ds d' Q gk rv rs e q
 cases d with
 | lst zs=>
  cases ds with
  | nil=>cases e
  | cons x t=>
   cases t with
   | nil=>
    cases rs with
    | cons r1 rt=>
     cases rt
     obtain ⟨a,xs,rfl,s,r⟩:=rv.lst gk
     obtain ⟨j,rfl,h1,h2,h3⟩:=Ce gk r r1 e
     exact ⟨a,xs,_,j,rfl,rfl,s,h1,h2,h3,q _ G H (Grow.refl gk) (.scl (.int _))⟩
   | cons _ _=>cases e
 | _=>cases e
theorem qG {K:W.Frag}:yr K (Av K) mI:=by
 intro G H v d vs ds d' Q gk rv rs e q
 cases d with
 | tup zs=>
  cases ds with
  | nil=>cases e
  | cons x t=>
   cases t with
   | nil=>
    cases rs with
    | cons r1 rt=>
     cases rt
     obtain ⟨a,xs,rfl,s,r⟩:=rv.tup gk
     obtain ⟨j,rfl,h1,h2,h3⟩:=Ce gk r r1 e
     exact ⟨a,xs,_,j,rfl,rfl,s,h1,h2,h3,q _ G H (Grow.refl gk) (.scl (.int _))⟩
   | cons _ _=>cases e
 | _=>cases e
def kG (xs:List V):Bool:=xs.all fun x=>match x with | .int _=>true | _=>false
theorem Lb {xs:List V} (h:kG xs=true):xs.all fH=true:=by
 unfold kG at h
 rw [List.all_eq_true] at h ⊢
 intro x hx
 have:=h x hx
 cases x <;> first | rfl | exact absurd this Bool.false_ne_true
theorem BP {k:Int} {t:Tok}:∀{xs:List V} {us:List Value},ap xs us->kG xs=true->∀u∈us,MeetsSeq.EqGives u (.int k t) (dG (.int k) u)
 | _,_,.nil,_=>fun u hu=>by cases hu
 | y::xs,u::us,.cons r rt,f=>fun u' hu=>by
  unfold kG at f
  rw [List.all_cons,Bool.and_eq_true] at f
  cases y with
  | int i=>
   obtain ⟨t',rfl⟩:=r
   rcases List.mem_cons.mp hu with rfl | hu
   ·exact MeetsSeq.EqGives.int i k t' t
   ·exact BP rt f.2 u' hu
  | _=>exact absurd f.1 Bool.false_ne_true
def zc:V->List V->Hp->VK->Prop:=fun x vs H Q=>∃l xs k j,x=.ref l/\vs=[.int k]/\H l=some (.lst xs)/\kG xs=true/\ju (.int k) xs=some j/\Q .non (upd H l (.lst (xs.eraseIdx j)))
theorem J5:l9 X "list.remove" zc:=by
 intro pz s σ H x vs v us Q I rx rv h
 obtain ⟨l,xs,k,j,rfl,rfl,hH,hi,e,q⟩:=h
 cases rx
 obtain ⟨u,rfl,t,rfl⟩:=fL rv
 obtain ⟨hz,its,n,r,hl,eo⟩:=I.lstM hH
 obtain ⟨a,b,c⟩:=uJ r (Lb hi) e
 have geq:∀y,y∈its.toArray->MeetsSeq.EqGives y (.int k t) (dG (.int k) y):=fun y hy=>BP r hi y (by simpa using hy)
 have hsz:its.toArray.size<=sizeLine:=by rw [List.size_toArray]; omega
 refine call_meets PySem.F.slot_list_remove ⟨_,eo,rfl⟩ PySem.F.entry_list_remove (PySem.F.args_list_remove_2 _ _) (MeetsSeq.list_remove l its.toArray n (.int k t) (dG (.int k)) geq j (by simpa using a) (by simpa using b) (fun i hi hlt=>by simpa using c i (by simpa using hi) hlt) hsz) ⟨eo,?_⟩
 refine ⟨.non,_,I.lset (its':=its.eraseIdx j) hH eo ?_ ?_ ?_,rfl,q⟩
 ·apply Array.toList_inj.mp
  simp [Array.toList_eraseIdxIfInBounds]
 ·exact ap.eraseIdx j r
 ·have:=List.length_eraseIdx_le xs j
  omega
def isInt:D->Bool
 | .int _=>true
 | _=>false
theorem Fh {K:W.Frag} {G:GH} {H:Hp} {xs:List V} {ds:List D} (h:bL K G xs ds) (gk:aP K G H) (hf:ds.all isInt=true):kG xs=true/\xs=ds.map fJ:=by
 induction h with
 | nil=>exact ⟨rfl,rfl⟩
 | @cons x d xs ds r t ih=>
  rw [List.all_cons,Bool.and_eq_true] at hf
  obtain ⟨h1,h2⟩:=ih hf.2
  cases d with
  | int i=>
   have e:=r.int gk
   subst e
   refine ⟨?_,by rw [List.map_cons,<-h2]; rfl⟩
   show kG _=true
   unfold kG at h1 ⊢
   rw [List.all_cons,h1]; rfl
  | _=>exact absurd hf.1 Bool.false_ne_true
def remD:D->List D->Option D
 | .lst ds,[.int k]=>if ds.all isInt=true then (gJ (.int k) ds).map fun j=>.lst (ds.eraseIdx j) else none
 | _,_=>none
theorem GF {K:W.Frag}:jq K zc remD:=by
 intro G H a d vs ds d' Q gk ow rs e q
 unfold remD at e
 split at e
 ·split at e
  ·rename_i zs k hall
   cases ef:gJ (.int k) zs with
   | none=>rw [ef] at e; cases e
   | some j=>
    rw [ef] at e
    cases e
    cases ow.ob with
    | lst r s=>
     cases rs with
     | cons r1 t=>
      cases t
      obtain ⟨h1,h2⟩:=Fh s gk hall
      refine ⟨a,_,k,j,rfl,by rw [r1.int gk],r,h1,?_,q _ (.lst cy (Paired.er j s))⟩
      rw [h2]
      exact (uK (.int k) zs).trans ef
  ·cases e
 ·cases e
def EC:D->Option D
 | .dic kvs=>some (.lst (kvs.map (·.2)))
 | _=>none
end
def bh:Nat->List D->List D
 | _,[]=>[]
 | i,d::ds=>.tup [.int i,d]::bh (i + 1) ds
theorem nQ:∀(i:Nat) (ds:List D),(bh i ds).length=ds.length
 | _,[]=>rfl
 | i,d::ds=>congrArg (· + 1) (nQ (i + 1) ds)
theorem qv:∀(i j:Nat) (ds:List D),(bh i ds)[j]? = (ds[j]?).map fun d=>D.tup [.int ((i + j:Nat):Int),d]
 | _,_,[]=>by simp [bh]
 | i,0,d::ds=>by simp [bh]
 | i,j + 1,d::ds=>by
  show (bh (i + 1) ds)[j]? = _
  rw [qv (i + 1) j ds]
  simp only [List.getElem?_cons_succ]
  rw [show i + 1 + j=i + (j + 1) by omega]
theorem AV {K:W.Frag} {ds:List D} {G0:GH} {sq:Hp->List V->Prop} (h:∀G H,aJ G0 G->aP K G H->∃xs,sq H xs/\bL K G xs ds):Yields K (k9 sq) (bh 0 ds) G0:=by
 refine ⟨fun G H i w gk hi=>?_,fun G H i x H' d w gk y e=>?_,fun G H w gk=>?_⟩
 ·obtain ⟨xs,s,r⟩:=h G H w gk
  rw [nQ] at hi
  have hl:=Paired.length r
  exact ⟨xs,xs[i],s,List.getElem?_eq_getElem (by omega)⟩
 ·obtain ⟨xs,s,r⟩:=h G H w gk
  obtain ⟨p,v,hp,rfl,rfl,hv⟩:=y
  rw [qv] at e
  cases ed:ds[i]? with
  | none=>rw [ed] at e; cases e
  | some d0=>
   rw [ed] at e
   simp only [Option.map_some,Option.some.injEq,Nat.zero_add] at e
   subst e
   obtain ⟨v',e1,rv⟩:=Paired.get r ed
   have:=hv xs s
   rw [e1] at this; cases this
   exact ⟨_,Grow.newF gk hp (.tup (.inl cy) (.cons (.scl (.int _)) (.cons rv .nil))),.ref dE⟩
 ·obtain ⟨xs,s,r⟩:=h G H w gk
  rw [nQ]
  exact ⟨xs,s,Paired.length r⟩
def dw (f:FE):FI:=fun r=>(f r).bind fun d=>(bZ (bp d)).bind fun ds=>.ok (bh 0 ds)
section
variable {X:Cx} {g:GE} {m:List Md} {e a:Expr} {f:FE} {pos p pos2:Pos} {elts:List Expr} {kk:Nat}
theorem Ap {te:TE} (hg:Gl X "enumerate") (hm:X.mg "enumerate" = none) (he:PE X e te) (hs:starEach [e] X.env=(false,eval e X.env)::starEach [] X.env:=by rfl):PI X (.Tuple elts kk pos2) (.Call (.Name "enumerate" p) [e] [] pos) (fun σ H R=>te σ H fun x H1=>
   (∃a,x=.ref a/\(∃xs,aZ X.K H1 a xs)/\R (k9 fun H xs=>aZ X.K H a xs) H1)\/∃a,x=.ref a/\(∃xs,ck X.K H1 a xs)/\R (k9 fun H xs=>ck X.K H a xs) H1):=by
 intro pz s σ H R I h
 refine Call_ (mE I hg hm boot_enumerate (PyProof.Rows.callWith_type1 (aY (gM he iV hs pos pz s σ H (fun vs H1=>match vs with
  | [x]=>(∃a,x=.ref a/\(∃xs,aZ X.K H1 a xs)/\R (k9 fun H xs=>aZ X.K H a xs) H1)\/∃a,x=.ref a/\(∃xs,ck X.K H1 a xs)/\R (k9 fun H xs=>ck X.K H a xs) H1
  | _=>False) I h) fun us s1 ⟨vs,H1,I1,r1,q1⟩=>?_) hs rfl))
 ·cases r1 with
  | nil=>exact q1.elim
  | @cons x u xs us rx rt=>
  cases rt with
  | cons _ _=>exact q1.elim
  | nil=>
  have fin:∀{h':Heap},h'.objs.size=s1.heap.objs.size + 2->(∀b o,s1.heap.get? b=some o->h'.get? b=some o)->∀b∈[s1.heap.objs.size + 1,s1.heap.objs.size],de X pz H1 b:=fun hz kp b hb=>by
   have hge:s1.heap.objs.size<=b:=by
    rcases List.mem_cons.mp hb with rfl | hb
    ·exact Nat.le_succ _
    ·rw [List.mem_singleton.mp hb]; exact Nat.le_refl _
   exact I1.fpOk hge (I1.hok.fresh hge)
  rcases q1 with ⟨a,rfl,⟨xs,hq⟩,q⟩ | ⟨a,rfl,⟨xs,hq⟩,q⟩
  ·cases rx
   obtain ⟨its,rv,pl,hz⟩:=I1.list hq
   refine call_enumerate_list pl.isList fun h' he hi hsz kp=>wpAny_pyIter_enum he ?_
   exact ⟨_,[s1.heap.objs.size + 1,s1.heap.objs.size],_,_,H1,rfl,I1.kept (t':=s1.toks) kp,KG a _ _ (Nat.ne_of_gt (Nat.lt_succ_self _)),⟨⟨_,he⟩,hi⟩,fin hsz kp,q⟩
  ·cases rx
   obtain ⟨its,rv,pl,hz⟩:=I1.tuple hq
   refine Me (show s1.heap.IsTuple a its.toArray from pl) fun h' he hi hsz kp=>wpAny_pyIter_enum he ?_
   exact ⟨_,[s1.heap.objs.size + 1,s1.heap.objs.size],_,_,H1,rfl,I1.kept (t':=s1.toks) kp,KH a _ _ (Nat.ne_of_gt (Nat.lt_succ_self _)),⟨⟨_,he⟩,hi⟩,fin hsz kp,q⟩
theorem mD (hg:Gl X "enumerate") (hm:X.mg "enumerate" = none) (he:SE X g m e f) (hs:starEach [e] X.env=(false,eval e X.env)::starEach [] X.env:=by rfl):gC X g m (.Tuple elts kk pos2) (.Call (.Name "enumerate" p) [e] [] pos) (dw f):=by
 refine PI.imp (Ap hg hm he hs) fun σ H R ⟨r,G,si,q⟩=>⟨r,G,si,bz (bv q) fun d q v G' H' w rv=>?_⟩
 obtain ⟨ds,e,q⟩:=cD (bv q)
 cases d with
 | lst ds'=>
  cases e
  obtain ⟨a,xs,rfl,s,rs⟩:=rv.lst w.ok
  refine .inl ⟨a,rfl,⟨xs,s⟩,q _ G' H' w (AV fun G H le gk=>?_)⟩
  obtain ⟨b,ys,e,s',r'⟩:=(rv.mono le).lst gk
  cases e
  exact ⟨ys,s',r'⟩
 | tup ds'=>
  cases e
  obtain ⟨a,xs,rfl,s,rs⟩:=rv.tup w.ok
  refine .inr ⟨a,rfl,⟨xs,s⟩,q _ G' H' w (AV fun G H le gk=>?_)⟩
  obtain ⟨b,ys,e,s',r'⟩:=(rv.mono le).tup gk
  cases e
  exact ⟨ys,s',r'⟩
 | _=>cases e
end
inductive TupI (h:Heap):Value->List Int->Prop where
 | mk {a:Addr} {items:Array Value} {ns:List Int}:IsTup h a items->IntsAre items.toList ns->TupI h (.ref a) ns
inductive TupsI (h:Heap):List Value->List (List Int)->Prop where
 | nil:TupsI h [] []
 | cons {p:Value} {k:List Int} {ps:List Value} {ks:List (List Int)}:TupI h p k->TupsI h ps ks->TupsI h (p::ps) (k::ks)
theorem TupsI.length {h:Heap}:∀{ps:List Value} {ks:List (List Int)},TupsI h ps ks->ps.length=ks.length
 | _,_,.nil=>rfl
 | _,_,.cons _ t=>congrArg (· + 1) t.length
section
variable {prog:Program} {w:World} {A:Around} {s:Shared}
inductive TupR (h:Heap):Value->List (List Int)->Prop where
 | mk {a:Addr} {items:List Value} {ks:List (List Int)}:IsTup h a items.toArray->TupsI h items ks->ks≠[]->TupR h (.ref a) ks
end
def gj (ns:List Int):List Int:=ns.foldl step_dedup []
theorem K0 (ns:List Int):firstMet (fun i=>ns.getD i 0) ns.length=gj ns:=by
 unfold firstMet gj
 congr 1
 refine List.ext_getElem (by simp) fun i h1 h2=>?_
 simp [List.getD_eq_getElem?_getD,h2]
def gK:List D->Option (List Int)
 | []=>some []
 | .int i::ds=>(gK ds).map (i::·)
 | _=>none
theorem Bj {K:W.Frag} {G:GH} {H:Hp} (gk:aP K G H) {ds:List D} {xs:List V} {ns:List Int} (h:bL K G xs ds) (e:gK ds=some ns):xs=ns.map V.int:=by
 induction h generalizing ns with
 | nil=>cases e; rfl
 | @cons x d xs ds r t ih=>
  cases d with
  | int i=>
   have e':(gK ds).map (i::·)=some ns:=e
   cases q:gK ds with
   | none=>rw [q] at e'; cases e'
   | some ms=>
    rw [q] at e'
    cases e'
    rw [r.int gk,ih q]; rfl
  | _=>cases e
section
variable {X:Cx} {g:GE} {m:List Md} {e a:Expr} {f:FE} {pos p pos2 p2:Pos}
theorem JD (hc:X.calm=true):dH X (.type "set") (fun xs H Q=>∃p ns,xs=[.ref p]/\(aZ X.K H p (ns.map V.int)\/ck X.K H p (ns.map V.int))/\ns.length + 1 < scanBound/\∀l,H l=none->Q (.ref l) (upd H l (.set (fun k=>(gj ns).any (· == k)) (gj ns).length))):=by
 intro pz s σ H xs us Q I r h
 obtain ⟨p,ns,rfl,hq,hb,q⟩:=h
 obtain ⟨u,rfl,rx⟩:=fL r
 cases rx
 have fin:∀(its:List Value) (h':Heap) (tk:Nat),its.length=ns.length->h'.SetOf (intKind X.prog X.w) s.heap.objs.size (fun k=>(firstMet (fun i=>ns.getD i 0) its.toArray.size).any (· == k)) (firstMet (fun i=>ns.getD i 0) its.toArray.size).length ->
   (∀b o,b < s.heap.objs.size->s.heap.get? b=some o->h'.get? b=some o)->EP X pz σ Q (.ref s.heap.objs.size) { s with heap:=h',toks:=tk }:=fun its h' tk hl hS kp=>by
  rw [show its.toArray.size=ns.length by rw [List.size_toArray]; exact hl,K0] at hS
  exact ⟨.ref s.heap.objs.size,_,I.laid (t':=tk) (fun b o e=>kp b o (Heap.lt_size e) e) (Nat.le_refl _) (show cm X.prog X.w _ h' _ (.set _ _) from hS),rfl,q _ (I.hok.fresh (Nat.le_refl _))⟩
 rcases hq with hq | hq
 ·obtain ⟨its,r',pl,hz⟩:=I.list hq
  have hl:=r'.length
  rw [List.length_map] at hl
  exact call_set_list (I.ok.hd hc) pl.isList (by simpa using vN r') (by rw [List.size_toArray]; omega) fun h' tk hS kp=>fin its h' tk hl.symm hS kp
 ·obtain ⟨its,r',pl,hz⟩:=I.tuple hq
  have hl:=r'.length
  rw [List.length_map] at hl
  exact KW (I.ok.hd hc) (show s.heap.IsTuple p its.toArray from pl) (by simpa using vN r') (by rw [List.size_toArray]; omega) fun h' tk he=>fin its h' tk hl.symm he.1 he.2
theorem JA:dH X (.builtin "len") (fun xs H Q=>∃p S n,xs=[.ref p]/\H p=some (.set S n)/\Q (.int n) H):=by
 intro pz s σ H xs us Q I r h
 obtain ⟨p,S,n,rfl,hp,q⟩:=h
 obtain ⟨u,rfl,rx⟩:=fL r
 cases rx
 obtain ⟨o,es,ep,t,ho,hex,hd,_,_,hb,hf,hn⟩:=(show cm X.prog X.w H s.heap p (.set S n) from I.hok p _ hp)
 refine call_len_set ho hex hd hf ?_ ⟨.int n,H,I.tok _,⟨_,by rw [hn]⟩,q⟩
 have h4:(es.size:Int) < 4096:=by unfold scanBound at hb; omega
 exact Int.lt_of_lt_of_le h4 (by decide)
def sA:D->Option D
 | .lst ds=>(gK ds).bind fun ns=>if ns.length + 1 < scanBound then some (.int (gj ns).length) else none
 | .tup ds=>(gK ds).bind fun ns=>if ns.length + 1 < scanBound then some (.int (gj ns).length) else none
 | _=>none
theorem IB (hc:X.calm=true) (hg:Gl X "len") (hm:X.mg "len" = none) (hgs:Gl X "set") (hms:X.mg "set" = none) (ha:SB X g m a f)
  (hs:starEach [a] X.env=(false,eval a X.env)::starEach [] X.env:=by rfl)
  (hs2:starEach [.Call (.Name "set" p2) [a] [] pos2] X.env=(false,eval (.Call (.Name "set" p2) [a] [] pos2) X.env)::starEach [] X.env:=by rfl) :
  SE X g m (.Call (.Name "len" p) [.Call (.Name "set" p2) [a] [] pos2] [] pos) (f1 f sA):=by
 refine PE.imp (lA JA hg hm PySem.boot_len (gM (kN (JD hc) hgs hms (by first | exact PyProof.Rows.boot_set | rfl) (gM ha iV hs) (by decide) (by decide) hs rfl) iV hs2) (by decide) (by decide) hs2 rfl) fun σ H Q ⟨r,G,si,q⟩=>⟨r,G,si,bz (bv q) fun d q1 v G1 H1 w1 r1=>?_⟩
 obtain ⟨d',e,q2⟩:=cD q1
 have core:∀{ds:List D} {xs:List V} {b:Addr},bL X.K G1 xs ds->v=.ref b->(aZ X.K H1 b xs\/ck X.K H1 b xs)->(gK ds).bind (fun ns=>if ns.length + 1 < scanBound then some (D.int (gj ns).length) else none)=some d' ->
   ∃p ns,[v]=[V.ref p]/\(aZ X.K H1 p (ns.map V.int)\/ck X.K H1 p (ns.map V.int))/\ns.length + 1 < scanBound/\∀l,H1 l=none->∃p S n,[V.ref l]=[V.ref p]/\upd H1 l (.set (fun k=>(gj ns).any (· == k)) (gj ns).length) p=some (.set S n)/\Q (.int n) (upd H1 l (.set (fun k=>(gj ns).any (· == k)) (gj ns).length)):=fun {ds xs b} rs ev hs he=>by
  cases ea:gK ds with
  | none=>rw [ea] at he; cases he
  | some ns=>
   rw [ea] at he
   have he':(if ns.length + 1 < scanBound then some (D.int (gj ns).length) else none)=some d':=he
   by_cases hl:ns.length + 1 < scanBound
   ·rw [if_pos hl] at he'
    cases he'
    have ex:=Bj w1.ok rs ea
    subst ex
    exact ⟨b,ns,by rw [ev],hs,hl,fun l hl'=>⟨l,_,_,rfl,cy,q2 _ G1 _ (w1.trans (Grow.new w1.ok hl' _)) (.scl (.int _))⟩⟩
   ·rw [if_neg hl] at he'; cases he'
 cases d with
 | lst ds=>obtain ⟨b,xs,ev,hs,rs⟩:=r1.lst w1.ok; exact core rs ev (.inl hs) e
 | tup ds=>obtain ⟨b,xs,ev,hs,rs⟩:=r1.tup w1.ok; exact core rs ev (.inr hs) e
 | _=>cases e
end
theorem cm.isS {P:Program} {w:World} {H:Hp} {h:Heap} {a:Addr} {o:HO} (x:cm P w H h a o):h.get? a≠none:=by
 have s:∀{u:Obj},h.get? a=some u->h.get? a≠none:=fun e z=>by rw [z] at e; cases e
 cases o with
 | lst xs=>obtain ⟨_,_,_,_,e⟩:=x; exact s e
 | tup xs=>obtain ⟨_,_,_,⟨_,e,_⟩,_⟩:=x; exact s e
 | dK kvs=>obtain ⟨_,_,_,_,o,_,_,e,_⟩:=x; exact s e
 | dT kvs=>obtain ⟨_,_,_,_,o,_,_,e,_⟩:=x; exact s e
 | set S n=>obtain ⟨o,_,_,_,e,_⟩:=x; exact s e
 | ins C dx fs=>obtain ⟨_,_,_,e,_⟩:=x; exact s e
 | own y=>obtain ⟨_,e⟩:=x; exact s e
 | xd fs=>obtain ⟨_,⟨_,_,_,e,_⟩,_⟩:=x; exact s e
 | rng lo hi=>obtain ⟨_,_,_,e⟩:=x; exact s e
 | frz ob u=>obtain ⟨e,_⟩:=x; exact s e
 | tbl ps=>exact s (show h.get? a=some _ from x)
 | met f y=>exact s (show h.get? a=some _ from x)
 | ext φ=>obtain ⟨_,⟨_,e⟩,_⟩:=x; exact s e
section
variable {X:Cx} {pz:List (Addr × Obj)} {σ:L2.Ml} {H:Hp} {s:Shared}
theorem Hl {h:Heap} {L:Addr} {m m':Str->Option Value} (a:h.Ns L m) (b:h.Ns L m'):m=m':=by
 obtain ⟨o,es,ep,e,d,_,f⟩:=a
 obtain ⟨o',es',ep',e',d',_,f'⟩:=b
 rw [e] at e'; cases e'
 rw [d] at d'; cases d'
 funext x
 rw [<-f,<-f']
end
end DL
namespace DL
open PySem PyProof.Rows PySem.SeqAt PySem.MeetsSeq PySem.MeetsSeq2 PySem.MeetsSeq3 L2
section
open PySem.AutoSeq1 (wpAny_loadPart')
end
end DL
namespace DL
open PySem PyProof.Rows L2
end DL
namespace DL
open PySem PySem.Spec PyProof.Rows L2
section
variable {X:Cx} {pz:List (Addr × Obj)} {σ:L2.Ml} {H:Hp} {s:Shared}
theorem Inv.keptN {h':Heap} (I:Inv X pz σ H s) (k:∀b o,b≠X.env.locals->s.heap.get? b=some o->h'.get? b=some o)
  (hns:∀m,s.heap.Ns X.env.locals m->h'.Ns X.env.locals m) (t':Nat):Inv X pz σ H { s with heap:=h',toks:=t' }:=by
 have trkL:∀b u,H b=some u->b≠X.env.locals:=fun b u e z=>by rw [z,I.free] at e; cases e
 refine I.step (g':=s.gens) (d':=s.drawn) (ch:=[]) (fun b hb=>absurd hb (by simp)) (fun b ob hL _ _ e _=>k b ob hL e) (fun b ob hL _ _ e _=>⟨ob.slots,k b ob hL e⟩) (fun b ob _ e n=>n)
  (fun b ob _ e=>?_) (fun b xs e=>e) (fun b ob u e=>e) (fun b ps e=>⟨#[],by rw [e]; simp⟩) hns (fun b u e=>?_) I.bare
 ·by_cases hb:b=X.env.locals
  ·subst hb
   obtain ⟨m,hn,_⟩:=I.loc
   obtain ⟨o,_,_,ho',_⟩:=hns m hn
   exact ⟨o,ho'⟩
  ·exact ⟨ob,k b ob hb e⟩
 ·refine (I.hok b u e).stay (fun cc v hc q=>k cc v ?_ q) (fun cc q=>q) fun cc xs q=>q
  rcases hc with z | z
  ·rw [z]; exact trkL b u e
  ·exact trkL cc _ z
theorem Inv.keptF {h':Heap} {mF:Str->Option Value} (I:Inv X pz σ H s) (F:Fr X.base X.env.locals s.heap mF) (F':Fr X.base X.env.locals h' mF) (N':News X.base X.env.locals h' (nE X.base s.heap X.env.locals)) (t':Nat):Inv X pz σ H { s with heap:=h',toks:=t' }:=by
 refine Inv.keptN I (fun b o hb e=>?_) (fun m hm=>by rw [Hl hm F.ns]; exact F'.ns) t'
 cases z:X.base.get? b with
 | some o'=>
  have:=I.bk b o' z
  rw [e] at this; cases this
  exact F'.keep b o z
 | none=>exact (N' (b,o) (K1 hb z e)).1
end
section
variable {X:Cx} {g:GE} {m:List Md} {e a b:Expr} {es:List Expr} {fl:ak->Res (List D)} {fa fb:FE} {pos p:Pos}
def zb (K:W.Frag):R2:=fun x y H Q=>∃a b ys,x=.ref a/\y=.ref b/\ck K H a []/\ck K H b ys/\Q (.ref b) H
theorem Hu:bi X (binaryOp .Add) (zb X.K):=by
 intro pz s σ H x y v u Q I rx ry h
 obtain ⟨a,b,ys,rfl,rfl,ha,hb,q⟩:=h
 cases rx
 cases ry
 obtain ⟨its,r1,p1,_⟩:=I.tuple ha
 obtain ⟨its2,r2,p2,_⟩:=I.tuple hb
 cases r1
 obtain ⟨⟨cls,dd,data,sl⟩,ho,hc,n,hd⟩:=id p1
 obtain ⟨⟨cls2,dd2,data2,sl2⟩,ho2,hc2,n2,hd2⟩:=id p2
 simp only at hc hd hc2 hd2
 subst hc hd hc2 hd2
 exact concat_meets ⟨_,ho,rfl⟩ ⟨_,ho2,rfl⟩ noFill_tuple_add seq_tuple_add PySem.F.slot_tuple_add PySem.F.entry_tuple_add (PySem.F.args_tuple_add_2 _ _)
  (tuple_addW0 a b _ _ n n2 dd dd2 sl sl2 rfl) ⟨ho,ho2,⟨.ref b,H,I,rfl,q⟩⟩
def addE:D->D->Option D
 | .tup [],.tup b=>some (.tup b)
 | a,b=>addA a b
theorem Gh {K:W.Frag}:dU K (fun x y H Q=>zb K x y H Q\/((∃i j,x=.int i/\y=.int j/\Q (.int (i + j)) H)\/(∃i j,x=.str i/\y=.str j/\i.length + j.length<=sizeLine/\Q (.str (i++j)) H)\/sf K x y H Q\/sg K x y H Q)) addE:=by
 intro G H v1 v2 d1 d2 d Q gk r1 r2 e q
 unfold addE at e
 split at e
 ·cases e
  rcases r1 with r1 | ⟨a',_,oo⟩
  ·rcases r2 with r2 | ⟨a',_,oo⟩
   ·obtain ⟨a,xs,rfl,s1,t1⟩:=r1.tup gk
    obtain ⟨b,ys,rfl,s2,t2⟩:=r2.tup gk
    cases t1
    exact .inl ⟨a,b,ys,rfl,rfl,s1,s2,q _ G H (Grow.refl gk) r2⟩
   ·cases oo.ob
  ·cases oo.ob
 ·exact .inr (Af G H v1 v2 d1 d2 d Q gk r1 r2 e q)
theorem zn (ha:SB X g m a fa) (hb:SB X g m b fb):SE X g m (.BinOp a .Add b pos) (f2 fa fb addE):=jO (bi.or Hu (bi.or zU (bi.or Cg (bi.or AC AD)))) Gh ha hb
end
end DL
namespace DL
open PySem PyProof.Rows L2
section
open PySem.AutoSeq1 (wpAny_loadPart')
end
end DL
namespace DL
open PySem PyProof.Rows PySem.W
section
variable {n:Nat} {c:Nat->Nat->Bool} (as:∀i j,c i j=true->c j i=false) (tr:∀i j k,c j i=false->c k j=false->c k i=false)
def Le (c:Nat->Nat->Bool) (i j:Nat):Prop:=c j i=false
def ma (c:Nat->Nat->Bool) (i j:Nat):Prop:=Le c i j/\Le c j i
include tr in
theorem ma.trans {i j k:Nat} (h1:ma c i j) (h2:ma c j k):ma c i k:=⟨tr _ _ _ h1.1 h2.1,tr _ _ _ h2.2 h1.2⟩
theorem ma.symm {i j:Nat} (h:ma c i j):ma c j i:=⟨h.2,h.1⟩
include as tr in
include tr in
include as tr in
include as tr in
include as tr in
include as tr in
include as tr in
include as tr in
include as tr in
include as tr in
include as tr in
end
end DL
section
namespace DL
end DL
end
namespace DL
open PySem PySem.Spec PyProof.Rows L2
section
variable {X:Cx} {pz:List (Addr × Obj)} {σ:L2.Ml} {H:Hp} {s:Shared}
theorem Jv (bs:List Bool):((List.range bs.length).all fun i=>bs.getD i true)=bs.all id:=by
 rw [Bool.eq_iff_iff,List.all_eq_true,List.all_eq_true]
 constructor
 ·intro h b hb
  obtain ⟨i,hi,rfl⟩:=List.getElem_of_mem hb
  have:=h i (List.mem_range.mpr hi)
  simpa [List.getD_eq_getElem?_getD,hi] using this
 ·intro h i hi
  have hi:=List.mem_range.mp hi
  have:=h bs[i] (List.getElem_mem _)
  simpa [List.getD_eq_getElem?_getD,hi] using this
theorem Jw (bs:List Bool):((List.range bs.length).any fun i=>bs.getD i true)=bs.any id:=by
 rw [Bool.eq_iff_iff,List.any_eq_true,List.any_eq_true]
 constructor
 ·rintro ⟨i,hi,h⟩
  have hi:=List.mem_range.mp hi
  exact ⟨bs[i],List.getElem_mem _,by simpa [List.getD_eq_getElem?_getD,hi] using h⟩
 ·rintro ⟨b,hb,h⟩
  obtain ⟨i,hi,rfl⟩:=List.getElem_of_mem hb
  exact ⟨i,List.mem_range.mpr hi,by simpa [List.getD_eq_getElem?_getD,hi] using h⟩
theorem B5 (hc:X.calm=true) (I:Inv X pz σ H s) {p:Addr} {bs:List Bool} (hq:aZ X.K H p (bs.map V.bl)) {A:Around} (hA:A.handled=none) {E:Value->Shared->Prop} {Q:Value->Shared->Prop}
  (h:∀I fp wr n P Ml tr it s₂,it=Value.ref I->Walks X.prog X.w A I fp wr n P Ml->Ml 0 s₂.heap->TruthOf X.prog X.w A P tr->n=bs.length->(∀i,tr i=bs.getD i true) ->
   (∀(h':Heap) (tk:Nat),(∀(b:Addr) (o:Obj),¬b∈wr->s₂.heap.get? b=some o->h'.get? b=some o)->Inv X pz σ H { heap:=h',gens:=s₂.gens,drawn:=s₂.drawn,toks:=tk,os:=s₂.os })->Q it s₂) :
  wpAny (model X.prog X.w) A (pyIter (.ref p)) Q E s:=by
 obtain ⟨its,rv,pl,hz⟩:=I.list hq
 have hl:=rv.length
 rw [List.length_map] at hl
 refine PySem.Flt.iter_list_ pl.isList fun s₂ e2 hi hlt hne=>?_
 refine h s.heap.objs.size [s.heap.objs.size,p] [s.heap.objs.size] its.toArray.size _ _ (fun i=>bs.getD i true) _ s₂ rfl (Walks.list hA _ p hne its.toArray) hi ?_ (by rw [List.size_toArray,hl]) (fun i=>rfl) fun h' tk k=>?_
 ·intro i v s' Q' E' hv hq'
  have hv':its[i]? = some v:=by simpa using hv
  have hi:i < its.length:=(List.getElem?_eq_some_iff.mp hv').1
  have hki:i < (bs.map V.bl).length:=by rw [List.length_map]; omega
  obtain ⟨u,h1,h3⟩:=rv.get (i:=i) (x:=(bs.map V.bl)[i]) (List.getElem?_eq_getElem hki)
  rw [hv'] at h1
  cases h1
  rw [List.getElem_map] at h3
  have h3':v=Value.bool bs[i]:=h3
  subst h3'
  have e:bs.getD i true=bs[i]:=by
   have hb:i < bs.length:=by omega
   simp [List.getD_eq_getElem?_getD,hb]
  have hq2:Q' (bs.getD i true) s':=hq'
  rw [e] at hq2
  exact wpAny_pure hq2
 ·subst e2
  have ne:∀b o,s.heap.get? b=some o->¬ b∈[s.heap.objs.size]:=fun b o e z=>by
   have:=List.mem_singleton.mp z
   subst this
   exact absurd (Heap.lt_size e) (Nat.lt_irrefl _)
  exact Inv.keptN I (fun b o _ e=>k b o (ne b o e) (Heap.get?_push_of_some _ e)) (fun m ⟨o,es,ep,e,z⟩=>⟨o,es,ep,k _ _ (ne _ _ e) (Heap.get?_push_of_some _ e),z⟩) tk
theorem Jd (hc:X.calm=true):dH X (.builtin "all") (fun xs H Q=>∃(p:Addr) (bs:List Bool),xs=[.ref p]/\aZ X.K H p (bs.map V.bl)/\Q (.bl (bs.all id)) H):=by
 intro pz s σ H xs us Q I r h
 obtain ⟨p,bs,rfl,hq,q⟩:=h
 obtain ⟨u,rfl,rx⟩:=fL r
 cases rx
 refine call_all_walk (B5 hc I hq (show X.A.in1.handled=none from I.ok.hd hc) fun J fp wr n P Ml tr it s₂ e1 e2 e3 e4 e5 e6 e7=>⟨J,fp,wr,n,P,Ml,tr,e1,e2,e3,e4,fun h' tk k=>?_⟩)
 have et:tr=fun i=>bs.getD i true:=funext e6
 rw [e5,et,Jv]
 exact ⟨.bl (bs.all id),H,e7 h' tk k,rfl,q⟩
theorem Je (hc:X.calm=true):dH X (.builtin "any") (fun xs H Q=>∃(p:Addr) (bs:List Bool),xs=[.ref p]/\aZ X.K H p (bs.map V.bl)/\Q (.bl (bs.any id)) H):=by
 intro pz s σ H xs us Q I r h
 obtain ⟨p,bs,rfl,hq,q⟩:=h
 obtain ⟨u,rfl,rx⟩:=fL r
 cases rx
 refine call_any_walk (B5 hc I hq (show X.A.in1.handled=none from I.ok.hd hc) fun J fp wr n P Ml tr it s₂ e1 e2 e3 e4 e5 e6 e7=>⟨J,fp,wr,n,P,Ml,tr,e1,e2,e3,e4,fun h' tk k=>?_⟩)
 have et:tr=fun i=>bs.getD i true:=funext e6
 rw [e5,et,Jw]
 exact ⟨.bl (bs.any id),H,e7 h' tk k,rfl,q⟩
end
def iD:List D->Option (List Bool)
 | []=>some []
 | .bl b::ds=>(iD ds).map (b::·)
 | _=>none
theorem Ah {K:W.Frag} {G:GH} {H:Hp} (gk:aP K G H) {ds:List D} {xs:List V} {bs:List Bool} (h:bL K G xs ds) (e:iD ds=some bs):xs=bs.map V.bl:=by
 induction h generalizing bs with
 | nil=>cases e; rfl
 | @cons x d xs ds r t ih=>
  cases d with
  | bl b=>
   have e':(iD ds).map (b::·)=some bs:=e
   cases e1:iD ds with
   | none=>rw [e1] at e'; cases e'
   | some bs'=>
    rw [e1] at e'; cases e'
    rw [ih e1,List.map_cons,(RG.rb (H:=H) r).bl gk]
  | _=>cases e
def allD:List D->Option D
 | [.lst ds]=>(iD ds).map fun bs=>.bl (bs.all id)
 | _=>none
def anyD:List D->Option D
 | [.lst ds]=>(iD ds).map fun bs=>.bl (bs.any id)
 | _=>none
theorem DY {K:W.Frag}:lh K (fun xs H Q=>∃(p:Addr) (bs:List Bool),xs=[.ref p]/\aZ K H p (bs.map V.bl)/\Q (.bl (bs.all id)) H) allD:=by
 intro G H vs ds d Q gk rs e q
 unfold allD at e
 split at e
 ·rename_i zs
  cases ek:iD zs with
  | none=>rw [ek] at e; cases e
  | some bs=>
   rw [ek] at e; cases e
   cases rs with
   | cons r1 t=>
    cases t
    obtain ⟨b,xs,rfl,s,r⟩:=r1.lst gk
    have ex:=Ah gk r ek
    subst ex
    exact ⟨b,bs,rfl,s,q _ G H (Grow.refl gk) (.scl (.bl _))⟩
 ·cases e
theorem D3 {K:W.Frag}:lh K (fun xs H Q=>∃(p:Addr) (bs:List Bool),xs=[.ref p]/\aZ K H p (bs.map V.bl)/\Q (.bl (bs.any id)) H) anyD:=by
 intro G H vs ds d Q gk rs e q
 unfold anyD at e
 split at e
 ·rename_i zs
  cases ek:iD zs with
  | none=>rw [ek] at e; cases e
  | some bs=>
   rw [ek] at e; cases e
   cases rs with
   | cons r1 t=>
    cases t
    obtain ⟨b,xs,rfl,s,r⟩:=r1.lst gk
    have ex:=Ah gk r ek
    subst ex
    exact ⟨b,bs,rfl,s,q _ G H (Grow.refl gk) (.scl (.bl _))⟩
 ·cases e
section
variable {X:Cx} {g:GE} {m:List Md} {e:Expr} {es:List Expr} {fl:ak->Res (List D)} {pos p:Pos}
theorem ER (hc:X.calm=true) (hg:Gl X "all") (hm:X.mg "all" = none) (ha:g6 X g m (e::es) fl) (he:starEach (e::es) X.env=(false,eval e X.env)::starEach es X.env:=by rfl) (hpl:(backTo pos (starEach es X.env)).any (·.1)=false:=by rfl) :
  SE X g m (.Call (.Name "all" p) (e::es) [] pos) (fC fl allD):=ii DY (lA (Jd hc) hg hm PyProof.Rows.boot_all ha (by decide) (by decide) he hpl)
theorem yU (hc:X.calm=true) (hg:Gl X "any") (hm:X.mg "any" = none) (ha:g6 X g m (e::es) fl) (he:starEach (e::es) X.env=(false,eval e X.env)::starEach es X.env:=by rfl) (hpl:(backTo pos (starEach es X.env)).any (·.1)=false:=by rfl) :
  SE X g m (.Call (.Name "any" p) (e::es) [] pos) (fC fl anyD):=ii D3 (lA (Je hc) hg hm PyProof.Rows.boot_any ha (by decide) (by decide) he hpl)
end
def kx (h0 H:Hp):Prop:=∀a o,h0 a=some o->H a=some o
structure YieldsB (K:W.Frag) (h0:Hp) (J:It) (ds:List D) (G0:GH):Prop where
 go:∀G H (i:Nat),aJ G0 G->aP K G H->kx h0 H->i < ds.length->J.go i H
 yld:∀G H (i:Nat) x H' d,aJ G0 G->aP K G H->kx h0 H->J.yld i H x H'->ds[i]? = some d->∃G',Grow K G H G' H'/\RG K G' x d
 stop:∀G H,aJ G0 G->aP K G H->kx h0 H->J.stop ds.length H
theorem Yields.toH {K:W.Frag} {h0:Hp} {J:It} {ds:List D} {G0:GH} (y:Yields K J ds G0):YieldsB K h0 J ds G0:=
 ⟨fun G H i w gk _ hi=>y.go G H i w gk hi,fun G H i x H' d w gk _ q e=>y.yld G H i x H' d w gk q e,fun G H w gk _=>y.stop G H w gk⟩
def LV (X:Cx) (g:GE) (m:List Md) (f:FI):TI:=fun σ H R=>∃r G,SI X g m r G σ H/\fin (f r) (fun ds=>∀J G' H',Grow X.K G H G' H'->YieldsB X.K g.h0 J ds G'->R J H') (XW X σ G H)
def l7 (X:Cx) (g:GE) (m:List Md) (tg iter:Expr) (f:FI):Prop:=PI X tg iter (LV X g m f)
def LX (X:Cx) (g:GE) (m:List Md) (f:FE):TE:=fun σ H Q=>∃r G,SI X g m r G σ H/\fin (f r) (fun d=>∀v G' H',Grow X.K G H G' H'->Bw X.K g.h0 G' H' v d->Q v H') (XW X σ G H)
def yq (X:Cx) (g:GE) (m:List Md) (e:Expr) (f:FE):Prop:=PE X e (LX X g m f)
section
variable {X:Cx} {g:GE} {m m' mb:List Md} {tg e a iter:Expr} {f:FE} {pos p pos2:Pos} {ro:Bool} {sts:List Stmt} {s1:FS} {elts:List Expr} {kk:Nat}
theorem rN (i:Nat) {x:Str} (hm:m[i]? = some .bw:=by rfl) (hN:X.N[i]? = some x:=by rfl) (hv:f8 X.env.scope x:=by first | exact Or.inl rfl | exact Or.inr (Or.inl rfl) | exact Or.inr (Or.inr rfl)) (hd:(x == ("__debug__" : Str))=false:=by decide) (hcd:(x == ("__classdict__" : Str))=false:=by decide) :
  yq X g m (.Name x pos) fun r=>dc r i:=by
 refine PE.imp (jE hN hv hd hcd) fun σ H Q ⟨r,G,si,q⟩=>?_
 obtain ⟨d,e,k⟩:=uI q
 obtain ⟨v,e1,e2⟩:=si.bw i d e hm
 exact ⟨v,e1,k _ G H (Grow.refl si.gok) e2⟩
theorem Am {K:W.Frag} {h0:Hp} {G0 G:GH} {H0 H:Hp} {a:Addr} {ds:List D} (o:Own K G0 H0 a (.lst ds)) (h:h0 a≠none) (o0:kx h0 H0) (le:aJ G0 G) (o1:kx h0 H):∃xs,aZ K H a xs/\bL K G xs ds:=by
 cases e:h0 a with
 | none=>exact absurd e h
 | some u=>
  have h1:=o0 a u e
  have h2:=o1 a u e
  cases o.ob with
  | lst r s=>
   rw [h1] at r
   cases r
   exact ⟨_,aZ.of h2,bL.mono s le⟩
theorem F8 {K:W.Frag} {h0:Hp} {ds:List D} {G0:GH} {a:Addr} (h:∀G H,aJ G0 G->aP K G H->kx h0 H->∃xs,aZ K H a xs/\bL K G xs ds):YieldsB K h0 (pE K a) ds G0:=by
 refine ⟨fun G H i w gk o hi=>?_,fun G H i x H' d w gk o y e=>?_,fun G H w gk o=>?_⟩
 ·obtain ⟨xs,s,r⟩:=h G H w gk o
  have hl:=Paired.length r
  exact ⟨xs,xs[i],s,List.getElem?_eq_getElem (by omega)⟩
 ·obtain ⟨xs,s,r⟩:=h G H w gk o
  obtain ⟨rfl,y⟩:=y
  obtain ⟨v,e1,rv⟩:=Paired.get r e
  have:=y xs s
  rw [e1] at this; cases this
  exact ⟨G,Grow.refl gk,rv⟩
 ·obtain ⟨xs,s,r⟩:=h G H w gk o
  exact ⟨xs,s,Nat.le_of_eq (Paired.length r)⟩
theorem SI.oldIn {r:ak} {G:GH} {st:L2.Ml} {H:Hp} (s:SI X g m r G st H):kx g.h0 H:=s.old
theorem zL (h:yq X g m e f):l7 X g m tg e (aC bp f):=by
 refine PI.imp (sN h) fun σ H R ⟨r,G,si,q⟩=>⟨r,G,si,bz (bv q) fun d q v G' H' w rv=>?_⟩
 obtain ⟨ds,e,q⟩:=cD q
 cases d with
 | lst ds'=>
  cases e
  rcases rv with rv | ⟨a,rfl,o,ho⟩
  ·obtain ⟨a,xs,rfl,s,rs⟩:=rv.lst w.ok
   exact .inl ⟨a,rfl,⟨xs,s⟩,q _ G' H' w (tH rv).toH⟩
  ·cases o.ob with
   | lst r s=>exact .inl ⟨a,rfl,⟨_,aZ.of r⟩,q _ G' H' w (F8 fun G2 H2 le _ o2=>Am o ho (si.grow w).oldIn le o2)⟩
 | tup ds'=>
  cases e
  rcases rv with rv | ⟨a,rfl,o,ho⟩
  ·obtain ⟨a,xs,rfl,s,rs⟩:=rv.tup w.ok
   exact .inr ⟨a,rfl,⟨xs,s⟩,q _ G' H' w (tm rv).toH⟩
  ·cases o.ob
 | _=>cases e
theorem tF {K:W.Frag} {h0:Hp} {ds:List D} {G0:GH} {sq:Hp->List V->Prop} (h:∀G H,aJ G0 G->aP K G H->kx h0 H->∃xs,sq H xs/\bL K G xs ds):YieldsB K h0 (k9 sq) (bh 0 ds) G0:=by
 refine ⟨fun G H i w gk o hi=>?_,fun G H i x H' d w gk o y e=>?_,fun G H w gk o=>?_⟩
 ·obtain ⟨xs,s,r⟩:=h G H w gk o
  rw [nQ] at hi
  have hl:=Paired.length r
  exact ⟨xs,xs[i],s,List.getElem?_eq_getElem (by omega)⟩
 ·obtain ⟨xs,s,r⟩:=h G H w gk o
  obtain ⟨p,v,hp,rfl,rfl,hv⟩:=y
  rw [qv] at e
  cases ed:ds[i]? with
  | none=>rw [ed] at e; cases e
  | some d0=>
   rw [ed] at e
   simp only [Option.map_some,Option.some.injEq,Nat.zero_add] at e
   subst e
   obtain ⟨v',e1,rv⟩:=Paired.get r ed
   have:=hv xs s
   rw [e1] at this; cases this
   exact ⟨_,Grow.newF gk hp (.tup (.inl cy) (.cons (.scl (.int _)) (.cons rv .nil))),.ref dE⟩
 ·obtain ⟨xs,s,r⟩:=h G H w gk o
  rw [nQ]
  exact ⟨xs,s,Paired.length r⟩
theorem AG (hg:Gl X "enumerate") (hm:X.mg "enumerate" = none) (he:yq X g m e f) (hs:starEach [e] X.env=(false,eval e X.env)::starEach [] X.env:=by rfl):l7 X g m (.Tuple elts kk pos2) (.Call (.Name "enumerate" p) [e] [] pos) (dw f):=by
 refine PI.imp (Ap hg hm he hs) fun σ H R ⟨r,G,si,q⟩=>⟨r,G,si,bz (bv q) fun d q v G' H' w rv=>?_⟩
 obtain ⟨ds,e,q⟩:=cD (bv q)
 cases d with
 | lst ds'=>
  cases e
  rcases rv with rv | ⟨a,rfl,o,ho⟩
  ·obtain ⟨a,xs,rfl,s,rs⟩:=rv.lst w.ok
   refine .inl ⟨a,rfl,⟨xs,s⟩,q _ G' H' w (tF fun G H le gk _=>?_)⟩
   obtain ⟨b,ys,e,s',r'⟩:=(rv.mono le).lst gk
   cases e
   exact ⟨ys,s',r'⟩
  ·cases o.ob with
   | lst r s=>exact .inl ⟨a,rfl,⟨_,aZ.of r⟩,q _ G' H' w (tF fun G2 H2 le _ o2=>Am o ho (si.grow w).oldIn le o2)⟩
 | tup ds'=>
  cases e
  rcases rv with rv | ⟨a,rfl,o,ho⟩
  ·obtain ⟨a,xs,rfl,s,rs⟩:=rv.tup w.ok
   refine .inr ⟨a,rfl,⟨xs,s⟩,q _ G' H' w (tF fun G H le gk _=>?_)⟩
   obtain ⟨b,ys,e,s',r'⟩:=(rv.mono le).tup gk
   cases e
   exact ⟨ys,s',r'⟩
  ·cases o.ob
 | _=>cases e
theorem pW (hp:PassesOwn (model X.prog X.w) X.A X.env X.xe) (hc:X.calm=true) {ft:FT} {fi:FI} (hi:l7 X g m tg iter fi) (hg:SG X g m tg ft m) (hb:gb X g ro m m sts s1 m)
  (hs:∀x,foldedSetIterable iter X.env x=pure x:=by intro _; rfl):SS X g ro mb m (.For tg iter sts [] pos) (cI m fi ft s1) m:=by
 refine ⟨rfl,PS.imp (pT hp hc hi hg.2 hb.2 hs) fun D σ H ⟨r,G,si,q⟩=>⟨r,G,si,bz (hW si rfl q) fun ds q J G0 H0 w0 Y=>?_⟩⟩
 refine ⟨fun i n σ H=>∃r G,SI X g m r G σ H/\aJ G0 G/\i<=ds.length/\n=ds.length - i/\cf X g ro m mb G D (aE ft s1 (ds.drop i) r),⟨ds.length,r,G0,si.grow w0,aJ.refl G0,Nat.zero_le _,rfl,cf.gle q w0.ge⟩,?_⟩
 rintro i n σ1 H1 ⟨r1,G1,si1,le1,hi,rfl,q1⟩
 by_cases hlt:i < ds.length
 ·have hd:ds.drop i=ds[i]::ds.drop (i + 1):=List.drop_eq_getElem_cons hlt
  rw [hd] at q1
  unfold aE at q1
  refine .inr ⟨Y.go G1 H1 i le1 si1.gok si1.oldIn hlt,fun σ' H'=>∃r G,SI X g m r G σ' H'/\aJ G0 G/\cf X g ro m mb G D (aE ft s1 (ds.drop (i + 1)) r),fun σ' H' ⟨r',G',si',le',q'⟩=>⟨ds.length - (i + 1),by omega,r',G',si',le',hlt,rfl,q'⟩,fun x H' y=>?_⟩
  obtain ⟨G',w',rv⟩:=Y.yld G1 H1 i x H' ds[i] le1 si1.gok si1.oldIn y (List.getElem?_eq_getElem hlt)
  have le':aJ G0 G':=le1.trans w'.ge
  cases eft:ft ds[i] r1 with
  | none=>simp only [eft] at q1; exact q1.elim
  | some r2=>
   simp only [eft] at q1
   refine ⟨r1,G',ds[i],si1.grow w',rv,r2,eft,fun σ2 si2=>⟨r2,G',si2,?_⟩⟩
   cases eb:s1 r2 with
   | nx r'=>simp only [eb] at q1; exact fun σ3 G3 H3 le3 si3=>⟨r',G3,si3,le'.trans le3,cf.gle q1 (aJ.trans w'.ge le3)⟩
   | ct r'=>simp only [eb] at q1; exact fun σ3 G3 H3 le3 si3=>⟨r',G3,si3,le'.trans le3,cf.gle q1 (aJ.trans w'.ge le3)⟩
   | bk r'=>simp only [eb] at q1; exact fun σ3 G3 H3 le3 si3=>q1 σ3 G3 H3 (aJ.trans w'.ge le3) si3
   | rt d=>simp only [eb] at q1; exact q1
   | exc x r'=>simp only [eb] at q1; exact fun pz e s' σ3 G3 H3 le3=>q1 pz e s' σ3 G3 H3 (aJ.trans w'.ge le3)
   | stuck=>simp only [eb] at q1; exact q1
 ·have e:i=ds.length:=by omega
  subst e
  rw [List.drop_length] at q1
  exact .inl ⟨Y.stop G1 H1 le1 si1.gok si1.oldIn,q1 σ1 G1 H1 (aJ.refl _) si1⟩
end
section
open HT (sIx)
end
section
open AutoSeq1 (wpAny_loadPart')
structure ZA (zp ti to u1 u2:Addr) (f1 f2:List Addr):Prop where
 a1:ti≠zp
 a2:to≠zp
 a3:u1≠zp
 a4:u2≠zp
 a5:to≠u1
 a6:to≠u2
 a7:u1≠u2
 a8:ti≠to/\ti≠u1/\ti≠u2
 b1:zp∉f1/\to∉f1/\u2∉f1
 b2:zp∉f2/\to∉f2/\u1∉f2
theorem _root_.PySem.Draws.at' {prog:Program} {w:World} {A:Around} {it:Addr} {fp:List Addr} {n:Nat} {P:Nat->Value->Prop} {Ml:Nat->Heap->Prop} (D:Draws prog w A it fp n P Ml) {i:Nat} {h h':Heap} {c:Addr} (st:Ml i h) (e:Heap.ExtBut c h h') (hc:c∉fp):Ml i h':=
 D.frame i h h' st fun b hb o q=>e b o (by rintro rfl; exact hc hb) q
section
variable {prog:Program} {w:World} {A:Around} {E:Value->Shared->Prop} {s:Shared} {zp ti to u1 u2:Addr} {f1 f2:List Addr} {n1 n2:Nat} {P1 P2:Nat->Value->Prop} {St1 St2:Nat->Heap->Prop} {p q:Value}
theorem Kw {i:Nat} {Q:Value->Shared->Prop} (Z:ZA zp ti to u1 u2 f1 f2) (D1:Draws prog w A u1 f1 n1 P1 St1) (D2:Draws prog w A u2 f2 n2 P2 St2) (hz:IsZip s.heap zp ti to .none) (hi:IsPair s.heap ti (.ref u1) (.ref u2)) (ho:IsPair s.heap to p q)
  (s1:St1 i s.heap) (s2:St2 i s.heap) (l1:i < n1) (l2:i < n2)
  (hQ:∀x y h' tk,P1 i x->P2 i y->IsZip h' zp ti to (rawInt s.heap.objs.size)->IsPair h' to x y->St1 (i + 1) h'->St2 (i + 1) h'->IsPair h' s.heap.objs.size x y->h'.objs.size=s.heap.objs.size + 1 ->
   (∀c o,c≠zp->c≠to->c≠u1->c≠u2->s.heap.get? c=some o->h'.get? c=some o)->Q (.ref s.heap.objs.size) { s with heap:=h',toks:=tk }) :
  wpAny (model prog w) A (Builtin.«zip.__next__» ⟨[.ref zp],[]⟩) (fun fin s'=>∃v,fin=.done (.ret v)/\Q v s') E s:=by
 show wpAny _ _ (field (.ref zp) 2 >>= _) _ _ _
 refine wpAny_bind (wpAny_field hz rfl (x:=.bool false) rfl ?_)
 show wpAny _ _ (field (.ref zp) 3 >>= _) _ _ _
 refine wpAny_bind (wpAny_field hz rfl (x:=.ref ti) rfl (wpAny_bind (wpAny_seqItems hi rfl ?_)))
 show wpAny _ _ (Builtin.SmallTypes.ownedTupleIsFree (.ref zp) >>= _) _ _ _
 refine wpAny_bind ?_
 unfold Builtin.SmallTypes.ownedTupleIsFree
 refine wpAny_bind (wpAny_field hz rfl (x:=.none) rfl (wpAny_pure ?_))
 simp only [if_true]
 refine wpAny_bind (wpAny_rule (wpAny_bind (wpAny_field hz rfl (x:=.ref to) rfl (wpAny_bind (wpAny_setField_rec hz (by simp) fun g1 hz1 k1=>?_)))))
 replace hz1:IsZip g1 zp ti to .ellipsis:=hz1
 refine wpAny_bind ?_
 simp only [List.zipIdx_cons,List.zipIdx_nil,List.forIn_cons,List.forIn_nil]
 refine wpAny_bind (wpAny_bind (wpAny_onRaise ?_))
 show wpAny _ _ (Builtin.SmallTypes.nextOf (.ref u1) >>= _) _ _ _
 refine wpAny_bind (D1.item i _ _ _ l1 (D1.at' s1 k1.extBut Z.b1.1) fun x g2 t2 px st1 k2=>wpAny_pure ?_)
 have ho2:IsPair g2 to p q:=k2.extBut _ _ Z.a5 (k1.extBut _ _ Z.a2 ho)
 refine wpAny_bind (wpAny_seqItems ho2 rfl (wpAny_bind (wpAny_updateSeq_pair ho2 fun g3 ho3 k3=>?_)))
 replace ho3:IsPair g3 to x q:=ho3
 refine wpAny_bind (wpAny_letGo (wpAny_pure ?_))
 refine wpAny_bind (wpAny_bind (wpAny_onRaise ?_))
 show wpAny _ _ (Builtin.SmallTypes.nextOf (.ref u2) >>= _) _ _ _
 refine wpAny_bind (D2.item i _ _ _ l2 (D2.at' (D2.at' (D2.at' s2 k1.extBut Z.b2.1) k2.extBut Z.b2.2.2) k3.extBut Z.b2.2.1) fun y g4 t4 py st2 k4=>wpAny_pure ?_)
 have ho4:IsPair g4 to x q:=k4.extBut _ _ Z.a6 ho3
 refine wpAny_bind (wpAny_seqItems ho4 rfl (wpAny_bind (wpAny_updateSeq_pair ho4 fun g5 ho5 k5=>?_)))
 replace ho5:IsPair g5 to x y:=ho5
 refine wpAny_bind (wpAny_letGo (wpAny_pure (wpAny_pure ?_)))
 refine wpAny_bind (wpAny_seqItems ho5 rfl (wpAny_bind (wpAny_newTuple ?_)))
 have hsz:g5.objs.size=s.heap.objs.size:=by rw [k5.1,k4.1,k3.1,k2.1,k1.1]
 have hz5:IsZip g5 zp ti to .ellipsis:=k5.extBut _ _ Z.a2.symm (k4.extBut _ _ Z.a4.symm (k3.extBut _ _ Z.a2.symm (k2.extBut _ _ Z.a3.symm hz1)))
 have st15:St1 (i + 1) g5:=D1.at' (D1.at' (D1.at' st1 k3.extBut Z.b1.2.1) k4.extBut Z.b1.2.2) k5.extBut Z.b1.2.1
 have st25:St2 (i + 1) g5:=D2.at' st2 k5.extBut Z.b2.2.1
 have hzlt:zp < g5.objs.size:=Heap.lt_size hz5
 show wpAny _ _ (Builtin.SmallTypes.ownedTupleHandOut (.ref zp) (.ref g5.objs.size) >>= _) _ _ _
 refine wpAny_bind ?_
 unfold Builtin.SmallTypes.ownedTupleHandOut
 have hz6:IsZip (g5.push { cls:=.type "tuple",data:=.seq #[x,y] }) zp ti to .ellipsis:=Heap.get?_push_of_some _ hz5
 refine wpAny_bind (wpAny_setField_rec hz6 (by simp) fun g7 hz7 k7=>?_)
 replace hz7:IsZip g7 zp ti to (rawInt g5.objs.size):=hz7
 refine wpAny_setField_rec hz7 (by simp) fun g8 hz8 k8=>?_
 replace hz8:IsZip g8 zp ti to (rawInt g5.objs.size):=hz8
 have up:∀c o,c≠zp->g5.get? c=some o->g8.get? c=some o:=fun c o c1 e=>k8.extBut _ _ c1 (k7.extBut _ _ c1 (Heap.get?_push_of_some _ e))
 have hT8:IsPair g8 g5.objs.size x y:=k8.extBut _ _ (Nat.ne_of_gt hzlt) (k7.extBut _ _ (Nat.ne_of_gt hzlt) (Heap.get?_push_size _ rfl))
 have sz8:g8.objs.size=g5.objs.size + 1:=by rw [k8.1,k7.1,Heap.size_push]
 rw [hsz] at hz8 hT8 sz8
 refine wpAny_pure ⟨_,rfl,?_⟩
 show Q (.ref g5.objs.size) _
 rw [hsz]
 refine hQ x y g8 _ px py hz8 (up _ _ Z.a2 ho5) (D1.frame _ _ _ st15 fun b hb o e=>up b o (by rintro rfl; exact Z.b1.1 hb) e) (D2.frame _ _ _ st25 fun b hb o e=>up b o (by rintro rfl; exact Z.b2.1 hb) e) hT8 sz8 fun c o c1 c2 c3 c4 e=>up c o c1 ?_
 exact k5.extBut _ _ c2 (k4.extBut _ _ c4 (k3.extBut _ _ c2 (k2.extBut _ _ c3 (k1.extBut _ _ c1 e))))
theorem JI {i:Nat} {Q:Fin->Shared->Prop} (Z:ZA zp ti to u1 u2 f1 f2) (D1:Draws prog w A u1 f1 n1 P1 St1) (D2:Draws prog w A u2 f2 n2 P2 St2) (hz:IsZip s.heap zp ti to .none) (hi:IsPair s.heap ti (.ref u1) (.ref u2)) (ho:IsPair s.heap to p q)
  (s1:St1 i s.heap) (s2:St2 i s.heap) (hend:i=n1\/(i < n1/\i=n2))
  (hE:∀h' e tk,(∀c o,c≠zp->c≠to->c≠u1->c≠u2->s.heap.get? c=some o->h'.get? c=some o)->(∃o,h'.get? e=some o/\o.cls=.type "StopIteration")->E (.ref e) { s with heap:=h',toks:=tk }) :
  wpAny (model prog w) A (Builtin.«zip.__next__» ⟨[.ref zp],[]⟩) Q E s:=by
 show wpAny _ _ (field (.ref zp) 2 >>= _) _ _ _
 refine wpAny_bind (wpAny_field hz rfl (x:=.bool false) rfl ?_)
 show wpAny _ _ (field (.ref zp) 3 >>= _) _ _ _
 refine wpAny_bind (wpAny_field hz rfl (x:=.ref ti) rfl (wpAny_bind (wpAny_seqItems hi rfl ?_)))
 show wpAny _ _ (Builtin.SmallTypes.ownedTupleIsFree (.ref zp) >>= _) _ _ _
 refine wpAny_bind ?_
 unfold Builtin.SmallTypes.ownedTupleIsFree
 refine wpAny_bind (wpAny_field hz rfl (x:=.none) rfl (wpAny_pure ?_))
 simp only [if_true]
 refine wpAny_bind (wpAny_rule (wpAny_bind (wpAny_field hz rfl (x:=.ref to) rfl (wpAny_bind (wpAny_setField_rec hz (by simp) fun g1 hz1 k1=>?_)))))
 replace hz1:IsZip g1 zp ti to .ellipsis:=hz1
 refine wpAny_bind ?_
 simp only [List.zipIdx_cons,List.zipIdx_nil,List.forIn_cons,List.forIn_nil]
 refine wpAny_bind (wpAny_bind (wpAny_onRaise ?_))
 show wpAny _ _ (Builtin.SmallTypes.nextOf (.ref u1) >>= _) _ _ _
 rcases hend with hend | ⟨hlt,hend⟩
 ·subst hend
  refine wpAny_bind (D1.done _ _ _ (D1.at' s1 k1.extBut Z.b1.1) fun g2 e k2 he=>?_)
  obtain ⟨oe,hoe,hce⟩:=he
  have hz2:IsZip g2 zp ti to .ellipsis:=k2 _ _ Z.a3.symm hz1
  have hez:e≠zp:=fun x=>by subst x; rw [hz2] at hoe; cases hoe; simp at hce
  exact wpAny_setField_rec hz2 (by simp) fun g3 _ k3=>hE g3 e _ (fun c o c1 _ c3 _ x=>k3.extBut _ _ c1 (k2 _ _ c3 (k1.extBut _ _ c1 x))) ⟨oe,k3.extBut _ _ hez hoe,hce⟩
 ·subst hend
  refine wpAny_bind (D1.item _ _ _ _ hlt (D1.at' s1 k1.extBut Z.b1.1) fun x g2 t2 px st1 k2=>wpAny_pure ?_)
  have ho2:IsPair g2 to p q:=k2.extBut _ _ Z.a5 (k1.extBut _ _ Z.a2 ho)
  refine wpAny_bind (wpAny_seqItems ho2 rfl (wpAny_bind (wpAny_updateSeq_pair ho2 fun g3 ho3 k3=>?_)))
  refine wpAny_bind (wpAny_letGo (wpAny_pure ?_))
  refine wpAny_bind (wpAny_bind (wpAny_onRaise ?_))
  show wpAny _ _ (Builtin.SmallTypes.nextOf (.ref u2) >>= _) _ _ _
  refine wpAny_bind (D2.done _ _ _ (D2.at' (D2.at' (D2.at' s2 k1.extBut Z.b2.1) k2.extBut Z.b2.2.2) k3.extBut Z.b2.2.1) fun g4 e k4 he=>?_)
  obtain ⟨oe,hoe,hce⟩:=he
  have hz4:IsZip g4 zp ti to .ellipsis:=k4 _ _ Z.a4.symm (k3.extBut _ _ Z.a2.symm (k2.extBut _ _ Z.a3.symm hz1))
  have hez:e≠zp:=fun x=>by subst x; rw [hz4] at hoe; cases hoe; simp at hce
  exact wpAny_setField_rec hz4 (by simp) fun g5 _ k5=>hE g5 e _ (fun c o c1 c2 c3 c4 x=>k5.extBut _ _ c1 (k4 _ _ c4 (k3.extBut _ _ c2 (k2.extBut _ _ c3 (k1.extBut _ _ c1 x))))) ⟨oe,k5.extBut _ _ hez hoe,hce⟩
theorem K7 {i:Nat} {Q:Option Value->Shared->Prop} (Z:ZA zp ti to u1 u2 f1 f2) (D1:Draws prog w A.in1 u1 f1 n1 P1 St1) (D2:Draws prog w A.in1 u2 f2 n2 P2 St2) (hz:IsZip s.heap zp ti to .none) (hi:IsPair s.heap ti (.ref u1) (.ref u2)) (ho:IsPair s.heap to p q)
  (s1:St1 i s.heap) (s2:St2 i s.heap) (l1:i < n1) (l2:i < n2)
  (hQ:∀x y h' tk,P1 i x->P2 i y->IsZip h' zp ti to (rawInt s.heap.objs.size)->IsPair h' to x y->St1 (i + 1) h'->St2 (i + 1) h'->IsPair h' s.heap.objs.size x y->h'.objs.size=s.heap.objs.size + 1 ->
   (∀c o,c≠zp->c≠to->c≠u1->c≠u2->s.heap.get? c=some o->h'.get? c=some o)->Q (some (.ref s.heap.objs.size)) { s with heap:=h',toks:=tk }) :
  wpAny (model prog w) A (pyNext (.ref zp)) Q E s:=by
 have hT:s.TypeIs (.ref zp) "zip" := ⟨_,hz,rfl⟩
 unfold pyNext
 exact wpAny_bind (wpAny_attempt (wpAny_callSpecial?_slot (name:=Str.ofString "__next__") hT F.slot_zip_next (wpAny_call_entry F.slot_zip_next hT F.entry_zip_next
   (Kw Z D1 D2 hz hi ho s1 s2 l1 l2 fun x y h' tk b1 b2 b3 b4 b5 b6 b7 b8 b9=>wpAny_pure (hQ x y h' tk b1 b2 b3 b4 b5 b6 b7 b8 b9)) (F.args_zip_next_1 _))))
theorem Lu {i:Nat} {Q:Option Value->Shared->Prop} (Z:ZA zp ti to u1 u2 f1 f2) (D1:Draws prog w A.in1 u1 f1 n1 P1 St1) (D2:Draws prog w A.in1 u2 f2 n2 P2 St2) (hz:IsZip s.heap zp ti to .none) (hi:IsPair s.heap ti (.ref u1) (.ref u2)) (ho:IsPair s.heap to p q)
  (s1:St1 i s.heap) (s2:St2 i s.heap) (hend:i=n1\/(i < n1/\i=n2)) (hQ:∀h' tk,(∀c o,c≠zp->c≠to->c≠u1->c≠u2->s.heap.get? c=some o->h'.get? c=some o)->Q none { s with heap:=h',toks:=tk }) :
  wpAny (model prog w) A (pyNext (.ref zp)) Q E s:=by
 have hT:s.TypeIs (.ref zp) "zip" := ⟨_,hz,rfl⟩
 unfold pyNext
 refine wpAny_bind (wpAny_attempt (wpAny_callSpecial?_slot (name:=Str.ofString "__next__") hT F.slot_zip_next (wpAny_call_entry F.slot_zip_next hT F.entry_zip_next (JI Z D1 D2 hz hi ho s1 s2 hend fun h' e tk hk he=>?_) (F.args_zip_next_1 _))))
 obtain ⟨o,ho,hc⟩:=he
 exact wpAny_bind (wpAny_isInstance (T := "StopIteration") (b:=true) ⟨o,ho,hc⟩ isSubtype_stop (wpAny_pure (hQ _ _ hk)))
end
abbrev gT (c:String) (l:Addr):Obj:={ cls:=.type c,data:=.fields #[.ref l,.int 0 0] }
abbrev qD (h:Heap) (c1 c2:String) (l1 l2:Addr):Heap:=(h.push (gT c1 l1)).push (gT c2 l2)
abbrev qC (h:Heap) (c1 c2:String) (l1 l2:Addr):Heap:=(qD h c1 c2 l1 l2).push { cls:=.type "tuple",data:=.seq #[.ref h.objs.size,.ref (h.push (gT c1 l1)).objs.size] }
abbrev jS (h:Heap) (c1 c2:String) (l1 l2:Addr):Heap:=(qC h c1 c2 l1 l2).push { cls:=.type "tuple",data:=.seq #[.none,.none] }
abbrev iU (h:Heap) (c1 c2:String) (l1 l2:Addr):Heap:=(jS h c1 c2 l1 l2).push { cls:=.type "zip",data:=.fields #[.none,.bool false,.bool false,.ref (qD h c1 c2 l1 l2).objs.size,.ref (qC h c1 c2 l1 l2).objs.size] }
theorem Be {h:Heap} {a:Addr} {xs:Array Value} (x:h.IsTuple a xs) (o:Obj):(h.push o).IsTuple a xs:=let ⟨u,hu,r⟩:=x; ⟨u,Heap.get?_push_of_some _ hu,r⟩
theorem JY (l1 l2:Addr) (xs ys:Array Value):Meets (Builtin.«zip.__new__» ⟨[.type "zip",.ref l1,.ref l2],[]⟩) (fun _ R s=>s.heap.IsList l1 xs/\s.heap.IsList l2 ys /\
   R (.ok (.ret (.ref (jS s.heap "list_iterator" "list_iterator" l1 l2).objs.size))) { s with heap:=iU s.heap "list_iterator" "list_iterator" l1 l2 }):=
 .of_wp fun prog w A R s h=>by
  obtain ⟨hp,gg,dd,tk,os⟩:=s; obtain ⟨q1,q2,h⟩:=h
  have hsub:=sub_zip
  have e1:Heap.IsList (Shared.heap ⟨hp,gg,dd,tk,os⟩) l1 xs:=q1
  have e2:Heap.IsList (Shared.heap ⟨hp.push (gT "list_iterator" l1),gg,dd,tk,os⟩) l2 ys:=Heap.IsList.push q2 _
  wp_walk using wpAny_pyIter_list e1,wpAny_pyIter_list e2
  exact ⟨_,rfl,h⟩
theorem J0 (l1 l2:Addr) (xs ys:Array Value):Meets (Builtin.«zip.__new__» ⟨[.type "zip",.ref l1,.ref l2],[]⟩) (fun _ R s=>s.heap.IsTuple l1 xs/\s.heap.IsList l2 ys /\
   R (.ok (.ret (.ref (jS s.heap "tuple_iterator" "list_iterator" l1 l2).objs.size))) { s with heap:=iU s.heap "tuple_iterator" "list_iterator" l1 l2 }):=
 .of_wp fun prog w A R s h=>by
  obtain ⟨hp,gg,dd,tk,os⟩:=s; obtain ⟨q1,q2,h⟩:=h
  have hsub:=sub_zip
  have e1:Heap.IsTuple (Shared.heap ⟨hp,gg,dd,tk,os⟩) l1 xs:=q1
  have e2:Heap.IsList (Shared.heap ⟨hp.push (gT "tuple_iterator" l1),gg,dd,tk,os⟩) l2 ys:=Heap.IsList.push q2 _
  wp_walk using wpAny_pyIter_tuple e1,wpAny_pyIter_list e2
  exact ⟨_,rfl,h⟩
theorem J2 (l1 l2:Addr) (xs ys:Array Value):Meets (Builtin.«zip.__new__» ⟨[.type "zip",.ref l1,.ref l2],[]⟩) (fun _ R s=>s.heap.IsTuple l1 xs/\s.heap.IsTuple l2 ys /\
   R (.ok (.ret (.ref (jS s.heap "tuple_iterator" "tuple_iterator" l1 l2).objs.size))) { s with heap:=iU s.heap "tuple_iterator" "tuple_iterator" l1 l2 }):=
 .of_wp fun prog w A R s h=>by
  obtain ⟨hp,gg,dd,tk,os⟩:=s; obtain ⟨q1,q2,h⟩:=h
  have hsub:=sub_zip
  have e1:Heap.IsTuple (Shared.heap ⟨hp,gg,dd,tk,os⟩) l1 xs:=q1
  have e2:Heap.IsTuple (Shared.heap ⟨hp.push (gT "tuple_iterator" l1),gg,dd,tk,os⟩) l2 ys:=Be q2 _
  wp_walk using wpAny_pyIter_tuple e1,wpAny_pyIter_tuple e2
  exact ⟨_,rfl,h⟩
theorem JZ (l1 l2:Addr) (xs ys:Array Value):Meets (Builtin.«zip.__new__» ⟨[.type "zip",.ref l1,.ref l2],[]⟩) (fun _ R s=>s.heap.IsList l1 xs/\s.heap.IsTuple l2 ys /\
   R (.ok (.ret (.ref (jS s.heap "list_iterator" "tuple_iterator" l1 l2).objs.size))) { s with heap:=iU s.heap "list_iterator" "tuple_iterator" l1 l2 }):=
 .of_wp fun prog w A R s h=>by
  obtain ⟨hp,gg,dd,tk,os⟩:=s; obtain ⟨q1,q2,h⟩:=h
  have hsub:=sub_zip
  have e1:Heap.IsList (Shared.heap ⟨hp,gg,dd,tk,os⟩) l1 xs:=q1
  have e2:Heap.IsTuple (Shared.heap ⟨hp.push (gT "list_iterator" l1),gg,dd,tk,os⟩) l2 ys:=Be q2 _
  wp_walk using wpAny_pyIter_list e1,wpAny_pyIter_tuple e2
  exact ⟨_,rfl,h⟩
section
variable {prog:Program} {w:World} {A:Around} {E:Value->Shared->Prop} {s:Shared}
def iy (s:Shared) (c1 c2:String) (l1 l2:Addr) (Q:Value->Shared->Prop):Prop:=
 ∀h',IsZip h' (s.heap.objs.size + 4) (s.heap.objs.size + 2) (s.heap.objs.size + 3) .none->IsPair h' (s.heap.objs.size + 2) (.ref s.heap.objs.size) (.ref (s.heap.objs.size + 1)) ->
   IsPair h' (s.heap.objs.size + 3) .none .none->h'.get? s.heap.objs.size=some (gT c1 l1)->h'.get? (s.heap.objs.size + 1)=some (gT c2 l2) ->
   (∀c o,s.heap.get? c=some o->h'.get? c=some o)->Q (.ref (s.heap.objs.size + 4)) { s with heap:=h' }
theorem qr {c1 c2:String} {l1 l2:Addr} {Q:Value->Shared->Prop} (h:iy s c1 c2 l1 l2 Q):(∃o,(iU s.heap c1 c2 l1 l2).get? (jS s.heap c1 c2 l1 l2).objs.size=some o/\o.cls=.type "zip")/\Q (.ref (jS s.heap c1 c2 l1 l2).objs.size) { s with heap:=iU s.heap c1 c2 l1 l2 }:=by
 have z1:(s.heap.push (gT c1 l1)).objs.size=s.heap.objs.size + 1:=Heap.size_push ..
 have z2:(qD s.heap c1 c2 l1 l2).objs.size=s.heap.objs.size + 2:=by rw [Heap.size_push,z1]
 have z3:(qC s.heap c1 c2 l1 l2).objs.size=s.heap.objs.size + 3:=by rw [Heap.size_push,z2]
 have z4:(jS s.heap c1 c2 l1 l2).objs.size=s.heap.objs.size + 4:=by rw [Heap.size_push,z3]
 have g5:(iU s.heap c1 c2 l1 l2).get? (jS s.heap c1 c2 l1 l2).objs.size=some _:=Heap.get?_push_size _ rfl
 have g4:(iU s.heap c1 c2 l1 l2).get? (qC s.heap c1 c2 l1 l2).objs.size=some _:=Heap.get?_push_of_some _ (Heap.get?_push_size _ rfl)
 have g3:(iU s.heap c1 c2 l1 l2).get? (qD s.heap c1 c2 l1 l2).objs.size=some _:=Heap.get?_push_of_some _ (Heap.get?_push_of_some _ (Heap.get?_push_size _ rfl))
 have g2:(iU s.heap c1 c2 l1 l2).get? (s.heap.push (gT c1 l1)).objs.size=some (gT c2 l2):=Heap.get?_push_of_some _ (Heap.get?_push_of_some _ (Heap.get?_push_of_some _ (Heap.get?_push_size _ rfl)))
 have g1:(iU s.heap c1 c2 l1 l2).get? s.heap.objs.size=some (gT c1 l1):=Heap.get?_push_of_some _ (Heap.get?_push_of_some _ (Heap.get?_push_of_some _ (Heap.get?_push_of_some _ (Heap.get?_push_size _ rfl))))
 rw [z2,z3,z4] at g5
 rw [z1,z2] at g3
 rw [z3] at g4
 rw [z1] at g2
 rw [z4]
 exact ⟨⟨_,g5,rfl⟩,h _ g5 g3 g4 g1 g2 fun c o x=>Heap.get?_push_of_some _ (Heap.get?_push_of_some _ (Heap.get?_push_of_some _ (Heap.get?_push_of_some _ (Heap.get?_push_of_some _ x))))⟩
theorem Jh {l1 l2:Addr} {xs ys:Array Value} {Q:Value->Shared->Prop} (q1:s.heap.IsList l1 xs) (q2:s.heap.IsList l2 ys) (h:iy s "list_iterator" "list_iterator" l1 l2 Q):wpAny (model prog w) A (call (.type "zip") [.ref l1,.ref l2]) Q E s:=
 callType_new F.called_zip (by decide) (F.typeCall_zip_2 _ _) (F.newCall_zip_2 _ _) (fun obj=>F.args_object_init_3 obj _ _) F.entry_zip_new (JY l1 l2 xs ys) ⟨q1,q2,qr h⟩
theorem Jj {l1 l2:Addr} {xs ys:Array Value} {Q:Value->Shared->Prop} (q1:s.heap.IsTuple l1 xs) (q2:s.heap.IsList l2 ys) (h:iy s "tuple_iterator" "list_iterator" l1 l2 Q):wpAny (model prog w) A (call (.type "zip") [.ref l1,.ref l2]) Q E s:=
 callType_new F.called_zip (by decide) (F.typeCall_zip_2 _ _) (F.newCall_zip_2 _ _) (fun obj=>F.args_object_init_3 obj _ _) F.entry_zip_new (J0 l1 l2 xs ys) ⟨q1,q2,qr h⟩
theorem Jk {l1 l2:Addr} {xs ys:Array Value} {Q:Value->Shared->Prop} (q1:s.heap.IsTuple l1 xs) (q2:s.heap.IsTuple l2 ys) (h:iy s "tuple_iterator" "tuple_iterator" l1 l2 Q):wpAny (model prog w) A (call (.type "zip") [.ref l1,.ref l2]) Q E s:=
 callType_new F.called_zip (by decide) (F.typeCall_zip_2 _ _) (F.newCall_zip_2 _ _) (fun obj=>F.args_object_init_3 obj _ _) F.entry_zip_new (J2 l1 l2 xs ys) ⟨q1,q2,qr h⟩
theorem Ji {l1 l2:Addr} {xs ys:Array Value} {Q:Value->Shared->Prop} (q1:s.heap.IsList l1 xs) (q2:s.heap.IsTuple l2 ys) (h:iy s "list_iterator" "tuple_iterator" l1 l2 Q):wpAny (model prog w) A (call (.type "zip") [.ref l1,.ref l2]) Q E s:=
 callType_new F.called_zip (by decide) (F.typeCall_zip_2 _ _) (F.newCall_zip_2 _ _) (fun obj=>F.args_object_init_3 obj _ _) F.entry_zip_new (JZ l1 l2 xs ys) ⟨q1,q2,qr h⟩
end
end
def fK (K:W.Frag) (t:Bool) (a:Addr) (H:Hp) (xs:List V):Prop:=match t with
 | false=>aZ K H a xs
 | true=>ck K H a xs
def kU (t:Bool) (a u:Addr) (i:Nat) (h:Heap):Prop:=match t with
 | false=>h.IsListIter u a i
 | true=>h.IsTupleIter u a i
abbrev yd (t:Bool):String:=match t with
 | false => "list_iterator"
 | true => "tuple_iterator"
theorem AI {t:Bool} {a u:Addr} {h:Heap} (e:h.get? u=some (gT (yd t) a)):kU t a u 0 h:=by cases t <;> exact ⟨_,e,rfl,rfl⟩
theorem ql {t:Bool} {a u:Addr} {i:Nat} {h:Heap} (e:kU t a u i h):∃o,h.get? u=some o/\∀v,o.data≠.cell v:=by
 cases t <;> (obtain ⟨o,ho,hc,hd⟩:=e; exact ⟨o,ho,fun v z=>by rw [hd] at z; cases z⟩)
theorem qy {t:Bool} {a u:Addr} {i:Nat} {h h':Heap} (e:kU t a u i h) (k:∀o,h.get? u=some o->h'.get? u=some o):kU t a u i h':=by
 cases t <;> (obtain ⟨o,ho,r⟩:=e; exact ⟨o,k o ho,r⟩)
section
variable {X:Cx} {pz:List (Addr × Obj)} {σ:L2.Ml} {H:Hp} {s:Shared} {t:Bool} {a u:Addr} {xs ys:List V} {i:Nat}
theorem pM (I:Inv X pz σ H s) (hc:X.calm=true) (hq:fK X.K t a H xs) (hau:a≠u) (hi:kU t a u i s.heap):∃(its:List Value) (Ml:Nat->Heap->Prop),ap xs its/\Draws X.prog X.w X.A.in1 u [u,a] its.toArray.size (fun i v=>its.toArray[i]? = some v) Ml/\Ml i s.heap/\∀j h',Ml j h'->kU t a u j h':=by
 cases t with
 | false=>
  obtain ⟨its,rv,p,hz⟩:=I.list hq
  exact ⟨its,_,rv,Draws.list (A:=X.A.in1) (show X.A.in1.handled=none from I.ok.hd hc) u a hau its.toArray,⟨hi,p.isList⟩,fun j h' st=>st.1⟩
 | true=>
  obtain ⟨its,rv,p,hz⟩:=I.tuple hq
  exact ⟨its,_,rv,sG (A:=X.A.in1) (show X.A.in1.handled=none from I.ok.hd hc) u a hau its.toArray,⟨hi,p⟩,fun j h' st=>st.1⟩
theorem AL (I:Inv X pz σ H s) (h1:fK X.K t a H xs) (h2:fK X.K t a H ys):xs=ys:=by
 cases t with
 | false=>exact I.list_inj h1 h2
 | true=>exact I.tuple_inj h1 h2
theorem BJ (I:Inv X pz σ H s) (h1:fK X.K t a H xs):a < s.heap.objs.size:=by
 cases t with
 | false=>obtain ⟨its,rv,p,hz⟩:=I.list h1; obtain ⟨o,ho,_⟩:=p.isList; exact Heap.lt_size ho
 | true=>obtain ⟨its,rv,p,hz⟩:=I.tuple h1; obtain ⟨o,ho,_⟩:=id p; exact Heap.lt_size ho
theorem Ke {h':Heap} {ch:List Addr} {t':Nat} (I:Inv X pz σ H s) (hch:∀b∈ch,de X pz H b) (k:∀b ob,b∉ch->s.heap.get? b=some ob->h'.get? b=some ob):Inv X pz σ H { s with heap:=h',toks:=t' }:=by
 have trk:∀b u,H b=some u->b∉ch:=fun b u e hb=>by rw [(hch b hb).1] at e; cases e
 refine I.step (g':=s.gens) (d':=s.drawn) (ch:=ch) (fun b hb=>?_) (fun b ob _ _ hc e _=>k b ob hc e) (fun b ob _ _ hc e _=>⟨ob.slots,k b ob hc e⟩) (fun b ob hc e n=>n)
  (fun b ob hc e=>⟨ob,k b ob hc e⟩) (fun b xs e=>e) (fun b ob u e=>e) (fun b ps e=>⟨#[],by rw [e]; simp⟩) (fun m hm=>?_) (fun b u e=>?_) I.bare
 ·obtain ⟨z0,z1,z2,z3,z4,z5⟩:=hch b hb
  exact ⟨z3,z1,z4,z5⟩
 ·obtain ⟨ob,es,ep,ho,r⟩:=hm
  exact ⟨ob,es,ep,k _ ob (fun hb=>(hch _ hb).2.1 rfl) ho,r⟩
 ·refine (I.hok b u e).stay (fun c v hc q=>k c v ?_ q) (fun c q=>q) fun c xs q=>q
  rcases hc with z | z
  ·rw [z]; exact trk b u e
  ·exact trk c _ z
end
def rY (sq1 sq2:Hp->List V->Prop):It:=
 ⟨fun i H=>∃xs ys x y,sq1 H xs/\sq2 H ys/\xs[i]? = some x/\ys[i]? = some y,fun i H x H'=>∃p v u,H p=none/\x=.ref p/\H'=upd H p (.tup [v,u])/\(∀xs,sq1 H xs->xs[i]? = some v)/\∀ys,sq2 H ys->ys[i]? = some u,
  fun i H=>∃xs ys,sq1 H xs/\sq2 H ys/\min xs.length ys.length=i⟩
theorem Ie {P:Program} {w:World} {H:Hp} {h:Heap} {T:Addr} {x y:Value} {v u:V} (hT:h.get? T=some { cls:=.type "tuple",data:=.seq #[x,y] }) (r1:L2.aw v x) (r2:L2.aw u y):cm P w H h T (.tup [v,u]):=
 ⟨by show 2<=sizeLine; decide,[x,y],.cons r1 (.cons r2 .nil),⟨_,hT,rfl,0,rfl⟩,_,hT,rfl⟩
theorem JH {P:Program} {w:World} {K:W.Frag} {elts:List Expr} {k:Nat} {pos:Pos} {t1 t2:Bool} (a b zp ti to u1 u2:Addr) (Z:ZA zp ti to u1 u2 [u1,a] [u2,b]) (h1:a≠u1) (h2:b≠u2) :
  Turn P w K (.Tuple elts k pos) (rY (fK K t1 a) (fK K t2 b)) [zp,ti,to,u1,u2] zp (fun i h=>IsZip h zp ti to .none/\IsPair h ti (.ref u1) (.ref u2)/\(∃p q,IsPair h to p q)/\kU t1 a u1 i h/\kU t2 b u2 i h) where
 mem:=by simp
 obj:=fun i h st c hc=>by
  obtain ⟨hz,hi,⟨p,q,ho⟩,s1,s2⟩:=st
  simp only [List.mem_cons,List.not_mem_nil,or_false] at hc
  rcases hc with rfl | rfl | rfl | rfl | rfl
  ·exact ⟨_,hz,fun v z=>by have z':Data.fields _=Data.cell v:=z; cases z'⟩
  ·exact ⟨_,hi,fun v z=>by have z':Data.seq _ _=Data.cell v:=z; cases z'⟩
  ·exact ⟨_,ho,fun v z=>by have z':Data.seq _ _=Data.cell v:=z; cases z'⟩
  ·exact ql s1
  ·exact ql s2
 keep:=fun i h h' st kk=>by
  obtain ⟨hz,hi,⟨p,q,ho⟩,s1,s2⟩:=st
  exact ⟨kk zp (by simp) _ hz,kk ti (by simp) _ hi,⟨p,q,kk to (by simp) _ ho⟩,qy s1 fun o e=>kk u1 (by simp) o e,qy s2 fun o e=>kk u2 (by simp) o e⟩
 item:=by
  intro X hP hw hK hc i pz s σ H E I hf st hg
  subst hP hw hK
  obtain ⟨xs,ys,x,y,q1,q2,hx,hy⟩:=hg
  obtain ⟨hz,hi,⟨p,q,ho⟩,s1,s2⟩:=st
  obtain ⟨its1,St1,rv1,D1,d1,f1⟩:=pM I hc q1 h1 s1
  obtain ⟨its2,St2,rv2,D2,d2,f2⟩:=pM I hc q2 h2 s2
  have l1:i < its1.toArray.size:=by
   have:=(List.getElem?_eq_some_iff.mp hx).1
   rw [List.size_toArray,<-rv1.length]; exact this
  have l2:i < its2.toArray.size:=by
   have:=(List.getElem?_eq_some_iff.mp hy).1
   rw [List.size_toArray,<-rv2.length]; exact this
  refine K7 Z D1 D2 hz hi ho d1 d2 l1 l2 fun vx vy h' tk px py hz' hto' st1' st2' hT hsz hk=>⟨_,rfl,wpAny_letOwnedTupleGo_zip hz' fun h'' hz'' hs''=>?_⟩
  obtain ⟨wx,e1,r1⟩:=rv1.get hx
  obtain ⟨wy,e2,r2⟩:=rv2.get hy
  have ex:vx=wx:=by
   have:its1[i]? = some vx:=by simpa using px
   rw [e1] at this; exact (Option.some.inj this).symm
  have ey:vy=wy:=by
   have:its2[i]? = some vy:=by simpa using py
   rw [e2] at this; exact (Option.some.inj this).symm
  subst ex ey
  have nT:∀c o,s.heap.get? c=some o->s.heap.objs.size≠c:=fun c o e=>Nat.ne_of_gt (Heap.lt_size e)
  have hT'':h''.get? s.heap.objs.size=some { cls:=.type "tuple",data:=.seq #[vx,vy] }:=(hs''.2 _ (nT _ _ hz)).trans hT
  obtain ⟨o1,ho1,_⟩:=ql s1
  obtain ⟨o2,ho2,_⟩:=ql s2
  refine ⟨.ref s.heap.objs.size,upd H s.heap.objs.size (.tup [x,y]),uN (s:=s) (h':=h'') (t':=tk) (ch:=[zp,to,u1,u2]) I (fun c hc=>hf c ?_) (fun c ob hb e=>?_) (Nat.le_refl _) (Ie hT'' r1 r2),rfl,⟨_,x,y,I.hok.fresh (Nat.le_refl _),rfl,rfl,fun zs hz=>by rw [AL I hz q1]; exact hx,fun zs hz=>by rw [AL I hz q2]; exact hy⟩,⟨hz'',?_,⟨vx,vy,?_⟩,?_,?_⟩,fun c hc=>?_⟩
  ·simp only [List.mem_cons,List.not_mem_nil,or_false] at hc ⊢
   rcases hc with rfl | rfl | rfl | rfl <;> simp
  ·simp only [List.mem_cons,List.not_mem_nil,or_false,not_or] at hb
   exact (hs''.2 c hb.1).trans (hk c ob hb.1 hb.2.1 hb.2.2.1 hb.2.2.2 e)
  ·exact (hs''.2 _ Z.a1).trans (hk _ _ Z.a1 Z.a8.1 Z.a8.2.1 Z.a8.2.2 hi)
  ·exact (hs''.2 _ Z.a2).trans hto'
  ·exact qy (f1 _ _ st1') fun o e=>(hs''.2 _ Z.a3).trans e
  ·exact qy (f2 _ _ st2') fun o e=>(hs''.2 _ Z.a4).trans e
  ·rw [bH ?_]
   ·exact (hf c hc).1
   ·simp only [List.mem_cons,List.not_mem_nil,or_false] at hc
    rcases hc with rfl | rfl | rfl | rfl | rfl
    ·exact (nT _ _ hz).symm
    ·exact (nT _ _ hi).symm
    ·exact (nT _ _ ho).symm
    ·exact (nT _ _ ho1).symm
    ·exact (nT _ _ ho2).symm
 done:=by
  intro X hP hw hK hc i pz s σ H E I hf st hg
  subst hP hw hK
  obtain ⟨xs,ys,q1,q2,hm⟩:=hg
  obtain ⟨hz,hi,⟨p,q,ho⟩,s1,s2⟩:=st
  obtain ⟨its1,St1,rv1,D1,d1,f1⟩:=pM I hc q1 h1 s1
  obtain ⟨its2,St2,rv2,D2,d2,f2⟩:=pM I hc q2 h2 s2
  have l1:=rv1.length
  have l2:=rv2.length
  refine Lu Z D1 D2 hz hi ho d1 d2 ?_ fun h' tk hk=>⟨rfl,Ke (h':=h') (t':=tk) (ch:=[zp,to,u1,u2]) I (fun c hc=>hf c ?_) fun c ob hb e=>?_⟩
  ·rw [List.size_toArray,List.size_toArray]
   omega
  ·simp only [List.mem_cons,List.not_mem_nil,or_false] at hc ⊢
   rcases hc with rfl | rfl | rfl | rfl <;> simp
  ·simp only [List.mem_cons,List.not_mem_nil,or_false,not_or] at hb
   exact hk c ob hb.1 hb.2.1 hb.2.2.1 hb.2.2.2 e
 self:=fun _ _ _ _ _ st h=>wpAny_pyIter_zip st.1 h
def dQ (fa fb:FE):FI:=fun r=>(fa r).bind fun d=>(fb r).bind fun e=>(bZ (bp d)).bind fun ds=>(bZ (bp e)).bind fun es=>.ok (List.zipWith (fun a b=>D.tup [a,b]) ds es)
theorem JJ {α β γ:Type} (f:α->β->γ):∀(l:List α) (r:List β) (i:Nat),(List.zipWith f l r)[i]? = (match l[i]?,r[i]? with | some a,some b=>some (f a b) | _,_=>none):=fun l r i=>by
 rw [List.getElem?_zipWith]
 cases l[i]? <;> cases r[i]? <;> rfl
theorem Gb {K:W.Frag} {ds es:List D} {G0:GH} {sq1 sq2:Hp->List V->Prop} (h1:∀G H,aJ G0 G->aP K G H->∃xs,sq1 H xs/\bL K G xs ds) (h2:∀G H,aJ G0 G->aP K G H->∃xs,sq2 H xs/\bL K G xs es):Yields K (rY sq1 sq2) (List.zipWith (fun a b=>D.tup [a,b]) ds es) G0:=by
 refine ⟨fun G H i w gk hi=>?_,fun G H i x H' d w gk y e=>?_,fun G H w gk=>?_⟩
 ·obtain ⟨xs,s1,r1⟩:=h1 G H w gk
  obtain ⟨ys,s2,r2⟩:=h2 G H w gk
  rw [List.length_zipWith] at hi
  have l1:=Paired.length r1
  have l2:=Paired.length r2
  exact ⟨xs,ys,xs[i]'(by omega),ys[i]'(by omega),s1,s2,List.getElem?_eq_getElem _,List.getElem?_eq_getElem _⟩
 ·obtain ⟨xs,s1,r1⟩:=h1 G H w gk
  obtain ⟨ys,s2,r2⟩:=h2 G H w gk
  obtain ⟨p,v,u,hp,rfl,rfl,hv,hu⟩:=y
  rw [JJ] at e
  cases e1:ds[i]? with
  | none=>rw [e1] at e; cases e
  | some d1=>
   cases e2:es[i]? with
   | none=>rw [e1,e2] at e; cases e
   | some d2=>
    rw [e1,e2] at e
    cases e
    obtain ⟨v',z1,rv⟩:=Paired.get r1 e1
    obtain ⟨u',z2,ru⟩:=Paired.get r2 e2
    have a1:=hv xs s1
    have a2:=hu ys s2
    rw [z1] at a1; cases a1
    rw [z2] at a2; cases a2
    exact ⟨_,Grow.newF gk hp (.tup (.inl cy) (.cons rv (.cons ru .nil))),.ref dE⟩
 ·obtain ⟨xs,s1,r1⟩:=h1 G H w gk
  obtain ⟨ys,s2,r2⟩:=h2 G H w gk
  refine ⟨xs,ys,s1,s2,?_⟩
  rw [List.length_zipWith,Paired.length r1,Paired.length r2]
section
variable {X:Cx} {g:GE} {m:List Md} {e1 e2:Expr} {fa fb:FE} {pos p pos2:Pos} {elts:List Expr} {kk:Nat}
theorem HA {pz:List (Addr × Obj)} {σ:L2.Ml} {H:Hp} {s:Shared} {t1 t2:Bool} {a b:Addr} {xs ys:List V} {E:Value->Shared->Prop} {Q:Value->Shared->Prop} (I:Inv X pz σ H s) (q1:fK X.K t1 a H xs) (q2:fK X.K t2 b H ys) (h:iy s (yd t1) (yd t2) a b Q):wpAny (model X.prog X.w) X.A (call (.type "zip") [.ref a,.ref b]) Q E s:=by
 cases t1 with
 | false=>
  obtain ⟨its1,_,p1,_⟩:=I.list q1
  cases t2 with
  | false=>obtain ⟨its2,_,p2,_⟩:=I.list q2; exact Jh p1.isList p2.isList h
  | true=>obtain ⟨its2,_,p2,_⟩:=I.tuple q2; exact Ji p1.isList (show s.heap.IsTuple b its2.toArray from p2) h
 | true=>
  obtain ⟨its1,_,p1,_⟩:=I.tuple q1
  cases t2 with
  | false=>obtain ⟨its2,_,p2,_⟩:=I.list q2; exact Jj (show s.heap.IsTuple a its1.toArray from p1) p2.isList h
  | true=>obtain ⟨its2,_,p2,_⟩:=I.tuple q2; exact Jk (show s.heap.IsTuple a its1.toArray from p1) (show s.heap.IsTuple b its2.toArray from p2) h
theorem jD {x y:Nat} (h:x≠y):(show Addr from x)≠(show Addr from y):=h
theorem mK {x u a:Nat} (h1:x≠u) (h2:x≠a):(show Addr from x)∉[(show Addr from u),(show Addr from a)]:=fun h=>by
 rcases List.mem_cons.mp h with h | h
 ·exact h1 h
 ·exact h2 (List.mem_singleton.mp h)
theorem Gc {a b k:Nat} (la:a < k) (lb:b < k):ZA (show Addr from k + 4) (show Addr from k + 2) (show Addr from k + 3) (show Addr from k) (show Addr from k + 1) [(show Addr from k),(show Addr from a)] [(show Addr from k + 1),(show Addr from b)]:=
 ⟨jD (by omega),jD (by omega),jD (by omega),jD (by omega),jD (by omega),jD (by omega),jD (by omega),⟨jD (by omega),jD (by omega),jD (by omega)⟩,
  ⟨mK (by omega) (by omega),mK (by omega) (by omega),mK (by omega) (by omega)⟩,⟨mK (by omega) (by omega),mK (by omega) (by omega),mK (by omega) (by omega)⟩⟩
theorem FM {c k:Nat} (h:c=k + 4\/c=k + 2\/c=k + 3\/c=k\/c=k + 1):k<=c:=by omega
theorem Fb {ta tb:TE} (hg:Gl X "zip") (hm:X.mg "zip" = none) (ha:PE X e1 ta) (hb:PE X e2 tb) (hs:starEach [e1,e2] X.env=(false,eval e1 X.env)::starEach [e2] X.env:=by rfl) (hs2:starEach [e2] X.env=(false,eval e2 X.env)::starEach [] X.env:=by rfl) (hpl:(backTo pos (starEach [e2] X.env)).any (·.1)=false:=by rfl) :
  PI X (.Tuple elts kk pos2) (.Call (.Name "zip" p) [e1,e2] [] pos) (fun σ H R=>ta σ H fun x H1=>tb σ H1 fun y H2=>∃(t1 t2:Bool) (a b:Addr),x=.ref a/\y=.ref b/\(∃xs,fK X.K t1 a H2 xs)/\(∃ys,fK X.K t2 b H2 ys)/\R (rY (fK X.K t1 a) (fK X.K t2 b)) H2):=by
 intro pz s σ H R I h
 refine Call_ (mE I hg hm boot_zip (PyProof.Rows.callWith_type1 (aY (gM ha (gM hb iV hs2) hs pos pz s σ H (fun vs H2=>match vs with
  | [x,y]=>∃(t1 t2:Bool) (a b:Addr),x=.ref a/\y=.ref b/\(∃xs,fK X.K t1 a H2 xs)/\(∃ys,fK X.K t2 b H2 ys)/\R (rY (fK X.K t1 a) (fK X.K t2 b)) H2
  | _=>False) I h) fun us s1 ⟨vs,H1,I1,r1,q1⟩=>?_) hs hpl))
 cases r1 with
 | nil=>exact q1.elim
 | @cons x u xs us rx rt=>
 cases rt with
 | nil=>exact q1.elim
 | @cons y u' xs' us' ry rt'=>
 cases rt' with
 | cons _ _=>exact q1.elim
 | nil=>
 obtain ⟨t1,t2,a,b,rfl,rfl,⟨zs,z1⟩,⟨ws,z2⟩,q⟩:=q1
 cases rx
 cases ry
 have la:=BJ I1 z1
 have lb:=BJ I1 z2
 refine HA I1 z1 z2 fun h' hz hi ho o1 o2 kp=>wpAny_pyIter_zip hz ?_
 refine ⟨_,[s1.heap.objs.size + 4,s1.heap.objs.size + 2,s1.heap.objs.size + 3,s1.heap.objs.size,s1.heap.objs.size + 1],_,_,H1,rfl,I1.kept (t':=s1.toks) kp,JH (t1:=t1) (t2:=t2) a b _ _ _ _ _ (Gc la lb) (Nat.ne_of_lt la) (Nat.ne_of_lt (Nat.lt_succ_of_lt lb)),⟨hz,hi,⟨_,_,ho⟩,AI o1,AI o2⟩,fun c hc=>?_,q⟩
 have hge:s1.heap.objs.size<=c:=by
  simp only [List.mem_cons,List.not_mem_nil,or_false] at hc
  exact FM hc
 exact I1.fpOk hge (I1.hok.fresh hge)
theorem pP (hg:Gl X "zip") (hm:X.mg "zip" = none) (ha:SE X g m e1 fa) (hb:SE X g m e2 fb) (hs:starEach [e1,e2] X.env=(false,eval e1 X.env)::starEach [e2] X.env:=by rfl) (hs2:starEach [e2] X.env=(false,eval e2 X.env)::starEach [] X.env:=by rfl) (hpl:(backTo pos (starEach [e2] X.env)).any (·.1)=false:=by rfl):gC X g m (.Tuple elts kk pos2) (.Call (.Name "zip" p) [e1,e2] [] pos) (dQ fa fb):=by
 refine PI.imp (Fb hg hm ha hb hs hs2 hpl) fun σ H R ⟨r,G,si,q⟩=>⟨r,G,si,bz (bv q) fun d q v G1 H1 w1 rv=>⟨r,G1,si.grow w1,?_⟩⟩
 refine iJ (bv q) w1 fun e q u G2 H2 w2 ru=>?_
 obtain ⟨ds,ed,q⟩:=cD (bv q)
 obtain ⟨es,ee,q⟩:=cD (bv q)
 have rv2:=rv.mono w2.ge
 have one:∀{v:V} {d:D} {ds:List D},RG X.K G2 v d->bp d=some ds->∃(t:Bool) (a:Addr),v=.ref a/\(∃xs,fK X.K t a H2 xs)/\∀G H,aJ G2 G->aP X.K G H->∃xs,fK X.K t a H xs/\bL X.K G xs ds:=by
  intro v d ds rv ed
  cases d with
  | lst ds'=>
   cases ed
   obtain ⟨a,xs,rfl,s,rs⟩:=rv.lst w2.ok
   refine ⟨false,a,rfl,⟨xs,s⟩,fun G H le gk=>?_⟩
   obtain ⟨b,ys,e,s',r'⟩:=(rv.mono le).lst gk
   cases e
   exact ⟨ys,s',r'⟩
  | tup ds'=>
   cases ed
   obtain ⟨a,xs,rfl,s,rs⟩:=rv.tup w2.ok
   refine ⟨true,a,rfl,⟨xs,s⟩,fun G H le gk=>?_⟩
   obtain ⟨b,ys,e,s',r'⟩:=(rv.mono le).tup gk
   cases e
   exact ⟨ys,s',r'⟩
  | _=>cases ed
 obtain ⟨t1,a,rfl,x1,y1⟩:=one rv2 ed
 obtain ⟨t2,b,rfl,x2,y2⟩:=one ru ee
 exact ⟨t1,t2,a,b,rfl,rfl,x1,x2,q _ G2 H2 (w1.trans w2) (Gb y1 y2)⟩
end
def mf:Nat:=2 ^ 2000
def mh (i j:Int):Prop:=i.natAbs < mf/\j.natAbs < mf
def pG (_i j:Int):Prop:=0 < j/\j.natAbs < mf
instance decMulW (i j:Int):Decidable (mh i j):=by unfold mh; infer_instance
instance decDivW (i j:Int):Decidable (pG i j):=by unfold pG; infer_instance
theorem Aj {i:Int} (h:i.natAbs < mf):Builtin.Int.intBits i<=2000:=by
 unfold Builtin.Int.intBits
 split
 ·exact Nat.zero_le _
 ·rename_i z
  have h0:i.natAbs≠0:=fun e=>z (by rw [Int.natAbs_eq_zero.mp e]; rfl)
  have:=(Nat.log2_lt h0).mpr h
  omega
theorem mh.ok {i j:Int} (h:mh i j):IntMulOk i j:=by
 have h1:=Aj h.1
 have h2:=Aj h.2
 unfold IntMulOk
 have e:Builtin.Int.intTooBig ((Builtin.Int.intBits i:Int) + (Builtin.Int.intBits j:Int))=false:=by
  unfold Builtin.Int.intTooBig
  have:((bitsLine:Nat):Int)=134217728:=by decide +kernel
  exact decide_eq_false (by omega)
 rw [e]; simp
theorem Hw:bi X (binaryOp .Mult) (rI mh fun i j=>.int (i * j)):=m9 fun _ _ _ _ _ _ _ hc q=>mul_int q hc.ok
theorem Ic:bi X (binaryOp .FloorDiv) (rI pG fun i j=>.int (i / j)):=m9 fun i j _ _ _ _ _ hc q=>by
 have h1:(0:Int) < j:=hc.1
 have h2:j.natAbs < mf:=hc.2
 have h0:j.natAbs≠0:=by omega
 have:=(Nat.log2_lt h0).mpr h2
 exact floordiv_int (by omega) (by rw [Int.fdiv_eq_ediv_of_nonneg i (by omega)]; exact q) (.inl (PyProof.noPylong_of_log2 (by omega)))
abbrev cB:D->D->Option D:=jv mh fun a b=>.int (a * b)
abbrev Mm:D->D->Option D:=jv pG fun a b=>.int (a / b)
section
variable {X:Cx} {g:GE} {m:List Md} {e a b c o:Expr} {es:List Expr} {f fa fb fc fo:FE} {fl:ak->Res (List D)} {pos p apos cpos:Pos}
theorem hJ (ha:SB X g m a fa) (hb:SB X g m b fb):SE X g m (.BinOp a .Mult b pos) (f2 fa fb cB):=jO Hw (mM fun _ _=>.int _) ha hb
theorem qp (ha:SB X g m a fa) (hb:SB X g m b fb):SE X g m (.BinOp a .FloorDiv b pos) (f2 fa fb Mm):=jO Ic (mM fun _ _=>.int _) ha hb
def absD:List D->Option D
 | [.int i]=>some (.int (if i < 0 then -i else i))
 | _=>none
theorem DV {K:W.Frag}:lh K (fun xs H Q=>∃i:Int,xs=[.int i]/\Q (.int (if i < 0 then -i else i)) H) absD:=by
 intro G H vs ds d Q gk rs e q
 unfold absD at e
 split at e
 ·cases e
  cases rs with
  | cons r1 t=>
   cases t
   exact ⟨_,by rw [r1.int gk],q _ G H (Grow.refl gk) (.scl (.int _))⟩
 ·cases e
theorem yS (hg:Gl X "abs") (hm:X.mg "abs" = none) (ha:g6 X g m (e::es) fl) (he:starEach (e::es) X.env=(false,eval e X.env)::starEach es X.env:=by rfl) (hpl:(backTo pos (starEach es X.env)).any (·.1)=false:=by rfl) :
  SE X g m (.Call (.Name "abs" p) (e::es) [] pos) (fC fl absD):=ii DV (lA Jc hg hm PyProof.Rows.boot_abs ha (by decide) (by decide) he hpl)
theorem G6 {x:Str} {d:D} (hg:Gl X x) (hk:∃a,X.mg x=some (.ref a)/\KC X.K a d) (hd:(x == ("__debug__" : Str))=false:=by decide):SE X g m (.Name x pos) fun _=>.ok d:=by
 obtain ⟨a,hm,k⟩:=hk
 exact PE.imp (GM (v:=.ref a) hg hm rfl hd) fun σ H Q ⟨r,G,si,q⟩=>q (.ref a) G H (Grow.refl si.gok) (.kc k)
theorem DC {K:W.Frag} {h:Heap} {mg:Str->Option Value} {x:Str} (KX:K.In h) (G:h.Ns mainGlobals mg) {a:Addr} {i j:Int} {t u:Tok} {n:Nat} {sl:Array (Option Value)} (z:W.nsIn K mainGlobals x=some (some (.ref a)))
  (l:K.lookup a=some ⟨.type "tuple",none,.seq #[.int i t,.int j u] n,sl⟩):∃a,mg x=some (.ref a)/\KC K a (.tup [.int i,.int j]):=by
 refine ⟨a,W.mg_of KX G z,.tup (xs:=[.int i,.int j]) (.inr ⟨_,_,_,l,rfl,rfl,?_,.cons ⟨_,rfl⟩ (.cons ⟨_,rfl⟩ .nil)⟩) (.cons (.int _) (.cons (.int _) .nil)) ⟨_,l,rfl,rfl⟩⟩
 show 2<=sizeLine
 rw [sizeLine_eq]; decide
end
def pj:aD->D
 | .inl i=>.int i
 | .inr x=>.str x
theorem Hh (k:aD):Scl (kV k) (pj k):=by
 cases k with
 | inl i=>exact .int i
 | inr x=>exact .str x
theorem Fp {P:Program} {w:World} {k:aD} {u:Value} (h:(fY P w).is k u=true):aw (kV k) u:=by
 rcases keyIs_shape h with ⟨i,t,rfl,rfl⟩ | ⟨x,t,rfl,rfl⟩
 ·exact ⟨t,rfl⟩
 ·exact ⟨t,rfl⟩
section
variable {X:Cx} {g:GE} {m m' m1 mb:List Md} {tg e a b c iter:Expr} {f fa fb:FE} {p:FQ} {pos pos':Pos} {ro:Bool} {fl:ak->Res (List D)} {sts:List Stmt} {s1:FS}
def ym (g:GE) (a:Addr) (d:D) (u:HO):GE:=⟨gset g.gh a d,upd g.h0 a u,g.hd⟩
theorem SI.up {r:ak} {G:GH} {st:L2.Ml} {H:Hp} {a:Addr} {d:D} {u:HO} (s:SI X g m r G st H) (hG:G a=some d) (hH:H a=some u):SI X (ym g a d u) m r G st H where
 gok:=s.gok
 old:=fun b o e=>by
  by_cases hb:b=a
  ·subst hb
   have e':upd g.h0 b u b=some o:=e
   rw [cy] at e'; cases e'; exact hH
  ·have e':upd g.h0 a u b=some o:=e
   rw [bH hb] at e'; exact s.old b o e'
 ge:=fun b x e=>by
  by_cases hb:b=a
  ·subst hb
   have e':gset g.gh b d b=some x:=e
   rw [dE] at e'; cases e'; exact hG
  ·have e':gset g.gh a d b=some x:=e
   rw [eR hb] at e'; exact s.ge b x e'
 gf:=fun b h=>by
  show G b=gset g.gh a d b
  by_cases hb:b=a
  ·subst hb; rw [dE]; exact hG
  ·rw [eR hb]
   exact s.gf b fun z=>h (show upd g.h0 a u b=none by rw [bH hb]; exact z)
 lm:=s.lm
 lr:=s.lr
 sh:=s.sh
 ow:=fun i x h1 h2=>by
  obtain ⟨c,q1,q2,q3⟩:=s.ow i x h1 h2
  refine ⟨c,q1,q2,?_⟩
  have hc:c≠a:=by rintro rfl; rw [q2.un] at hG; cases hG
  show upd g.h0 a u c=none
  rw [bH hc]; exact q3
 bw:=fun i x h1 h2=>by
  obtain ⟨v,q1,q2⟩:=s.bw i x h1 h2
  refine ⟨v,q1,?_⟩
  rcases q2 with q2 | ⟨c,e,q2,q3⟩
  ·exact .inl q2
  ·refine .inr ⟨c,e,q2,?_⟩
   have hc:c≠a:=by rintro rfl; rw [q2.un] at hG; cases hG
   show upd g.h0 a u c≠none
   rw [bH hc]; exact q3
 dis:=s.dis
 lk:=s.lk
structure Had (g:GE) (a:Addr) (d:D) (u:HO):Prop where
 h0:∀o,g.h0 a=some o->o=u
 gh:∀x,g.gh a=some x->x=d
 gf:g.h0 a≠none->g.gh a=some d
end
section
variable {X:Cx} {g:GE} {m:List Md} {e o:Expr} {es:List Expr} {fo:FE} {fl:ak->Res (List D)} {pos p pos':Pos}
theorem JE (hc:X.calm=true):dH X (.builtin "sum") (fun xs H Q=>∃(p:Addr) (ks:List Int),xs=[.ref p]/\aZ X.K H p (ks.map V.int)/\Q (.int ks.sum) H):=by
 intro pz s σ H xs us Q I r h
 obtain ⟨p,ks,rfl,hq,q⟩:=h
 obtain ⟨u,rfl,rx⟩:=fL r
 cases rx
 obtain ⟨its,rv,pl,hz⟩:=I.list hq
 obtain ⟨mF,F⟩:=I.fr
 exact PyProof.Rows.LSm.sum_ints F (IX (g:=X.base) (h:=s.heap) (L:=X.env.locals)) (I.ok.hd hc) pl.isList (vN rv) fun h' tk t' F' N'=>⟨.int ks.sum,_,Inv.keptF I F F' N' tk,⟨_,rfl⟩,q⟩
def sumD:List D->Option D
 | [.lst ds]=>(gK ds).map fun ks=>.int ks.sum
 | _=>none
theorem GA {K:W.Frag}:lh K (fun xs H Q=>∃(p:Addr) (ks:List Int),xs=[.ref p]/\aZ K H p (ks.map V.int)/\Q (.int ks.sum) H) sumD:=by
 intro G H vs ds d Q gk rs e q
 unfold sumD at e
 split at e
 ·rename_i zs
  cases ek:gK zs with
  | none=>rw [ek] at e; cases e
  | some ks=>
   rw [ek] at e; cases e
   cases rs with
   | cons r1 t=>
    cases t
    obtain ⟨b,xs,rfl,s,r⟩:=r1.lst gk
    have ex:=Bj gk r ek
    subst ex
    exact ⟨b,ks,rfl,s,q _ G H (Grow.refl gk) (.scl (.int _))⟩
 ·cases e
theorem yZ (hc:X.calm=true) (hg:Gl X "sum") (hm:X.mg "sum" = none) (ha:g6 X g m (e::es) fl) (he:starEach (e::es) X.env=(false,eval e X.env)::starEach es X.env:=by rfl) (hpl:(backTo pos (starEach es X.env)).any (·.1)=false:=by rfl) :
  SE X g m (.Call (.Name "sum" p) (e::es) [] pos) (fC fl sumD):=ii GA (lA (JE hc) hg hm PyProof.Rows.boot_sum ha (by decide) (by decide) he hpl)
theorem Lr (hc:X.calm=true):dH X (.type "list") (fun xs H Q=>∃d kvs,xs=[.ref d]/\Rd H d (.dK kvs)/\∀l,H l=none->Q (.ref l) (upd H l (.lst (kvs.map fun kv=>kV kv.1)))):=by
 intro pz s σ H xs us Q I r h
 obtain ⟨d,kvs,rfl,hd,q⟩:=h
 obtain ⟨u,rfl,rx⟩:=fL r
 cases rx
 obtain ⟨z1,ns1,vs1,r1,dd1⟩:=(show cm X.prog X.w H s.heap d (.dK kvs) from hd.ok I.hok)
 obtain ⟨ep,hat⟩:=dd1.dictAt
 have l1:=Paired.length r1
 refine W.kdl_call (W.kdl_dict (knd:=fY X.prog X.w) (kvs:=vs1) (ep:=ep) ns1) (I.ok.hd hc) hat (by omega) fun h' tk acc c' kp hS hacc=>?_
 have hvals:ap (kvs.map fun kv=>kV kv.1) acc.toList:=by
  refine wF (by have h1:=hacc.1; have h2:acc.toList.length=acc.size:=Array.length_toList; rw [List.length_map]; omega) fun j v u e1 e2=>?_
  obtain ⟨k,x,hk,hi⟩:=hacc.2 j u (by rw [<-Array.getElem?_toList]; exact e2)
  rw [List.getElem?_map] at e1
  cases e3:kvs[j]? with
  | none=>rw [e3] at e1; cases e1
  | some kv=>
   rw [e3] at e1
   cases e1
   obtain ⟨kv',e4,e5⟩:=DL.Paired.get r1 hk
   rw [e3] at e4
   cases e4
   have e6:kv.1=k:=e5.1
   show L2.aw (kV kv.1) u
   rw [e6]
   exact Fp hi
 refine ⟨.ref s.heap.objs.size,_,I.laid (t':=tk) kp (Nat.le_refl _) (show cm X.prog X.w _ h' _ (.lst (kvs.map fun kv=>kV kv.1)) from ⟨by rw [List.length_map]; exact z1,acc.toList,c',hvals,by rw [Array.toArray_toList]; exact hS⟩),rfl,q _ (I.hok.fresh (Nat.le_refl _))⟩
def sQ:D->Option D
 | .dic kvs=>some (.lst (kvs.map fun kv=>pj kv.1))
 | _=>none
theorem yJ {K:W.Frag} {G:GH}:∀{ps:List (aD × V)} {kvs:List (aD × D)},gE K G ps kvs->bL K G (ps.map fun kv=>kV kv.1) (kvs.map fun kv=>pj kv.1)
 | _,_,.nil=>.nil
 | p::_,q::_,.cons r t=>.cons (show RG K G (kV p.1) (pj q.1) by rw [r.1]; exact .scl (Hh _)) (yJ t)
theorem ET (hc:X.calm=true) (hg:Gl X "list") (hm:X.mg "list" = none) (ho:SB X g m o fo) (hs2:starEach [o] X.env=(false,eval o X.env)::starEach [] X.env:=by rfl) :
  SO X g m (.Call (.Name "list" pos') [o] [] pos) (f1 fo sQ):=by
 refine PE.imp (kN (Lr hc) hg hm rfl (gM ho iV hs2) (by decide) (by decide) hs2 rfl) fun σ H Q ⟨r,G,si,q⟩=>⟨r,G,si,bz (bv q) fun d q1 v G1 H1 w1 r1=>?_⟩
 obtain ⟨d',e,q2⟩:=cD q1
 cases d with
 | dic kvs=>
  cases e
  obtain ⟨a,ps,rfl,hs,rs⟩:=r1.dic w1.ok
  refine ⟨a,ps,rfl,hs,fun l hl=>?_⟩
  have w3:=Grow.new w1.ok hl (.lst (ps.map fun kv=>kV kv.1))
  exact q2 l G1 _ (w1.trans w3) (by
   cases q:H l with
   | none=>rfl
   | some u=>rw [w1.he _ _ q] at hl; cases hl) ⟨w1.ok.isN hl,.lst cy (yJ rs)⟩
 | _=>cases e
end
def dI (g:GE) (H:Hp) (fp:List Addr) (i:Nat) (p:Addr):GE:=
 ⟨g.gh,fun b=>if b∈fp then H b else g.h0 b,fun j=>if j=i then some (some (V.ref p),none) else g.hd j⟩
theorem uL {g:GE} {H H':Hp} {fp:List Addr} {i:Nat} {p:Addr} (h:∀b∈fp,H' b=H b):dI g H' fp i p=dI g H fp i p:=by
 unfold dI
 congr 1
 funext b
 by_cases hb:b∈fp
 ·rw [if_pos hb,if_pos hb,h b hb]
 ·rw [if_neg hb,if_neg hb]
def gD (K:W.Frag) (G:GH) (H:Hp) (b:Addr) (ds:List D):Prop:=∃xs,H b=some (.lst xs)/\bL K G xs ds
structure LRw (K:W.Frag) (G:GH) (H:Hp) (p:Addr) (as:List Addr) (w:List (List D)):Prop where
 out:H p=some (.lst (as.map V.ref))
 nd:(p::as).Nodup
 un:∀b∈p::as,G b=none
 rw:Paired (gD K G H) as w
theorem gD.mono {K:W.Frag} {G G':GH} {H H':Hp} {b:Addr} {ds:List D} (h:gD K G H b ds) (ge:aJ G G') (he:H' b=H b):gD K G' H' b ds:=by
 obtain ⟨xs,h1,h2⟩:=h
 exact ⟨xs,by rw [he]; exact h1,h2.mono ge⟩
theorem uS {α β:Type} {F F':α->β->Prop} {l:List α} {r:List β} (h:Paired F l r) (f:∀a∈l,∀b,F a b->F' a b):Paired F' l r:=by
 induction h with
 | nil=>exact .nil
 | cons h _ ih=>exact .cons (f _ List.mem_cons_self _ h) (ih fun a ha=>f a (List.mem_cons_of_mem _ ha))
theorem LRw.isS {K:W.Frag} {G:GH} {H:Hp} {p:Addr} {as:List Addr} {w:List (List D)} (h:LRw K G H p as w) {b:Addr} (hb:b∈p::as):H b≠none:=by
 rcases List.mem_cons.mp hb with rfl | hb
 ·rw [h.out]; simp
 ·have:∀{as:List Addr} {w:List (List D)},Paired (gD K G H) as w->b∈as->H b≠none:=fun {as w} q hb=>by
   induction q with
   | nil=>cases hb
   | cons r _ ih=>
    rcases List.mem_cons.mp hb with rfl | hb
    ·obtain ⟨xs,e,_⟩:=r; rw [e]; simp
    ·exact ih hb
  exact this h.rw hb
theorem LRw.mono {K:W.Frag} {G G':GH} {H H':Hp} {p:Addr} {as:List Addr} {w:List (List D)} (h:LRw K G H p as w) (ge:aJ G G') (he:∀b∈p::as,H' b=H b) (un:∀b∈p::as,G' b=none):LRw K G' H' p as w:=
 ⟨by rw [he p List.mem_cons_self]; exact h.out,h.nd,un,uS h.rw fun b hb ds r=>r.mono ge (he b (List.mem_cons_of_mem _ hb))⟩
def gi (X:Cx) (g:GE) (i:Nat) (m:List Md) (r:ak) (w:List (List D)) (G:GH) (st:L2.Ml) (H:Hp):Prop:=
 ∃p as,LRw X.K G H p as w/\(∀b∈p::as,g.h0 b=none)/\SI X (dI g H (p::as) i p) m r G st H/\m[i]? = some .bw
section
variable {X:Cx} {g:GE} {i:Nat} {m m' m1:List Md} {r r':ak} {w:List (List D)} {G G':GH} {σ σ':L2.Ml} {H H':Hp}
theorem qR {p:Addr} {as:List Addr} (R:LRw X.K G H p as w) (h0:∀b∈p::as,g.h0 b=none) (si:SI X (dI g H (p::as) i p) m r G σ H) (le:aJ G G') (si':SI X (dI g H (p::as) i p) m' r' G' σ' H') (hm:m'[i]? = some .bw):gi X g i m' r' w G' σ' H':=by
 have he:∀b∈p::as,H' b=H b:=fun b hb=>by
  have hs:=R.isS hb
  cases e:H b with
  | none=>exact absurd e hs
  | some o=>
   have:(dI g H (p::as) i p).h0 b=some o:=by show (if b∈p::as then H b else g.h0 b)=_; rw [if_pos hb]; exact e
   rw [si'.old b o this]
 have un:∀b∈p::as,G' b=none:=fun b hb=>by
  have h:(dI g H (p::as) i p).h0 b≠none:=by show (if b∈p::as then H b else g.h0 b)≠_; rw [if_pos hb]; exact R.isS hb
  have e1:=si'.gf b h
  have e2:=si.gf b h
  rw [e1,<-e2]; exact R.un b hb
 exact ⟨p,as,R.mono le he un,h0,by rw [uL he]; exact si',hm⟩
abbrev e8:=ak->List (List D)->Option (ak × List (List D))
def Dd (X:Cx) (g:GE) (i:Nat) (m m':List Md) (f:e8):TS:=fun D σ H=>∃r w G,gi X g i m r w G σ H/\∃r' w',f r w=some (r',w')/\∀σ' G' H',aJ G G'->gi X g i m' r' w' G' σ' H'->D.nx σ' H'
def pA (X:Cx) (g:GE) (i:Nat) (m:List Md) (st:Stmt) (f:e8) (m':List Md):Prop:=PS X st (Dd X g i m m' f)
def jo (X:Cx) (g:GE) (i:Nat) (m:List Md) (st:List Stmt) (f:e8) (m':List Md):Prop:=cQ X st (Dd X g i m m' f)
variable {st:Stmt} {sts:List Stmt} {ro:Bool} {mb:List Md} {s1:FS} {f1 f2:e8} {tg iter:Expr} {pos:Pos}
def iq (f:FS):e8:=fun r w=>match f r with
 | .nx r'=>some (r',w)
 | _=>none
theorem Gk (h:∀g',SS X g' ro mb m st s1 m') (hm:m'[i]? = some .bw):pA X g i m st (iq s1) m':=by
 have hA:PS X st (fun D σ H=>∃g',tS X g' ro m m' mb s1 D σ H):=fun pz s σ H D I ⟨g',q⟩=>(h g').2 pz s σ H D I q
 refine PS.imp hA fun D σ H ⟨r,w,G,⟨p,as,R,h0,si,_⟩,r',w',e,k⟩=>⟨_,r,G,si,?_⟩
 unfold iq at e
 cases q:s1 r with
 | nx r1=>
  rw [q] at e
  cases e
  exact fun σ' G' H' le si'=>k σ' G' H' le (qR R h0 si le si' hm)
 | _=>rw [q] at e; cases e
def jA (f1 f2:e8):e8:=fun r w=>(f1 r w).bind fun p=>f2 p.1 p.2
theorem HX:jo X g i m [] (fun r w=>some (r,w)) m:=cQ.imp tX fun D σ H ⟨r,w,G,si,r',w',e,k⟩=>by
 cases e
 exact k σ G H (aJ.refl G) si
theorem uP (h1:pA X g i m st f1 m1) (h2:jo X g i m1 sts f2 m'):jo X g i m (st::sts) (jA f1 f2) m':=by
 refine cQ.imp (mN h1 h2) fun D σ H ⟨r,w,G,si,r',w',e,k⟩=>⟨r,w,G,si,?_⟩
 unfold jA at e
 cases q:f1 r w with
 | none=>rw [q] at e; cases e
 | some z=>
  rw [q] at e
  exact ⟨z.1,z.2,rfl,fun σ' G' H' le si'=>⟨z.1,z.2,G',si',r',w',e,fun σ2 G2 H2 le2 si2=>k σ2 G2 H2 (le.trans le2) si2⟩⟩
def iR (ft:FT) (body:e8):List D->e8
 | [],r,w=>some (r,w)
 | d::ds,r,w=>(ft d r).bind fun r1=>(body r1 w).bind fun p=>iR ft body ds p.1 p.2
def mH (fi:FI) (ft:FT) (body:e8):e8:=fun r w=>match fi r with
 | .ok ds=>iR ft body ds r w
 | _=>none
theorem zm (hp:PassesOwn (model X.prog X.w) X.A X.env X.xe) (hc:X.calm=true) {ft:FT} {fi:FI} (hi:∀g',gC X g' m tg iter fi) (hg:∀g',SG X g' m tg ft m) (hb:jo X g i m sts f1 m) (hm:m[i]? = some .bw)
  (hs:∀x,foldedSetIterable iter X.env x=pure x:=by intro _; rfl):pA X g i m (.For tg iter sts [] pos) (mH fi ft f1) m:=by
 have hiA:PI X tg iter (fun σ H R=>∃g',tI X g' m fi σ H R):=fun pz s σ H R I ⟨g',q⟩=>hi g' pz s σ H R I q
 have hgA:PG X tg (fun v σ H Q=>∃g',tG X g' m m ft v σ H Q):=fun pz s σ H v u Q I r ⟨g',q⟩=>(hg g').2 pz s σ H v u Q I r q
 refine PS.imp (pT hp hc hiA hgA hb hs) fun D σ H ⟨r,w,G,⟨p,as,R,h0,si,_⟩,r',w',e,k⟩=>⟨_,r,G,si,?_⟩
 unfold mH at e
 cases q:fi r with
 | exc x=>rw [q] at e; cases e
 | stuck=>rw [q] at e; cases e
 | ok ds=>
  rw [q] at e
  intro J G0 H0 w0 Y
  refine ⟨fun j n σ1 H1=>∃r1 w1 G1,gi X g i m r1 w1 G1 σ1 H1/\aJ G0 G1/\j<=ds.length/\n=ds.length - j/\iR ft f1 (ds.drop j) r1 w1=some (r',w'),⟨ds.length,r,w,G0,qR R h0 si w0.ge (si.grow w0) hm,aJ.refl _,Nat.zero_le _,rfl,e⟩,?_⟩
  rintro j n σ1 H1 ⟨r1,w1,G1,S1,le1,hj,rfl,e1⟩
  have S1':=S1
  obtain ⟨p1,as1,R1,h01,si1,_⟩:=S1'
  by_cases hlt:j < ds.length
  ·have hd:ds.drop j=ds[j]::ds.drop (j + 1):=List.drop_eq_getElem_cons hlt
   rw [hd] at e1
   unfold iR at e1
   refine .inr ⟨Y.go G1 H1 j le1 si1.gok hlt,fun σ' H'=>∃r2 w2 G2,gi X g i m r2 w2 G2 σ' H'/\aJ G0 G2/\iR ft f1 (ds.drop (j + 1)) r2 w2=some (r',w'),fun σ' H' ⟨r2,w2,G2,S2,le2,q2⟩=>⟨ds.length - (j + 1),by omega,r2,w2,G2,S2,le2,hlt,rfl,q2⟩,fun x H' y=>?_⟩
   obtain ⟨G',wg,rv⟩:=Y.yld G1 H1 j x H' ds[j] le1 si1.gok y (List.getElem?_eq_getElem hlt)
   cases eft:ft ds[j] r1 with
   | none=>rw [eft] at e1; cases e1
   | some r2=>
    rw [eft] at e1
    simp only [Option.bind_some] at e1
    cases eb:f1 r2 w1 with
    | none=>rw [eb] at e1; cases e1
    | some z=>
     rw [eb] at e1
     refine ⟨_,r1,G',ds[j],si1.grow wg,rv,r2,eft,fun σ2 si2=>⟨r2,w1,G',qR R1 h01 si1 wg.ge si2 hm,z.1,z.2,eb,fun σ3 G3 H3 le3 S3=>⟨z.1,z.2,G3,S3,(le1.trans wg.ge).trans le3,e1⟩⟩⟩
  ·have ej:j=ds.length:=by omega
   subst ej
   rw [List.drop_length] at e1
   cases e1
   exact .inl ⟨Y.stop G1 H1 le1 si1.gok,k σ1 G1 H1 (aJ.trans w0.ge le1) S1⟩
theorem Aa {K:W.Frag} {H:Hp}:∀{as:List Addr} {w:List (List D)} {G:GH},aP K G H->Paired (gD K G H) as w->as.Nodup->(∀b∈as,G b=none)->∃G',aJ G G'/\(∀b,b∉as->G' b=G b)/\aP K G' H/\Paired (fun b ds=>G' b=some (.lst ds)) as w:=by
 intro as
 induction as with
 | nil=>
  intro w G gk h _ _
  cases h
  exact ⟨G,aJ.refl G,fun _ _=>rfl,gk,.nil⟩
 | cons b as ih=>
  intro w G gk h nd un
  cases h with
  | @cons _ ds _ w r t=>
   rw [List.nodup_cons] at nd
   have hb:=un b List.mem_cons_self
   obtain ⟨xs,e,rs⟩:=r
   have g1:aP K (gset G b (.lst ds)) H:=gk.gset hb (.lst (.inl e) rs)
   obtain ⟨G',l,o,g,q⟩:=ih g1 (uS t fun c hc ds r=>r.mono (eQ hb) rfl) nd.2 fun c hc=>by
    rw [eR (by rintro rfl; exact nd.1 hc)]; exact un c (List.mem_cons_of_mem _ hc)
   refine ⟨G',aJ.trans (eQ hb) l,fun c hc=>?_,g,.cons (l _ _ dE) q⟩
   rw [o c fun z=>hc (List.mem_cons_of_mem _ z),eR (by rintro rfl; exact hc List.mem_cons_self)]
theorem BS {G:GH} {as:List Addr} {w:List (List D)} {b:Addr} (hb:b∈as) (q:Paired (fun b ds=>G b=some (.lst ds)) as w):∃ds,G b=some (.lst ds):=by
 induction q with
 | nil=>cases hb
 | cons h _ ih=>
  rcases List.mem_cons.mp hb with rfl | hb
  ·exact ⟨_,h⟩
  ·exact ih hb
theorem uM {fp:List Addr} {p:Addr} {d0:D} (si:SI X (dI g H fp i p) m r G σ H) (hm:m[i]? = some .bw) (h0:∀b∈fp,g.h0 b=none) (hS:∀b∈fp,H b≠none) (hb:∀j,j≠i->m[j]?≠some .bw) (le:aJ G G') (g2:aP X.K G' H) (out:∀b,b∉fp->G' b=G b) (hd:G' p=some d0) :
  SI X g (m.set i .sh) (r.set i (some d0)) G' σ H:=by
 have hlt:i < m.length:=(List.getElem?_eq_some_iff.mp hm).1
 have hst:σ[i]? = some (some (V.ref p)):=(si.lk i (some (V.ref p),none) (by show (if i=i then _ else _)=_; rw [if_pos rfl]) hm).1
 have h0':∀b,b∉fp->(dI g H (fp) i p).h0 b=g.h0 b:=fun b hb=>by show (if b∈fp then H b else g.h0 b)=_; rw [if_neg hb]
 have h0i:∀b,b∈fp->(dI g H (fp) i p).h0 b≠none:=fun b hb=>by show (if b∈fp then H b else g.h0 b)≠_; rw [if_pos hb]; exact hS b hb
 have nin:∀b,g.h0 b≠none->b∉fp:=fun b h z=>h (h0 b z)
 have mne:∀{j x},i≠j->(m.set i .sh)[j]? = some x->m[j]? = some x:=fun hij h=>by rw [List.getElem?_set_ne hij] at h; exact h
 refine ⟨g2,fun a o e=>?_,fun a d e=>le a d (si.ge a d e),fun a h=>?_,by simpa using si.lm,by simpa using si.lr,fun j d h1 h2=>?_,fun j d h1 h2=>?_,fun j d h1 h2=>?_,fun j k a d e hjk h1 h2 m1 m2 z1 z2=>?_,fun j o hj hm'=>?_⟩
 ·exact si.old a o (by rw [h0' a (nin a (by rw [e]; simp))]; exact e)
 ·have hn:=nin a h
  rw [out a hn]
  exact si.gf a (by rw [h0' a hn]; exact h)
 ·by_cases hij:i=j
  ·subst hij
   rw [List.getElem?_set_self (by rw [si.lr,<-si.lm]; exact hlt)] at h1
   cases h1
   exact ⟨_,hst,.ref hd⟩
  ·rw [List.getElem?_set_ne hij] at h1
   obtain ⟨v,y1,y2⟩:=si.sh j d h1 (mne hij h2)
   exact ⟨v,y1,y2.mono le⟩
 ·by_cases hij:i=j
  ·subst hij; rw [List.getElem?_set_self hlt] at h2; cases h2
  ·rw [List.getElem?_set_ne hij] at h1
   obtain ⟨a,y1,y2,y3⟩:=si.ow j d h1 (mne hij h2)
   have hn:a∉fp:=fun z=>h0i a z y3
   exact ⟨a,y1,⟨by rw [out a hn]; exact y2.un,y2.ob.mono le fun _ z=>z⟩,by rw [<-h0' a hn]; exact y3⟩
 ·by_cases hij:i=j
  ·subst hij; rw [List.getElem?_set_self hlt] at h2; cases h2
  ·exact absurd (mne hij h2) (hb j (Ne.symm hij))
 ·have hij:i≠j:=by rintro rfl; rw [List.getElem?_set_self hlt] at m1; cases m1
  have hik:i≠k:=by rintro rfl; rw [List.getElem?_set_self hlt] at m2; cases m2
  rw [List.getElem?_set_ne hij] at h1
  rw [List.getElem?_set_ne hik] at h2
  exact si.dis j k a d e hjk h1 h2 (mne hij m1) (mne hik m2) z1 z2
 ·by_cases hij:i=j
  ·subst hij; rw [List.getElem?_set_self hlt] at hm'; cases hm'
  ·exact absurd (mne hij hm') (hb j (Ne.symm hij))
theorem gi.frz (s:gi X g i m r w G σ H) (hb:∀j,j≠i->m[j]?≠some .bw):∃G',aJ G G'/\(∀b d,G b=none->G' b=some d->∃ds,d=.lst ds)/\SI X g (m.set i .sh) (r.set i (some (.lst (w.map D.lst)))) G' σ H:=by
 obtain ⟨p,as,R,h0,si,hm⟩:=s
 have nd:=List.nodup_cons.mp R.nd
 obtain ⟨G1,l1,o1,g1,q1⟩:=Aa si.gok R.rw nd.2 fun b hb=>R.un b (List.mem_cons_of_mem _ hb)
 have hp1:G1 p=none:=by rw [o1 p nd.1]; exact R.un p List.mem_cons_self
 have rs:bL X.K G1 (as.map V.ref) (w.map D.lst):=by
  have:∀{as:List Addr} {w:List (List D)},Paired (fun b ds=>G1 b=some (.lst ds)) as w->bL X.K G1 (as.map V.ref) (w.map D.lst):=fun {as w} q=>by
   induction q with
   | nil=>exact .nil
   | cons h _ ih=>exact .cons (.ref h) ih
  exact this q1
 have g2:aP X.K (gset G1 p (.lst (w.map D.lst))) H:=g1.gset hp1 (.lst (.inl R.out) rs)
 have le:aJ G (gset G1 p (.lst (w.map D.lst))):=aJ.trans l1 (eQ hp1)
 have out:∀b,b∉p::as->gset G1 p (.lst (w.map D.lst)) b=G b:=fun b hb=>by
  rw [eR (by rintro rfl; exact hb List.mem_cons_self),o1 b fun z=>hb (List.mem_cons_of_mem _ z)]
 refine ⟨_,le,fun b d hn e=>?_,uM si hm h0 (fun b hb=>R.isS hb) hb le g2 out dE⟩
 by_cases hbp:b=p
 ·subst hbp; rw [dE] at e; cases e; exact ⟨_,rfl⟩
 ·rw [eR hbp] at e
  by_cases hba:b∈as
  ·obtain ⟨ds,e1⟩:=BS hba q1
   rw [e1] at e; cases e; exact ⟨_,rfl⟩
  ·rw [o1 b hba,hn] at e; cases e
theorem SI.hold (s:SI X g m r G σ H) (wg:Grow X.K G H G' H') (hlt:i < m.length) {p:Addr} {fp:List Addr} (un:∀b∈fp,G' b=none) (hS:∀b∈fp,H' b≠none) (hn:∀b∈fp,H b=none):SI X (dI g H' fp i p) (m.set i .bw) (r.set i none) G' (σ.set i (some (V.ref p))) H':=by
 have s':=s.grow wg
 have h0':∀b,b∉fp->(dI g H' (fp) i p).h0 b=g.h0 b:=fun b hb=>by show (if b∈fp then H' b else g.h0 b)=_; rw [if_neg hb]
 have h0i:∀b,b∈fp->(dI g H' (fp) i p).h0 b=H' b:=fun b hb=>by show (if b∈fp then H' b else g.h0 b)=_; rw [if_pos hb]
 have mne:∀{j x},i≠j->(m.set i .bw)[j]? = some x->m[j]? = some x:=fun hij h=>by rw [List.getElem?_set_ne hij] at h; exact h
 have rne:∀{j d},(r.set i none)[j]? = some (some d)->i≠j/\r[j]? = some (some d):=fun {j d} h=>by
  by_cases hij:i=j
  ·subst hij
   rw [List.getElem?_set_self (by rw [s.lr,<-s.lm]; exact hlt)] at h; cases h
  ·rw [List.getElem?_set_ne hij] at h; exact ⟨hij,h⟩
 refine ⟨wg.ok,fun a o e=>?_,s'.ge,fun a h=>?_,by simpa using s.lm,by simpa using s.lr,fun j d h1 h2=>?_,fun j d h1 h2=>?_,fun j d h1 h2=>?_,fun j k a d e hjk h1 h2 m1 m2 z1 z2=>?_,fun j o hj hm'=>?_⟩
 ·by_cases ha:a∈fp
  ·rw [h0i a ha] at e; exact e
  ·rw [h0' a ha] at e; exact s'.old a o e
 ·by_cases ha:a∈fp
  ·rw [un a ha]
   show none=g.gh a
   cases e:g.gh a with
   | none=>rfl
   | some d=>exact absurd (hn a ha) (s.gok a d (s.ge a d e)).isS
  ·rw [h0' a ha] at h; exact s'.gf a h
 ·obtain ⟨hij,h1⟩:=rne h1
  rw [List.getElem?_set_ne hij]
  exact s'.sh j d h1 (mne hij h2)
 ·obtain ⟨hij,h1⟩:=rne h1
  rw [List.getElem?_set_ne hij]
  obtain ⟨a,y1,y2,y3⟩:=s.ow j d h1 (mne hij h2)
  have ha:a∉fp:=fun z=>y2.ob.isS (hn a z)
  exact ⟨a,y1,y2.mono wg,by rw [h0' a ha]; exact y3⟩
 ·obtain ⟨hij,h1⟩:=rne h1
  rw [List.getElem?_set_ne hij]
  obtain ⟨v,y1,y2⟩:=s'.bw j d h1 (mne hij h2)
  refine ⟨v,y1,?_⟩
  rcases y2 with y2 | ⟨a,ea,y2,y3⟩
  ·exact .inl y2
  ·refine .inr ⟨a,ea,y2,?_⟩
   by_cases ha:a∈fp
   ·rw [h0i a ha]; exact hS a ha
   ·rw [h0' a ha]; exact y3
 ·obtain ⟨hij,h1⟩:=rne h1
  obtain ⟨hik,h2⟩:=rne h2
  rw [List.getElem?_set_ne hij] at z1
  rw [List.getElem?_set_ne hik] at z2
  exact s.dis j k a d e hjk h1 h2 (mne hij m1) (mne hik m2) z1 z2
 ·by_cases hij:i=j
  ·subst hij
   have hj':(if i=i then some (some (V.ref p),none) else g.hd i)=some o:=hj
   rw [if_pos rfl] at hj'
   cases hj'
   exact ⟨by rw [List.getElem?_set_self (by rw [<-s.lm]; exact hlt)],fun d h=>absurd rfl (rne h).1⟩
  ·have hj':(if j=i then some (some (V.ref p),none) else g.hd j)=some o:=hj
   rw [if_neg (Ne.symm hij)] at hj'
   have:=s.lk j o hj' (mne hij hm')
   exact ⟨by rw [List.getElem?_set_ne hij]; exact this.1,fun d h=>this.2 d (by rw [List.getElem?_set_ne hij] at h; exact h)⟩
theorem SI.new2 (s:SI X g m r G σ H) (wg:Grow X.K G H G' H') (hlt:i < m.length) {p:Addr} {as:List Addr} (R:LRw X.K G' H' p as w) (hn:∀b∈p::as,H b=none):gi X g i (m.set i .bw) (r.set i none) w G' (σ.set i (some (V.ref p))) H':=
 ⟨p,as,R,fun b hb=>s.new (hn b hb),s.hold wg hlt R.un (fun b hb=>R.isS hb) hn,by rw [List.getElem?_set_self hlt]⟩
def rW (X:Cx) (g:GE) (ro:Bool) (mb:List Md) (i:Nat) (m:List Md) (sts:List Stmt) (F:ak->List (List D)->Out) (m':List Md):Prop:=
 m'.length=m.length/\cQ X sts (fun D σ H=>∃r w G,gi X g i m r w G σ H/\cf X g ro m' mb G D (F r w))
def sw (i:Nat) (s:FS):ak->List (List D)->Out:=fun r w=>s (r.set i (some (.lst (w.map D.lst))))
theorem AN (h:gb X g ro mb (m.set i .sh) sts s1 m') (hb:∀j,j≠i->m[j]?≠some .bw):rW X g ro mb i m sts (sw i s1) m':=
 ⟨by simpa using h.1,cQ.imp h.2 fun D σ H ⟨r,w,G,s,q⟩=>by
  obtain ⟨G',le,_,si⟩:=s.frz hb
  exact ⟨_,G',si,cf.gle q le⟩⟩
def mi (f1:e8) (F:ak->List (List D)->Out):ak->List (List D)->Out:=fun r w=>match f1 r w with
 | some p=>F p.1 p.2
 | none=>.stuck
theorem Ba {F:ak->List (List D)->Out} (hl:m1.length=m.length) (h1:pA X g i m st f1 m1) (h2:rW X g ro mb i m1 sts F m'):rW X g ro mb i m (st::sts) (mi f1 F) m':=by
 refine ⟨h2.1.trans hl,cQ.imp (mN h1 h2.2) fun D σ H ⟨r,w,G,si,q⟩=>⟨r,w,G,si,?_⟩⟩
 unfold mi at q
 cases e:f1 r w with
 | none=>rw [e] at q; exact q.elim
 | some z=>
  rw [e] at q
  exact ⟨z.1,z.2,rfl,fun σ' G' H' le si'=>⟨z.1,z.2,G',si',cf.gle q le⟩⟩
def oQ (X:Cx) (g:GE) (i:Nat) (m m1:List Md) (f:ak->Option (ak × List (List D))):TS:=fun D σ H=>∃r G,SI X g m r G σ H/\∃r' w',f r=some (r',w')/\∀σ' G' H',aJ G G'->gi X g i m1 r' w' G' σ' H'->D.nx σ' H'
def mw (f:ak->Option (ak × List (List D))) (F:ak->List (List D)->Out):FS:=fun r=>match f r with
 | some p=>F p.1 p.2
 | none=>.stuck
theorem zt {F:ak->List (List D)->Out} {f:ak->Option (ak × List (List D))} (hl:m1.length=m.length) (h1:PS X st (oQ X g i m m1 f)) (h2:rW X g ro mb i m1 sts F m'):gb X g ro mb m (st::sts) (mw f F) m':=by
 refine ⟨h2.1.trans hl,cQ.imp (mN h1 h2.2) fun D σ H ⟨r,G,si,q⟩=>⟨r,G,si,?_⟩⟩
 unfold mw at q
 cases e:f r with
 | none=>rw [e] at q; exact q.elim
 | some z=>
  rw [e] at q
  exact ⟨z.1,z.2,rfl,fun σ' G' H' le si'=>⟨z.1,z.2,G',si',cf.gle q le⟩⟩
end
def RO (K:W.Frag) (H2:Hp) (p:Addr) (G:GH) (H:Hp) (ws:List V) (ds:List D):Prop:=Paired (fun v d=>∃b,v=V.ref b/\H2 b=none/\b≠p/\Own K G H b d) ws ds/\ws.Nodup
section
variable {K:W.Frag} {H2:Hp} {p:Addr} {G G':GH} {H H':Hp} {ws:List V} {ds:List D}
theorem RO.grow (h:RO K H2 p G H ws ds) (w:Grow K G H G' H'):RO K H2 p G' H' ws ds:=
 ⟨Paired.mono (fun v d ⟨b,e,h1,h2,h3⟩=>⟨b,e,h1,h2,h3.mono w⟩) h.1,h.2⟩
theorem RO.upd {o:HO} (h:RO K H2 p G H ws ds):RO K H2 p G (L2.upd H p o) ws ds:=
 ⟨Paired.mono (fun v d ⟨b,e,h1,h2,h3⟩=>⟨b,e,h1,h2,h3.un,h3.ob.mono (fun _ _ z=>z) fun _ z=>by rw [bH h2]; exact z⟩) h.1,h.2⟩
theorem RO.add (h:RO K H2 p G H ws ds) {a:Addr} {d:D} (w:Grow K G H G' H') (hn:H a=none) (h2:H2 a=none) (hp:a≠p) (ho:Own K G' H' a d):RO K H2 p G' H' (ws++[V.ref a]) (ds++[d]):=by
 refine ⟨Paired.snoc (h.grow w).1 ⟨a,rfl,h2,hp,ho⟩,?_⟩
 rw [List.nodup_append]
 refine ⟨h.2,by simp,?_⟩
 intro x hx y hy e
 rw [List.mem_singleton] at hy
 subst hy
 subst e
 have:∀{ws:List V} {ds:List D},Paired (fun v d=>∃b,v=V.ref b/\H2 b=none/\b≠p/\Own K G H b d) ws ds->V.ref a∈ws->False:=fun {ws ds} q hx=>by
  induction q with
  | nil=>cases hx
  | cons r _ ih=>
   rcases List.mem_cons.mp hx with e | hx
   ·obtain ⟨b,e1,_,_,h3⟩:=r
    rw [<-e] at e1
    cases e1
    exact h3.ob.isS hn
   ·exact ih hx
 exact this h.1 hx
end
def jT:List D->Option (List (List D))
 | []=>some []
 | .lst ds::r=>(jT r).map (ds::·)
 | _=>none
theorem Jx {vs:List D} {w:List (List D)} (h:jT vs=some w):vs=w.map D.lst:=by
 induction vs generalizing w with
 | nil=>cases h; rfl
 | cons v vs ih=>
  cases v with
  | lst ds=>
   have h':(jT vs).map (ds::·)=some w:=h
   cases e:jT vs with
   | none=>rw [e] at h'; cases h'
   | some w'=>rw [e] at h'; cases h'; rw [ih e]; rfl
  | _=>cases h
theorem Kk (w:List (List D)):jT (w.map D.lst)=some w:=by
 induction w with
 | nil=>rfl
 | cons a w ih=>show (jT (w.map D.lst)).map (a::·)=_; rw [ih]; rfl
theorem GX {K:W.Frag} {H2:Hp} {p:Addr} {G:GH} {H:Hp} {w:List (List D)} {ws:List V} (h:Paired (fun v d=>∃b,v=V.ref b/\H2 b=none/\b≠p/\Own K G H b d) ws (w.map D.lst)) :
  ∃as,ws=as.map V.ref/\Paired (gD K G H) as w/\∀b∈as,H2 b=none/\b≠p/\G b=none:=by
 induction w generalizing ws with
 | nil=>cases h; exact ⟨[],rfl,.nil,fun _ z=>nomatch z⟩
 | cons ds w ih=>
  cases h with
  | cons r t=>
   obtain ⟨b,rfl,h1,h2,h3⟩:=r
   obtain ⟨as,rfl,q1,q2⟩:=ih t
   refine ⟨b::as,rfl,.cons ?_ q1,fun c hc=>?_⟩
   ·cases h3.ob with
    | lst e rs=>exact ⟨_,e,rs⟩
   ·rcases List.mem_cons.mp hc with rfl | hc
    ·exact ⟨h1,h2,h3.un⟩
    ·exact q2 c hc
theorem GG {K:W.Frag} {H2:Hp} {p:Addr} {G:GH} {H:Hp} {w:List (List D)} {ws:List V} (h:RO K H2 p G H ws (w.map D.lst)) (hp:H p=some (.lst ws)) (hg:G p=none) (hn:H2 p=none) :
  ∃as,LRw K G H p as w/\∀b∈p::as,H2 b=none:=by
 obtain ⟨as,rfl,q1,q2⟩:=GX h.1
 refine ⟨as,⟨hp,List.nodup_cons.mpr ⟨fun z=>(q2 p z).2.1 rfl,List.Pairwise.of_map V.ref (fun a b h z=>h (by rw [z])) h.2⟩,fun b hb=>?_,q1⟩,fun b hb=>?_⟩
 ·rcases List.mem_cons.mp hb with rfl | hb
  ·exact hg
  ·exact (q2 b hb).2.2
 ·rcases List.mem_cons.mp hb with rfl | hb
  ·exact hn
  ·exact (q2 b hb).1
def mz (i:Nat) (f:FE):ak->Option (ak × List (List D)):=fun r=>match f r with
 | .ok (.lst vs)=>(jT vs).map fun w=>(r.set i none,w)
 | _=>none
section
variable {X:Cx} {g:GE} {m mb:List Md} {scope:Scope} {N':List Str} {nl:Nat} {cap:List Nat} {elt tg iter:Expr} {ifs:List Expr} {pos pos' spos:Pos} {fi:FI} {ft:FT} {q:FQ} {fe:FE} {ro:Bool}
theorem B3 (i:Nat) {y:Str} (hlt:i < m.length) (hN:X.N.Nodup) (hcalm:X.calm=true) (hy:X.N[i]? = some y) (hyl:X.env.scope.names.lookup y=some .local) (sc:CompSc X scope N' nl cap) (hi:iw X g m tg iter fi) (hg:∀s0 H0 cl C fp g',SG (eV X s0 H0 N' scope cl C fp) g' (aM nl cap m) tg ft (aM nl cap m)) (hft:gF ft nl)
  (hq:∀s0 H0 cl C fp g',kZ (eV X s0 H0 N' scope cl C fp) g' (aM nl cap m) ifs q) (he:∀s0 H0 cl C fp g',SO (eV X s0 H0 N' scope cl C fp) g' (aM nl cap m) elt fe)
  (hsw:swapsWith (.ListComp elt [⟨tg,iter,ifs,0⟩] scope pos) (some (.Name y pos')) spos.line X.env=pure true:=by rfl) (hs:∀x,foldedSetIterable iter X.env x=pure x:=by intro _; rfl) :
  PS X (.Assign [.Name y pos'] (.ListComp elt [⟨tg,iter,ifs,0⟩] scope pos) spos) (oQ X g i m (m.set i .bw) (mz i (bU nl cap fi ft q fe))):=by
 intro pz s σ H D0 I h
 obtain ⟨r,G,si,r',w',ef,k⟩:=h
 obtain ⟨cl,hcl,h1,h2⟩:=sc.clo (pz:=pz) (σ:=σ) (H:=H) (s:=s) I.ok
 have k1:fin (fi r) (fun ds=>∃vs,ds.length<=sizeLine/\ff ft q fe (bu nl cap r) ds=.ok vs/\vs=w'.map D.lst/\r'=r.set i none) (XW X σ G H):=by
  unfold mz at ef
  cases e:bU nl cap fi ft q fe r with
  | ok d=>
   rw [e] at ef
   cases d with
   | lst vs=>
    have ef':(jT vs).map (fun w=>(r.set i none,w))=some (r',w'):=ef
    cases ea:jT vs with
    | none=>rw [ea] at ef'; cases ef'
    | some w1=>
     rw [ea] at ef'
     cases ef'
     obtain ⟨ds,vs',z1,z2,z3,z4⟩:=IJ e
     cases z4
     rw [z1]
     exact ⟨vs,z2,z3,Jx ea,rfl⟩
   | _=>cases ef
  | exc x=>rw [e] at ef; cases ef
  | stuck=>rw [e] at ef; cases ef
 rw [exec_Assign_Name_used _ _ _ _ hsw]
 refine wpAny_bind (wpAny_standAt (wpAny_bind ?_))
 show wpAny _ X.A (do let _ <-comprehension (.ListComp elt [⟨tg,iter,ifs,0⟩] scope pos) scope X.env _ (newList []) false (eval iter X.env) (some (assign (.Name y pos') X.env))) _ _ s
 refine wpAny_bind (wpAny_mono (wpAny_comprehension_free (use:=some (assign (.Name y pos') X.env)) (Q:=fun _ s'=>SP X pz D0 .next s') rfl hs hcl sc.kind sc.names (aY (hi pz s σ H (fun J H'=>∃G' ds vs,Grow X.K G H G' H'/\YieldsC X.K J ds G' H'/\ds.length<=sizeLine/\ff ft q fe (bu nl cap r) ds=.ok vs /\
  vs=w'.map D.lst/\r'=r.set i none) I ⟨r,G,si,bz k1 fun ds ⟨vs,z1,z2,z3,z4⟩ J G' H' w y=>⟨G',ds,vs,w,y,z1,z2,z3,z4⟩⟩) fun v s1 hv=>aY hv fun itv s2 hv2=>?_)) (fun _ s' hq=>wpAny_pure (wpAny_pure hq)) fun _ _ e=>e)
 obtain ⟨it,fp,tn,J,H2,rfl,I2,T,st,hf,G2,ds,vs,w2,Y,hsz,hres,hvs,hr'⟩:=hv2
 refine vM (El:=fun K _ H G' H' v d=>∃a,v=V.ref a/\H a=none/\Own K G' H' a d) (Rl:=fun p G H ws ds=>RO X.K H2 p G H ws ds) (fun _ _ _=>⟨.nil,List.nodup_nil⟩) RO.grow (fun h=>Paired.length h.1) (fun h w w2 hp ⟨a,ev,hn,ho⟩=>by subst ev; exact (h.add w hn (w2.back hn) (by rintro rfl; rw [hp] at hn; cases hn) ho).upd) (RR:=fun acc C=>compPost (model X.prog X.w) X.A X.xe (some (assign (.Name y pos') X.env)) (fun _ s'=>SP X pz D0 .next s') acc C) hN hcalm sc h1 h2 I2 (si.grow w2) T st hf Y hsz (fun C=>hg _ _ _ _ _ _) hft (fun C=>hq _ _ _ _ _ _) (fun C=>PE.imp (he _ _ _ _ _ _) fun σ H Q ⟨r,G,si,k⟩=>⟨r,G,si,bz k fun d k a G' H' w hn ho=>k _ G' H' w ⟨a,rfl,hn,ho⟩⟩) hres ?_
 intro p C s' H' G' I' hns hC1 hC2 hC3 hC4 hC5 w' hp ho
 obtain ⟨mm,hn⟩:=hns
 show wpAny _ X.A (assign (.Name y pos') X.env (.ref p)) _ _ s'
 refine wpAny_assign_Name (vB I' hN hy (.inl hyl) (v:=.ref p) rfl (fun s'' I'' ⟨a,hsb,ha⟩=>?_) (.inr hyl))
 have hCa:C≠a:=by
  rcases ha with z | z
  ·rw [z]; exact hC2
  ·exact (hC4 y a z).symm
 refine ⟨mm,hn.sameBut hsb hCa,fun h' hsb'=>?_⟩
 refine ⟨_,H',I''.turned (it:=C) (t':=s''.toks) (fun b o hb e=>hsb'.extBut b o hb e) hC1 hC2 (.inr hC3) hC4 hC5,?_⟩
 obtain ⟨ws,o1,o2,o3⟩:=ho
 subst hvs
 obtain ⟨as,R,fr⟩:=GG o3 o1 o2 hp
 subst hr'
 exact k _ G' H' (w2.trans w').ge (si.new2 (w2.trans w') hlt R fun b hb=>w2.back (fr b hb))
end
theorem A0 {α β:Type} {F F':α->β->Prop} {l:List α} {w:List β} (h:Paired F l w) {j:Nat} {a:α} {y:β} (nd:l.Nodup) (ha:l[j]? = some a) (hy:F' a y) (ho:∀b x,b≠a->F b x->F' b x):Paired F' l (w.set j y):=by
 induction h generalizing j with
 | nil=>cases ha
 | @cons b x l w r t ih=>
  rw [List.nodup_cons] at nd
  cases j with
  | zero=>
   cases ha
   exact .cons hy (uS t fun c hc x q=>ho c x (by rintro rfl; exact nd.1 hc) q)
  | succ j=>
   have ha':l[j]? = some a:=by simpa using ha
   refine .cons (ho b x ?_ r) (ih nd.2 ha')
   rintro rfl
   exact nd.1 (List.mem_of_getElem? ha')
theorem my {m:List Md} {i:Nat} (h:((List.range m.length).all fun j=>j == i || decide (m[j]?≠some Md.bw))=true):∀j,j≠i->m[j]?≠some .bw:=fun j hj e=>by
 have hlt:j < m.length:=(List.getElem?_eq_some_iff.mp e).1
 have:=List.all_eq_true.mp h j (List.mem_range.mpr hlt)
 rw [Bool.or_eq_true,beq_iff_eq,decide_eq_true_iff] at this
 exact this.elim hj fun z=>z e
section
variable {X:Cx} {g:GE} {i:Nat} {m m' m1:List Md} {r r':ak} {w:List (List D)} {G G':GH} {σ σ':L2.Ml} {H H':Hp}
theorem SI.row {p:Addr} {as:List Addr} (R:LRw X.K G H p as w) (si:SI X (dI g H (p::as) i p) m r G σ H) (hm:m[i]? = some .bw) (hb:∀j,j≠i->m[j]?≠some .bw) {b:Addr} (hbm:b∈p::as) (o:HO):SI X (dI g (upd H b o) (p::as) i p) m r G σ (upd H b o):=by
 have un:=R.un b hbm
 have h0':∀c,c∉p::as->(dI g H (p::as) i p).h0 c=g.h0 c:=fun c hc=>by show (if c∈p::as then H c else g.h0 c)=_; rw [if_neg hc]
 have h0i:∀c,c∈p::as->(dI g H (p::as) i p).h0 c=H c:=fun c hc=>by show (if c∈p::as then H c else g.h0 c)=_; rw [if_pos hc]
 have k0':∀c,c∉p::as->(dI g (upd H b o) (p::as) i p).h0 c=g.h0 c:=fun c hc=>by show (if c∈p::as then _ else g.h0 c)=_; rw [if_neg hc]
 have k0i:∀c,c∈p::as->(dI g (upd H b o) (p::as) i p).h0 c=upd H b o c:=fun c hc=>by show (if c∈p::as then upd H b o c else g.h0 c)=_; rw [if_pos hc]
 refine ⟨fun c d e=>?_,fun c u e=>?_,si.ge,fun c h=>?_,si.lm,si.lr,si.sh,fun j d h1 h2=>?_,fun j d h1 h2=>?_,si.dis,si.lk⟩
 ·have hc:c≠b:=by rintro rfl; rw [un] at e; cases e
  exact (si.gok c d e).mono (fun _ _ z=>z) fun u z=>by rw [bH hc]; exact z
 ·by_cases hc:c∈p::as
  ·rw [k0i c hc] at e; exact e
  ·rw [k0' c hc] at e
   have hcb:c≠b:=by rintro rfl; exact hc hbm
   rw [bH hcb]
   exact si.old c u (by rw [h0' c hc]; exact e)
 ·by_cases hc:c∈p::as
  ·exact si.gf c (by rw [h0i c hc]; exact R.isS hc)
  ·rw [k0' c hc] at h
   exact si.gf c (by rw [h0' c hc]; exact h)
 ·obtain ⟨a,q1,q2,q3⟩:=si.ow j d h1 h2
  have ha:a∉p::as:=fun z=>by rw [h0i a z] at q3; exact R.isS z q3
  have hab:a≠b:=by rintro rfl; exact ha hbm
  rw [h0' a ha] at q3
  exact ⟨a,q1,⟨q2.un,q2.ob.mono (fun _ _ z=>z) fun u z=>by rw [bH hab]; exact z⟩,by rw [k0' a ha]; exact q3⟩
 ·by_cases hj:j=i
  ·subst hj
   have:=(si.lk j (some (V.ref p),none) (by show (if j=j then _ else _)=_; rw [if_pos rfl]) hm).2 d h1
   cases this
  ·exact absurd h2 (hb j hj)
variable {ro:Bool} {mb:List Md} {pos p1 p2 p3 p4 p5 p6 p7 p8 p9 p10 p11:Pos} {x xa xb:Str} {jc:Nat}
end
def lessA (H:Hp) (a:Addr):Hp:=fun b=>if b=a then none else H b
theorem IS {H:Hp} {a b:Addr} (h:b≠a):lessA H a b=H b:=if_neg h
theorem Grow.lessA {K:W.Frag} {G G' G2:GH} {H H' H2:Hp} {a:Addr} (w:Grow K G H G' H') (ha:H a=none) (w2:Grow K G' (lessA H' a) G2 H2):Grow K G H G2 H2:=by
 have ne:∀b,H b≠none->b≠a:=fun b h=>by rintro rfl; exact h ha
 have he:∀b o,H b=some o->DL.lessA H' a b=some o:=fun b o e=>by rw [IS (ne b (by rw [e]; simp))]; exact w.he b o e
 refine ⟨w2.ok,fun b o e=>w2.he b o (he b o e),fun b d e=>w2.ge b d (w.ge b d e),fun b h=>?_⟩
 rw [w2.gf b ?_,w.gf b h]
 cases e:H b with
 | none=>exact absurd e h
 | some o=>rw [he b o e]; simp
def L3 (K:W.Frag) (ro:Bool) (ms:List Md) (F:List D->Res D):Sp:=fun vs H Q _=>∃G us a ds d,aP K G H/\vs=us++[V.ref a]/\ArgsOk K G H ms us ds/\Own K G H a d /\
 fin (F (ds++[d])) (fun d'=>∀v G' H',Grow K G (lessA H a) G' H'->RV ro K (lessA H a) G' H' v d'->Q v H') fun _=>False
section
variable {P:Program} {w:World} {K:W.Frag} {mg:Str->Option Value} {base:Heap}
structure CalleeV (P:Program) (w:World) (K:W.Frag) (mg:Str->Option Value) (base:Heap) (x:Str) (ps:List Str) (k:Nat) (ro:Bool) (ms:List Md) (F:List D->Res D):Prop where
 ex:∃f fd,mg x=some (.ref f)/\W.keepIn K (.ref f)=true/\jt K fd ps []/\FnOk P w K mg base bP k f fd ps (L3 K ro ms F)
end
theorem LRw.grow {K:W.Frag} {G G':GH} {H H':Hp} {p:Addr} {as:List Addr} {w:List (List D)} (R:LRw K G H p as w) (wg:Grow K G H G' H'):LRw K G' H' p as w:=by
 refine R.mono wg.ge (fun b hb=>?_) fun b hb=>by rw [wg.gf b (R.isS hb)]; exact R.un b hb
 cases e:H b with
 | none=>exact absurd e (R.isS hb)
 | some o=>rw [wg.he b o e]
inductive Cln:D->Prop where
 | non:Cln .non
 | bl (b:Bool):Cln (.bl b)
 | int (i:Int):Cln (.int i)
 | str (x:Str):Cln (.str x)
 | tup {ds:List D}:(∀d∈ds,Cln d)->Cln (.tup ds)
theorem Cln.lst {ds:List D} (h:Cln (.lst ds)):False:=nomatch h
theorem Cln.dic {ds:List (aD × D)} (h:Cln (.dic ds)):False:=nomatch h
theorem Cln.get {ds:List D} (h:Cln (.tup ds)):∀d∈ds,Cln d:=by
 cases h with
 | tup h=>exact h
theorem yl (a b:Int):Cln (.tup [.int a,.int b]):=.tup fun d hd=>by
 rcases List.mem_cons.mp hd with rfl | hd
 ·exact .int a
 ·rw [List.mem_singleton.mp hd]; exact .int b
open Classical in
theorem yQ {K:W.Frag} {G G1 G':GH} {H H':Hp} (gk:aP K G H) (le:aJ G G1) (hx:∀b d,G b=none->G1 b=some d->¬ Cln d) (w:Grow K G1 H G' H') :
  ∃G2,Grow K G H G2 H'/\∀v d,Cln d->RG K G' v d->RG K G2 v d:=by
 have key:∀v d,Cln d->RG K G' v d->RG K (fun b=>if G b≠none then G b else if H b≠none then none else if ∃d,G' b=some d/\Cln d then G' b else none) v d:=fun v d hc h=>by
  cases h with
  | scl s=>exact .scl s
  | kc k=>exact .kc k
  | @ref a _ e=>
   refine .ref ?_
   show (if G a≠none then G a else _)=some d
   by_cases h1:G a=none
   ·rw [if_neg (fun z=>z h1)]
    by_cases h2:H a=none
    ·rw [if_neg (fun z=>z h2),if_pos ⟨d,e,hc⟩]; exact e
    ·rw [w.gf a h2] at e
     exact absurd hc (hx a d h1 e)
   ·rw [if_pos h1]
    cases q:G a with
    | none=>exact absurd q h1
    | some d'=>rw [w.ge a d' (le a d' q)] at e; exact e
 have keys:∀vs ds,(∀d∈ds,Cln d)->bL K G' vs ds->bL K (fun b=>if G b≠none then G b else if H b≠none then none else if ∃d,G' b=some d/\Cln d then G' b else none) vs ds:=fun vs ds hc h=>by
  induction h with
  | nil=>exact .nil
  | cons r _ ih=>exact .cons (key _ _ (hc _ List.mem_cons_self) r) (ih fun d hd=>hc d (List.mem_cons_of_mem _ hd))
 have ge:aJ G fun b=>if G b≠none then G b else if H b≠none then none else if ∃d,G' b=some d/\Cln d then G' b else none:=fun a d e=>by
  show (if G a≠none then G a else _)=some d
  rw [if_pos (by rw [e]; simp)]; exact e
 refine ⟨_,⟨fun a d e=>?_,w.he,ge,fun a h=>?_⟩,key⟩
 ·have e':(if G a≠none then G a else if H a≠none then none else if ∃d,G' a=some d/\Cln d then G' a else none)=some d:=e
  by_cases h1:G a=none
  ·rw [if_neg (fun z=>z h1)] at e'
   by_cases h2:H a=none
   ·rw [if_neg (fun z=>z h2)] at e'
    by_cases h3:∃d,G' a=some d/\Cln d
    ·rw [if_pos h3] at e'
     obtain ⟨d',q1,q2⟩:=h3
     rw [q1] at e'; cases e'
     have ob:=w.ok a d q1
     cases ob with
     | lst _ _=>exact q2.lst.elim
     | dic _ _=>exact q2.dic.elim
     | exc _ _ _=>exact absurd q2 (by intro z; cases z)
     | fld _ _=>exact absurd q2 (by intro z; cases z)
     | tup r s=>exact .tup r (keys _ _ q2.get s)
    ·rw [if_neg h3] at e'; cases e'
   ·rw [if_pos h2] at e'; cases e'
  ·rw [if_pos h1] at e'
   exact (gk a d e').mono ge fun o z=>w.he a o z
 ·show (if G a≠none then G a else _)=G a
  by_cases h1:G a=none
  ·rw [if_neg (fun z=>z h1),if_pos h,h1]
  ·rw [if_pos h1]
section
variable {X:Cx} {g:GE} {i:Nat} {m m' m1:List Md} {r r':ak} {w:List (List D)} {G G':GH} {σ σ':L2.Ml} {H H':Hp} {e:Expr} {f:FE} {st:Stmt} {pos p1 p2 p3 p4 p5 p6 p7 p8 p9 p10:Pos} {x xa xb y:Str}
theorem gi.after (s:gi X g i m r w G σ H) (wg:Grow X.K G H G' H'):gi X g i m r w G' σ H':=by
 obtain ⟨p,as,R,h0,si,hm⟩:=s
 exact qR R h0 si wg.ge (si.grow wg) hm
abbrev jg (i:Nat) (r:ak) (w:List (List D)):ak:=r.set i (some (.lst (w.map D.lst)))
def LR (X:Cx) (g:GE) (i:Nat) (m:List Md) (f:FE):TE:=fun σ H Q=>∃r w G,gi X g i m r w G σ H/\∃d,f (jg i r w)=.ok d/\Cln d/\∀v G' H',Grow X.K G H G' H'->RG X.K G' v d->gi X g i m r w G' σ H'->Q v H'
theorem GN (hb:∀j,j≠i->m[j]?≠some .bw) (h:∀g',SE X g' (m.set i .sh) e f):PE X e (LR X g i m f):=by
 refine PE.imp (h g) fun σ H Q ⟨r,w,G,s,d,e,hc,k⟩=>?_
 have gk:aP X.K G H:=by obtain ⟨p,as,R,h0,si,hm⟩:=s; exact si.gok
 obtain ⟨G1,le,hx,si⟩:=s.frz hb
 refine ⟨_,G1,si,?_⟩
 rw [e]
 intro v G' H' wg rv
 obtain ⟨G2,w2,q⟩:=yQ gk le (fun b d h1 h2 hc=>by obtain ⟨ds,rfl⟩:=hx b d h1 h2; exact hc.lst) wg
 exact k v G2 H' w2 (q v d hc rv) (s.after w2)
def lu (w:List (List D)) (x y:Int) (d:D):Option (List (List D)):=(c6 w.length x).bind fun j=>(w[j]?).bind fun row=>(c6 row.length y).map fun k=>w.set j (row.set k d)
theorem JT {w':List (List D)} {x y:Int} {d:D} (h:lu w x y d=some w'):∃j row k,c6 w.length x=some j/\w[j]? = some row/\c6 row.length y=some k/\w'=w.set j (row.set k d):=by
 unfold lu at h
 cases e1:c6 w.length x with
 | none=>rw [e1] at h; cases h
 | some j=>
  rw [e1] at h
  simp only [Option.bind_some] at h
  cases e2:w[j]? with
  | none=>rw [e2] at h; cases h
  | some row=>
   rw [e2] at h
   simp only [Option.bind_some] at h
   cases e3:c6 row.length y with
   | none=>rw [e3] at h; cases h
   | some k=>rw [e3] at h; cases h; exact ⟨j,row,k,rfl,e2,e3,rfl⟩
open Classical in
def jR (i a b:Nat) (f:FE):e8:=fun r w=>match r[a]?,r[b]?,f (jg i r w) with
 | some (some (.int x)),some (some (.int y)),.ok d=>if Cln d then (lu w x y d).map fun w'=>(r,w') else none
 | _,_,_=>none
theorem Ir {a b:Nat} {w':List (List D)} (h:jR i a b f r w=some (r',w')):∃x y d,r[a]? = some (some (.int x))/\r[b]? = some (some (.int y))/\f (jg i r w)=.ok d/\Cln d/\lu w x y d=some w'/\r'=r:=by
 unfold jR at h
 split at h
 ·rename_i x y d e1 e2 e3
  by_cases hc:Cln d
  ·rw [if_pos hc] at h
   cases e4:lu w x y d with
   | none=>rw [e4] at h; cases h
   | some w1=>rw [e4] at h; cases h; exact ⟨x,y,d,e1,e2,e3,hc,e4,rfl⟩
  ·rw [if_neg hc] at h; cases h
 ·cases h
theorem AY (a b:Nat) (hm:m[i]? = some .bw) (hb:∀j,j≠i->m[j]?≠some .bw) (hma:m[a]? = some .sh) (hmb:m[b]? = some .sh) (hN:X.N[i]? = some x) (hv:f8 X.env.scope x) (hNa:X.N[a]? = some xa) (hva:f8 X.env.scope xa) (hNb:X.N[b]? = some xb) (hvb:f8 X.env.scope xb) (h:∀g',SE X g' (m.set i .sh) e f)
  (hd:(x == ("__debug__" : Str))=false:=by decide) (hcd:(x == ("__classdict__" : Str))=false:=by decide) (hda:(xa == ("__debug__" : Str))=false:=by decide) (hcda:(xa == ("__classdict__" : Str))=false:=by decide) (hdb:(xb == ("__debug__" : Str))=false:=by decide) (hcdb:(xb == ("__classdict__" : Str))=false:=by decide)
  (hpa':nC (.Name xa p7):=by intro _ _; rfl)
  (ha:∀v,assign (.Subscript (.Subscript (.Name x p6) (.Name xa p7) p8) (.Name xb p9) p10) X.env v=(do
   let ov <-holding [v] (eval (.Subscript (.Name x p6) (.Name xa p7) p8) X.env)
   let iv <-holding [v,ov] (eval (.Name xb p9) X.env)
   standAt p10
   holding [v,ov,iv] (setItem ov iv v)
   release [v,ov,iv] []):=by intro _; rfl)
  (hs:swapsWithSole [.Subscript (.Subscript (.Name x p6) (.Name xa p7) p8) (.Name xb p9) p10] e pos.line X.env=pure false:=by rfl)
  (hw:swappedStores [.Subscript (.Subscript (.Name x p6) (.Name xa p7) p8) (.Name xb p9) p10] e X.env=pure none:=by rfl)
  (h1:(assignEach [.Subscript (.Subscript (.Name x p6) (.Name xa p7) p8) (.Name xb p9) p10] X.env).map (·.2)=[assign (.Subscript (.Subscript (.Name x p6) (.Name xa p7) p8) (.Name xb p9) p10) X.env]:=by rfl) :
  pA X g i m (.Assign [.Subscript (.Subscript (.Name x p6) (.Name xa p7) p8) (.Name xb p9) p10] e pos) (jR i a b f) m:=by
 refine PS.imp (pS (GN (g:=g) hb h) (sM (se tT (jE hN hv hd hcd) (jE hNa hva hda hcda) hpa') (jE hNb hvb hdb hcdb) uO ha) hs hw h1) fun D0 σ H ⟨r,w,G,s,r',w',e,k⟩=>?_
 obtain ⟨va,vb,d,ea,eb,ef,hc,ep,rfl⟩:=Ir e
 refine ⟨r',w,G,s,d,ef,hc,fun v G' H' wg rv s'=>?_⟩
 obtain ⟨p,as,R,h0,si,_⟩:=s'
 have hst:σ[i]? = some (some (V.ref p)):=(si.lk i (some (V.ref p),none) (by show (if i=i then _ else _)=_; rw [if_pos rfl]) hm).1
 obtain ⟨j,row,k1,z1,z2,z3,rfl⟩:=JT ep
 obtain ⟨ua,sa,ra⟩:=si.sh a _ ea hma
 obtain ⟨ub,sb,rb⟩:=si.sh b _ eb hmb
 have ra:=ra.int si.gok
 have rb:=rb.int si.gok
 subst ra
 subst rb
 obtain ⟨q,hq,xs,hx,rs⟩:=Paired.get R.rw z2
 have hl:(as.map V.ref).length=w.length:=by rw [List.length_map]; exact Paired.length R.rw
 have at1:eY (as.map V.ref) va=some (V.ref q):=by
  unfold eY
  rw [hl,z1]
  show (as.map V.ref)[j]? = _
  rw [List.getElem?_map,hq]; rfl
 have hlx:=Paired.length rs
 have hqm:q∈as:=List.mem_of_getElem? hq
 have nd:=List.nodup_cons.mp R.nd
 have hqp:q≠p:=by rintro rfl; exact nd.1 hqm
 refine ⟨_,hst,_,sa,p,_,va,_,rfl,rfl,aZ.of R.out,at1,_,sb,q,xs,vb,k1,rfl,rfl,hx,by rw [hlx]; exact z3,?_⟩
 refine k σ G' _ wg.ge ⟨p,as,⟨by rw [bH (Ne.symm hqp)]; exact R.out,R.nd,R.un,?_⟩,h0,SI.row R si hm hb (List.mem_cons_of_mem _ hqm) _,hm⟩
 refine A0 R.rw nd.2 hq ⟨_,cy,Paired.st rv _ rs⟩ fun b' x' hne ⟨xs',e1,e2⟩=>⟨xs',by rw [bH hne]; exact e1,e2⟩
end
structure TL (K:W.Frag) (G:GH) (H:Hp) (p a:Addr) (d1:D) (ds:List D):Prop where
 tp:∃x xs,H p=some (.tup [x,.ref a])/\RG K G x d1/\H a=some (.lst xs)/\bL K G xs ds
 un:∀b∈[p,a],G b=none
 ne:p≠a
theorem TL.isS {K:W.Frag} {G:GH} {H:Hp} {p a:Addr} {d1:D} {ds:List D} (t:TL K G H p a d1 ds):∀b∈[p,a],H b≠none:=fun b hb=>by
 obtain ⟨x,xs,h1,_,h2,_⟩:=t.tp
 rcases List.mem_cons.mp hb with rfl | hb
 ·rw [h1]; simp
 ·rw [List.mem_singleton.mp hb,h2]; simp
def RW (K:W.Frag) (H0:Hp) (G:GH) (H:Hp) (v:V) (d:D):Prop:=∃p a d1 ds,v=.ref p/\d=.tup [d1,.lst ds]/\(∀b∈[p,a],H0 b=none)/\TL K G H p a d1 ds
def L1 (K:W.Frag) (ms:List Md) (F:List D->Res D):Sp:=fun vs H Q _=>∃G ds,aP K G H/\ArgsOk K G H ms vs ds/\fin (F ds) (fun d=>∀v G' H',Grow K G H G' H'->RW K H G' H' v d->Q v H') fun _=>False
abbrev FW:=ak->Res D
section
variable {P:Program} {w:World} {K:W.Frag} {mg:Str->Option Value} {base:Heap}
structure CalleeW (P:Program) (w:World) (K:W.Frag) (mg:Str->Option Value) (base:Heap) (x:Str) (ps:List Str) (k:Nat) (ms:List Md) (F:List D->Res D):Prop where
 ex:∃f fd,mg x=some (.ref f)/\W.keepIn K (.ref f)=true/\jt K fd ps []/\FnOk P w K mg base bP k f fd ps (L1 K ms F)
end
section
variable {X:Cx} {g:GE} {ro:Bool} {i:Nat} {m m' m1 mb ms:List Md} {r r':ak} {G G':GH} {σ σ':L2.Ml} {H H':Hp} {e c:Expr} {es:List Expr} {q:FQ} {st:Stmt} {sts sts1:List Stmt} {fl:ak->Res (List D)} {F:List D->Res D} {k:Nat} {ps:List Str} {pos p1 p2 p3 p4 apos cpos:Pos} {x y:Str} {d1:D} {ds:List D}
def Dk (X:Cx) (g:GE) (i:Nat) (m:List Md) (r:ak) (d1:D) (ds:List D) (G:GH) (st:L2.Ml) (H:Hp):Prop:=
 ∃p a,TL X.K G H p a d1 ds/\(∀b∈[p,a],g.h0 b=none)/\SI X (dI g H [p,a] i p) m r G st H/\m[i]? = some .bw
theorem Dk.frz (s:Dk X g i m r d1 ds G σ H) (hb:∀j,j≠i->m[j]?≠some .bw):∃G',aJ G G'/\(∀b d,G b=none->G' b=some d->¬ Cln d)/\SI X g (m.set i .sh) (r.set i (some (.tup [d1,.lst ds]))) G' σ H:=by
 obtain ⟨p,a,t,h0,si,hm⟩:=s
 obtain ⟨x,xs,h1,h2,h3,h4⟩:=t.tp
 have ua:=t.un a (List.mem_cons_of_mem _ List.mem_cons_self)
 have up:=t.un p List.mem_cons_self
 have g1:aP X.K (gset G a (.lst ds)) H:=si.gok.gset ua (.lst (.inl h3) h4)
 have up1:gset G a (.lst ds) p=none:=by rw [eR t.ne]; exact up
 have g2:aP X.K (gset (gset G a (.lst ds)) p (.tup [d1,.lst ds])) H:=g1.gset up1 (.tup (.inl h1) (.cons (h2.mono (eQ ua)) (.cons (.ref dE) .nil)))
 refine ⟨_,aJ.trans (eQ ua) (eQ up1),fun b d hn e hc=>?_,uM si hm h0 t.isS hb (aJ.trans (eQ ua) (eQ up1)) g2 (fun b hb=>?_) dE⟩
 ·by_cases hbp:b=p
  ·subst hbp; rw [dE] at e; cases e
   exact (hc.get _ (List.mem_cons_of_mem _ List.mem_cons_self)).lst
  ·rw [eR hbp] at e
   by_cases hba:b=a
   ·subst hba; rw [dE] at e; cases e; exact hc.lst
   ·rw [eR hba,hn] at e; cases e
 ·rw [eR (by rintro rfl; exact hb List.mem_cons_self),eR (by rintro rfl; exact hb (List.mem_cons_of_mem _ List.mem_cons_self))]
end
end DL
section
namespace DL
section
open PySem PyProof.Rows PySem.W PySem.Calls
variable {prog:Program} {w:World} {A:Around} {E:Value->Shared->Prop} {s:Shared} {l:Addr} {vs:List Value} {ns:List Int}
end
open PySem PySem.Spec PyProof.Rows L2
end DL
end
section
namespace DL
section
open PySem PyProof.Rows
variable {prog:Program} {w:World} {A:Around} {R:Result->Shared->Prop} {I S:Addr} {fp wr:List Addr} {n:Nat} {P:Nat->Value->Prop} {Ml:Nat->Heap->Prop} {TP:Heap->Prop} {bt:Nat->Nat->Bool}
def qe (wr:List Addr) (S:Addr) (h h':Heap):Prop:=∀b o,b∉wr->b≠S->h.get? b=some o->h'.get? b=some o
theorem qe.trans {h h1 h2:Heap} (a:qe wr S h h1) (b:qe wr S h1 h2):qe wr S h h2:=fun c o hc hs e=>b c o hc hs (a c o hc hs e)
end
end DL
end
namespace DL
open PySem PySem.Spec PyProof.Rows L2
theorem zq {α:Type} {l:List α} {j:Nat} {a:α} (h:l[j]? = some a):l.set j a=l:=by
 refine List.ext_getElem? fun n=>?_
 by_cases hn:j=n
 ·subst hn; rw [List.getElem?_set_self (List.getElem?_eq_some_iff.mp h).1,h]
 ·rw [List.getElem?_set_ne hn]
def fG (X:Cx) (g:GE) (i jr:Nat) (m:List Md) (r:ak) (w:List (List D)) (k:Nat) (G:GH) (st:L2.Ml) (H:Hp):Prop:=
 ∃p as q,LRw X.K G H p as w/\(∀b∈p::as,g.h0 b=none)/\SI X (dI g H (p::as) i p) m r G st H/\as[k]? = some q/\st[jr]? = some (some (V.ref q))/\m[i]? = some .bw/\m[jr]? = some .sh/\r[jr]? = some none
abbrev nk (i jr:Nat) (r:ak) (w:List (List D)) (k:Nat):ak:=(jg i r w).set jr (some (.lst (w.getD k [])))
section
variable {X:Cx} {g:GE} {i jr k:Nat} {m m' m1:List Md} {r r':ak} {w:List (List D)} {G G':GH} {σ σ':L2.Ml} {H H':Hp} {e ie:Expr} {f fi:FE} {st:Stmt} {sts:List Stmt} {pos p1 p2 p3 p4 p5 p6 p7 p8 p9 p10:Pos} {x y:Str}
theorem SI.slot {v:V} (s:SI X g m r G σ H) (hm:m[i]? = some .sh):SI X g m (r.set i none) G (σ.set i (some v)) H:=by
 have key:∀{j:Nat} {d:D},(r.set i none)[j]? = some (some d)->i≠j/\r[j]? = some (some d):=fun {j d} h=>by
  have hij:i≠j:=by
   rintro rfl
   rw [List.getElem?_set,if_pos rfl] at h
   split at h <;> cases h
  rw [List.getElem?_set_ne hij] at h
  exact ⟨hij,h⟩
 refine ⟨s.gok,s.old,s.ge,s.gf,by rw [List.length_set]; exact s.lm,by rw [List.length_set,List.length_set]; exact s.lr,fun j d h hj=>?_,fun j d h hj=>?_,fun j d h hj=>?_,fun j k a d e hjk h1 h2 m1 m2 q1 q2=>?_,fun j o h hj=>?_⟩
 ·obtain ⟨hij,h⟩:=key h
  rw [List.getElem?_set_ne hij]; exact s.sh j d h hj
 ·obtain ⟨hij,h⟩:=key h
  rw [List.getElem?_set_ne hij]; exact s.ow j d h hj
 ·obtain ⟨hij,h⟩:=key h
  rw [List.getElem?_set_ne hij]; exact s.bw j d h hj
 ·obtain ⟨z1,h1⟩:=key h1
  obtain ⟨z2,h2⟩:=key h2
  rw [List.getElem?_set_ne z1] at q1
  rw [List.getElem?_set_ne z2] at q2
  exact s.dis j k a d e hjk h1 h2 m1 m2 q1 q2
 ·have hij:i≠j:=by rintro rfl; rw [hm] at hj; cases hj
  obtain ⟨q1,q2⟩:=s.lk j o h hj
  exact ⟨by rw [List.getElem?_set_ne hij]; exact q1,fun d hd=>q2 d (by rw [List.getElem?_set_ne hij] at hd; exact hd)⟩
theorem fG.after (s:fG X g i jr m r w k G σ H) (wg:Grow X.K G H G' H'):fG X g i jr m r w k G' σ H':=by
 obtain ⟨p,as,q,R,h0,si,h1,h2,h3,h4,h5⟩:=s
 have he:∀b∈p::as,H' b=H b:=fun b hb=>by
  cases e:H b with
  | none=>exact absurd e (R.isS hb)
  | some o=>rw [wg.he b o e]
 exact ⟨p,as,q,R.grow wg,h0,by rw [uL he]; exact si.grow wg,h1,h2,h3,h4,h5⟩
theorem fG.frz (s:fG X g i jr m r w k G σ H) (hb:∀j,j≠i->m[j]?≠some .bw):∃G',aJ G G'/\(∀b d,G b=none->G' b=some d->∃ds,d=.lst ds)/\SI X g (m.set i .sh) (nk i jr r w k) G' σ H:=by
 obtain ⟨p,as,q,R,h0,si,ha,hs,hm,hmj,hr⟩:=s
 have nd:=List.nodup_cons.mp R.nd
 obtain ⟨G1,l1,o1,g1,q1⟩:=Aa si.gok R.rw nd.2 fun b hb=>R.un b (List.mem_cons_of_mem _ hb)
 have hp1:G1 p=none:=by rw [o1 p nd.1]; exact R.un p List.mem_cons_self
 have rs:bL X.K G1 (as.map V.ref) (w.map D.lst):=by
  have:∀{as:List Addr} {w:List (List D)},Paired (fun b ds=>G1 b=some (.lst ds)) as w->bL X.K G1 (as.map V.ref) (w.map D.lst):=fun {as w} q=>by
   induction q with
   | nil=>exact .nil
   | cons h _ ih=>exact .cons (.ref h) ih
  exact this q1
 have g2:aP X.K (gset G1 p (.lst (w.map D.lst))) H:=g1.gset hp1 (.lst (.inl R.out) rs)
 have le:aJ G (gset G1 p (.lst (w.map D.lst))):=aJ.trans l1 (eQ hp1)
 have out:∀b,b∉p::as->gset G1 p (.lst (w.map D.lst)) b=G b:=fun b hb=>by
  rw [eR (by rintro rfl; exact hb List.mem_cons_self),o1 b fun z=>hb (List.mem_cons_of_mem _ z)]
 have hk:k < w.length:=by rw [<-Paired.length q1]; exact (List.getElem?_eq_some_iff.mp ha).1
 have hw:w[k]? = some (w.getD k []):=by rw [List.getD_eq_getElem?_getD,List.getElem?_eq_getElem hk]; rfl
 obtain ⟨q',hq',hg'⟩:=Paired.get q1 hw
 rw [ha] at hq'
 cases hq'
 have S:=uM si hm h0 (fun b hb=>R.isS hb) hb le g2 out dE
 have S2:=S.set jr (v:=.ref q) (.ref (eQ hp1 _ _ hg'))
 have hji:i≠jr:=by rintro rfl; rw [hm] at hmj; cases hmj
 rw [zq (by rw [List.getElem?_set_ne hji]; exact hmj),zq hs] at S2
 refine ⟨_,le,fun b d hn e=>?_,S2⟩
 by_cases hbp:b=p
 ·subst hbp; rw [dE] at e; cases e; exact ⟨_,rfl⟩
 ·rw [eR hbp] at e
  by_cases hba:b∈as
  ·obtain ⟨ds,e1⟩:=BS hba q1
   rw [e1] at e; cases e; exact ⟨_,rfl⟩
  ·rw [o1 b hba,hn] at e; cases e
def xH (X:Cx) (g:GE) (i jr:Nat) (m:List Md) (f:FE):TE:=fun σ H Q=>∃r w k G,fG X g i jr m r w k G σ H/\∃d,f (nk i jr r w k)=.ok d/\Cln d/\∀v G' H',Grow X.K G H G' H'->RG X.K G' v d->Q v H'
theorem Ih (hb:∀j,j≠i->m[j]?≠some .bw) (h:∀g',SE X g' (m.set i .sh) e f):PE X e (xH X g i jr m f):=by
 refine PE.imp (h g) fun σ H Q ⟨r,w,k,G,s,d,e,hc,kk⟩=>?_
 have gk:aP X.K G H:=by obtain ⟨p,as,q,R,h0,si,hm⟩:=s; exact si.gok
 obtain ⟨G1,le,hx,si⟩:=s.frz hb
 refine ⟨_,G1,si,?_⟩
 rw [e]
 intro v G' H' wg rv
 obtain ⟨G2,w2,q⟩:=yQ gk le (fun b d h1 h2 hc=>by obtain ⟨ds,rfl⟩:=hx b d h1 h2; exact hc.lst) wg
 exact kk v G2 H' w2 (q v d hc rv)
abbrev FA:=ak->List (List D)->Nat->Option (List (List D))
def De (X:Cx) (g:GE) (i jr:Nat) (m:List Md) (f:FA):TS:=fun D σ H=>∃r w k G,fG X g i jr m r w k G σ H/\∃w',f r w k=some w'/\∀σ' G' H',aJ G G'->fG X g i jr m r w' k G' σ' H'->D.nx σ' H'
def LZ (X:Cx) (g:GE) (i jr:Nat) (m:List Md) (f:FA):TS:=fun D σ H=>∃r w k G,fG X g i jr m r w k G σ H/\∃w',f r w k=some w'/\∀σ' G' H',aJ G G'->gi X g i m r w' G' σ' H'->D.nx σ' H'
def kw (X:Cx) (g:GE) (i jr:Nat) (m:List Md) (sts:List Stmt) (f:FA):Prop:=cQ X sts (LZ X g i jr m f)
def lW:FA:=fun _ w _=>some w
def kC (f1 f2:FA):FA:=fun r w k=>(f1 r w k).bind fun w1=>f2 r w1 k
open Classical in
def du (i jr:Nat) (f fi:FE):FA:=fun r w k=>match f (nk i jr r w k),fi r with
 | .ok d,.ok (.int y)=>if Cln d then (c6 (w.getD k []).length y).map fun k1=>w.set k ((w.getD k []).set k1 d) else none
 | _,_=>none
theorem GU {w':List (List D)} (h:du i jr f fi r w k=some w'):∃d y k1,f (nk i jr r w k)=.ok d/\fi r=.ok (.int y)/\Cln d/\c6 (w.getD k []).length y=some k1/\w'=w.set k ((w.getD k []).set k1 d):=by
 unfold du at h
 split at h
 ·rename_i d y e1 e2
  by_cases hc:Cln d
  ·rw [if_pos hc] at h
   cases e4:c6 (w.getD k []).length y with
   | none=>rw [e4] at h; cases h
   | some k1=>rw [e4] at h; cases h; exact ⟨d,y,k1,e1,e2,hc,e4,rfl⟩
  ·rw [if_neg hc] at h; cases h
 ·cases h
theorem Gp:kw X g i jr m [] lW:=cQ.imp tX fun D σ H ⟨r,w,k,G,⟨p,as,q,R,h0,si,h1,h2,h3,h4,h5⟩,w',e,kk⟩=>by
 cases e
 exact kk σ G H (aJ.refl G) ⟨p,as,R,h0,si,h3⟩
theorem AZ {f1 f2:FA} (h1:PS X st (De X g i jr m f1)) (h2:kw X g i jr m sts f2):kw X g i jr m (st::sts) (kC f1 f2):=by
 refine cQ.imp (mN h1 h2) fun D σ H ⟨r,w,k,G,si,w',e,kk⟩=>⟨r,w,k,G,si,?_⟩
 unfold kC at e
 cases q:f1 r w k with
 | none=>rw [q] at e; cases e
 | some z=>
  rw [q] at e
  exact ⟨z,rfl,fun σ' G' H' le si'=>⟨r,z,k,G',si',w',e,fun σ2 G2 H2 le2 si2=>kk σ2 G2 H2 (le.trans le2) si2⟩⟩
theorem zo (hb:∀j,j≠i->m[j]?≠some .bw) (hN:X.N[jr]? = some y) (hv:f8 X.env.scope y) (h:∀g',SE X g' (m.set i .sh) e f) (hi:∀g',SE X g' m ie fi)
  (hd:(y == ("__debug__" : Str))=false:=by decide) (hcd:(y == ("__classdict__" : Str))=false:=by decide)
  (ha:∀v,assign (.Subscript (.Name y p6) ie p10) X.env v=(do
   let ov <-holding [v] (eval (.Name y p6) X.env)
   let iv <-holding [v,ov] (eval ie X.env)
   standAt p10
   holding [v,ov,iv] (setItem ov iv v)
   release [v,ov,iv] []):=by intro _; rfl)
  (hs:swapsWithSole [.Subscript (.Name y p6) ie p10] e pos.line X.env=pure false:=by rfl)
  (hw:swappedStores [.Subscript (.Name y p6) ie p10] e X.env=pure none:=by rfl)
  (h1:(assignEach [.Subscript (.Name y p6) ie p10] X.env).map (·.2)=[assign (.Subscript (.Name y p6) ie p10) X.env]:=by rfl) :
  PS X (.Assign [.Subscript (.Name y p6) ie p10] e pos) (De X g i jr m (du i jr f fi)):=by
 have hiA:PE X ie (fun σ H Q=>∃g',tE X g' m fi σ H Q):=fun pz s σ H Q I ⟨g',k⟩=>hi g' pz s σ H Q I k
 refine PS.imp (pS (Ih (g:=g) (jr:=jr) hb h) (sM (jE hN hv hd hcd) hiA uO ha) hs hw h1) fun D0 σ H ⟨r,w,k,G,s,w',e,kk⟩=>?_
 obtain ⟨d,vb,k1,ef,ei,hc,ek,rfl⟩:=GU e
 refine ⟨r,w,k,G,s,d,ef,hc,fun v G1 H1 wg1 rv=>?_⟩
 have s1:=s.after wg1
 have s1':=s1
 obtain ⟨p,as,q,R,h0,si,hq,hst,hm,hmj,hr⟩:=s1'
 refine ⟨_,hst,_,r,G1,si,?_⟩
 rw [ei]
 intro vi G2 H2 wg2 ri
 have gk2:aP X.K G2 H2:=wg2.ok
 have ri:=ri.int gk2
 subst ri
 obtain ⟨p,as,q,R,h0,si,hq,hst',hm,hmj,hr⟩:=s1.after wg2
 rw [hst'] at hst
 cases hst
 have hk:k < w.length:=by rw [<-Paired.length R.rw]; exact (List.getElem?_eq_some_iff.mp hq).1
 have hw:w[k]? = some (w.getD k []):=by rw [List.getD_eq_getElem?_getD,List.getElem?_eq_getElem hk]; rfl
 obtain ⟨q',hq',xs,hx,rs⟩:=Paired.get R.rw hw
 rw [hq] at hq'
 cases hq'
 have hlx:=Paired.length rs
 have hqm:q∈as:=List.mem_of_getElem? hq
 have nd:=List.nodup_cons.mp R.nd
 have hqp:q≠p:=by rintro rfl; exact nd.1 hqm
 refine ⟨q,xs,vb,k1,rfl,rfl,hx,by rw [hlx]; exact ek,?_⟩
 refine kk σ G2 _ (wg1.trans wg2).ge ⟨p,as,q,⟨by rw [bH (Ne.symm hqp)]; exact R.out,R.nd,R.un,?_⟩,h0,SI.row R si hm hb (List.mem_cons_of_mem _ hqm) _,hq,hst',hm,hmj,hr⟩
 exact A0 R.rw nd.2 hq ⟨_,cy,Paired.st (rv.mono wg2.ge) _ rs⟩ fun b' x' hne ⟨xs',e1,e2⟩=>⟨xs',by rw [bH hne]; exact e1,e2⟩
def iu (jr:Nat) (fi:FE) (fA:FA):e8:=fun r w=>match fi r with
 | .ok (.int x)=>(c6 w.length x).bind fun k=>(fA (r.set jr none) w k).map fun w'=>(r.set jr none,w')
 | _=>none
theorem HW {fA:FA} (hm:m[i]? = some .bw) (hmj:m[jr]? = some .sh) (hN:X.N.Nodup) (hNi:X.N[i]? = some x) (hvx:f8 X.env.scope x) (hNj:X.N[jr]? = some y) (hy:iP X.env.scope y) (hi:∀g',SE X g' m ie fi) (h2:kw X g i jr m sts fA)
  (hd:(x == ("__debug__" : Str))=false:=by decide) (hcd:(x == ("__classdict__" : Str))=false:=by decide) (hpl:nC ie:=by intro _ _; rfl)
  (hs:swapsWith (.Subscript (.Name x p2) ie p3) (some (.Name y p1)) pos.line X.env=pure false:=by rfl)
  (hf:X.fn y=true\/X.env.scope.names.lookup y=some .local:=by first | exact .inl rfl | exact .inr rfl | assumption) :
  jo X g i m (.Assign [.Name y p1] (.Subscript (.Name x p2) ie p3) pos::sts) (iu jr fi fA) m:=by
 have hiA:PE X ie (fun σ H Q=>∃g',tE X g' m fi σ H Q):=fun pz s σ H Q I ⟨g',k⟩=>hi g' pz s σ H Q I k
 refine cQ.imp (mN (sO hN hNj hy (se tT (jE hNi hvx hd hcd) hiA hpl) hs hf) h2) fun D0 σ H ⟨r,w,G,s,r',w',e,kk⟩=>?_
 obtain ⟨p,as,R,h0,si,_⟩:=s
 have hst:σ[i]? = some (some (V.ref p)):=(si.lk i (some (V.ref p),none) (by show (if i=i then _ else _)=_; rw [if_pos rfl]) hm).1
 unfold iu at e
 cases ei:fi r with
 | exc x=>rw [ei] at e; cases e
 | stuck=>rw [ei] at e; cases e
 | ok d=>
  rw [ei] at e
  cases d with
  | int vx=>
   simp only [] at e
   cases ex:c6 w.length vx with
   | none=>rw [ex] at e; cases e
   | some k=>
    rw [ex] at e
    simp only [Option.bind_some] at e
    cases eA:fA (r.set jr none) w k with
    | none=>rw [eA] at e; cases e
    | some w1=>
     rw [eA] at e
     cases e
     refine ⟨_,hst,_,r,G,si,?_⟩
     rw [ei]
     intro v G1 H1 wg rv
     have rv:=rv.int wg.ok
     subst rv
     have he:∀b∈p::as,H1 b=H b:=fun b hb=>by
      cases e:H b with
      | none=>exact absurd e (R.isS hb)
      | some o=>rw [wg.he b o e]
     have R1:=R.grow wg
     have hk:k < w.length:=(tR ex).2.1
     have hw:w[k]? = some (w.getD k []):=by rw [List.getD_eq_getElem?_getD,List.getElem?_eq_getElem hk]; rfl
     obtain ⟨q,hq,_⟩:=Paired.get R1.rw hw
     have hl:(as.map V.ref).length=w.length:=by rw [List.length_map]; exact Paired.length R.rw
     have at1:eY (as.map V.ref) vx=some (V.ref q):=by
      unfold eY
      rw [hl,ex]
      show (as.map V.ref)[k]? = _
      rw [List.getElem?_map,hq]; rfl
     refine ⟨p,_,vx,_,rfl,rfl,aZ.of R1.out,at1,?_⟩
     have si1:SI X (dI g H1 (p::as) i p) m r G1 σ H1:=by rw [uL he]; exact si.grow wg
     have hlt:jr < m.length:=(List.getElem?_eq_some_iff.mp hmj).1
     exact ⟨r.set jr none,w,k,G1,⟨p,as,q,R1,h0,si1.slot hmj,hq,by rw [List.getElem?_set_self (by rw [<-si1.lm]; exact hlt)],hm,hmj,by rw [List.getElem?_set_self (by rw [si1.lr,<-si1.lm]; exact hlt)]⟩,_,eA,fun σ' G' H' le s'=>kk σ' G' H' (aJ.trans wg.ge le) s'⟩
  | _=>cases e
end
section
open PySem.AutoSeq1 (wpAny_loadPart')
section
variable {prog:Program} {w:World} {A:Around} {E:Value->Shared->Prop} {s:Shared}
theorem Lc {Q:List Value->Shared->Prop} {r:Addr} {a b c:Int} {t u v:Tok} {n:Nat} (hh:A.handled=none) (hr:IsRange s.heap r a b c t u v) (hsmall:Builtin.Range.small a b c=true)
  (hn:Builtin.Range.rangeSize a b c=n) (hlen:n<=2 ^ 24)
  (hQ:∀h' tk (acc':Array Value),(∀b o,s.heap.get? b=some o->h'.get? b=some o)->ItemsOf (fun i v=>∃t,v=.int (a + i * c) t) acc' n->Q acc'.toList { s with heap:=h',toks:=tk }) :
  wpAny (model prog w) A (collect (.ref r)) Q E s:=by
 unfold collect
 refine wpAny_bind (wpAny_runValue (codeAny_builtin F.entry_proto_collect ?_))
 rw [Around.under_plainId F.plain_proto_collect _]
 show wpAny _ A.in1 (newList [] >>= fun l=>again (.builtin "list.__iadd__" ⟨[l,.ref r],[]⟩)) _ _ s
 refine wpAny_bind (wpAny_newObj_type ?_)
 refine wpAny_pure ⟨plainId_quiet F.plain_list_iadd _,codeAny_builtin F.entry_list_iadd ?_⟩
 rw [Around.under_plainId F.plain_list_iadd _]
 show wpAny _ A.in1 (Builtin.List.listExtendWith (.ref s.heap.objs.size) (.ref r) (.ref s.heap.objs.size)) _ _ _
 have hS:(s.heap.push { cls:=.type "list",data:=.seq ([]:List Value).toArray }).get? s.heap.objs.size=some { cls:=.type "list",data:=.seq #[] 0 }:=Heap.get?_push_size _ rfl
 have fin':∀h' tk (acc':Array Value) c',(∀b o,s.heap.get? b=some o->h'.get? b=some o)->h'.get? s.heap.objs.size=some { cls:=.type "list",dict:=none,data:=.seq acc' c',slots:=#[] }->ItemsOf (fun i v=>∃t,v=.int (a + i * c) t) acc' n->wpAny (model prog w) A (match Value.ref s.heap.objs.size with
   | Value.ref a=>do
    match (<-load a).data with
     | Data.seq xs _=>pure xs.toList
     | _=>unsupported "internal:collect"
   | _=>unsupported "internal:collect") Q E { s with heap:=h',toks:=tk }:=fun h' tk acc' c' hk hS' hacc=>by
  show wpAny _ A (load s.heap.objs.size >>= _) _ _ _
  refine wpAny_bind (wpAny_load hS' ?_)
  exact wpAny_pure (hQ h' tk acc' hk hacc)
 refine wpAny_mono (wpAny_extend_range (A:=A) (R:=fun res s'=>res=.ok (.ret (.ref s.heap.objs.size))/\∃h' tk acc' c',s'={ s with heap:=h',toks:=tk }/\(∀b o,s.heap.get? b=some o->h'.get? b=some o)/\h'.get? s.heap.objs.size=some { cls:=.type "list",dict:=none,data:=.seq acc' c',slots:=#[] }/\ItemsOf (fun i v=>∃t,v=.int (a + i * c) t) acc' n)
  (s:={ s with heap:=s.heap.push { cls:=.type "list",data:=.seq ([]:List Value).toArray } }) hh (Heap.get?_push_of_some _ hr) hsmall hn hlen _ _ 0 hS fun h' tk acc' c' hk hS' hacc=>⟨rfl,h',tk,acc',c',rfl,fun b o e=>hk b o (Nat.ne_of_lt (Heap.lt_size e)) (Heap.get?_push_of_some _ e),hS',hacc⟩) (fun fin s' h=>?_) (fun e s' h=>?_)
 ·cases fin with
  | done f=>
   obtain ⟨e,h',tk,acc',c',rfl,h1,h2,h3⟩:=h
   cases e
   exact fin' h' tk acc' c' h1 h2 h3
  | again c'=>exact ⟨h.1,codeAny_mono h.2 fun r s'' hr=>by obtain ⟨rfl,h',tk,acc',c',rfl,h1,h2,h3⟩:=hr; exact fin' h' tk acc' c' h1 h2 h3⟩
 ·exact absurd h.1 (by simp)
end
theorem LD (r:Addr) (a b c:Int) (t u v:Tok) (n:Nat) (hsmall:Builtin.Range.small a b c=true) (hn:Builtin.Range.rangeSize a b c=n) (hlen:n<=2 ^ 24) :
  Meets (Builtin.«tuple.__new__» ⟨[.type "tuple",.ref r],[]⟩)
   (fun A R s=>A.handled=none/\IsRange s.heap r a b c t u v/\∀(h':Heap) (tk:Nat) (acc:Array Value),(∀b o,s.heap.get? b=some o->h'.get? b=some o)->ItemsOf (fun i v=>∃t,v=.int (a + i * c) t) acc n ->
    R (.ok (.ret (.ref h'.objs.size))) { s with heap:=h'.push { cls:=.type "tuple",data:=.seq acc },toks:=tk }):=
 .of_wp fun prog w A R s h=>by
  obtain ⟨hh,hr,h⟩:=h
  have hsub:=sub_tuple_self
  have hinit:=init_tuple_lookup
  have hmh:=madeHere_tuple
  have hT:s.TypeIs (.ref r) "range" := ⟨_,hr,rfl⟩
  have hh1:A.in1.handled=none:=hh
  wp_walk using wpAny_loadPart' hr,wpAny_typeOf hT,Lc hh1 hr hsmall hn hlen
  intro h' tk acc hk hacc
  show wpAny _ _ (Builtin.Tuple.tupleExact acc.toList.toArray >>= fun v=>ret v) _ _ _
  unfold Builtin.Tuple.tupleExact
  refine wpAny_bind (wpAny_newObj_type ?_ (show acc.toList.toArray.size<=sizeLine by simp only [Array.toArray_toList]; rw [hacc.1,sizeLine_eq]; omega))
  refine wpAny_pure ⟨_,rfl,?_⟩
  have e:acc.toList.toArray=acc:=by simp
  rw [e]
  exact h h' tk acc hk hacc
section
variable {prog:Program} {w:World} {A:Around} {E:Value->Shared->Prop} {s:Shared}
theorem LG {Q:Value->Shared->Prop} {r:Addr} {a b c:Int} {t u v:Tok} {n:Nat} (hh:A.handled=none) (hr:IsRange s.heap r a b c t u v) (hsmall:Builtin.Range.small a b c=true)
  (hn:Builtin.Range.rangeSize a b c=n) (hlen:n<=2 ^ 24)
  (h:∀(h':Heap) (tk:Nat) (acc:Array Value),(∀b o,s.heap.get? b=some o->h'.get? b=some o)->ItemsOf (fun i v=>∃t,v=.int (a + i * c) t) acc n->Q (.ref h'.objs.size) { s with heap:=h'.push { cls:=.type "tuple",data:=.seq acc },toks:=tk }) :
  wpAny (model prog w) A (call (.type "tuple") [.ref r]) Q E s:=
 callType_new F.called_tuple (by decide) (F.typeCall_tuple_1 _) (F.newCall_tuple_1 _) (fun obj=>F.args_object_init_2 obj _) F.entry_tuple_new
  (LD r a b c t u v n hsmall hn hlen) ⟨hh,hr,fun h' tk acc hk hacc=>⟨⟨_,Heap.get?_push_size _ rfl,rfl⟩,h h' tk acc hk hacc⟩⟩
end
section
variable {X:Cx} {g:GE} {m:List Md} {a b:Expr} {pos p pos2 p2:Pos} {fl:ak->Res (List D)}
theorem KY (hc:X.calm=true):dH X (.type "tuple") (fun xs H Q=>∃p lo hi,xs=[.ref p]/\H p=some (.rng lo hi)/\(-(2 ^ 62)<=lo/\lo < 2 ^ 62/\-(2 ^ 62)<=hi/\hi < 2 ^ 62)/\(hi - lo).toNat<=sizeLine/\∀l,H l=none->Q (.ref l) (upd H l (.tup (cU lo (hi - lo).toNat)))):=by
 intro pz s σ H xs us Q I r h
 obtain ⟨p,lo,hi,rfl,hp,⟨h1,h2,h3,h4⟩,hz,q⟩:=h
 obtain ⟨u,rfl,rx⟩:=fL r
 cases rx
 obtain ⟨t,u,v,ho⟩:=(show cm X.prog X.w H s.heap p (.rng lo hi) from I.hok p _ hp)
 have e2:Builtin.Range.rangeSize lo hi 1=(((hi - lo).toNat:Nat):Int):=by rw [rangeSize_one]; split <;> omega
 refine LG (I.ok.hd hc) (r:=p) (a:=lo) (b:=hi) (c:=1) ho (small_one h1 h2 h3 h4) e2 (by rw [sizeLine_eq] at hz; omega) fun h' tk acc kp hacc=>?_
 have I1:Inv X pz σ H { s with heap:=h',toks:=tk }:=I.kept (t':=tk) kp
 have hv:=A3 hacc
 have I2:Inv X pz σ (upd H h'.objs.size (.tup (cU lo (hi - lo).toNat))) { s with heap:=h'.push { cls:=.type "tuple",data:=.seq acc },toks:=tk }:=
  I1.laid (t':=tk) (fun b o e=>Heap.get?_push_of_some _ e) (Nat.le_refl _) (show cm X.prog X.w _ _ _ (.tup (cU lo (hi - lo).toNat)) from ⟨by unfold cU; rw [List.length_map,List.length_range]; exact hz,acc.toList,hv,by rw [Array.toArray_toList]; exact IsTup.new _ _,_,Heap.get?_push_size _ rfl,rfl⟩)
 exact ⟨.ref h'.objs.size,_,I2,rfl,q _ (I1.hok.fresh (Nat.le_refl _))⟩
def nr:List D->Option D
 | [.int i,.int j]=>if -(2 ^ 62)<=i/\i < 2 ^ 62/\-(2 ^ 62)<=j/\j < 2 ^ 62/\(j - i).toNat<=sizeLine then some (.tup (cJ i (j - i).toNat)) else none
 | _=>none
theorem Ha (hc:X.calm=true) (hgl:Gl X "tuple") (hml:X.mg "tuple" = none) (hg:Gl X "range") (hm:X.mg "range" = none) (ha:g6 X g m [a,b] fl)
  (hs:starEach [a,b] X.env=(false,eval a X.env)::starEach [b] X.env:=by rfl) (hp1:(backTo pos2 (starEach [b] X.env)).any (·.1)=false:=by rfl)
  (hs2:starEach [.Call (.Name "range" p2) [a,b] [] pos2] X.env=(false,eval (.Call (.Name "range" p2) [a,b] [] pos2) X.env)::starEach [] X.env:=by rfl) :
  SE X g m (.Call (.Name "tuple" p) [.Call (.Name "range" p2) [a,b] [] pos2] [] pos) (fC fl nr):=by
 refine PE.imp (kN (KY hc) hgl hml rfl (gM (kN JC hg hm boot_range ha (by decide) (by decide) hs hp1) iV hs2) (by decide) (by decide) hs2 rfl) fun σ H Q ⟨r,G,si,q⟩=>⟨r,G,si,bz (bv q) fun ds q1 vs G1 H1 w1 rs=>?_⟩
 obtain ⟨d,e,q2⟩:=cD q1
 unfold nr at e
 split at e
 ·split at e
  ·rename_i i j hj
   cases e
   cases rs with
   | cons r1 t=>
    cases t with
    | cons r2 t=>
     cases t
     refine ⟨i,j,by rw [r1.int w1.ok,r2.int w1.ok],fun p hp=>⟨p,i,j,rfl,cy,⟨hj.1,hj.2.1,hj.2.2.1,hj.2.2.2.1⟩,hj.2.2.2.2,fun l hl=>?_⟩⟩
     have w2:=Grow.new w1.ok hp (.rng i j)
     have w3:=Grow.newF w2.ok hl (.tup (.inl cy) (zj (K:=X.K) (G:=G1) i (j - i).toNat))
     exact q2 _ _ _ (w1.trans (w2.trans w3)) (.ref dE)
  ·cases e
 ·cases e
end
end
end DL
namespace DL
open PySem PySem.Spec PyProof.Rows L2 PySem.W PySem.Calls
def L0 (K:W.Frag) (ro:Bool) (ms:List Md) (F:List D->Res D):Sp:=fun vs H Q E=>∃G ds,aP K G H/\ArgsOk K G H ms vs ds /\
 fin (F ds) (fun d=>∀v G' H',Grow K G H G' H'->RV ro K H G' H' v d->Q v H') fun x=>∀C od nm fs G' H',x=xD nm fs->XN K nm C->XF G' od fs->Grow K G H G' H'->E (.ref C) od H'
section
variable {P:Program} {w:World} {K:W.Frag} {mg:Str->Option Value} {base:Heap}
structure CalleeX (P:Program) (w:World) (K:W.Frag) (mg:Str->Option Value) (base:Heap) (x:Str) (ps:List Str) (ds:List Value) (k:Nat) (ro:Bool) (ms:List Md) (F:List D->Res D):Prop where
 ex:∃f fd,mg x=some (.ref f)/\W.keepIn K (.ref f)=true/\jt K fd ps ds/\FnOk P w K mg base (Mc P w) k f fd ps (L0 K ro ms F)
end
def XO (K:W.Frag) (C:Addr) (bm:List Value):Prop:=∃N nm q bs hdct sn sub ab col dd k0 k1 k2 k3 k5 newId,K.lookup C=some (excClassObj nm q C N bs bm hdct sn sub ab col dd k0 k1 k2 k3 k5 newId)
abbrev _root_.L2.Cx.tr (X:Cx) (ps:List (Addr × Obj)) (E:Value->Shared->Prop):Cx:={ X with pn:=ps,xe:=E }
section
variable {X:Cx} {pz pins':List (Addr × Obj)} {σ:L2.Ml} {H:Hp} {s:Shared} {E:Value->Shared->Prop}
theorem Inv.tr (I:Inv X pz σ H s) (E:Value->Shared->Prop):Inv (X.tr (X.pn++pz) E) [] σ H s:=
 ⟨⟨I.ok.mod,I.ok.kind,I.ok.glob,I.ok.blt,I.ok.above,I.ok.inj,I.ok.has,I.ok.cab,I.ok.hd,I.ok.frames,I.ok.stk,I.ok.exf,I.ok.bs,I.ok.bsz,I.ok.noex,I.ok.exfs,I.ok.funs,I.ok.frf⟩,I.os,I.bare,I.base,I.loc,I.cell,I.free,I.freeC,fun p hp=>I.pin p (by rw [List.append_nil] at hp; exact hp),I.hok,I.len⟩
end
structure XA (K:W.Frag) (C:Addr) (bm:List Value):Prop where
 ob:XO K C bm
 be:bm.contains (Value.type "BaseException")=true
 bo:bm.contains (Value.type "object")=true
 ga:findIn K (.ref C) "__getattribute__" = some (some (.builtin "BaseException.__getattribute__"))
 gn:findIn K (.ref C) "__getattr__" = some none
 gc:findIn K (.ref C) "__class__" = some (some (.builtin "object.__class__"))
 gg:specialIn K (.builtin "object.__class__") "__get__" = some (some (.builtin "getset_descriptor.__get__"))
 gt:takesIn K (.builtin "object.__class__")=some true
structure IsxOk (K:W.Frag) (c:Value) (tab:Str->Option Bool):Prop where
 no:kitOne K (.type "NoneType") c=some false
 ex:∀nm b C,tab nm=some b->XN K nm C->∃bm,XA K C bm/\kitOne K (.ref C) c=some b
section
variable {X:Cx} {g:GE} {m:List Md} {e:Expr} {f:FE} {pos p p2:Pos}
theorem RB.exc {K:W.Frag} {G:GH} {H:Hp} {v:V} {k:Str} {nm:Str} {ds:List (Str × D)} (gk:aP K G H) (h:RB K G H v (.obj 0 ((k,.str nm)::ds))):∃a C od,v=.ref a/\H a=some (.ext (Di a C od))/\XN K nm C:=by
 rcases h with h | ⟨a,rfl,h⟩
 ·cases h with
  | scl s=>cases s
  | ref e=>
   cases gk _ _ e with
   | exc r n f=>exact ⟨_,_,_,rfl,r,n⟩
  | kc k=>cases k
 ·cases h.ob
end
def xz (K:W.Frag) (nm:Str) (c:Addr):Bool:=K.all fun e=>match e.2.data with
 | .cls cd=>cd.name != nm || e.1 == c
 | _=>true
structure CF (K:W.Frag) (nm:Str) (c:Addr) (bm:List Value):Prop where
 xa:XA K c bm
 xn:XN K nm c
 un:xz K nm c=true
end DL
namespace DL
open PySem PySem.Spec PyProof.Rows L2 PySem.W PySem.Calls PySem.Builtin PySem.Builtin.Str
end DL
section
namespace L2
open PySem PySem.Spec PyProof.Rows
theorem fS {sc:Scope} {x:Str} (h:(match sc.names.lookup x with | some .local=>true | some .cell=>true | _=>false)=true):iP sc x:=by
 revert h; unfold iP; split <;> intro h
 ·exact .inl (by assumption)
 ·exact .inr (by assumption)
 ·cases h
theorem cj {N P:List Str} {sc:Scope} (h:(decide (sc.kind=.function) && ! sc.isCoroutine && ! sc.isGenerator && decide N.Nodup && decide (N.take P.length=P) && (P.all fun x=>match sc.names.lookup x with | some .local=>true | some .cell=>true | _=>false) && sc.names.all fun y=>decide (y.2≠.free))=true:=by decide +kernel):FnScope N P sc:=by
 simp only [Bool.and_eq_true,decide_eq_true_eq,Bool.not_eq_true',List.all_eq_true] at h
 obtain ⟨⟨⟨⟨⟨⟨a,b⟩,c⟩,d⟩,e⟩,f⟩,k⟩:=h
 exact ⟨a,b,c,d,e,fun x hx=>fS (f x hx),k⟩
end L2
namespace DL
open PySem PySem.Spec PyProof.Rows L2
section
variable {X:Cx} {g:GE} {m mb ms:List Md} {e a b:Expr} {es:List Expr} {f fa fb:FE} {x:Str} {p pos pos':Pos} {ro:Bool} {fl:ak->Res (List D)} {k:Nat} {ps:List Str} {F:List D->Res D}
theorem bE (h:SE X g m e f):SB X g m e f:=SE.toB h
theorem iB {i:Int} {j:Nat}:SB X g m (.Constant (.int i) j pos) fun _=>.ok (.int i):=bE dC
theorem xB (hu:X.A.units + 1 < cLine) (ha:SB X g m a fa) (hb:SB X g m b fb) (hs:nC b:=by intro _ _; rfl):SB X g m (.Subscript a b pos) (f2 fa fb am):=bE (cS hu ha hb hs)
theorem bF (i:Nat) (hN:X.N.Nodup) (he:SE X g m e f) (hi:X.N[i]? = some x:=by rfl) (hx:iP X.env.scope x:=by exact fS rfl) (hs:swapsWith e (some (.Name x pos')) pos.line X.env=pure false:=by rfl)
  (hf:X.fn x=true\/X.env.scope.names.lookup x=some .local:=by first | exact .inl rfl | exact .inr rfl | assumption):SS X g ro mb m (.Assign [.Name x pos'] e pos) (ao m i f) (m.set i .sh):=Ej i hN hi hx he hs hf
theorem aQ (i:Nat) (hN:X.N.Nodup) (hi:X.N[i]? = some x:=by rfl) (hx:iP X.env.scope x:=by exact fS rfl) (hf:X.fn x=true\/X.env.scope.names.lookup x=some .local:=by first | exact .inl rfl | exact .inr rfl | assumption) :
  SG X g m (.Name x pos) (av i) (m.set i .sh):=FL i hN hi hx hf
theorem aR (c:Callee X.prog X.w X.K X.mg X.base x ps [] k false ms F) (ha:k6 X g m (e::es) ms fl) (hr:Room k X.A:=by exact Room.mono ‹_› (by decide)) (hg:Gl X x:=by rfl)
  (hdb:(x == ("__debug__" : Str))=false:=by decide) (he:starEach (e::es) X.env=(false,eval e X.env)::starEach es X.env:=by rfl) (hpl:(backTo pos (starEach es X.env)).any (·.1)=false:=by rfl) :
  SE X g m (.Call (.Name x p) (e::es) [] pos) (aA fl [] F):=D4 (dds:=[]) c hr ha (by simp) hg .nil .nil hdb he hpl
end
theorem cn {P:Program} {w:World} {K:W.Frag} {mg:Str->Option Value} {base:Heap} {x:Str} {st:Stmt} {N ps:List Str} {k:Nat} {ro:Bool} {ms:List Md} {fs:FS} {m':List Md} (A:DefAt K mg x st) (S:FnScope N ps (az st))
  (hbody:∀(f:Addr) (cdv:Value) (A:Around) (outer:List Env) (s:Shared) (H:Hp) (g:GE) (E:XK),Room k (A.deeper (envOfC x (az st) s.heap.objs.size f cdv))->(A.deeper (envOfC x (az st) s.heap.objs.size f cdv)).units + 1 < cLine ->
   gb (aU bP P w K mg base N x (az st) f cdv A outer s H E).nox g ro [] (kL N.length ms) (hX st) fs m')
  (hms:ms.length=ps.length:=by rfl)
  (hb:∀(kV doc pm:Value) (an:Option Addr) (cdv ct:Value) (us:List Value),us.length=ps.length->bindArgs (W.fnOf x x (jV st) (hX st) (az st) .none kV doc pm an cdv ct) ⟨us,[]⟩=pure (ps.zip us):=by
   intro _ _ _ _ _ _ us hl
   rcases us with _ | ⟨_,_ | ⟨_,_ | ⟨_,_ | ⟨_,_ | ⟨_,_ | ⟨_,_⟩⟩⟩⟩⟩⟩ <;> first | (exfalso; revert hl; simp; done) | kernel_rfl) :
  Callee P w K mg base x ps [] (k + 1) ro ms fun ds=>aH ro (fs (bG N.length ds)):=FB A S hms hb fun f cdv A outer s H g E hr=>hbody f cdv A outer s H g E hr (yM hr)
end DL
end
section
namespace Rg
theorem iQ {α:Type} [DecidableEq α]:∀{l m:List α},l.Nodup->(∀x∈l,x∈m)->l.length<=m.length
 | [],_,_,_=>Nat.zero_le _
 | a::l,m,hn,hs=>by
  have hn':=List.nodup_cons.mp hn
  have h1:=iQ (l:=l) (m:=m.erase a) hn'.2 fun x hx=>by
   have hxa:x≠a:=by rintro rfl; exact hn'.1 hx
   exact (List.mem_erase_of_ne hxa).mpr (hs x (List.mem_cons_of_mem _ hx))
  have ha:a∈m:=hs a List.mem_cons_self
  rw [List.length_erase_of_mem ha] at h1
  have:=List.length_pos_of_mem ha
  simp only [List.length_cons]; omega
theorem zT {α:Type} {p:α->Bool} {l:List α} (h:l.Nodup):(l.filter p).Nodup:=List.Pairwise.filter p h
structure S where
 line:List Nat
 things:List Nat
section
variable (W:Nat->List Nat) (O:Nat->Option Nat)
def jl (row things:List Nat):Nat:=(row.find? fun x=>decide (x∈things)).getD 0
def xC (s:S) (h:Nat):Nat:=jl (W h) s.things
def pt (s:S) (x:Nat):Nat:=(s.line.find? fun h=>decide (O h=some x)).getD (s.line.headD 0)
def rS (s:S) (h:Nat):Nat:=pt O s (xC W s h)
def minus (s:S) (C:List Nat):S:=⟨s.line.filter fun h=>decide (h∉C),s.things.filter fun x=>decide (x∉C.map (xC W s))⟩
def it {α:Type} (f:α->α):Nat->α->α
 | 0,x=>x
 | n + 1,x=>it f n (f x)
structure Ok (s:S):Prop where
 nl:s.line.Nodup
 nt:s.things.Nodup
 le:s.line.length<=s.things.length
 row:∀h∈s.line,∀x∈s.things,x∈W h
 inj:∀h k x,O h=some x->O k=some x->h=k
 own:∀h∈s.line,∀x,O h=some x->x∈s.things
structure Cyc (s:S) (C:List Nat):Prop where
 sub:∀h∈C,h∈s.line
 cl:∀h∈C,rS W O s h∈C
 per:∀h∈C,∃k,it (rS W O s) (k + 1) h=h
variable {W O}
theorem HM {row things:List Nat} (h:∃x∈row,x∈things):jl row things∈things:=by
 unfold jl
 cases e:row.find? fun x=>decide (x∈things) with
 | none=>
  obtain ⟨x,h1,h2⟩:=h
  have:=List.find?_eq_none.mp e x h1
  simp [h2] at this
 | some x=>have:=List.find?_some e; simpa using this
variable {s:S}
theorem Cyc.it_mem {C:List Nat} (c:Cyc W O s C) {h:Nat} (hh:h∈C):∀n,it (rS W O s) n h∈C:=by
 intro n
 induction n generalizing h with
 | zero=>exact hh
 | succ n ih=>exact ih (c.cl h hh)
theorem Cyc.out {C E:List Nat} (c:Cyc W O s C) (e:Cyc W O s E) {h:Nat} (hc:h∈C) (he:h∉E):rS W O s h∉E:=by
 intro z
 obtain ⟨k,hk⟩:=c.per h hc
 exact he (by rw [<-hk]; exact e.it_mem z k)
def less (E C:List Nat):List Nat:=E.filter fun h=>decide (h∉C)
inductive TTC (W:Nat->List Nat) (O:Nat->Option Nat) (a:Nat->Nat):S->Prop where
 | nil {s:S}:s.line=[]->TTC W O a s
 | step {s:S} (C:List Nat):Cyc W O s C->(∀h∈C,a h=xC W s h)->TTC W O a (minus W s C)->TTC W O a s
end
end Rg
end
section
namespace Rg
section
variable {W:Nat->List Nat} {O:Nat->Option Nat} {s:S} {a:Nat->Nat}
theorem least {P:Nat->Prop}:(∃n,P n)->∃n,P n/\∀k,k < n->¬ P k:=by
 rintro ⟨n,hn⟩
 induction n using Nat.strongRecOn with
 | _ n ih=>
  by_cases h:∃k,k < n/\P k
  ·obtain ⟨k,h1,h2⟩:=h; exact ih k h1 h2
  ·exact ⟨n,hn,fun k hk hp=>h ⟨k,hk,hp⟩⟩
end
end Rg
end
section
namespace Rg
end Rg
end
section
namespace Rg
end Rg
end
section
namespace Fq
theorem Bo (a:Int) (b:Nat):Int.gcd a b=Int.gcd b (a % (b:Int)):=by
 refine Nat.dvd_antisymm (Int.dvd_gcd (Int.gcd_dvd_right _ _) ?_) (Int.dvd_gcd ?_ (Int.gcd_dvd_left _ _))
 ·rw [Int.emod_def]
  exact Int.dvd_sub (Int.gcd_dvd_left _ _) (Int.dvd_trans (Int.gcd_dvd_right a b) (Int.dvd_mul_right _ _))
 ·have h:=Int.mul_ediv_add_emod a b
  rw [<-h]
  exact Int.dvd_add (Int.dvd_trans (Int.gcd_dvd_left (b:Int) _) (Int.dvd_mul_right _ _)) (by rw [h]; exact Int.gcd_dvd_right _ _)
theorem qk (t:Int) {b:Nat} (h:0 < b):0 < Int.gcd t b:=Nat.pos_of_ne_zero fun z=>by
 have:=Int.gcd_eq_zero_iff.mp z
 omega
def low (t:Int) (b:Nat):Int × Nat:=(t / (Int.gcd t b:Int),b / Int.gcd t b)
def cH (a b:Int × Nat):Int × Nat:=low (a.1 * b.2 + b.1 * a.2) (a.2 * b.2)
def Same (a b:Int × Nat):Prop:=a.1 * (b.2:Int)=b.1 * (a.2:Int)
theorem tV (t:Int) {b:Nat} (h:0 < b):Int.gcd (low t b).1 ((low t b).2:Nat)=1:=by
 have:=Int.gcd_ediv_gcd_ediv_gcd (qk t h)
 unfold low
 rw [Int.natCast_ediv]
 exact this
theorem hZ (t:Int) {b:Nat} (h:0 < b):0 < (low t b).2:=by
 have h1:Int.gcd t b ∣ b:=Int.natCast_dvd_natCast.mp (Int.gcd_dvd_right t b)
 exact Nat.div_pos (Nat.le_of_dvd h h1) (qk t h)
theorem zQ (t:Int) (b:Nat):(low t b).2<=b:=Nat.div_le_self _ _
theorem Hk (t:Int) (b:Nat):(low t b).1.natAbs<=t.natAbs:=Int.natAbs_ediv_le_natAbs _ _
theorem ia (t:Int) (b:Nat):Same (low t b) (t,b):=by
 unfold Same low
 have h1:(Int.gcd t b:Int) ∣ t:=Int.gcd_dvd_left t b
 have h2:(Int.gcd t b:Int) ∣ (b:Int):=Int.gcd_dvd_right t b
 obtain ⟨x,hx⟩:=h1
 obtain ⟨y,hy⟩:=h2
 generalize hg:(Int.gcd t b:Int)=g at hx hy
 show t / g * (b:Int)=t * ((b / Int.gcd t b:Nat):Int)
 rw [Int.natCast_ediv,hg]
 by_cases z:g=0
 ·subst z
  rw [Int.zero_mul] at hx hy
  rw [hx,hy]; simp
 ·rw [hx,hy,Int.mul_ediv_cancel_left _ z,Int.mul_ediv_cancel_left _ z]
  rw [<-Int.mul_assoc,Int.mul_comm x g]
structure Bd (k:Nat) (a:Int × Nat):Prop where
 pos:0 < a.2
 bot:a.2 < 2 ^ k
 top:a.1.natAbs < 2 ^ k
theorem Bd.mono {k l:Nat} {a:Int × Nat} (h:Bd k a) (hl:k<=l):Bd l a:=
 ⟨h.pos,Nat.lt_of_lt_of_le h.bot (Nat.pow_le_pow_right (by omega) hl),Nat.lt_of_lt_of_le h.top (Nat.pow_le_pow_right (by omega) hl)⟩
theorem Bd.low {k:Nat} {t:Int} {b:Nat} (h:0 < b) (h1:b < 2 ^ k) (h2:t.natAbs < 2 ^ k):Bd k (low t b):=
 ⟨hZ t h,Nat.lt_of_le_of_lt (zQ t b) h1,Nat.lt_of_le_of_lt (Hk t b) h2⟩
theorem vO {a b k l:Nat} (h1:a < 2 ^ k) (h2:b < 2 ^ l):a * b < 2 ^ (k + l):=by
 rw [Nat.pow_add]
 exact Nat.mul_lt_mul'' h1 h2
theorem lC {k l:Nat} {a b:Int × Nat} (ha:Bd k a) (hb:Bd l b):0 < a.2 * b.2/\a.2 * b.2 < 2 ^ (k + l):=⟨Nat.mul_pos ha.pos hb.pos,vO ha.bot hb.bot⟩
theorem Il {k l:Nat} {a b:Int × Nat} (ha:Bd k a) (hb:Bd l b):(a.1 * b.2 + b.1 * a.2).natAbs < 2 ^ (k + l + 1):=by
 have h1:(a.1 * (b.2:Int)).natAbs < 2 ^ (k + l):=by rw [Int.natAbs_mul,Int.natAbs_natCast]; exact vO ha.top hb.bot
 have h2:(b.1 * (a.2:Int)).natAbs < 2 ^ (k + l):=by rw [Int.natAbs_mul,Int.natAbs_natCast,Nat.add_comm k l]; exact vO hb.top ha.bot
 have h3:=Int.natAbs_add_le (a.1 * (b.2:Int)) (b.1 * (a.2:Int))
 rw [Nat.pow_succ]
 omega
theorem Bd.plus {k l:Nat} {a b:Int × Nat} (ha:Bd k a) (hb:Bd l b):Bd (k + l + 1) (cH a b):=by
 obtain ⟨h1,h2⟩:=lC ha hb
 exact Bd.low h1 (Nat.lt_of_lt_of_le h2 (Nat.pow_le_pow_right (by omega) (by omega))) (Il ha hb)
def jQ (a b:Int × Nat):Bool:=decide (a.1 * (b.2:Int) < b.1 * (a.2:Int))
def dX (sh:Nat->Int × Nat):Int × Nat->List Nat->List (Int × Nat)
 | _,[]=>[]
 | acc,x::row=>cH acc (sh x)::dX sh (cH acc (sh x)) row
theorem BD (sh:Nat->Int × Nat):∀(row:List Nat) (acc:Int × Nat),(dX sh acc row).length=row.length
 | [],_=>rfl
 | x::row,acc=>by unfold dX; rw [List.length_cons,BD sh row,List.length_cons]
theorem uD {sh:Nat->Int × Nat} {l:Nat}:∀(row:List Nat) (k:Nat) (acc:Int × Nat),Bd k acc->(∀x∈row,Bd l (sh x))->∀q∈dX sh acc row,Bd (k + row.length * (l + 1)) q
 | [],_,_,_,_,q,hq=>by cases hq
 | x::row,k,acc,ha,hs,q,hq=>by
  have h1:=ha.plus (hs x List.mem_cons_self)
  unfold dX at hq
  rcases List.mem_cons.mp hq with rfl | hq
  ·exact h1.mono (by rw [List.length_cons,Nat.add_mul]; omega)
  ·have:=uD row (k + l + 1) _ h1 (fun y hy=>hs y (List.mem_cons_of_mem _ hy)) q hq
   exact this.mono (by rw [List.length_cons,Nat.add_mul]; omega)
end Fq
end
section
namespace Rg
end Rg
namespace Fq
def W (N:Nat) (a:Int × Nat) (S:Nat):Prop:=0 < a.2/\a.1 * (N:Int)=(S:Int) * (a.2:Int)
theorem W.low {N c:Nat} (hN:0 < N):W N (low c N) c:=by
 have:=ia (c:Int) N
 exact ⟨hZ _ hN,this⟩
theorem W.plus {N S c:Nat} {a b:Int × Nat} (ha:W N a S) (hb:W N b c):W N (cH a b) (S + c):=by
 have hp:0 < a.2 * b.2:=Nat.mul_pos ha.1 hb.1
 refine ⟨hZ _ hp,?_⟩
 have h:=ia (a.1 * (b.2:Int) + b.1 * (a.2:Int)) (a.2 * b.2)
 unfold Same at h
 unfold cH
 generalize Fq.low (a.1 * (b.2:Int) + b.1 * (a.2:Int)) (a.2 * b.2)=p at h ⊢
 have h1:=ha.2
 have h2:=hb.2
 have hq:((a.2 * b.2:Nat):Int)≠0:=by omega
 refine Int.eq_of_mul_eq_mul_right hq ?_
 have e1:p.1 * (N:Int) * ((a.2 * b.2:Nat):Int)=(p.1 * ((a.2 * b.2:Nat):Int)) * (N:Int):=by
  rw [Int.mul_assoc,Int.mul_comm (N:Int),<-Int.mul_assoc]
 rw [e1,h]
 show (a.1 * (b.2:Int) + b.1 * (a.2:Int)) * (p.2:Int) * (N:Int)=(((S + c:Nat):Int)) * (p.2:Int) * ((a.2 * b.2:Nat):Int)
 have e2:(a.1 * (b.2:Int) + b.1 * (a.2:Int)) * (p.2:Int) * (N:Int)=((a.1 * (N:Int)) * (b.2:Int) + (b.1 * (N:Int)) * (a.2:Int)) * (p.2:Int):=by
  rw [Int.add_mul,Int.add_mul,Int.add_mul]
  congr 1
  ·simp only [Int.mul_assoc,Int.mul_comm,Int.mul_left_comm]
  ·simp only [Int.mul_assoc,Int.mul_comm,Int.mul_left_comm]
 rw [e2,h1,h2,Int.natCast_add,Int.natCast_mul]
 simp only [Int.add_mul]
 congr 1 <;> simp only [Int.mul_assoc,Int.mul_comm,Int.mul_left_comm]
theorem W.ge {N S S':Nat} {a b:Int × Nat} (hN:0 < N) (ha:W N a S) (hb:W N b S') (h:S'<=S):jQ a b=false:=by
 refine decide_eq_false fun hlt=>?_
 have h1:=Int.mul_lt_mul_of_pos_right hlt (show (0:Int) < (N:Int) by omega)
 have e1:a.1 * (b.2:Int) * (N:Int)=(S:Int) * ((a.2:Int) * (b.2:Int)):=by
  rw [Int.mul_assoc,Int.mul_comm (b.2:Int),<-Int.mul_assoc,ha.2,Int.mul_assoc]
 have e2:b.1 * (a.2:Int) * (N:Int)=(S':Int) * ((a.2:Int) * (b.2:Int)):=by
  rw [Int.mul_assoc,Int.mul_comm (a.2:Int),<-Int.mul_assoc,hb.2,Int.mul_assoc,Int.mul_comm (b.2:Int)]
 rw [e1,e2] at h1
 have hp:(0:Int)<=(a.2:Int) * (b.2:Int):=by
  rw [<-Int.natCast_mul]; exact Int.natCast_nonneg _
 have:=Int.lt_of_mul_lt_mul_right h1 hp
 omega
theorem Bi {N:Nat} (hN:0 < N) {sa sb:Nat->Int × Nat} {ca cb:Nat->Nat}:∀(row:List Nat) (a b:Int × Nat) (S S':Nat),W N a S->W N b S'->(∀x∈row,W N (sa x) (ca x))->(∀x∈row,W N (sb x) (cb x)) ->
  (∀k,S' + ((row.take k).map cb).sum<=S + ((row.take k).map ca).sum)->((dX sa a row).zip (dX sb b row)).any (fun p=>jQ p.1 p.2)=false
 | [],_,_,_,_,_,_,_,_,_=>rfl
 | x::row,a,b,S,S',ha,hb,h1,h2,hk=>by
  have pa:=ha.plus (h1 x List.mem_cons_self)
  have pb:=hb.plus (h2 x List.mem_cons_self)
  unfold dX
  rw [List.zip_cons_cons,List.any_cons]
  have hd:=hk 1
  simp at hd
  rw [W.ge hN pa pb hd,Bool.false_or]
  refine Bi hN row _ _ _ _ pa pb (fun y hy=>h1 y (List.mem_cons_of_mem _ hy)) (fun y hy=>h2 y (List.mem_cons_of_mem _ hy)) fun k=>?_
  have:=hk (k + 1)
  rw [List.take_succ_cons,List.map_cons,List.map_cons,List.sum_cons,List.sum_cons] at this
  omega
end Fq
end
section
namespace Fq
theorem lE {t u:Int} {b d:Nat} (hb:0 < b) (hd:0 < d) (h:t * (d:Int)=u * (b:Int)):low t b=low u d:=by
 have s1:(low t b).1 * (b:Int)=t * ((low t b).2:Int):=ia t b
 have s2:(low u d).1 * (d:Int)=u * ((low u d).2:Int):=ia u d
 have c1:=tV t hb
 have c2:=tV u hd
 have p1:=hZ t hb
 have p2:=hZ u hd
 generalize low t b=p at *
 generalize low u d=q at *
 have hx:p.1 * (q.2:Int)=q.1 * (p.2:Int):=by
  have hne:((b * d:Nat):Int)≠0:=by have:=Nat.mul_pos hb hd; omega
  refine Int.eq_of_mul_eq_mul_right hne ?_
  rw [Int.natCast_mul]
  have e1:p.1 * (q.2:Int) * ((b:Int) * (d:Int))=(p.1 * (b:Int)) * ((d:Int) * (q.2:Int)):=by simp only [Int.mul_assoc,Int.mul_comm,Int.mul_left_comm]
  have e2:q.1 * (p.2:Int) * ((b:Int) * (d:Int))=(q.1 * (d:Int)) * ((b:Int) * (p.2:Int)):=by simp only [Int.mul_assoc,Int.mul_comm,Int.mul_left_comm]
  rw [e1,e2,s1,s2]
  have e3:t * (p.2:Int) * ((d:Int) * (q.2:Int))=(t * (d:Int)) * ((p.2:Int) * (q.2:Int)):=by simp only [Int.mul_assoc,Int.mul_comm,Int.mul_left_comm]
  have e4:u * (q.2:Int) * ((b:Int) * (p.2:Int))=(u * (b:Int)) * ((p.2:Int) * (q.2:Int)):=by simp only [Int.mul_assoc,Int.mul_comm,Int.mul_left_comm]
  rw [e3,e4,h]
 have hab:p.1.natAbs * q.2=q.1.natAbs * p.2:=by
  have:=congrArg Int.natAbs hx
  rw [Int.natAbs_mul,Int.natAbs_mul,Int.natAbs_natCast,Int.natAbs_natCast] at this
  exact this
 have k1:Nat.Coprime p.2 p.1.natAbs:=by
  have:Nat.gcd p.1.natAbs p.2=1:=c1
  rw [Nat.gcd_comm] at this; exact this
 have k2:Nat.Coprime q.2 q.1.natAbs:=by
  have:Nat.gcd q.1.natAbs q.2=1:=c2
  rw [Nat.gcd_comm] at this; exact this
 have d1:p.2 ∣ q.2:=k1.dvd_of_dvd_mul_left (by rw [hab]; exact Nat.dvd_mul_left _ _)
 have d2:q.2 ∣ p.2:=k2.dvd_of_dvd_mul_left (by rw [<-hab]; exact Nat.dvd_mul_left _ _)
 have e:p.2=q.2:=Nat.dvd_antisymm d1 d2
 have e':p.1=q.1:=by
  rw [e] at hx
  exact Int.eq_of_mul_eq_mul_right (by omega) hx
 exact Prod.ext e' e
def DD:Nat:=420 ^ 7
theorem me:0 < DD:=by decide
def qc (a b:Int × Nat):Int × Nat:=low (a.1 * b.2 - b.1 * a.2) (a.2 * b.2)
theorem ph (t:Int):low t 1=(t,1):=by
 unfold low
 have:Int.gcd t (1:Nat)=1:=by show Int.gcd t 1=1; simp
 rw [this]; simp
end Fq
namespace Et
open Rg
def cg:List Nat->Nat
 | []=>0
 | x::l=>l.foldl (fun m y=>if y < m then y else m) x
theorem tN:∀(l:List Nat) (m:Nat),l.foldl (fun m y=>if y < m then y else m) m<=m/\(∀y∈l,l.foldl (fun m y=>if y < m then y else m) m<=y)/\(l.foldl (fun m y=>if y < m then y else m) m=m\/l.foldl (fun m y=>if y < m then y else m) m∈l)
 | [],m=>⟨Nat.le_refl _,fun _ h=>(nomatch h),.inl rfl⟩
 | y::l,m=>by
  rw [List.foldl_cons]
  obtain ⟨h1,h2,h3⟩:=tN l (if y < m then y else m)
  have hm:(if y < m then y else m)<=m/\(if y < m then y else m)<=y:=by split <;> omega
  refine ⟨Nat.le_trans h1 hm.1,fun z hz=>?_,?_⟩
  ·rcases List.mem_cons.mp hz with rfl | hz
   ·exact Nat.le_trans h1 hm.2
   ·exact h2 z hz
  ·rcases h3 with h3 | h3
   ·rw [h3]
    by_cases hy:y < m
    ·rw [if_pos hy]; exact .inr List.mem_cons_self
    ·rw [if_neg hy]; exact .inl rfl
   ·exact .inr (List.mem_cons_of_mem _ h3)
theorem jh {l:List Nat} {y:Nat} (h:y∈l):cg l<=y:=by
 cases l with
 | nil=>cases h
 | cons x l=>
  obtain ⟨h1,h2,_⟩:=tN l x
  rcases List.mem_cons.mp h with rfl | h
  ·exact h1
  ·exact h2 y h
theorem eU {l:List Nat} (h:l≠[]):cg l∈l:=by
 cases l with
 | nil=>exact absurd rfl h
 | cons x l=>
  obtain ⟨_,_,h3⟩:=tN l x
  rcases h3 with h3 | h3
  ·show l.foldl (fun m y=>if y < m then y else m) x∈_
   rw [h3]; exact List.mem_cons_self
  ·exact List.mem_cons_of_mem _ h3
variable (W:Nat->List Nat) (n:Nat)
def tgs (T:List Nat):List Nat:=(List.range n).map fun h=>jl (W h) T
def rR (T:List Nat) (a:Nat->Nat):Nat:=cg ((tgs W n T).map fun x=>a x / (tgs W n T).count x)
def rV (T:List Nat) (a:Nat->Nat) (x:Nat):Nat:=a x - (tgs W n T).count x * rR W n T a
def ye (T:List Nat) (a:Nat->Nat):List Nat:=T.filter fun x=>decide (rV W n T a x≠0)
structure Ok (T:List Nat) (a:Nat->Nat):Prop where
 nd:T.Nodup
 lt:∀x∈T,x < n
 pos:∀x∈T,0 < a x
 dv:∀x∈T,420 ^ T.length ∣ a x
variable {W n}
variable {T:List Nat} {a:Nat->Nat}
structure Rw (W:Nat->List Nat) (n:Nat):Prop where
 n1:1<=n
 n7:n<=7
 has:∀h x,h < n->x < n->x∈W h
theorem FX (R:Rw W n) (S:Ok n T a) (hT:T≠[]) {h:Nat} (hh:h < n):jl (W h) T∈T:=by
 have hp:=List.length_pos_iff.mpr hT
 exact HM ⟨T[0],R.has h _ hh (S.lt _ (List.getElem_mem _)),List.getElem_mem _⟩
theorem AQ:(tgs W n T).length=n:=by unfold tgs; simp
theorem tD (R:Rw W n) (S:Ok n T a) (hT:T≠[]) {x:Nat} (h:x∈tgs W n T):x∈T:=by
 obtain ⟨k,hk,rfl⟩:=List.mem_map.mp h
 exact FX R S hT (List.mem_range.mp hk)
theorem zD (x:Nat):(tgs W n T).count x<=n:=by
 have:=List.count_le_length (a:=x) (l:=tgs W n T)
 rw [AQ] at this; exact this
theorem zF {c:Nat} (h1:1<=c) (h7:c<=7):c ∣ 420:=by
 match c,h1,h7 with
 | 1,_,_=>decide
 | 2,_,_=>decide
 | 3,_,_=>decide
 | 4,_,_=>decide
 | 5,_,_=>decide
 | 6,_,_=>decide
 | 7,_,_=>decide
theorem zW (R:Rw W n) (S:Ok n T a) (hT:T≠[]) {x:Nat} (hx:x∈tgs W n T):(tgs W n T).count x ∣ a x/\0 < (tgs W n T).count x:=by
 have h1:0 < (tgs W n T).count x:=List.count_pos_iff.mpr hx
 have h2:=zD (W:=W) (n:=n) (T:=T) x
 have hp:=List.length_pos_iff.mpr hT
 have hd:=S.dv x (tD R S hT hx)
 obtain ⟨k,hk⟩:∃k,T.length=k + 1:=⟨T.length - 1,by omega⟩
 rw [hk,Nat.pow_succ] at hd
 exact ⟨Nat.dvd_trans (zF h1 (by have:=R.n7; omega)) (Nat.dvd_trans (Nat.dvd_mul_left _ _) hd),h1⟩
theorem zr (R:Rw W n):∃x∈tgs W n T,rR W n T a=a x / (tgs W n T).count x:=by
 have hne:(tgs W n T).map (fun x=>a x / (tgs W n T).count x)≠[]:=by
  intro e
  have h1:=congrArg List.length e
  rw [List.length_map,AQ] at h1
  have h2:=R.n1
  rw [List.length_nil] at h1; omega
 obtain ⟨x,h1,h2⟩:=List.mem_map.mp (eU hne)
 exact ⟨x,h1,h2.symm⟩
theorem Gx (R:Rw W n) (S:Ok n T a) (hT:T≠[]):420 ^ (T.length - 1) ∣ rR W n T a:=by
 obtain ⟨x,h1,h2⟩:=zr (T:=T) (a:=a) R
 have hp:=List.length_pos_iff.mpr hT
 have hd:=S.dv x (tD R S hT h1)
 obtain ⟨hc,hc0⟩:=zW R S hT h1
 have hc7:=zF (c:=(tgs W n T).count x) hc0 (by have:=zD (W:=W) (n:=n) (T:=T) x; have:=R.n7; omega)
 obtain ⟨k,hk⟩:∃k,T.length=k + 1:=⟨T.length - 1,by omega⟩
 rw [hk,Nat.pow_succ] at hd
 obtain ⟨q,hq⟩:=hd
 obtain ⟨m,hm⟩:=hc7
 rw [h2,hk,Nat.add_sub_cancel,hq]
 generalize (tgs W n T).count x=c at *
 refine ⟨m * q,?_⟩
 rw [hm]
 have:420 ^ k * (c * m) * q=c * (420 ^ k * (m * q)):=by simp only [Nat.mul_assoc,Nat.mul_comm,Nat.mul_left_comm]
 rw [<-hm] at this ⊢
 rw [hm] at this ⊢
 rw [this,Nat.mul_div_cancel_left _ hc0]
theorem Fx (R:Rw W n) (S:Ok n T a) (hT:T≠[]):(ye W n T a).length < T.length:=by
 obtain ⟨x,h1,h2⟩:=zr (T:=T) (a:=a) R
 obtain ⟨hc,hc0⟩:=zW R S hT h1
 have hx:=tD R S hT h1
 have h0:rV W n T a x=0:=by
  unfold rV
  rw [h2,Nat.mul_div_cancel' hc,Nat.sub_self]
 unfold ye
 refine Nat.lt_of_le_of_ne (List.length_filter_le _ _) fun e=>?_
 have:=List.length_filter_eq_length_iff.mp e x hx
 simp [h0] at this
theorem Ok.next (R:Rw W n) (S:Ok n T a) (hT:T≠[]):Ok n (ye W n T a) (rV W n T a) where
 nd:=S.nd.sublist List.filter_sublist
 lt:=fun x hx=>S.lt x (List.mem_filter.mp hx).1
 pos:=fun x hx=>Nat.pos_of_ne_zero (by simpa using (List.mem_filter.mp hx).2)
 dv:=fun x hx=>by
  have hx':=(List.mem_filter.mp hx).1
  have hlt:=Fx R S hT
  have h1:420 ^ (T.length - 1) ∣ a x:=Nat.dvd_trans (Nat.pow_dvd_pow 420 (by omega)) (S.dv x hx')
  have h2:420 ^ (T.length - 1) ∣ (tgs W n T).count x * rR W n T a:=Nat.dvd_trans (Gx R S hT) (Nat.dvd_mul_left _ _)
  exact Nat.dvd_trans (Nat.pow_dvd_pow 420 (by omega)) (Nat.dvd_sub h1 h2)
theorem gR {α:Type} (f g:α->Nat):∀l:List α,(l.map fun x=>f x + g x).sum=(l.map f).sum + (l.map g).sum
 | []=>rfl
 | x::l=>by rw [List.map_cons,List.map_cons,List.map_cons,List.sum_cons,List.sum_cons,List.sum_cons,gR f g l]; omega
theorem gQ (s:Nat) (p:Nat->Nat) (x:Nat):∀l:List Nat,(l.map fun h=>if p h=x then s else 0).sum=(l.map p).count x * s
 | []=>by simp
 | h::l=>by
  rw [List.map_cons,List.sum_cons,gQ s p x l,List.map_cons,List.count_cons]
  by_cases e:p h=x
  ·rw [if_pos e,if_pos (by simpa using e),Nat.add_mul]; omega
  ·rw [if_neg e,if_neg (by simpa using e),Nat.add_zero,Nat.zero_add]
theorem gP (s:Nat) (f:Nat->Nat):∀l:List Nat,(l.map fun x=>f x * s).sum=(l.map f).sum * s
 | []=>by simp
 | x::l=>by rw [List.map_cons,List.sum_cons,gP s f l,List.map_cons,List.sum_cons,Nat.add_mul]
theorem fP {α:Type}:∀l:List α,(l.map fun _=>0).sum=0
 | []=>rfl
 | _::l=>by rw [List.map_cons,List.sum_cons,fP l]
theorem Ok.init (R:Rw W n):Ok n (List.range n) fun _=>Fq.DD:=
 ⟨List.nodup_range,fun x hx=>List.mem_range.mp hx,fun _ _=>Fq.me,fun _ _=>by
  rw [List.length_range]
  exact Nat.pow_dvd_pow 420 R.n7⟩
end Et
end
section
namespace Fq
theorem nU {N:Nat} (hN:0 < N) (a b:Int):cH (low a N) (low b N)=low (a + b) N:=by
 have h1:(low a N).1 * (N:Int)=a * ((low a N).2:Int):=ia a N
 have h2:(low b N).1 * (N:Int)=b * ((low b N).2:Int):=ia b N
 have p1:=hZ a hN
 have p2:=hZ b hN
 refine lE (Nat.mul_pos p1 p2) hN ?_
 generalize low a N=p at *
 generalize low b N=q at *
 rw [Int.natCast_mul,Int.add_mul,Int.add_mul]
 have e1:p.1 * (q.2:Int) * (N:Int)=(p.1 * (N:Int)) * (q.2:Int):=by simp only [Int.mul_assoc,Int.mul_comm,Int.mul_left_comm]
 have e2:q.1 * (p.2:Int) * (N:Int)=(q.1 * (N:Int)) * (p.2:Int):=by simp only [Int.mul_assoc,Int.mul_comm,Int.mul_left_comm]
 rw [e1,e2,h1,h2]
 simp only [Int.mul_assoc,Int.mul_comm,Int.mul_left_comm]
theorem uR {N M:Nat} (hN:0 < N) (hM:0 < M) (a b:Int):jQ (low a N) (low b M)=decide (a * (M:Int) < b * (N:Int)):=by
 have h1:(low a N).1 * (N:Int)=a * ((low a N).2:Int):=ia a N
 have h2:(low b M).1 * (M:Int)=b * ((low b M).2:Int):=ia b M
 have p1:=hZ a hN
 have p2:=hZ b hM
 unfold jQ
 generalize low a N=p at *
 generalize low b M=q at *
 have hp:(0:Int) < (p.2:Int) * (q.2:Int):=by rw [<-Int.natCast_mul]; have:=Nat.mul_pos p1 p2; omega
 have hD:(0:Int) < (N:Int) * (M:Int):=by rw [<-Int.natCast_mul]; have:=Nat.mul_pos hN hM; omega
 rw [Bool.eq_iff_iff,decide_eq_true_iff,decide_eq_true_iff]
 have e1:p.1 * (q.2:Int) * ((N:Int) * (M:Int))=(a * (M:Int)) * ((p.2:Int) * (q.2:Int)):=by
  have:p.1 * (q.2:Int) * ((N:Int) * (M:Int))=(p.1 * (N:Int)) * ((M:Int) * (q.2:Int)):=by simp only [Int.mul_assoc,Int.mul_comm,Int.mul_left_comm]
  rw [this,h1]; simp only [Int.mul_assoc,Int.mul_comm,Int.mul_left_comm]
 have e2:q.1 * (p.2:Int) * ((N:Int) * (M:Int))=(b * (N:Int)) * ((p.2:Int) * (q.2:Int)):=by
  have:q.1 * (p.2:Int) * ((N:Int) * (M:Int))=(q.1 * (M:Int)) * ((N:Int) * (p.2:Int)):=by simp only [Int.mul_assoc,Int.mul_comm,Int.mul_left_comm]
  rw [this,h2]; simp only [Int.mul_assoc,Int.mul_comm,Int.mul_left_comm]
 constructor
 ·intro h
  have:=Int.mul_lt_mul_of_pos_right h hD
  rw [e1,e2] at this
  exact Int.lt_of_mul_lt_mul_right this (Int.le_of_lt hp)
 ·intro h
  have:=Int.mul_lt_mul_of_pos_right h hp
  rw [<-e1,<-e2] at this
  exact Int.lt_of_mul_lt_mul_right this (Int.le_of_lt hD)
theorem Bx {N:Nat} (hN:0 < N):∀(l:List Nat) (A:Nat),(l.map fun c:Nat=>low (c:Int) N).foldl cH (low (A:Int) N)=low ((A + l.sum:Nat):Int) N
 | [],A=>by simp
 | c::l,A=>by
  rw [List.map_cons,List.foldl_cons,nU hN,<-Int.natCast_add,Bx hN l,List.sum_cons,Nat.add_assoc]
theorem su {N:Nat} (hN:0 < N):low ((0:Nat):Int) N=(0,1):=by
 rw [<-ph 0]; exact lE hN (by decide) (by simp)
theorem zP {N M a b:Nat} (hN:0 < N) (hM:0 < M) (h:a * M=b * N):low (a:Int) N=low (b:Int) M:=lE hN hM (by rw [<-Int.natCast_mul,<-Int.natCast_mul,h])
end Fq
namespace Et
open Rg
variable {W:Nat->List Nat} {n:Nat}
theorem ji {l:List Nat} {b k:Nat} (h:b∈l.take k):l.idxOf b < k:=by
 have e:l=l.take k++l.drop k:=(List.take_append_drop k l).symm
 have h1:l.idxOf b=(l.take k).idxOf b:=by
  conv=>lhs; rw [e]
  rw [List.idxOf_append,if_pos h]
 have h2:=List.idxOf_lt_length_of_mem h
 rw [List.length_take] at h2
 omega
end Et
end
section
namespace Gr
variable (E:Nat->List Nat) (n:Nat)
def elim (S:List Nat):List Nat:=S.filter fun x=>(E x).any fun y=>decide (y∈S)
def core:Nat->List Nat->List Nat
 | 0,S=>S
 | k + 1,S=>if (elim E S).length=S.length then S else core k (elim E S)
variable {E n}
theorem dR (S:List Nat):(elim E S).length<=S.length:=List.length_filter_le _ _
theorem HF {S:List Nat} (h:(elim E S).length=S.length):∀x∈S,∃y∈E x,y∈S:=fun x hx=>by
 have:=List.length_filter_eq_length_iff.mp h x hx
 obtain ⟨y,h1,h2⟩:=List.any_eq_true.mp this
 exact ⟨y,h1,by simpa using h2⟩
theorem dS:∀(k:Nat) (S:List Nat),∀x∈core E k S,x∈S
 | 0,S,x,h=>h
 | k + 1,S,x,h=>by
  unfold core at h
  by_cases e:(elim E S).length=S.length
  ·rw [if_pos e] at h; exact h
  ·rw [if_neg e] at h
   exact (List.mem_filter.mp (dS k _ x h)).1
theorem gX:∀(k:Nat) (S:List Nat),S.Nodup->(core E k S).Nodup
 | 0,S,h=>h
 | k + 1,S,h=>by
  unfold core
  by_cases e:(elim E S).length=S.length
  ·rw [if_pos e]; exact h
  ·rw [if_neg e]; exact gX k _ (h.sublist List.filter_sublist)
theorem gY:∀(k:Nat) (S:List Nat),S.length < k->∀x∈core E k S,∃y∈E x,y∈core E k S
 | 0,S,h=>absurd h (by omega)
 | k + 1,S,h=>by
  unfold core
  by_cases e:(elim E S).length=S.length
  ·rw [if_pos e]; exact HF e
  ·rw [if_neg e]
   have:=dR (E:=E) S
   exact gY k _ (by omega)
theorem lS:∀(k:Nat) (S:List Nat),S.length < k->core E k S=[]->∃d:Nat->Nat,∀x∈S,∀y∈E x,y∈S->d y < d x
 | 0,S,h,_=>absurd h (by omega)
 | k + 1,S,h,hc=>by
  unfold core at hc
  by_cases e:(elim E S).length=S.length
  ·rw [if_pos e] at hc
   subst hc
   exact ⟨fun _=>0,fun x hx=>by cases hx⟩
  ·rw [if_neg e] at hc
   have:=dR (E:=E) S
   obtain ⟨d,hd⟩:=lS k (elim E S) (by omega) hc
   refine ⟨fun x=>if x∈elim E S then d x + 1 else 0,fun x hx y hy hyS=>?_⟩
   have hx':x∈elim E S:=List.mem_filter.mpr ⟨hx,List.any_eq_true.mpr ⟨y,hy,by simpa using hyS⟩⟩
   show (if y∈elim E S then d y + 1 else 0) < (if x∈elim E S then d x + 1 else 0)
   rw [if_pos hx']
   by_cases hy':y∈elim E S
   ·rw [if_pos hy']; have:=hd x hx' y hy hy'; omega
   ·rw [if_neg hy']; omega
def aF (L:List Nat) (x:Nat):List Nat:=if ((E x).map fun y=>decide (y∈L)).any id=true then L else L.erase x
variable (E) in
def turn (l L:List Nat):List Nat:=l.foldl (aF (E:=E)) L
theorem KF {L:List Nat} {x:Nat}:((E x).map fun y=>decide (y∈L)).any id=true↔∃y∈E x,y∈L:=by
 rw [List.any_map,List.any_eq_true]
 constructor
 ·rintro ⟨y,h1,h2⟩; exact ⟨y,h1,by simpa using h2⟩
 ·rintro ⟨y,h1,h2⟩; exact ⟨y,h1,by simpa using h2⟩
theorem cv:∀(l L:List Nat),∀x∈turn E l L,x∈L
 | [],L,x,h=>h
 | a::l,L,x,h=>by
  have:=cv l (aF (E:=E) L a) x h
  unfold aF at this
  split at this
  ·exact this
  ·exact List.mem_of_mem_erase this
theorem dF:∀(l L:List Nat),L.Nodup->(turn E l L).Nodup
 | [],L,h=>h
 | a::l,L,h=>dF l _ (by unfold aF; split; exact h; exact h.erase _)
theorem BK {d:Nat->Nat} {x:Nat}:∀(l L:List Nat),L.Nodup->x∈l->(∀y∈E x,y∉L)->x∉turn E l L
 | [],L,_,hx,_=>by cases hx
 | a::l,L,hn,hx,hy=>by
  have hn':(aF (E:=E) L a).Nodup:=by unfold aF; split; exact hn; exact hn.erase _
  have hs':∀y∈E x,y∉aF (E:=E) L a:=fun y h1 h2=>hy y h1 (by
   unfold aF at h2
   split at h2
   ·exact h2
   ·exact List.mem_of_mem_erase h2)
  show x∉turn E l (aF (E:=E) L a)
  rcases List.mem_cons.mp hx with rfl | hx
  ·intro z
   have z1:=cv l _ x z
   unfold aF at z1
   rw [if_neg (fun q=>by obtain ⟨y,h1,h2⟩:=KF.mp q; exact hy y h1 h2)] at z1
   exact (hn.mem_erase_iff.mp z1).1 rfl
  ·exact BK (d:=d) l _ hn' hx hs'
theorem dN (d:Nat->Nat):∀(L:List Nat),L≠[]->∃x∈L,∀y∈L,d x<=d y
 | [],h=>absurd rfl h
 | [x],_=>⟨x,List.mem_singleton.mpr rfl,fun y hy=>by rw [List.mem_singleton.mp hy]; exact Nat.le_refl _⟩
 | x::z::l,_=>by
  obtain ⟨m,h1,h2⟩:=dN d (z::l) (by simp)
  by_cases h:d x<=d m
  ·exact ⟨x,List.mem_cons_self,fun y hy=>by
    rcases List.mem_cons.mp hy with rfl | hy
    ·exact Nat.le_refl _
    ·exact Nat.le_trans h (h2 y hy)⟩
  ·exact ⟨m,List.mem_cons_of_mem _ h1,fun y hy=>by
    rcases List.mem_cons.mp hy with rfl | hy
    ·omega
    ·exact h2 y hy⟩
theorem Ku {d:Nat->Nat} (hd:∀x,x < n->∀y∈E x,d y < d x) {L:List Nat} (hn:L.Nodup) (hlt:∀x∈L,x < n) (hL:L≠[]):(turn E L L).length < L.length:=by
 obtain ⟨x,h1,h2⟩:=dN d L hL
 have hx:x∉turn E L L:=BK (d:=d) L L hn h1 fun y hy z=>by
  have:=hd x (hlt x h1) y hy
  have:=h2 y z
  omega
 have hle:(turn E L L).length<=(L.erase x).length:=Rg.iQ (dF L L hn) fun y hy=>(List.mem_erase_of_ne (by rintro rfl; exact hx hy)).mpr (cv L L y hy)
 rw [List.length_erase_of_mem h1] at hle
 have:=List.length_pos_iff.mpr hL
 omega
variable (E) in
def di:Nat->List Nat->List Nat
 | 0,L=>L
 | k + 1,L=>di k (turn E L L)
theorem c8 {d:Nat->Nat} (hd:∀x,x < n->∀y∈E x,d y < d x):∀(k:Nat) (L:List Nat),L.Nodup->(∀x∈L,x < n)->L.length<=k->di E k L=[]
 | 0,L,_,_,h=>by show L=[]; exact List.length_eq_zero_iff.mp (by omega)
 | k + 1,L,hn,hlt,h=>by
  by_cases hL:L=[]
  ·subst hL
   exact c8 hd k [] (by simp) (fun _ h=>by cases h) (by simp)
  ·have:=Ku hd hn hlt hL
   exact c8 hd k _ (dF L L hn) (fun x hx=>hlt x (cv L L x hx)) (by omega)
def cV (t:Nat->Nat) (x y:Nat):Nat->Nat:=fun z=>if z=y then max (t y) (t x + 1) else t z
variable (E) in
def relx (t:Nat->Nat) (x:Nat):Nat->Nat:=(E x).foldl (fun t y=>cV t x y) t
variable (E) in
def rnd (l:List Nat) (t:Nat->Nat):Nat->Nat:=l.foldl (relx E) t
variable (E) (n) in
def oW:Nat->(Nat->Nat)->Nat->Nat
 | 0,t=>t
 | k + 1,t=>oW k (rnd E (List.range n) t)
theorem qo (t:Nat->Nat) (x y z:Nat):t z<=cV t x y z:=by
 unfold cV
 by_cases h:z=y
 ·rw [if_pos h,h]; omega
 ·rw [if_neg h]; exact Nat.le_refl _
structure Va (E:Nat->List Nat) (n:Nat) (b:Nat->Nat) (k:Nat) (done:List (Nat × Nat)) (t:Nat->Nat):Prop where
 v:∀x,x < n->∀y∈E x,b y < k->t x + 1<=t y
 w:∀e∈done,b e.2=k->t e.1 + 1<=t e.2
 g:∀y,t y=0\/∃x,x < n/\y∈E x/\t y<=t x + 1
theorem Va.step {b:Nat->Nat} {k:Nat} {done:List (Nat × Nat)} {t:Nat->Nat} (hb:∀x,x < n->∀y∈E x,b x < b y) (hdn:∀e∈done,e.1 < n/\e.2∈E e.1) (h:Va E n b k done t) {x y:Nat} (hx:x < n) (hy:y∈E x):Va E n b k ((x,y)::done) (cV t x y):=by
 have hxy:x≠y:=by rintro rfl; have:=hb x hx x hy; omega
 have low:∀z,b z < k->cV t x y z=t z:=fun z hz=>by
  unfold cV
  by_cases e:z=y
  ·subst e
   rw [if_pos rfl]
   have:=h.v x hx z hy hz
   omega
  ·rw [if_neg e]
 refine ⟨fun u hu v hv hk=>?_,fun e he hk=>?_,fun z=>?_⟩
 ·have h1:=hb u hu v hv
  rw [low v hk,low u (by omega)]
  exact h.v u hu v hv hk
 ·rcases List.mem_cons.mp he with rfl | he
  ·have h1:=hb x hx y hy
   rw [low x (by simp only at hk; omega)]
   show t x + 1<=cV t x y y
   unfold cV
   rw [if_pos rfl]; omega
  ·obtain ⟨h2,h3⟩:=hdn e he
   have h1:=hb e.1 h2 e.2 h3
   rw [low e.1 (by omega)]
   exact Nat.le_trans (h.w e he hk) (qo t x y e.2)
 ·by_cases e:z=y
  ·subst e
   have e1:cV t x z z=max (t z) (t x + 1):=by unfold cV; rw [if_pos rfl]
   by_cases hm:t z<=t x + 1
   ·right
    refine ⟨x,hx,hy,?_⟩
    have:=qo t x z x
    omega
   ·rcases h.g z with g | ⟨u,g1,g2,g3⟩
    ·omega
    ·right
     refine ⟨u,g1,g2,?_⟩
     have:=qo t x z u
     omega
  ·have e1:cV t x y z=t z:=by unfold cV; rw [if_neg e]
   rw [e1]
   rcases h.g z with g | ⟨u,g1,g2,g3⟩
   ·exact .inl g
   ·exact .inr ⟨u,g1,g2,Nat.le_trans g3 (Nat.add_le_add_right (qo t x y u) 1)⟩
theorem Va.relx {b:Nat->Nat} {k:Nat} (hb:∀x,x < n->∀y∈E x,b x < b y) {x:Nat} (hx:x < n):∀(l:List Nat) (done:List (Nat × Nat)) (t:Nat->Nat),(∀y∈l,y∈E x)->(∀e∈done,e.1 < n/\e.2∈E e.1)->Va E n b k done t ->
  ∃done',(∀e∈done',e.1 < n/\e.2∈E e.1)/\(∀e∈done,e∈done')/\(∀y∈l,(x,y)∈done')/\Va E n b k done' (l.foldl (fun t y=>cV t x y) t)
 | [],done,t,_,hd,h=>⟨done,hd,fun _ z=>z,fun _ z=>(by cases z),h⟩
 | y::l,done,t,hl,hd,h=>by
  obtain ⟨done',h1,h2,h3,h4⟩:=Va.relx hb hx l ((x,y)::done) (cV t x y) (fun z hz=>hl z (List.mem_cons_of_mem _ hz)) (fun e he=>by
   rcases List.mem_cons.mp he with rfl | he
   ·exact ⟨hx,hl y List.mem_cons_self⟩
   ·exact hd e he) (h.step hb hd hx (hl y List.mem_cons_self))
  refine ⟨done',h1,fun e he=>h2 e (List.mem_cons_of_mem _ he),fun z hz=>?_,h4⟩
  rcases List.mem_cons.mp hz with rfl | hz
  ·exact h2 _ List.mem_cons_self
  ·exact h3 z hz
theorem Va.rnd {b:Nat->Nat} {k:Nat} (hb:∀x,x < n->∀y∈E x,b x < b y):∀(l:List Nat) (done:List (Nat × Nat)) (t:Nat->Nat),(∀x∈l,x < n)->(∀e∈done,e.1 < n/\e.2∈E e.1)->Va E n b k done t ->
  ∃done',(∀e∈done',e.1 < n/\e.2∈E e.1)/\(∀e∈done,e∈done')/\(∀x∈l,∀y∈E x,(x,y)∈done')/\Va E n b k done' (rnd E l t)
 | [],done,t,_,hd,h=>⟨done,hd,fun _ z=>z,fun _ z=>(by cases z),h⟩
 | x::l,done,t,hl,hd,h=>by
  obtain ⟨d1,a1,a2,a3,a4⟩:=Va.relx hb (hl x List.mem_cons_self) (E x) done t (fun _ z=>z) hd h
  obtain ⟨d2,b1,b2,b3,b4⟩:=Va.rnd hb l d1 _ (fun z hz=>hl z (List.mem_cons_of_mem _ hz)) a1 a4
  refine ⟨d2,b1,fun e he=>b2 e (a2 e he),fun z hz y hy=>?_,b4⟩
  rcases List.mem_cons.mp hz with rfl | hz
  ·exact b2 _ (a3 y hy)
  ·exact b3 z hz y hy
theorem Va.next {b:Nat->Nat} {k:Nat} {t:Nat->Nat} (hb:∀x,x < n->∀y∈E x,b x < b y) (h:Va E n b k [] t):Va E n b (k + 1) [] (Gr.rnd E (List.range n) t):=by
 obtain ⟨d,h1,_,h3,h4⟩:=Va.rnd hb (List.range n) [] t (fun x hx=>List.mem_range.mp hx) (fun _ z=>by cases z) h
 refine ⟨fun x hx y hy hk=>?_,fun _ z=>by (cases z),h4.g⟩
 by_cases e:b y=k
 ·exact h4.w (x,y) (h3 x (List.mem_range.mpr hx) y hy) e
 ·exact h4.v x hx y hy (by omega)
theorem Va.all {b:Nat->Nat} (hb:∀x,x < n->∀y∈E x,b x < b y):∀(j k:Nat) (t:Nat->Nat),Va E n b k [] t->Va E n b (k + j) [] (oW E n j t)
 | 0,k,t,h=>h
 | j + 1,k,t,h=>by
  have:=Va.all hb j (k + 1) _ (h.next hb)
  rw [show k + (j + 1)=k + 1 + j by omega]
  exact this
end Gr
end
section
namespace Hd
theorem tf {f:Nat->Nat} {a v:Nat}:∀{l:List Nat},l.Nodup->(l.map fun y=>if y=a then f y + v else f y).sum=(l.map f).sum + if a∈l then v else 0
 | [],_=>by simp
 | b::l,h=>by
  have h':=List.nodup_cons.mp h
  have ih:=tf (f:=f) (a:=a) (v:=v) h'.2
  rw [List.map_cons,List.sum_cons,ih,List.map_cons,List.sum_cons]
  by_cases e:b=a
  ·subst e
   rw [if_pos rfl,if_neg h'.1,if_pos List.mem_cons_self]; omega
  ·rw [if_neg e]
   by_cases m:a∈l
   ·rw [if_pos m,if_pos (List.mem_cons_of_mem _ m)]; omega
   ·rw [if_neg m,if_neg (fun z=>(List.mem_cons.mp z).elim (fun q=>e q.symm) m)]; omega
theorem sZ {f:Nat->Nat} {a v:Nat} (hv:v<=f a):∀{l:List Nat},l.Nodup->(l.map fun y=>if y=a then f y - v else f y).sum + (if a∈l then v else 0)=(l.map f).sum
 | [],_=>by simp
 | b::l,h=>by
  have h':=List.nodup_cons.mp h
  have ih:=sZ hv h'.2
  rw [List.map_cons,List.sum_cons,List.map_cons,List.sum_cons]
  by_cases e:b=a
  ·subst e
   rw [if_neg h'.1] at ih
   rw [if_pos rfl,if_pos List.mem_cons_self]; omega
  ·rw [if_neg e]
   by_cases m:a∈l
   ·rw [if_pos m] at ih
    rw [if_pos (List.mem_cons_of_mem _ m)]; omega
   ·rw [if_neg m] at ih
    rw [if_neg (fun z=>(List.mem_cons.mp z).elim (fun q=>e q.symm) m)]; omega
def put (c:Nat->Nat->Nat) (h t z:Nat):Nat->Nat->Nat:=fun g x=>if g=h then (if x=t then z else c g x) else c g x
def dn (v:Nat) (c:Nat->Nat->Nat) (h t:Nat):Nat->Nat->Nat:=put c h t (c h t - v)
def up (v:Nat) (c:Nat->Nat->Nat) (h u:Nat):Nat->Nat->Nat:=put c h u (c h u + v)
abbrev Ml:=Nat × Nat × Nat
def mv (v:Nat) (c:Nat->Nat->Nat) (s:Ml):Nat->Nat->Nat:=up v (dn v c s.1 s.2.1) s.1 s.2.2
variable {v n:Nat} {c:Nat->Nat->Nat}
theorem zE {h t g:Nat} (hv:v<=c h t) {l:List Nat} (nd:l.Nodup):(l.map (dn v c h t g)).sum + (if g=h then if t∈l then v else 0 else 0)=(l.map (c g)).sum:=by
 by_cases e:g=h
 ·subst e
  rw [if_pos rfl,<-sZ (f:=c g) hv nd]
  congr 2
  refine List.map_congr_left fun x _=>?_
  show (if g=g then (if x=t then c g t - v else c g x) else c g x)=_
  rw [if_pos rfl]
  by_cases q:x=t
  ·rw [if_pos q,if_pos q,q]
  ·rw [if_neg q,if_neg q]
 ·rw [if_neg e,Nat.add_zero]
  congr 1
  refine List.map_congr_left fun x _=>?_
  show (if g=h then _ else c g x)=_
  rw [if_neg e]
theorem zw {h u g:Nat} {l:List Nat} (nd:l.Nodup):(l.map (up v c h u g)).sum=(l.map (c g)).sum + if g=h then if u∈l then v else 0 else 0:=by
 by_cases e:g=h
 ·subst e
  rw [if_pos rfl,<-tf (f:=c g) nd]
  congr 1
  refine List.map_congr_left fun x _=>?_
  show (if g=g then (if x=u then c g u + v else c g x) else c g x)=_
  rw [if_pos rfl]
  by_cases q:x=u
  ·rw [if_pos q,if_pos q,q]
  ·rw [if_neg q,if_neg q]
 ·rw [if_neg e,Nat.add_zero]
  congr 1
  refine List.map_congr_left fun x _=>?_
  show (if g=h then _ else c g x)=_
  rw [if_neg e]
theorem D9 {h t x:Nat} (hv:v<=c h t) (hh:h < n):((List.range n).map fun g=>dn v c h t g x).sum + (if x=t then v else 0)=((List.range n).map fun g=>c g x).sum:=by
 by_cases e:x=t
 ·subst e
  have:=sZ (f:=fun g=>c g x) (a:=h) hv (List.nodup_range (n:=n))
  rw [if_pos (List.mem_range.mpr hh)] at this
  rw [if_pos rfl,<-this]
  congr 2
  refine List.map_congr_left fun g _=>?_
  show (if g=h then (if x=x then c h x - v else c g x) else c g x)=_
  by_cases q:g=h
  ·rw [if_pos q,if_pos rfl,if_pos q,q]
  ·rw [if_neg q,if_neg q]
 ·rw [if_neg e,Nat.add_zero]
  congr 1
  refine List.map_congr_left fun g _=>?_
  show (if g=h then (if x=t then _ else c g x) else c g x)=_
  rw [if_neg e]; split <;> rfl
theorem F6 {h u x:Nat} (hh:h < n):((List.range n).map fun g=>up v c h u g x).sum=((List.range n).map fun g=>c g x).sum + if x=u then v else 0:=by
 by_cases e:x=u
 ·subst e
  have:=tf (f:=fun g=>c g x) (a:=h) (v:=v) (List.nodup_range (n:=n))
  rw [if_pos (List.mem_range.mpr hh)] at this
  rw [if_pos rfl,<-this]
  congr 1
  refine List.map_congr_left fun g _=>?_
  show (if g=h then (if x=x then c h x + v else c g x) else c g x)=_
  by_cases q:g=h
  ·rw [if_pos q,if_pos rfl,if_pos q,q]
  ·rw [if_neg q,if_neg q]
 ·rw [if_neg e,Nat.add_zero]
  congr 1
  refine List.map_congr_left fun g _=>?_
  show (if g=h then (if x=u then _ else c g x) else c g x)=_
  rw [if_neg e]; split <;> rfl
theorem jk (h t g x:Nat):dn v c h t g x<=c g x:=by
 show (if g=h then (if x=t then c h t - v else c g x) else c g x)<=_
 split
 ·rename_i e
  split
  ·rename_i q; subst e q; omega
  ·omega
 ·omega
theorem yR (h u g x:Nat):up v c h u g x<=c g x + v/\c g x<=up v c h u g x:=by
 show (if g=h then (if x=u then c h u + v else c g x) else c g x)<=_/\_<=(if g=h then (if x=u then c h u + v else c g x) else c g x)
 split
 ·rename_i e
  split
  ·rename_i q; subst e q; omega
  ·omega
 ·omega
theorem kT (s:Ml) (g x:Nat):mv v c s g x<=c g x + v:=by
 have h1:=(yR (v:=v) (c:=dn v c s.1 s.2.1) s.1 s.2.2 g x).1
 have h2:=jk (v:=v) (c:=c) s.1 s.2.1 g x
 show up v (dn v c s.1 s.2.1) s.1 s.2.2 g x<=_
 omega
theorem DG {s:Ml} {g x:Nat} (hx:x≠s.2.1):c g x<=mv v c s g x:=by
 have h1:=(yR (v:=v) (c:=dn v c s.1 s.2.1) s.1 s.2.2 g x).2
 have h2:dn v c s.1 s.2.1 g x=c g x:=by
  show (if g=s.1 then (if x=s.2.1 then _ else c g x) else c g x)=_
  rw [if_neg hx]; split <;> rfl
 rw [h2] at h1; exact h1
structure Ok (W:Nat->List Nat) (n v:Nat) (c:Nat->Nat->Nat) (ss:List Ml):Prop where
 lt:∀s∈ss,s.1 < n
 ne:∀s∈ss,(W s.1).idxOf s.2.2 < (W s.1).idxOf s.2.1
 nd:(ss.map fun s=>s.2.1).Nodup
 ge:∀s∈ss,v<=c s.1 s.2.1
variable {W:Nat->List Nat}
theorem Ok.next {s:Ml} {ss:List Ml} (h:Ok W n v c (s::ss)):Ok W n v (mv v c s) ss:=by
 have hn:=h.nd
 rw [List.map_cons] at hn
 have hn':=List.nodup_cons.mp hn
 refine ⟨fun z hz=>h.lt z (List.mem_cons_of_mem _ hz),fun z hz=>h.ne z (List.mem_cons_of_mem _ hz),hn'.2,fun z hz=>?_⟩
 refine Nat.le_trans (h.ge z (List.mem_cons_of_mem _ hz)) (DG ?_)
 intro e
 exact hn'.1 (by rw [<-e]; exact List.mem_map.mpr ⟨z,hz,rfl⟩)
def all (v:Nat) (c:Nat->Nat->Nat) (ss:List Ml):Nat->Nat->Nat:=ss.foldl (mv v) c
theorem gZ (x:Nat):∀(ss:List Ml) (c:Nat->Nat->Nat),Ok W n v c ss->((List.range n).map fun g=>all v c ss g x).sum + (ss.map fun s=>s.2.1).count x * v=((List.range n).map fun g=>c g x).sum + (ss.map fun s=>s.2.2).count x * v
 | [],c,_=>by simp [all]
 | s::ss,c,h=>by
  have ih:=gZ x ss (mv v c s) h.next
  have h1:=D9 (c:=c) (v:=v) (n:=n) (x:=x) (h.ge s List.mem_cons_self) (h.lt s List.mem_cons_self)
  have h2:=F6 (c:=dn v c s.1 s.2.1) (v:=v) (n:=n) (h:=s.1) (u:=s.2.2) (x:=x) (h.lt s List.mem_cons_self)
  have e1:((s::ss).map fun s=>s.2.1).count x * v=(ss.map fun s=>s.2.1).count x * v + if x=s.2.1 then v else 0:=by
   rw [List.map_cons,List.count_cons,Nat.add_mul]
   congr 1
   by_cases q:x=s.2.1
   ·rw [if_pos (by simp [q]),if_pos q,Nat.one_mul]
   ·rw [if_neg (by simp; exact fun z=>q z.symm),if_neg q,Nat.zero_mul]
  have e2:((s::ss).map fun s=>s.2.2).count x * v=(ss.map fun s=>s.2.2).count x * v + if x=s.2.2 then v else 0:=by
   rw [List.map_cons,List.count_cons,Nat.add_mul]
   congr 1
   by_cases q:x=s.2.2
   ·rw [if_pos (by simp [q]),if_pos q,Nat.one_mul]
   ·rw [if_neg (by simp; exact fun z=>q z.symm),if_neg q,Nat.zero_mul]
  rw [e1,e2]
  show ((List.range n).map fun g=>all v (mv v c s) ss g x).sum + _=_
  have e3:((List.range n).map fun g=>mv v c s g x).sum=((List.range n).map fun g=>up v (dn v c s.1 s.2.1) s.1 s.2.2 g x).sum:=rfl
  rw [e3,h2] at ih
  omega
theorem JF {l:List Nat} {t u k:Nat} (h:l.idxOf u < l.idxOf t) (ht:t∈l.take k):u∈l.take k:=by
 have h1:l.idxOf t < k:=by
  have e:(l.take k).idxOf t < (l.take k).length:=List.idxOf_lt_length_of_mem ht
  have e2:l.idxOf t=(l.take k).idxOf t:=by
   conv=>lhs; rw [<-List.take_append_drop k l]
   rw [List.idxOf_append,if_pos ht]
  rw [e2]
  have:=List.length_take_le k l
  omega
 have hlen:l.idxOf u < l.length:=Nat.lt_of_lt_of_le h (List.idxOf_le_length)
 have hm:=List.getElem_idxOf hlen
 exact List.mem_take_iff_getElem.mpr ⟨l.idxOf u,by omega,hm⟩
theorem zS {s:Ml} {ss:List Ml} (h:Ok W n v c (s::ss)) (g k:Nat) (nd:(W g).Nodup):(((W g).take k).map (c g)).sum<=(((W g).take k).map (mv v c s g)).sum:=by
 have hs:s∈s::ss:=List.mem_cons_self
 have ndk:((W g).take k).Nodup:=nd.sublist (List.take_sublist _ _)
 have h1:=zE (c:=c) (g:=g) (h.ge s hs) ndk
 have h2:=zw (v:=v) (c:=dn v c s.1 s.2.1) (h:=s.1) (u:=s.2.2) (g:=g) ndk
 show _<=(((W g).take k).map (up v (dn v c s.1 s.2.1) s.1 s.2.2 g)).sum
 rw [h2,<-h1]
 by_cases e:g=s.1
 ·rw [if_pos e,if_pos e]
  by_cases m:s.2.1∈(W g).take k
  ·have hu:s.2.2∈(W g).take k:=JF (by rw [e]; exact h.ne s hs) m
   rw [if_pos m,if_pos hu]
   exact Nat.le_refl _
  ·rw [if_neg m]; omega
 ·rw [if_neg e,if_neg e]; omega
theorem fF (g k:Nat) (nd:(W g).Nodup):∀(ss:List Ml) (c:Nat->Nat->Nat),Ok W n v c ss->(((W g).take k).map (c g)).sum<=(((W g).take k).map (all v c ss g)).sum
 | [],c,_=>Nat.le_refl _
 | s::ss,c,h=>Nat.le_trans (zS h g k nd) (fF g k nd ss (mv v c s) h.next)
theorem HK {s:Ml} {ss:List Ml} (h:Ok W n v c (s::ss)) (nd:(W s.1).Nodup):∃k,(((W s.1).take k).map (c s.1)).sum + v<=(((W s.1).take k).map (all v c (s::ss) s.1)).sum:=by
 have hs:s∈s::ss:=List.mem_cons_self
 refine ⟨(W s.1).idxOf s.2.2 + 1,?_⟩
 have ndk:((W s.1).take ((W s.1).idxOf s.2.2 + 1)).Nodup:=nd.sublist (List.take_sublist _ _)
 have h1:=zE (c:=c) (g:=s.1) (h.ge s hs) ndk
 have h2:=zw (v:=v) (c:=dn v c s.1 s.2.1) (h:=s.1) (u:=s.2.2) (g:=s.1) ndk
 have hlt:=h.ne s hs
 have hlen:(W s.1).idxOf s.2.2 < (W s.1).length:=Nat.lt_of_lt_of_le hlt List.idxOf_le_length
 have hu:s.2.2∈(W s.1).take ((W s.1).idxOf s.2.2 + 1):=by
  have hm:=List.getElem_idxOf hlen
  exact List.mem_take_iff_getElem.mpr ⟨(W s.1).idxOf s.2.2,by omega,hm⟩
 have ht:s.2.1∉(W s.1).take ((W s.1).idxOf s.2.2 + 1):=by
  intro z
  have e:((W s.1).take ((W s.1).idxOf s.2.2 + 1)).idxOf s.2.1 < _:=List.idxOf_lt_length_of_mem z
  have e2:(W s.1).idxOf s.2.1=((W s.1).take ((W s.1).idxOf s.2.2 + 1)).idxOf s.2.1:=by
   conv=>lhs; rw [<-List.take_append_drop ((W s.1).idxOf s.2.2 + 1) (W s.1)]
   rw [List.idxOf_append,if_pos z]
  have:=List.length_take_le ((W s.1).idxOf s.2.2 + 1) (W s.1)
  omega
 rw [if_pos rfl,if_neg ht] at h1
 rw [if_pos rfl,if_pos hu] at h2
 have h3:=fF s.1 ((W s.1).idxOf s.2.2 + 1) nd ss (mv v c s) h.next
 have h4:(((W s.1).take ((W s.1).idxOf s.2.2 + 1)).map (mv v c s s.1)).sum=(((W s.1).take ((W s.1).idxOf s.2.2 + 1)).map (up v (dn v c s.1 s.2.1) s.1 s.2.2 s.1)).sum:=rfl
 rw [h4,h2] at h3
 show _<=(((W s.1).take ((W s.1).idxOf s.2.2 + 1)).map (all v (mv v c s) ss s.1)).sum
 omega
theorem eZ:∀(ss:List Ml) (c:Nat->Nat->Nat),Ok W n v c ss->(∀g,g < n->(W g).Nodup)->∀s∈ss,∃k,(((W s.1).take k).map (c s.1)).sum + v<=(((W s.1).take k).map (all v c ss s.1)).sum
 | [],c,_,_,s,hs=>by cases hs
 | z::ss,c,h,nd,s,hs=>by
  have hn:=nd s.1 (h.lt s hs)
  rcases List.mem_cons.mp hs with rfl | hs
  ·exact HK h hn
  ·obtain ⟨k,hk⟩:=eZ ss (mv v c z) h.next nd s hs
   exact ⟨k,Nat.le_trans (Nat.add_le_add_right (zS h s.1 k hn) v) hk⟩
end Hd
end
namespace Law
open PySem PySem.Spec PyProof.Rows L2 DL
abbrev gv (i:Nat):DL.FE:=fun r=>DL.dc r i
abbrev ci (i:Int):DL.FE:=fun _=>.ok (.int i)
abbrev aG:List DL.Md:=[.bw,.bw]
abbrev bC:List DL.Md:=[.sh,.sh,.sh]
abbrev bB:List DL.Md:=[.sh,.sh,.sh,.sh,.sh,.sh,.sh]
abbrev cL:List DL.Md:=[.bw,.sh,.sh]
abbrev cX:List DL.Md:=[.bw,.bw,.sh,.ow,.sh,.sh,.sh,.sh,.sh,.ow,.ow,.sh]
abbrev cW:List DL.Md:=[.sh,.sh,.sh,.bw,.sh,.sh,.sh,.sh,.sh]
abbrev c9:List DL.Md:=[.sh,.sh]
abbrev dq:List DL.Md:=[.bw,.bw,.sh,.sh]
abbrev dm:List DL.Md:=[.bw,.bw,.bw,.bw]
abbrev eF:List DL.Md:=[.sh,.bw,.bw,.sh,.sh,.sh,.sh,.sh,.sh,.sh]
abbrev fu:List DL.Md:=[.bw,.bw,.ow,.sh,.sh,.sh,.sh]
abbrev fq:List DL.Md:=[.bw,.bw,.bw]
abbrev fR:List DL.Md:=[.sh,.bw,.bw,.sh,.sh,.ow,.sh,.sh,.sh,.sh]
abbrev gz:List DL.Md:=[.bw,.sh,.ow,.sh]
abbrev gy:List DL.Md:=[.bw,.bw,.sh,.sh,.sh]
abbrev gx:List DL.Md:=[.bw,.sh,.sh,.sh,.ow,.sh,.sh,.sh,.sh,.sh,.sh,.sh,.sh,.sh,.sh,.sh]
abbrev gw:List DL.Md:=[.sh,.bw,.bw,.bw,.ow,.sh,.sh]
abbrev gu:List DL.Md:=[.bw,.sh]
abbrev gs:List DL.Md:=[.bw,.bw,.bw,.sh]
abbrev im:List DL.Md:=[.bw,.bw,.sh,.ow,.sh,.sh,.sh,.sh,.sh,.sh,.sh,.sh]
abbrev il:List DL.Md:=[.bw,.ow,.sh,.sh]
abbrev jd:List DL.Md:=[.sh,.bw,.ow,.sh]
abbrev jb:List DL.Md:=[.bw,.sh,.sh,.sh]
abbrev ja:List DL.Md:=[.bw,.bw,.bw,.bw,.sh]
abbrev i9:List DL.Md:=[.bw,.sh,.sh,.sh,.ow,.sh,.sh,.sh,.ow,.sh,.sh,.sh,.sh,.sh,.sh,.sh]
abbrev i8:List DL.Md:=[.sh,.sh,.sh,.bw,.sh,.sh,.sh,.sh]
abbrev km:List DL.Md:=[.bw,.bw,.ow,.sh,.ow,.sh,.sh]
abbrev kl:List DL.Md:=[.bw,.bw,.sh,.sh,.sh,.sh,.sh]
abbrev kj:List DL.Md:=[.bw,.bw,.sh,.ow,.sh,.sh]
abbrev ki:List DL.Md:=[.bw,.bw,.sh,.sh,.sh,.sh]
abbrev kh:List DL.Md:=[.bw,.sh,.sh,.sh,.ow,.sh,.sh,.sh,.ow,.sh,.ow,.sh,.sh,.sh,.sh,.sh]
abbrev kg:List DL.Md:=[.bw,.sh,.sh,.sh,.sh,.sh,.sh,.sh,.sh,.sh,.sh,.sh,.sh,.sh,.sh,.sh]
abbrev ke:List DL.Md:=[.bw,.sh,.sh,.sh,.ow,.sh,.sh,.sh,.sh,.sh,.sh,.sh,.sh,.ow,.sh,.sh]
abbrev kd:List DL.Md:=[.bw,.bw,.bw,.bw,.ow,.sh,.sh,.sh]
abbrev kb:List DL.Md:=[.bw,.bw,.ow,.sh,.sh]
abbrev ka:List DL.Md:=[.bw,.bw,.bw,.sh,.sh]
abbrev lV:List DL.Md:=[.sh,.sh,.sh,.sh,.sh,.sh,.sh,.sh]
abbrev pc:List DL.Md:=[.bw,.bw,.sh,.sh,.sh,.sh,.sh,.sh,.sh,.sh,.sh,.sh]
abbrev o9:List DL.Md:=[.bw,.bw,.bw,.bw,.ow,.sh,.ow,.sh]
abbrev o8:List DL.Md:=[.bw,.bw,.bw,.bw,.sh,.sh,.sh,.sh]
def top (i:Nat):Stmt:=PySem.Challenge.pw_ringtrade_k34_rings_of_shares.main.body.getD i (.Pass ⟨0,0,0,0⟩)
structure Txt (K:W.Frag) (mg:Str->Option Value):Prop where
 b_range:mg "range" = none
 b_tuple:mg "tuple" = none
 b_len:mg "len" = none
 b_abs:mg "abs" = none
 b_list:mg "list" = none
 b_zip:mg "zip" = none
 b_enumerate:mg "enumerate" = none
 b_sum:mg "sum" = none
 b_any:mg "any" = none
 b_isinstance:mg "isinstance" = none
 b_bool:mg "bool" = none
 b_int:mg "int" = none
 b_all:mg "all" = none
 b_set:mg "set" = none
 k_NOUGHT:∃a,mg "NOUGHT" = some (.ref a)/\KC K a (.tup [.int 0,.int 1])
abbrev uY:Stmt:=top 28
abbrev Ca:List Str:=["_law_cell_here","_law_m","_law_row_here","_law_thing"]
abbrev n6:List Str:=["_law_cell_here","_law_m"]
theorem qL:FnScope Ca n6 (az uY):=cj
abbrev Cm:FS:=
 (Mg (cM "list" jd 2 (ae (f2 (gv 0) (f2 (gv 3) (ci 1) addA) ba) (ae (gv 3) aa)) insD) (Mg (ao jd 0 (f2 (gv 0) (f2 (gv 3) (ci 1) addA) kE)) ar))
def vV:FS:=
 (Mg (ao [.sh,.bw,.sh,.sh] 2 (eJ aa)) (Mg (cI jd (cC cw (ae (gv 1) aa)) (av 3) Cm) (Mg (au jd (fC (ae (gv 2) aa) tupD)) ar)))
def iZ:List D->Res D:=fun ds=>aH false (vV (bG Ca.length ds))
variable {P:Program} {w:World} {K:W.Frag} {mg:Str->Option Value} {base:Heap}
theorem Ho (T:Txt K mg) (A:DefAt K mg "_law_row" uY):Callee P w K mg base "_law_row" n6 [] 1 false [.sh,.bw] iZ:=
 cn (m':=jd) A qL fun f cdv A outer s H g E hr hu1=>(aj (hU 2 qL.nd (by rfl) (fS rfl) (fW bI))
   (aj (fI PassesOwn.never rfl (iY (by rfl) T.b_range (aV (af 1) aW)) (aQ 3 qL.nd) (aj (jz 2 rfl PySem.F.plainAttrs_list PySem.F.slot_list_insert PySem.F.type_list_insert J4 Fg (by rfl) (dh rfl) (aT (eO (af 0) (bE (cT (af 3) iB))) (aT (v_ 3) bI)))
   (aj (bF 0 qL.nd (pV (af 0) (bE (cT (af 3) iB))))
   ax)))
   (aj (bf (gm (by rfl) T.b_tuple (aV (af 2) aW)))
   ax)))
abbrev vQ:Stmt:=top 27
abbrev B6:List Str:=["_law_script","_law_k","_law_cell_here","_law_stirred"]
abbrev mS:List Str:=["_law_script","_law_k"]
theorem qT:FnScope B6 mS (az vQ):=cj
def qJ:FS:=
 (Mg (ao dq 2 (ci 0)) (Mg (bS dq (bq (f2 (gv 1) (fC (ae (gv 0) aa) lenD) iM)) (Mg (ao dq 2 (f2 (f2 (gv 0) (gv 1) am) (f2 (ci 10) (ci 60) je) ba)) ar) ar) (Mg (bS dq (dy (bq (f2 (fC (ae (gv 0) aa) lenD) (ci 0) iO)) (bq (f2 (f2 (f2 (gv 0) (ci 0) am) (ci 2) ba) (ci 0) eqD))) (Mg (au dq (gv 2)) ar) ar) (Mg (ao dq 3 (f2 (f2 (f2 (f2 (f2 (f2 (f2 (gv 2) (f2 (f2 (ci 7) (gv 1) bx) (gv 1) bx) addA) (f2 (ci 13) (gv 1) bx) addA) (ci 5) addA) (ci 48271) bx) (ci 2147483647) ba) (ci 69621) bx) (ci 1000000007) ba)) (Mg (au dq (f2 (f2 (f2 (f2 (f2 (gv 3) (ci 1) addA) (ci 40692) bx) (ci 2147483629) ba) (ci 39373) bx) (ci 999999937) ba)) ar)))))
def dD:List D->Res D:=fun ds=>aH false (qJ (bG B6.length ds))
theorem HP (T:Txt K mg) (A:DefAt K mg "_law_cell" vQ):Callee P w K mg base "_law_cell" mS [] 1 false aG dD:=
 cn (m':=dq) A qT fun f cdv A outer s H g E hr hu1=>have hu64:=hr.units; (aj (bF 2 qT.nd dC)
   (aj (a9 (lU (af 1) (bE (dJ (by rfl) T.b_len (aV (af 0) aW)))) (aj (bF 2 qT.nd (eO (xB hu1 (af 0) (af 1)) (bE (Ei iB iB))))
   ax)
   ax)
   (aj (a9 (SW.toQ (pK (j9 (bE (dJ (by rfl) T.b_len (aV (af 0) aW))) iB) (pU (o7 hu64 (bE (eO (xB hu1 (af 0) iB) iB)) iB)))) (aj (bf (v_ 2))
   ax)
   ax)
   (aj (bF 3 qT.nd (eO (bE (iG (bE (eO (bE (iG (bE (cT (bE (cT (bE (cT (af 2) (bE (iG (bE (iG iB (af 1))) (af 1))))) (bE (iG iB (af 1))))) iB)) iB)) iB)) iB)) iB))
   (aj (bf (eO (bE (iG (bE (eO (bE (iG (bE (cT (af 3) iB)) iB)) iB)) iB)) iB))
   ax)))))
abbrev ou:Stmt:=top 29
abbrev qV:List Str:=["_law_script","_law_at","_law_n","_law_m"]
abbrev rE:List Str:=["_law_script","_law_at","_law_n","_law_m"]
theorem CI:FnScope qV rE (az ou):=cj
def wC:FS:=
 (Mg (au dm (fC (ae (bU 1 [3,0,1] (cC cw (ae (gv 2) aa)) (av 0) (fun _=>Res.ok true) (aA (ae (aA (ae (gv 2) (ae (f2 (gv 3) (gv 0) addA) aa)) [] dD) (ae (gv 1) aa)) [] iZ)) aa) tupD)) ar)
def mW:List D->Res D:=fun ds=>aH false (wC (bG qV.length ds))
theorem JN (T:Txt K mg) (A:DefAt K mg "_law_wishes" ou) (c__law_cell:Callee P w K mg base "_law_cell" mS [] 1 false aG dD) (c__law_row:Callee P w K mg base "_law_row" n6 [] 1 false [.sh,.bw] iZ):Callee P w K mg base "_law_wishes" rE [] 2 false dm mW:=
 cn (m':=dm) A CI fun f cdv A outer s H g E hr hu1=>(aj (bf (gm (by rfl) T.b_tuple (aV (SO.toB (fX (X:=(aU bP P w K mg base qV "_law_wishes" (az ou) f cdv A outer s H E).nox) (N':=["_law_hand","_law_m","_law_script","_law_at"]) (nl:=1) (cap:=[3,0,1]) CI.nd rfl (c7 (osc:=(az ou)) (ON:=qV) rfl rfl (by decide +kernel)) (gC.toC (iY (by rfl) T.b_range (aV (af 2) aW))) (fun _ _ _ _ _ _=>(aQ 0 (show List.Nodup (["_law_hand","_law_m","_law_script","_law_at"]:List Str) by decide +kernel))) (cF (by decide)) (fun _ _ _ _ _ _=>eS) (fun _ _ _ _ _ _=>(aR c__law_row (aI (aR c__law_cell (ah (af 2) (ah (bE (cT (af 3) (af 0))) aS))) (ah (af 1) aS)))))) aW)))
   ax)
abbrev vH:Stmt:=top 30
abbrev CJ:List Str:=["_law_one","_law_other","_law_rest"]
abbrev qW:List Str:=["_law_one","_law_other"]
theorem rD:FnScope CJ qW (az vH):=cj
abbrev oK:FQ:=
 (bq (f2 (gv 1) (ci 0) neD))
abbrev oJ:FS:=
 (Mg (ao bC 2 (f2 (gv 0) (gv 1) ba)) (Mg (ao bC 0 (gv 1)) (Mg (ao bC 1 (gv 2)) ar)))
def wz:FS:=
 (Mg (dM bC oK oJ 1000) (Mg (au bC (fC (ae (gv 0) aa) absD)) ar))
def mV:List D->Res D:=fun ds=>aH false (wz (bG CJ.length ds))
theorem JK (T:Txt K mg) (A:DefAt K mg "_law_common" vH):Callee P w K mg base "_law_common" qW [] 1 false c9 mV:=
 cn (m':=bC) A rD fun f cdv A outer s H g E hr hu1=>have hu64:=hr.units; (aj (nN 1000 PassesOwn.never (eD hu64 (af 1) iB) (aj (bF 2 rD.nd (eO (af 0) (af 1)))
   (aj (bF 0 rD.nd (v_ 1))
   (aj (bF 1 rD.nd (v_ 2))
   ax))))
   (aj (bf (yS (by rfl) T.b_abs (aV (af 0) aW)))
   ax))
abbrev uX:Stmt:=top 31
abbrev B9:List Str:=["_law_top","_law_bottom","_law_by"]
abbrev mQ:List Str:=["_law_top","_law_bottom"]
theorem Ct:FnScope B9 mQ (az uX):=cj
def vU:FS:=
 (Mg (ao bC 2 (aA (ae (gv 0) (ae (gv 1) aa)) [] mV)) (Mg (au bC (c0 (ae (f2 (gv 0) (gv 2) Mm) (ae (f2 (gv 1) (gv 2) Mm) aa)))) ar))
def gO:List D->Res D:=fun ds=>aH false (vU (bG B9.length ds))
theorem Hn (T:Txt K mg) (A:DefAt K mg "_law_low" uX) (c__law_common:Callee P w K mg base "_law_common" qW [] 1 false c9 mV):Callee P w K mg base "_law_low" mQ [] 2 false c9 gO:=
 cn (m':=bC) A Ct fun f cdv A outer s H g E hr hu1=>(aj (bF 2 Ct.nd (aR c__law_common (aI (v_ 0) (aI (v_ 1) aS))))
   (aj (bf (eh (aT (qp (af 0) (af 2)) (aT (qp (af 1) (af 2)) bI))))
   ax))
abbrev vT:Stmt:=top 32
abbrev B8:List Str:=["_law_a","_law_b"]
abbrev nZ:List Str:=["_law_a","_law_b"]
theorem Lq:FnScope B8 nZ (az vT):=cj
def vF:FS:=
 (Mg (au aG (aA (ae (f2 (f2 (f2 (gv 0) (ci 0) am) (f2 (gv 1) (ci 1) am) cB) (f2 (f2 (gv 1) (ci 0) am) (f2 (gv 0) (ci 1) am) cB) addA) (ae (f2 (f2 (gv 0) (ci 1) am) (f2 (gv 1) (ci 1) am) cB) aa)) [] gO)) ar)
def ib:List D->Res D:=fun ds=>aH false (vF (bG B8.length ds))
theorem HR (T:Txt K mg) (A:DefAt K mg "_law_plus" vT) (c__law_low:Callee P w K mg base "_law_low" mQ [] 2 false c9 gO):Callee P w K mg base "_law_plus" nZ [] 3 false aG ib:=
 cn (m':=aG) A Lq fun f cdv A outer s H g E hr hu1=>(aj (bf (aR c__law_low (aI (cT (bE (hJ (xB hu1 (af 0) iB) (xB hu1 (af 1) iB))) (bE (hJ (xB hu1 (af 1) iB) (xB hu1 (af 0) iB)))) (aI (hJ (xB hu1 (af 0) iB) (xB hu1 (af 1) iB)) aS))))
   ax)
abbrev ox:Stmt:=top 39
abbrev qZ:List Str:=["_law_parts_here","_law_n","_law_rows","_law_hand","_law_row_here","_law_part","_law_got"]
abbrev q9:List Str:=["_law_parts_here","_law_n"]
theorem mZ:FnScope qZ q9 (az ox):=cj
abbrev Cz:FS:=
 (Mg (eG km 4 (f2 (gv 6) (gv 3) am) (aA (ae (f2 (gv 4) (f2 (gv 6) (gv 3) am) am) (ae (gv 5) aa)) [] ib)) ar)
abbrev CA:FS:=
 (Mg (ao fu 4 (bU 1 [] (cC cw (ae (gv 1) aa)) (av 0) (fun _=>Res.ok true) (c0 (ae (ci 0) (ae (ci 1) aa))))) (Mg (cI km (aC bp (gv 0)) (bT (aK (av 5) (aK (av 6) bQ))) Cz) (Mg (cM "list" km 2 (ae (fC (ae (gv 4) aa) tupD) aa) appD) ar)))
def wH:FS:=
 (Mg (ao kl 2 (eJ aa)) (Mg (cI fu (cC cw (ae (gv 1) aa)) (av 3) CA) (Mg (au fu (fC (ae (gv 2) aa) tupD)) ar)))
def m5:List D->Res D:=fun ds=>aH false (wH (bG qZ.length ds))
theorem IZ (T:Txt K mg) (A:DefAt K mg "_law_mixed" ox) (c__law_plus:Callee P w K mg base "_law_plus" nZ [] 3 false aG ib):Callee P w K mg base "_law_mixed" q9 [] 4 false aG m5:=
 cn (m':=fu) A mZ fun f cdv A outer s H g E hr hu1=>(aj (hU 2 mZ.nd (by rfl) (fS rfl) (fW bI))
   (aj (fI PassesOwn.never rfl (iY (by rfl) T.b_range (aV (af 1) aW)) (aQ 3 mZ.nd) (uW (m':=km) 4 (aj (jZ 4 (X:=(aU bP P w K mg base qZ "_law_mixed" (az ox) f cdv A outer s H E).nox) (m:=fu) (N':=["_law_thing"]) (nl:=1) (cap:=[]) mZ.nd rfl (by rfl) (by rfl) (c7 (osc:=(az ox)) (ON:=qZ) rfl rfl (by decide +kernel)) (gC.toC (iY (by rfl) T.b_range (aV (af 1) aW))) (fun _ _ _ _ _ _=>(aQ 0 (show List.Nodup (["_law_thing"]:List Str) by decide +kernel))) (cF (by decide)) (fun _ _ _ _ _ _=>eS) (fun _ _ _ _ _ _=>(eh (aT dC (aT dC bI)))))
   (aj (pW PassesOwn.never rfl (zL (rN 0)) (dZ rfl (bO (aQ 5 mZ.nd) (bO (aQ 6 mZ.nd) dY))) (aj (lc 4 hu1 rfl (by rfl) (dh rfl) (xB hu1 (af 6) (af 3)) (aR c__law_plus (ah (xB hu1 (af 4) (xB hu1 (af 6) (af 3))) (ah (af 5) aS))))
   ax))
   (aj (jz 2 rfl PySem.F.plainAttrs_list PySem.F.slot_list_append PySem.F.type_list_append jY kH (by rfl) (dh rfl) (aT (gm (by rfl) T.b_tuple (aV (af 4) aW)) bI))
   ax))) rfl))
   (aj (bf (gm (by rfl) T.b_tuple (aV (af 2) aW)))
   ax)))
abbrev oM:Stmt:=top 18
abbrev rB:List Str:=["steps","place","places"]
abbrev rC:List Str:=["steps","place","places"]
theorem CT:FnScope rB rC (az oM):=cj
def w6:FS:=
 (Mg (au fq (bU 1 [2] (aC bp (f2 (gv 0) (gv 1) am)) (av 0) (bq (f2 (gv 0) (gv 1) jL)) (gv 0))) ar)
def mU:List D->Res D:=fun ds=>aH false (w6 (bG rB.length ds))
theorem Ka (T:Txt K mg) (A:DefAt K mg "steps_within" oM):Callee P w K mg base "steps_within" rC [] 1 false fq mU:=
 cn (m':=fq) A CT fun f cdv A outer s H g E hr hu1=>(aj (bf (SO.toE (fX (X:=(aU bP P w K mg base rB "steps_within" (az oM) f cdv A outer s H E).nox) (N':=["other","places"]) (nl:=1) (cap:=[2]) CT.nd rfl (c7 (osc:=(az oM)) (ON:=rB) rfl rfl (by decide +kernel)) (dL (xB hu1 (af 0) (af 1))) (fun _ _ _ _ _ _=>(aQ 0 (show List.Nodup (["other","places"]:List Str) by decide +kernel))) (cF (by decide)) (fun _ _ _ _ _ _=>(ls (o6 hu1 (af 0) (af 1)))) (fun _ _ _ _ _ _=>(v_ 0)))))
   ax)
abbrev oC:Stmt:=top 17
abbrev rH:List Str:=["steps","places","staying"]
abbrev xw:List Str:=["steps"]
theorem oN:FnScope rH xw (az oC):=cj
abbrev C9:FQ:=
 (bq (f2 (fC (ae (gv 2) aa) lenD) (fC (ae (gv 1) aa) lenD) neD))
abbrev xr:FS:=
 (Mg (ao cL 1 (gv 2)) (Mg (ao cL 2 (bU 1 [0,1] (aC bp (gv 1)) (av 0) (aL (aA (ae (gv 1) (ae (gv 0) (ae (gv 2) aa))) [] mU)) (gv 0))) ar))
def xu:FS:=
 (Mg (ao cL 1 (eJ aa)) (Mg (ao cL 2 (f1 (gv 0) sQ)) (Mg (dM cL C9 xr 64) (Mg (au cL (gv 1)) ar))))
def rG:List D->Res D:=fun ds=>aH false (xu (bG rH.length ds))
theorem KS (T:Txt K mg) (A:DefAt K mg "places_that_go_on" oC) (c_steps_within:Callee P w K mg base "steps_within" rC [] 1 false fq mU):Callee P w K mg base "places_that_go_on" xw [] 2 false [Md.bw] rG:=
 cn (m':=cL) A oN fun f cdv A outer s H g E hr hu1=>have hu64:=hr.units; (aj (bF 1 oN.nd (SO.toE (fW bI)))
   (aj (bF 2 oN.nd (SO.toE (ET rfl (by rfl) T.b_list (af 0))))
   (aj (nN 64 PassesOwn.never (eD hu64 (bE (dJ (by rfl) T.b_len (aV (af 2) aW))) (bE (dJ (by rfl) T.b_len (aV (af 1) aW)))) (uW (m':=[.bw,.sh,.ow]) 2 (aj (bF 1 oN.nd (v_ 2))
   (aj (jZ 2 (X:=(aU bP P w K mg base rH "places_that_go_on" (az oC) f cdv A outer s H E).nox) (m:=cL) (N':=["place","steps","places"]) (nl:=1) (cap:=[0,1]) oN.nd rfl (by rfl) (by rfl) (c7 (osc:=(az oC)) (ON:=rH) rfl rfl (by decide +kernel)) (dL (af 1)) (fun _ _ _ _ _ _=>(aQ 0 (show List.Nodup (["place","steps","places"]:List Str) by decide +kernel))) (cF (by decide)) (fun _ _ _ _ _ _=>(ls (cO (bE (aR c_steps_within (ah (af 1) (ah (af 0) (ah (af 2) aS)))))))) (fun _ _ _ _ _ _=>(v_ 0)))
   ax)) rfl))
   (aj (bf (v_ 1))
   ax))))
abbrev vZ:Stmt:=top 19
abbrev CQ:List Str:=["steps","places","walk","place"]
abbrev wU:List Str:=["steps"]
theorem oB:FnScope CQ wU (az vZ):=cj
abbrev C6:FQ:=
 (bq (f2 (gv 3) (gv 2) da))
abbrev C5:FS:=
 (Mg (cM "list" gz 2 (ae (gv 3) aa) appD) (Mg (ao gz 3 (f2 (aA (ae (gv 0) (ae (gv 3) (ae (gv 1) aa))) [] mU) (ci 0) am)) ar))
def oG:FS:=
 (Mg (ao jb 1 (aA (ae (gv 0) aa) [] rG)) (Mg (bS jb (bg (aL (gv 1))) (Mg (au jb (fun _=>Res.ok D.non)) ar) ar) (Mg (ao jb 2 (eJ aa)) (Mg (ao gz 3 (f2 (gv 1) (ci 0) am)) (Mg (dM gz C6 C5 64) (Mg (au gz (gW (gv 2) (g9 (fM "list" (gv 2) (ae (gv 3) aa) nJ)) (fun _=>Res.ok none))) ar))))))
def oI:List D->Res D:=fun ds=>aH false (oG (bG CQ.length ds))
theorem Kh (T:Txt K mg) (A:DefAt K mg "ring_of_steps" vZ) (c_places_that_go_on:Callee P w K mg base "places_that_go_on" xw [] 2 false [Md.bw] rG) (c_steps_within:Callee P w K mg base "steps_within" rC [] 1 false fq mU):Callee P w K mg base "ring_of_steps" wU [] 3 false [Md.bw] oI:=
 cn (m':=gz) A oB fun f cdv A outer s H g E hr hu1=>(aj (bF 1 oB.nd (aR c_places_that_go_on (ah (af 0) aS)))
   (aj (a9 (d9 (cO (af 1))) (aj (bf kA)
   ax)
   ax)
   (aj (hU 2 oB.nd (by rfl) (fS rfl) (fW bI))
   (aj (bF 3 oB.nd (cS hu1 (af 1) iB))
   (aj (nN 64 PassesOwn.never (nj hu1 (af 3) (af 2)) (aj (jz 2 rfl PySem.F.plainAttrs_list PySem.F.slot_list_append PySem.F.type_list_append jY kH (by rfl) (dh rfl) (aT (v_ 3) bI))
   (aj (bF 3 oB.nd (cS hu1 (bE (aR c_steps_within (ah (af 0) (ah (af 3) (ah (af 1) aS))))) iB))
   ax)))
   (aj (bf (kB (af 2) (kK (bE (ij PySem.F.plainAttrs_list PySem.F.slot_list_index PySem.F.type_list_index BQ BM (af 2) (aV (af 3) aW)))) kJ))
   ax))))))
abbrev sW:Stmt:=top 14
abbrev zz:List Str:=["a","b"]
abbrev pX:List Str:=["a","b"]
theorem Hb:FnScope zz pX (az sW):=cj
def sH:FS:=
 (Mg (au aG (f2 (f2 (f2 (gv 0) (ci 0) am) (f2 (gv 1) (ci 1) am) cB) (f2 (f2 (gv 1) (ci 0) am) (f2 (gv 0) (ci 1) am) cB) iM)) ar)
def kF:List D->Res D:=fun ds=>aH false (sH (bG zz.length ds))
theorem DM (T:Txt K mg) (A:DefAt K mg "less" sW):Callee P w K mg base "less" pX [] 1 false aG kF:=
 cn (m':=aG) A Hb fun f cdv A outer s H g E hr hu1=>(aj (bf (lR (bE (hJ (xB hu1 (af 0) iB) (xB hu1 (af 1) iB))) (bE (hJ (xB hu1 (af 1) iB) (xB hu1 (af 0) iB)))))
   ax)
abbrev tu:Stmt:=top 5
abbrev Ad:List Str:=["wishes","hand","one","other","row"]
abbrev t6:List Str:=["wishes","hand","one","other"]
theorem A7:FnScope Ad t6 (az tu):=cj
def t0:FS:=
 (Mg (ao ja 4 (f2 (gv 0) (gv 1) am)) (Mg (au ja (f2 (fM "tuple" (gv 4) (ae (gv 2) aa) mI) (fM "tuple" (gv 4) (ae (gv 3) aa) mI) iM)) ar))
def qh:List D->Res D:=fun ds=>aH false (t0 (bG Ad.length ds))
theorem EE (T:Txt K mg) (A:DefAt K mg "likes" tu):Callee P w K mg base "likes" t6 [] 1 false dm qh:=
 cn (m':=ja) A A7 fun f cdv A outer s H g E hr hu1=>(aj (bF 4 A7.nd (cS hu1 (af 0) (af 1)))
   (aj (bf (lR (bE (ij PySem.F.plainAttrs_tuple PySem.F.slot_tuple_index PySem.F.type_tuple_index qH qG (af 4) (aV (af 2) aW))) (bE (ij PySem.F.plainAttrs_tuple PySem.F.slot_tuple_index PySem.F.type_tuple_index qH qG (af 4) (aV (af 3) aW)))))
   ax))
abbrev lM:Stmt:=top 21
abbrev m8:List Str:=["wishes","table","thing","other","having"]
abbrev rK:List Str:=["wishes","table","thing","other"]
theorem xm:FnScope m8 rK (az lM):=cj
def xq:FS:=
 (Mg (ao ja 4 (bU 1 [2,1] (cC cw (ae (fC (ae (gv 0) aa) lenD) aa)) (av 0) (aL (aA (ae (fun _=>Res.ok (D.tup [D.int 0,D.int 1])) (ae (f2 (f2 (gv 2) (gv 0) am) (gv 1) am) aa)) [] kF)) (gv 0))) (Mg (au [.bw,.bw,.bw,.bw,.ow] (bU 1 [0,3,2] (aC bp (gv 4)) (av 0) (aL (aA (ae (gv 1) (ae (gv 0) (ae (gv 2) (ae (gv 3) aa)))) [] qh)) (gv 0))) ar))
def m7:List D->Res D:=fun ds=>aH false (xq (bG m8.length ds))
theorem KB (T:Txt K mg) (A:DefAt K mg "hands_that_rise" lM) (c_less:Callee P w K mg base "less" pX [] 1 false aG kF) (c_likes:Callee P w K mg base "likes" t6 [] 1 false dm qh):Callee P w K mg base "hands_that_rise" rK [] 2 false dm m7:=
 cn (m':=[.bw,.bw,.bw,.bw,.ow]) A xm fun f cdv A outer s H g E hr hu1=>(aj (jZ 4 (X:=(aU bP P w K mg base m8 "hands_that_rise" (az lM) f cdv A outer s H E).nox) (m:=ja) (N':=["hand","thing","table"]) (nl:=1) (cap:=[2,1]) xm.nd rfl (by rfl) (by rfl) (c7 (osc:=(az lM)) (ON:=m8) rfl rfl (by decide +kernel)) (gC.toC (iY (by rfl) T.b_range (aV (bE (dJ (by rfl) T.b_len (aV (af 0) aW))) aW))) (fun _ _ _ _ _ _=>(aQ 0 (show List.Nodup (["hand","thing","table"]:List Str) by decide +kernel))) (cF (by decide)) (fun _ _ _ _ _ _=>(ls (cO (bE (aR c_less (ah (bE (G6 (by rfl) T.k_NOUGHT)) (ah (xB hu1 (xB hu1 (af 2) (af 0)) (af 1)) aS))))))) (fun _ _ _ _ _ _=>(v_ 0)))
   (aj (bf (SO.toE (fX (X:=(aU bP P w K mg base m8 "hands_that_rise" (az lM) f cdv A outer s H E).nox) (N':=["hand","wishes","other","thing"]) (nl:=1) (cap:=[0,3,2]) xm.nd rfl (c7 (osc:=(az lM)) (ON:=m8) rfl rfl (by decide +kernel)) (dL (af 4)) (fun _ _ _ _ _ _=>(aQ 0 (show List.Nodup (["hand","wishes","other","thing"]:List Str) by decide +kernel))) (cF (by decide)) (fun _ _ _ _ _ _=>(ls (cO (bE (aR c_likes (ah (af 1) (ah (af 0) (ah (af 2) (ah (af 3) aS))))))))) (fun _ _ _ _ _ _=>(v_ 0)))))
   ax))
abbrev nW:Stmt:=top 22
abbrev qP:List Str:=["wishes","table","things","steps","thing"]
abbrev vL:List Str:=["wishes","table"]
theorem n0:FnScope qP vL (az nW):=cj
abbrev Cn:FS:=
 (Mg (eG [.bw,.bw,.sh,.ow,.sh] 3 (gv 4) (bU 1 [0,1,4] (aC bp (gv 2)) (av 0) (aL (aA (ae (gv 1) (ae (gv 2) (ae (gv 3) (ae (gv 0) aa)))) [] m7)) (gv 0))) ar)
def vY:FS:=
 (Mg (ao gy 2 (fC (ae (fC (ae (gv 1) aa) lenD) aa) kz)) (Mg (ao gy 3 (fun _=>Res.ok (D.dic []))) (Mg (cI [.bw,.bw,.sh,.ow,.sh] (aC bp (gv 2)) (av 4) Cn) (Mg (au gy (gv 3)) ar))))
def qN:List D->Res D:=fun ds=>aH false (vY (bG qP.length ds))
theorem Ht (T:Txt K mg) (A:DefAt K mg "steps_up" nW) (c_hands_that_rise:Callee P w K mg base "hands_that_rise" rK [] 2 false dm m7):Callee P w K mg base "steps_up" vL [] 3 false aG qN:=
 cn (m':=gy) A n0 fun f cdv A outer s H g E hr hu1=>(aj (bF 2 n0.nd (SO.toE (qt rfl (by rfl) T.b_list (by rfl) T.b_range (aV (bE (dJ (by rfl) T.b_len (aV (af 1) aW))) aW))))
   (aj (hU 3 n0.nd (by rfl) (fS rfl) ES)
   (aj (fI PassesOwn.never rfl (mr (v_ 2)) (aQ 4 n0.nd) (aj (lc 3 hu1 rfl (by rfl) (dh rfl) (af 4) (SO.toE (fX (X:=(aU bP P w K mg base qP "steps_up" (az nW) f cdv A outer s H E).nox) (N':=["other","wishes","table","thing"]) (nl:=1) (cap:=[0,1,4]) n0.nd rfl (c7 (osc:=(az nW)) (ON:=qP) rfl rfl (by decide +kernel)) (dL (af 2)) (fun _ _ _ _ _ _=>(aQ 0 (show List.Nodup (["other","wishes","table","thing"]:List Str) by decide +kernel))) (cF (by decide)) (fun _ _ _ _ _ _=>(ls (cO (bE (aR c_hands_that_rise (ah (af 1) (ah (af 2) (ah (af 3) (ah (af 0) aS))))))))) (fun _ _ _ _ _ _=>(v_ 0)))))
   ax))
   (aj (nv 3 rfl (bf (v_ 3)))
   ax))))
abbrev vI:Stmt:=top 7
abbrev CK:List Str:=["hands"]
abbrev rF:List Str:=["hands"]
theorem Lv:FnScope CK rF (az vI):=cj
def n9:FS:=
 (Mg (au [Md.bw] (f2 (gW (gv 0) (g9 (ci 1)) (fun _=>Res.ok none)) (gW (gv 0) (fun _=>Res.ok none) (g9 (ci 1))) addE)) ar)
def j5:List D->Res D:=fun ds=>aH false (n9 (bG CK.length ds))
theorem Ju (T:Txt K mg) (A:DefAt K mg "ones_behind" vI):Callee P w K mg base "ones_behind" rF [] 1 false [Md.bw] j5:=
 cn (m':=[Md.bw]) A Lv fun f cdv A outer s H g E hr hu1=>(aj (bf (zn (bE (kB (af 0) (kK iB) kJ)) (bE (kB (af 0) kJ (kK iB)))))
   ax)
abbrev vD:Stmt:=top 23
abbrev Cq:List Str:=["wishes","table","things","ring","thing","other"]
abbrev wN:List Str:=["wishes","table"]
theorem oh:FnScope Cq wN (az vD):=cj
abbrev CD:FS:=
 (Mg (cM "list" kj 3 (ae (c0 (ae (f2 (aA (ae (gv 0) (ae (gv 1) (ae (gv 4) (ae (gv 5) aa)))) [] m7) (ci 0) am) (ae (gv 4) aa))) aa) appD) ar)
def on:FS:=
 (Mg (ao ki 2 (aA (ae (aA (ae (gv 0) (ae (gv 1) aa)) [] qN) aa) [] oI)) (Mg (bS ki (bq (f2 (gv 2) (fun _=>Res.ok D.non) lX)) (Mg (au ki (fun _=>Res.ok D.non)) ar) ar) (Mg (ao ki 3 (eJ aa)) (Mg (cI kj (dQ (gv 2) (aA (ae (gv 2) aa) [] j5)) (bT (aK (av 4) (aK (av 5) bQ))) CD) (Mg (au kj (fC (ae (gv 3) aa) tupD)) ar)))))
def kO:List D->Res D:=fun ds=>aH false (on (bG Cq.length ds))
theorem Ib (T:Txt K mg) (A:DefAt K mg "share_ring" vD) (c_steps_up:Callee P w K mg base "steps_up" vL [] 3 false aG qN) (c_ring_of_steps:Callee P w K mg base "ring_of_steps" wU [] 3 false [Md.bw] oI) (c_ones_behind:Callee P w K mg base "ones_behind" rF [] 1 false [Md.bw] j5) (c_hands_that_rise:Callee P w K mg base "hands_that_rise" rK [] 2 false dm m7):Callee P w K mg base "share_ring" wN [] 4 false aG kO:=
 cn (m':=kj) A oh fun f cdv A outer s H g E hr hu1=>(aj (bF 2 oh.nd (aR c_ring_of_steps (ah (bE (aR c_steps_up (ah (af 0) (ah (af 1) aS)))) aS)))
   (aj (a9 (o5 (af 2) (bE kA)) (aj (bf kA)
   ax)
   ax)
   (aj (hU 3 oh.nd (by rfl) (fS rfl) (fW bI))
   (aj (fI PassesOwn.never rfl (pP (by rfl) T.b_zip (v_ 2) (aR c_ones_behind (ah (af 2) aS))) (dZ rfl (bO (aQ 4 oh.nd) (bO (aQ 5 oh.nd) dY))) (aj (jz 3 rfl PySem.F.plainAttrs_list PySem.F.slot_list_append PySem.F.type_list_append jY kH (by rfl) (dh rfl) (aT (eh (aT (cS hu1 (bE (aR c_hands_that_rise (ah (af 0) (ah (af 1) (ah (af 4) (ah (af 5) aS)))))) iB) (aT (v_ 4) bI))) bI))
   ax))
   (aj (bf (gm (by rfl) T.b_tuple (aV (af 3) aW)))
   ax)))))
abbrev lH:Stmt:=top 46
abbrev mY:List Str:=["_law_wanted","_law_table","_law_cell_here","_law_likings","_law_hand","_law_row_here","_law_at","_law_thing","_law_here","_law_path","_law_things","_law_better"]
abbrev wE:List Str:=["_law_wanted","_law_table","_law_cell_here"]
theorem gN:FnScope mY wE (az lH):=cj
abbrev CS:FQ:=
 (dy (bq (f2 (gv 8) (gv 10) da)) (bq (f2 (fC (ae (f2 (gv 3) (gv 8) am) aa) lenD) (ci 0) iO)))
abbrev wQ:FS:=
 (Mg (bS im (bq (f2 (f2 (f2 (f2 (gv 1) (gv 4) am) (gv 7) am) (ci 0) am) (ci 0) iO)) (Mg (eG im 3 (gv 7) (f2 (f2 (gv 3) (gv 7) am) (bU 1 [4] (aC bp (gW (gv 5) (fun _=>Res.ok none) (g9 (gv 6)))) (av 0) (fun _=>Res.ok true) (c0 (ae (gv 1) (ae (gv 0) aa)))) addA)) ar) ar) ar)
abbrev CO:FS:=
 (Mg (cI im (dw (gv 5)) (bT (aK (av 6) (aK (av 7) bQ))) wQ) ar)
abbrev CP:FS:=
 (Mg (ao cX 2 (f2 (gv 2) (ci 7) kE)) (Mg (jm cX (f2 (f2 (gv 3) (gv 8) am) (f2 (gv 2) (fC (ae (f2 (gv 3) (gv 8) am) aa) lenD) ba) am) (bT (aK (av 4) (aK (av 11) bQ)))) (Mg (cM "list" cX 9 (ae (c0 (ae (gv 4) (ae (gv 8) aa))) aa) appD) (Mg (cM "list" cX 10 (ae (gv 8) aa) appD) (Mg (ao cX 8 (gv 11)) ar)))))
def wB:FS:=
 (Mg (ao pc 3 (bU 1 [] (aC bp (gv 1)) (av 0) (fun _=>Res.ok true) (eJ aa))) (Mg (cI im (dw (gv 0)) (bT (aK (av 4) (aK (av 5) bQ))) CO) (Mg (ao im 8 (f2 (gv 2) (fC (ae (gv 1) aa) lenD) ba)) (Mg (ao im 9 (eJ aa)) (Mg (ao [.bw,.bw,.sh,.ow,.sh,.sh,.sh,.sh,.sh,.ow,.sh,.sh] 10 (eJ aa)) (Mg (dM cX CS CP 64) (Mg (bS cX (bq (f2 (gv 8) (gv 10) da)) (Mg (au cX (fun _=>Res.ok D.non)) ar) ar) (Mg (au cX (fC (ae (gW (gv 9) (g9 (fM "list" (gv 10) (ae (gv 8) aa) nJ)) (fun _=>Res.ok none)) aa) tupD)) ar))))))))
def lI:List D->Res D:=fun ds=>aH false (wB (bG mY.length ds))
theorem JM (T:Txt K mg) (A:DefAt K mg "_law_walked" lH):Callee P w K mg base "_law_walked" wE [] 1 false [.bw,.bw,.sh] lI:=
 cn (m':=cX) A gN fun f cdv A outer s H g E hr hu1=>(aj (jZ 3 (X:=(aU bP P w K mg base mY "_law_walked" (az lH) f cdv A outer s H E).nox) (m:=pc) (N':=["_law_row_here"]) (nl:=1) (cap:=[]) gN.nd rfl (by rfl) (by rfl) (c7 (osc:=(az lH)) (ON:=mY) rfl rfl (by decide +kernel)) (dL (af 1)) (fun _ _ _ _ _ _=>(aQ 0 (show List.Nodup (["_law_row_here"]:List Str) by decide +kernel))) (cF (by decide)) (fun _ _ _ _ _ _=>eS) (fun _ _ _ _ _ _=>(SO.toE (fW bI))))
   (aj (pW PassesOwn.never rfl (AG (by rfl) T.b_enumerate (rN 0)) (dZ rfl (bO (aQ 4 gN.nd) (bO (aQ 5 gN.nd) dY))) (aj (fI PassesOwn.never rfl (mD (by rfl) T.b_enumerate (v_ 5)) (dZ rfl (bO (aQ 6 gN.nd) (bO (aQ 7 gN.nd) dY))) (aj (a9 (j9 (xB hu1 (xB hu1 (xB hu1 (af 1) (af 4)) (af 7)) iB) iB) (aj (lc 3 hu1 rfl (by rfl) (dh rfl) (af 7) (cT (xB hu1 (af 3) (af 7)) (SO.toB (fX (X:=(aU bP P w K mg base mY "_law_walked" (az lH) f cdv A outer s H E).nox) (N':=["_law_better","_law_hand"]) (nl:=1) (cap:=[4]) gN.nd rfl (c7 (osc:=(az lH)) (ON:=mY) rfl rfl (by decide +kernel)) (dL (bE (kB (af 5) kJ (kK (af 6))))) (fun _ _ _ _ _ _=>(aQ 0 (show List.Nodup (["_law_better","_law_hand"]:List Str) by decide +kernel))) (cF (by decide)) (fun _ _ _ _ _ _=>eS) (fun _ _ _ _ _ _=>(eh (aT (v_ 1) (aT (v_ 0) bI))))))))
   ax)
   ax)
   ax))
   ax))
   (aj (bF 8 gN.nd (eO (af 2) (bE (dJ (by rfl) T.b_len (aV (af 1) aW)))))
   (aj (hU 9 gN.nd (by rfl) (fS rfl) (fW bI))
   (aj (hU 10 gN.nd (by rfl) (fS rfl) (fW bI))
   (aj (nN 64 PassesOwn.never (SW.toQ (pK (nj hu1 (af 8) (af 10)) (pU (j9 (bE (dJ (by rfl) T.b_len (aV (xB hu1 (af 3) (af 8)) aW))) iB)))) (aj (bF 2 gN.nd (pV (af 2) iB))
   (aj (yV (cS hu1 (xB hu1 (af 3) (af 8)) (bE (eO (af 2) (bE (dJ (by rfl) T.b_len (aV (xB hu1 (af 3) (af 8)) aW)))))) (dZ rfl (bO (aQ 4 gN.nd) (bO (aQ 11 gN.nd) dY))))
   (aj (jz 9 rfl PySem.F.plainAttrs_list PySem.F.slot_list_append PySem.F.type_list_append jY kH (by rfl) (dh rfl) (aT (eh (aT (v_ 4) (aT (v_ 8) bI))) bI))
   (aj (jz 10 rfl PySem.F.plainAttrs_list PySem.F.slot_list_append PySem.F.type_list_append jY kH (by rfl) (dh rfl) (aT (v_ 8) bI))
   (aj (bF 8 gN.nd (v_ 11))
   ax))))))
   (aj (a9 (nj hu1 (af 8) (af 10)) (aj (bf kA)
   ax)
   ax)
   (aj (bf (gm (by rfl) T.b_tuple (aV (bE (kB (af 9) (kK (bE (ij PySem.F.plainAttrs_list PySem.F.slot_list_index PySem.F.type_list_index BQ BM (af 10) (aV (af 8) aW)))) kJ)) aW)))
   ax))))))))
abbrev ic:Stmt:=top 47
abbrev iL:List Str:=["_law_script","_law_n","_law_hands","_law_things","_law_rows","_law_firsts","_law_k","_law_first","_law_dealings","_law_gets","_law_got","_law_at","_law_weights","_law_parts_here","_law_ring","_law_start"]
abbrev wM:List Str:=["_law_script"]
theorem eT:FnScope iL wM (az ic):=cj
abbrev rm:FS:=
 (Mg (ao gx 7 (fC (ae (bU 1 [3] (aC bp (f2 (gv 5) (gv 6) am)) (av 0) (fun _=>Res.ok true) (f2 (gv 1) (gv 0) am)) aa) tupD)) (Mg (eG gx 4 (f2 (gv 2) (gv 6) am) (f2 (gv 7) (fC (ae (bU 1 [7] (aC bp (f2 (gv 4) (f2 (gv 2) (gv 6) am) am)) (av 0) (bq (f2 (gv 0) (gv 1) da)) (gv 0)) aa) tupD) addA)) ar))
abbrev CC:FS:=
 (Mg (eG kh 10 (f2 (gv 2) (gv 11) am) (f2 (gv 3) (f2 (f2 (gv 9) (fC (ae (ci 4) (ae (gv 1) aa)) nr) addA) (gv 11) am) am)) ar)
abbrev w9:FS:=
 (Mg (ao i9 10 (bU 1 [] (aC bp (gv 2)) (av 0) (fun _=>Res.ok true) (fun _=>Res.ok D.non))) (Mg (cI kh (cC cw (ae (gv 1) aa)) (av 11) CC) (Mg (eG kh 8 (gv 6) (fC (ae (gv 10) aa) tupD)) ar)))
def wJ:FS:=
 (Mg (ao kg 1 (f2 (ci 4) (f2 (aA (ae (gv 0) (ae (ci 20) aa)) [] dD) (ci 4) ba) addA)) (Mg (ao kg 2 (aA (ae (aA (ae (gv 0) (ae (ci 21) aa)) [] dD) (ae (gv 1) aa)) [] iZ)) (Mg (ao kg 3 (aA (ae (aA (ae (gv 0) (ae (ci 22) aa)) [] dD) (ae (gv 1) aa)) [] iZ)) (Mg (ao kg 4 (fC (ae (aA (ae (gv 0) (ae (ci 23) (ae (gv 1) (ae (gv 1) aa)))) [] mW) aa) jx)) (Mg (ao gx 5 (eJ (ae (c0 (ae (ci 1) (ae (ci 0) (ae (ci 3) (ae (ci 2) aa))))) (ae (c0 (ae (ci 2) (ae (ci 1) aa))) (ae (c0 (ae (ci 0) (ae (ci 3) aa))) aa))))) (Mg (cI gx (cC cw (ae (ci 3) aa)) (av 6) rm) (Mg (ao gx 8 (eJ (ae (fC (ae (gv 1) aa) kz) (ae (fC (ae (gv 1) aa) kz) aa)))) (Mg (cI i9 (dw (eJ (ae (c0 (ae (ci 0) (ae (ci 1) (ae (ci 3) (ae (ci 2) aa))))) (ae (c0 (ae (ci 2) (ae (ci 1) (ae (ci 3) (ae (ci 0) aa))))) aa)))) (bT (aK (av 6) (aK (av 9) bQ))) w9) (Mg (cM "list" i9 8 (ae (aA (ae (aA (ae (gv 0) (ae (ci 30) aa)) [] dD) (ae (gv 1) aa)) [] iZ) aa) appD) (Mg (ao i9 12 (bU 1 [0] (cC cw (ae (ci 3) aa)) (av 0) (fun _=>Res.ok true) (f2 (ci 1) (f2 (aA (ae (gv 1) (ae (f2 (ci 31) (gv 0) addA) aa)) [] dD) (ci 20) ba) addA))) (Mg (ao gx 13 (bU 2 [12] (dQ (gv 12) (gv 8)) (bT (aK (av 0) (aK (av 1) bQ))) (fun _=>Res.ok true) (c0 (ae (aA (ae (gv 0) (ae (fC (ae (gv 2) aa) sumD) aa)) [] gO) (ae (gv 1) aa))))) (Mg (ao ke 14 (eJ (ae (c0 (ae (f2 (gv 2) (ci 0) am) (ae (f2 (gv 3) (ci 0) am) aa))) (ae (c0 (ae (f2 (gv 2) (ci 1) am) (ae (f2 (gv 3) (ci 1) am) aa))) (ae (c0 (ae (f2 (gv 2) (ci 0) am) (ae (f2 (gv 3) (ci 2) am) aa))) (ae (c0 (ae (f2 (gv 2) (ci 2) am) (ae (f2 (gv 3) (ci 3) am) aa))) aa)))))) (Mg (ao ke 15 (f2 (f2 (aA (ae (gv 0) (ae (ci 20) aa)) [] dD) (ci 4) kE) (ci 4) ba)) (Mg (au ke (c0 (ae (fC (ae (gv 4) aa) tupD) (ae (aA (ae (gv 13) (ae (gv 1) aa)) [] m5) (ae (fC (ae (f2 (gW (gv 14) (g9 (gv 15)) (fun _=>Res.ok none)) (gW (gv 14) (fun _=>Res.ok none) (g9 (gv 15))) addE) aa) tupD) aa))))) ar))))))))))))))
def qY:List D->Res D:=fun ds=>aH false (wJ (bG iL.length ds))
theorem Ja (T:Txt K mg) (A:DefAt K mg "_law_twice" ic) (c__law_cell:Callee P w K mg base "_law_cell" mS [] 1 false aG dD) (c__law_row:Callee P w K mg base "_law_row" n6 [] 1 false [.sh,.bw] iZ) (c__law_wishes:Callee P w K mg base "_law_wishes" rE [] 2 false dm mW) (c__law_low:Callee P w K mg base "_law_low" mQ [] 2 false c9 gO) (c__law_mixed:Callee P w K mg base "_law_mixed" q9 [] 4 false aG m5):Callee P w K mg base "_law_twice" wM [] 5 false [Md.bw] qY:=
 cn (m':=ke) A eT fun f cdv A outer s H g E hr hu1=>(aj (bF 1 eT.nd (cT iB (bE (eO (bE (aR c__law_cell (ah (af 0) (ah iB aS)))) iB))))
   (aj (bF 2 eT.nd (aR c__law_row (aI (aR c__law_cell (ah (af 0) (ah iB aS))) (ah (af 1) aS))))
   (aj (bF 3 eT.nd (aR c__law_row (aI (aR c__law_cell (ah (af 0) (ah iB aS))) (ah (af 1) aS))))
   (aj (hU 4 eT.nd (by rfl) (fS rfl) (qd (by rfl) T.b_list (aV (bE (aR c__law_wishes (ah (af 0) (ah iB (ah (af 1) (ah (af 1) aS)))))) aW)))
   (aj (bF 5 eT.nd (SO.toE (fW (aT (eh (aT dC (aT dC (aT dC (aT dC bI))))) (aT (eh (aT dC (aT dC bI))) (aT (eh (aT dC (aT dC bI))) bI))))))
   (aj (fI PassesOwn.never rfl (iY (by rfl) T.b_range (aV iB aW)) (aQ 6 eT.nd) (aj (bF 7 eT.nd (gm (by rfl) T.b_tuple (aV (SO.toB (fX (X:=(aU bP P w K mg base iL "_law_twice" (az ic) f cdv A outer s H E).nox) (N':=["_law_at","_law_things"]) (nl:=1) (cap:=[3]) eT.nd rfl (c7 (osc:=(az ic)) (ON:=iL) rfl rfl (by decide +kernel)) (dL (xB hu1 (af 5) (af 6))) (fun _ _ _ _ _ _=>(aQ 0 (show List.Nodup (["_law_at","_law_things"]:List Str) by decide +kernel))) (cF (by decide)) (fun _ _ _ _ _ _=>eS) (fun _ _ _ _ _ _=>(cS hu1 (af 1) (af 0))))) aW)))
   (aj (lc 4 hu1 rfl (by rfl) (dh rfl) (xB hu1 (af 2) (af 6)) (cT (af 7) (bE (gm (by rfl) T.b_tuple (aV (SO.toB (fX (X:=(aU bP P w K mg base iL "_law_twice" (az ic) f cdv A outer s H E).nox) (N':=["_law_thing","_law_first"]) (nl:=1) (cap:=[7]) eT.nd rfl (c7 (osc:=(az ic)) (ON:=iL) rfl rfl (by decide +kernel)) (dL (xB hu1 (af 4) (xB hu1 (af 2) (af 6)))) (fun _ _ _ _ _ _=>(aQ 0 (show List.Nodup (["_law_thing","_law_first"]:List Str) by decide +kernel))) (cF (by decide)) (fun _ _ _ _ _ _=>(ls (nj hu1 (af 0) (af 1)))) (fun _ _ _ _ _ _=>(v_ 0)))) aW)))))
   ax)))
   (aj (hU 8 eT.nd (by rfl) (fS rfl) (fW (aT (SO.toE (qt rfl (by rfl) T.b_list (by rfl) T.b_range (aV (af 1) aW))) (aT (SO.toE (qt rfl (by rfl) T.b_list (by rfl) T.b_range (aV (af 1) aW))) bI))))
   (aj (fI PassesOwn.never rfl (mD (by rfl) T.b_enumerate (SO.toE (fW (aT (eh (aT dC (aT dC (aT dC (aT dC bI))))) (aT (eh (aT dC (aT dC (aT dC (aT dC bI))))) bI))))) (dZ rfl (bO (aQ 6 eT.nd) (bO (aQ 9 eT.nd) dY))) (uW (m':=kh) 10 (aj (jZ 10 (X:=(aU bP P w K mg base iL "_law_twice" (az ic) f cdv A outer s H E).nox) (m:=i9) (N':=["_law_hand"]) (nl:=1) (cap:=[]) eT.nd rfl (by rfl) (by rfl) (c7 (osc:=(az ic)) (ON:=iL) rfl rfl (by decide +kernel)) (dL (af 2)) (fun _ _ _ _ _ _=>(aQ 0 (show List.Nodup (["_law_hand"]:List Str) by decide +kernel))) (cF (by decide)) (fun _ _ _ _ _ _=>eS) (fun _ _ _ _ _ _=>kA))
   (aj (fI PassesOwn.never rfl (iY (by rfl) T.b_range (aV (af 1) aW)) (aQ 11 eT.nd) (aj (lc 10 hu1 rfl (by rfl) (dh rfl) (xB hu1 (af 2) (af 11)) (cS hu1 (af 3) (xB hu1 (bE (cT (af 9) (bE (Ha rfl (by rfl) T.b_tuple (by rfl) T.b_range (aV iB (aV (af 1) aW)))))) (af 11))))
   ax))
   (aj (lc 8 hu1 rfl (by rfl) (dh rfl) (af 6) (gm (by rfl) T.b_tuple (aV (af 10) aW)))
   ax))) rfl))
   (aj (jz 8 rfl PySem.F.plainAttrs_list PySem.F.slot_list_append PySem.F.type_list_append jY kH (by rfl) (dh rfl) (aT (aR c__law_row (aI (aR c__law_cell (ah (af 0) (ah iB aS))) (ah (af 1) aS))) bI))
   (aj (bF 12 eT.nd (SO.toE (fX (X:=(aU bP P w K mg base iL "_law_twice" (az ic) f cdv A outer s H E).nox) (N':=["_law_k","_law_script"]) (nl:=1) (cap:=[0]) eT.nd rfl (c7 (osc:=(az ic)) (ON:=iL) rfl rfl (by decide +kernel)) (gC.toC (iY (by rfl) T.b_range (aV iB aW))) (fun _ _ _ _ _ _=>(aQ 0 (show List.Nodup (["_law_k","_law_script"]:List Str) by decide +kernel))) (cF (by decide)) (fun _ _ _ _ _ _=>eS) (fun _ _ _ _ _ _=>(cT iB (bE (eO (bE (aR c__law_cell (ah (af 1) (ah (bE (cT iB (af 0))) aS)))) iB)))))))
   (aj (nv 8 rfl (jZ 13 (X:=(aU bP P w K mg base iL "_law_twice" (az ic) f cdv A outer s H E).nox) (m:=gx) (N':=["_law_weight","_law_got","_law_weights"]) (nl:=2) (cap:=[12]) eT.nd rfl (by rfl) (by rfl) (c7 (osc:=(az ic)) (ON:=iL) rfl rfl (by decide +kernel)) (gC.toC (pP (by rfl) T.b_zip (v_ 12) (v_ 8))) (fun _ _ _ _ _ _=>(dZ rfl (bO (aQ 0 (show List.Nodup (["_law_weight","_law_got","_law_weights"]:List Str) by decide +kernel)) (bO (aQ 1 (show List.Nodup (["_law_weight","_law_got","_law_weights"]:List Str) by decide +kernel)) dY)))) (nw (jI (cF (by decide)) (jI (cF (by decide)) nR))) (fun _ _ _ _ _ _=>eS) (fun _ _ _ _ _ _=>(eh (aT (aR c__law_low (aI (v_ 0) (aI (yZ rfl (by rfl) T.b_sum (aV (af 2) aW)) aS))) (aT (v_ 1) bI))))))
   (aj (bF 14 eT.nd (SO.toE (fW (aT (eh (aT (cS hu1 (af 2) iB) (aT (cS hu1 (af 3) iB) bI))) (aT (eh (aT (cS hu1 (af 2) iB) (aT (cS hu1 (af 3) iB) bI))) (aT (eh (aT (cS hu1 (af 2) iB) (aT (cS hu1 (af 3) iB) bI))) (aT (eh (aT (cS hu1 (af 2) iB) (aT (cS hu1 (af 3) iB) bI))) bI)))))))
   (aj (bF 15 eT.nd (eO (bE (pV (bE (aR c__law_cell (ah (af 0) (ah iB aS)))) iB)) iB))
   (aj (bf (eh (aT (gm (by rfl) T.b_tuple (aV (af 4) aW)) (aT (aR c__law_mixed (ah (af 13) (ah (af 1) aS))) (aT (gm (by rfl) T.b_tuple (aV (bE (zn (bE (kB (af 14) (kK (af 15)) kJ)) (bE (kB (af 14) kJ (kK (af 15)))))) aW)) bI)))))
   ax))))))))))))))
abbrev oy:Stmt:=top 38
abbrev q8:List Str:=["_law_script","_law_at","_law_n","_law_many","_law_weights","_law_whole","_law_found","_law_k"]
abbrev wL:List Str:=["_law_script","_law_at","_law_n","_law_many"]
theorem og:FnScope q8 wL (az oy):=cj
abbrev CB:FS:=
 (Mg (cM "list" o9 6 (ae (c0 (ae (aA (ae (f2 (gv 4) (gv 7) am) (ae (gv 5) aa)) [] gO) (ae (aA (ae (aA (ae (gv 0) (ae (f2 (f2 (gv 1) (f2 (ci 2) (gv 7) bx) addA) (ci 1) addA) aa)) [] dD) (ae (gv 2) aa)) [] iZ) aa))) aa) appD) ar)
def wI:FS:=
 (Mg (ao o8 4 (bU 1 [0,1] (cC cw (ae (gv 3) aa)) (av 0) (fun _=>Res.ok true) (f2 (ci 1) (f2 (aA (ae (gv 1) (ae (f2 (gv 2) (f2 (ci 2) (gv 0) bx) addA) aa)) [] dD) (ci 60) ba) addA))) (Mg (ao kd 5 (fC (ae (gv 4) aa) sumD)) (Mg (ao kd 6 (eJ aa)) (Mg (cI o9 (cC cw (ae (gv 3) aa)) (av 7) CB) (Mg (au kd (gv 6)) ar)))))
def qX:List D->Res D:=fun ds=>aH false (wI (bG q8.length ds))
theorem I0 (T:Txt K mg) (A:DefAt K mg "_law_parts" oy) (c__law_cell:Callee P w K mg base "_law_cell" mS [] 1 false aG dD) (c__law_row:Callee P w K mg base "_law_row" n6 [] 1 false [.sh,.bw] iZ) (c__law_low:Callee P w K mg base "_law_low" mQ [] 2 false c9 gO):Callee P w K mg base "_law_parts" wL [] 3 false dm qX:=
 cn (m':=kd) A og fun f cdv A outer s H g E hr hu1=>(aj (jZ 4 (X:=(aU bP P w K mg base q8 "_law_parts" (az oy) f cdv A outer s H E).nox) (m:=o8) (N':=["_law_k","_law_script","_law_at"]) (nl:=1) (cap:=[0,1]) og.nd rfl (by rfl) (by rfl) (c7 (osc:=(az oy)) (ON:=q8) rfl rfl (by decide +kernel)) (gC.toC (iY (by rfl) T.b_range (aV (af 3) aW))) (fun _ _ _ _ _ _=>(aQ 0 (show List.Nodup (["_law_k","_law_script","_law_at"]:List Str) by decide +kernel))) (cF (by decide)) (fun _ _ _ _ _ _=>eS) (fun _ _ _ _ _ _=>(cT iB (bE (eO (bE (aR c__law_cell (ah (af 1) (ah (bE (cT (af 2) (bE (iG iB (af 0))))) aS)))) iB)))))
   (aj (bF 5 og.nd (yZ rfl (by rfl) T.b_sum (aV (af 4) aW)))
   (aj (hU 6 og.nd (by rfl) (fS rfl) (fW bI))
   (aj (fI PassesOwn.never rfl (iY (by rfl) T.b_range (aV (af 3) aW)) (aQ 7 og.nd) (aj (jz 6 rfl PySem.F.plainAttrs_list PySem.F.slot_list_append PySem.F.type_list_append jY kH (by rfl) (dh rfl) (aT (eh (aT (aR c__law_low (aI (cS hu1 (af 4) (af 7)) (aI (v_ 5) aS))) (aT (aR c__law_row (aI (aR c__law_cell (ah (af 0) (ah (bE (cT (bE (cT (af 1) (bE (iG iB (af 7))))) iB)) aS))) (ah (af 2) aS))) bI))) bI))
   ax))
   (aj (nv 6 rfl (bf (v_ 6)))
   ax)))))
abbrev oE:Stmt:=top 41
abbrev re:List Str:=["_law_found","_law_left","_law_turn","_law_thing"]
abbrev wR:List Str:=["_law_found"]
theorem oA:FnScope re wR (az oE):=cj
abbrev C2:FS:=
 (Mg (bS il (bg (aL (fC (ae (bU 1 [1] (aC bp (f2 (gv 0) (gv 3) am)) (av 0) (fun _=>Res.ok true) (f2 (gv 0) (gv 1) jL)) aa) anyD))) (Mg (cM "list" il 1 (ae (gv 3) aa) remD) ar) ar) ar)
abbrev C3:FS:=
 (Mg (cI il (aC bp (fC (ae (gv 1) aa) jx)) (av 3) C2) ar)
def wO:FS:=
 (Mg (ao jb 1 (fC (ae (fC (ae (gv 0) aa) lenD) aa) kz)) (Mg (cI il (cC cw (ae (fC (ae (gv 0) aa) lenD) aa)) (av 2) C3) (Mg (au il (f2 (fC (ae (gv 1) aa) lenD) (ci 0) iO)) ar)))
def oH:List D->Res D:=fun ds=>aH false (wO (bG re.length ds))
theorem Kf (T:Txt K mg) (A:DefAt K mg "_law_has_ring" oE):Callee P w K mg base "_law_has_ring" wR [] 1 false [Md.bw] oH:=
 cn (m':=il) A oA fun f cdv A outer s H g E hr hu1=>(aj (hU 1 oA.nd (by rfl) (fS rfl) (qt rfl (by rfl) T.b_list (by rfl) T.b_range (aV (bE (dJ (by rfl) T.b_len (aV (af 0) aW))) aW)))
   (aj (fI PassesOwn.never rfl (iY (by rfl) T.b_range (aV (bE (dJ (by rfl) T.b_len (aV (af 0) aW))) aW)) (aQ 2 oA.nd) (aj (fI PassesOwn.never rfl (mr (SO.toE (qd (by rfl) T.b_list (aV (af 1) aW)))) (aQ 3 oA.nd) (aj (a9 (d9 (cO (bE (yU rfl (by rfl) T.b_any (aV (SO.toB (fX (X:=(aU bP P w K mg base re "_law_has_ring" (az oE) f cdv A outer s H E).nox) (N':=["_law_better","_law_left"]) (nl:=1) (cap:=[1]) oA.nd rfl (c7 (osc:=(az oE)) (ON:=re) rfl rfl (by decide +kernel)) (dL (xB hu1 (af 0) (af 3))) (fun _ _ _ _ _ _=>(aQ 0 (show List.Nodup (["_law_better","_law_left"]:List Str) by decide +kernel))) (cF (by decide)) (fun _ _ _ _ _ _=>eS) (fun _ _ _ _ _ _=>(xS hu1 (af 0) (af 1))))) aW))))) (aj (jz 1 rfl PySem.F.plainAttrs_list PySem.F.slot_list_remove PySem.F.type_list_remove J5 GF (by rfl) (dh rfl) (aT (v_ 3) bI))
   ax)
   ax)
   ax))
   ax))
   (aj (bf (oV (bE (dJ (by rfl) T.b_len (aV (af 1) aW))) iB))
   ax)))
abbrev lN:Stmt:=top 40
abbrev m6:List Str:=["_law_wanted","_law_table","_law_found","_law_hand","_law_row_here","_law_at","_law_thing"]
abbrev xj:List Str:=["_law_wanted","_law_table"]
theorem kQ:FnScope m6 xj (az lN):=cj
abbrev Da:FS:=
 (Mg (bS fu (bq (f2 (f2 (f2 (f2 (gv 1) (gv 3) am) (gv 6) am) (ci 0) am) (ci 0) iO)) (Mg (eG fu 2 (gv 6) (f2 (f2 (gv 2) (gv 6) am) (bU 1 [2,6] (aC bp (gW (gv 4) (fun _=>Res.ok none) (g9 (gv 5)))) (av 0) (bq (f2 (gv 0) (f2 (gv 1) (gv 2) am) da)) (gv 0)) addA)) ar) ar) ar)
abbrev Db:FS:=
 (Mg (cI fu (dw (gv 4)) (bT (aK (av 5) (aK (av 6) bQ))) Da) ar)
def xh:FS:=
 (Mg (ao kl 2 (bU 1 [] (aC bp (gv 1)) (av 0) (fun _=>Res.ok true) (eJ aa))) (Mg (cI fu (dw (gv 0)) (bT (aK (av 3) (aK (av 4) bQ))) Db) (Mg (au kl (gv 2)) ar)))
def oD:List D->Res D:=fun ds=>aH false (xh (bG m6.length ds))
theorem K4 (T:Txt K mg) (A:DefAt K mg "_law_better_than" lN):Callee P w K mg base "_law_better_than" xj [] 1 false aG oD:=
 cn (m':=kl) A kQ fun f cdv A outer s H g E hr hu1=>(aj (hU 2 kQ.nd (by rfl) (fS rfl) (fX (X:=(aU bP P w K mg base m6 "_law_better_than" (az lN) f cdv A outer s H E).nox) (N':=["_law_row_here"]) (nl:=1) (cap:=[]) kQ.nd rfl (c7 (osc:=(az lN)) (ON:=m6) rfl rfl (by decide +kernel)) (dL (af 1)) (fun _ _ _ _ _ _=>(aQ 0 (show List.Nodup (["_law_row_here"]:List Str) by decide +kernel))) (cF (by decide)) (fun _ _ _ _ _ _=>eS) (fun _ _ _ _ _ _=>(SO.toE (fW bI)))))
   (aj (pW PassesOwn.never rfl (AG (by rfl) T.b_enumerate (rN 0)) (dZ rfl (bO (aQ 3 kQ.nd) (bO (aQ 4 kQ.nd) dY))) (aj (fI PassesOwn.never rfl (mD (by rfl) T.b_enumerate (v_ 4)) (dZ rfl (bO (aQ 5 kQ.nd) (bO (aQ 6 kQ.nd) dY))) (aj (a9 (j9 (xB hu1 (xB hu1 (xB hu1 (af 1) (af 3)) (af 6)) iB) iB) (aj (lc 2 hu1 rfl (by rfl) (dh rfl) (af 6) (cT (xB hu1 (af 2) (af 6)) (SO.toB (fX (X:=(aU bP P w K mg base m6 "_law_better_than" (az lN) f cdv A outer s H E).nox) (N':=["_law_better","_law_found","_law_thing"]) (nl:=1) (cap:=[2,6]) kQ.nd rfl (c7 (osc:=(az lN)) (ON:=m6) rfl rfl (by decide +kernel)) (dL (bE (kB (af 4) kJ (kK (af 5))))) (fun _ _ _ _ _ _=>(aQ 0 (show List.Nodup (["_law_better","_law_found","_law_thing"]:List Str) by decide +kernel))) (cF (by decide)) (fun _ _ _ _ _ _=>(ls (nj hu1 (af 0) (xB hu1 (af 1) (af 2))))) (fun _ _ _ _ _ _=>(v_ 0))))))
   ax)
   ax)
   ax))
   ax))
   (aj (nv 2 rfl (bf (v_ 2)))
   ax)))
abbrev vR:Stmt:=top 33
abbrev B7:List Str:=["_law_a","_law_b"]
abbrev qK:List Str:=["_law_a","_law_b"]
theorem Lp:FnScope B7 qK (az vR):=cj
def vE:FS:=
 (Mg (au aG (f2 (f2 (f2 (gv 0) (ci 0) am) (f2 (gv 1) (ci 1) am) cB) (f2 (f2 (gv 1) (ci 0) am) (f2 (gv 0) (ci 1) am) cB) iM)) ar)
def lL:List D->Res D:=fun ds=>aH false (vE (bG B7.length ds))
theorem HQ (T:Txt K mg) (A:DefAt K mg "_law_less" vR):Callee P w K mg base "_law_less" qK [] 1 false aG lL:=
 cn (m':=aG) A Lp fun f cdv A outer s H g E hr hu1=>(aj (bf (lR (bE (hJ (xB hu1 (af 0) iB) (xB hu1 (af 1) iB))) (bE (hJ (xB hu1 (af 1) iB) (xB hu1 (af 0) iB)))))
   ax)
abbrev tt:Stmt:=top 15
abbrev Ac:List Str:=["shares","told","share"]
abbrev t5:List Str:=["shares"]
theorem qA:FnScope Ac t5 (az tt):=cj
abbrev BC:FS:=
 (Mg (bS cL (aL (aA (ae (gv 2) (ae (gv 1) aa)) [] kF)) (Mg (ao cL 1 (gv 2)) ar) ar) ar)
def tZ:FS:=
 (Mg (ao cL 1 (f2 (gv 0) (ci 0) am)) (Mg (cI cL (aC bp (gv 0)) (av 2) BC) (Mg (au cL (gv 1)) ar)))
def qg:List D->Res D:=fun ds=>aH false (tZ (bG Ac.length ds))
theorem ED (T:Txt K mg) (A:DefAt K mg "least" tt) (c_less:Callee P w K mg base "less" pX [] 1 false aG kF):Callee P w K mg base "least" t5 [] 2 false [Md.bw] qg:=
 cn (m':=cL) A qA fun f cdv A outer s H g E hr hu1=>(aj (bF 1 qA.nd (cS hu1 (af 0) iB))
   (aj (tq PassesOwn.never rfl (dL (af 0)) (fun _=>(aQ 2 qA.nd)) (fun _=>(aj (a9 (cO (bE (aR c_less (ah (af 2) (ah (af 1) aS))))) (aj (bF 1 qA.nd (v_ 2))
   ax)
   ax)
   ax)))
   (aj (bf (v_ 1))
   ax)))
abbrev nV:Stmt:=top 24
abbrev qO:List Str:=["table","ring"]
abbrev vJ:List Str:=["table","ring"]
theorem Cu:FnScope qO vJ (az nV):=cj
def vW:FS:=
 (Mg (au aG (aA (ae (bU 2 [0] (aC bp (gv 1)) (bT (aK (av 0) (aK (av 1) bQ))) (fun _=>Res.ok true) (f2 (f2 (gv 2) (gv 0) am) (gv 1) am)) aa) [] qg)) ar)
def qM:List D->Res D:=fun ds=>aH false (vW (bG qO.length ds))
theorem Hq (T:Txt K mg) (A:DefAt K mg "can_hand" nV) (c_least:Callee P w K mg base "least" t5 [] 2 false [Md.bw] qg):Callee P w K mg base "can_hand" vJ [] 3 false aG qM:=
 cn (m':=aG) A Cu fun f cdv A outer s H g E hr hu1=>(aj (bf (aR c_least (ah (SO.toB (fX (X:=(aU bP P w K mg base qO "can_hand" (az nV) f cdv A outer s H E).nox) (N':=["hand","thing","table"]) (nl:=2) (cap:=[0]) Cu.nd rfl (c7 (osc:=(az nV)) (ON:=qO) rfl rfl (by decide +kernel)) (dL (af 1)) (fun _ _ _ _ _ _=>(dZ rfl (bO (aQ 0 (show List.Nodup (["hand","thing","table"]:List Str) by decide +kernel)) (bO (aQ 1 (show List.Nodup (["hand","thing","table"]:List Str) by decide +kernel)) dY)))) (nw (jI (cF (by decide)) (jI (cF (by decide)) nR))) (fun _ _ _ _ _ _=>eS) (fun _ _ _ _ _ _=>(cS hu1 (xB hu1 (af 2) (af 0)) (af 1))))) aS)))
   ax)
abbrev wW:Stmt:=top 10
abbrev C1:List Str:=["one","other","rest"]
abbrev xl:List Str:=["one","other"]
theorem rJ:FnScope C1 xl (az wW):=cj
abbrev LI:FQ:=
 (bq (f2 (gv 1) (ci 0) neD))
abbrev LH:FS:=
 (Mg (ao bC 2 (f2 (gv 0) (gv 1) ba)) (Mg (ao bC 0 (gv 1)) (Mg (ao bC 1 (gv 2)) ar)))
def LK:FS:=
 (Mg (dM bC LI LH 1000) (Mg (au bC (fC (ae (gv 0) aa) absD)) ar))
def rM:List D->Res D:=fun ds=>aH false (LK (bG C1.length ds))
theorem K6 (T:Txt K mg) (A:DefAt K mg "greatest_divisor" wW):Callee P w K mg base "greatest_divisor" xl [] 1 false c9 rM:=
 cn (m':=bC) A rJ fun f cdv A outer s H g E hr hu1=>have hu64:=hr.units; (aj (nN 1000 PassesOwn.never (eD hu64 (af 1) iB) (aj (bF 2 rJ.nd (eO (af 0) (af 1)))
   (aj (bF 0 rJ.nd (v_ 1))
   (aj (bF 1 rJ.nd (v_ 2))
   ax))))
   (aj (bf (yS (by rfl) T.b_abs (aV (af 0) aW)))
   ax))
abbrev vA:Stmt:=top 4
abbrev Cc:List Str:=["value"]
abbrev vK:List Str:=["value"]
theorem KP:FnScope Cc vK (az vA):=cj
def Ki:FS:=
 (Mg (au [Md.bw] (ig (f1 (gv 0) (db "int")) (gp (f1 (gv 0) (db "bool"))))) ar)
def n5:List D->Res D:=fun ds=>aH false (Ki (bG Cc.length ds))
theorem Hs (T:Txt K mg) (A:DefAt K mg "is_whole" vA):Callee P w K mg base "is_whole" vK [] 1 false [Md.bw] n5:=
 cn (m':=[Md.bw]) A KP fun f cdv A outer s H g E hr hu1=>(aj (bf (yT (iT "int" "int" rfl (tU _) (by rfl) T.b_isinstance (by rfl) T.b_int (af 0)) (yY (yX (iT "bool" "bool" rfl (uQ _) (by rfl) T.b_isinstance (by rfl) T.b_bool (af 0))))))
   ax)
abbrev uZ:Stmt:=top 11
abbrev Cb:List Str:=["top","bottom","divisor"]
abbrev qQ:List Str:=["top","bottom"]
theorem vG:FnScope Cb qQ (az uZ):=cj
def vX:FS:=
 (Mg (bS bC (eL (bg (aL (aA (ae (gv 0) aa) [] n5))) (eL (bg (aL (aA (ae (gv 1) aa) [] n5))) (bq (f2 (gv 1) (ci 0) eqD)))) (Mg (fun _=>Out.stuck) ar) ar) (Mg (ao bC 2 (aA (ae (gv 0) (ae (gv 1) aa)) [] rM)) (Mg (bS bC (bq (f2 (gv 1) (ci 0) iM)) (Mg (ao bC 2 (f1 (gv 2) jf)) ar) ar) (Mg (au bC (c0 (ae (f2 (gv 0) (gv 2) Mm) (ae (f2 (gv 1) (gv 2) Mm) aa)))) ar))))
def mP:List D->Res D:=fun ds=>aH false (vX (bG Cb.length ds))
theorem Hr (T:Txt K mg) (A:DefAt K mg "fraction" uZ) (c_is_whole:Callee P w K mg base "is_whole" vK [] 1 false [Md.bw] n5) (c_greatest_divisor:Callee P w K mg base "greatest_divisor" xl [] 1 false c9 rM):Callee P w K mg base "fraction" qQ [] 2 false c9 mP:=
 cn (m':=bC) A vG fun f cdv A outer s H g E hr hu1=>have hu64:=hr.units; (aj (a9 (SW.toQ (cK (d9 (cO (bE (aR c_is_whole (ah (af 0) aS))))) (cK (d9 (cO (bE (aR c_is_whole (ah (af 1) aS))))) (iF (o7 hu64 (af 1) iB))))) (aj G9
   ax)
   ax)
   (aj (bF 2 vG.nd (aR c_greatest_divisor (aI (v_ 0) (aI (v_ 1) aS))))
   (aj (a9 (lU (af 1) iB) (aj (bF 2 vG.nd (yW (af 2)))
   ax)
   ax)
   (aj (bf (eh (aT (qp (af 0) (af 2)) (aT (qp (af 1) (af 2)) bI))))
   ax))))
abbrev tv:Stmt:=top 13
abbrev Ae:List Str:=["a","b"]
abbrev t8:List Str:=["a","b"]
theorem ID:FnScope Ae t8 (az tv):=cj
def t3:FS:=
 (Mg (au aG (aA (ae (f2 (f2 (f2 (gv 0) (ci 0) am) (f2 (gv 1) (ci 1) am) cB) (f2 (f2 (gv 1) (ci 0) am) (f2 (gv 0) (ci 1) am) cB) oS) (ae (f2 (f2 (gv 0) (ci 1) am) (f2 (gv 1) (ci 1) am) cB) aa)) [] mP)) ar)
def lx:List D->Res D:=fun ds=>aH false (t3 (bG Ae.length ds))
theorem EF (T:Txt K mg) (A:DefAt K mg "minus" tv) (c_fraction:Callee P w K mg base "fraction" qQ [] 2 false c9 mP):Callee P w K mg base "minus" t8 [] 3 false aG lx:=
 cn (m':=aG) A ID fun f cdv A outer s H g E hr hu1=>(aj (bf (aR c_fraction (aI (Ek (bE (hJ (xB hu1 (af 0) iB) (xB hu1 (af 1) iB))) (bE (hJ (xB hu1 (af 1) iB) (xB hu1 (af 0) iB)))) (aI (hJ (xB hu1 (af 0) iB) (xB hu1 (af 1) iB)) aS))))
   ax)
abbrev sX:Stmt:=top 12
abbrev zA:List Str:=["a","b"]
abbrev sJ:List Str:=["a","b"]
theorem Hc:FnScope zA sJ (az sX):=cj
def sI:FS:=
 (Mg (au aG (aA (ae (f2 (f2 (f2 (gv 0) (ci 0) am) (f2 (gv 1) (ci 1) am) cB) (f2 (f2 (gv 1) (ci 0) am) (f2 (gv 0) (ci 1) am) cB) addA) (ae (f2 (f2 (gv 0) (ci 1) am) (f2 (gv 1) (ci 1) am) cB) aa)) [] mP)) ar)
def li:List D->Res D:=fun ds=>aH false (sI (bG zA.length ds))
theorem DN (T:Txt K mg) (A:DefAt K mg "plus" sX) (c_fraction:Callee P w K mg base "fraction" qQ [] 2 false c9 mP):Callee P w K mg base "plus" sJ [] 3 false aG li:=
 cn (m':=aG) A Hc fun f cdv A outer s H g E hr hu1=>(aj (bf (aR c_fraction (aI (cT (bE (hJ (xB hu1 (af 0) iB) (xB hu1 (af 1) iB))) (bE (hJ (xB hu1 (af 1) iB) (xB hu1 (af 0) iB)))) (aI (hJ (xB hu1 (af 0) iB) (xB hu1 (af 1) iB)) aS))))
   ax)
abbrev lD:Stmt:=top 25
abbrev mO:List Str:=["table","ring","part","told","pair","behind","row"]
abbrev uC:List Str:=["table","ring","part"]
theorem mR:FnScope mO uC (az lD):=cj
def uB:FS:=
 (mw (mz 3 (bU 1 [] (aC bp (gv 0)) (av 0) (fun _=>Res.ok true) (fC (ae (gv 0) aa) jx))) (mi (mH (dQ (gv 1) (aA (ae (gv 1) aa) [] j5)) (bT (aK (av 4) (aK (av 5) bQ))) (iu 6 (f2 (gv 4) (ci 0) am) (kC (du 3 6 (aA (ae (f2 (gv 6) (f2 (gv 4) (ci 1) am) am) (ae (gv 2) aa)) [] lx) (f2 (gv 4) (ci 1) am)) (kC (du 3 6 (aA (ae (f2 (gv 6) (f2 (gv 5) (ci 1) am) am) (ae (gv 2) aa)) [] li) (f2 (gv 5) (ci 1) am)) lW)))) (sw 3 (Mg (au bB (fC (ae (bU 1 [] (aC bp (gv 3)) (av 0) (fun _=>Res.ok true) (fC (ae (gv 0) aa) tupD)) aa) tupD)) ar))))
def qu:List D->Res D:=fun ds=>aH false (uB (bG mO.length ds))
theorem EU (T:Txt K mg) (A:DefAt K mg "handed" lD) (c_ones_behind:Callee P w K mg base "ones_behind" rF [] 1 false [Md.bw] j5) (c_minus:Callee P w K mg base "minus" t8 [] 3 false aG lx) (c_plus:Callee P w K mg base "plus" sJ [] 3 false aG li):Callee P w K mg base "handed" uC [] 4 false bC qu:=
 cn (m':=bB) A mR fun f cdv A outer s H g E hr hu1=>(zt (i:=3) (by rfl) (B3 3 (X:=(aU bP P w K mg base mO "handed" (az lD) f cdv A outer s H E).nox) (m:=bB) (N':=["row"]) (nl:=1) (cap:=[]) (by decide) mR.nd rfl (by rfl) (by rfl) (c7 (osc:=(az lD)) (ON:=mO) rfl rfl (by decide +kernel)) (dL (af 0)) (fun _ _ _ _ _ _=>(aQ 0 (show List.Nodup (["row"]:List Str) by decide +kernel))) (cF (by decide)) (fun _ _ _ _ _ _=>eS) (fun _ _ _ _ _ _=>(qd (by rfl) T.b_list (aV (af 0) aW))))
   (Ba (by rfl) (zm PassesOwn.never rfl (fun _=>(pP (by rfl) T.b_zip (v_ 1) (aR c_ones_behind (ah (af 1) aS)))) (fun _=>(dZ rfl (bO (aQ 4 mR.nd) (bO (aQ 5 mR.nd) dY)))) (HW (by rfl) (by rfl) mR.nd (by rfl) (dh rfl) (by rfl) (fS rfl) (fun _=>(cS hu1 (af 4) iB)) (AZ (zo (my (by decide)) (by rfl) (dh rfl) (fun _=>(aR c_minus (ah (xB hu1 (af 6) (xB hu1 (af 4) iB)) (ah (af 2) aS)))) (fun _=>(cS hu1 (af 4) iB))) (AZ (zo (my (by decide)) (by rfl) (dh rfl) (fun _=>(aR c_plus (ah (xB hu1 (af 6) (xB hu1 (af 5) iB)) (ah (af 2) aS)))) (fun _=>(cS hu1 (af 5) iB))) Gp))) (by rfl))
   (AN (aj (bf (gm (by rfl) T.b_tuple (aV (SO.toB (fX (X:=(aU bP P w K mg base mO "handed" (az lD) f cdv A outer s H E).nox) (N':=["row"]) (nl:=1) (cap:=[]) mR.nd rfl (c7 (osc:=(az lD)) (ON:=mO) rfl rfl (by decide +kernel)) (dL (af 3)) (fun _ _ _ _ _ _=>(aQ 0 (show List.Nodup (["row"]:List Str) by decide +kernel))) (cF (by decide)) (fun _ _ _ _ _ _=>eS) (fun _ _ _ _ _ _=>(gm (by rfl) T.b_tuple (aV (af 0) aW))))) aW)))
   ax) (my (by decide)))))
abbrev vC:Stmt:=top 36
abbrev Cp:List Str:=["_law_row_here","_law_shares","_law_found","_law_total","_law_thing"]
abbrev wK:List Str:=["_law_row_here","_law_shares"]
theorem oa:FnScope Cp wK (az vC):=cj
abbrev Cy:FS:=
 (Mg (ao kb 3 (aA (ae (gv 3) (ae (f2 (gv 1) (gv 4) am) aa)) [] ib)) (Mg (cM "list" kb 2 (ae (gv 3) aa) appD) ar))
def wG:FS:=
 (Mg (ao gy 2 (eJ aa)) (Mg (ao kb 3 (c0 (ae (ci 0) (ae (ci 1) aa)))) (Mg (cI kb (aC bp (gv 0)) (av 4) Cy) (Mg (au gy (gv 2)) ar))))
def oq:List D->Res D:=fun ds=>aH false (wG (bG Cp.length ds))
theorem IY (T:Txt K mg) (A:DefAt K mg "_law_along" vC) (c__law_plus:Callee P w K mg base "_law_plus" nZ [] 3 false aG ib):Callee P w K mg base "_law_along" wK [] 4 false aG oq:=
 cn (m':=gy) A oa fun f cdv A outer s H g E hr hu1=>(aj (hU 2 oa.nd (by rfl) (fS rfl) (fW bI))
   (aj (bF 3 oa.nd (eh (aT dC (aT dC bI))))
   (aj (pW PassesOwn.never rfl (zL (rN 0)) (aQ 4 oa.nd) (aj (bF 3 oa.nd (aR c__law_plus (ah (af 3) (ah (xB hu1 (af 1) (af 4)) aS))))
   (aj (jz 2 rfl PySem.F.plainAttrs_list PySem.F.slot_list_append PySem.F.type_list_append jY kH (by rfl) (dh rfl) (aT (v_ 3) bI))
   ax)))
   (aj (nv 2 rfl (bf (v_ 2)))
   ax))))
abbrev om:Stmt:=top 37
abbrev rA:List Str:=["_law_row_here","_law_shares","_law_others","_law_ones","_law_twos"]
abbrev xg:List Str:=["_law_row_here","_law_shares","_law_others"]
theorem rh:FnScope rA xg (az om):=cj
def wZ:FS:=
 (Mg (ao ka 3 (aA (ae (gv 0) (ae (gv 1) aa)) [] oq)) (Mg (ao ka 4 (aA (ae (gv 0) (ae (gv 2) aa)) [] oq)) (Mg (au ka (gp (fC (ae (bU 2 [] (dQ (gv 3) (gv 4)) (bT (aK (av 0) (aK (av 1) bQ))) (fun _=>Res.ok true) (aA (ae (gv 0) (ae (gv 1) aa)) [] lL)) aa) anyD))) ar)))
def mT:List D->Res D:=fun ds=>aH false (wZ (bG rA.length ds))
theorem J9 (T:Txt K mg) (A:DefAt K mg "_law_no_less" om) (c__law_along:Callee P w K mg base "_law_along" wK [] 4 false aG oq) (c__law_less:Callee P w K mg base "_law_less" qK [] 1 false aG lL):Callee P w K mg base "_law_no_less" xg [] 5 false fq mT:=
 cn (m':=ka) A rh fun f cdv A outer s H g E hr hu1=>(aj (bF 3 rh.nd (aR c__law_along (ah (af 0) (ah (af 1) aS))))
   (aj (bF 4 rh.nd (aR c__law_along (ah (af 0) (ah (af 2) aS))))
   (aj (bf (yX (yU rfl (by rfl) T.b_any (aV (SO.toB (fX (X:=(aU bP P w K mg base rA "_law_no_less" (az om) f cdv A outer s H E).nox) (N':=["_law_one","_law_two"]) (nl:=2) (cap:=[]) rh.nd rfl (c7 (osc:=(az om)) (ON:=rA) rfl rfl (by decide +kernel)) (gC.toC (pP (by rfl) T.b_zip (v_ 3) (v_ 4))) (fun _ _ _ _ _ _=>(dZ rfl (bO (aQ 0 (show List.Nodup (["_law_one","_law_two"]:List Str) by decide +kernel)) (bO (aQ 1 (show List.Nodup (["_law_one","_law_two"]:List Str) by decide +kernel)) dY)))) (nw (jI (cF (by decide)) (jI (cF (by decide)) nR))) (fun _ _ _ _ _ _=>eS) (fun _ _ _ _ _ _=>(aR c__law_less (ah (af 0) (ah (af 1) aS)))))) aW))))
   ax)))
abbrev oi:Stmt:=top 44
abbrev rn:List Str:=["_law_wanted","_law_table","_law_ring","_law_found","_law_hands","_law_hand","_law_row_here"]
abbrev xc:List Str:=["_law_wanted","_law_table","_law_ring","_law_found"]
theorem rg:FnScope rn xc (az oi):=cj
abbrev CU:FS:=
 (Mg (bS gw (bg (aL (aA (ae (gv 6) (ae (f2 (gv 3) (gv 5) am) (ae (f2 (gv 1) (gv 5) am) aa))) [] mT))) (Mg (au gw (fun _=>Res.ok (D.bl false))) ar) ar) (Mg (bS gw (dy (bq (f2 (gv 5) (gv 4) jL)) (aL (aA (ae (gv 6) (ae (f2 (gv 1) (gv 5) am) (ae (f2 (gv 3) (gv 5) am) aa))) [] mT))) (Mg (au gw (fun _=>Res.ok (D.bl false))) ar) ar) ar))
def wX:FS:=
 (Mg (ao [.sh,.bw,.bw,.bw,.sh,.sh,.sh] 4 (bU 2 [] (aC bp (gv 2)) (bT (aK (av 0) (aK (av 1) bQ))) (fun _=>Res.ok true) (gv 0))) (Mg (cI gw (dw (gv 0)) (bT (aK (av 5) (aK (av 6) bQ))) CU) (Mg (au gw (fun _=>Res.ok (D.bl true))) ar)))
def rj:List D->Res D:=fun ds=>aH false (wX (bG rn.length ds))
theorem J7 (T:Txt K mg) (A:DefAt K mg "_law_betters" oi) (c__law_no_less:Callee P w K mg base "_law_no_less" xg [] 5 false fq mT):Callee P w K mg base "_law_betters" xc [] 6 false [.sh,.bw,.bw,.bw] rj:=
 cn (m':=gw) A rg fun f cdv A outer s H g E hr hu1=>(aj (jZ 4 (X:=(aU bP P w K mg base rn "_law_betters" (az oi) f cdv A outer s H E).nox) (m:=[.sh,.bw,.bw,.bw,.sh,.sh,.sh]) (N':=["_law_hand","_law_thing"]) (nl:=2) (cap:=[]) rg.nd rfl (by rfl) (by rfl) (c7 (osc:=(az oi)) (ON:=rn) rfl rfl (by decide +kernel)) (dL (af 2)) (fun _ _ _ _ _ _=>(dZ rfl (bO (aQ 0 (show List.Nodup (["_law_hand","_law_thing"]:List Str) by decide +kernel)) (bO (aQ 1 (show List.Nodup (["_law_hand","_law_thing"]:List Str) by decide +kernel)) dY)))) (nw (jI (cF (by decide)) (jI (cF (by decide)) nR))) (fun _ _ _ _ _ _=>eS) (fun _ _ _ _ _ _=>(v_ 0)))
   (aj (fI PassesOwn.never rfl (mD (by rfl) T.b_enumerate (v_ 0)) (dZ rfl (bO (aQ 5 rg.nd) (bO (aQ 6 rg.nd) dY))) (aj (a9 (d9 (cO (bE (aR c__law_no_less (ah (af 6) (ah (xB hu1 (af 3) (af 5)) (ah (xB hu1 (af 1) (af 5)) aS))))))) (aj (bf bM)
   ax)
   ax)
   (aj (a9 (SW.toQ (pK (o6 hu1 (af 5) (af 4)) (pU (cO (bE (aR c__law_no_less (ah (af 6) (ah (xB hu1 (af 1) (af 5)) (ah (xB hu1 (af 3) (af 5)) aS))))))))) (aj (bf bM)
   ax)
   ax)
   ax)))
   (aj (bf bM)
   ax)))
abbrev wV:Stmt:=top 34
abbrev C0:List Str:=["_law_found","_law_one"]
abbrev xk:List Str:=["_law_found"]
theorem CZ:FnScope C0 xk (az wV):=cj
abbrev Dc:FS:=
 (Mg (bS gu (eL (bg (aL (f1 (gv 1) (db "int")))) (aL (f1 (gv 1) (db "bool")))) (Mg (au gu (fun _=>Res.ok (D.bl false))) ar) ar) ar)
def xi:FS:=
 (Mg (bS gu (eL (bg (aL (f1 (gv 0) (db "tuple")))) (bq (f2 (fC (ae (gv 0) aa) lenD) (ci 2) neD))) (Mg (au gu (fun _=>Res.ok (D.bl false))) ar) ar) (Mg (cI gu (aC bp (gv 0)) (av 1) Dc) (Mg (au gu (ig (f2 (f2 (gv 0) (ci 1) am) (ci 0) iO) (f2 (aA (ae (f2 (gv 0) (ci 0) am) (ae (f2 (gv 0) (ci 1) am) aa)) [] mV) (ci 1) eqD))) ar)))
def rL:List D->Res D:=fun ds=>aH false (xi (bG C0.length ds))
theorem K5 (T:Txt K mg) (A:DefAt K mg "_law_is_fraction" wV) (c__law_common:Callee P w K mg base "_law_common" qW [] 1 false c9 mV):Callee P w K mg base "_law_is_fraction" xk [] 2 false [Md.bw] rL:=
 cn (m':=gu) A CZ fun f cdv A outer s H g E hr hu1=>have hu64:=hr.units; (aj (a9 (SW.toQ (cK (d9 (cO (bE (iT "tuple" "tuple" rfl (nX _) (by rfl) T.b_isinstance (by rfl) T.b_tuple (af 0))))) (iF (eD hu64 (bE (dJ (by rfl) T.b_len (aV (af 0) aW))) iB)))) (aj (bf bM)
   ax)
   ax)
   (aj (tq PassesOwn.never rfl (dL (af 0)) (fun _=>(aQ 1 CZ.nd)) (fun _=>(aj (a9 (SW.toQ (cK (d9 (cO (bE (iT "int" "int" rfl (tU _) (by rfl) T.b_isinstance (by rfl) T.b_int (af 1))))) (iF (cO (bE (iT "bool" "bool" rfl (uQ _) (by rfl) T.b_isinstance (by rfl) T.b_bool (af 1))))))) (aj (bf bM)
   ax)
   ax)
   ax)))
   (aj (bf (yT (oV (xB hu1 (af 0) iB) iB) (yY (xT hu64 (bE (aR c__law_common (aI (cS hu1 (af 0) iB) (aI (cS hu1 (af 0) iB) aS)))) iB))))
   ax)))
abbrev oF:Stmt:=top 35
abbrev rf:List Str:=["_law_found","_law_n","_law_m","_law_row_here"]
abbrev wT:List Str:=["_law_found","_law_n","_law_m"]
theorem xp:FnScope rf wT (az oF):=cj
abbrev C4:FS:=
 (Mg (bS gs (eL (bg (aL (f1 (gv 3) (db "tuple")))) (eL (bq (f2 (fC (ae (gv 3) aa) lenD) (gv 2) neD)) (bg (aL (fC (ae (bU 1 [] (aC bp (gv 3)) (av 0) (fun _=>Res.ok true) (aA (ae (gv 0) aa) [] rL)) aa) allD))))) (Mg (au gs (fun _=>Res.ok (D.bl false))) ar) ar) ar)
def wP:FS:=
 (Mg (bS gs (eL (bg (aL (f1 (gv 0) (db "tuple")))) (bq (f2 (fC (ae (gv 0) aa) lenD) (gv 1) neD))) (Mg (au gs (fun _=>Res.ok (D.bl false))) ar) ar) (Mg (cI gs (aC bp (gv 0)) (av 3) C4) (Mg (au gs (fun _=>Res.ok (D.bl true))) ar)))
def rc:List D->Res D:=fun ds=>aH false (wP (bG rf.length ds))
theorem Kg (T:Txt K mg) (A:DefAt K mg "_law_is_table" oF) (c__law_is_fraction:Callee P w K mg base "_law_is_fraction" xk [] 2 false [Md.bw] rL):Callee P w K mg base "_law_is_table" wT [] 3 false fq rc:=
 cn (m':=gs) A xp fun f cdv A outer s H g E hr hu1=>have hu64:=hr.units; (aj (a9 (SW.toQ (cK (d9 (cO (bE (iT "tuple" "tuple" rfl (nX _) (by rfl) T.b_isinstance (by rfl) T.b_tuple (af 0))))) (iF (eD hu64 (bE (dJ (by rfl) T.b_len (aV (af 0) aW))) (af 1))))) (aj (bf bM)
   ax)
   ax)
   (aj (tq PassesOwn.never rfl (dL (af 0)) (fun _=>(aQ 3 xp.nd)) (fun _=>(aj (a9 (SW.toQ (cK (d9 (cO (bE (iT "tuple" "tuple" rfl (nX _) (by rfl) T.b_isinstance (by rfl) T.b_tuple (af 3))))) (cK (eD hu64 (bE (dJ (by rfl) T.b_len (aV (af 3) aW))) (af 2)) (iF (d9 (cO (bE (ER rfl (by rfl) T.b_all (aV (SO.toB (fX (X:=(aU bP P w K mg base rf "_law_is_table" (az oF) f cdv A outer s H E).nox) (N':=["_law_one"]) (nl:=1) (cap:=[]) xp.nd rfl (c7 (osc:=(az oF)) (ON:=rf) rfl rfl (by decide +kernel)) (dL (af 3)) (fun _ _ _ _ _ _=>(aQ 0 (show List.Nodup (["_law_one"]:List Str) by decide +kernel))) (cF (by decide)) (fun _ _ _ _ _ _=>eS) (fun _ _ _ _ _ _=>(aR c__law_is_fraction (ah (af 0) aS))))) aW))))))))) (aj (bf bM)
   ax)
   ax)
   ax)))
   (aj (bf bM)
   ax)))
abbrev lG:Stmt:=top 43
abbrev mX:List Str:=["_law_table","_law_ring","_law_part","_law_rows","_law_k","_law_hand","_law_thing","_law_better"]
abbrev wD:List Str:=["_law_table","_law_ring","_law_part"]
theorem lK:FnScope mX wD (az lG):=cj
def wA:FS:=
 (mw (mz 3 (bU 1 [] (aC bp (gv 0)) (av 0) (fun _=>Res.ok true) (fC (ae (gv 0) aa) jx))) (mi (mH (dw (gv 1)) (bT (aK (av 4) (aK (bT (aK (av 5) (aK (av 6) bQ))) bQ))) (jA (iq (ao i8 7 (f2 (f2 (gv 1) (f2 (f2 (gv 4) (ci 1) addA) (fC (ae (gv 1) aa) lenD) ba) am) (ci 1) am))) (jA (jR 3 5 6 (aA (ae (f2 (f2 (gv 3) (gv 5) am) (gv 6) am) (ae (c0 (ae (f1 (f2 (gv 2) (ci 0) am) jf) (ae (f2 (gv 2) (ci 1) am) aa))) aa)) [] ib)) (jA (jR 3 5 7 (aA (ae (f2 (f2 (gv 3) (gv 5) am) (gv 7) am) (ae (gv 2) aa)) [] ib)) (fun r w=>some (r,w)))))) (sw 3 (Mg (au lV (fC (ae (bU 1 [] (aC bp (gv 3)) (av 0) (fun _=>Res.ok true) (fC (ae (gv 0) aa) tupD)) aa) tupD)) ar))))
def qU:List D->Res D:=fun ds=>aH false (wA (bG mX.length ds))
theorem JL (T:Txt K mg) (A:DefAt K mg "_law_handed" lG) (c__law_plus:Callee P w K mg base "_law_plus" nZ [] 3 false aG ib):Callee P w K mg base "_law_handed" wD [] 4 false bC qU:=
 cn (m':=lV) A lK fun f cdv A outer s H g E hr hu1=>(zt (i:=3) (by rfl) (B3 3 (X:=(aU bP P w K mg base mX "_law_handed" (az lG) f cdv A outer s H E).nox) (m:=lV) (N':=["_law_shares"]) (nl:=1) (cap:=[]) (by decide) lK.nd rfl (by rfl) (by rfl) (c7 (osc:=(az lG)) (ON:=mX) rfl rfl (by decide +kernel)) (dL (af 0)) (fun _ _ _ _ _ _=>(aQ 0 (show List.Nodup (["_law_shares"]:List Str) by decide +kernel))) (cF (by decide)) (fun _ _ _ _ _ _=>eS) (fun _ _ _ _ _ _=>(qd (by rfl) T.b_list (aV (af 0) aW))))
   (Ba (by rfl) (zm PassesOwn.never rfl (fun _=>(mD (by rfl) T.b_enumerate (v_ 1))) (fun _=>(dZ rfl (bO (aQ 4 lK.nd) (bO (dZ rfl (bO (aQ 5 lK.nd) (bO (aQ 6 lK.nd) dY))) dY)))) (uP (Gk (ro:=false) (mb:=i8) (m:=i8) (m':=i8) (fun _=>(bF 7 lK.nd (cS hu1 (xB hu1 (af 1) (bE (eO (bE (cT (af 4) iB)) (bE (dJ (by rfl) T.b_len (aV (af 1) aW)))))) iB))) (by rfl)) (uP (AY 5 6 (by rfl) (my (by decide)) (by rfl) (by rfl) (by rfl) (dh rfl) (by rfl) (dh rfl) (by rfl) (dh rfl) (fun _=>(aR c__law_plus (ah (xB hu1 (xB hu1 (af 3) (af 5)) (af 6)) (ah (bE (eh (aT (yW (xB hu1 (af 2) iB)) (aT (cS hu1 (af 2) iB) bI)))) aS))))) (uP (AY 5 7 (by rfl) (my (by decide)) (by rfl) (by rfl) (by rfl) (dh rfl) (by rfl) (dh rfl) (by rfl) (dh rfl) (fun _=>(aR c__law_plus (ah (xB hu1 (xB hu1 (af 3) (af 5)) (af 7)) (ah (af 2) aS))))) HX))) (by rfl))
   (AN (aj (bf (gm (by rfl) T.b_tuple (aV (SO.toB (fX (X:=(aU bP P w K mg base mX "_law_handed" (az lG) f cdv A outer s H E).nox) (N':=["_law_shares"]) (nl:=1) (cap:=[]) lK.nd rfl (c7 (osc:=(az lG)) (ON:=mX) rfl rfl (by decide +kernel)) (dL (af 3)) (fun _ _ _ _ _ _=>(aQ 0 (show List.Nodup (["_law_shares"]:List Str) by decide +kernel))) (cF (by decide)) (fun _ _ _ _ _ _=>eS) (fun _ _ _ _ _ _=>(gm (by rfl) T.b_tuple (aV (af 0) aW))))) aW)))
   ax) (my (by decide)))))
abbrev xo:Stmt:=top 45
abbrev CY:List Str:=["_law_wanted","_law_table","_law_ring","_law_by","_law_least","_law_hand","_law_thing","_law_part","_law_found"]
abbrev xv:List Str:=["_law_wanted","_law_table","_law_ring","_law_by"]
theorem lO:FnScope CY xv (az xo):=cj
abbrev C7:FS:=
 (Mg (bS cW (aL (aA (ae (f2 (f2 (gv 1) (gv 5) am) (gv 6) am) (ae (gv 4) aa)) [] lL)) (Mg (ao cW 4 (f2 (f2 (gv 1) (gv 5) am) (gv 6) am)) ar) ar) ar)
abbrev C8:FS:=
 (Mg (ao cW 8 (aA (ae (gv 1) (ae (gv 2) (ae (gv 7) aa))) [] qu)) (Mg (bS cW (eL (bg (aL (aA (ae (gv 8) (ae (fC (ae (gv 1) aa) lenD) (ae (fC (ae (gv 1) aa) lenD) aa))) [] rc))) (bq (f2 (gv 8) (aA (ae (gv 1) (ae (gv 2) (ae (gv 7) aa))) [] qU) neD))) (Mg (au cW (fun _=>Res.ok (D.bl false))) ar) ar) (Mg (bS cW (bg (aL (aA (ae (gv 0) (ae (gv 1) (ae (gv 2) (ae (gv 8) aa)))) [] rj))) (Mg (au cW (fun _=>Res.ok (D.bl false))) ar) ar) ar)))
def xt:FS:=
 (Mg (ao cW 4 (c0 (ae (ci 1) (ae (ci 1) aa)))) (Mg (cI cW (aC bp (gv 2)) (bT (aK (av 5) (aK (av 6) bQ))) C7) (Mg (bS cW (bq (f2 (aA (ae (gv 1) (ae (gv 2) aa)) [] qM) (gv 4) neD)) (Mg (au cW (fun _=>Res.ok (D.bl false))) ar) ar) (Mg (cI cW (aC bp (eJ (ae (gv 4) (ae (aA (ae (f2 (gv 4) (ci 0) am) (ae (f2 (f2 (gv 4) (ci 1) am) (gv 3) bx) aa)) [] gO) (ae (aA (ae (f2 (f2 (gv 4) (ci 0) am) (gv 3) bx) (ae (f2 (f2 (gv 4) (ci 1) am) (f2 (gv 3) (ci 1) addA) bx) aa)) [] gO) aa))))) (av 7) C8) (Mg (au cW (fun _=>Res.ok (D.bl true))) ar)))))
def j4:List D->Res D:=fun ds=>aH false (xt (bG CY.length ds))
theorem KR (T:Txt K mg) (A:DefAt K mg "_law_handing_well" xo) (c__law_less:Callee P w K mg base "_law_less" qK [] 1 false aG lL) (c_can_hand:Callee P w K mg base "can_hand" vJ [] 3 false aG qM) (c__law_low:Callee P w K mg base "_law_low" mQ [] 2 false c9 gO) (c_handed:Callee P w K mg base "handed" uC [] 4 false bC qu) (c__law_handed:Callee P w K mg base "_law_handed" wD [] 4 false bC qU) (c__law_is_table:Callee P w K mg base "_law_is_table" wT [] 3 false fq rc) (c__law_betters:Callee P w K mg base "_law_betters" xc [] 6 false [.sh,.bw,.bw,.bw] rj):Callee P w K mg base "_law_handing_well" xv [] 7 false [.sh,.sh,.sh,.bw] j4:=
 cn (m':=cW) A lO fun f cdv A outer s H g E hr hu1=>have hu64:=hr.units; (aj (bF 4 lO.nd (eh (aT dC (aT dC bI))))
   (aj (fI PassesOwn.never rfl (mr (v_ 2)) (dZ rfl (bO (aQ 5 lO.nd) (bO (aQ 6 lO.nd) dY))) (aj (a9 (cO (bE (aR c__law_less (ah (xB hu1 (xB hu1 (af 1) (af 5)) (af 6)) (ah (af 4) aS))))) (aj (bF 4 lO.nd (cS hu1 (xB hu1 (af 1) (af 5)) (af 6)))
   ax)
   ax)
   ax))
   (aj (a9 (eD hu64 (bE (aR c_can_hand (ah (af 1) (ah (af 2) aS)))) (af 4)) (aj (bf bM)
   ax)
   ax)
   (aj (fI PassesOwn.never rfl (mr (SO.toE (fW (aT (v_ 4) (aT (aR c__law_low (aI (cS hu1 (af 4) iB) (aI (iG (xB hu1 (af 4) iB) (af 3)) aS))) (aT (aR c__law_low (aI (iG (xB hu1 (af 4) iB) (af 3)) (aI (iG (xB hu1 (af 4) iB) (bE (cT (af 3) iB))) aS))) bI)))))) (aQ 7 lO.nd) (aj (bF 8 lO.nd (aR c_handed (aI (v_ 1) (aI (v_ 2) (aI (v_ 7) aS)))))
   (aj (a9 (SW.toQ (cK (d9 (cO (bE (aR c__law_is_table (ah (af 8) (ah (bE (dJ (by rfl) T.b_len (aV (af 1) aW))) (ah (bE (dJ (by rfl) T.b_len (aV (af 1) aW))) aS))))))) (iF (eD hu64 (af 8) (bE (aR c__law_handed (aI (v_ 1) (aI (v_ 2) (aI (v_ 7) aS))))))))) (aj (bf bM)
   ax)
   ax)
   (aj (a9 (d9 (cO (bE (aR c__law_betters (aI (v_ 0) (ah (af 1) (ah (af 2) (ah (af 8) aS)))))))) (aj (bf bM)
   ax)
   ax)
   ax))))
   (aj (bf bM)
   ax)))))
abbrev oj:Stmt:=top 42
abbrev rq:List Str:=["_law_ring","_law_wanted","_law_table","_law_one","_law_number","_law_things","_law_k","_law_hand","_law_thing","_law_better"]
abbrev xf:List Str:=["_law_ring","_law_wanted","_law_table"]
theorem kP:FnScope rq xf (az oj):=cj
abbrev CV:FS:=
 (Mg (bS eF (eL (bg (aL (f1 (gv 4) (db "int")))) (eL (aL (f1 (gv 4) (db "bool"))) (bg (bq (nB (ci 0) (gv 4) (fC (ae (gv 2) aa) lenD) nb iM))))) (Mg (au eF (fun _=>Res.ok (D.bl false))) ar) ar) ar)
abbrev CW:FS:=
 (Mg (bS eF (eL (bg (aL (f1 (gv 3) (db "tuple")))) (bq (f2 (fC (ae (gv 3) aa) lenD) (ci 2) neD))) (Mg (au eF (fun _=>Res.ok (D.bl false))) ar) ar) (Mg (cI eF (aC bp (gv 3)) (av 4) CV) ar))
abbrev CM:FS:=
 (Mg (ao fR 9 (f2 (gv 5) (f2 (f2 (gv 6) (ci 1) addA) (fC (ae (gv 5) aa) lenD) ba) am)) (Mg (bS fR (eL (bq (f2 (f2 (f2 (f2 (gv 2) (gv 7) am) (gv 8) am) (ci 0) am) (ci 0) nb)) (bq (f2 (fM "tuple" (f2 (gv 1) (gv 7) am) (ae (gv 9) aa) mI) (fM "tuple" (f2 (gv 1) (gv 7) am) (ae (gv 8) aa) mI) yg))) (Mg (au fR (fun _=>Res.ok (D.bl false))) ar) ar) ar))
def wY:FS:=
 (Mg (bS eF (eL (bg (aL (f1 (gv 0) (db "tuple")))) (bq (f2 (fC (ae (gv 0) aa) lenD) (ci 2) iM))) (Mg (au eF (fun _=>Res.ok (D.bl false))) ar) ar) (Mg (cI eF (aC bp (gv 0)) (av 3) CW) (Mg (ao eF 5 (bU 2 [] (aC bp (gv 0)) (bT (aK (av 0) (aK (av 1) bQ))) (fun _=>Res.ok true) (gv 1))) (Mg (bS fR (bq (f2 (f1 (gv 5) sA) (fC (ae (gv 5) aa) lenD) neD)) (Mg (au fR (fun _=>Res.ok (D.bl false))) ar) ar) (Mg (cI fR (dw (gv 0)) (bT (aK (av 6) (aK (bT (aK (av 7) (aK (av 8) bQ))) bQ))) CM) (Mg (au fR (fun _=>Res.ok (D.bl true))) ar))))))
def lJ:List D->Res D:=fun ds=>aH false (wY (bG rq.length ds))
theorem J8 (T:Txt K mg) (A:DefAt K mg "_law_is_ring" oj):Callee P w K mg base "_law_is_ring" xf [] 1 false [.sh,.bw,.bw] lJ:=
 cn (m':=fR) A kP fun f cdv A outer s H g E hr hu1=>have hu64:=hr.units; (aj (a9 (SW.toQ (cK (d9 (cO (bE (iT "tuple" "tuple" rfl (nX _) (by rfl) T.b_isinstance (by rfl) T.b_tuple (af 0))))) (iF (lU (bE (dJ (by rfl) T.b_len (aV (af 0) aW))) iB)))) (aj (bf bM)
   ax)
   ax)
   (aj (fI PassesOwn.never rfl (mr (v_ 0)) (aQ 3 kP.nd) (aj (a9 (SW.toQ (cK (d9 (cO (bE (iT "tuple" "tuple" rfl (nX _) (by rfl) T.b_isinstance (by rfl) T.b_tuple (af 3))))) (iF (eD hu64 (bE (dJ (by rfl) T.b_len (aV (af 3) aW))) iB)))) (aj (bf bM)
   ax)
   ax)
   (aj (fI PassesOwn.never rfl (mr (v_ 3)) (aQ 4 kP.nd) (aj (a9 (SW.toQ (cK (d9 (cO (bE (iT "int" "int" rfl (tU _) (by rfl) T.b_isinstance (by rfl) T.b_int (af 4))))) (cK (cO (bE (iT "bool" "bool" rfl (uQ _) (by rfl) T.b_isinstance (by rfl) T.b_bool (af 4)))) (iF (d9 (Iv yH sv DJ DK iB (af 4) (bE (dJ (by rfl) T.b_len (aV (af 2) aW))))))))) (aj (bf bM)
   ax)
   ax)
   ax))
   ax)))
   (aj (jZ 5 (X:=(aU bP P w K mg base rq "_law_is_ring" (az oj) f cdv A outer s H E).nox) (m:=eF) (N':=["_law_hand","_law_thing"]) (nl:=2) (cap:=[]) kP.nd rfl (by rfl) (by rfl) (c7 (osc:=(az oj)) (ON:=rq) rfl rfl (by decide +kernel)) (dL (af 0)) (fun _ _ _ _ _ _=>(dZ rfl (bO (aQ 0 (show List.Nodup (["_law_hand","_law_thing"]:List Str) by decide +kernel)) (bO (aQ 1 (show List.Nodup (["_law_hand","_law_thing"]:List Str) by decide +kernel)) dY)))) (nw (jI (cF (by decide)) (jI (cF (by decide)) nR))) (fun _ _ _ _ _ _=>eS) (fun _ _ _ _ _ _=>(v_ 1)))
   (aj (a9 (eD hu64 (bE (IB rfl (by rfl) T.b_len (by rfl) T.b_set (af 5))) (bE (dJ (by rfl) T.b_len (aV (af 5) aW)))) (aj (bf bM)
   ax)
   ax)
   (aj (fI PassesOwn.never rfl (mD (by rfl) T.b_enumerate (v_ 0)) (dZ rfl (bO (aQ 6 kP.nd) (bO (dZ rfl (bO (aQ 7 kP.nd) (bO (aQ 8 kP.nd) dY))) dY))) (aj (bF 9 kP.nd (cS hu1 (af 5) (bE (eO (bE (cT (af 6) iB)) (bE (dJ (by rfl) T.b_len (aV (af 5) aW)))))))
   (aj (a9 (SW.toQ (cK (yb (xB hu1 (xB hu1 (xB hu1 (af 2) (af 7)) (af 8)) iB) iB) (iF (yc (bE (ij PySem.F.plainAttrs_tuple PySem.F.slot_tuple_index PySem.F.type_tuple_index qH qG (xB hu1 (af 1) (af 7)) (aV (af 9) aW))) (bE (ij PySem.F.plainAttrs_tuple PySem.F.slot_tuple_index PySem.F.type_tuple_index qH qG (xB hu1 (af 1) (af 7)) (aV (af 8) aW))))))) (aj (bf bM)
   ax)
   ax)
   ax)))
   (aj (bf bM)
   ax))))))
abbrev sy:Stmt:=top 48
abbrev yv:List Str:=["_law_script","_law_n","_law_wanted","_law_table","_law_by","_law_ring","_law_walked_here"]
abbrev yw:List Str:=["_law_script"]
theorem jF:FnScope yv yw (az sy):=cj
def pF:FS:=
 (Mg (ao bB 1 (f2 (ci 2) (f2 (aA (ae (gv 0) (ae (ci 1) aa)) [] dD) (ci 6) ba) addA)) (Mg (ao bB 2 (aA (ae (gv 0) (ae (ci 2) (ae (gv 1) (ae (gv 1) aa)))) [] mW)) (Mg (ao bB 3 (aA (ae (aA (ae (gv 0) (ae (f2 (ci 3) (gv 1) addA) (ae (gv 1) (ae (f2 (ci 2) (f2 (f2 (aA (ae (gv 0) (ae (ci 1) aa)) [] dD) (ci 6) kE) (ci 5) ba) addA) aa)))) [] qX) (ae (gv 1) aa)) [] m5)) (Mg (ao bB 4 (f2 (ci 1) (f2 (aA (ae (gv 0) (ae (f2 (ci 2) (gv 1) addA) aa)) [] dD) (ci 60) ba) addA)) (Mg (ao bB 5 (aA (ae (gv 2) (ae (gv 3) aa)) [] kO)) (Mg (bS bB (bq (f2 (gv 5) (fun _=>Res.ok D.non) lX)) (Mg (bS bB (aL (aA (ae (aA (ae (gv 2) (ae (gv 3) aa)) [] oD) aa) [] oH)) (Mg (au bB (fun _=>Res.ok (D.bl false))) ar) ar) ar) (Mg (bS bB (eL (bg (aL (aA (ae (gv 5) (ae (gv 2) (ae (gv 3) aa))) [] lJ))) (bg (aL (aA (ae (gv 2) (ae (gv 3) (ae (gv 5) (ae (gv 4) aa)))) [] j4)))) (Mg (au bB (fun _=>Res.ok (D.bl false))) ar) ar) ar)) (Mg (ao bB 6 (aA (ae (gv 2) (ae (gv 3) (ae (aA (ae (gv 0) (ae (f2 (ci 2) (gv 1) addA) aa)) [] dD) aa))) [] lI)) (Mg (bS bB (dy (bq (f2 (gv 6) (fun _=>Res.ok D.non) fB)) (bg (aL (aA (ae (gv 2) (ae (gv 3) (ae (gv 6) (ae (gv 4) aa)))) [] j4)))) (Mg (au bB (fun _=>Res.ok (D.bl false))) ar) ar) (Mg (jm bB (aA (ae (gv 0) aa) [] qY) (bT (aK (av 2) (aK (av 3) (aK (av 5) bQ))))) (Mg (bS bB (eL (bg (aL (aA (ae (gv 5) (ae (gv 2) (ae (gv 3) aa))) [] lJ))) (bg (aL (aA (ae (gv 2) (ae (gv 3) (ae (gv 5) (ae (gv 4) aa)))) [] j4)))) (Mg (au bB (fun _=>Res.ok (D.bl false))) ar) ar) (Mg (au bB (f2 (aA (ae (gv 2) (ae (gv 3) aa)) [] kO) (fun _=>Res.ok D.non) fB)) ar)))))))))))
def r6:List D->Res D:=fun ds=>aH false (pF (bG yv.length ds))
theorem DS (T:Txt K mg) {fa:Addr} {fd:FuncData} (A:Fun K "law" "law" sy fa fd) (c__law_cell:Callee P w K mg base "_law_cell" mS [] 1 false aG dD) (c__law_wishes:Callee P w K mg base "_law_wishes" rE [] 2 false dm mW) (c__law_parts:Callee P w K mg base "_law_parts" wL [] 3 false dm qX) (c__law_mixed:Callee P w K mg base "_law_mixed" q9 [] 4 false aG m5) (c_share_ring:Callee P w K mg base "share_ring" wN [] 4 false aG kO) (c__law_better_than:Callee P w K mg base "_law_better_than" xj [] 1 false aG oD) (c__law_has_ring:Callee P w K mg base "_law_has_ring" wR [] 1 false [Md.bw] oH) (c__law_handing_well:Callee P w K mg base "_law_handing_well" xv [] 7 false [.sh,.sh,.sh,.bw] j4) (c__law_is_ring:Callee P w K mg base "_law_is_ring" xf [] 1 false [.sh,.bw,.bw] lJ) (c__law_walked:Callee P w K mg base "_law_walked" wE [] 1 false [.bw,.bw,.sh] lI) (c__law_twice:Callee P w K mg base "_law_twice" wM [] 5 false [Md.bw] qY):FnOk P w K mg base bP 8 fa fd yw (j7 K false [Md.sh] r6):=by
 refine zI (k:=7) (fs:=pF) (m':=bB) A jF rfl fun cdv A outer s H g E hr=>?_
 have hu1:=yM hr
 have hu64:=hr.units
 exact (aj (bF 1 jF.nd (cT iB (bE (eO (bE (aR c__law_cell (ah (af 0) (ah iB aS)))) iB))))
   (aj (bF 2 jF.nd (aR c__law_wishes (ah (af 0) (ah iB (ah (af 1) (ah (af 1) aS))))))
   (aj (bF 3 jF.nd (aR c__law_mixed (ah (bE (aR c__law_parts (ah (af 0) (ah (bE (cT iB (af 1))) (ah (af 1) (ah (bE (cT iB (bE (eO (bE (pV (bE (aR c__law_cell (ah (af 0) (ah iB aS)))) iB)) iB)))) aS)))))) (ah (af 1) aS))))
   (aj (bF 4 jF.nd (cT iB (bE (eO (bE (aR c__law_cell (ah (af 0) (ah (bE (cT iB (af 1))) aS)))) iB))))
   (aj (bF 5 jF.nd (aR c_share_ring (ah (af 2) (ah (af 3) aS))))
   (aj (a9 (o5 (af 5) (bE kA)) (aj (a9 (cO (bE (aR c__law_has_ring (ah (bE (aR c__law_better_than (ah (af 2) (ah (af 3) aS)))) aS)))) (aj (bf bM)
   ax)
   ax)
   ax)
   (aj (a9 (SW.toQ (cK (d9 (cO (bE (aR c__law_is_ring (aI (v_ 5) (ah (af 2) (ah (af 3) aS))))))) (iF (d9 (cO (bE (aR c__law_handing_well (aI (v_ 2) (aI (v_ 3) (aI (v_ 5) (ah (af 4) aS))))))))))) (aj (bf bM)
   ax)
   ax)
   ax))
   (aj (bF 6 jF.nd (aR c__law_walked (ah (af 2) (ah (af 3) (aI (aR c__law_cell (ah (af 0) (ah (bE (cT iB (af 1))) aS))) aS)))))
   (aj (a9 (SW.toQ (pK (EO (af 6) (bE kA)) (pU (d9 (cO (bE (aR c__law_handing_well (aI (v_ 2) (aI (v_ 3) (aI (v_ 6) (ah (af 4) aS))))))))))) (aj (bf bM)
   ax)
   ax)
   (aj (yV (aR c__law_twice (ah (af 0) aS)) (dZ rfl (bO (aQ 2 jF.nd) (bO (aQ 3 jF.nd) (bO (aQ 5 jF.nd) dY)))))
   (aj (a9 (SW.toQ (cK (d9 (cO (bE (aR c__law_is_ring (aI (v_ 5) (ah (af 2) (ah (af 3) aS))))))) (iF (d9 (cO (bE (aR c__law_handing_well (aI (v_ 2) (aI (v_ 3) (aI (v_ 5) (ah (af 4) aS))))))))))) (aj (bf bM)
   ax)
   ax)
   (aj (bf (Eh (bE (aR c_share_ring (ah (af 2) (ah (af 3) aS)))) (bE kA)))
   ax)))))))))))
end Law
namespace Law
open PySem L2 DL
abbrev nD (k:Nat):D:=.int (k:Int)
abbrev LN (l:List Nat):D:=.lst (l.map nD)
abbrev TN (l:List Nat):D:=.tup (l.map nD)
abbrev WD (rz:List (List Nat)):D:=.tup (rz.map TN)
theorem lP {ds:List D} (h:ds.length<=1000):sz ds=some ds:=Es (Nat.le_trans h (by rw [sizeLine_eq]; decide))
@[simp] theorem addA_int (a b:Int):addA (.int a) (.int b)=some (.int (a + b)):=rfl
theorem mJ {a b:Int} (h:gI a b):bx (.int a) (.int b)=some (.int (a * b)):=by rw [bx,intsC_int,if_pos h]
theorem tW {a b:Int} (h:0 < b):ba (.int a) (.int b)=some (.int (a % b)):=by rw [ba,intsC_int,if_pos h]
theorem IK {a b:Int} (h:iC a b):kE (.int a) (.int b)=some (.int (a / b)):=by rw [kE,intsC_int,if_pos h]
theorem aq {s1 s2:FS} {r r':ak} (h:s1 r=.nx r'):Mg s1 s2 r=s2 r':=by unfold Mg; rw [h]
theorem bK {s1 s2:FS} {r:ak} {d:D} (h:s1 r=.rt d):Mg s1 s2 r=.rt d:=by unfold Mg; rw [h]
theorem aX {m:List Md} {i:Nat} {f:FE} {r:ak} {d:D} (h:f r=.ok d):ao m i f r=.nx (r.set i (some d)):=by unfold ao; rw [h]; rfl
theorem bR {m:List Md} {f:FE} {r:ak} {d:D} (h:f r=.ok d):au m f r=.rt d:=by unfold au; rw [h]; rfl
theorem yN {m:List Md} {p:FQ} {s1 s2:FS} {r:ak} {b:Bool} (h:p r=.ok b):bS m p s1 s2 r=if b=true then s1 r else s2 r:=by unfold bS; rw [h]; rfl
theorem dP {m:List Md} {p:FQ} {s1 s2:FS} {r:ak} (h:p r=.ok true):bS m p s1 s2 r=s1 r:=by rw [yN h,if_pos rfl]
theorem bc {m:List Md} {p:FQ} {s1 s2:FS} {r:ak} (h:p r=.ok false):bS m p s1 s2 r=s2 r:=by rw [yN h,if_neg Bool.false_ne_true]
theorem hV {fl:ak->Res (List D)} {r:ak} {ds:List D} (h:fl r=.ok ds) (hl:ds.length<=1000):c0 fl r=.ok (.tup ds):=by unfold c0; rw [h,bind_ok,lP hl]; rfl
theorem gL {fl:ak->Res (List D)} {r:ak} {ds:List D} (h:fl r=.ok ds) (hl:ds.length<=1000):eJ fl r=.ok (.lst ds):=by unfold eJ; rw [h,bind_ok,lP hl]; rfl
theorem kM {ds:List D} {d:D} (h:ds.length<=1000):appD (.lst ds) [d]=some (.lst (ds++[d])):=by
 show (if ds.length < sizeLine then some (D.lst (ds++[d])) else none)=_
 rw [if_pos (by rw [sizeLine_eq]; omega)]
theorem aN {fl:ak->Res (List D)} {dds zs:List D} {F:List D->Res D} {r:ak} {d:D} (h1:fl r=.ok zs) (h2:F (zs++dds)=.ok d):aA fl dds F r=.ok d:=by unfold aA; rw [h1,bind_ok,h2]; rfl
theorem iE {f:FE} {k:D->Option D} {r:ak} {a d:D} (h1:f r=.ok a) (h2:k a=some d):f1 f k r=.ok d:=by unfold f1; rw [h1,bind_ok,h2]; rfl
theorem ai {f f':FE} {k:D->D->Option D} {r:ak} {a b d:D} (h1:f r=.ok a) (h2:f' r=.ok b) (h3:k a b=some d):f2 f f' k r=.ok d:=by unfold f2; rw [h1,bind_ok,h2,bind_ok,h3]; rfl
theorem bD {fl:ak->Res (List D)} {k:List D->Option D} {r:ak} {ds:List D} {d:D} (h1:fl r=.ok ds) (h2:k ds=some d):fC fl k r=.ok d:=by unfold fC; rw [h1,bind_ok,h2]; rfl
theorem ag {f:FE} {fl:ak->Res (List D)} {r:ak} {d:D} {ds:List D} (h1:f r=.ok d) (h2:fl r=.ok ds):ae f fl r=.ok (d::ds):=by unfold ae; rw [h1,bind_ok,h2]; rfl
theorem al {r:ak}:aa r=.ok []:=rfl
theorem cr {f:FE} {r:ak} {b:Bool} (h:f r=.ok (.bl b)):bq f r=.ok b:=by unfold bq; rw [h]; rfl
theorem cE {f:FE} {r:ak} {d:D} {b:Bool} (h:f r=.ok d) (h2:gq d=some b):aL f r=.ok b:=by unfold aL; rw [h,bind_ok,h2]; rfl
theorem en {p:FQ} {r:ak} {b:Bool} (h:p r=.ok b):bg p r=.ok (! b):=by unfold bg; rw [h]; rfl
theorem ni {p q:FQ} {r:ak} (h:p r=.ok true):dy p q r=q r:=by unfold dy; rw [h]; rfl
theorem pJ {p q:FQ} {r:ak} (h:p r=.ok false):dy p q r=.ok false:=by unfold dy; rw [h]; rfl
theorem cZ {p q:FQ} {r:ak} (h:p r=.ok false):eL p q r=q r:=by unfold eL; rw [h]; rfl
theorem F7 {f f':FE} {r:ak} (h:f r=.ok (.bl true)):ig f f' r=f' r:=by unfold ig; rw [h]; rfl
theorem HN {f:FE} {r:ak} {b:Bool} (h:f r=.ok (.bl b)):gp f r=.ok (.bl (! b)):=by unfold gp; rw [h]; rfl
theorem dk {m:List Md} {fi:FI} {ft:FT} {b:FS} {r:ak} {ds:List D} (h:fi r=.ok ds):cI m fi ft b r=aE ft b ds r:=by unfold cI; rw [h]; rfl
theorem dg {f:FE} {r:ak} {d:D} {ds:List D} (h:f r=.ok d) (h2:bp d=some ds):aC bp f r=.ok ds:=by unfold aC; rw [h,bind_ok,h2]; rfl
theorem dj {ft:FT} {b:FS} {r:ak}:aE ft b [] r=.nx r:=by unfold aE; rfl
theorem cP {ft:FT} {b:FS} {r r1 r':ak} {d:D} {ds:List D} (h1:ft d r=some r1) (h2:b r1=.nx r'):aE ft b (d::ds) r=aE ft b ds r':=by
 conv=>lhs; unfold aE
 simp only [h1,h2]
theorem nH {m:List Md} {p:FQ} {b:FS} {n:Nat} {r:ak} (h:p r=.ok false):dM m p b (n + 1) r=.nx r:=by unfold dM; rw [h]; rfl
theorem nI {m:List Md} {p:FQ} {b:FS} {n:Nat} {r r':ak} (h:p r=.ok true) (h2:b r=.nx r'):dM m p b (n + 1) r=dM m p b n r':=by
 conv=>lhs; unfold dM
 rw [h,onE_ok,if_pos rfl,h2]
theorem jC {T:String} {m:List Md} {i:Nat} {fl:ak->Res (List D)} {mk:D->List D->Option D} {r:ak} {d d':D} {ds:List D} (h1:r[i]? = some (some d)) (h2:rP T d=true) (h3:fl r=.ok ds) (h4:mk d ds=some d'):cM T m i fl mk r=.nx (r.set i (some d')):=by
 unfold cM; rw [h1]; simp only [h2,if_true,h3,onE_ok,h4]
theorem ll {m:List Md} {i:Nat} {fk fv:FE} {r:ak} {d k v d':D} (h1:r[i]? = some (some d)) (h2:fv r=.ok v) (h3:fk r=.ok k) (h4:gr d k v=some d'):DL.eG m i fk fv r=.nx (r.set i (some d')):=by
 unfold DL.eG; rw [h2,onE_ok]; simp only [h1,h3,onE_ok,h4]
theorem HC {fa fb fc:FE} {k k':D->D->Option D} {r:ak} {x y w d:D} (h1:fa r=.ok x) (h2:fb r=.ok y) (h3:k x y=some (.bl true)) (h4:fc r=.ok w) (h5:k' y w=some d):nB fa fb fc k k' r=.ok d:=by
 unfold nB; rw [h1,bind_ok,h2,bind_ok,h3,opt_some,bind_ok]
 show (fc r).bind _=_
 rw [h4,bind_ok,h5]; rfl
theorem Jm {ft:FT} {q:FQ} {fe:FE} {r0:ak}:ff ft q fe r0 []=.ok []:=by unfold ff; rfl
theorem BW {ft:FT} {q:FQ} {fe:FE} {r0:ak} {α:Type} (e:α->D) (keep:α->Bool) (g:α->D):∀(l:List α),(∀a∈l,∃r1,ft (e a) r0=some r1/\q r1=.ok (keep a)/\(keep a=true->fe r1=.ok (g a)))->ff ft q fe r0 (l.map e)=.ok ((l.filter keep).map g)
 | [],_=>Jm
 | a::l,h=>by
  obtain ⟨r1,h1,h2,h3⟩:=h a List.mem_cons_self
  have ih:=BW (ft:=ft) (q:=q) (fe:=fe) (r0:=r0) e keep g l fun b hb=>h b (List.mem_cons_of_mem _ hb)
  rw [List.map_cons]
  conv=>lhs; unfold ff
  rw [h1,opt_some,bind_ok,h2,bind_ok]
  cases k:keep a with
  | true=>rw [if_pos rfl,h3 k,bind_ok,ih,bind_ok,List.filter_cons,if_pos k]; rfl
  | false=>rw [if_neg Bool.false_ne_true,ih,List.filter_cons,if_neg (by rw [k]; exact Bool.false_ne_true)]
theorem jU {nl:Nat} {cap:List Nat} {fi:FI} {ft:FT} {q:FQ} {fe:FE} {r:ak} {α:Type} {l:List α} (e:α->D) (keep:α->Bool) (g:α->D) (h1:fi r=.ok (l.map e)) (hl:l.length<=1000)
  (h:∀a∈l,∃r1,ft (e a) (bu nl cap r)=some r1/\q r1=.ok (keep a)/\(keep a=true->fe r1=.ok (g a))):bU nl cap fi ft q fe r=.ok (.lst ((l.filter keep).map g)):=by
 unfold bU
 rw [h1,bind_ok,lP (by simpa using hl),opt_some,bind_ok,BW e keep g l h,noXL_ok,bind_ok]
theorem np (a b:Nat):iM (nD a) (nD b)=some (.bl (decide (a < b))):=by
 show some (D.bl (decide ((a:Int) < (b:Int))))=_
 simp only [Int.ofNat_lt]
theorem nh (a b:Nat):iO (nD a) (nD b)=some (.bl (decide (b < a))):=by
 show some (D.bl (decide ((b:Int) < (a:Int))))=_
 simp only [Int.ofNat_lt]
theorem sx (a b:Nat):eqD (nD a) (nD b)=some (.bl (decide (a=b))):=by
 unfold eqD
 rw [eqB_int]
 show some (D.bl ((a:Int) == (b:Int)))=_
 have:((a:Int) == (b:Int))=decide (a=b):=by rw [Bool.eq_iff_iff,beq_iff_eq,decide_eq_true_iff]; exact Int.ofNat_inj
 rw [this]
theorem lg (a b:Nat):neD (nD a) (nD b)=some (.bl (! decide (a=b))):=by
 unfold neD
 rw [eqB_int]
 show some (D.bl (!((a:Int) == (b:Int))))=_
 have:((a:Int) == (b:Int))=decide (a=b):=by rw [Bool.eq_iff_iff,beq_iff_eq,decide_eq_true_iff]; exact Int.ofNat_inj
 rw [this]
theorem bY {B:FS} {n:Nat} {ds:List D} {d:D} (h:B (bG n ds)=.rt d):aH false (B (bG n ds))=.ok d:=by rw [h]; rfl
abbrev kI (k:Nat):aD:=Sum.inl (k:Int)
theorem FN (kvs:List (Nat × D)) (k:Nat):fE (kvs.map fun p=>(kI p.1,p.2)) (kI k)=decide (k∈kvs.map (·.1)):=by
 unfold fE
 rw [List.any_map,Bool.eq_iff_iff,List.any_eq_true,decide_eq_true_iff,List.mem_map]
 constructor
 ·rintro ⟨p,h1,h2⟩
  refine ⟨p,h1,?_⟩
  simp only [Function.comp_apply,decide_eq_true_eq] at h2
  have:((p.1:Nat):Int)=(k:Int):=Sum.inl.inj h2
  exact Int.ofNat.inj this
 ·rintro ⟨p,h1,rfl⟩
  exact ⟨p,h1,by simp⟩
theorem Iu (kvs:List (Nat × D)) (k:Nat) (d:D) (h:k∉kvs.map (·.1)):eI (kvs.map fun p=>(kI p.1,p.2)) (kI k) d=(kvs++[(k,d)]).map fun p=>(kI p.1,p.2):=by
 unfold eI
 have e:((kvs.map fun p=>(kI p.1,p.2)).any fun kv=>decide (kv.1=kI k))=decide (k∈kvs.map (·.1)):=FN kvs k
 rw [e,decide_eq_false h,if_neg Bool.false_ne_true,List.map_append]
 rfl
@[simp] theorem e_seq (s1 s2:FS) (r:ak):Mg s1 s2 r=(match s1 r with | .nx r'=>s2 r' | o=>o):=rfl
@[simp] theorem e_skip (r:ak):ar r=.nx r:=rfl
@[simp] theorem e_set (m:List Md) (i:Nat) (f:FE) (r:ak):ao m i f r=gA m r (f r) fun d=>.nx (r.set i (some d)):=rfl
@[simp] theorem e_ret (m:List Md) (f:FE) (r:ak):au m f r=gA m r (f r) fun d=>.rt d:=rfl
@[simp] theorem e_if (m:List Md) (p:FQ) (s1 s2:FS) (r:ak):bS m p s1 s2 r=gA m r (p r) fun c=>if c=true then s1 r else s2 r:=rfl
@[simp] theorem e_getV (r:ak) (i:Nat):dc r i=(match r[i]? with | some (some d)=>.ok d | _=>.stuck):=rfl
@[simp] theorem e_f1 (f:FE) (k:D->Option D) (r:ak):f1 f k r=(f r).bind fun d=>bZ (k d):=rfl
@[simp] theorem e_f2 (f f':FE) (k:D->D->Option D) (r:ak):f2 f f' k r=(f r).bind fun a=>(f' r).bind fun b=>bZ (k a b):=rfl
@[simp] theorem e_fC (fl:ak->Res (List D)) (k:List D->Option D) (r:ak):fC fl k r=(fl r).bind fun ds=>bZ (k ds):=rfl
@[simp] theorem e_lN (r:ak):aa r=.ok []:=rfl
@[simp] theorem e_lC (f:FE) (fl:ak->Res (List D)) (r:ak):ae f fl r=(f r).bind fun d=>(fl r).bind fun ds=>.ok (d::ds):=rfl
@[simp] theorem e_test (f:FE) (r:ak):bq f r=(f r).bind fun d=>bZ (jn d):=rfl
@[simp] theorem e_tru (f:FE) (r:ak):aL f r=(f r).bind fun d=>bZ (gq d):=rfl
@[simp] theorem e_not (p:FQ) (r:ak):bg p r=(p r).bind fun c=>.ok (! c):=rfl
@[simp] theorem e_and (p q:FQ) (r:ak):dy p q r=(p r).bind fun c=>if c=true then q r else .ok false:=rfl
@[simp] theorem e_or (p q:FQ) (r:ak):eL p q r=(p r).bind fun c=>if c=true then .ok true else q r:=rfl
@[simp] theorem e_vand (f f':FE) (r:ak):ig f f' r=(f r).bind fun d=>(bZ (jn d)).bind fun c=>if c=true then f' r else .ok (.bl false):=rfl
@[simp] theorem e_vor (f f':FE) (r:ak):LL f f' r=(f r).bind fun d=>(bZ (jn d)).bind fun c=>if c=true then .ok (.bl true) else f' r:=rfl
@[simp] theorem e_vnot (f:FE) (r:ak):gp f r=(f r).bind fun d=>(bZ (jn d)).bind fun c=>.ok (.bl (! c)):=rfl
@[simp] theorem e_fIf (p:FQ) (f f':FE) (r:ak):L8 p f f' r=(p r).bind fun c=>if c=true then f r else f' r:=rfl
@[simp] theorem e_call (fl:ak->Res (List D)) (dds:List D) (F:List D->Res D) (r:ak):aA fl dds F r=(fl r).bind fun ds=>na (F (ds++dds)):=rfl
@[simp] theorem e_asB (b:Bool):jn (.bl b)=some b:=rfl
@[simp] theorem e_truB (b:Bool):gq (.bl b)=some b:=rfl
@[simp] theorem e_truL (ds:List D):gq (.lst ds)=some (! ds.isEmpty):=rfl
@[simp] theorem e_loop (m:List Md) (fi:FI) (ft:FT) (b:FS) (r:ak):cI m fi ft b r=gA m r (fi r) fun ds=>aE ft b ds r:=rfl
@[simp] theorem e_fSeq (k:D->Option (List D)) (f:FE) (r:ak):aC k f r=(f r).bind fun d=>bZ (k d):=rfl
@[simp] theorem e_asL (ds:List D):bp (.lst ds)=some ds:=rfl
@[simp] theorem e_asT (ds:List D):bp (.tup ds)=some ds:=rfl
@[simp] theorem e_mkT (fl:ak->Res (List D)) (r:ak):c0 fl r=(fl r).bind fun ds=>(bZ (sz ds)).bind fun ds=>.ok (.tup ds):=rfl
@[simp] theorem e_mkL (fl:ak->Res (List D)) (r:ak):eJ fl r=(fl r).bind fun ds=>(bZ (sz ds)).bind fun ds=>.ok (.lst ds):=rfl
@[simp] theorem e_lenL (ds:List D):lenD [.lst ds]=some (.int ds.length):=rfl
@[simp] theorem e_lenT (ds:List D):lenD [.tup ds]=some (.int ds.length):=rfl
@[simp] theorem e_lenK (ds:List (aD × D)):lenD [.dic ds]=some (.int ds.length):=rfl
@[simp] theorem e_tupL (ds:List D):tupD [.lst ds]=some (.tup ds):=rfl
@[simp] theorem e_listL (ds:List D):jx [.lst ds]=some (.lst ds):=rfl
@[simp] theorem e_listT (ds:List D):jx [.tup ds]=some (.lst ds):=rfl
@[simp] theorem e_isNN:lX .non .non=some (.bl true):=rfl
@[simp] theorem e_isLN (ds:List D):lX (.lst ds) .non=some (.bl false):=rfl
@[simp] theorem e_isn1:fB .non .non=some (.bl false):=rfl
@[simp] theorem e_isn2 (i:Int):fB (.int i) .non=some (.bl true):=rfl
@[simp] theorem e_isn3 (ds:List D):fB (.tup ds) .non=some (.bl true):=rfl
@[simp] theorem e_valsD (kvs:List (aD × D)):EC (.dic kvs)=some (.lst (kvs.map (·.2))):=rfl
theorem jP {ds:List D} {i:Nat} {d:D} (h:ds[i]? = some d):am (.tup ds) (nD i)=some d:=by
 have hl:i < ds.length:=(List.getElem?_eq_some_iff.mp h).1
 show eY ds (i:Int)=some d
 unfold eY c6
 rw [if_pos (Int.natCast_nonneg i),if_pos (by omega)]
 simpa using h
theorem iS {ds:List D} {i:Nat} {d:D} (h:ds[i]? = some d):am (.lst ds) (nD i)=some d:=by
 have hl:i < ds.length:=(List.getElem?_eq_some_iff.mp h).1
 show eY ds (i:Int)=some d
 unfold eY c6
 rw [if_pos (Int.natCast_nonneg i),if_pos (by omega)]
 simpa using h
@[simp] theorem ixA_L0 (d:D) (ds:List D):am (.lst (d::ds)) (.int 0)=some d:=iS (i:=0) rfl
theorem DB {kvs:List (aD × D)} {k:Nat} {d:D} (h:bN kvs (kI k)=some d):am (.dic kvs) (nD k)=some d:=h
theorem pw (l:List Nat) (k:Nat):(l.map nD).any (fun y=>eM y (nD k))=decide (k∈l):=by
 rw [List.any_map,Bool.eq_iff_iff,List.any_eq_true,decide_eq_true_iff]
 constructor
 ·rintro ⟨x,h1,h2⟩
  have:(((x:Nat):Int) == (k:Int))=true:=h2
  have:=Int.ofNat_inj.mp (eq_of_beq this)
  subst this; exact h1
 ·intro h
  exact ⟨k,h,by show (((k:Nat):Int) == (k:Int))=true; simp⟩
theorem pO (l:List Nat):(l.map nD).all cx=true:=by
 rw [List.all_eq_true]
 intro x hx
 obtain ⟨k,_,rfl⟩:=List.mem_map.mp hx
 rfl
theorem sm (l:List Nat) (k:Nat):jL (nD k) (LN l)=some (.bl (decide (k∈l))):=by
 show (if cx (nD k)=true/\(l.map nD).all cx=true then some ((l.map nD).any fun y=>eM y (nD k)) else none).map D.bl=_
 rw [if_pos ⟨rfl,pO l⟩,pw]; rfl
theorem nz (l:List Nat) (k:Nat):da (nD k) (LN l)=some (.bl (! decide (k∈l))):=by
 show (if cx (nD k)=true/\(l.map nD).all cx=true then some ((l.map nD).any fun y=>eM y (nD k)) else none).map (fun b=>D.bl (! b))=_
 rw [if_pos ⟨rfl,pO l⟩,pw]; rfl
theorem j3 {α:Type} (f:α->D) (l:List α):lenD [.tup (l.map f)]=some (nD l.length):=by
 show some (D.int ((l.map f).length:Int))=_
 rw [List.length_map]
theorem iK {α:Type} (f:α->D) (l:List α):lenD [.lst (l.map f)]=some (nD l.length):=by
 show some (D.int ((l.map f).length:Int))=_
 rw [List.length_map]
theorem II (n:Nat):eqD (nD n) (nD n)=some (.bl true):=by
 have e:=sx n n
 rw [decide_eq_true rfl] at e; exact e
theorem zi (n:Nat):cJ 0 n=(List.range n).map nD:=by
 unfold cJ
 refine List.map_congr_left fun i _=>?_
 show D.int (0 + (i:Int))=D.int (i:Int)
 rw [Int.zero_add]
theorem IV (j:Int):kz [.int j]=if -(2 ^ 62)<=j/\j < 2 ^ 62/\j.toNat<=sizeLine then some (.lst (cJ 0 j.toNat)) else none:=rfl
theorem qq {n:Nat} (h:n<=1000):kz [nD n]=some (LN (List.range n)):=by
 have hs:(n:Int).toNat<=sizeLine:=by rw [Int.toNat_natCast,sizeLine_eq]; omega
 rw [IV,if_pos ⟨by omega,by omega,hs⟩,Int.toNat_natCast,zi]
theorem GW (j:Int):cw [.int j]=if -(2 ^ 62)<=j/\j < 2 ^ 62 then some (cJ 0 j.toNat) else none:=rfl
theorem iW {n:Nat} (h:n<=1000):cw [nD n]=some ((List.range n).map nD):=by
 rw [GW,if_pos ⟨by omega,by omega⟩,Int.toNat_natCast,zi]
theorem iX {fl:ak->Res (List D)} {k:List D->Option (List D)} {r:ak} {ds es:List D} (h1:fl r=.ok ds) (h2:k ds=some es):cC k fl r=.ok es:=by unfold cC; rw [h1,bind_ok,h2]; rfl
def own (oz:List (Option Nat)) (h:Nat):Option Nat:=(oz[h]?).join
theorem Fo {a b:Nat} (h:kI a=kI b):a=b:=Int.ofNat_inj.mp (Sum.inl.inj h)
structure GI (t:Nat->Nat) (kvs:List (Nat × Nat)) (L:List Nat):Prop where
 nd:(kvs.map (·.1)).Nodup
 val:∀p∈kvs,p.2=t p.1
 key:∀h,h∈kvs.map (·.1)↔h∈L
theorem GI.len {t:Nat->Nat} {kvs:List (Nat × Nat)} {L line:List Nat} (g:GI t kvs L) (hs:∀h∈L,h∈line):kvs.length<=line.length:=by
 have:=Rg.iQ (m:=line) g.nd fun h hh=>hs h ((g.key h).mp hh)
 simpa using this
theorem GI.mem {t:Nat->Nat} {kvs:List (Nat × Nat)} {L M:List Nat} (g:GI t kvs L) (h:∀x,x∈L↔x∈M):GI t kvs M:=⟨g.nd,g.val,fun x=>(g.key x).trans (h x)⟩
theorem GI.nil (t:Nat->Nat):GI t [] []:=⟨by simp,fun _ hp=>(nomatch hp),fun h=>by simp⟩
theorem B0 {α:Type} (l:List α):l.filter (fun _=>true)=l:=List.filter_eq_self.mpr fun _ _=>rfl
def Wr (rz:List (List Nat)) (h:Nat):List Nat:=(rz[h]?).getD []
theorem zk {rz:List (List Nat)} {h:Nat} (hh:h < rz.length):(rz.map TN)[h]? = some (TN (Wr rz h)):=by
 rw [List.getElem?_map]
 unfold Wr
 rw [List.getElem?_eq_getElem hh]; rfl
theorem iH {a b:Nat} (h:0 < b):ba (nD a) (nD b)=some (nD (a % b)):=by
 rw [tW (by omega:(0:Int) < (b:Int))]
 show some (D.int _)=some (D.int _)
 rw [Int.natCast_emod]
theorem qi {a b:Nat} (h:0 < b) (h2:b < 1000):kE (nD a) (nD b)=some (nD (a / b)):=by
 rw [IK (⟨by omega,by omega⟩:iC (a:Int) (b:Int))]
 show some (D.int _)=some (D.int _)
 rw [Int.natCast_ediv]
theorem fj (a b:Nat):addA (nD a) (nD b)=some (nD (a + b)):=by
 rw [addA_int]
 show some (D.int _)=some (D.int _)
 rw [Int.natCast_add]
section
variable {f f':FE} {r:ak}
theorem mo {b:Int} (h:∃i:Int,f r=.ok (.int i)) (h':f' r=.ok (.int b)) (hb:0 < b):∃c:Nat,f2 f f' ba r=.ok (nD c):=by
 obtain ⟨i,hi⟩:=h
 refine ⟨(i % b).toNat,ai hi h' ?_⟩
 rw [tW hb]
 show some (D.int _)=some (D.int _)
 rw [Int.toNat_of_nonneg (Int.emod_nonneg _ (by omega))]
theorem Dh (h:∃c:Nat,f r=.ok (nD c)):∃i:Int,f r=.ok (.int i):=let ⟨c,e⟩:=h; ⟨c,e⟩
theorem lw {b:Int} (h:∃i:Int,f r=.ok (.int i)) (h':f' r=.ok (.int b)) (hb : -(2 ^ 64) < b/\b < 2 ^ 64):∃i:Int,f2 f f' bx r=.ok (.int i):=by
 obtain ⟨i,hi⟩:=h
 exact ⟨i * b,ai hi h' (mJ (.inr hb))⟩
theorem pN (h:∃i:Int,f r=.ok (.int i)) (h':∃i:Int,f' r=.ok (.int i)):∃i:Int,f2 f f' addA r=.ok (.int i):=by
 obtain ⟨i,hi⟩:=h
 obtain ⟨j,hj⟩:=h'
 exact ⟨i + j,ai hi hj rfl⟩
end
theorem yB {m:List Md} {i:Nat} {f:FE} {s2:FS} {r:ak} (h:∃c:Nat,f r=.ok (nD c)) (k:∀c:Nat,∃d:Nat,s2 (r.set i (some (nD c)))=.rt (nD d)):∃d:Nat,Mg (ao m i f) s2 r=.rt (nD d):=by
 obtain ⟨c,hc⟩:=h
 obtain ⟨d,hd⟩:=k c
 exact ⟨d,(aq (aX hc)).trans hd⟩
abbrev IN (ns:List Int):D:=.lst (ns.map .int)
theorem jH (ns:List Int) (k:Nat) (hk:k<=1000):∃c:Nat,dD [IN ns,nD k]=.ok (nD c):=by
 suffices h:∃c:Nat,qJ (bG 4 [IN ns,nD k])=.rt (nD c) by
  obtain ⟨c,hc⟩:=h
  exact ⟨c,bY (B:=qJ) (n:=4) hc⟩
 unfold qJ
 have st:Mg (ao dq 2 (ci 0))=Mg (ao dq 2 (fun _=>Res.ok (nD 0))):=rfl
 rw [st]
 refine yB ⟨0,rfl⟩ fun c1=>?_
 show ∃d:Nat,Mg _ _ [some (IN ns),some (nD k),some (nD c1),none]=_
 have key:∃c2:Nat,(bS dq (bq (f2 (gv 1) (fC (ae (gv 0) aa) lenD) iM)) (Mg (ao dq 2 (f2 (f2 (gv 0) (gv 1) am) (f2 (ci 10) (ci 60) je) ba)) ar) ar) [some (IN ns),some (nD k),some (nD c1),none]=.nx [some (IN ns),some (nD k),some (nD c2),none]:=by
  have t:=cr (ai (f:=gv 1) (r:=[some (IN ns),some (nD k),some (nD c1),none]) (a:=nD k) rfl (bD (ag (f:=gv 0) (d:=IN ns) rfl al) (iK _ _)) (np k ns.length))
  by_cases hlt:k < ns.length
  ·rw [decide_eq_true hlt] at t
   have hx:(ns.map D.int)[k]? = some (.int ns[k]):=by rw [List.getElem?_map,List.getElem?_eq_getElem hlt]; rfl
   have hp:je (.int 10) (.int 60)=some (.int (10 ^ 60)):=by
    show jv iA _ _ _=_
    rw [intsC_int,if_pos (by unfold iA; decide)]
    rfl
   obtain ⟨c2,h2⟩:=mo (f:=f2 (gv 0) (gv 1) am) (f':=f2 (ci 10) (ci 60) je) (r:=[some (IN ns),some (nD k),some (nD c1),none]) ⟨ns[k],ai (a:=IN ns) (b:=nD k) rfl rfl (iS hx)⟩ (ai rfl rfl hp) (by decide)
   exact ⟨c2,(dP t).trans ((aq (aX h2)).trans rfl)⟩
  ·rw [decide_eq_false hlt] at t
   exact ⟨c1,(bc t).trans rfl⟩
 obtain ⟨c2,h2⟩:=key
 rw [aq h2]
 have kq:∃b,(dy (bq (f2 (fC (ae (gv 0) aa) lenD) (ci 0) iO)) (bq (f2 (f2 (f2 (gv 0) (ci 0) am) (ci 2) ba) (ci 0) eqD))) [some (IN ns),some (nD k),some (nD c2),none]=.ok b:=by
  have t:=cr (ai (f:=fC (ae (gv 0) aa) lenD) (f':=fun _=>Res.ok (D.int 0)) (r:=[some (IN ns),some (nD k),some (nD c2),none]) (b:=nD 0) (bD (ag (d:=IN ns) rfl al) (iK _ _)) rfl (nh ns.length 0))
  cases ns with
  | nil=>exact ⟨false,pJ t⟩
  | cons a ns=>
   rw [decide_eq_true (by simp)] at t
   obtain ⟨c3,h3⟩:=mo (f:=f2 (gv 0) (ci 0) am) (f':=fun _=>Res.ok (D.int 2)) (r:=[some (IN (a::ns)),some (nD k),some (nD c2),none]) ⟨a,ai (a:=IN (a::ns)) (b:=.int 0) rfl rfl (ixA_L0 _ _)⟩ rfl (by decide)
   exact ⟨_,(ni t).trans (cr (ai h3 (b:=nD 0) rfl (sx c3 0)))⟩
 obtain ⟨b,hb⟩:=kq
 cases b with
 | true=>exact ⟨c2,bK ((dP hb).trans (bK (bR (d:=nD c2) rfl)))⟩
 | false=>
  rw [aq ((bc (s2:=ar) hb).trans (e_skip _))]
  refine yB (mo (lw (Dh (mo (lw (pN (pN (pN ⟨(c2:Int),rfl⟩ (lw (b:=(k:Int)) (lw (b:=(k:Int)) ⟨7,rfl⟩ rfl (by omega)) rfl (by omega))) (lw (b:=(k:Int)) ⟨13,rfl⟩ rfl (by omega))) ⟨5,rfl⟩) rfl (by decide)) rfl (by decide))) rfl (by decide)) rfl (by decide)) fun c3=>?_
  obtain ⟨c4,h4⟩:=mo (f:=(f2 (f2 (f2 (f2 (gv 3) (ci 1) addA) (ci 40692) bx) (ci 2147483629) ba) (ci 39373) bx)) (f':=fun _=>Res.ok (D.int 999999937)) (r:=[some (IN ns),some (nD k),some (nD c2),some (nD c3)]) (lw (Dh (mo (lw (pN ⟨(c3:Int),rfl⟩ ⟨1,rfl⟩) rfl (by decide)) rfl (by decide))) rfl (by decide)) rfl (by decide)
  exact ⟨c4,bK (bR h4)⟩
theorem IQ {row:List Nat} {i:Int} {x:Nat}:cu (row.map nD) i (nD x)=(cu row i x).map nD:=by
 unfold cu
 rw [List.length_map,List.map_append,List.map_cons,List.map_take,List.map_drop]
theorem Kc {row:List Nat} {i:Int} {x:Nat}:(cu row i x).Perm (x::row):=by
 unfold cu
 refine List.perm_middle.trans ?_
 rw [List.take_append_drop]
theorem A4 (m:Nat):∀(j i c:Nat) (row:List Nat) (x:Option D),row.Perm (List.range i)->i + j<=60 ->
  ∃(c':Nat) (row':List Nat) (x':Option D),row'.Perm (List.range (i + j))/\aE (av 3) Cm ((List.range' i j).map nD) [some (nD c),some (nD m),some (LN row),x]=.nx [some (nD c'),some (nD m),some (LN row'),x']
 | 0,i,c,row,x,hp,_=>⟨c,row,x,hp,dj⟩
 | j + 1,i,c,row,x,hp,hl=>by
  have hlen:row.length=i:=by rw [hp.length_eq]; simp
  obtain ⟨c',row',x',h1,h2⟩:=A4 m j (i + 1) (c / (i + 1)) (cu row ((c % (i + 1):Nat):Int) i) (some (nD i)) (by
   refine Kc.trans ?_
   rw [List.range_succ]
   exact (List.Perm.cons i hp).trans (List.perm_append_singleton i _).symm) (by omega)
  refine ⟨c',row',x',by rw [show i + (j + 1)=i + 1 + j by omega]; exact h1,?_⟩
  rw [<-h2]
  have hmod:c % (i + 1) < i + 1:=Nat.mod_lt _ (by omega)
  refine cP (r1:=[some (nD c),some (nD m),some (LN row),some (nD i)]) rfl ?_
  refine (aq (jC (d:=LN row) (ds:=[nD (c % (i + 1)),nD i]) (d':=LN (cu row ((c % (i + 1):Nat):Int) i)) rfl rfl (ag (ai (a:=nD c) (b:=nD (i + 1)) rfl (ai (a:=nD i) (b:=nD 1) rfl rfl (fj i 1)) (iH (by omega))) (ag (d:=nD i) rfl al)) ?_)).trans ?_
  ·show (if _ then some (D.lst (cu _ _ _)) else none)=_
   rw [if_pos ⟨by rw [List.length_map,sizeLine_eq]; omega,by omega,by omega⟩,IQ]
  ·exact aq (aX (d:=nD (c / (i + 1))) (ai (a:=nD c) (b:=nD (i + 1)) rfl (ai (a:=nD i) (b:=nD 1) rfl rfl (fj i 1)) (qi (by omega) (by omega))))
theorem nM (c m:Nat) (hm:m<=60):∃row:List Nat,row.Perm (List.range m)/\iZ [nD c,nD m]=.ok (TN row):=by
 obtain ⟨c',row',x',h1,h2⟩:=A4 m m 0 c [] none (by simp) (by omega)
 rw [Nat.zero_add] at h1
 rw [<-List.range_eq_range'] at h2
 refine ⟨row',h1,bY (B:=vV) (n:=4) ?_⟩
 unfold vV
 refine (aq (aX (d:=LN []) (gL al (by simp)))).trans ?_
 refine (aq ((dk (ds:=(List.range m).map nD) (iX (ag (d:=nD m) rfl al) (iW (by omega)))).trans h2)).trans ?_
 exact bK (bR (bD (ag (d:=LN row') rfl al) rfl))
theorem Mh (ns:List Int) (at' n m:Nat) (ha:at'<=60) (hn:n<=60) (hm:m<=60):∃rz:List (List Nat),rz.length=n/\(∀row∈rz,row.Perm (List.range m))/\mW [IN ns,nD at',nD n,nD m]=.ok (WD rz):=by
 have h:∀h:Nat,∃row:List Nat,h<=60->row.Perm (List.range m)/\∃c:Nat,dD [IN ns,nD (at' + h)]=.ok (nD c)/\iZ [nD c,nD m]=.ok (TN row):=by
  intro h
  by_cases hh:h<=60
  ·obtain ⟨c,hc⟩:=jH ns (at' + h) (by omega)
   obtain ⟨row,h1,h2⟩:=nM c m hm
   exact ⟨row,fun _=>⟨h1,c,hc,h2⟩⟩
  ·exact ⟨[],fun z=>absurd z hh⟩
 obtain ⟨g,hg⟩:=Classical.axiomOfChoice h
 refine ⟨(List.range n).map g,by simp,fun row hr=>?_,bY (B:=wC) (n:=4) ?_⟩
 ·obtain ⟨i,hi,rfl⟩:=List.mem_map.mp hr
  exact (hg i (by have:=List.mem_range.mp hi; omega)).1
 ·unfold wC
  refine bK (bR (bD (ag (jU (l:=List.range n) nD (fun _=>true) (fun h=>TN (g h)) (iX (ag (d:=nD n) rfl al) (iW (by omega))) (by simp; omega) fun h hh=>⟨[some (nD h),some (nD m),some (IN ns),some (nD at')],rfl,rfl,fun _=>?_⟩) al) ?_))
  ·obtain ⟨_,c,h1,h2⟩:=hg h (by have:=List.mem_range.mp hh; omega)
   exact aN (ag (aN (ag (d:=IN ns) rfl (ag (ai (a:=nD at') (b:=nD h) rfl rfl (fj at' h)) al)) h1) (ag (d:=nD m) rfl al)) h2
  ·rw [B0,e_tupL]
   show some (D.tup _)=some (D.tup _)
   rw [List.map_map]; rfl
end Law
namespace Law
open PySem PyProof.Rows L2 DL
theorem Dt (a b:Nat):eM (nD a) (nD b)=decide (a=b):=by
 show (((a:Nat):Int) == (b:Int))=_
 rw [Bool.eq_iff_iff,beq_iff_eq,decide_eq_true_iff]; exact Int.ofNat_inj
theorem qj (k:Nat):∀l:List Nat,k∈l->gJ (nD k) (l.map nD)=some (l.idxOf k)
 | [],h=>by cases h
 | a::l,h=>by
  show (if eM (nD a) (nD k)=true then some 0 else (gJ (nD k) (l.map nD)).map (· + 1))=_
  rw [Dt]
  by_cases e:a=k
  ·rw [if_pos (by simpa using e)]; subst e; simp
  ·rw [if_neg (by simpa using e),qj k l ((List.mem_cons.mp h).resolve_left fun z=>e z.symm)]
   have hf:(a == k)=false:=by simpa using e
   rw [List.idxOf_cons,hf]; rfl
theorem z8 (k:Nat):∀l:List Nat,(l.map nD).eraseIdx (l.idxOf k)=(l.erase k).map nD
 | []=>rfl
 | a::l=>by
  by_cases e:a=k
  ·subst e; simp
  ·rw [List.idxOf_cons,List.erase_cons_tail (by simpa using e)]
   have:(a == k)=false:=by simpa using e
   rw [this]
   show nD a::(l.map nD).eraseIdx (l.idxOf k)=_
   rw [z8 k l]; rfl
theorem GD {k:Nat} {l:List Nat} (h:k∈l):remD (LN l) [nD k]=some (LN (l.erase k)):=by
 show (if (l.map nD).all isInt=true then (gJ (nD k) (l.map nD)).map fun j=>D.lst ((l.map nD).eraseIdx j) else none)=_
 rw [if_pos (by rw [List.all_eq_true]; intro x hx; obtain ⟨y,_,rfl⟩:=List.mem_map.mp hx; rfl),qj k l h]
 show some (D.lst _)=some (D.lst _)
 rw [z8]
theorem qx {k:Nat} {l:List Nat} (h:k∈l):mI (TN l) [nD k]=some (nD (l.idxOf k)):=by
 show (if cx (nD k)=true/\(l.map nD).all cx=true then (gJ (nD k) (l.map nD)).map fun j=>D.int j else none)=_
 rw [if_pos ⟨rfl,pO l⟩,qj k l h]; rfl
theorem mq {T:String} {fo:FE} {fl:ak->Res (List D)} {k:D->List D->Option D} {r:ak} {d d':D} {ds:List D} (h1:fo r=.ok d) (ht:rO T d=true) (h2:fl r=.ok ds) (h3:k d ds=some d'):fM T fo fl k r=.ok d':=by
 unfold fM; rw [h1,bind_ok,if_pos ht,h2,bind_ok,h3]; rfl
theorem Br {k:Nat} {l:List Nat} (h:k∈l):nJ (LN l) [nD k]=some (nD (l.idxOf k)):=by
 show (if cx (nD k)=true/\(l.map nD).all cx=true then (gJ (nD k) (l.map nD)).map fun j=>D.int j else none)=_
 rw [if_pos ⟨rfl,pO l⟩,qj k l h]; rfl
theorem HU {l:List Nat} {i:Nat} (h:i<=l.length):jK (LN l) (some (i:Int)) none=some (LN (l.drop i)):=by
 show some (D.lst (bW (l.map nD) (some (i:Int)) none))=_
 unfold bW
 rw [HT.bA,HT.bJ,List.length_map,Nat.min_eq_left h]
 rw [List.take_of_length_le (by simp)]
 show some (D.lst _)=some (D.lst ((l.drop i).map nD))
 rw [List.map_drop]
theorem jG {f:FE} {r:ak} {i:Int} (h:f r=.ok (.int i)):g9 f r=.ok (some i):=by unfold g9; rw [h]; rfl
theorem jB {fa:FE} {fl fh:FP} {r:ak} {d d':D} {lo hi:Option Int} (h1:fa r=.ok d) (h2:fl r=.ok lo) (h3:fh r=.ok hi) (h4:jK d lo hi=some d'):gW fa fl fh r=.ok d':=by
 unfold gW; rw [h1,bind_ok,h2,bind_ok,h3,bind_ok,h4]; rfl
theorem sV {ds:List D} {i:Nat} {v:D} (h:i < ds.length):gr (.lst ds) (nD i) v=some (.lst (ds.set i v)):=by
 show (c6 ds.length (i:Int)).map _=_
 unfold c6
 rw [if_pos (Int.natCast_nonneg i),if_pos (by omega)]
 simp
theorem fO {nl:Nat} {cap:List Nat} {fi:FI} {ft:FT} {fe:FE} {r:ak} {α:Type} {l:List α} (e:α->D) (g:α->D) (h1:fi r=.ok (l.map e)) (hl:l.length<=1000)
  (h:∀a∈l,∃r1,ft (e a) (bu nl cap r)=some r1/\fe r1=.ok (g a)):bU nl cap fi ft (fun _=>Res.ok true) fe r=.ok (.lst (l.map g)):=by
 have:=jU (q:=fun _=>Res.ok true) e (fun _=>true) g h1 hl fun a ha=>by
  obtain ⟨r1,q1,q2⟩:=h a ha
  exact ⟨r1,q1,rfl,fun _=>q2⟩
 rw [this,B0]
end Law
section
set_option exponentiation.threshold 3000
namespace Law
open PySem PyProof.Rows L2 DL Fq
abbrev FR (x:Int × Nat):D:=.tup [.int x.1,nD x.2]
abbrev LF (l:List (Int × Nat)):D:=.lst (l.map FR)
abbrev TF (l:List (Int × Nat)):D:=.tup (l.map FR)
theorem Gi:mf=2 ^ 2000:=rfl
theorem sR {a k:Nat} (h:a < 2 ^ k) (hk:k<=2000):a < mf:=by
 rw [Gi]; exact Nat.lt_of_lt_of_le h (Nat.pow_le_pow_right (by omega) hk)
theorem h9 {a b:Int} {k l:Nat} (h1:a.natAbs < 2 ^ k) (h2:b.natAbs < 2 ^ l) (hk:k<=2000) (hl:l<=2000):cB (.int a) (.int b)=some (.int (a * b)):=by
 rw [cB,intsC_int,if_pos ⟨sR h1 hk,sR h2 hl⟩]
theorem qw {a:Int} {b k:Nat} (h0:0 < b) (h1:b < 2 ^ k) (hk:k<=2000):Mm (.int a) (nD b)=some (.int (a / (b:Int))):=by
 rw [Mm,intsC_int,if_pos ⟨by omega,by rw [Int.natAbs_natCast]; exact sR h1 hk⟩]
theorem yK (b:Nat):neD (nD b) (.int 0)=some (.bl (! decide (b=0))):=lg b 0
theorem IL {m:List Md}:∀(k n:Nat) (a:Int) (b:Nat) (x:Option D),b < 2 ^ k->2 * k + 1<=n ->
  ∃(a':Int) (y:Option D),dM m oK oJ n [some (.int a),some (nD b),x]=.nx [some (.int a'),some (nD 0),y]/\a'.natAbs=Int.gcd a b:=by
 have z0:∀(n:Nat) (a:Int) (x:Option D),1<=n->∃(a':Int) (y:Option D),dM m oK oJ n [some (.int a),some (nD 0),x]=.nx [some (.int a'),some (nD 0),y]/\a'.natAbs=Int.gcd a 0:=by
  intro n a x hn
  obtain ⟨n,rfl⟩:∃k,n=k + 1:=⟨n - 1,by omega⟩
  exact ⟨a,x,nH (cr (ai (a:=nD 0) (b:=.int 0) rfl rfl (yK 0))),by simp⟩
 have st:∀(n:Nat) (a:Int) (b:Nat) (x:Option D),0 < b->dM m oK oJ (n + 1) [some (.int a),some (nD b),x]=dM m oK oJ n [some (nD b),some (nD (a % (b:Int)).toNat),some (nD (a % (b:Int)).toNat)]:=by
  intro n a b x hb
  have hne:=yK b
  rw [decide_eq_false (by omega)] at hne
  refine nI (cr (ai (a:=nD b) (b:=.int 0) rfl rfl hne)) ?_
  refine (aq (aX (d:=nD (a % (b:Int)).toNat) (ai (a:=.int a) (b:=nD b) rfl rfl ?_))).trans ?_
  ·rw [tW (by omega)]
   show some (D.int _)=some (D.int _)
   rw [Int.toNat_of_nonneg (Int.emod_nonneg _ (by omega))]
  refine (aq (aX (d:=nD b) rfl)).trans ?_
  exact aq (aX (d:=nD (a % (b:Int)).toNat) rfl)
 have hr:∀(a:Int) (b:Nat),0 < b->(((a % (b:Int)).toNat:Nat):Int)=a % (b:Int)/\(a % (b:Int)).toNat < b:=by
  intro a b hb
  have h1:=Int.emod_nonneg a (show (b:Int)≠0 by omega)
  have h2:=Int.emod_lt_of_pos a (show (0:Int) < b by omega)
  exact ⟨Int.toNat_of_nonneg h1,by omega⟩
 intro k
 induction k with
 | zero=>
  intro n a b x hb hn
  have:b=0:=by
   have:(2:Nat) ^ 0=1:=rfl
   omega
  subst this
  exact z0 n a x (by omega)
 | succ k ih=>
  intro n a b x hb hn
  by_cases h0:b=0
  ·subst h0; exact z0 n a x (by omega)
  ·have hbp:0 < b:=by omega
   obtain ⟨n,rfl⟩:∃j,n=j + 2:=⟨n - 2,by omega⟩
   obtain ⟨r1,r2⟩:=hr a b hbp
   have e1:=st (n + 1) a b x hbp
   generalize (a % (b:Int)).toNat=r at r1 r2 e1
   rw [e1,Bo a b,<-r1]
   by_cases hz:r=0
   ·subst hz
    exact z0 (n + 1) b _ (by omega)
   ·obtain ⟨s1,s2⟩:=hr (b:Int) r (by omega)
    have e2:=st n (b:Int) r (some (nD r)) (by omega)
    have hs:((b:Int) % (r:Int)).toNat=b % r:=by omega
    rw [hs] at s1 s2 e2
    rw [e2,Bo (b:Int) r,<-s1]
    refine ih n (r:Int) (b % r) _ ?_ (by omega)
    have h3:b % r < r:=Nat.mod_lt _ (by omega)
    have h4:b % r<=b - r:=by
     have:=Nat.mod_eq_sub_mod (show r<=b by omega)
     rw [this]; exact Nat.mod_le _ _
    rw [Nat.pow_succ] at hb
    omega
theorem vP {a:Int} {b k:Nat} (hb:b < 2 ^ k) (hk:k<=499):mV [.int a,nD b]=.ok (nD (Int.gcd a b)):=by
 obtain ⟨a',y,h1,h2⟩:=IL (m:=bC) k 1000 a b none hb (by omega)
 refine bY (B:=wz) (n:=3) ?_
 unfold wz
 refine (aq h1).trans (bK (bR (bD (ag (d:=.int a') rfl al) ?_)))
 show some (D.int (if a' < 0 then -a' else a'))=some (D.int _)
 rw [<-h2]
 split <;> congr 2 <;> omega
theorem nL {t:Int} {b k:Nat} (h0:0 < b) (hb:b < 2 ^ k) (hk:k<=499):gO [.int t,nD b]=.ok (FR (low t b)):=by
 refine bY (B:=vU) (n:=3) ?_
 unfold vU
 have hg:=qk t h0
 have hgb:Int.gcd t b < 2 ^ k:=by
  have h1:Int.gcd t b ∣ b:=Int.natCast_dvd_natCast.mp (Int.gcd_dvd_right t b)
  have:=Nat.le_of_dvd h0 h1
  omega
 refine (aq (aX (aN (ag (d:=.int t) rfl (ag (d:=nD b) rfl al)) (vP hb hk)))).trans ?_
 refine bK (bR (hV (ag (ai (a:=.int t) (b:=nD (Int.gcd t b)) rfl rfl (qw hg hgb (by omega))) (ag (ai (a:=nD b) (b:=nD (Int.gcd t b)) rfl rfl (qw hg hgb (by omega))) al)) (by simp)))
theorem fN (x:Int × Nat):am (FR x) (.int 0)=some (.int x.1):=rfl
theorem gl (x:Int × Nat):am (FR x) (.int 1)=some (nD x.2):=jP (i:=1) rfl
section
variable {k l:Nat} {a b:Int × Nat}
theorem qI (ha:Bd k a) (hb:Bd l b) (hl:k + l<=498):ib [FR a,FR b]=.ok (FR (cH a b)):=by
 refine bY (B:=vF) (n:=2) ?_
 unfold vF
 have i0:=fN a
 have i1:=gl a
 have j0:=fN b
 have j1:=gl b
 refine bK (bR (aN (ag (ai (ai (ai (a:=FR a) rfl rfl i0) (ai (a:=FR b) rfl rfl j1) (h9 ha.top (by rw [Int.natAbs_natCast]; exact hb.bot) (by omega) (by omega))) (ai (ai (a:=FR b) rfl rfl j0) (ai (a:=FR a) rfl rfl i1) (h9 hb.top (by rw [Int.natAbs_natCast]; exact ha.bot) (by omega) (by omega))) rfl)
  (ag (d:=nD (a.2 * b.2)) (ai (ai (a:=FR a) rfl rfl i1) (ai (a:=FR b) rfl rfl j1) ?_) al)) ?_))
 ·rw [h9 (k:=k) (l:=l) (by rw [Int.natAbs_natCast]; exact ha.bot) (by rw [Int.natAbs_natCast]; exact hb.bot) (by omega) (by omega)]
  show some (D.int _)=some (D.int _)
  rw [Int.natCast_mul]
 ·exact nL (lC ha hb).1 (lC ha hb).2 (by omega)
theorem uV (ha:Bd k a) (hb:Bd l b) (hk:k<=2000) (hl:l<=2000):lL [FR a,FR b]=.ok (.bl (jQ a b)):=by
 refine bY (B:=vE) (n:=2) ?_
 unfold vE
 have i0:=fN a
 have i1:=gl a
 have j0:=fN b
 have j1:=gl b
 exact bK (bR (ai (ai (ai (a:=FR a) rfl rfl i0) (ai (a:=FR b) rfl rfl j1) (h9 ha.top (by rw [Int.natAbs_natCast]; exact hb.bot) (by omega) (by omega))) (ai (ai (a:=FR b) rfl rfl j0) (ai (a:=FR a) rfl rfl i1) (h9 hb.top (by rw [Int.natAbs_natCast]; exact ha.bot) (by omega) (by omega))) rfl))
theorem Iy (ha:Bd k a) (hc:Int.gcd a.1 (a.2:Nat)=1) (hk:k<=499):rL [FR a]=.ok (.bl true):=by
 refine bY (B:=xi) (n:=2) ?_
 unfold xi
 refine (aq ((bc ?_).trans (e_skip _))).trans ?_
 ·rw [cZ (en (b:=true) (cE (iE (a:=FR a) (d:=.bl true) rfl rfl) rfl))]
  exact cr (ai (a:=nD 2) (b:=nD 2) (bD (ag (d:=FR a) rfl al) rfl) rfl (lg 2 2))
 have stp:∀(i:Int),Dc [some (FR a),some (.int i)]=.nx [some (FR a),some (.int i)]:=by
  intro i
  refine aq ((bc ?_).trans (e_skip _))
  rw [cZ (en (b:=true) (cE (iE (a:=.int i) (d:=.bl true) rfl rfl) rfl))]
  exact cE (iE (a:=.int i) (d:=.bl false) rfl rfl) rfl
 refine (aq ((dk (dg (d:=FR a) rfl rfl)).trans ((cP (r1:=[some (FR a),some (.int a.1)]) rfl (stp a.1)).trans ((cP (r1:=[some (FR a),some (nD a.2)]) rfl (stp a.2)).trans dj)))).trans ?_
 have hp:=ha.pos
 have hg:=nh a.2 0
 rw [decide_eq_true hp] at hg
 refine bK (bR ?_)
 rw [F7 (ai (ai (a:=FR a) rfl rfl (gl a)) (b:=nD 0) rfl hg)]
 refine ai (a:=nD 1) (b:=nD 1) (aN (ag (ai (a:=FR a) rfl rfl (fN a)) (ag (ai (a:=FR a) rfl rfl (gl a)) al)) ?_) rfl (II 1)
 have:=vP (a:=a.1) ha.bot hk
 rw [hc] at this
 exact this
end
theorem Ep {l:List (Int × Nat)} {k:Nat}:∀d∈l.map FR,bX (k + 1) d:=by
 intro d hd
 obtain ⟨x,_,rfl⟩:=List.mem_map.mp hd
 refine ly.mpr ?_
 intro e he
 simp at he
 rcases he with rfl | rfl <;> (cases k <;> trivial)
def bn (l:List (Int × Nat)) (x:Nat):Int × Nat:=(l[x]?).getD (0,1)
theorem Eo {l:List (Int × Nat)} {x:Nat} (h:x < l.length):am (TF l) (nD x)=some (FR (bn l x)):=by
 refine jP ?_
 rw [List.getElem?_map,List.getElem?_eq_getElem h]
 unfold bn
 rw [List.getElem?_eq_getElem h]; rfl
theorem Cr {sh:List (Int × Nat)} {d0:D} {l:Nat}:∀(row:List Nat) (k:Nat) (acc:Int × Nat) (found:List (Int × Nat)) (x:Option D),(∀t∈row,t < sh.length)->Bd k acc->(∀t∈row,Bd l (bn sh t))->k + row.length * (l + 1)<=498->found.length + row.length<=1000 ->
  ∃(a':Int × Nat) (y:Option D),aE (av 4) Cy (row.map nD) [some d0,some (TF sh),some (LF found),some (FR acc),x]=.nx [some d0,some (TF sh),some (LF (found++dX (bn sh) acc row)),some (FR a'),y]
 | [],k,acc,found,x,_,_,_,_,_=>⟨acc,x,by rw [show dX (bn sh) acc []=[] from rfl,List.append_nil]; exact dj⟩
 | t::row,k,acc,found,x,h1,h2,h3,h4,h5=>by
  rw [List.length_cons,Nat.add_mul] at h4
  rw [List.length_cons] at h5
  have hb:=h2.plus (h3 t List.mem_cons_self)
  obtain ⟨a',y,ih⟩:=Cr (sh:=sh) (d0:=d0) (l:=l) row (k + l + 1) (cH acc (bn sh t)) (found++[cH acc (bn sh t)]) (some (nD t)) (fun z hz=>h1 z (List.mem_cons_of_mem _ hz)) hb (fun z hz=>h3 z (List.mem_cons_of_mem _ hz)) (by omega) (by rw [List.length_append,List.length_singleton]; omega)
  refine ⟨a',y,?_⟩
  have e:dX (bn sh) acc (t::row)=cH acc (bn sh t)::dX (bn sh) (cH acc (bn sh t)) row:=rfl
  rw [List.append_assoc,List.singleton_append,<-e] at ih
  rw [List.map_cons,<-ih]
  refine cP (r1:=[some d0,some (TF sh),some (LF found),some (FR acc),some (nD t)]) rfl ?_
  refine (aq (aX (aN (ag (d:=FR acc) rfl (ag (ai (a:=TF sh) (b:=nD t) rfl rfl (Eo (h1 t List.mem_cons_self))) al)) (qI h2 (h3 t List.mem_cons_self) (by omega))))).trans ?_
  refine aq ((jC (d:=LF found) (ds:=[FR (cH acc (bn sh t))]) rfl rfl (ag (d:=FR (cH acc (bn sh t))) rfl al) (kM (by simp; omega))).trans ?_)
  show Out.nx [some d0,some (TF sh),some (D.lst (found.map FR++[FR (cH acc (bn sh t))])),some (FR (cH acc (bn sh t))),some (nD t)]=Out.nx [some d0,some (TF sh),some (D.lst ((found++[cH acc (bn sh t)]).map FR)),some (FR (cH acc (bn sh t))),some (nD t)]
  rw [List.map_append]; rfl
theorem kt:Bd 1 ((0:Int),1):=⟨by decide,by decide,by decide⟩
theorem Ci {row:List Nat} {sh:List (Int × Nat)} {l:Nat} (h1:∀t∈row,t < sh.length) (h3:∀t∈row,Bd l (bn sh t)) (h4:1 + row.length * (l + 1)<=498) (h5:row.length<=1000) :
  oq [TN row,TF sh]=.ok (LF (dX (bn sh) (0,1) row)):=by
 obtain ⟨a',y,h⟩:=Cr (sh:=sh) (d0:=TN row) (l:=l) row 1 (0,1) [] none h1 kt h3 h4 (by simpa using h5)
 rw [List.nil_append] at h
 refine bY (B:=wG) (n:=5) ?_
 unfold wG
 refine (aq (aX (d:=LF []) (gL al (by simp)))).trans ?_
 refine (aq (aX (d:=FR (0,1)) (hV (ag (d:=.int 0) rfl (ag (d:=.int 1) rfl al)) (by simp)))).trans ?_
 refine (aq ((dk (dg (d:=TN row) rfl rfl)).trans h)).trans ?_
 exact bK (bR (d:=LF (dX (bn sh) (0,1) row)) rfl)
end Law
end
section
set_option exponentiation.threshold 3000
namespace Law
open PySem PyProof.Rows L2 DL Fq
theorem HI {fa fb:FE} {r:ak} {d e:D} {ds es:List D} (h1:fa r=.ok d) (h2:fb r=.ok e) (h3:bp d=some ds) (h4:bp e=some es):dQ fa fb r=.ok (List.zipWith (fun a b=>D.tup [a,b]) ds es):=by
 unfold dQ; rw [h1,bind_ok,h2,bind_ok,h3,opt_some,bind_ok,h4,opt_some,bind_ok]
theorem uE (l l':List (Int × Nat)):List.zipWith (fun a b=>D.tup [a,b]) (l.map FR) (l'.map FR)=(l.zip l').map fun p=>D.tup [FR p.1,FR p.2]:=by
 rw [List.zipWith_map,List.zip,List.map_zipWith]
theorem sd {α:Type} (p:α->Bool):∀l:List α,iD (l.map fun x=>D.bl (p x))=some (l.map p)
 | []=>rfl
 | x::l=>by
  show (iD (l.map fun x=>D.bl (p x))).map _=_
  rw [sd p l]; rfl
theorem yx {α:Type} (p:α->Bool) (l:List α):anyD [.lst (l.map fun x=>D.bl (p x))]=some (.bl (l.any p)):=by
 show (iD (l.map fun x=>D.bl (p x))).map _=_
 rw [sd]
 show some (D.bl ((l.map p).any id))=_
 rw [List.any_map]; rfl
theorem Do {α:Type} (p:α->Bool) (l:List α):allD [.lst (l.map fun x=>D.bl (p x))]=some (.bl (l.all p)):=by
 show (iD (l.map fun x=>D.bl (p x))).map _=_
 rw [sd]
 show some (D.bl ((l.map p).all id))=_
 rw [List.all_map]; rfl
def nF (l l':List (Int × Nat)):Bool:=(l.zip l').any fun p=>jQ p.1 p.2
theorem Jn {F:List D->Res D} {fa fb:FE} {r:ak} {l l':List (Int × Nat)} (h1:fa r=.ok (LF l)) (h2:fb r=.ok (LF l')) (hl:l.length<=1000) (hF:∀a∈l,∀b∈l',F [FR a,FR b]=.ok (.bl (jQ a b))) :
  gp (fC (ae (bU 2 [] (dQ fa fb) (bT (aK (av 0) (aK (av 1) bQ))) (fun _=>Res.ok true) (aA (ae (gv 0) (ae (gv 1) aa)) [] F)) aa) anyD) r=.ok (.bl (! nF l l')):=by
 refine HN (bD (ag (fO (l:=l.zip l') (fun p=>D.tup [FR p.1,FR p.2]) (fun p=>.bl (jQ p.1 p.2)) (by rw [HI h1 h2 rfl rfl,uE]) (by rw [List.length_zip]; omega) fun p hp=>⟨[some (FR p.1),some (FR p.2)],rfl,?_⟩) al) (yx _ _))
 have:=List.of_mem_zip hp
 exact aN (ag (d:=FR p.1) rfl (ag (d:=FR p.2) rfl al)) (hF p.1 this.1 p.2 this.2)
theorem KN {row:List Nat} {sh sh':List (Int × Nat)} {l:Nat} (h1:∀t∈row,t < sh.length) (h1':∀t∈row,t < sh'.length) (h3:∀t∈row,Bd l (bn sh t)) (h3':∀t∈row,Bd l (bn sh' t)) (h4:1 + row.length * (l + 1)<=498) (h5:row.length<=1000) :
  mT [TN row,TF sh,TF sh']=.ok (.bl (! nF (dX (bn sh) (0,1) row) (dX (bn sh') (0,1) row))):=by
 refine bY (B:=wZ) (n:=5) ?_
 unfold wZ
 refine (aq (aX (aN (ag (d:=TN row) rfl (ag (d:=TF sh) rfl al)) (Ci h1 h3 h4 h5)))).trans ?_
 refine (aq (aX (aN (ag (d:=TN row) rfl (ag (d:=TF sh') rfl al)) (Ci h1' h3' h4 h5)))).trans ?_
 refine bK (bR (Jn rfl rfl (by rw [BD]; exact h5) fun a ha b hb=>?_))
 exact uV (uD row 1 (0,1) kt h3 a ha) (uD row 1 (0,1) kt h3' b hb) (by omega) (by omega)
theorem BV (i:Int):n5 [.int i]=.ok (.bl true):=rfl
theorem Gj {a:Int} {b k:Nat} (hb:b < 2 ^ k) (hk:k<=499):rM [.int a,nD b]=.ok (nD (Int.gcd a b)):=vP hb hk
theorem CL {t:Int} {b k:Nat} (h0:0 < b) (hb:b < 2 ^ k) (hk:k<=499):mP [.int t,nD b]=.ok (FR (low t b)):=by
 refine bY (B:=vX) (n:=3) ?_
 unfold vX
 have hg:=qk t h0
 have hgb:Int.gcd t b < 2 ^ k:=by
  have h1:Int.gcd t b ∣ b:=Int.natCast_dvd_natCast.mp (Int.gcd_dvd_right t b)
  have:=Nat.le_of_dvd h0 h1
  omega
 refine (aq ((bc ?_).trans (e_skip _))).trans ?_
 ·rw [cZ (en (b:=true) (cE (aN (ag (d:=.int t) rfl al) (BV t)) rfl)),cZ (en (b:=true) (cE (aN (ag (d:=nD b) rfl al) (BV b)) rfl))]
  have:=sx b 0
  rw [decide_eq_false (by omega)] at this
  exact cr (ai (a:=nD b) (b:=nD 0) rfl rfl this)
 refine (aq (aX (aN (ag (d:=.int t) rfl (ag (d:=nD b) rfl al)) (Gj hb hk)))).trans ?_
 refine (aq ((bc ?_).trans (e_skip _))).trans ?_
 ·have:=np b 0
  rw [decide_eq_false (by omega)] at this
  exact cr (ai (a:=nD b) (b:=nD 0) rfl rfl this)
 refine bK (bR (hV (ag (ai (a:=.int t) (b:=nD (Int.gcd t b)) rfl rfl (qw hg hgb (by omega))) (ag (ai (a:=nD b) (b:=nD (Int.gcd t b)) rfl rfl (qw hg hgb (by omega))) al)) (by simp)))
end Law
end
section
set_option exponentiation.threshold 3000
namespace Law
open PySem PyProof.Rows L2 DL Fq
section
variable {k l:Nat} {a b:Int × Nat}
theorem IA (ha:Bd k a) (hb:Bd l b) (hl:k + l<=498):li [FR a,FR b]=.ok (FR (cH a b)):=by
 refine bY (B:=sI) (n:=2) ?_
 unfold sI
 have i0:=fN a
 have i1:=gl a
 have j0:=fN b
 have j1:=gl b
 refine bK (bR (aN (ag (ai (ai (ai (a:=FR a) rfl rfl i0) (ai (a:=FR b) rfl rfl j1) (h9 ha.top (by rw [Int.natAbs_natCast]; exact hb.bot) (by omega) (by omega))) (ai (ai (a:=FR b) rfl rfl j0) (ai (a:=FR a) rfl rfl i1) (h9 hb.top (by rw [Int.natAbs_natCast]; exact ha.bot) (by omega) (by omega))) rfl)
  (ag (d:=nD (a.2 * b.2)) (ai (ai (a:=FR a) rfl rfl i1) (ai (a:=FR b) rfl rfl j1) ?_) al)) ?_))
 ·rw [h9 (k:=k) (l:=l) (by rw [Int.natAbs_natCast]; exact ha.bot) (by rw [Int.natAbs_natCast]; exact hb.bot) (by omega) (by omega)]
  show some (D.int _)=some (D.int _)
  rw [Int.natCast_mul]
 ·exact CL (lC ha hb).1 (lC ha hb).2 (by omega)
theorem Kx (ha:Bd k a) (hb:Bd l b) (hl:k + l<=498):lx [FR a,FR b]=.ok (FR (qc a b)):=by
 refine bY (B:=t3) (n:=2) ?_
 unfold t3
 have i0:=fN a
 have i1:=gl a
 have j0:=fN b
 have j1:=gl b
 refine bK (bR (aN (ag (ai (ai (ai (a:=FR a) rfl rfl i0) (ai (a:=FR b) rfl rfl j1) (h9 ha.top (by rw [Int.natAbs_natCast]; exact hb.bot) (by omega) (by omega))) (ai (ai (a:=FR b) rfl rfl j0) (ai (a:=FR a) rfl rfl i1) (h9 hb.top (by rw [Int.natAbs_natCast]; exact ha.bot) (by omega) (by omega))) rfl)
  (ag (d:=nD (a.2 * b.2)) (ai (ai (a:=FR a) rfl rfl i1) (ai (a:=FR b) rfl rfl j1) ?_) al)) ?_))
 ·rw [h9 (k:=k) (l:=l) (by rw [Int.natAbs_natCast]; exact ha.bot) (by rw [Int.natAbs_natCast]; exact hb.bot) (by omega) (by omega)]
  show some (D.int _)=some (D.int _)
  rw [Int.natCast_mul]
 ·exact CL (lC ha hb).1 (lC ha hb).2 (by omega)
theorem Iz (ha:Bd k a) (hb:Bd l b) (hk:k<=2000) (hl:l<=2000):kF [FR a,FR b]=.ok (.bl (jQ a b)):=uV ha hb hk hl
end
theorem zJ (f:Nat->D):∀{T:List Nat} {x:Nat},x∈T->bN (T.map fun x=>(kI x,f x)) (kI x)=some (f x)
 | [],_,h=>by cases h
 | y::T,x,h=>by
  by_cases e:y=x
  ·subst e; simp [bN,List.find?_cons]
  ·have hne:¬ kI y=kI x:=fun z=>e (Fo z)
   have ih:=zJ f (T:=T) (x:=x) ((List.mem_cons.mp h).resolve_left fun z=>e z.symm)
   have e1:bN ((y::T).map fun x=>(kI x,f x)) (kI x)=bN (T.map fun x=>(kI x,f x)) (kI x):=by
    simp only [bN,List.map_cons,List.find?_cons]
    rw [decide_eq_false hne]
   rw [e1]; exact ih
theorem Gy {T:List Nat} {f:Nat->D} {x:Nat} (h:x∉T) (hl:T.length<=1000):gr (.dic (T.map fun x=>(kI x,f x))) (nD x) (f x)=some (.dic ((T++[x]).map fun x=>(kI x,f x))):=by
 show (if (T.map fun x=>(kI x,f x)).length < sizeLine then some (D.dic (eI _ (kI x) (f x))) else none)=_
 rw [if_pos (by rw [List.length_map,sizeLine_eq]; omega)]
 have:=Iu (T.map fun y=>(y,f y)) x (f x) (by rw [List.map_map]; simpa [Function.comp_def] using h)
 rw [List.map_map] at this
 show some (D.dic (eI (T.map fun x=>(kI x,f x)) (kI x) (f x)))=_
 have e:eI (T.map fun x=>(kI x,f x)) (kI x) (f x)=(T++[x]).map fun x=>(kI x,f x):=by
  refine Eq.trans this ?_
  rw [List.map_append,List.map_map,List.map_append]; rfl
 rw [e]
theorem zG (p q:Int × Nat):ip (FR p) (FR q)=some (decide (p=q)):=by
 have sh:∀x:Int × Nat,bX 60 (FR x):=fun x=>ly.mpr fun e he=>by
  simp at he
  rcases he with rfl | rfl <;> trivial
 rw [uH rfl (sh p) (sh q)]
 unfold lY
 simp only [bj,zdH,PyData.eqv,PyData.eqvAll]
 congr 1
 rw [Bool.eq_iff_iff]
 simp
 constructor
 ·rintro ⟨h1,h2⟩
  exact Prod.ext h1 (by omega)
 ·rintro rfl
  exact ⟨rfl,rfl⟩
theorem FC (p q:Int × Nat):neD (FR p) (FR q)=some (.bl (! decide (p=q))):=by unfold neD; rw [zG]; rfl
structure Sq (rz:List (List Nat)) (n:Nat):Prop where
 n1:1<=n
 n7:n<=7
 rl:rz.length=n
 rp:∀row∈rz,row.Perm (List.range n)
section
variable {rz:List (List Nat)} {n:Nat}
theorem Sq.row (R:Sq rz n) {h:Nat} (hh:h < n):(Wr rz h).Perm (List.range n):=by
 unfold Wr
 rw [List.getElem?_eq_getElem (by rw [R.rl]; exact hh)]
 exact R.rp _ (List.getElem_mem _)
theorem Sq.len (R:Sq rz n):lenD [WD rz]=some (nD n):=by rw [j3,R.rl]
theorem Sq.at (R:Sq rz n) {h:Nat} (hh:h < n):am (WD rz) (nD h)=some (TN (Wr rz h)):=jP (zk (by rw [R.rl]; exact hh))
theorem Sq.map (R:Sq rz n):rz=(List.range n).map (Wr rz):=by
 refine List.ext_getElem? fun i=>?_
 rw [List.getElem?_map]
 by_cases hi:i < n
 ·rw [List.getElem?_range hi,List.getElem?_eq_getElem (by rw [R.rl]; exact hi)]
  unfold Wr
  rw [Option.map_some,List.getElem?_eq_getElem (by rw [R.rl]; exact hi)]; rfl
 ·rw [List.getElem?_eq_none (by rw [R.rl]; omega),List.getElem?_eq_none (by simp; omega)]; rfl
end
section
variable {rz:List (List Nat)} {n:Nat}
abbrev kW (l:List (List (Int × Nat))):D:=.tup (l.map TF)
theorem td {f:Nat->Nat}:∀{l:List Nat} {x:Nat},x∈l->f x<=(l.map f).sum
 | [],_,h=>by cases h
 | y::l,x,h=>by
  rw [List.map_cons,List.sum_cons]
  rcases List.mem_cons.mp h with rfl | h
  ·omega
  ·have:=td (f:=f) h; omega
end
theorem dO {n x:Nat} {f:Nat->D} (h:x < n):am (.lst ((List.range n).map f)) (nD x)=some (f x):=by
 refine iS ?_
 rw [List.getElem?_map,List.getElem?_range h]; rfl
theorem jw {n x:Nat} {f:Nat->D} (h:x < n):am (.tup ((List.range n).map f)) (nD x)=some (f x):=by
 refine jP ?_
 rw [List.getElem?_map,List.getElem?_range h]; rfl
theorem pL {n x:Nat} {v:D} {f:Nat->D} (h:x < n):gr (.lst ((List.range n).map f)) (nD x) v=some (.lst ((List.range n).map fun y=>if y=x then v else f y)):=by
 rw [sV (by simpa using h)]
 show some (D.lst _)=some (D.lst _)
 congr 2
 refine List.ext_getElem? fun i=>?_
 by_cases hi:i < n
 ·by_cases e:x=i
  ·subst e
   rw [List.getElem?_set_self (by simpa using h),List.getElem?_map,List.getElem?_range h]
   simp
  ·rw [List.getElem?_set_ne e,List.getElem?_map,List.getElem?_map,List.getElem?_range hi]
   simp [Ne.symm e]
 ·rw [List.getElem?_eq_none (by simp; omega),List.getElem?_eq_none (by simp; omega)]
abbrev SD (E:Nat->List Nat) (n:Nat):D:=.dic ((List.range n).map fun x=>(kI x,LN (E x)))
structure Gf (E:Nat->List Nat) (n:Nat):Prop where
 n1:1<=n
 n7:n<=7
 lt:∀x,x < n->∀y∈E x,y < n
 few:∀x,x < n->(E x).length<=60
section
variable {E:Nat->List Nat} {n:Nat}
theorem En {x:Nat} (h:x < n):am (SD E n) (nD x)=some (LN (E x)):=DB (zJ (fun x=>LN (E x)) (List.mem_range.mpr h))
theorem B2 (g:Gf E n) {x:Nat} (hx:x < n) (S:List Nat):mU [SD E n,nD x,LN S]=.ok (LN ((E x).filter fun y=>decide (y∈S))):=by
 refine bY (B:=w6) (n:=3) ?_
 unfold w6
 refine bK (bR (jU (l:=E x) nD (fun y=>decide (y∈S)) nD (dg (ai (a:=SD E n) (b:=nD x) rfl rfl (En hx)) rfl) (by have:=g.few x hx; omega) fun y hy=>⟨[some (nD y),some (LN S)],rfl,?_,fun _=>rfl⟩))
 exact cr (ai (a:=nD y) (b:=LN S) rfl rfl (sm S y))
theorem Mi (x:Nat) (S:List Nat):gq (LN ((E x).filter fun y=>decide (y∈S)))=some ((E x).any fun y=>decide (y∈S)):=by
 show some (!(((E x).filter fun y=>decide (y∈S)).map nD).isEmpty)=_
 rw [List.isEmpty_map]
 congr 1
 rw [Bool.eq_iff_iff,List.any_eq_true]
 constructor
 ·intro h
  cases e:(E x).filter fun y=>decide (y∈S) with
  | nil=>rw [e] at h; simp at h
  | cons y l=>
   have:y∈(E x).filter fun y=>decide (y∈S):=by rw [e]; exact List.mem_cons_self
   exact ⟨y,(List.mem_filter.mp this).1,(List.mem_filter.mp this).2⟩
 ·rintro ⟨y,h1,h2⟩
  have:y∈(E x).filter fun y=>decide (y∈S):=List.mem_filter.mpr ⟨h1,h2⟩
  cases e:(E x).filter fun y=>decide (y∈S) with
  | nil=>rw [e] at this; cases this
  | cons y l=>rfl
theorem Aq (g:Gf E n) {S:List Nat} (hS:∀x∈S,x < n) (hl:S.length<=60) (y1:Option D):xr [some (SD E n),y1,some (LN S)]=.nx [some (SD E n),some (LN S),some (LN (Gr.elim E S))]:=by
 refine (aq (aX (d:=LN S) rfl)).trans ?_
 refine aq (aX (d:=LN (Gr.elim E S)) (jU (l:=S) nD (fun x=>(E x).any fun y=>decide (y∈S)) nD rfl (by omega) fun x hx=>⟨[some (nD x),some (SD E n),some (LN S)],rfl,?_,fun _=>rfl⟩))
 exact cE (aN (ag (d:=SD E n) rfl (ag (d:=nD x) rfl (ag (d:=LN S) rfl al))) (B2 g (hS x hx) S)) (Mi x S)
theorem Ar (g:Gf E n):∀(k:Nat) (S:List Nat),S.length < k->(∀x∈S,x < n)->S.length<=60->∃z,dM cL C9 xr k [some (SD E n),some (LN S),some (LN (Gr.elim E S))]=.nx [some (SD E n),some (LN (Gr.core E k S)),z]
 | 0,S,h,_,_=>absurd h (by omega)
 | k + 1,S,h,hS,hl=>by
  have t:=cr (ai (f:=fC (ae (gv 2) aa) lenD) (f':=fC (ae (gv 1) aa) lenD) (r:=[some (SD E n),some (LN S),some (LN (Gr.elim E S))]) (bD (ag (d:=LN (Gr.elim E S)) rfl al) (iK _ _)) (bD (ag (d:=LN S) rfl al) (iK _ _)) (lg (Gr.elim E S).length S.length))
  by_cases e:(Gr.elim E S).length=S.length
  ·rw [decide_eq_true e] at t
   have ec:Gr.core E (k + 1) S=S:=by show (if _ then _ else _)=_; rw [if_pos e]
   rw [ec]
   exact ⟨_,nH t⟩
  ·rw [decide_eq_false e] at t
   have hle:=Gr.dR (E:=E) S
   have ec:Gr.core E (k + 1) S=Gr.core E k (Gr.elim E S):=by show (if _ then _ else _)=_; rw [if_neg e]
   rw [ec]
   have hS':∀x∈Gr.elim E S,x < n:=fun x hx=>hS x (List.mem_filter.mp hx).1
   obtain ⟨z,ih⟩:=Ar g k (Gr.elim E S) (by omega) hS' (by omega)
   exact ⟨z,(nI t (Aq g hS' (by omega) _)).trans ih⟩
abbrev Co (E:Nat->List Nat) (n:Nat):List Nat:=Gr.core E 63 (List.range n)
theorem DE (g:Gf E n):sQ (SD E n)=some (LN (List.range n)):=by
 show some (D.lst (((List.range n).map fun x=>(kI x,LN (E x))).map fun kv=>pj kv.1))=_
 rw [List.map_map]; rfl
theorem Ck (g:Gf E n):rG [SD E n]=.ok (LN (Co E n)):=by
 have hn1:=g.n1
 have hn7:=g.n7
 obtain ⟨z,h⟩:=Ar g 63 (List.range n) (by simp; omega) (fun x hx=>List.mem_range.mp hx) (by simp; omega)
 refine bY (B:=xu) (n:=3) ?_
 unfold xu
 refine (aq (aX (d:=LN []) (gL al (by simp)))).trans ?_
 refine (aq (aX (d:=LN (List.range n)) (iE (a:=SD E n) rfl (DE g)))).trans ?_
 have t:=cr (ai (f:=fC (ae (gv 2) aa) lenD) (f':=fC (ae (gv 1) aa) lenD) (r:=[some (SD E n),some (LN []),some (LN (List.range n))]) (bD (ag (d:=LN (List.range n)) rfl al) (iK _ _)) (bD (ag (d:=LN []) rfl al) (iK _ _)) (lg (List.range n).length ([]:List Nat).length))
 rw [decide_eq_false (by simp; omega)] at t
 refine (aq ((nI t (Aq g (fun x hx=>List.mem_range.mp hx) (by simp; omega) _)).trans h)).trans ?_
 exact bK (bR (d:=LN (Co E n)) rfl)
theorem yE:∀x∈Co E n,x < n:=fun x hx=>List.mem_range.mp (Gr.dS 63 _ x hx)
theorem EG (g:Gf E n):(Co E n).length<=n:=by
 have:=Rg.iQ (m:=List.range n) (Gr.gX (E:=E) 63 (List.range n) List.nodup_range) fun x hx=>Gr.dS 63 _ x hx
 simpa using this
theorem DT (g:Gf E n):∀x∈Co E n,∃y∈E x,y∈Co E n:=Gr.gY 63 (List.range n) (by have:=g.n7; simp; omega)
theorem Lo (g:Gf E n) (h:Co E n=[]):oI [SD E n]=.ok .non:=by
 refine bY (B:=oG) (n:=4) ?_
 unfold oG
 refine (aq (aX (aN (ag (d:=SD E n) rfl al) (Ck g)))).trans ?_
 rw [h]
 exact bK ((dP (en (b:=false) (cE (d:=LN []) rfl rfl))).trans (bK (bR (d:=.non) rfl)))
end
end Law
end
section
set_option exponentiation.threshold 3000
namespace Law
open PySem PyProof.Rows L2 DL Fq
abbrev TB (tb:Nat->Nat->Int × Nat) (n:Nat):D:=.tup ((List.range n).map fun h=>TF ((List.range n).map (tb h)))
def Tok (tb:Nat->Nat->Int × Nat) (n:Nat):Prop:=∀h,h < n->∀x,x < n->Bd 80 (tb h x)
section
variable {rz:List (List Nat)} {n:Nat} {tb:Nat->Nat->Int × Nat}
theorem Sq.has (R:Sq rz n) {h x:Nat} (hh:h < n) (hx:x < n):x∈Wr rz h:=(R.row hh).mem_iff.mpr (List.mem_range.mpr hx)
theorem mL {h x:Nat} (hx:x < n):am (TF ((List.range n).map (tb h))) (nD x)=some (FR (tb h x)):=by
 refine jP ?_
 rw [List.getElem?_map,List.getElem?_map,List.getElem?_range hx]; rfl
theorem JV (R:Sq rz n) {h x y:Nat} (hh:h < n) (hx:x < n) (hy:y < n):qh [WD rz,nD h,nD x,nD y]=.ok (.bl (decide ((Wr rz h).idxOf x < (Wr rz h).idxOf y))):=by
 refine bY (B:=t0) (n:=5) ?_
 unfold t0
 refine (aq (aX (ai (a:=WD rz) (b:=nD h) rfl rfl (R.at hh)))).trans ?_
 exact bK (bR (ai (mq (d:=TN (Wr rz h)) rfl rfl (ag (d:=nD x) rfl al) (qx (R.has hh hx))) (mq (d:=TN (Wr rz h)) rfl rfl (ag (d:=nD y) rfl al) (qx (R.has hh hy))) (np _ _)))
theorem JU {q:Int × Nat} {k:Nat} (hq:Bd k q) (hk:k<=2000):kF [.tup [.int 0,.int 1],FR q]=.ok (.bl (decide (0 < q.1))):=by
 refine bY (B:=sH) (n:=2) ?_
 unfold sH
 have i0:=fN (0,1)
 have i1:=gl (0,1)
 have j0:=fN q
 have j1:=gl q
 refine bK (bR (ai (ai (ai (a:=FR (0,1)) rfl rfl i0) (ai (a:=FR q) rfl rfl j1) (h9 (k:=1) (by decide) (by rw [Int.natAbs_natCast]; exact hq.bot) (by omega) hk)) (ai (ai (a:=FR q) rfl rfl j0) (ai (a:=FR (0,1)) rfl rfl i1) (h9 (l:=1) hq.top (by decide) hk (by omega))) ?_))
 show some (D.bl (decide (((0,1):Int × Nat).1 * (q.2:Int) < q.1 * ((((0,1):Int × Nat).2:Nat):Int))))=_
 congr 2
 show decide ((0:Int) * (q.2:Int) < q.1 * ((1:Nat):Int))=_
 rw [Int.zero_mul,show ((1:Nat):Int)=1 from rfl,Int.mul_one]
variable (rz) (tb) in
def pi (h o t:Nat):Bool:=decide ((Wr rz h).idxOf o < (Wr rz h).idxOf t)
def kS (tb:Nat->Nat->Int × Nat) (h t:Nat):Bool:=decide (0 < (tb h t).1)
def gS (rz:List (List Nat)) (tb:Nat->Nat->Int × Nat) (n t o:Nat):List Nat:=((List.range n).filter fun h=>kS tb h t).filter fun h=>pi rz h o t
def Eg (rz:List (List Nat)) (tb:Nat->Nat->Int × Nat) (n t:Nat):List Nat:=(List.range n).filter fun o=>!(gS rz tb n t o).isEmpty
theorem qb {t o:Nat}:o∈Eg rz tb n t↔o < n/\∃h,h < n/\0 < (tb h t).1/\(Wr rz h).idxOf o < (Wr rz h).idxOf t:=by
 unfold Eg
 rw [List.mem_filter,List.mem_range]
 refine and_congr_right fun _=>?_
 constructor
 ·intro h
  cases e:gS rz tb n t o with
  | nil=>rw [e] at h; simp at h
  | cons q l=>
   have hq:q∈gS rz tb n t o:=by rw [e]; exact List.mem_cons_self
   unfold gS at hq
   have h1:=List.mem_filter.mp hq
   have h2:=List.mem_filter.mp h1.1
   exact ⟨q,List.mem_range.mp h2.1,by simpa [kS] using h2.2,by simpa [pi] using h1.2⟩
 ·rintro ⟨q,h1,h2,h3⟩
  have hq:q∈gS rz tb n t o:=List.mem_filter.mpr ⟨List.mem_filter.mpr ⟨List.mem_range.mpr h1,by simpa [kS] using h2⟩,by simpa [pi] using h3⟩
  cases e:gS rz tb n t o with
  | nil=>rw [e] at hq; cases hq
  | cons q l=>rfl
theorem pH (R:Sq rz n):Gf (Eg rz tb n) n:=⟨R.n1,R.n7,fun x _ y hy=>(qb.mp hy).1,fun x _=>by
 have:(Eg rz tb n x).length<=n:=by
  unfold Eg
  have:=List.length_filter_le (fun o=>!(gS rz tb n x o).isEmpty) (List.range n)
  simpa using this
 have:=R.n7
 omega⟩
theorem A6 (R:Sq rz n) (T:Tok tb n) {t o:Nat} (ht:t < n) (ho:o < n):m7 [WD rz,TB tb n,nD t,nD o]=.ok (LN (gS rz tb n t o)):=by
 have hn7:=R.n7
 refine bY (B:=xq) (n:=5) ?_
 unfold xq
 refine (aq (aX (d:=LN ((List.range n).filter fun h=>kS tb h t)) (jU (l:=List.range n) nD (fun h=>kS tb h t) nD (iX (ag (bD (ag (d:=WD rz) rfl al) R.len) al) (iW (by omega))) (by simp; omega) fun h hh=>⟨[some (nD h),some (nD t),some (TB tb n)],rfl,?_,fun _=>rfl⟩))).trans ?_
 ·have hh':=List.mem_range.mp hh
  exact cE (aN (ag (d:=.tup [.int 0,.int 1]) rfl (ag (ai (b:=nD t) (ai (a:=TB tb n) (b:=nD h) rfl rfl (jw hh')) rfl (mL ht)) al)) (JU (T h hh' t ht) (by omega))) rfl
 refine bK (bR (jU (l:=(List.range n).filter fun h=>kS tb h t) nD (fun h=>pi rz h o t) nD rfl (by
  have:=List.length_filter_le (fun h=>kS tb h t) (List.range n)
  simp at this; omega) fun h hh=>⟨[some (nD h),some (WD rz),some (nD o),some (nD t)],rfl,?_,fun _=>rfl⟩))
 have hh':=List.mem_range.mp (List.mem_filter.mp hh).1
 exact cE (aN (ag (d:=WD rz) rfl (ag (d:=nD h) rfl (ag (d:=nD o) rfl (ag (d:=nD t) rfl al)))) (JV R hh' ho ht)) rfl
theorem AO (R:Sq rz n) (T:Tok tb n):∀(l done:List Nat) (x:Option D),done++l=List.range n->∃y,aE (av 4) Cn (l.map nD) [some (WD rz),some (TB tb n),some (LN (List.range n)),some (.dic (done.map fun x=>(kI x,LN (Eg rz tb n x)))),x]=.nx [some (WD rz),some (TB tb n),some (LN (List.range n)),some (SD (Eg rz tb n) n),y]
 | [],done,x,h=>⟨x,by rw [List.append_nil] at h; subst h; exact dj⟩
 | t::l,done,x,h=>by
  have hn7:=R.n7
  obtain ⟨y,ih⟩:=AO R T l (done++[t]) (some (nD t)) (by rw [<-h]; simp)
  refine ⟨y,?_⟩
  have ht:t < n:=List.mem_range.mp (by rw [<-h]; simp)
  have hnd:(done++t::l).Nodup:=by rw [h]; exact List.nodup_range
  have htd:t∉done:=fun z=>(List.nodup_append.mp hnd).2.2 t z t List.mem_cons_self rfl
  have hlen:done.length + l.length + 1=n:=by
   have:=congrArg List.length h
   simp at this; omega
  rw [List.map_cons,<-ih]
  refine cP (r1:=[some (WD rz),some (TB tb n),some (LN (List.range n)),some (.dic (done.map fun x=>(kI x,LN (Eg rz tb n x)))),some (nD t)]) rfl ?_
  refine aq (ll (d:=.dic (done.map fun x=>(kI x,LN (Eg rz tb n x)))) (k:=nD t) (v:=LN (Eg rz tb n t)) rfl (jU (l:=List.range n) nD (fun o=>!(gS rz tb n t o).isEmpty) nD rfl (by simp; omega) fun o ho=>⟨[some (nD o),some (WD rz),some (TB tb n),some (nD t)],rfl,?_,fun _=>rfl⟩) rfl (Gy (f:=fun x=>LN (Eg rz tb n x)) htd (by omega)))
  refine cE (aN (ag (d:=WD rz) rfl (ag (d:=TB tb n) rfl (ag (d:=nD t) rfl (ag (d:=nD o) rfl al)))) (A6 R T ht (List.mem_range.mp ho))) ?_
  show some (!((gS rz tb n t o).map nD).isEmpty)=_
  rw [List.isEmpty_map]
theorem BU (R:Sq rz n) (T:Tok tb n):qN [WD rz,TB tb n]=.ok (SD (Eg rz tb n) n):=by
 have hn7:=R.n7
 obtain ⟨y,h⟩:=AO R T (List.range n) [] none rfl
 refine bY (B:=vY) (n:=5) ?_
 unfold vY
 refine (aq (aX (d:=LN (List.range n)) (bD (ag (bD (ag (d:=TB tb n) rfl al) (by rw [j3,List.length_range])) al) (qq (by omega))))).trans ?_
 refine (aq (aX (d:=.dic []) rfl)).trans ?_
 refine (aq ((dk (dg (d:=LN (List.range n)) rfl rfl)).trans h)).trans ?_
 exact bK (bR (d:=SD (Eg rz tb n) n) rfl)
end
abbrev TQ (N:Nat) (f:Nat->Nat->Nat) (n:Nat):D:=TB (fun h x=>low ((f h x:Nat):Int) N) n
theorem xR {N n:Nat} {f:Nat->Nat} {x:Nat} (hx:x < n):bn ((List.range n).map fun x=>low ((f x:Nat):Int) N) x=low ((f x:Nat):Int) N:=by
 unfold bn
 rw [List.getElem?_map,List.getElem?_range hx]; rfl
theorem f6 {N c k:Nat} (hN:0 < N) (hk:N < 2 ^ k) (hc:c < 2 ^ k):Bd k (low ((c:Nat):Int) N):=Bd.low hN hk (by rw [Int.natAbs_natCast]; exact hc)
theorem Jq (f:Nat->D) (n:Nat):bh 0 ((List.range n).map f)=(List.range n).map fun i=>D.tup [nD i,f i]:=by
 refine List.ext_getElem? fun j=>?_
 rw [qv,List.getElem?_map,List.getElem?_map]
 by_cases h:j < n
 ·rw [List.getElem?_range h]
  simp only [Option.map_some,Nat.zero_add]
 ·rw [List.getElem?_eq_none (by simp; omega)]; rfl
theorem mC {f:FE} {r:ak} {d:D} {ds:List D} (h:f r=.ok d) (h2:bp d=some ds):dw f r=.ok (bh 0 ds):=by unfold dw; rw [h,bind_ok,h2]; rfl
section
variable {rz:List (List Nat)} {n:Nat}
theorem Bn (R:Sq rz n):bh 0 (rz.map TN)=(List.range n).map fun h=>D.tup [nD h,TN (Wr rz h)]:=by
 have e:rz.map TN=(List.range n).map fun h=>TN (Wr rz h):=by
  conv=>lhs; rw [R.map]
  rw [List.map_map]; rfl
 rw [e,Jq]
end
section
variable {rz:List (List Nat)} {n:Nat}
theorem DF (a b:Nat):nb (nD a) (nD b)=some (.bl (decide (a<=b))):=by
 show some (D.bl (decide ((a:Int)<=(b:Int))))=_
 simp only [Int.ofNat_le]
end
theorem BE {N M:Nat} {f f':Nat->Nat} {sh sh':Nat->Int × Nat} (hN:0 < N) (hM:0 < M):∀(row:List Nat) (A A':Nat),(∀t∈row,sh t=low ((f t:Nat):Int) N/\sh' t=low ((f' t:Nat):Int) M)->A' * N<=A * M->nF (dX sh (low ((A:Nat):Int) N) row) (dX sh' (low ((A':Nat):Int) M) row)=false ->
  ∀k,(A' + ((row.take k).map f').sum) * N<=(A + ((row.take k).map f).sum) * M
 | [],A,A',_,h0,_,k=>by simpa using h0
 | t::row,A,A',h,h0,ha,0=>by simpa using h0
 | t::row,A,A',h,h0,ha,k + 1=>by
  obtain ⟨q1,q2⟩:=h t List.mem_cons_self
  have e1:cH (low ((A:Nat):Int) N) (sh t)=low ((A + f t:Nat):Int) N:=by rw [q1,nU hN,<-Int.natCast_add]
  have e2:cH (low ((A':Nat):Int) M) (sh' t)=low ((A' + f' t:Nat):Int) M:=by rw [q2,nU hM,<-Int.natCast_add]
  unfold nF dX at ha
  rw [e1,e2,List.zip_cons_cons,List.any_cons,Bool.or_eq_false_iff] at ha
  obtain ⟨a1,a2⟩:=ha
  rw [uR hN hM] at a1
  have a1:=of_decide_eq_false a1
  rw [<-Int.natCast_mul,<-Int.natCast_mul] at a1
  have ih:=BE hN hM row (A + f t) (A' + f' t) (fun z hz=>h z (List.mem_cons_of_mem _ hz)) (by omega) a2 k
  rw [List.take_succ_cons,List.map_cons,List.map_cons,List.sum_cons,List.sum_cons,<-Nat.add_assoc,<-Nat.add_assoc]
  exact ih
end Law
end
section
set_option exponentiation.threshold 3000
namespace Law
open PySem PyProof.Rows L2 DL Fq
abbrev pD (p:(Int × Nat) × List Nat):D:=.tup [FR p.1,TN p.2]
theorem uF:∀l:List Nat,gK (l.map nD)=some (l.map fun k:Nat=>(k:Int))
 | []=>rfl
 | k::l=>by
  show (gK (l.map nD)).map _=_
  rw [uF l]; rfl
theorem Bc:∀l:List Nat,(l.map fun k:Nat=>(k:Int)).sum=((l.sum:Nat):Int)
 | []=>rfl
 | k::l=>by rw [List.map_cons,List.sum_cons,Bc l,List.sum_cons,Int.natCast_add]
theorem za (l:List Nat):sumD [LN l]=some (nD l.sum):=by
 show (gK (l.map nD)).map _=_
 rw [uF]
 show some (D.int _)=_
 rw [Bc]
theorem sY:∀l:List Nat,(∀x∈l,1<=x/\x<=60)->l.sum<=60 * l.length/\l.length<=l.sum
 | [],_=>by simp
 | x::l,h=>by
  have h1:=h x List.mem_cons_self
  have:=sY l fun y hy=>h y (List.mem_cons_of_mem _ hy)
  rw [List.sum_cons,List.length_cons]; omega
def Pp (n:Nat) (p:(Int × Nat) × List Nat):Prop:=Bd 10 p.1/\p.2.Perm (List.range n)
def dA (d:List Nat) (h:Nat):Nat:=(d[h]?).getD 0
theorem kD {d:List Nat} {h:Nat} (hh:h < d.length):am (TN d) (nD h)=some (nD (dA d h)):=by
 refine jP ?_
 rw [List.getElem?_map,List.getElem?_eq_getElem hh]
 unfold dA
 rw [List.getElem?_eq_getElem hh]; rfl
theorem fg {d:List Nat} {h n:Nat} (hp:d.Perm (List.range n)) (hh:h < n):h < d.length/\dA d h < n:=by
 have hl:h < d.length:=by rw [hp.length_eq]; simpa using hh
 refine ⟨hl,?_⟩
 unfold dA
 rw [List.getElem?_eq_getElem hl]
 exact List.mem_range.mp (hp.mem_iff.mp (List.getElem_mem _))
def oU (ps:List ((Int × Nat) × List Nat)) (h x:Nat):List (Int × Nat):=(ps.filter fun p=>decide (dA p.2 h=x)).map (·.1)
def gB (ps:List ((Int × Nat) × List Nat)) (h x:Nat) (q:Int × Nat):Int × Nat:=(oU ps h x).foldl cH q
abbrev cN (ps:List ((Int × Nat) × List Nat)):Nat->Nat->Int × Nat:=fun h x=>gB ps h x (0,1)
theorem J3 (p:(Int × Nat) × List Nat) (ps:List ((Int × Nat) × List Nat)) (h x:Nat) (q:Int × Nat):gB (p::ps) h x q=gB ps h x (if x=dA p.2 h then cH q p.1 else q):=by
 unfold gB oU
 rw [List.filter_cons]
 by_cases e:x=dA p.2 h
 ·rw [if_pos (by simpa using e.symm),if_pos e]; rfl
 ·rw [if_neg (by simpa using fun z=>e z.symm),if_neg e]
structure Pts (n:Nat) (ps:List ((Int × Nat) × List Nat)):Prop where
 n1:1<=n
 n7:n<=7
 p1:1<=ps.length
 p12:ps.length<=12
 ok:∀p∈ps,Pp n p
abbrev LP (ps:List ((Int × Nat) × List Nat)):D:=.lst (ps.map pD)
abbrev RL (n:Nat) (q:Nat->Int × Nat):D:=.lst ((List.range n).map fun x=>FR (q x))
theorem By {d0 d1 d2:D} {n h:Nat} (hh:h < n):∀(ps:List ((Int × Nat) × List Nat)) (k:Nat) (q:Nat->Int × Nat) (x5 x6:Option D),(∀p∈ps,Pp n p)->(∀x,Bd k (q x))->k + 11 * ps.length<=498 ->
  ∃(y5 y6:Option D),aE (bT (aK (av 5) (aK (av 6) bQ))) Cz (ps.map pD) [some d0,some d1,some d2,some (nD h),some (RL n q),x5,x6]=.nx [some d0,some d1,some d2,some (nD h),some (RL n fun x=>gB ps h x (q x)),y5,y6]
 | [],k,q,x5,x6,_,hq,hk=>⟨x5,x6,dj⟩
 | p::ps,k,q,x5,x6,hp,hq,hk=>by
  rw [List.length_cons] at hk
  obtain ⟨b1,b2⟩:=hp p List.mem_cons_self
  obtain ⟨hhl,hg⟩:=fg b2 hh
  have hix:=kD hhl
  obtain ⟨y5,y6,e2⟩:=By (d0:=d0) (d1:=d1) (d2:=d2) hh ps (k + 11) (fun y=>if y=dA p.2 h then cH (q y) p.1 else q y) (some (FR p.1)) (some (TN p.2)) (fun r hr=>hp r (List.mem_cons_of_mem _ hr)) (fun x=>by
   show Bd (k + 11) (if x=dA p.2 h then _ else _)
   by_cases e:x=dA p.2 h
   ·rw [if_pos e]; exact ((hq _).plus b1).mono (by omega)
   ·rw [if_neg e]; exact (hq x).mono (by omega)) (by omega)
  refine ⟨y5,y6,?_⟩
  have er:(fun x=>gB (p::ps) h x (q x))=fun x=>gB ps h x (if x=dA p.2 h then cH (q x) p.1 else q x):=by
   funext x; exact J3 p ps h x (q x)
  rw [List.map_cons,er,<-e2]
  refine cP (r1:=[some d0,some d1,some d2,some (nD h),some (RL n q),some (FR p.1),some (TN p.2)]) rfl ?_
  have es:=pL (n:=n) (f:=fun x=>FR (q x)) (v:=FR (cH (q (dA p.2 h)) p.1)) hg
  have ef:((List.range n).map fun y=>if y=dA p.2 h then FR (cH (q (dA p.2 h)) p.1) else FR (q y))=(List.range n).map fun y=>FR (if y=dA p.2 h then cH (q y) p.1 else q y):=by
   refine List.map_congr_left fun y _=>?_
   by_cases e:y=dA p.2 h
   ·rw [if_pos e,if_pos e,e]
   ·rw [if_neg e,if_neg e]
  rw [ef] at es
  exact aq (ll (d:=RL n q) (k:=nD (dA p.2 h)) rfl (aN (ag (ai (a:=RL n q) rfl (ai (a:=TN p.2) (b:=nD h) rfl rfl hix) (dO hg)) (ag (d:=FR p.1) rfl al)) (qI (hq _) b1 (by omega))) (ai (a:=TN p.2) (b:=nD h) rfl rfl hix) es)
theorem Bz {n:Nat} {ps:List ((Int × Nat) × List Nat)} (P:Pts n ps):∀(j i:Nat) (x3 x4 x5 x6:Option D),i + j=n ->
  ∃(y3 y4 y5 y6:Option D),aE (av 3) CA ((List.range' i j).map nD) [some (LP ps),some (nD n),some (.lst ((List.range i).map fun h=>TF ((List.range n).map (cN ps h)))),x3,x4,x5,x6]=.nx [some (LP ps),some (nD n),some (.lst ((List.range n).map fun h=>TF ((List.range n).map (cN ps h)))),y3,y4,y5,y6]
 | 0,i,x3,x4,x5,x6,h=>by
  have:i=n:=by omega
  subst this
  exact ⟨x3,x4,x5,x6,dj⟩
 | j + 1,i,x3,x4,x5,x6,h=>by
  have hi:i < n:=by omega
  have hn:=P.n7
  have h12:=P.p12
  obtain ⟨y5,y6,e2⟩:=By (d0:=LP ps) (d1:=nD n) (d2:=.lst ((List.range i).map fun h=>TF ((List.range n).map (cN ps h)))) hi ps 1 (fun _=>(0,1)) x5 x6 P.ok (fun _=>kt) (by omega)
  obtain ⟨z3,z4,z5,z6,i2⟩:=Bz P j (i + 1) (some (nD i)) (some (RL n (cN ps i))) y5 y6 (by omega)
  refine ⟨z3,z4,z5,z6,?_⟩
  rw [<-i2,List.range'_succ,List.map_cons]
  refine cP (r1:=[some (LP ps),some (nD n),some (.lst ((List.range i).map fun h=>TF ((List.range n).map (cN ps h)))),some (nD i),x4,x5,x6]) rfl ?_
  refine (aq (aX (d:=RL n fun _=>(0,1)) (fO (l:=List.range n) nD (fun _=>FR (0,1)) (iX (ag (d:=nD n) rfl al) (iW (by omega))) (by simp; omega) fun x _=>⟨[some (nD x)],rfl,hV (ag (d:=.int 0) rfl (ag (d:=.int 1) rfl al)) (by simp)⟩))).trans ?_
  refine (aq ((dk (dg (d:=LP ps) rfl rfl)).trans e2)).trans ?_
  rw [show (List.range (i + 1)).map (fun h=>TF ((List.range n).map (cN ps h)))=(List.range i).map (fun h=>TF ((List.range n).map (cN ps h)))++[TF ((List.range n).map (cN ps i))] by rw [List.range_succ,List.map_append]; rfl]
  refine aq (jC (d:=.lst ((List.range i).map fun h=>TF ((List.range n).map (cN ps h)))) (ds:=[TF ((List.range n).map (cN ps i))]) rfl rfl (ag (bD (ag (d:=RL n (cN ps i)) rfl al) ?_) al) (kM (by simp; omega)))
  rw [e_tupL]
  show some (D.tup _)=some (D.tup (List.map FR _))
  rw [List.map_map]; rfl
theorem Cj {n:Nat} {ps:List ((Int × Nat) × List Nat)} (P:Pts n ps):m5 [LP ps,nD n]=.ok (TB (cN ps) n):=by
 have hn:=P.n7
 obtain ⟨y3,y4,y5,y6,e2⟩:=Bz P n 0 none none none none (by omega)
 rw [<-List.range_eq_range'] at e2
 refine bY (B:=wH) (n:=7) ?_
 unfold wH
 refine (aq (aX (d:=.lst []) (gL al (by simp)))).trans ?_
 refine (aq ((dk (iX (ag (d:=nD n) rfl al) (iW (by omega)))).trans e2)).trans ?_
 exact bK (bR (bD (ag (d:=.lst ((List.range n).map fun h=>TF ((List.range n).map (cN ps h)))) rfl al) rfl))
def wt (S:Nat) (q:Nat × List Nat):(Int × Nat) × List Nat:=(low (q.1:Int) S,q.2)
theorem An (ns:List Int) (at' n many:Nat) {ws:List Nat} (hw:ws.length=many) (hb:∀x∈ws,1<=x/\x<=60) (hs0:0 < ws.sum) (hs:ws.sum<=720) (hat:at'<=60) (hn:n<=60):∀(j i:Nat) (qs:List (Nat × List Nat)) (x:Option D),i + j=many->many<=12->qs.map (·.1)=ws.take i->(∀q∈qs,q.2.Perm (List.range n)) ->
  ∃(qs':List (Nat × List Nat)) (y:Option D),qs'.map (·.1)=ws/\(∀q∈qs',q.2.Perm (List.range n))/\aE (av 7) CB ((List.range' i j).map nD) [some (IN ns),some (nD at'),some (nD n),some (nD many),some (LN ws),some (nD ws.sum),some (LP (qs.map (wt ws.sum))),x]=.nx [some (IN ns),some (nD at'),some (nD n),some (nD many),some (LN ws),some (nD ws.sum),some (LP (qs'.map (wt ws.sum))),y]
 | 0,i,qs,x,h,_,hl,hp=>⟨qs,x,by rw [hl,List.take_of_length_le (by omega)],hp,dj⟩
 | j + 1,i,qs,x,h,h12,hl,hp=>by
  have hi:i < ws.length:=by omega
  have hwi:=hb ws[i] (List.getElem_mem _)
  have hql:qs.length=i:=by
   have:=congrArg List.length hl
   rw [List.length_map,List.length_take] at this; omega
  obtain ⟨c,hc⟩:=jH ns (at' + 2 * i + 1) (by omega)
  obtain ⟨row,r1,r2⟩:=nM c n hn
  obtain ⟨qs',y,e1,e2,e3⟩:=An ns at' n many hw hb hs0 hs hat hn j (i + 1) (qs++[(ws[i],row)]) (some (nD i)) (by omega) h12 (by rw [List.map_append,hl,List.take_succ_eq_append_getElem hi]; rfl) (fun q hq=>by
   rcases List.mem_append.mp hq with z | z
   ·exact hp q z
   ·rw [List.mem_singleton.mp z]; exact r1)
  refine ⟨qs',y,e1,e2,?_⟩
  rw [<-e3,List.range'_succ,List.map_cons]
  refine cP (r1:=[some (IN ns),some (nD at'),some (nD n),some (nD many),some (LN ws),some (nD ws.sum),some (LP (qs.map (wt ws.sum))),some (nD i)]) rfl ?_
  have em:LP ((qs++[(ws[i],row)]).map (wt ws.sum))=D.lst ((qs.map (wt ws.sum)).map pD++[pD (low (ws[i]:Int) ws.sum,row)]):=by
   show D.lst (List.map pD _)=_
   rw [List.map_append,List.map_append]; rfl
  rw [em]
  have m2:bx (.int 2) (nD i)=some (nD (2 * i)):=by
   rw [mJ (.inl ⟨by decide,by decide⟩)]
   show some (D.int _)=some (D.int _)
   rw [Int.natCast_mul]; rfl
  have hix:am (LN ws) (nD i)=some (.int (ws[i]:Int)):=iS (by rw [List.getElem?_map,List.getElem?_eq_getElem hi]; rfl)
  exact aq (jC (d:=LP (qs.map (wt ws.sum))) (ds:=[pD (low (ws[i]:Int) ws.sum,row)]) rfl rfl (ag (hV (ag (aN (ag (ai (a:=LN ws) (b:=nD i) rfl rfl hix) (ag (d:=nD ws.sum) rfl al)) (nL (k:=10) hs0 (by show ws.sum < 1024; omega) (by omega))) (ag (aN (ag (aN (ag (d:=IN ns) rfl (ag (ai (b:=nD 1) (ai (a:=nD at') rfl (ai (b:=nD i) rfl rfl m2) (fj _ _)) rfl (fj _ 1)) al)) hc) (ag (d:=nD n) rfl al)) r2) al)) (by simp)) al) (kM (by simp; omega)))
theorem Ky (ns:List Int) (at' n many:Nat) (hat:at'<=60) (hn:n<=60) (h1:1<=many) (h12:many<=12):∃qs:List (Nat × List Nat),qs.length=many/\(∀q∈qs,(1<=q.1/\q.1<=60)/\q.2.Perm (List.range n))/\qX [IN ns,nD at',nD n,nD many]=.ok (LP (qs.map (wt (qs.map (·.1)).sum))):=by
 have hc:∀k:Nat,∃c:Nat,k<=60->dD [IN ns,nD (at' + 2 * k)]=.ok (nD c):=by
  intro k
  by_cases hk:k<=60
  ·obtain ⟨c,hc⟩:=jH ns (at' + 2 * k) (by omega)
   exact ⟨c,fun _=>hc⟩
  ·exact ⟨0,fun z=>absurd z hk⟩
 obtain ⟨g,hg⟩:=Classical.axiomOfChoice hc
 have hb:∀x∈(List.range many).map (fun k=>1 + g k % 60),1<=x/\x<=60:=fun x hx=>by
  obtain ⟨k,_,rfl⟩:=List.mem_map.mp hx
  have:=Nat.mod_lt (g k) (show 60 > 0 by omega)
  omega
 have hsum:=sY _ hb
 have hlen:((List.range many).map fun k=>1 + g k % 60).length=many:=by simp
 rw [hlen] at hsum
 obtain ⟨qs,y,e1,e2,e3⟩:=An ns at' n many hlen hb (by omega) (by omega) hat hn many 0 [] none (by omega) h12 rfl (fun _ h=>by cases h)
 rw [<-List.range_eq_range'] at e3
 refine ⟨qs,by have:=congrArg List.length e1; rwa [List.length_map,hlen] at this,fun q hq=>⟨hb q.1 (by rw [<-e1]; exact List.mem_map.mpr ⟨q,hq,rfl⟩),e2 q hq⟩,bY (B:=wI) (n:=8) ?_⟩
 rw [e1]
 unfold wI
 refine (aq (aX (d:=LN ((List.range many).map fun k=>1 + g k % 60)) ?_)).trans ?_
 ·have hcc:=fO (nl:=1) (cap:=[0,1]) (fi:=cC cw (ae (gv 3) aa)) (ft:=av 0) (fe:=f2 (ci 1) (f2 (aA (ae (gv 1) (ae (f2 (gv 2) (f2 (ci 2) (gv 0) bx) addA) aa)) [] dD) (ci 60) ba) addA) (r:=[some (IN ns),some (nD at'),some (nD n),some (nD many),none,none,none,none]) (l:=List.range many) nD (fun k=>nD (1 + g k % 60)) (iX (ag (d:=nD many) rfl al) (iW (by omega))) (by simp; omega) fun k hk=>⟨[some (nD k),some (IN ns),some (nD at')],rfl,?_⟩
  ·refine hcc.trans ?_
   show Res.ok (D.lst _)=Res.ok (D.lst _)
   rw [List.map_map]; rfl
  ·have hk':=List.mem_range.mp hk
   have m2:bx (.int 2) (nD k)=some (nD (2 * k)):=by
    rw [mJ (.inl ⟨by decide,by decide⟩)]
    show some (D.int _)=some (D.int _)
    rw [Int.natCast_mul]; rfl
   exact ai (a:=nD 1) rfl (ai (b:=nD 60) (aN (ag (d:=IN ns) rfl (ag (ai (a:=nD at') rfl (ai (b:=nD k) rfl rfl m2) (fj _ _)) al)) (hg k (by omega))) rfl (iH (by omega))) (fj 1 _)
 refine (aq (aX (bD (ag (d:=LN ((List.range many).map fun k=>1 + g k % 60)) rfl al) (za _)))).trans ?_
 refine (aq (aX (d:=.lst []) (gL al (by simp)))).trans ?_
 refine (aq ((dk (iX (ag (d:=nD many) rfl al) (iW (by omega)))).trans e3)).trans ?_
 exact bK (bR (d:=LP (qs.map (wt ((List.range many).map fun k=>1 + g k % 60).sum))) rfl)
def cq (qs:List (Nat × List Nat)) (h x:Nat):Nat:=((qs.filter fun q=>decide (dA q.2 h=x)).map (·.1)).sum
theorem tJ (q:Nat × List Nat) (qs:List (Nat × List Nat)) (h x:Nat):cq (q::qs) h x=(if dA q.2 h=x then q.1 else 0) + cq qs h x:=by
 unfold cq
 rw [List.filter_cons]
 by_cases e:dA q.2 h=x
 ·rw [if_pos (by simpa using e),if_pos e,List.map_cons,List.sum_cons]
 ·rw [if_neg (by simpa using e),if_neg e,Nat.zero_add]
theorem D7 {d:List Nat} {n:Nat} (h:d.length=n):(List.range n).map (dA d)=d:=by
 refine List.ext_getElem? fun i=>?_
 rw [List.getElem?_map]
 by_cases hi:i < n
 ·rw [List.getElem?_range hi]
  show some (dA d i)=d[i]?
  unfold dA
  rw [List.getElem?_eq_getElem (by omega)]; rfl
 ·rw [List.getElem?_eq_none (by simp; omega),List.getElem?_eq_none (by omega)]; rfl
theorem sC {n:Nat} {x:Nat} (hx:x < n):∀(qs:List (Nat × List Nat)),(∀q∈qs,q.2.Perm (List.range n))->((List.range n).map fun h=>cq qs h x).sum=(qs.map (·.1)).sum
 | [],_=>by
  have:(fun h=>cq [] h x)=fun _=>0:=by funext h; simp [cq]
  rw [this,Et.fP]; rfl
 | q::qs,hq=>by
  have hp:=hq q List.mem_cons_self
  have e:((List.range n).map fun h=>cq (q::qs) h x)=(List.range n).map fun h=>(if dA q.2 h=x then q.1 else 0) + cq qs h x:=List.map_congr_left fun h _=>tJ q qs h x
  rw [e,Et.gR,Et.gQ,D7 (by rw [hp.length_eq]; simp),sC hx qs fun z hz=>hq z (List.mem_cons_of_mem _ hz),List.map_cons,List.sum_cons]
  have:q.2.count x=1:=by
   rw [hp.count_eq]
   have h1:=List.nodup_iff_count.mp (List.nodup_range (n:=n)) x
   have h2:=List.count_pos_iff.mpr (List.mem_range.mpr hx)
   omega
  rw [this,Nat.one_mul]
theorem Fz {S:Nat} (hS:0 < S) (qs:List (Nat × List Nat)) (h x:Nat):cN (qs.map (wt S)) h x=low ((cq qs h x:Nat):Int) S:=by
 show (oU (qs.map (wt S)) h x).foldl cH (0,1)=_
 have e:oU (qs.map (wt S)) h x=((qs.filter fun q=>decide (dA q.2 h=x)).map (·.1)).map fun c:Nat=>low (c:Int) S:=by
  unfold oU
  rw [List.filter_map,List.map_map,List.map_map]; rfl
 rw [e,<-su hS,Bx hS,Nat.zero_add]; rfl
theorem zR {S n:Nat} (hS:0 < S) (qs:List (Nat × List Nat)):TB (cN (qs.map (wt S))) n=TQ S (cq qs) n:=by
 show D.tup _=D.tup _
 congr 1
 refine List.map_congr_left fun h _=>?_
 show D.tup _=D.tup _
 congr 2
 exact List.map_congr_left fun x _=>Fz hS qs h x
theorem Ec (p q:Int × Nat):PyData.eqv (bj (FR p)) (bj (FR q))=decide (p=q):=by
 have sh:∀p:Int × Nat,bX 60 (FR p):=fun p=>ly.mpr fun e he=>by
  simp at he
  rcases he with rfl | rfl <;> trivial
 have h:=zG p q
 rw [uH rfl (sh p) (sh q)] at h
 exact Option.some.inj h
theorem BX:∀l l':List (Int × Nat),PyData.eqvAll (zdH (l.map FR)) (zdH (l'.map FR))=decide (l=l')
 | [],[]=>by simp [zdH,PyData.eqvAll]
 | [],p::l=>by simp [zdH,PyData.eqvAll]
 | p::l,[]=>by simp [zdH,PyData.eqvAll]
 | p::l,q::l'=>by
  have h1:=Ec p q
  have ih:=BX l l'
  simp only [List.map_cons,zdH,PyData.eqvAll]
  rw [h1,ih,Bool.eq_iff_iff]
  simp
theorem BY:∀t t':List (List (Int × Nat)),PyData.eqvAll (zdH (t.map TF)) (zdH (t'.map TF))=decide (t=t')
 | [],[]=>by simp [zdH,PyData.eqvAll]
 | [],p::l=>by simp [zdH,PyData.eqvAll]
 | p::l,[]=>by simp [zdH,PyData.eqvAll]
 | p::l,q::l'=>by
  have h1:PyData.eqv (bj (TF p)) (bj (TF q))=decide (p=q):=by
   simp only [bj,PyData.eqv]; exact BX p q
  have ih:=BY l l'
  simp only [List.map_cons,zdH,PyData.eqvAll]
  rw [h1,ih,Bool.eq_iff_iff]
  simp
theorem HG (t t':List (List (Int × Nat))):eqD (kW t) (kW t')=some (.bl (decide (t=t'))):=by
 have sh:∀t:List (List (Int × Nat)),bX 60 (kW t):=fun t=>ly.mpr fun d hd=>by
  obtain ⟨l,_,rfl⟩:=List.mem_map.mp hd
  exact ly.mpr Ep
 unfold eqD
 rw [uH rfl (sh t) (sh t')]
 unfold lY
 simp only [bj,PyData.eqv,BY]
 rfl
def tl (N:Nat) (f:Nat->Nat->Nat) (n:Nat):List (List (Int × Nat)):=(List.range n).map fun h=>(List.range n).map fun x=>low ((f h x:Nat):Int) N
theorem EB (N:Nat) (f:Nat->Nat->Nat) (n:Nat):TQ N f n=kW (tl N f n):=by
 show D.tup _=D.tup _
 unfold tl
 rw [List.map_map]; rfl
end Law
end
section
set_option exponentiation.threshold 3000
namespace Law
open PySem PyProof.Rows L2 DL Fq
theorem BO {N:Nat} (hN:0 < N) (a b:Int):qc (low a N) (low b N)=low (a - b) N:=by
 have h1:(low a N).1 * (N:Int)=a * ((low a N).2:Int):=ia a N
 have h2:(low b N).1 * (N:Int)=b * ((low b N).2:Int):=ia b N
 have p1:=hZ a hN
 have p2:=hZ b hN
 refine lE (Nat.mul_pos p1 p2) hN ?_
 generalize low a N=p at *
 generalize low b N=q at *
 rw [Int.natCast_mul,Int.sub_mul,Int.sub_mul]
 have e1:p.1 * (q.2:Int) * (N:Int)=(p.1 * (N:Int)) * (q.2:Int):=by simp only [Int.mul_assoc,Int.mul_comm,Int.mul_left_comm]
 have e2:q.1 * (p.2:Int) * (N:Int)=(q.1 * (N:Int)) * (p.2:Int):=by simp only [Int.mul_assoc,Int.mul_comm,Int.mul_left_comm]
 rw [e1,e2,h1,h2]
 simp only [Int.mul_assoc,Int.mul_comm,Int.mul_left_comm]
abbrev br {α:Type} (l:List α):List α:=l.drop 1++l.take 1
section
variable {E:Nat->List Nat} {n:Nat}
def Ch (E:Nat->List Nat) (l:List Nat):Prop:=∀(i a b:Nat),l[i]? = some a->l[i + 1]? = some b->b∈E a
theorem Ch.snoc {l:List Nat} {p q:Nat} (h:Ch E (l++[p])) (hq:q∈E p):Ch E (l++[p]++[q]):=fun i a b ha hb=>by
 by_cases hi:i + 1 < (l++[p]).length
 ·rw [List.getElem?_append_left hi] at hb
  rw [List.getElem?_append_left (by omega)] at ha
  exact h i a b ha hb
 ·have hlt:i + 1 < (l++[p]++[q]).length:=(List.getElem?_eq_some_iff.mp hb).1
  have hi2:i=l.length:=by simp at hi hlt; omega
  subst hi2
  have ea:(l++[p]++[q])[l.length]? = some p:=by simp
  have eb:(l++[p]++[q])[l.length + 1]? = some q:=by simp
  rw [ea] at ha
  rw [eb] at hb
  cases ha
  cases hb
  exact hq
theorem AT (g:Gf E n) {C:List Nat} (hC:∀x∈C,x < n) (hg:∀x∈C,∃y∈E x,y∈C) (hl:C.length<=60):∀(j:Nat) (walk:List Nat) (p:Nat),walk.Nodup->(∀x∈walk,x∈C)->p∈C->C.length - walk.length < j->walk.length<=C.length->Ch E (walk++[p]) ->
  ∃(walk':List Nat) (p':Nat),p'∈walk'/\walk'.Nodup/\(∀x∈walk',x∈C)/\Ch E (walk'++[p'])/\walk'.length<=C.length/\dM gz C6 C5 j [some (SD E n),some (LN C),some (LN walk),some (nD p)]=.nx [some (SD E n),some (LN C),some (LN walk'),some (nD p')]
 | 0,walk,p,_,_,_,h,_,_=>absurd h (by omega)
 | j + 1,walk,p,hn,hw,hp,h,hlw,hch=>by
  have t:=cr (ai (f:=gv 3) (f':=gv 2) (r:=[some (SD E n),some (LN C),some (LN walk),some (nD p)]) (a:=nD p) (b:=LN walk) rfl rfl (nz walk p))
  by_cases e:p∈walk
  ·rw [decide_eq_true e] at t
   exact ⟨walk,p,e,hn,hw,hch,hlw,nH t⟩
  ·rw [decide_eq_false e] at t
   obtain ⟨y,h1,h2⟩:=hg p hp
   have hf:∃q l,(E p).filter (fun y=>decide (y∈C))=q::l:=by
    have:y∈(E p).filter fun y=>decide (y∈C):=List.mem_filter.mpr ⟨h1,by simpa using h2⟩
    cases e:(E p).filter fun y=>decide (y∈C) with
    | nil=>rw [e] at this; cases this
    | cons q l=>exact ⟨q,l,rfl⟩
   obtain ⟨q,l,hq⟩:=hf
   have hqm:q∈(E p).filter fun y=>decide (y∈C):=by rw [hq]; exact List.mem_cons_self
   have hqC:q∈C:=by simpa using (List.mem_filter.mp hqm).2
   have hn2:(walk++[p]).Nodup:=List.nodup_append.mpr ⟨hn,by simp,fun a ha b hb=>by simp at hb; rintro rfl; exact e (hb ▸ ha)⟩
   have hsub:∀x∈walk++[p],x∈C:=fun x hx=>by
    rcases List.mem_append.mp hx with z | z
    ·exact hw x z
    ·rw [List.mem_singleton.mp z]; exact hp
   have hlen:=Rg.iQ hn2 hsub
   obtain ⟨walk',p',i1,i2,i3,i4,i6,i5⟩:=AT g hC hg hl j (walk++[p]) q hn2 hsub hqC (by simp at hlen ⊢; omega) hlen (hch.snoc (List.mem_filter.mp hqm).1)
   refine ⟨walk',p',i1,i2,i3,i4,i6,Eq.trans (nI t ?_) i5⟩
   refine (aq (jC (d:=LN walk) (ds:=[nD p]) (d':=LN (walk++[p])) rfl rfl (ag (d:=nD p) rfl al) ?_)).trans ?_
   ·rw [kM (by simp; omega)]
    show some (D.lst _)=some (D.lst _)
    rw [List.map_append]; rfl
   refine aq (aX (d:=nD q) (ai (b:=.int 0) (aN (ag (d:=SD E n) rfl (ag (d:=nD p) rfl (ag (d:=LN C) rfl al))) (B2 g (hC p hp) C)) rfl ?_))
   rw [hq]; exact ixA_L0 _ _
theorem rt1_at {α:Type} {l:List α} {i:Nat} {b:α} (h:(br l)[i]? = some b):l[i + 1]? = some b\/(i + 1=l.length/\l[0]? = some b):=by
 cases l with
 | nil=>cases h
 | cons a l=>
  have h':(l++[a])[i]? = some b:=h
  by_cases hi:i < l.length
  ·rw [List.getElem?_append_left hi] at h'
   exact .inl (by rw [List.getElem?_cons_succ]; exact h')
  ·have hlt:i < (l++[a]).length:=(List.getElem?_eq_some_iff.mp h').1
   have e:i=l.length:=by simp at hlt; omega
   subst e
   rw [List.getElem?_append_right (Nat.le_refl _),Nat.sub_self] at h'
   cases h'
   exact .inr ⟨by simp,rfl⟩
theorem Lw (g:Gf E n) (h:Co E n≠[]):∃l:List Nat,l≠[]/\l.Nodup/\(∀x∈l,x < n)/\(∀z∈l.zip (br l),z.2∈E z.1)/\oI [SD E n]=.ok (LN l):=by
 have hn7:=g.n7
 have hl:=EG g
 obtain ⟨c,C',hc⟩:∃c C',Co E n=c::C':=by
  cases e:Co E n with
  | nil=>exact absurd e h
  | cons c C'=>exact ⟨c,C',rfl⟩
 have hcm:c∈Co E n:=by rw [hc]; exact List.mem_cons_self
 obtain ⟨walk,p,h1,w1,w2,w3,w4,h2⟩:=AT g yE (DT g) (by omega) 64 [] c (by simp) (fun _ z=>by cases z) hcm (by simp; omega) (by simp) (fun i a b _ hb=>by rw [List.nil_append,List.getElem?_cons_succ] at hb; cases hb)
 have hi:walk.idxOf p < walk.length:=List.idxOf_lt_length_of_mem h1
 refine ⟨walk.drop (walk.idxOf p),?_,w1.sublist (List.drop_sublist _ _),fun x hx=>yE x (w2 x (List.mem_of_mem_drop hx)),fun z hz=>?_,bY (B:=oG) (n:=4) ?_⟩
 ·intro e
  have:=congrArg List.length e
  rw [List.length_drop,List.length_nil] at this
  omega
 ·obtain ⟨i,hz⟩:=List.mem_iff_getElem?.mp hz
  obtain ⟨z1,z2⟩:=List.getElem?_zip_eq_some.mp hz
  rw [List.getElem?_drop] at z1
  have hlt:walk.idxOf p + i < walk.length:=(List.getElem?_eq_some_iff.mp z1).1
  have z1':(walk++[p])[walk.idxOf p + i]? = some z.1:=by rw [List.getElem?_append_left hlt]; exact z1
  refine w3 _ _ _ z1' ?_
  rcases rt1_at z2 with q | ⟨q1,q2⟩
  ·rw [List.getElem?_drop] at q
   have hlt2:walk.idxOf p + (i + 1) < walk.length:=(List.getElem?_eq_some_iff.mp q).1
   rw [List.getElem?_append_left (by omega)]; exact q
  ·rw [List.length_drop] at q1
   rw [List.getElem?_drop,Nat.add_zero,List.getElem?_eq_getElem hi,List.getElem_idxOf hi] at q2
   rw [show walk.idxOf p + i + 1=walk.length by omega,List.getElem?_append_right (Nat.le_refl _),Nat.sub_self]
   exact q2
 unfold oG
 refine (aq (aX (aN (ag (d:=SD E n) rfl al) (Ck g)))).trans ?_
 refine (aq ((bc (en (b:=true) (cE (d:=LN (Co E n)) rfl (by rw [hc]; rfl)))).trans (e_skip _))).trans ?_
 refine (aq (aX (d:=LN []) (gL al (by simp)))).trans ?_
 refine (aq (aX (d:=nD c) (ai (a:=LN (Co E n)) (b:=.int 0) rfl rfl (by rw [hc]; exact ixA_L0 _ _)))).trans ?_
 refine (aq h2).trans ?_
 exact bK (bR (jB (d:=LN walk) rfl (jG (i:=((walk.idxOf p:Nat):Int)) (mq (d:=LN walk) rfl rfl (ag (d:=nD p) rfl al) (Br h1))) rfl (HU (by omega))))
end
abbrev ay (p:Nat × Nat):D:=.tup [nD p.1,nD p.2]
theorem y0 (l:List D) (i:Nat):jK (.lst l) none (some (i:Int))=some (.lst (l.take i)):=by
 show some (D.lst (bW l none (some (i:Int))))=_
 unfold bW
 rw [HT.bA,HT.bJ,List.drop_zero,Nat.sub_zero]
 rw [List.take_eq_take_iff.mpr (by omega:min (min i l.length) l.length=min i l.length)]
theorem Er (l:List D):jK (.lst l) (some 1) none=some (.lst (l.drop 1)):=by
 show some (D.lst (bW l (some ((1:Nat):Int)) none))=_
 unfold bW
 rw [HT.bA,HT.bJ]
 cases l with
 | nil=>rfl
 | cons a l=>
  rw [List.length_cons,Nat.min_eq_left (by omega)]
  show some (D.lst (l.take _))=some (D.lst l)
  rw [List.take_of_length_le (by omega)]
theorem Gu {l:List D} (h:2<=l.length):jK (.tup l) none (some 1)=some (.tup (l.take 1)):=by
 show (if _ then none else some (D.tup (bW l none (some ((1:Nat):Int)))))=_
 rw [if_neg (by show ¬ (_/\_); rw [show (some (1:Int))=some ((1:Nat):Int) from rfl,HT.bA]; omega)]
 unfold bW
 rw [HT.bA,HT.bJ,List.drop_zero,Nat.sub_zero,Nat.min_eq_left (by omega)]
theorem Gs {l:List D} (h:2<=l.length):jK (.tup l) (some 1) none=some (.tup (l.drop 1)):=by
 show (if _ then none else some (D.tup (bW l (some ((1:Nat):Int)) none)))=_
 rw [if_neg (by show ¬ (_/\_); rw [show (some (1:Int))=some ((1:Nat):Int) from rfl,HT.bA]; omega)]
 unfold bW
 rw [HT.bA,HT.bJ,Nat.min_eq_left (by omega),List.take_of_length_le (by rw [List.length_drop]; omega)]
theorem Gg {a b:List D} (h:a.length + b.length<=1000):addE (.tup a) (.tup b)=some (.tup (a++b)):=by
 cases a with
 | nil=>rfl
 | cons x a=>
  show (if (x::a).length + b.length<=sizeLine then some (DL.D.tup ((x::a)++b)) else none)=_
  rw [if_pos (by rw [sizeLine_eq]; omega)]
theorem K8 {l:List D} (hl:l.length<=900):j5 [.lst l]=.ok (.lst (br l)):=by
 refine bY (B:=n9) (n:=1) ?_
 unfold n9
 refine bK (bR (ai (jB (d:=.lst l) rfl (jG (i:=1) rfl) rfl (Er l)) (jB (d:=.lst l) rfl rfl (jG (i:=((1:Nat):Int)) rfl) (y0 l 1)) ?_))
 show (if (l.drop 1).length + (l.take 1).length<=sizeLine then some (D.lst (l.drop 1++l.take 1)) else none)=_
 rw [if_pos (by rw [List.length_drop,List.length_take,sizeLine_eq]; omega)]
theorem K9 {l:List D} (h2:2<=l.length) (hl:l.length<=900):j5 [.tup l]=.ok (.tup (br l)):=by
 refine bY (B:=n9) (n:=1) ?_
 unfold n9
 refine bK (bR (ai (jB (d:=.tup l) rfl (jG (i:=1) rfl) rfl (Gs h2)) (jB (d:=.tup l) rfl rfl (jG (i:=1) rfl) (Gu h2)) ?_))
 exact Gg (by rw [List.length_drop,List.length_take]; omega)
end Law
end
section
set_option exponentiation.threshold 3000
namespace Law
open PySem PyProof.Rows L2 DL Fq
theorem zy {α β γ δ:Type} (f:α->D) (g:β->D) (l:List α) (r:List β):List.zipWith (fun a b=>D.tup [a,b]) (l.map f) (r.map g)=(l.zip r).map fun z=>D.tup [f z.1,g z.2]:=by
 induction l generalizing r with
 | nil=>rfl
 | cons a l ih=>
  cases r with
  | nil=>rfl
  | cons b r=>rw [List.map_cons,List.map_cons,List.zipWith_cons_cons,List.zip_cons_cons,List.map_cons,ih]
theorem sU {fa fb:FE} {r:ak} {d e:D} {ds es:List D} (h1:fa r=.ok d) (h2:fb r=.ok e) (h3:bp d=some ds) (h4:bp e=some es):dQ fa fb r=.ok (List.zipWith (fun a b=>D.tup [a,b]) ds es):=by
 unfold dQ; rw [h1,bind_ok,h2,bind_ok,h3]; show (bZ (some ds)).bind _=_; rw [h4]; rfl
theorem nK {α β:Type} (f:α->β) (l:List α):br (l.map f)=(br l).map f:=by
 show (l.map f).drop 1++(l.map f).take 1=(l.drop 1++l.take 1).map f
 rw [List.map_append,List.map_drop,List.map_take]
theorem jX {α:Type} (l:List α):(br l).length=l.length:=by
 show (l.drop 1++l.take 1).length=_
 rw [List.length_append,List.length_drop,List.length_take]; omega
theorem Ix (l:List Nat):(br l).Perm l:=by
 cases l with
 | nil=>exact .nil
 | cons a l=>exact List.perm_append_comm
section
variable {rz:List (List Nat)} {n:Nat} {tb:Nat->Nat->Int × Nat}
def jj (rz:List (List Nat)) (tb:Nat->Nat->Int × Nat) (n:Nat) (z:Nat × Nat):Nat:=(gS rz tb n z.1 z.2).headD 0
theorem zK {z:Nat × Nat} (h:z.2∈Eg rz tb n z.1):∃l,gS rz tb n z.1 z.2=jj rz tb n z::l:=by
 have hne:=(List.mem_filter.mp h).2
 unfold jj
 cases e:gS rz tb n z.1 z.2 with
 | nil=>rw [e] at hne; cases hne
 | cons q l=>exact ⟨l,rfl⟩
theorem pZ {z:Nat × Nat} (h:z.2∈Eg rz tb n z.1):jj rz tb n z < n/\0 < (tb (jj rz tb n z) z.1).1/\(Wr rz (jj rz tb n z)).idxOf z.2 < (Wr rz (jj rz tb n z)).idxOf z.1:=by
 obtain ⟨l,e⟩:=zK h
 have hq:jj rz tb n z∈gS rz tb n z.1 z.2:=by rw [e]; exact List.mem_cons_self
 have h1:=List.mem_filter.mp hq
 have h2:=List.mem_filter.mp h1.1
 exact ⟨List.mem_range.mp h2.1,by simpa [kS] using h2.2,by simpa [pi] using h1.2⟩
abbrev jJ (rz:List (List Nat)) (tb:Nat->Nat->Int × Nat) (n:Nat) (z:Nat × Nat):Nat × Nat:=(jj rz tb n z,z.1)
theorem AM (R:Sq rz n) (T:Tok tb n) {d2:D}:∀(zs done:List (Nat × Nat)) (x4 x5:Option D),(∀z∈zs,z.1 < n/\z.2∈Eg rz tb n z.1)->done.length + zs.length<=60 ->
  ∃y4 y5,aE (bT (aK (av 4) (aK (av 5) bQ))) CD (zs.map ay) [some (WD rz),some (TB tb n),some d2,some (.lst (done.map ay)),x4,x5]=.nx [some (WD rz),some (TB tb n),some d2,some (.lst ((done++zs.map (jJ rz tb n)).map ay)),y4,y5]
 | [],done,x4,x5,_,_=>⟨x4,x5,by rw [List.map_nil,List.map_nil,List.append_nil]; exact dj⟩
 | z::zs,done,x4,x5,h,hl=>by
  obtain ⟨h1,h2⟩:=h z List.mem_cons_self
  rw [List.length_cons] at hl
  obtain ⟨y4,y5,ih⟩:=AM R T (d2:=d2) zs (done++[jJ rz tb n z]) (some (nD z.1)) (some (nD z.2)) (fun w hw=>h w (List.mem_cons_of_mem _ hw)) (by rw [List.length_append,List.length_singleton]; omega)
  refine ⟨y4,y5,?_⟩
  rw [List.map_cons,List.map_cons (f:=jJ rz tb n),List.append_cons,<-ih]
  refine cP (r1:=[some (WD rz),some (TB tb n),some d2,some (.lst (done.map ay)),some (nD z.1),some (nD z.2)]) rfl ?_
  obtain ⟨l,e⟩:=zK h2
  have hr:=A6 R T h1 (qb.mp h2).1
  rw [e] at hr
  rw [List.map_append]
  exact aq (jC (d:=.lst (done.map ay)) (ds:=[ay (jJ rz tb n z)]) rfl rfl (ag (hV (ag (ai (b:=.int 0) (aN (ag (d:=WD rz) rfl (ag (d:=TB tb n) rfl (ag (d:=nD z.1) rfl (ag (d:=nD z.2) rfl al)))) hr) rfl (ixA_L0 _ _)) (ag (d:=nD z.1) rfl al)) (by simp)) al) (kM (by rw [List.length_map]; omega)))
theorem KD (R:Sq rz n) (T:Tok tb n) (h:Co (Eg rz tb n) n=[]):kO [WD rz,TB tb n]=.ok .non:=by
 refine bY (B:=on) (n:=6) ?_
 unfold on
 refine (aq (aX (d:=.non) (aN (ag (aN (ag (d:=WD rz) rfl (ag (d:=TB tb n) rfl al)) (BU R T)) al) (Lo (pH R) h)))).trans ?_
 exact bK ((dP (cr (ai (a:=.non) (b:=.non) rfl rfl rfl))).trans (bK (bR (d:=.non) rfl)))
theorem AW {l r:List Nat} (h:l.length=r.length):(l.zip r).map (·.1)=l/\(l.zip r).map (·.2)=r:=⟨List.map_fst_zip (by omega),List.map_snd_zip (by omega)⟩
theorem KO (R:Sq rz n) (T:Tok tb n) (h:Co (Eg rz tb n) n≠[]):∃l:List Nat,l≠[]/\l.Nodup/\(∀x∈l,x < n)/\(∀z∈l.zip (br l),z.2∈Eg rz tb n z.1)/\kO [WD rz,TB tb n]=.ok (.tup (((l.zip (br l)).map (jJ rz tb n)).map ay)):=by
 have hn7:=R.n7
 obtain ⟨l,l1,l2,l3,l4,l5⟩:=Lw (pH (tb:=tb) R) h
 have hlen:l.length<=n:=by
  have:=Rg.iQ (m:=List.range n) l2 fun x hx=>List.mem_range.mpr (l3 x hx)
  simpa using this
 have hzl:(l.zip (br l)).length=l.length:=by rw [List.length_zip,jX,Nat.min_self]
 obtain ⟨y4,y5,e⟩:=AM R T (d2:=LN l) (l.zip (br l)) [] none none (fun z hz=>⟨l3 z.1 (List.of_mem_zip hz).1,l4 z hz⟩) (by rw [hzl,List.length_nil]; omega)
 refine ⟨l,l1,l2,l3,l4,bY (B:=on) (n:=6) ?_⟩
 unfold on
 refine (aq (aX (d:=LN l) (aN (ag (aN (ag (d:=WD rz) rfl (ag (d:=TB tb n) rfl al)) (BU R T)) al) l5))).trans ?_
 refine (aq ((bc (cr (ai (a:=LN l) (b:=.non) rfl rfl rfl))).trans (e_skip _))).trans ?_
 refine (aq (aX (d:=.lst []) (gL al (by simp)))).trans ?_
 have hb:=K8 (l:=l.map nD) (by rw [List.length_map]; omega)
 rw [nK] at hb
 have hz:=sU (fa:=gv 2) (fb:=aA (ae (gv 2) aa) [] j5) (r:=[some (WD rz),some (TB tb n),some (LN l),some (.lst []),none,none]) (d:=LN l) rfl (aN (ag (d:=LN l) rfl al) hb) rfl rfl
 rw [zy (γ:=Nat) (δ:=Nat)] at hz
 refine (aq ((dk hz).trans e)).trans ?_
 exact bK (bR (bD (ag (d:=.lst (([]++(l.zip (br l)).map (jJ rz tb n)).map ay)) rfl al) rfl))
end
abbrev QS (S:Nat) (z:Nat):D:=FR (low (z:Int) S)
theorem L6 {S a b:Nat} (hS:0 < S) (hS2:S < 2 ^ 40) (ha:a < 2 ^ 40) (hb:b < 2 ^ 40):kF [QS S a,QS S b]=.ok (.bl (decide (a < b))):=by
 have:=Iz (k:=40) (l:=40) (f6 hS hS2 ha) (f6 hS hS2 hb) (by omega) (by omega)
 rw [this,uR hS hS]
 congr 2
 rw [Bool.eq_iff_iff,decide_eq_true_iff,decide_eq_true_iff]
 constructor
 ·intro h
  have:=Int.lt_of_mul_lt_mul_right h (by omega)
  omega
 ·intro h
  exact Int.mul_lt_mul_of_pos_right (by omega) (by omega)
theorem Bs {d0:D} {S:Nat} (hS:0 < S) (hS2:S < 2 ^ 40):∀(l:List Nat) (m:Nat) (x:Option D),m < 2 ^ 40->(∀y∈l,y < 2 ^ 40)->∃x',aE (av 2) BC (l.map (QS S)) [some d0,some (QS S m),x]=.nx [some d0,some (QS S (l.foldl (fun m y=>if y < m then y else m) m)),x']
 | [],m,x,_,_=>⟨x,dj⟩
 | y::l,m,x,hm,hl=>by
  have hy:=hl y List.mem_cons_self
  obtain ⟨x',ih⟩:=Bs (d0:=d0) hS hS2 l (if y < m then y else m) (some (QS S y)) (by split <;> assumption) (fun z hz=>hl z (List.mem_cons_of_mem _ hz))
  refine ⟨x',?_⟩
  rw [List.map_cons,List.foldl_cons,<-ih]
  refine cP (r1:=[some d0,some (QS S m),some (QS S y)]) rfl ?_
  have t:=L6 hS hS2 hy hm
  by_cases h:y < m
  ·rw [decide_eq_true h] at t
   rw [if_pos h]
   exact aq ((dP (cE (aN (ag (d:=QS S y) rfl (ag (d:=QS S m) rfl al)) t) rfl)).trans (aq (aX (d:=QS S y) rfl)))
  ·rw [decide_eq_false h] at t
   rw [if_neg h]
   exact aq ((bc (cE (aN (ag (d:=QS S y) rfl (ag (d:=QS S m) rfl al)) t) rfl)).trans (e_skip _))
theorem GZ {S:Nat} (hS:0 < S) (hS2:S < 2 ^ 40) {l:List Nat} (h:l≠[]) (hl:∀y∈l,y < 2 ^ 40):qg [.lst (l.map (QS S))]=.ok (QS S (Et.cg l)):=by
 cases l with
 | nil=>exact absurd rfl h
 | cons x l=>
  obtain ⟨x',e⟩:=Bs (d0:=.lst ((x::l).map (QS S))) hS hS2 (x::l) x none (hl x List.mem_cons_self) hl
  rw [List.foldl_cons,if_neg (Nat.lt_irrefl x)] at e
  refine bY (B:=tZ) (n:=3) ?_
  unfold tZ
  refine (aq (aX (d:=QS S x) (ai (a:=.lst ((x::l).map (QS S))) (b:=.int 0) rfl rfl (ixA_L0 _ _)))).trans ?_
  refine (aq ((dk (dg (d:=.lst ((x::l).map (QS S))) rfl rfl)).trans e)).trans ?_
  exact bK (bR (d:=QS S (Et.cg (x::l))) rfl)
theorem GY {S n:Nat} {c:Nat->Nat->Nat} (hS:0 < S) (hS2:S < 2 ^ 40) (hc:∀h x,c h x < 2 ^ 40) {ring:List (Nat × Nat)} (hr:ring≠[]) (hl:ring.length<=60) (hlt:∀p∈ring,p.1 < n/\p.2 < n):qM [TQ S c n,.tup (ring.map ay)]=.ok (QS S (Et.cg (ring.map fun p=>c p.1 p.2))):=by
 refine bY (B:=vW) (n:=2) ?_
 unfold vW
 have hcomp:=fO (nl:=2) (cap:=[0]) (fi:=aC bp (gv 1)) (ft:=bT (aK (av 0) (aK (av 1) bQ))) (fe:=f2 (f2 (gv 2) (gv 0) am) (gv 1) am) (r:=[some (TQ S c n),some (.tup (ring.map ay))]) (l:=ring) ay (fun p=>QS S (c p.1 p.2)) (dg (d:=.tup (ring.map ay)) rfl rfl) (by omega) fun p hp=>⟨[some (nD p.1),some (nD p.2),some (TQ S c n)],rfl,ai (b:=nD p.2) (ai (a:=TQ S c n) (b:=nD p.1) rfl rfl (jw (hlt p hp).1)) rfl (mL (tb:=fun h x=>low ((c h x:Nat):Int) S) (hlt p hp).2)⟩
 have hle:=GZ hS hS2 (l:=ring.map fun p=>c p.1 p.2) (by simpa using hr) (fun y hy=>by
  obtain ⟨p,_,rfl⟩:=List.mem_map.mp hy
  exact hc _ _)
 rw [List.map_map] at hle
 exact bK (bR (aN (ag hcomp al) hle))
end Law
end
section
set_option exponentiation.threshold 3000
namespace Law
open PySem PyProof.Rows L2 DL Fq
theorem Ag {f1:e8} {F:ak->List (List D)->Out} {r r':ak} {w w':List (List D)} (h:f1 r w=some (r',w')):mi f1 F r w=F r' w':=by unfold mi; rw [h]
theorem B1 {ft:FT} {b:e8} {r r1 r':ak} {w w':List (List D)} {d:D} {ds:List D} (h1:ft d r=some r1) (h2:b r1 w=some (r',w')):iR ft b (d::ds) r w=iR ft b ds r' w':=by
 show ((ft d r).bind fun r1=>(b r1 w).bind fun p=>iR ft b ds p.1 p.2)=_
 rw [h1,Option.bind_some,h2]; rfl
theorem Bu {fi:FI} {ft:FT} {b:e8} {r:ak} {w:List (List D)} {ds:List D} (h:fi r=.ok ds):mH fi ft b r w=iR ft b ds r w:=by unfold mH; rw [h]
theorem BA {i:Nat} {f:FE} {F:ak->List (List D)->Out} {r:ak} {w:List (List D)} (h:f r=.ok (.lst (w.map D.lst))):mw (mz i f) F r=F (r.set i none) w:=by
 unfold mw mz
 rw [h]
 simp only []
 rw [Kk]; rfl
theorem pQ {m h:Nat} (hh:h < m):c6 m (h:Int)=some h:=by
 unfold c6
 rw [if_pos (by omega),if_pos (by omega),Int.toNat_natCast]
theorem DX {jr h:Nat} {fi:FE} {fA:FA} {r:ak} {w w':List (List D)} (h1:fi r=.ok (nD h)) (h2:h < w.length) (h3:fA (r.set jr none) w h=some w'):iu jr fi fA r w=some (r.set jr none,w'):=by
 unfold iu
 rw [h1]
 show (c6 w.length (h:Int)).bind _=_
 rw [pQ h2,Option.bind_some,h3]; rfl
open Classical in
theorem As {i jr k y:Nat} {f fi:FE} {r:ak} {w:List (List D)} {d:D} (h1:f (nk i jr r w k)=.ok d) (h2:fi r=.ok (nD y)) (hc:Cln d) (hy:y < (w.getD k []).length):du i jr f fi r w k=some (w.set k ((w.getD k []).set y d)):=by
 unfold du
 rw [h1,h2]
 show (if Cln d then (c6 (w.getD k []).length (y:Int)).map _ else none)=_
 rw [if_pos hc,pQ hy]; rfl
abbrev MR (S:Nat) (c:Nat->Nat->Nat) (n:Nat):List (List D):=(List.range n).map fun h=>(List.range n).map fun x=>QS S (c h x)
section
variable {S n v:Nat} {c:Nat->Nat->Nat}
theorem lj {h:Nat} (hh:h < n):(MR S c n).getD h []=(List.range n).map fun x=>QS S (c h x):=by
 rw [List.getD_eq_getElem?_getD,List.getElem?_map,List.getElem?_range hh]; rfl
theorem qf {h t:Nat} (hh:h < n) (ht:t < n) (z:Nat):(MR S c n).set h (((MR S c n).getD h []).set t (QS S z))=MR S (Hd.put c h t z) n:=by
 rw [lj hh]
 refine List.ext_getElem? fun g=>?_
 by_cases hg:g < n
 ·have e2:(MR S (Hd.put c h t z) n)[g]? = some ((List.range n).map fun x=>QS S (Hd.put c h t z g x)):=by rw [List.getElem?_map,List.getElem?_range hg]; rfl
  rw [e2]
  by_cases e:h=g
  ·subst e
   rw [List.getElem?_set_self (by simpa using hh)]
   congr 1
   refine List.ext_getElem? fun x=>?_
   by_cases hx:x < n
   ·have e3:((List.range n).map fun x=>QS S (Hd.put c h t z h x))[x]? = some (QS S (Hd.put c h t z h x)):=by rw [List.getElem?_map,List.getElem?_range hx]; rfl
    have e4:Hd.put c h t z h x=if x=t then z else c h x:=by show (if h=h then _ else _)=_; rw [if_pos rfl]
    rw [e3,e4]
    by_cases q:t=x
    ·subst q
     rw [List.getElem?_set_self (by simpa using ht),if_pos rfl]
    ·rw [List.getElem?_set_ne q,if_neg (fun z=>q z.symm),List.getElem?_map,List.getElem?_range hx]; rfl
   ·rw [List.getElem?_eq_none (by simp; omega),List.getElem?_eq_none (by simp; omega)]
  ·rw [List.getElem?_set_ne e,List.getElem?_map,List.getElem?_range hg]
   show some _=some _
   congr 1
   refine List.map_congr_left fun x _=>?_
   show _=QS S (if g=h then _ else c g x)
   rw [if_neg (fun z=>e z.symm)]
 ·rw [List.getElem?_eq_none (by simp; omega),List.getElem?_eq_none (by simp; omega)]
abbrev aB:e8:=(iu 6 (f2 (gv 4) (ci 0) am) (kC (du 3 6 (aA (ae (f2 (gv 6) (f2 (gv 4) (ci 1) am) am) (ae (gv 2) aa)) [] lx) (f2 (gv 4) (ci 1) am)) (kC (du 3 6 (aA (ae (f2 (gv 6) (f2 (gv 5) (ci 1) am) am) (ae (gv 2) aa)) [] li) (f2 (gv 5) (ci 1) am)) lW)))
theorem L5 {a b:Nat} (hS:0 < S) (hS2:S < 2 ^ 40) (ha:a < 2 ^ 40) (hb:b<=a):lx [QS S a,QS S b]=.ok (QS S (a - b)):=by
 have:=Kx (k:=40) (l:=40) (f6 hS hS2 ha) (f6 hS hS2 (by omega:b < 2 ^ 40)) (by omega)
 rw [BO hS] at this
 rw [this]
 show Res.ok (FR (low _ S))=Res.ok (FR (low _ S))
 rw [Int.ofNat_sub hb]
theorem L4 {a b:Nat} (hS:0 < S) (hS2:S < 2 ^ 40) (ha:a < 2 ^ 40) (hb:b < 2 ^ 40):li [QS S a,QS S b]=.ok (QS S (a + b)):=by
 have:=IA (k:=40) (l:=40) (f6 hS hS2 ha) (f6 hS hS2 hb) (by omega)
 rw [nU hS,<-Int.natCast_add] at this
 exact this
theorem ko (z:Nat):Cln (QS S z):=yl _ _
theorem L7 (p:Nat × Nat):am (ay p) (.int 0)=some (nD p.1):=jP (i:=0) rfl
theorem pd (p:Nat × Nat):am (ay p) (.int 1)=some (nD p.2):=jP (i:=1) rfl
theorem Hf (hS:0 < S) (hS2:S < 2 ^ 40) {d0 d1 x6:Option D} {p q:Nat × Nat} (h1:p.1 < n) (h2:p.2 < n) (h3:q.2 < n) (hv:v<=c p.1 p.2) (hb:∀g x,c g x + v < 2 ^ 40) :
  aB [d0,d1,some (QS S v),none,some (ay p),some (ay q),x6] (MR S c n)=some ([d0,d1,some (QS S v),none,some (ay p),some (ay q),none],MR S (Hd.mv v c (p.1,p.2,q.2)) n):=by
 refine DX (h:=p.1) (ai (a:=ay p) (b:=.int 0) rfl rfl (L7 p)) (by simpa using h1) ?_
 show kC _ _ [d0,d1,some (QS S v),none,some (ay p),some (ay q),none] (MR S c n) p.1=_
 have e1:du 3 6 (aA (ae (f2 (gv 6) (f2 (gv 4) (ci 1) am) am) (ae (gv 2) aa)) [] lx) (f2 (gv 4) (ci 1) am) [d0,d1,some (QS S v),none,some (ay p),some (ay q),none] (MR S c n) p.1=some (MR S (Hd.dn v c p.1 p.2) n):=by
  have hb1:=hb p.1 p.2
  refine (As (y:=p.2) (d:=QS S (c p.1 p.2 - v)) (aN (ag (ai (a:=.lst ((MR S c n).getD p.1 [])) (b:=nD p.2) rfl (ai (a:=ay p) (b:=.int 1) rfl rfl (pd p)) (by rw [lj h1]; exact dO h2)) (ag (d:=QS S v) rfl al)) (L5 hS hS2 (by omega) hv)) (ai (a:=ay p) (b:=.int 1) rfl rfl (pd p)) (ko _) (by rw [lj h1]; simpa using h2)).trans ?_
  rw [qf h1 h2]; rfl
 have e2:du 3 6 (aA (ae (f2 (gv 6) (f2 (gv 5) (ci 1) am) am) (ae (gv 2) aa)) [] li) (f2 (gv 5) (ci 1) am) [d0,d1,some (QS S v),none,some (ay p),some (ay q),none] (MR S (Hd.dn v c p.1 p.2) n) p.1=some (MR S (Hd.up v (Hd.dn v c p.1 p.2) p.1 q.2) n):=by
  have hb1:=hb p.1 q.2
  have hb2:=Hd.jk (v:=v) (c:=c) p.1 p.2 p.1 q.2
  refine (As (y:=q.2) (d:=QS S (Hd.dn v c p.1 p.2 p.1 q.2 + v)) (aN (ag (ai (a:=.lst ((MR S (Hd.dn v c p.1 p.2) n).getD p.1 [])) (b:=nD q.2) rfl (ai (a:=ay q) (b:=.int 1) rfl rfl (pd q)) (by rw [lj h1]; exact dO h3)) (ag (d:=QS S v) rfl al)) (L4 hS hS2 (by omega) (by omega))) (ai (a:=ay q) (b:=.int 1) rfl rfl (pd q)) (ko _) (by rw [lj h1]; simpa using h3)).trans ?_
  rw [qf h1 h3]; rfl
 unfold kC
 rw [e1,Option.bind_some]
 show (du 3 6 _ _ _ _ _).bind _=_
 rw [e2]; rfl
abbrev stp (z:(Nat × Nat) × (Nat × Nat)):Hd.Ml:=(z.1.1,z.1.2,z.2.2)
abbrev Dn (z:(Nat × Nat) × (Nat × Nat)):D:=.tup [ay z.1,ay z.2]
theorem Ab {W:Nat->List Nat} (hS:0 < S) (hS2:S < 2 ^ 40) {d0 d1:Option D}:∀(zs:List ((Nat × Nat) × (Nat × Nat))) (c:Nat->Nat->Nat) (x4 x5 x6:Option D),Hd.Ok W n v c (zs.map stp)->(∀z∈zs,z.1.2 < n/\z.2.2 < n)->(∀g x,c g x + zs.length * v < 2 ^ 40) ->
  ∃y4 y5 y6,iR (bT (aK (av 4) (aK (av 5) bQ))) aB (zs.map Dn) [d0,d1,some (QS S v),none,x4,x5,x6] (MR S c n)=some ([d0,d1,some (QS S v),none,y4,y5,y6],MR S (Hd.all v c (zs.map stp)) n)
 | [],c,x4,x5,x6,_,_,_=>⟨x4,x5,x6,rfl⟩
 | z::zs,c,x4,x5,x6,ok,hlt,hb=>by
  rw [List.map_cons] at ok
  rw [List.length_cons] at hb
  obtain ⟨l1,l2⟩:=hlt z List.mem_cons_self
  have l0:=ok.lt (stp z) List.mem_cons_self
  obtain ⟨y4,y5,y6,ih⟩:=Ab hS hS2 (d0:=d0) (d1:=d1) zs (Hd.mv v c (stp z)) (some (ay z.1)) (some (ay z.2)) none ok.next (fun w hw=>hlt w (List.mem_cons_of_mem _ hw)) (fun g x=>by
   have h1:=Hd.kT (v:=v) (c:=c) (stp z) g x
   have h2:=hb g x
   rw [Nat.add_mul,Nat.one_mul] at h2
   omega)
  refine ⟨y4,y5,y6,?_⟩
  rw [List.map_cons,List.map_cons]
  refine (B1 (r1:=[d0,d1,some (QS S v),none,some (ay z.1),some (ay z.2),x6]) rfl (Hf hS hS2 l0 l1 l2 (ok.ge (stp z) List.mem_cons_self) fun g x=>?_)).trans ih
  have h2:=hb g x
  rw [Nat.add_mul,Nat.one_mul] at h2
  omega
theorem Ax {r:ak} (hn7:n<=7) (h:dc r 0=.ok (TQ S c n)):bU 1 [] (aC bp (gv 0)) (av 0) (fun _=>Res.ok true) (fC (ae (gv 0) aa) jx) r=.ok (.lst ((MR S c n).map D.lst)):=by
 rw [List.map_map]
 refine fO (l:=List.range n) (fun h=>TF ((List.range n).map fun x=>low ((c h x:Nat):Int) S)) (fun h=>.lst ((List.range n).map fun x=>QS S (c h x))) (dg (d:=TQ S c n) h rfl) (by simp; omega) fun h _=>⟨[some (TF ((List.range n).map fun x=>low ((c h x:Nat):Int) S))],rfl,bD (ag (d:=TF ((List.range n).map fun x=>low ((c h x:Nat):Int) S)) rfl al) ?_⟩
 show some (D.lst (List.map FR _))=_
 rw [List.map_map]; rfl
theorem A5 {r:ak} (hn7:n<=7) (h:dc r 3=.ok (.lst ((MR S c n).map D.lst))):fC (ae (bU 1 [] (aC bp (gv 3)) (av 0) (fun _=>Res.ok true) (fC (ae (gv 0) aa) tupD)) aa) tupD r=.ok (TQ S c n):=by
 refine bD (ag (fO (l:=List.range n) (fun h=>.lst ((List.range n).map fun x=>QS S (c h x))) (fun h=>TF ((List.range n).map fun x=>low ((c h x:Nat):Int) S)) (dg (d:=.lst ((MR S c n).map D.lst)) h (by
  show some (List.map D.lst _)=_
  rw [List.map_map]; rfl)) (by simp; omega) fun h _=>⟨[some (.lst ((List.range n).map fun x=>QS S (c h x)))],rfl,bD (ag (d:=.lst ((List.range n).map fun x=>QS S (c h x))) rfl al) (by
   rw [e_tupL]
   show _=some (D.tup (List.map FR _))
   rw [List.map_map]; rfl)⟩) al) rfl
theorem Kt {W:Nat->List Nat} (hS:0 < S) (hS2:S < 2 ^ 40) (hn7:n<=7) {ring:List (Nat × Nat)} (h2:2<=ring.length) (hl:ring.length<=60) (hlt:∀p∈ring,p.2 < n) (ok:Hd.Ok W n v c ((ring.zip (br ring)).map stp)) (hb:∀g x,c g x + ring.length * v < 2 ^ 40) :
  qu [TQ S c n,.tup (ring.map ay),QS S v]=.ok (TQ S (Hd.all v c ((ring.zip (br ring)).map stp)) n):=by
 have hzl:(ring.zip (br ring)).length=ring.length:=by rw [List.length_zip,jX,Nat.min_self]
 have hmem:∀p∈br ring,p∈ring:=fun p hp=>by
  rcases List.mem_append.mp hp with z | z
  ·exact List.mem_of_mem_drop z
  ·exact List.mem_of_mem_take z
 obtain ⟨y4,y5,y6,e⟩:=Ab hS hS2 (d0:=some (TQ S c n)) (d1:=some (.tup (ring.map ay))) (ring.zip (br ring)) c none none none ok (fun z hz=>⟨hlt _ (List.of_mem_zip hz).1,hlt _ (hmem _ (List.of_mem_zip hz).2)⟩) (by rw [hzl]; exact hb)
 refine bY (B:=uB) (n:=7) ?_
 unfold uB
 refine (BA (w:=MR S c n) (Ax hn7 rfl)).trans ?_
 have hbh:=K9 (l:=ring.map ay) (by rw [List.length_map]; exact h2) (by rw [List.length_map]; omega)
 rw [nK] at hbh
 have hz:=sU (fa:=gv 1) (fb:=aA (ae (gv 1) aa) [] j5) (r:=[some (TQ S c n),some (.tup (ring.map ay)),some (QS S v),none,none,none,none]) (d:=.tup (ring.map ay)) rfl (aN (ag (d:=.tup (ring.map ay)) rfl al) hbh) rfl rfl
 rw [zy (γ:=Nat) (δ:=Nat)] at hz
 refine (Ag ((Bu hz).trans e)).trans ?_
 show (Mg (au _ _) ar) [some (TQ S c n),some (.tup (ring.map ay)),some (QS S v),some (.lst ((MR S (Hd.all v c ((ring.zip (br ring)).map stp)) n).map D.lst)),y4,y5,y6]=_
 exact bK (bR (A5 hn7 rfl))
end
end Law
end
section
set_option exponentiation.threshold 3000
namespace Law
open PySem PyProof.Rows L2 DL Fq
structure Tc (S n:Nat) (c:Nat->Nat->Nat):Prop where
 pos:0 < S
 lt:S<=2000000
 col:∀x,x < n->((List.range n).map fun h=>c h x).sum=S
 out:∀h x,¬ (h < n/\x < n)->c h x=0
section
variable {rz:List (List Nat)} {n S v:Nat} {c:Nat->Nat->Nat}
theorem Tc.le (t:Tc S n c) (h x:Nat):c h x<=S:=by
 by_cases z:h < n/\x < n
 ·rw [<-t.col x z.2]
  exact td (f:=fun h=>c h x) (List.mem_range.mpr z.1)
 ·rw [t.out h x z]; omega
theorem Tc.bd (t:Tc S n c) (h x:Nat):Bd 40 (low ((c h x:Nat):Int) S):=by
 have h1:=t.le h x
 have h2:=t.lt
 have:(2000000:Nat) < 2 ^ 40:=by decide
 exact f6 t.pos (by omega) (by omega)
abbrev tc (S:Nat) (c:Nat->Nat->Nat):Nat->Nat->Int × Nat:=fun h x=>low ((c h x:Nat):Int) S
theorem Tc.tok (t:Tc S n c):Tok (tc S c) n:=fun h _ x _=>(t.bd h x).mono (by omega)
theorem Bv {z:Nat} (hS:0 < S) (h:0 < (low ((z:Nat):Int) S).1):0 < z:=by
 apply Nat.pos_of_ne_zero
 intro e
 rw [e,su hS] at h
 exact absurd h (by decide)
theorem Ln (t:Tc S n c) (hn7:n<=7):rc [TQ S c n,nD n,nD n]=.ok (.bl true):=by
 refine bY (B:=wP) (n:=4) ?_
 unfold wP
 have hne:=lg n n
 rw [decide_eq_true rfl] at hne
 refine (aq ((bc ?_).trans (e_skip _))).trans ?_
 ·rw [cZ (en (b:=true) (cE (iE (a:=TQ S c n) (d:=.bl true) rfl rfl) rfl))]
  exact cr (ai (a:=nD n) (b:=nD n) (bD (ag (d:=TQ S c n) rfl al) (by rw [j3,List.length_range])) rfl hne)
 have lp:∀(l:List Nat) (x:Option D),∃y,aE (av 3) C4 (l.map fun h=>TF ((List.range n).map (tc S c h))) [some (TQ S c n),some (nD n),some (nD n),x]=.nx [some (TQ S c n),some (nD n),some (nD n),y]:=by
  intro l
  induction l with
  | nil=>exact fun x=>⟨x,dj⟩
  | cons h l ih=>
   intro x
   obtain ⟨y,hy⟩:=ih (some (TF ((List.range n).map (tc S c h))))
   refine ⟨y,?_⟩
   rw [List.map_cons,<-hy]
   refine cP (r1:=[some (TQ S c n),some (nD n),some (nD n),some (TF ((List.range n).map (tc S c h)))]) rfl ?_
   refine aq ((bc ?_).trans (e_skip _))
   rw [cZ (en (b:=true) (cE (iE (a:=TF ((List.range n).map (tc S c h))) (d:=.bl true) rfl rfl) rfl))]
   rw [cZ (cr (ai (a:=nD n) (b:=nD n) (bD (ag (d:=TF ((List.range n).map (tc S c h))) rfl al) (by rw [j3,List.length_map,List.length_range])) rfl hne))]
   refine en (b:=true) (cE (d:=.bl true) (bD (ag (fO (l:=(List.range n).map (tc S c h)) FR (fun _=>.bl true) (dg (d:=TF ((List.range n).map (tc S c h))) rfl rfl) (by simp; omega) fun q hq=>⟨[some (FR q)],rfl,?_⟩) al) ?_) rfl)
   ·obtain ⟨x,hx,rfl⟩:=List.mem_map.mp hq
    exact aN (ag (d:=FR (tc S c h x)) rfl al) (Iy (t.bd h x) (tV _ t.pos) (by omega))
   ·have:=Do (fun _:Int × Nat=>true) ((List.range n).map (tc S c h))
    rw [List.all_eq_true.mpr (fun _ _=>rfl)] at this
    exact this
 obtain ⟨y,hy⟩:=lp (List.range n) none
 refine (aq ((dk (dg (d:=TQ S c n) rfl rfl)).trans hy)).trans ?_
 exact bK (bR (d:=.bl true) rfl)
end
end Law
end
section
set_option exponentiation.threshold 3000
namespace Law
open PySem PyProof.Rows L2 DL Fq
section
variable {rz:List (List Nat)} {n S v:Nat} {c:Nat->Nat->Nat}
def cut (n:Nat) (c:Nat->Nat->Nat):Nat->Nat->Nat:=fun h x=>if h < n/\x < n then c h x else 0
theorem sD:TQ S c n=TQ S (cut n c) n:=by
 show D.tup _=D.tup _
 congr 1
 refine List.map_congr_left fun h hh=>?_
 show D.tup _=D.tup _
 congr 2
 refine List.map_congr_left fun x hx=>?_
 have:cut n c h x=c h x:=if_pos ⟨List.mem_range.mp hh,List.mem_range.mp hx⟩
 show low ((c h x:Nat):Int) S=low ((cut n c h x:Nat):Int) S
 rw [this]
theorem sE (hS:0 < S) (h4:S<=2000000) (col:∀x,x < n->((List.range n).map fun h=>c h x).sum=S):Tc S n (cut n c):=⟨hS,h4,fun x hx=>by
 rw [<-col x hx]
 congr 1
 refine List.map_congr_left fun h hh=>?_
 exact if_pos ⟨List.mem_range.mp hh,hx⟩,fun h x z=>if_neg z⟩
theorem Kr {f:Nat × Nat->Nat} {l:List Nat}:((((l.zip (br l)).map fun z=>(f z,z.1)).zip (br ((l.zip (br l)).map fun z=>(f z,z.1)))).map stp)=(l.zip (br l)).map fun z=>(f z,z.1,z.2):=by
 obtain ⟨h1,h2⟩:=AW (l:=l) (r:=br l) (jX l).symm
 generalize hz:l.zip (br l)=zs at *
 rw [nK,List.zip_map,List.map_map]
 have e:∀zs ys:List (Nat × Nat),(zs.zip ys).map (stp ∘ Prod.map (fun z=>(f z,z.1)) fun z=>(f z,z.1))=List.zipWith (fun a t=>(f a,a.1,t)) zs (ys.map (·.1)):=by
  intro zs
  induction zs with
  | nil=>exact fun _=>rfl
  | cons a zs ih=>
   intro ys
   cases ys with
   | nil=>rfl
   | cons b ys=>rw [List.zip_cons_cons,List.map_cons,List.map_cons,List.zipWith_cons_cons,ih]; rfl
 rw [e,<-nK,h1,<-h2,List.zipWith_map_right]
 have e2:∀zs:List (Nat × Nat),List.zipWith (fun (a:Nat × Nat) (b:Nat × Nat)=>(f a,a.1,b.2)) zs zs=zs.map fun z=>(f z,z.1,z.2):=by
  intro zs
  induction zs with
  | nil=>rfl
  | cons a zs ih=>rw [List.zipWith_cons_cons,List.map_cons,ih]
 exact e2 zs
theorem Fy (hS:0 < S):low ((S:Nat):Int) S=(1,1):=by rw [<-ph 1]; exact lE hS (by decide) (by simp)
end
end Law
end
section
set_option exponentiation.threshold 3000
namespace Law
open PySem PyProof.Rows L2 DL Fq
structure Gd (rz:List (List Nat)) (n:Nat) (c:Nat->Nat->Nat) (ring:List (Nat × Nat)):Prop where
 l2:2<=ring.length
 lt:∀p∈ring,p.1 < n/\p.2 < n
 nd:(ring.map (·.2)).Nodup
 pos:∀p∈ring,0 < c p.1 p.2
 up:∀z∈ring.zip (br ring),(Wr rz z.1.1).idxOf z.2.2 < (Wr rz z.1.1).idxOf z.1.2
abbrev fZ (ring:List (Nat × Nat)):List Hd.Ml:=(ring.zip (br ring)).map stp
section
variable {rz:List (List Nat)} {n S v:Nat} {c:Nat->Nat->Nat} {ring:List (Nat × Nat)}
theorem Gd.len (g:Gd rz n c ring):ring.length<=n:=by
 have:=Rg.iQ (m:=List.range n) g.nd fun x hx=>by
  obtain ⟨p,hp,rfl⟩:=List.mem_map.mp hx
  exact List.mem_range.mpr (g.lt p hp).2
 simpa using this
theorem zf (ring:List (Nat × Nat)):(ring.zip (br ring)).map (·.1)=ring/\(ring.zip (br ring)).map (·.2)=br ring:=⟨List.map_fst_zip (by rw [jX]; omega),List.map_snd_zip (by rw [jX]; omega)⟩
theorem tY {p:Nat × Nat} (h:p∈br ring):p∈ring:=by
 rcases List.mem_append.mp h with z | z
 ·exact List.mem_of_mem_drop z
 ·exact List.mem_of_mem_take z
theorem Gd.ok (g:Gd rz n c ring) (hv:∀p∈ring,v<=c p.1 p.2):Hd.Ok (Wr rz) n v c (fZ ring):=by
 refine ⟨fun s hs=>?_,fun s hs=>?_,?_,fun s hs=>?_⟩
 ·obtain ⟨z,hz,rfl⟩:=List.mem_map.mp hs
  exact (g.lt z.1 (List.of_mem_zip hz).1).1
 ·obtain ⟨z,hz,rfl⟩:=List.mem_map.mp hs
  exact g.up z hz
 ·have:(fZ ring).map (fun s=>s.2.1)=ring.map (·.2):=by
   conv=>rhs; rw [<-(zf ring).1]
   rw [List.map_map,List.map_map]; rfl
  rw [this]; exact g.nd
 ·obtain ⟨z,hz,rfl⟩:=List.mem_map.mp hs
  exact hv z.1 (List.of_mem_zip hz).1
theorem Gd.col (t:Tc S n c) (ok:Hd.Ok (Wr rz) n v c (fZ ring)):∀x,x < n->((List.range n).map fun h=>Hd.all v c (fZ ring) h x).sum=S:=fun x hx=>by
 have h:=Hd.gZ x _ c ok
 have e1:(fZ ring).map (fun s=>s.2.1)=ring.map (·.2):=by
  conv=>rhs; rw [<-(zf ring).1]
  rw [List.map_map,List.map_map]; rfl
 have e2:(fZ ring).map (fun s=>s.2.2)=br (ring.map (·.2)):=by
  rw [nK]
  conv=>rhs; rw [<-(zf ring).2]
  rw [List.map_map,List.map_map]; rfl
 rw [e1,e2,(Ix _).count_eq,t.col x hx] at h
 omega
theorem A2 {i a b x y:Nat} {f:FE} {r:ak} {w:List (List D)} {d:D} (h1:r[a]? = some (some (nD x))) (h2:r[b]? = some (some (nD y))) (h3:f (jg i r w)=.ok d) (hc:Cln d) (hx:x < w.length) (hy:y < (w.getD x []).length):jR i a b f r w=some (r,w.set x ((w.getD x []).set y d)):=by
 have hw:w[x]? = some (w.getD x []):=by rw [List.getD_eq_getElem?_getD,List.getElem?_eq_getElem hx]; rfl
 have hr:lu w (x:Int) (y:Int) d=some (w.set x ((w.getD x []).set y d)):=by
  unfold lu
  rw [pQ hx,Option.bind_some,hw,Option.bind_some,pQ hy]; rfl
 unfold jR
 rw [h1,h2,h3]
 simp only []
 rw [if_pos hc,hr]; rfl
theorem Ea {s1:FS} {r r':ak} {w:List (List D)} (h:s1 r=.nx r'):iq s1 r w=some (r',w):=by unfold iq; rw [h]
theorem tx {f1 f2:e8} {r r':ak} {w w':List (List D)} (h:f1 r w=some (r',w')):jA f1 f2 r w=f2 r' w':=by unfold jA; rw [h]; rfl
theorem xU {a b:Nat} (hS:0 < S) (hS2:S < 2 ^ 40) (ha:a < 2 ^ 40) (hb:b < 2 ^ 40):ib [QS S a,QS S b]=.ok (QS S (a + b)):=by
 have:=qI (k:=40) (l:=40) (f6 hS hS2 ha) (f6 hS hS2 hb) (by omega)
 rw [nU hS,<-Int.natCast_add] at this
 exact this
theorem xV {a b:Nat} (hS:0 < S) (hS2:S < 2 ^ 40) (ha:a < 2 ^ 40) (hb:b<=a):ib [QS S a,.tup [.int (-(low ((b:Nat):Int) S).1),nD (low ((b:Nat):Int) S).2]]=.ok (QS S (a - b)):=by
 have bb:Bd 40 (low ((b:Nat):Int) S):=f6 hS hS2 (by omega)
 have:=qI (k:=40) (l:=40) (a:=low ((a:Nat):Int) S) (b:=(-(low ((b:Nat):Int) S).1,(low ((b:Nat):Int) S).2)) (f6 hS hS2 ha) ⟨bb.pos,bb.bot,by rw [Int.natAbs_neg]; exact bb.top⟩ (by omega)
 refine this.trans ?_
 have e:cH (low ((a:Nat):Int) S) (-(low ((b:Nat):Int) S).1,(low ((b:Nat):Int) S).2)=qc (low ((a:Nat):Int) S) (low ((b:Nat):Int) S):=by
  unfold cH qc
  rw [Int.neg_mul,<-Int.sub_eq_add_neg]
 rw [e,BO hS]
 show Res.ok (FR (low _ S))=Res.ok (FR (low _ S))
 rw [Int.ofNat_sub hb]
abbrev lB:e8:=(jA (iq (ao i8 7 (f2 (f2 (gv 1) (f2 (f2 (gv 4) (ci 1) addA) (fC (ae (gv 1) aa) lenD) ba) am) (ci 1) am))) (jA (jR 3 5 6 (aA (ae (f2 (f2 (gv 3) (gv 5) am) (gv 6) am) (ae (c0 (ae (f1 (f2 (gv 2) (ci 0) am) jf) (ae (f2 (gv 2) (ci 1) am) aa))) aa)) [] ib)) (jA (jR 3 5 7 (aA (ae (f2 (f2 (gv 3) (gv 5) am) (gv 7) am) (ae (gv 2) aa)) [] ib)) (fun r w=>some (r,w)))))
theorem AA {h x:Nat} (hh:h < n) (hx:x < n):am (.lst ((MR S c n).map D.lst)) (nD h)=some (.lst ((List.range n).map fun x=>QS S (c h x)))/\am (.lst ((List.range n).map fun x=>QS S (c h x))) (nD x)=some (QS S (c h x)):=
 ⟨iS (by rw [List.getElem?_map,List.getElem?_map,List.getElem?_range hh]; rfl),dO hx⟩
theorem Ay {α:Type} {l:List α} {k:Nat} {b:α} (h:(br l)[k]? = some b):l[(k + 1) % l.length]? = some b:=by
 rcases rt1_at h with q | ⟨q1,q2⟩
 ·rw [Nat.mod_eq_of_lt (List.getElem?_eq_some_iff.mp q).1]; exact q
 ·rw [q1,Nat.mod_self]; exact q2
theorem Hi (hS:0 < S) (hS2:S < 2 ^ 40) {d0 x7:Option D} {k:Nat} {p q:Nat × Nat} (hr:ring.length<=60) (hq:(br ring)[k]? = some q) (h1:p.1 < n) (h2:p.2 < n) (h3:q.2 < n) (hv:v<=c p.1 p.2) (hb:∀g x,c g x + v < 2 ^ 40) :
  lB [d0,some (.tup (ring.map ay)),some (QS S v),none,some (nD k),some (nD p.1),some (nD p.2),x7] (MR S c n)=some ([d0,some (.tup (ring.map ay)),some (QS S v),none,some (nD k),some (nD p.1),some (nD p.2),some (nD q.2)],MR S (Hd.mv v c (p.1,p.2,q.2)) n):=by
 have hlen:0 < ring.length:=by
  have:k < (br ring).length:=(List.getElem?_eq_some_iff.mp hq).1
  rw [jX] at this; omega
 refine (tx (Ea (aX (d:=nD q.2) (ai (a:=ay q) (b:=.int 1) (ai (a:=.tup (ring.map ay)) (b:=nD ((k + 1) % ring.length)) rfl (ai (a:=nD (k + 1)) (b:=nD ring.length) (ai (a:=nD k) (b:=nD 1) rfl rfl (fj k 1)) (bD (ag (d:=.tup (ring.map ay)) rfl al) (j3 _ _)) (iH hlen)) (jP (by rw [List.getElem?_map,Ay hq]; rfl))) rfl (pd q))))).trans ?_
 have hb1:=hb p.1 p.2
 obtain ⟨i1,i2⟩:=AA (S:=S) (c:=c) h1 h2
 refine (tx (A2 (x:=p.1) (y:=p.2) (d:=QS S (c p.1 p.2 - v)) rfl rfl (aN (ag (ai (b:=nD p.2) (ai (a:=.lst ((MR S c n).map D.lst)) (b:=nD p.1) rfl rfl i1) rfl i2) (ag (hV (ag (d:=.int (-(low ((v:Nat):Int) S).1)) (iE (ai (a:=QS S v) (b:=.int 0) rfl rfl (fN _)) rfl) (ag (ai (a:=QS S v) (b:=.int 1) rfl rfl (gl _)) al)) (by simp)) al)) (xV hS hS2 (by omega) hv)) (ko _) (by simpa using h1) (by rw [lj h1]; simpa using h2))).trans ?_
 rw [qf h1 h2]
 have hb3:=hb p.1 q.2
 have hb2:=Hd.jk (v:=v) (c:=c) p.1 p.2 p.1 q.2
 obtain ⟨j1,j2⟩:=AA (S:=S) (c:=Hd.dn v c p.1 p.2) h1 h3
 refine (tx (A2 (w:=MR S (Hd.dn v c p.1 p.2) n) (x:=p.1) (y:=q.2) (d:=QS S (Hd.dn v c p.1 p.2 p.1 q.2 + v)) rfl rfl (aN (ag (ai (b:=nD q.2) (ai (a:=.lst ((MR S (Hd.dn v c p.1 p.2) n).map D.lst)) (b:=nD p.1) rfl rfl j1) rfl j2) (ag (d:=QS S v) rfl al)) (xU hS hS2 (by omega) (by omega))) (ko _) (by simpa using h1) (by rw [lj h1]; simpa using h3))).trans ?_
 rw [qf h1 h3]; rfl
theorem AB {W:Nat->List Nat} (hS:0 < S) (hS2:S < 2 ^ 40) {d0:Option D} (hr:ring.length<=60) (hlt:∀p∈ring,p.2 < n):∀(zs pre:List ((Nat × Nat) × (Nat × Nat))) (c:Nat->Nat->Nat) (x4 x5 x6 x7:Option D),pre++zs=ring.zip (br ring)->Hd.Ok W n v c (zs.map stp)->(∀g x,c g x + zs.length * v < 2 ^ 40) ->
  ∃y4 y5 y6 y7,iR (bT (aK (av 4) (aK (bT (aK (av 5) (aK (av 6) bQ))) bQ))) lB (bh pre.length (zs.map fun z=>ay z.1)) [d0,some (.tup (ring.map ay)),some (QS S v),none,x4,x5,x6,x7] (MR S c n)=some ([d0,some (.tup (ring.map ay)),some (QS S v),none,y4,y5,y6,y7],MR S (Hd.all v c (zs.map stp)) n)
 | [],pre,c,x4,x5,x6,x7,_,_,_=>⟨x4,x5,x6,x7,rfl⟩
 | z::zs,pre,c,x4,x5,x6,x7,e,ok,hb=>by
  rw [List.map_cons] at ok
  rw [List.length_cons] at hb
  have hz:(ring.zip (br ring))[pre.length]? = some z:=by rw [<-e,List.getElem?_append_right (Nat.le_refl _),Nat.sub_self]; rfl
  obtain ⟨z1,z2⟩:=List.getElem?_zip_eq_some.mp hz
  have l0:=ok.lt (stp z) List.mem_cons_self
  obtain ⟨y4,y5,y6,y7,ih⟩:=AB hS hS2 (d0:=d0) hr hlt zs (pre++[z]) (Hd.mv v c (stp z)) (some (nD pre.length)) (some (nD z.1.1)) (some (nD z.1.2)) (some (nD z.2.2)) (by rw [<-e]; simp) ok.next (fun g x=>by
   have h1:=Hd.kT (v:=v) (c:=c) (stp z) g x
   have h2:=hb g x
   rw [Nat.add_mul,Nat.one_mul] at h2
   omega)
  refine ⟨y4,y5,y6,y7,?_⟩
  rw [List.length_append,List.length_singleton] at ih
  rw [List.map_cons,List.map_cons,show bh pre.length (ay z.1::zs.map fun z=>ay z.1)=D.tup [nD pre.length,ay z.1]::bh (pre.length + 1) (zs.map fun z=>ay z.1) from rfl]
  refine (B1 (r1:=[d0,some (.tup (ring.map ay)),some (QS S v),none,some (nD pre.length),some (nD z.1.1),some (nD z.1.2),x7]) rfl (Hi hS hS2 hr z2 l0 (hlt _ (List.mem_of_getElem? z1)) (hlt _ (tY (List.mem_of_getElem? z2))) (ok.ge (stp z) List.mem_cons_self) fun g x=>?_)).trans ih
  have h2:=hb g x
  rw [Nat.add_mul,Nat.one_mul] at h2
  omega
theorem KM {W:Nat->List Nat} (hS:0 < S) (hS2:S < 2 ^ 40) (hn7:n<=7) (hl:ring.length<=60) (hlt:∀p∈ring,p.2 < n) (ok:Hd.Ok W n v c (fZ ring)) (hb:∀g x,c g x + ring.length * v < 2 ^ 40) :
  qU [TQ S c n,.tup (ring.map ay),QS S v]=.ok (TQ S (Hd.all v c (fZ ring)) n):=by
 have hzl:(ring.zip (br ring)).length=ring.length:=by rw [List.length_zip,jX,Nat.min_self]
 obtain ⟨y4,y5,y6,y7,e⟩:=AB hS hS2 (d0:=some (TQ S c n)) hl hlt (ring.zip (br ring)) [] c none none none none rfl ok (by rw [hzl]; exact hb)
 have em:((ring.zip (br ring)).map fun z=>ay z.1)=ring.map ay:=by
  conv=>rhs; rw [<-(zf ring).1]
  rw [List.map_map]; rfl
 rw [em] at e
 refine bY (B:=wA) (n:=8) ?_
 unfold wA
 refine (BA (w:=MR S c n) (Ax hn7 rfl)).trans ?_
 refine (Ag ((Bu (mC (d:=.tup (ring.map ay)) rfl rfl)).trans e)).trans ?_
 show (Mg (au _ _) ar) [some (TQ S c n),some (.tup (ring.map ay)),some (QS S v),some (.lst ((MR S (Hd.all v c (fZ ring)) n).map D.lst)),y4,y5,y6,y7]=_
 exact bK (bR (A5 hn7 rfl))
end
end Law
end
section
set_option exponentiation.threshold 3000
namespace Law
open PySem PyProof.Rows L2 DL Fq
section
variable {rz:List (List Nat)} {n S v:Nat} {c c':Nat->Nat->Nat} {ring:List (Nat × Nat)}
theorem AX {f f':Nat->Nat} {row:List Nat} (hS:0 < S) (hS2:S < 2 ^ 40) (hr:∀t∈row,t < n) (hl:row.length<=7) (h1:∀t∈row,f t < 2 ^ 40) (h2:∀t∈row,f' t < 2 ^ 40) :
  ∃r:Bool,mT [TN row,TF ((List.range n).map fun x=>low ((f x:Nat):Int) S),TF ((List.range n).map fun x=>low ((f' x:Nat):Int) S)]=.ok (.bl r)/\(r=true↔∀k,((row.take k).map f').sum<=((row.take k).map f).sum):=by
 have q1:∀{f:Nat->Nat},∀t∈row,bn ((List.range n).map fun x=>low ((f x:Nat):Int) S) t=low ((f t:Nat):Int) S:=fun t ht=>xR (hr t ht)
 refine ⟨_,KN (l:=40) (fun t ht=>by simpa using hr t ht) (fun t ht=>by simpa using hr t ht) (fun t ht=>by rw [q1 t ht]; exact f6 hS hS2 (h1 t ht)) (fun t ht=>by rw [q1 t ht]; exact f6 hS hS2 (h2 t ht)) (by omega) (by omega),?_⟩
 rw [<-su hS]
 constructor
 ·intro h k
  have:=BE hS hS row 0 0 (fun t ht=>⟨q1 (f:=f) t ht,q1 (f:=f') t ht⟩) (by omega) (by simpa using h) k
  have:=Nat.le_of_mul_le_mul_right this hS
  omega
 ·intro h
  have:nF (dX (bn ((List.range n).map fun x=>low ((f x:Nat):Int) S)) (low ((0:Nat):Int) S) row) (dX (bn ((List.range n).map fun x=>low ((f' x:Nat):Int) S)) (low ((0:Nat):Int) S) row)=false:=
   Bi hS (ca:=f) (cb:=f') row _ _ 0 0 (W.low hS) (W.low hS) (fun x hx=>by rw [q1 x hx]; exact W.low hS) (fun x hx=>by rw [q1 x hx]; exact W.low hS) fun k=>by simpa using h k
  rw [this]; rfl
theorem Ai (R:Sq rz n) (t:Tc S n c) (hc':∀h x,h < n->x < n->c' h x<=S) (hp:∀h,h < n->∀k,(((Wr rz h).take k).map (c h)).sum<=(((Wr rz h).take k).map (c' h)).sum) (hm:∀p∈ring,∃k,(((Wr rz p.1).take k).map (c p.1)).sum < (((Wr rz p.1).take k).map (c' p.1)).sum) {d2:D}:∀(l:List Nat) (x5 x6:Option D),(∀h∈l,h < n) ->
  ∃y5 y6,aE (bT (aK (av 5) (aK (av 6) bQ))) CU (l.map fun h=>D.tup [nD h,TN (Wr rz h)]) [some (WD rz),some (TQ S c n),some d2,some (TQ S c' n),some (LN (ring.map (·.1))),x5,x6]=.nx [some (WD rz),some (TQ S c n),some d2,some (TQ S c' n),some (LN (ring.map (·.1))),y5,y6]
 | [],x5,x6,_=>⟨x5,x6,dj⟩
 | h::l,x5,x6,hl=>by
  have hh:=hl h List.mem_cons_self
  obtain ⟨y5,y6,ih⟩:=Ai R t hc' hp hm (d2:=d2) l (some (nD h)) (some (TN (Wr rz h))) fun z hz=>hl z (List.mem_cons_of_mem _ hz)
  refine ⟨y5,y6,?_⟩
  rw [List.map_cons,<-ih]
  refine cP (r1:=[some (WD rz),some (TQ S c n),some d2,some (TQ S c' n),some (LN (ring.map (·.1))),some (nD h),some (TN (Wr rz h))]) rfl ?_
  have b4:=t.lt
  have b5:(2000000:Nat) < 2 ^ 40:=by decide
  have hlt:∀t∈Wr rz h,t < n:=fun t ht=>List.mem_range.mp ((R.row hh).mem_iff.mp ht)
  have hlen:(Wr rz h).length<=7:=by rw [(R.row hh).length_eq,List.length_range]; exact R.n7
  have v1:∀x∈Wr rz h,c' h x < 2 ^ 40:=fun x hx=>by have:=hc' h x hh (hlt x hx); omega
  have v2:∀x∈Wr rz h,c h x < 2 ^ 40:=fun x hx=>by have:=t.le h x; omega
  obtain ⟨r0,hnl,i0⟩:=AX (n:=n) (row:=Wr rz h) (f:=c' h) (f':=c h) t.pos (by omega) hlt hlen v1 v2
  rw [i0.mpr (hp h hh)] at hnl
  refine (aq ((bc (en (b:=true) (cE (aN (ag (d:=TN (Wr rz h)) rfl (ag (ai (a:=TQ S c' n) (b:=nD h) rfl rfl (jw hh)) (ag (ai (a:=TQ S c n) (b:=nD h) rfl rfl (jw hh)) al))) hnl) rfl))).trans (e_skip _))).trans ?_
  refine aq ((bc ?_).trans (e_skip _))
  have hin:=sm (ring.map (·.1)) h
  by_cases q:h∈ring.map (·.1)
  ·rw [decide_eq_true q] at hin
   rw [ni (cr (ai (a:=nD h) (b:=LN (ring.map (·.1))) rfl rfl hin))]
   obtain ⟨r,e1,e2⟩:=AX (n:=n) (row:=Wr rz h) (f:=c h) (f':=c' h) t.pos (by omega) hlt hlen v2 v1
   cases r with
   | false=>exact cE (aN (ag (d:=TN (Wr rz h)) rfl (ag (ai (a:=TQ S c n) (b:=nD h) rfl rfl (jw hh)) (ag (ai (a:=TQ S c' n) (b:=nD h) rfl rfl (jw hh)) al))) e1) rfl
   | true=>
    obtain ⟨p,hpm,rfl⟩:=List.mem_map.mp q
    obtain ⟨k,hk⟩:=hm p hpm
    have:=e2.mp rfl k
    omega
  ·rw [decide_eq_false q] at hin
   exact pJ (cr (ai (a:=nD h) (b:=LN (ring.map (·.1))) rfl rfl hin))
theorem La (R:Sq rz n) (t:Tc S n c) (hr:ring.length<=60) (hc':∀h x,h < n->x < n->c' h x<=S) (hp:∀h,h < n->∀k,(((Wr rz h).take k).map (c h)).sum<=(((Wr rz h).take k).map (c' h)).sum) (hm:∀p∈ring,∃k,(((Wr rz p.1).take k).map (c p.1)).sum < (((Wr rz p.1).take k).map (c' p.1)).sum) :
  rj [WD rz,TQ S c n,.tup (ring.map ay),TQ S c' n]=.ok (.bl true):=by
 obtain ⟨y5,y6,e⟩:=Ai R t hc' hp hm (d2:=.tup (ring.map ay)) (List.range n) none none fun h hh=>List.mem_range.mp hh
 refine bY (B:=wX) (n:=7) ?_
 unfold wX
 have hcomp:=fO (nl:=2) (cap:=[]) (fi:=aC bp (gv 2)) (ft:=bT (aK (av 0) (aK (av 1) bQ))) (fe:=gv 0) (r:=[some (WD rz),some (TQ S c n),some (.tup (ring.map ay)),some (TQ S c' n),none,none,none]) (l:=ring) ay (fun p=>nD p.1) (dg (d:=.tup (ring.map ay)) rfl rfl) (by omega) fun p _=>⟨[some (nD p.1),some (nD p.2)],rfl,rfl⟩
 have em:D.lst (ring.map fun p=>nD p.1)=LN (ring.map (·.1)):=by
  show _=D.lst (List.map nD _)
  rw [List.map_map]; rfl
 rw [em] at hcomp
 refine (aq (aX (d:=LN (ring.map (·.1))) hcomp)).trans ?_
 refine (aq ((dk (by rw [<-Bn R]; exact mC (d:=WD rz) rfl rfl)).trans e)).trans ?_
 exact bK (bR (d:=.bl true) rfl)
theorem Tc.scale (t:Tc S n c) {k:Nat} (hk:0 < k) (h:S * k<=2000000):Tc (S * k) n fun h x=>c h x * k:=
 ⟨Nat.mul_pos t.pos hk,h,fun x hx=>by rw [Et.gP k (fun h=>c h x),t.col x hx],fun a x z=>by rw [t.out a x z,Nat.zero_mul]⟩
theorem HJ {k:Nat} (hS:0 < S) (hk:0 < k):TQ S c n=TQ (S * k) (fun h x=>c h x * k) n:=by
 show D.tup _=D.tup _
 congr 1
 refine List.map_congr_left fun h _=>?_
 show D.tup _=D.tup _
 congr 2
 refine List.map_congr_left fun x _=>?_
 show low ((c h x:Nat):Int) S=low ((c h x * k:Nat):Int) (S * k)
 exact zP hS (Nat.mul_pos hS hk) (by rw [Nat.mul_assoc,Nat.mul_comm k S])
theorem Gd.scale (g:Gd rz n c ring) {k:Nat} (hk:0 < k):Gd rz n (fun h x=>c h x * k) ring:=⟨g.l2,g.lt,g.nd,fun p hp=>Nat.mul_pos (g.pos p hp) hk,g.up⟩
theorem FD (t:List (List (Int × Nat))):neD (kW t) (kW t)=some (.bl false):=by
 have h:=HG t t
 unfold eqD at h
 unfold neD
 cases e:ip (kW t) (kW t) with
 | none=>rw [e] at h; cases h
 | some b=>
  rw [e,decide_eq_true rfl] at h
  cases b with
  | true=>rfl
  | false=>cases h
theorem AF (R:Sq rz n) (t:Tc S n c) (g:Gd rz n c ring) {d3 d4:D} {x5 x6:Option D}:∀(ws:List Nat) (x7 x8:Option D),(∀w∈ws,0 < w/\∀p∈ring,w<=c p.1 p.2) ->
  ∃y7 y8,aE (av 7) C8 (ws.map (QS S)) [some (WD rz),some (TQ S c n),some (.tup (ring.map ay)),some d3,some d4,x5,x6,x7,x8]=.nx [some (WD rz),some (TQ S c n),some (.tup (ring.map ay)),some d3,some d4,x5,x6,y7,y8]
 | [],x7,x8,_=>⟨x7,x8,dj⟩
 | w::ws,x7,x8,hw=>by
  have hn7:=R.n7
  have b4:=t.lt
  have b5:(20000000:Nat) < 2 ^ 40:=by decide
  obtain ⟨w0,wle⟩:=hw w List.mem_cons_self
  have ok:=g.ok wle
  have hgl:=g.len
  have wS:w<=S:=by
   have:0 < ring.length:=by have:=g.l2; omega
   exact Nat.le_trans (wle ring[0] (List.getElem_mem _)) (t.le _ _)
  have hb:∀a x,c a x + ring.length * w < 2 ^ 40:=fun a x=>by
   have h1:=t.le a x
   have h2:ring.length * w<=7 * 2000000:=Nat.mul_le_mul (by omega) (by omega)
   omega
  have hh:=Kt (W:=Wr rz) (n:=n) (c:=c) (v:=w) t.pos (by omega) hn7 g.l2 (by omega) (fun p hp=>(g.lt p hp).2) ok hb
  have hlh:=KM (W:=Wr rz) (n:=n) (c:=c) (v:=w) t.pos (by omega) hn7 (by omega) (fun p hp=>(g.lt p hp).2) ok hb
  have hcol:=Gd.col t ok
  have nds:∀a,a < n->(Wr rz a).Nodup:=fun a ha=>(R.row ha).nodup_iff.mpr List.nodup_range
  have hpre:∀h,h < n->∀k,(((Wr rz h).take k).map (c h)).sum<=(((Wr rz h).take k).map (Hd.all w c (fZ ring) h)).sum:=fun h hh k=>Hd.fF h k (nds h hh) _ c ok
  have hmore:∀p∈ring,∃k,(((Wr rz p.1).take k).map (c p.1)).sum < (((Wr rz p.1).take k).map (Hd.all w c (fZ ring) p.1)).sum:=fun p hp=>by
   have hp':p∈(ring.zip (br ring)).map (·.1):=by rw [(zf ring).1]; exact hp
   obtain ⟨z,hz,rfl⟩:=List.mem_map.mp hp'
   obtain ⟨k,hk⟩:=Hd.eZ (fZ ring) c ok nds (stp z) (List.mem_map.mpr ⟨z,hz,rfl⟩)
   exact ⟨k,by have hk':(((Wr rz z.1.1).take k).map (c z.1.1)).sum + w<=(((Wr rz z.1.1).take k).map (Hd.all w c (fZ ring) z.1.1)).sum:=hk; omega⟩
  generalize Hd.all w c (fZ ring)=c' at hh hlh hcol hpre hmore
  have t':=sE t.pos b4 hcol
  have hle:∀h x,h < n->x < n->c' h x<=S:=fun h x h1 h2=>by
   rw [<-hcol x h2]
   exact td (f:=fun h=>c' h x) (List.mem_range.mpr h1)
  obtain ⟨y7,y8,ih⟩:=AF R t g (d3:=d3) (d4:=d4) (x5:=x5) (x6:=x6) ws (some (QS S w)) (some (TQ S c' n)) fun z hz=>hw z (List.mem_cons_of_mem _ hz)
  refine ⟨y7,y8,?_⟩
  rw [List.map_cons,<-ih]
  refine cP (r1:=[some (WD rz),some (TQ S c n),some (.tup (ring.map ay)),some d3,some d4,x5,x6,some (QS S w),x8]) rfl ?_
  refine (aq (aX (d:=TQ S c' n) (aN (ag (d:=TQ S c n) rfl (ag (d:=.tup (ring.map ay)) rfl (ag (d:=QS S w) rfl al))) hh))).trans ?_
  refine (aq ((bc ?_).trans (e_skip _))).trans ?_
  ·have ht:=Ln t' hn7
   rw [<-sD] at ht
   have hl:lenD [TQ S c n]=some (nD n):=by rw [j3,List.length_range]
   rw [cZ (en (b:=true) (cE (aN (ag (d:=TQ S c' n) rfl (ag (bD (ag (d:=TQ S c n) rfl al) hl) (ag (bD (ag (d:=TQ S c n) rfl al) hl) al))) ht) rfl))]
   have hne:=FD (tl S c' n)
   rw [<-EB] at hne
   exact cr (ai (a:=TQ S c' n) (b:=TQ S c' n) rfl (aN (ag (d:=TQ S c n) rfl (ag (d:=.tup (ring.map ay)) rfl (ag (d:=QS S w) rfl al))) hlh) hne)
  exact aq ((bc (en (b:=true) (cE (aN (ag (d:=WD rz) rfl (ag (d:=TQ S c n) rfl (ag (d:=.tup (ring.map ay)) rfl (ag (d:=TQ S c' n) rfl al)))) (La R t (by omega) hle hpre hmore)) rfl))).trans (e_skip _))
theorem xW {a b:Nat} (hS:0 < S) (hS2:S < 2 ^ 40) (ha:a < 2 ^ 40) (hb:b < 2 ^ 40):lL [QS S a,QS S b]=.ok (.bl (decide (a < b))):=(uV (k:=40) (l:=40) (f6 hS hS2 ha) (f6 hS hS2 hb) (by omega) (by omega)).trans (by
 rw [uR hS hS]
 congr 2
 rw [Bool.eq_iff_iff,decide_eq_true_iff,decide_eq_true_iff]
 constructor
 ·intro h
  have:=Int.lt_of_mul_lt_mul_right h (by omega)
  omega
 ·intro h
  exact Int.mul_lt_mul_of_pos_right (by omega) (by omega))
theorem AE (t:Tc S n c) {d0 d2 d3:D} {x7 x8:Option D}:∀(l:List (Nat × Nat)) (m:Nat) (x5 x6:Option D),m<=S->(∀p∈l,p.1 < n/\p.2 < n) ->
  ∃y5 y6,aE (bT (aK (av 5) (aK (av 6) bQ))) C7 (l.map ay) [some d0,some (TQ S c n),some d2,some d3,some (QS S m),x5,x6,x7,x8]=.nx [some d0,some (TQ S c n),some d2,some d3,some (QS S ((l.map fun p=>c p.1 p.2).foldl (fun m y=>if y < m then y else m) m)),y5,y6,x7,x8]
 | [],m,x5,x6,_,_=>⟨x5,x6,dj⟩
 | p::l,m,x5,x6,hm,hl=>by
  obtain ⟨p1,p2⟩:=hl p List.mem_cons_self
  have hc:=t.le p.1 p.2
  have b4:=t.lt
  have b5:(2000000:Nat) < 2 ^ 40:=by decide
  obtain ⟨y5,y6,ih⟩:=AE t (d0:=d0) (d2:=d2) (d3:=d3) (x7:=x7) (x8:=x8) l (if c p.1 p.2 < m then c p.1 p.2 else m) (some (nD p.1)) (some (nD p.2)) (by split <;> assumption) fun z hz=>hl z (List.mem_cons_of_mem _ hz)
  refine ⟨y5,y6,?_⟩
  rw [List.map_cons,List.map_cons,List.foldl_cons,<-ih]
  refine cP (r1:=[some d0,some (TQ S c n),some d2,some d3,some (QS S m),some (nD p.1),some (nD p.2),x7,x8]) rfl ?_
  have hq:=xW t.pos (S:=S) (by omega) (show c p.1 p.2 < 2 ^ 40 by omega) (show m < 2 ^ 40 by omega)
  have hix:(f2 (f2 (gv 1) (gv 5) am) (gv 6) am) [some d0,some (TQ S c n),some d2,some d3,some (QS S m),some (nD p.1),some (nD p.2),x7,x8]=.ok (QS S (c p.1 p.2)):=ai (b:=nD p.2) (ai (a:=TQ S c n) (b:=nD p.1) rfl rfl (jw p1)) rfl (mL (tb:=tc S c) p2)
  by_cases e:c p.1 p.2 < m
  ·rw [decide_eq_true e] at hq
   rw [if_pos e]
   exact aq ((dP (cE (aN (ag hix (ag (d:=QS S m) rfl al)) hq) rfl)).trans (aq (aX (d:=QS S (c p.1 p.2)) hix)))
  ·rw [decide_eq_false e] at hq
   rw [if_neg e]
   exact aq ((bc (cE (aN (ag hix (ag (d:=QS S m) rfl al)) hq) rfl)).trans (e_skip _))
theorem zl (R:Sq rz n) (t:Tc S n c) (hS5:S<=400) (g:Gd rz n c ring) {by':Nat} (b1:1<=by') (b60:by'<=60):j4 [WD rz,TQ S c n,.tup (ring.map ay),nD by']=.ok (.bl true):=by
 have hn7:=R.n7
 have hgl:=g.len
 have hl2:=g.l2
 have b5:(2000000:Nat) < 2 ^ 40:=by decide
 obtain ⟨y5,y6,e⟩:=AE t (d0:=WD rz) (d2:=.tup (ring.map ay)) (d3:=nD by') (x7:=none) (x8:=none) ring S none none (Nat.le_refl _) g.lt
 have hls:(ring.map fun p=>c p.1 p.2).foldl (fun m y=>if y < m then y else m) S=Et.cg (ring.map fun p=>c p.1 p.2):=by
  cases hr:ring with
  | nil=>rw [hr] at hl2; simp at hl2
  | cons p l=>
   have hc:=t.le p.1 p.2
   rw [List.map_cons,List.foldl_cons]
   show _=(l.map fun p=>c p.1 p.2).foldl (fun m y=>if y < m then y else m) (c p.1 p.2)
   congr 1
   split <;> omega
 have hne:(ring.map fun p=>c p.1 p.2)≠[]:=by
  intro z
  have:=congrArg List.length z
  rw [List.length_map,List.length_nil] at this
  omega
 have hmem:=Et.eU hne
 have hle:∀p∈ring,Et.cg (ring.map fun p=>c p.1 p.2)<=c p.1 p.2:=fun p hp=>Et.jh (List.mem_map.mpr ⟨p,hp,rfl⟩)
 have hcan:=GY (n:=n) (c:=c) t.pos (by omega) (fun h x=>by have:=t.le h x; omega) (ring:=ring) (by
  intro z
  rw [z] at hl2; simp at hl2) (by omega) g.lt
 rw [hls] at e
 generalize Et.cg (ring.map fun p=>c p.1 p.2)=v at e hmem hle hcan
 obtain ⟨p0,hp0,ep0⟩:=List.mem_map.mp hmem
 have v0:0 < v:=by rw [<-ep0]; exact g.pos p0 hp0
 have vS:v<=S:=by rw [<-ep0]; exact t.le _ _
 have hk0:0 < by' * (by' + 1):=Nat.mul_pos (by omega) (by omega)
 have hkb:by' * (by' + 1)<=60 * 61:=Nat.mul_le_mul b60 (by omega)
 have hSk:S * (by' * (by' + 1))<=400 * 3660:=Nat.mul_le_mul hS5 hkb
 have T:=t.scale hk0 (by omega)
 have G:=g.scale hk0
 have bl:Bd 40 (low ((v:Nat):Int) S):=f6 t.pos (by omega) (by omega)
 have hsame:(low ((v:Nat):Int) S).1 * (S:Int)=(v:Int) * ((low ((v:Nat):Int) S).2:Int):=ia _ S
 have q1:QS S v=QS (S * (by' * (by' + 1))) (v * (by' * (by' + 1))):=congrArg FR (zP t.pos T.pos (by rw [Nat.mul_assoc,Nat.mul_comm (by' * (by' + 1)) S]))
 have q2:low (low ((v:Nat):Int) S).1 ((low ((v:Nat):Int) S).2 * by')=low ((v * (by' + 1):Nat):Int) (S * (by' * (by' + 1))):=by
  refine lE (Nat.mul_pos bl.pos (by omega)) T.pos ?_
  generalize low ((v:Nat):Int) S=q at hsame
  rw [Int.natCast_mul,Int.natCast_mul,Int.natCast_mul,Int.natCast_mul]
  have e1:q.1 * ((S:Int) * ((by':Int) * ((by' + 1:Nat):Int)))=(q.1 * (S:Int)) * ((by':Int) * ((by' + 1:Nat):Int)):=by simp only [Int.mul_assoc]
  rw [e1,hsame]
  simp only [Int.mul_assoc,Int.mul_comm,Int.mul_left_comm]
 have q3:low ((low ((v:Nat):Int) S).1 * (by':Int)) ((low ((v:Nat):Int) S).2 * (by' + 1))=low ((v * (by' * by'):Nat):Int) (S * (by' * (by' + 1))):=by
  refine lE (Nat.mul_pos bl.pos (by omega)) T.pos ?_
  generalize low ((v:Nat):Int) S=q at hsame
  rw [Int.natCast_mul,Int.natCast_mul,Int.natCast_mul,Int.natCast_mul,Int.natCast_mul]
  have e1:q.1 * (by':Int) * ((S:Int) * ((by':Int) * ((by' + 1:Nat):Int)))=(q.1 * (S:Int)) * ((by':Int) * ((by':Int) * ((by' + 1:Nat):Int))):=by simp only [Int.mul_assoc,Int.mul_comm,Int.mul_left_comm]
  rw [e1,hsame]
  simp only [Int.mul_assoc,Int.mul_comm,Int.mul_left_comm]
 refine bY (B:=xt) (n:=9) ?_
 unfold xt
 refine (aq (aX (d:=QS S S) ?_)).trans ?_
 ·show _=Res.ok (FR (low ((S:Nat):Int) S))
  rw [Fy t.pos]
  exact hV (ag (d:=.int 1) rfl (ag (d:=.int 1) rfl al)) (by simp)
 refine (aq ((dk (dg (d:=.tup (ring.map ay)) rfl rfl)).trans e)).trans ?_
 have hne2:=FC (low ((v:Nat):Int) S) (low ((v:Nat):Int) S)
 rw [decide_eq_true rfl] at hne2
 refine (aq ((bc (cr (ai (a:=QS S v) (b:=QS S v) (aN (ag (d:=TQ S c n) rfl (ag (d:=.tup (ring.map ay)) rfl al)) hcan) rfl hne2))).trans (e_skip _))).trans ?_
 obtain ⟨y7,y8,e2⟩:=AF R T G (d3:=nD by') (d4:=QS S v) (x5:=y5) (x6:=y6) [v * (by' * (by' + 1)),v * (by' + 1),v * (by' * by')] none none (fun w hw=>by
  have h1:v * (by' + 1)<=v * (by' * (by' + 1)):=Nat.mul_le_mul_left v (Nat.le_mul_of_pos_left _ (by omega))
  have h2:v * (by' * by')<=v * (by' * (by' + 1)):=Nat.mul_le_mul_left v (Nat.mul_le_mul_left _ (by omega))
  have hall:∀p∈ring,v * (by' * (by' + 1))<=c p.1 p.2 * (by' * (by' + 1)):=fun p hp=>Nat.mul_le_mul_right _ (hle p hp)
  simp only [List.mem_cons,List.not_mem_nil,or_false] at hw
  rcases hw with rfl | rfl | rfl
  ·exact ⟨Nat.mul_pos v0 hk0,hall⟩
  ·exact ⟨Nat.mul_pos v0 (by omega),fun p hp=>Nat.le_trans h1 (hall p hp)⟩
  ·exact ⟨Nat.mul_pos v0 (Nat.mul_pos (by omega) (by omega)),fun p hp=>Nat.le_trans h2 (hall p hp)⟩)
 rw [<-HJ t.pos hk0] at e2
 have m2:bx (nD (low ((v:Nat):Int) S).2) (nD by')=some (nD ((low ((v:Nat):Int) S).2 * by')):=by
  rw [mJ (.inr ⟨by omega,by omega⟩)]
  show some (D.int _)=some (D.int _)
  rw [Int.natCast_mul]
 have m3:bx (.int (low ((v:Nat):Int) S).1) (nD by')=some (.int ((low ((v:Nat):Int) S).1 * (by':Int))):=mJ (.inr ⟨by omega,by omega⟩)
 have m4:bx (nD (low ((v:Nat):Int) S).2) (nD (by' + 1))=some (nD ((low ((v:Nat):Int) S).2 * (by' + 1))):=by
  rw [mJ (.inr ⟨by omega,by omega⟩)]
  show some (D.int _)=some (D.int _)
  rw [Int.natCast_mul]
 have bb:(low ((v:Nat):Int) S).2<=400:=Nat.le_trans (zQ _ _) hS5
 have bd1:(low ((v:Nat):Int) S).2 * by'<=400 * 60:=Nat.mul_le_mul bb b60
 have bd2:(low ((v:Nat):Int) S).2 * (by' + 1)<=400 * 61:=Nat.mul_le_mul bb (by omega)
 have r2:=nL (t:=(low ((v:Nat):Int) S).1) (b:=(low ((v:Nat):Int) S).2 * by') (k:=40) (Nat.mul_pos bl.pos (by omega)) (by omega) (by omega)
 have r3:=nL (t:=(low ((v:Nat):Int) S).1 * (by':Int)) (b:=(low ((v:Nat):Int) S).2 * (by' + 1)) (k:=40) (Nat.mul_pos bl.pos (by omega)) (by omega) (by omega)
 rw [q2] at r2
 rw [q3] at r3
 have hlist:(aC bp (eJ (ae (gv 4) (ae (aA (ae (f2 (gv 4) (ci 0) am) (ae (f2 (f2 (gv 4) (ci 1) am) (gv 3) bx) aa)) [] gO) (ae (aA (ae (f2 (f2 (gv 4) (ci 0) am) (gv 3) bx) (ae (f2 (f2 (gv 4) (ci 1) am) (f2 (gv 3) (ci 1) addA) bx) aa)) [] gO) aa))))) [some (WD rz),some (TQ S c n),some (.tup (ring.map ay)),some (nD by'),some (QS S v),y5,y6,none,none]=.ok ([v * (by' * (by' + 1)),v * (by' + 1),v * (by' * by')].map (QS (S * (by' * (by' + 1))))):=by
  refine dg (d:=.lst [QS S v,QS (S * (by' * (by' + 1))) (v * (by' + 1)),QS (S * (by' * (by' + 1))) (v * (by' * by'))]) (gL (ag (d:=QS S v) rfl (ag (aN (ag (ai (a:=QS S v) (b:=.int 0) rfl rfl (fN _)) (ag (ai (ai (a:=QS S v) (b:=.int 1) rfl rfl (gl _)) (b:=nD by') rfl m2) al)) r2) (ag (aN (ag (ai (ai (a:=QS S v) (b:=.int 0) rfl rfl (fN _)) (b:=nD by') rfl m3) (ag (ai (ai (a:=QS S v) (b:=.int 1) rfl rfl (gl _)) (ai (a:=nD by') (b:=nD 1) rfl rfl (fj by' 1)) m4) al)) r3) al))) (by simp)) ?_
  rw [q1]; rfl
 refine (aq ((dk hlist).trans e2)).trans ?_
 exact bK (bR (d:=.bl true) rfl)
end
end Law
end
section
set_option exponentiation.threshold 3000
namespace Law
open PySem PyProof.Rows L2 DL Fq
theorem CN:∀(ns acc:List Int),(acc++ns).Nodup->(ns.foldl step_dedup acc).length=acc.length + ns.length
 | [],acc,_=>rfl
 | k::ns,acc,h=>by
  have hk:k∉acc:=fun z=>(List.nodup_append.mp h).2.2 k z k List.mem_cons_self rfl
  have e:step_dedup acc k=acc++[k]:=by
   unfold step_dedup
   rw [if_neg (by simpa using hk)]
  rw [List.foldl_cons,e,CN ns (acc++[k]) (by simpa using h)]
  simp; omega
section
variable {rz:List (List Nat)} {w dl:List Nat} {n:Nat}
variable {g:Nat->Nat} {r:List Nat}
theorem Dy (a b:Nat):yg (nD a) (nD b)=some (.bl (decide (b<=a))):=by
 show some (D.bl (decide ((a:Int) >= (b:Int))))=_
 congr 2
 rw [decide_eq_decide]; omega
theorem HS {l:List Nat} (hn:l.Nodup) (h8:l.length<=60):sA (LN l)=some (nD l.length):=by
 show (gK (l.map nD)).bind _=_
 rw [uF]
 show (if _ then some (D.int ((gj (l.map fun k:Nat=>(k:Int))).length:Int)) else none)=_
 have hnd:(l.map fun k:Nat=>(k:Int)).Nodup:=by
  rw [List.nodup_iff_pairwise_ne,List.pairwise_map]
  exact List.Pairwise.imp (fun h z=>h (Int.ofNat_inj.mp z)) hn
 have e:(gj (l.map fun k:Nat=>(k:Int))).length=l.length:=by
  have:=CN (l.map fun k:Nat=>(k:Int)) [] (by simpa using hnd)
  unfold gj
  rw [this]; simp
 rw [if_pos (by rw [List.length_map]; unfold scanBound; omega),e]
end
section
variable {rz:List (List Nat)} {n:Nat} {tb:Nat->Nat->Int × Nat}
abbrev df (n:Nat) (f:Nat->List Nat):D:=.lst ((List.range n).map fun x=>LN (f x))
structure FI (n:Nat) (f:Nat->List Nat):Prop where
 nd:∀x,(f x).Nodup
 lt:∀x,∀b∈f x,b < n
theorem FI.len {f:Nat->List Nat} (h:FI n f) (x:Nat):(f x).length<=n:=by
 have:=Rg.iQ (m:=List.range n) (h.nd x) fun b hb=>List.mem_range.mpr (h.lt x b hb)
 simpa using this
theorem DW {a b:List Nat} (h:a.length + b.length<=1000):addA (LN a) (LN b)=some (LN (a++b)):=by
 show (if (a.map nD).length + (b.map nD).length<=sizeLine then some (D.lst (a.map nD++b.map nD)) else none)=some (D.lst ((a++b).map nD))
 rw [if_pos (by rw [List.length_map,List.length_map,sizeLine_eq]; omega),List.map_append]
theorem AK {l:List Nat} {i:Nat} (h:i < l.length):jK (TN l) none (some (i:Int))=some (TN (l.take i)):=by
 show (if _ then none else some (D.tup (bW (l.map nD) none (some (i:Int)))))=_
 rw [if_neg (by rw [HT.bA,List.length_map]; omega)]
 unfold bW
 rw [HT.bA,HT.bJ,List.length_map,Nat.min_eq_left (by omega),List.drop_zero,Nat.sub_zero,<-List.map_take]
theorem uG (R:Sq rz n) (T:Tok tb n) {h:Nat} (hh:h < n):∀(l pre:List Nat) (f:Nat->List Nat) (x5 x6:Option D),pre++l=Wr rz h->FI n f ->
  ∃(f':Nat->List Nat) (y5 y6:Option D),FI n f'/\(∀t∈l,∀b,b∈f' t↔b∈f t\/(0 < (tb h t).1/\(Wr rz h).idxOf b < (Wr rz h).idxOf t))/\(∀t,t∉l->f' t=f t) /\
   aE (bT (aK (av 5) (aK (av 6) bQ))) Da (bh pre.length (l.map nD)) [some (WD rz),some (TB tb n),some (df n f),some (nD h),some (TN (Wr rz h)),x5,x6]=.nx [some (WD rz),some (TB tb n),some (df n f'),some (nD h),some (TN (Wr rz h)),y5,y6]
 | [],pre,f,x5,x6,_,hf=>⟨f,x5,x6,hf,fun _ z=>(nomatch z),fun _ _=>rfl,dj⟩
 | t::l,pre,f,x5,x6,hr,hf=>by
  have hn7:=R.n7
  have hnd:(pre++t::l).Nodup:=by rw [hr]; exact (R.row hh).nodup_iff.mpr List.nodup_range
  have htp:t∉pre:=fun z=>(List.nodup_append.mp hnd).2.2 t z t List.mem_cons_self rfl
  have htl:t∉l:=(List.nodup_cons.mp (List.nodup_append.mp hnd).2.1).1
  have ht:t < n:=List.mem_range.mp ((R.row hh).mem_iff.mp (by rw [<-hr]; simp))
  have hrl:(Wr rz h).length=n:=by rw [(R.row hh).length_eq]; simp
  have hpl:pre.length < (Wr rz h).length:=by rw [<-hr]; simp
  have hit:(Wr rz h).idxOf t=pre.length:=by
   rw [<-hr,List.idxOf_append,if_neg htp]; simp
  have hpre:(Wr rz h).take pre.length=pre:=by rw [<-hr,List.take_left]
  have hib:∀b,b∈pre↔(Wr rz h).idxOf b < (Wr rz h).idxOf t:=fun b=>by
   rw [hit,<-hr,List.idxOf_append]
   by_cases hb:b∈pre
   ·rw [if_pos hb]; exact ⟨fun _=>List.idxOf_lt_length_of_mem hb,fun _=>hb⟩
   ·rw [if_neg hb]; exact ⟨fun z=>absurd z hb,fun z=>absurd z (by omega)⟩
  have hplt:∀b∈pre,b < n:=fun b hb=>List.mem_range.mp ((R.row hh).mem_iff.mp (by rw [<-hr]; exact List.mem_append_left _ hb))
  have e0:bh pre.length ((t::l).map nD)=.tup [nD pre.length,nD t]::bh (pre.length + 1) (l.map nD):=rfl
  have tst:=nh
  have hgt:iO (.int (tb h t).1) (.int 0)=some (.bl (decide (0 < (tb h t).1))):=rfl
  have cond:=cr (ai (f:=f2 (f2 (f2 (gv 1) (gv 3) am) (gv 6) am) (ci 0) am) (f':=fun _=>Res.ok (D.int 0)) (r:=[some (WD rz),some (TB tb n),some (df n f),some (nD h),some (TN (Wr rz h)),some (nD pre.length),some (nD t)]) (b:=.int 0) (ai (b:=.int 0) (ai (b:=nD t) (ai (a:=TB tb n) (b:=nD h) rfl rfl (jw hh)) rfl (mL ht)) rfl (fN _)) rfl hgt)
  by_cases hp:0 < (tb h t).1
  ·rw [decide_eq_true hp] at cond
   have hf1:FI n fun y=>if y=t then f t++pre.filter (fun b=>! decide (b∈f t)) else f y:=by
    refine ⟨fun x=>?_,fun x b hb=>?_⟩
    ·show (if x=t then _ else _:List Nat).Nodup
     by_cases e:x=t
     ·rw [if_pos e]
      refine List.nodup_append.mpr ⟨hf.nd t,Rg.zT (List.nodup_append.mp hnd).1,fun a ha b hb=>?_⟩
      rintro rfl
      have:=(List.mem_filter.mp hb).2
      simp [ha] at this
     ·rw [if_neg e]; exact hf.nd x
    ·have hb':b∈(if x=t then f t++pre.filter (fun b=>! decide (b∈f t)) else f x):=hb
     by_cases e:x=t
     ·rw [if_pos e] at hb'
      rcases List.mem_append.mp hb' with z | z
      ·exact hf.lt t b z
      ·exact hplt b (List.mem_filter.mp z).1
     ·rw [if_neg e] at hb'; exact hf.lt x b hb'
   obtain ⟨f',y5,y6,i1,i2,i3,i4⟩:=uG R T hh l (pre++[t]) _ (some (nD pre.length)) (some (nD t)) (by rw [<-hr]; simp) hf1
   refine ⟨f',y5,y6,i1,fun q hq b=>?_,fun q hq=>?_,?_⟩
   ·rcases List.mem_cons.mp hq with rfl | hq2
    ·rw [i3 q htl]
     show b∈(if q=q then _ else _:List Nat)↔_
     rw [if_pos rfl,List.mem_append,List.mem_filter,hib b]
     constructor
     ·rintro (z | z)
      ·exact .inl z
      ·exact .inr ⟨hp,z.1⟩
     ·rintro (z | z)
      ·exact .inl z
      ·by_cases y:b∈f q
       ·exact .inl y
       ·exact .inr ⟨z.2,by simpa using y⟩
    ·rw [i2 q hq2 b]
     have hne:q≠t:=by intro z; rw [z] at hq2; exact htl hq2
     show b∈(if q=t then _ else _:List Nat)\/_↔_
     rw [if_neg hne]
   ·rw [i3 q fun z=>hq (List.mem_cons_of_mem _ z)]
    show (if q=t then _ else _:List Nat)=_
    rw [if_neg (by rintro rfl; exact hq List.mem_cons_self)]
   ·rw [e0]
    refine (cP (r1:=[some (WD rz),some (TB tb n),some (df n f),some (nD h),some (TN (Wr rz h)),some (nD pre.length),some (nD t)]) rfl (aq ((dP cond).trans (aq (ll (d:=df n f) (k:=nD t) (v:=LN (f t++pre.filter (fun b=>! decide (b∈f t)))) rfl (ai (ai (a:=df n f) (b:=nD t) rfl rfl (dO ht)) (jU (l:=pre) nD (fun b=>! decide (b∈f t)) nD (dg (d:=TN pre) (jB (d:=TN (Wr rz h)) rfl rfl (jG (i:=((pre.length:Nat):Int)) rfl) (by rw [AK hpl,hpre])) rfl) (by omega) fun b hb=>⟨[some (nD b),some (df n f),some (nD t)],rfl,cr (ai (a:=nD b) rfl (ai (a:=df n f) (b:=nD t) rfl rfl (dO ht)) (nz _ _)),fun _=>rfl⟩) (DW (by
     have h1:=hf.len t
     have h2:=List.length_filter_le (fun b=>! decide (b∈f t)) pre
     omega))) rfl (pL ht)))))).trans ?_
    have ef:((List.range n).map fun y=>if y=t then LN (f t++pre.filter (fun b=>! decide (b∈f t))) else LN (f y))=(List.range n).map fun y=>LN (if y=t then f t++pre.filter (fun b=>! decide (b∈f t)) else f y):=by
     refine List.map_congr_left fun y _=>?_
     by_cases e:y=t
     ·rw [if_pos e,if_pos e]
     ·rw [if_neg e,if_neg e]
    rw [List.length_append,List.length_singleton] at i4
    rw [<-i4]
    show aE _ _ _ [some (WD rz),some (TB tb n),some (D.lst ((List.range n).map fun y=>if y=t then LN (f t++pre.filter (fun b=>! decide (b∈f t))) else LN (f y))),some (nD h),some (TN (Wr rz h)),some (nD pre.length),some (nD t)]=_
    rw [ef]
    rfl
  ·rw [decide_eq_false hp] at cond
   obtain ⟨f',y5,y6,i1,i2,i3,i4⟩:=uG R T hh l (pre++[t]) f (some (nD pre.length)) (some (nD t)) (by rw [<-hr]; simp) hf
   refine ⟨f',y5,y6,i1,fun q hq b=>?_,fun q hq=>i3 q fun z=>hq (List.mem_cons_of_mem _ z),?_⟩
   ·rcases List.mem_cons.mp hq with rfl | hq
    ·rw [i3 q htl]
     exact ⟨.inl,fun z=>z.elim id fun y=>absurd y.1 hp⟩
    ·exact i2 q hq b
   ·rw [e0]
    refine (cP (r1:=[some (WD rz),some (TB tb n),some (df n f),some (nD h),some (TN (Wr rz h)),some (nD pre.length),some (nD t)]) rfl (aq ((bc cond).trans (e_skip _)))).trans ?_
    rw [List.length_append,List.length_singleton] at i4
    exact i4
theorem Bk (R:Sq rz n) (T:Tok tb n):∀(j i:Nat) (f:Nat->List Nat) (x3 x4 x5 x6:Option D),i + j=n->FI n f ->
  ∃(f':Nat->List Nat) (y3 y4 y5 y6:Option D),FI n f'/\(∀t,t < n->∀b,b∈f' t↔b∈f t\/∃h,i<=h/\h < n/\0 < (tb h t).1/\(Wr rz h).idxOf b < (Wr rz h).idxOf t) /\
   aE (bT (aK (av 3) (aK (av 4) bQ))) Db (bh i ((List.range' i j).map fun h=>TN (Wr rz h))) [some (WD rz),some (TB tb n),some (df n f),x3,x4,x5,x6]=.nx [some (WD rz),some (TB tb n),some (df n f'),y3,y4,y5,y6]
 | 0,i,f,x3,x4,x5,x6,h,hf=>⟨f,x3,x4,x5,x6,hf,fun t _ b=>⟨.inl,fun z=>z.elim id fun ⟨q,h1,h2,_⟩=>absurd h1 (by omega)⟩,dj⟩
 | j + 1,i,f,x3,x4,x5,x6,h,hf=>by
  have hi:i < n:=by omega
  obtain ⟨f1,z5,z6,a1,a2,a3,a4⟩:=uG R T hi (Wr rz i) [] f x5 x6 rfl hf
  obtain ⟨f',y3,y4,y5,y6,b1,b2,b3⟩:=Bk R T j (i + 1) f1 (some (nD i)) (some (TN (Wr rz i))) z5 z6 (by omega) a1
  refine ⟨f',y3,y4,y5,y6,b1,fun t ht b=>?_,?_⟩
  ·rw [b2 t ht b,a2 t (R.has hi ht) b]
   constructor
   ·rintro ((z | z) | ⟨q,h1,h2,h3⟩)
    ·exact .inl z
    ·exact .inr ⟨i,Nat.le_refl _,hi,z⟩
    ·exact .inr ⟨q,by omega,h2,h3⟩
   ·rintro (z | ⟨q,h1,h2,h3⟩)
    ·exact .inl (.inl z)
    ·by_cases e:q=i
     ·subst e; exact .inl (.inr h3)
     ·exact .inr ⟨q,by omega,h2,h3⟩
  ·rw [<-b3,List.range'_succ,List.map_cons]
   show aE _ _ (.tup [nD i,TN (Wr rz i)]::bh (i + 1) _) _=_
   refine cP (r1:=[some (WD rz),some (TB tb n),some (df n f),some (nD i),some (TN (Wr rz i)),x5,x6]) rfl ?_
   exact aq ((dk (ds:=bh 0 ((Wr rz i).map nD)) rfl).trans a4)
theorem Ks (R:Sq rz n) (T:Tok tb n):∃f:Nat->List Nat,FI n f/\(∀t,t < n->∀b,b∈f t↔b∈Eg rz tb n t)/\oD [WD rz,TB tb n]=.ok (df n f):=by
 have hn7:=R.n7
 obtain ⟨f,y3,y4,y5,y6,a1,a2,a3⟩:=Bk R T n 0 (fun _=>[]) none none none none (by omega) ⟨fun _=>by simp,fun _ _ z=>by cases z⟩
 rw [<-List.range_eq_range'] at a3
 refine ⟨f,a1,fun t ht b=>?_,bY (B:=xh) (n:=7) ?_⟩
 ·rw [a2 t ht b,qb]
  constructor
  ·rintro (z | ⟨h,h1,h2,h3⟩)
   ·cases z
   ·exact ⟨a1.lt t b ((a2 t ht b).mpr (.inr ⟨h,h1,h2,h3⟩)),h,h2,h3⟩
  ·rintro ⟨_,h,h2,h3⟩
   exact .inr ⟨h,by omega,h2,h3⟩
 unfold xh
 refine (aq (aX (d:=df n fun _=>[]) (fO (l:=List.range n) (fun h=>TF ((List.range n).map (tb h))) (fun _=>LN []) (dg (d:=TB tb n) rfl rfl) (by simp; omega) fun h _=>⟨[some (TF ((List.range n).map (tb h)))],rfl,gL al (by simp)⟩))).trans ?_
 refine (aq ((dk (ds:=bh 0 ((List.range n).map fun h=>TN (Wr rz h))) ?_).trans a3)).trans ?_
 ·show Res.ok (bh 0 (rz.map TN))=_
  conv=>lhs; rw [R.map]
  rw [List.map_map]; rfl
 exact bK (bR (d:=df n f) rfl)
end
section
variable {n:Nat} {f:Nat->List Nat}
theorem DZ {α:Type} (p:α->Bool) (l:List α):anyD [.lst (l.map fun x=>D.bl (p x))]=some (.bl ((l.map p).any id)):=by rw [yx,List.any_map]; rfl
theorem Bp (F:FI n f) (hn7:n<=7):∀(l L:List Nat) (x2 x3:Option D),l.Nodup->(∀x∈l,x∈L)->L.Nodup->(∀x∈L,x < n)->L.length<=60 ->
  ∃y3,aE (av 3) C2 (l.map nD) [some (df n f),some (LN L),x2,x3]=.nx [some (df n f),some (LN (Gr.turn f l L)),x2,y3]
 | [],L,x2,x3,_,_,_,_,_=>⟨x3,dj⟩
 | x::l,L,x2,x3,hn,hs,hL,hlt,hl=>by
  have hn':=List.nodup_cons.mp hn
  have hx:=hs x List.mem_cons_self
  have hxn:=hlt x hx
  have hLn:(Gr.aF (E:=f) L x).Nodup:=by unfold Gr.aF; split; exact hL; exact hL.erase _
  have hsub:∀y∈Gr.aF (E:=f) L x,y∈L:=fun y hy=>by
   unfold Gr.aF at hy
   split at hy
   ·exact hy
   ·exact List.mem_of_mem_erase hy
  have hlen:(Gr.aF (E:=f) L x).length<=60:=Nat.le_trans (Rg.iQ hLn hsub) hl
  obtain ⟨y3,ih⟩:=Bp F hn7 l (Gr.aF (E:=f) L x) x2 (some (nD x)) hn'.2 (fun y hy=>by
   unfold Gr.aF
   split
   ·exact hs y (List.mem_cons_of_mem _ hy)
   ·exact (List.mem_erase_of_ne (by rintro rfl; exact hn'.1 hy)).mpr (hs y (List.mem_cons_of_mem _ hy))) hLn (fun y hy=>hlt y (hsub y hy)) hlen
  refine ⟨y3,?_⟩
  have et:Gr.turn f (x::l) L=Gr.turn f l (Gr.aF (E:=f) L x):=rfl
  rw [List.map_cons,et,<-ih]
  refine cP (r1:=[some (df n f),some (LN L),x2,some (nD x)]) rfl ?_
  have hfl:=F.len x
  have c:=bD (k:=anyD) (r:=[some (df n f),some (LN L),x2,some (nD x)]) (ag (fO (nl:=1) (cap:=[1]) (fi:=aC bp (f2 (gv 0) (gv 3) am)) (ft:=av 0) (fe:=f2 (gv 0) (gv 1) jL) (l:=f x) nD (fun y=>.bl (decide (y∈L))) (dg (ai (a:=df n f) (b:=nD x) rfl rfl (dO hxn)) rfl) (by omega) fun y hy=>⟨[some (nD y),some (LN L)],rfl,ai (a:=nD y) (b:=LN L) rfl rfl (sm L y)⟩) al) (DZ (fun y=>decide (y∈L)) (f x))
  by_cases h:((f x).map fun y=>decide (y∈L)).any id=true
  ·have es:Gr.aF (E:=f) L x=L:=by unfold Gr.aF; rw [if_pos h]
   rw [es]
   rw [h] at c
   exact aq ((bc (en (b:=true) (cE c rfl))).trans (e_skip _))
  ·have es:Gr.aF (E:=f) L x=L.erase x:=by unfold Gr.aF; rw [if_neg h]
   rw [es]
   have hf:((f x).map fun y=>decide (y∈L)).any id=false:=by simpa using h
   rw [hf] at c
   exact aq ((dP (en (b:=false) (cE c rfl))).trans (aq (jC (d:=LN L) (ds:=[nD x]) rfl rfl (ag (d:=nD x) rfl al) (GD hx))))
theorem Bq (F:FI n f) (hn7:n<=7):∀(l L:List Nat) (x2 x3:Option D),L.Nodup->(∀x∈L,x < n)->L.length<=60 ->
  ∃y2 y3,aE (av 2) C3 (l.map nD) [some (df n f),some (LN L),x2,x3]=.nx [some (df n f),some (LN (Gr.di f l.length L)),y2,y3]
 | [],L,x2,x3,_,_,_=>⟨x2,x3,dj⟩
 | k::l,L,x2,x3,hL,hlt,hl=>by
  obtain ⟨z3,h1⟩:=Bp F hn7 L L (some (nD k)) x3 hL (fun _ h=>h) hL hlt hl
  have hsub:∀y∈Gr.turn f L L,y∈L:=Gr.cv L L
  have hnd:=Gr.dF (E:=f) L L hL
  obtain ⟨y2,y3,ih⟩:=Bq F hn7 l (Gr.turn f L L) (some (nD k)) z3 hnd (fun y hy=>hlt y (hsub y hy)) (Nat.le_trans (Rg.iQ hnd hsub) hl)
  refine ⟨y2,y3,?_⟩
  have et:Gr.di f (k::l).length L=Gr.di f l.length (Gr.turn f L L):=rfl
  rw [List.map_cons,et,<-ih]
  refine cP (r1:=[some (df n f),some (LN L),some (nD k),x3]) rfl ?_
  exact aq ((dk (dg (bD (ag (d:=LN L) rfl al) rfl) rfl)).trans h1)
theorem Lm (F:FI n f) (hn7:n<=7):oH [df n f]=.ok (.bl (decide (0 < (Gr.di f n (List.range n)).length))):=by
 obtain ⟨y2,y3,h⟩:=Bq F hn7 (List.range n) (List.range n) none none List.nodup_range (fun x hx=>List.mem_range.mp hx) (by simp; omega)
 rw [List.length_range] at h
 have hlen:lenD [df n f]=some (nD n):=by rw [iK,List.length_range]
 refine bY (B:=wO) (n:=4) ?_
 unfold wO
 refine (aq (aX (d:=LN (List.range n)) (bD (ag (bD (ag (d:=df n f) rfl al) hlen) al) (qq (by omega))))).trans ?_
 refine (aq ((dk (iX (ag (bD (ag (d:=df n f) rfl al) hlen) al) (iW (by omega)))).trans h)).trans ?_
 exact bK (bR (ai (b:=nD 0) (bD (ag (d:=LN (Gr.di f n (List.range n))) rfl al) (iK _ _)) rfl (nh _ 0)))
end
end Law
end
section
set_option exponentiation.threshold 3000
namespace Law
open PySem PyProof.Rows L2 DL Fq
section
variable {rz:List (List Nat)} {n S:Nat} {c:Nat->Nat->Nat} {ring:List (Nat × Nat)}
theorem pv {d0 d1:D} {x3 x5 x6 x7 x8 x9:Option D}:∀(l:List Nat) (x4:Option D),(∀k∈l,k < n) ->
  ∃y4,aE (av 4) CV (l.map nD) [some d0,some d1,some (TQ S c n),x3,x4,x5,x6,x7,x8,x9]=.nx [some d0,some d1,some (TQ S c n),x3,y4,x5,x6,x7,x8,x9]
 | [],x4,_=>⟨x4,dj⟩
 | k::l,x4,hl=>by
  obtain ⟨y4,ih⟩:=pv (d0:=d0) (d1:=d1) (x3:=x3) (x5:=x5) (x6:=x6) (x7:=x7) (x8:=x8) (x9:=x9) l (some (nD k)) fun z hz=>hl z (List.mem_cons_of_mem _ hz)
  refine ⟨y4,?_⟩
  rw [List.map_cons,<-ih]
  refine cP (r1:=[some d0,some d1,some (TQ S c n),x3,some (nD k),x5,x6,x7,x8,x9]) rfl ?_
  refine aq ((bc ?_).trans (e_skip _))
  rw [cZ (en (b:=true) (cE (iE (a:=nD k) (d:=.bl true) rfl rfl) rfl)),cZ (cE (iE (a:=nD k) (d:=.bl false) rfl rfl) rfl)]
  have h1:=DF 0 k
  rw [decide_eq_true (by omega)] at h1
  have h2:=np k n
  rw [decide_eq_true (hl k List.mem_cons_self)] at h2
  exact en (b:=true) (cr (HC (x:=nD 0) (y:=nD k) rfl rfl h1 (bD (ag (d:=TQ S c n) rfl al) (by rw [j3,List.length_range])) h2))
theorem pq {d0 d1:D} {x5 x6 x7 x8 x9:Option D}:∀(l:List (Nat × Nat)) (x3 x4:Option D),(∀p∈l,p.1 < n/\p.2 < n) ->
  ∃y3 y4,aE (av 3) CW (l.map ay) [some d0,some d1,some (TQ S c n),x3,x4,x5,x6,x7,x8,x9]=.nx [some d0,some d1,some (TQ S c n),y3,y4,x5,x6,x7,x8,x9]
 | [],x3,x4,_=>⟨x3,x4,dj⟩
 | p::l,x3,x4,hl=>by
  obtain ⟨p1,p2⟩:=hl p List.mem_cons_self
  obtain ⟨z4,e0⟩:=pv (S:=S) (c:=c) (n:=n) (d0:=d0) (d1:=d1) (x3:=some (ay p)) (x5:=x5) (x6:=x6) (x7:=x7) (x8:=x8) (x9:=x9) [p.1,p.2] x4 (fun k hk=>by
   simp only [List.mem_cons,List.not_mem_nil,or_false] at hk
   rcases hk with rfl | rfl
   ·exact p1
   ·exact p2)
  obtain ⟨y3,y4,ih⟩:=pq (d0:=d0) (d1:=d1) (x5:=x5) (x6:=x6) (x7:=x7) (x8:=x8) (x9:=x9) l (some (ay p)) z4 fun z hz=>hl z (List.mem_cons_of_mem _ hz)
  refine ⟨y3,y4,?_⟩
  rw [List.map_cons,<-ih]
  refine cP (r1:=[some d0,some d1,some (TQ S c n),some (ay p),x4,x5,x6,x7,x8,x9]) rfl ?_
  refine (aq ((bc ?_).trans (e_skip _))).trans ?_
  ·rw [cZ (en (b:=true) (cE (iE (a:=ay p) (d:=.bl true) rfl rfl) rfl))]
   have:=lg 2 2
   rw [decide_eq_true rfl] at this
   exact cr (ai (a:=nD 2) (b:=nD 2) (bD (ag (d:=ay p) rfl al) rfl) rfl this)
  exact aq ((dk (dg (d:=ay p) rfl rfl)).trans e0)
theorem pk (R:Sq rz n) (t:Tc S n c) (g:Gd rz n c ring) {d0:D} {x3 x4:Option D}:∀(zs pre:List ((Nat × Nat) × (Nat × Nat))) (x6 x7 x8 x9:Option D),pre++zs=ring.zip (br ring) ->
  ∃y6 y7 y8 y9,aE (bT (aK (av 6) (aK (bT (aK (av 7) (aK (av 8) bQ))) bQ))) CM (bh pre.length (zs.map fun z=>ay z.1)) [some d0,some (WD rz),some (TQ S c n),x3,x4,some (LN (ring.map (·.2))),x6,x7,x8,x9]=.nx [some d0,some (WD rz),some (TQ S c n),x3,x4,some (LN (ring.map (·.2))),y6,y7,y8,y9]
 | [],pre,x6,x7,x8,x9,_=>⟨x6,x7,x8,x9,dj⟩
 | z::zs,pre,x6,x7,x8,x9,e=>by
  have hz:(ring.zip (br ring))[pre.length]? = some z:=by rw [<-e,List.getElem?_append_right (Nat.le_refl _),Nat.sub_self]; rfl
  obtain ⟨z1,z2⟩:=List.getElem?_zip_eq_some.mp hz
  have hzm:z∈ring.zip (br ring):=List.mem_of_getElem? hz
  have m1:=List.mem_of_getElem? z1
  have m2:=tY (List.mem_of_getElem? z2)
  obtain ⟨l1,l2⟩:=g.lt _ m1
  have l3:=(g.lt _ m2).2
  obtain ⟨y6,y7,y8,y9,ih⟩:=pk R t g (d0:=d0) (x3:=x3) (x4:=x4) zs (pre++[z]) (some (nD pre.length)) (some (nD z.1.1)) (some (nD z.1.2)) (some (nD z.2.2)) (by rw [<-e]; simp)
  refine ⟨y6,y7,y8,y9,?_⟩
  rw [List.length_append,List.length_singleton] at ih
  rw [List.map_cons,show bh pre.length (ay z.1::zs.map fun z=>ay z.1)=D.tup [nD pre.length,ay z.1]::bh (pre.length + 1) (zs.map fun z=>ay z.1) from rfl,<-ih]
  refine cP (r1:=[some d0,some (WD rz),some (TQ S c n),x3,x4,some (LN (ring.map (·.2))),some (nD pre.length),some (nD z.1.1),some (nD z.1.2),x9]) rfl ?_
  have hlen:0 < ring.length:=by have:=g.l2; omega
  have hlm:(ring.map (·.2)).length=ring.length:=List.length_map _
  refine (aq (aX (d:=nD z.2.2) (ai (a:=LN (ring.map (·.2))) (b:=nD ((pre.length + 1) % ring.length)) rfl (ai (a:=nD (pre.length + 1)) (b:=nD ring.length) (ai (a:=nD pre.length) (b:=nD 1) rfl rfl (fj _ 1)) (bD (ag (d:=LN (ring.map (·.2))) rfl al) (by rw [iK,hlm])) (iH hlen)) (iS (by rw [List.getElem?_map,List.getElem?_map,Ay z2]; rfl))))).trans ?_
  refine aq ((bc ?_).trans (e_skip _))
  have hpos:nb (.int (low ((c z.1.1 z.1.2:Nat):Int) S).1) (.int 0)=some (.bl false):=by
   show some (D.bl (decide ((low ((c z.1.1 z.1.2:Nat):Int) S).1<=0)))=_
   rw [decide_eq_false]
   intro q
   have h1:(low ((c z.1.1 z.1.2:Nat):Int) S).1 * (S:Int)=((c z.1.1 z.1.2:Nat):Int) * ((low ((c z.1.1 z.1.2:Nat):Int) S).2:Int):=ia _ S
   have h2:0 < c z.1.1 z.1.2 * (low ((c z.1.1 z.1.2:Nat):Int) S).2:=Nat.mul_pos (g.pos _ m1) (hZ _ t.pos)
   rw [<-Int.natCast_mul] at h1
   have h3:(low ((c z.1.1 z.1.2:Nat):Int) S).1 * (S:Int)<=0:=Int.mul_nonpos_of_nonpos_of_nonneg q (by omega)
   omega
  rw [cZ (cr (ai (b:=.int 0) (ai (b:=.int 0) (ai (b:=nD z.1.2) (ai (a:=TQ S c n) (b:=nD z.1.1) rfl rfl (jw l1)) rfl (mL (tb:=tc S c) l2)) rfl (fN _)) rfl hpos))]
  have hge:=Dy ((Wr rz z.1.1).idxOf z.2.2) ((Wr rz z.1.1).idxOf z.1.2)
  rw [decide_eq_false (by have:=g.up z hzm; omega)] at hge
  exact cr (ai (mq (d:=TN (Wr rz z.1.1)) (ai (a:=WD rz) (b:=nD z.1.1) rfl rfl (R.at l1)) rfl (ag (d:=nD z.2.2) rfl al) (qx (R.has l1 l3))) (mq (d:=TN (Wr rz z.1.1)) (ai (a:=WD rz) (b:=nD z.1.1) rfl rfl (R.at l1)) rfl (ag (d:=nD z.1.2) rfl al) (qx (R.has l1 l2))) hge)
theorem KL (R:Sq rz n) (t:Tc S n c) (g:Gd rz n c ring):lJ [.tup (ring.map ay),WD rz,TQ S c n]=.ok (.bl true):=by
 have hn7:=R.n7
 have hgl:=g.len
 have hl2:=g.l2
 obtain ⟨y3,y4,e1⟩:=pq (S:=S) (c:=c) (n:=n) (d0:=.tup (ring.map ay)) (d1:=WD rz) (x5:=none) (x6:=none) (x7:=none) (x8:=none) (x9:=none) ring none none g.lt
 obtain ⟨y6,y7,y8,y9,e2⟩:=pk R t g (d0:=.tup (ring.map ay)) (x3:=y3) (x4:=y4) (ring.zip (br ring)) [] none none none none rfl
 have em:((ring.zip (br ring)).map fun z=>ay z.1)=ring.map ay:=by
  conv=>rhs; rw [<-(zf ring).1]
  rw [List.map_map]; rfl
 rw [em] at e2
 refine bY (B:=wY) (n:=10) ?_
 unfold wY
 refine (aq ((bc ?_).trans (e_skip _))).trans ?_
 ·rw [cZ (en (b:=true) (cE (iE (a:=.tup (ring.map ay)) (d:=.bl true) rfl rfl) rfl))]
  have h:=np ring.length 2
  rw [decide_eq_false (by omega)] at h
  exact cr (ai (a:=nD ring.length) (b:=nD 2) (bD (ag (d:=.tup (ring.map ay)) rfl al) (j3 _ _)) rfl h)
 refine (aq ((dk (dg (d:=.tup (ring.map ay)) rfl rfl)).trans e1)).trans ?_
 have hcomp:=fO (nl:=2) (cap:=[]) (fi:=aC bp (gv 0)) (ft:=bT (aK (av 0) (aK (av 1) bQ))) (fe:=gv 1) (r:=[some (.tup (ring.map ay)),some (WD rz),some (TQ S c n),y3,y4,none,none,none,none,none]) (l:=ring) ay (fun p=>nD p.2) (dg (d:=.tup (ring.map ay)) rfl rfl) (by omega) fun p _=>⟨[some (nD p.1),some (nD p.2)],rfl,rfl⟩
 have em2:D.lst (ring.map fun p=>nD p.2)=LN (ring.map (·.2)):=by
  show _=D.lst (List.map nD _)
  rw [List.map_map]; rfl
 rw [em2] at hcomp
 refine (aq (aX (d:=LN (ring.map (·.2))) hcomp)).trans ?_
 refine (aq ((bc ?_).trans (e_skip _))).trans ?_
 ·have h:=lg (ring.map (·.2)).length (ring.map (·.2)).length
  rw [decide_eq_true rfl] at h
  exact cr (ai (iE (a:=LN (ring.map (·.2))) rfl (HS g.nd (by rw [List.length_map]; omega))) (bD (ag (d:=LN (ring.map (·.2))) rfl al) (iK _ _)) h)
 refine (aq ((dk (mC (d:=.tup (ring.map ay)) rfl rfl)).trans e2)).trans ?_
 exact bK (bR (d:=.bl true) rfl)
theorem JS {l:List Nat} {tb:Nat->Nat->Int × Nat} (l1:l≠[]) (l4:∀z∈l.zip (br l),z.2∈Eg rz tb n z.1):2<=l.length:=by
 match l,l1,l4 with
 | [a],_,l4=>
  have:=(pZ (l4 (a,a) List.mem_cons_self)).2.2
  exact absurd this (Nat.lt_irrefl _)
 | a::b::l,_,_=>simp
theorem AR (R:Sq rz n) (t:Tc S n c) (hC:Co (Eg rz (tc S c) n) n≠[]):∃ring:List (Nat × Nat),Gd rz n c ring/\kO [WD rz,TQ S c n]=.ok (.tup (ring.map ay)):=by
 obtain ⟨l,l1,l2,l3,l4,l5⟩:=KO R t.tok hC
 have hzl:(l.zip (br l)).length=l.length:=by rw [List.length_zip,jX,Nat.min_self]
 obtain ⟨h1,h2⟩:=AW (l:=l) (r:=br l) (jX l).symm
 refine ⟨(l.zip (br l)).map (jJ rz (tc S c) n),⟨?_,fun p hp=>?_,?_,fun p hp=>?_,fun z hz=>?_⟩,l5⟩
 ·rw [List.length_map,hzl]; exact JS l1 l4
 ·obtain ⟨z,hz,rfl⟩:=List.mem_map.mp hp
  exact ⟨(pZ (l4 z hz)).1,l3 z.1 (List.of_mem_zip hz).1⟩
 ·rw [List.map_map]
  have:(l.zip (br l)).map ((fun p:Nat × Nat=>p.2) ∘ jJ rz (tc S c) n)=l:=h1
  rw [this]; exact l2
 ·obtain ⟨z,hz,rfl⟩:=List.mem_map.mp hp
  exact Bv t.pos (pZ (l4 z hz)).2.1
 ·have hs:stp z∈fZ ((l.zip (br l)).map (jJ rz (tc S c) n)):=List.mem_map.mpr ⟨z,hz,rfl⟩
  have e:fZ ((l.zip (br l)).map (jJ rz (tc S c) n))=(l.zip (br l)).map fun z=>(jj rz (tc S c) n z,z.1,z.2):=Kr (f:=jj rz (tc S c) n)
  rw [e] at hs
  obtain ⟨y,hy,ey⟩:=List.mem_map.mp hs
  have:=(pZ (l4 y hy)).2.2
  have a1:jj rz (tc S c) n y=z.1.1:=congrArg (·.1) ey
  have a2:y.1=z.1.2:=congrArg (·.2.1) ey
  have a3:y.2=z.2.2:=congrArg (·.2.2) ey
  rw [a1,a2,a3] at this
  exact this
end
end Law
end
section
set_option exponentiation.threshold 3000
namespace Law
open PySem PyProof.Rows L2 DL Fq
theorem zC {mm:List Md} {f:FE} {ft:FT} {r r':ak} {d:D} (h:f r=.ok d) (h2:ft d r=some r'):jm mm f ft r=.nx r':=by
 unfold jm; rw [h,onE_ok]; simp only [h2]
structure Lk (rz:List (List Nat)) (n:Nat) (c:Nat->Nat->Nat) (f:Nat->List (Nat × Nat)) (L:Nat):Prop where
 len:∀x,(f x).length<=L
 ok:∀x,∀q∈f x,q.1 < n/\q.2 < n/\0 < c q.1 x/\(Wr rz q.1).idxOf q.2 < (Wr rz q.1).idxOf x
abbrev PL (l:List (Nat × Nat)):D:=.lst (l.map ay)
abbrev dW (n:Nat) (f:Nat->List (Nat × Nat)):D:=.lst ((List.range n).map fun x=>PL (f x))
section
variable {rz:List (List Nat)} {n S:Nat} {c:Nat->Nat->Nat}
theorem Bg (R:Sq rz n) (t:Tc S n c) {d2:D} {h:Nat} (hh:h < n) {x8 x9 x10 x11:Option D}:∀(l pre:List Nat) (f:Nat->List (Nat × Nat)) (L:Nat) (x6 x7:Option D),pre++l=Wr rz h->Lk rz n c f L->L + 7 * l.length<=900 ->
  ∃(f':Nat->List (Nat × Nat)) (y6 y7:Option D),Lk rz n c f' (L + 7 * l.length)/\aE (bT (aK (av 6) (aK (av 7) bQ))) wQ (bh pre.length (l.map nD)) [some (WD rz),some (TQ S c n),some d2,some (dW n f),some (nD h),some (TN (Wr rz h)),x6,x7,x8,x9,x10,x11]=.nx [some (WD rz),some (TQ S c n),some d2,some (dW n f'),some (nD h),some (TN (Wr rz h)),y6,y7,x8,x9,x10,x11]
 | [],pre,f,L,x6,x7,_,hf,_=>⟨f,x6,x7,by simpa using hf,dj⟩
 | x::l,pre,f,L,x6,x7,e,hf,hL=>by
  rw [List.length_cons] at hL
  have hn7:=R.n7
  have hlt:∀t∈Wr rz h,t < n:=fun t ht=>List.mem_range.mp ((R.row hh).mem_iff.mp ht)
  have hx:x < n:=hlt x (by rw [<-e]; simp)
  have nd:(Wr rz h).Nodup:=(R.row hh).nodup_iff.mpr List.nodup_range
  have hwl:(Wr rz h).length=n:=by rw [(R.row hh).length_eq,List.length_range]
  have hpl:pre.length < (Wr rz h).length:=by rw [<-e]; simp
  have ix:(Wr rz h).idxOf x=pre.length:=by
   rw [<-e,List.idxOf_append,if_neg]
   ·simp
   ·intro z
    rw [<-e] at nd
    exact (List.nodup_append.mp nd).2.2 x z x List.mem_cons_self rfl
  have step:∃f1:Nat->List (Nat × Nat),Lk rz n c f1 (L + 7)/\wQ [some (WD rz),some (TQ S c n),some d2,some (dW n f),some (nD h),some (TN (Wr rz h)),some (nD pre.length),some (nD x),x8,x9,x10,x11]=.nx [some (WD rz),some (TQ S c n),some d2,some (dW n f1),some (nD h),some (TN (Wr rz h)),some (nD pre.length),some (nD x),x8,x9,x10,x11]:=by
   have ht:∀b:Bool,decide (0 < (tc S c h x).1)=b->(bq (f2 (f2 (f2 (f2 (gv 1) (gv 4) am) (gv 7) am) (ci 0) am) (ci 0) iO)) [some (WD rz),some (TQ S c n),some d2,some (dW n f),some (nD h),some (TN (Wr rz h)),some (nD pre.length),some (nD x),x8,x9,x10,x11]=.ok b:=fun b hb=>by
    refine cr (ai (b:=.int 0) (ai (b:=.int 0) (ai (ai (a:=TQ S c n) (b:=nD h) rfl rfl (jw hh)) (b:=nD x) rfl (mL (tb:=tc S c) hx)) rfl (fN _)) rfl ?_)
    show some (D.bl (decide ((0:Int) < (tc S c h x).1)))=_
    rw [<-hb]
   cases q:decide (0 < (tc S c h x).1) with
   | false=>exact ⟨f,⟨fun y=>Nat.le_trans (hf.len y) (by omega),hf.ok⟩,aq ((bc (ht false q)).trans (e_skip _))⟩
   | true=>
    have hp:=Bv t.pos (of_decide_eq_true q)
    have htl:((Wr rz h).take pre.length).length<=7:=by rw [List.length_take]; omega
    refine ⟨fun y=>if y=x then f x++((Wr rz h).take pre.length).map fun b=>(h,b) else f y,⟨fun y=>?_,fun y p hpm=>?_⟩,?_⟩
    ·show (if y=x then _ else f y:List (Nat × Nat)).length<=_
     have:=hf.len x
     have:=hf.len y
     split
     ·rw [List.length_append,List.length_map]; omega
     ·omega
    ·have hpm':p∈(if y=x then f x++((Wr rz h).take pre.length).map fun b=>(h,b) else f y):=hpm
     by_cases ey:y=x
     ·subst ey
      rw [if_pos rfl] at hpm'
      rcases List.mem_append.mp hpm' with z | z
      ·exact hf.ok y p z
      ·obtain ⟨b,hb,rfl⟩:=List.mem_map.mp z
       exact ⟨hh,hlt b (List.mem_of_mem_take hb),hp,by rw [ix]; exact Et.ji hb⟩
     ·rw [if_neg ey] at hpm'
      exact hf.ok y p hpm'
    ·refine aq ((dP (ht true q)).trans (aq ?_))
     have hcomp:=fO (nl:=1) (cap:=[4]) (fi:=aC bp (gW (gv 5) (fun _=>Res.ok none) (g9 (gv 6)))) (ft:=av 0) (fe:=c0 (ae (gv 1) (ae (gv 0) aa))) (r:=[some (WD rz),some (TQ S c n),some d2,some (dW n f),some (nD h),some (TN (Wr rz h)),some (nD pre.length),some (nD x),x8,x9,x10,x11]) (l:=(Wr rz h).take pre.length) nD (fun b=>ay (h,b)) (dg (jB (d:=TN (Wr rz h)) rfl rfl (jG (i:=(pre.length:Int)) rfl) (AK hpl)) rfl) (by omega) fun b _=>⟨[some (nD b),some (nD h)],rfl,hV (ag (d:=nD h) rfl (ag (d:=nD b) rfl al)) (by simp)⟩
     have hadd:addA (PL (f x)) (.lst (((Wr rz h).take pre.length).map fun b=>ay (h,b)))=some (PL (f x++((Wr rz h).take pre.length).map fun b=>(h,b))):=by
      show (if ((f x).map ay).length + (((Wr rz h).take pre.length).map fun b=>ay (h,b)).length<=sizeLine then some (D.lst ((f x).map ay++((Wr rz h).take pre.length).map fun b=>ay (h,b))) else none)=some (D.lst (List.map ay _))
      have:=hf.len x
      rw [if_pos (by rw [List.length_map,List.length_map,sizeLine_eq]; omega),List.map_append,List.map_map]; rfl
     have es:=pL (n:=n) (f:=fun y=>PL (f y)) (v:=PL (f x++((Wr rz h).take pre.length).map fun b=>(h,b))) hx
     have ef:((List.range n).map fun y=>if y=x then PL (f x++((Wr rz h).take pre.length).map fun b=>(h,b)) else PL (f y))=(List.range n).map fun y=>PL (if y=x then f x++((Wr rz h).take pre.length).map fun b=>(h,b) else f y):=by
      refine List.map_congr_left fun y _=>?_
      by_cases e:y=x
      ·rw [if_pos e,if_pos e]
      ·rw [if_neg e,if_neg e]
     rw [ef] at es
     exact ll (d:=dW n f) (k:=nD x) rfl (ai (ai (a:=dW n f) (b:=nD x) rfl rfl (dO hx)) hcomp hadd) rfl es
  obtain ⟨f1,k1,s1⟩:=step
  obtain ⟨f',y6,y7,k2,ih⟩:=Bg R t (d2:=d2) hh (x8:=x8) (x9:=x9) (x10:=x10) (x11:=x11) l (pre++[x]) f1 (L + 7) (some (nD pre.length)) (some (nD x)) (by rw [List.append_assoc]; exact e) k1 (by omega)
  rw [List.length_append,List.length_singleton] at ih
  refine ⟨f',y6,y7,by rw [List.length_cons,show L + 7 * (l.length + 1)=L + 7 + 7 * l.length by omega]; exact k2,?_⟩
  rw [List.map_cons,show bh pre.length (nD x::l.map nD)=D.tup [.int pre.length,nD x]::bh (pre.length + 1) (l.map nD) from rfl,<-ih]
  exact cP (r1:=[some (WD rz),some (TQ S c n),some d2,some (dW n f),some (nD h),some (TN (Wr rz h)),some (nD pre.length),some (nD x),x8,x9,x10,x11]) rfl s1
theorem Bh (R:Sq rz n) (t:Tc S n c) {d2:D} {x8 x9 x10 x11:Option D}:∀(l:List Nat) (f:Nat->List (Nat × Nat)) (L:Nat) (x4 x5 x6 x7:Option D),(∀h∈l,h < n)->Lk rz n c f L->L + 49 * l.length<=900 ->
  ∃(f':Nat->List (Nat × Nat)) (y4 y5 y6 y7:Option D),Lk rz n c f' 900/\aE (bT (aK (av 4) (aK (av 5) bQ))) CO (l.map fun h=>D.tup [nD h,TN (Wr rz h)]) [some (WD rz),some (TQ S c n),some d2,some (dW n f),x4,x5,x6,x7,x8,x9,x10,x11]=.nx [some (WD rz),some (TQ S c n),some d2,some (dW n f'),y4,y5,y6,y7,x8,x9,x10,x11]
 | [],f,L,x4,x5,x6,x7,_,hf,hL=>⟨f,x4,x5,x6,x7,⟨fun x=>Nat.le_trans (hf.len x) (by simp at hL; omega),hf.ok⟩,dj⟩
 | h::l,f,L,x4,x5,x6,x7,hl,hf,hL=>by
  rw [List.length_cons] at hL
  have hn7:=R.n7
  have hh:=hl h List.mem_cons_self
  have hwl:(Wr rz h).length=n:=by rw [(R.row hh).length_eq,List.length_range]
  obtain ⟨f1,z6,z7,k1,e1⟩:=Bg R t (d2:=d2) hh (x8:=x8) (x9:=x9) (x10:=x10) (x11:=x11) (Wr rz h) [] f L x6 x7 rfl hf (by omega)
  obtain ⟨f',y4,y5,y6,y7,k2,e2⟩:=Bh R t (d2:=d2) (x8:=x8) (x9:=x9) (x10:=x10) (x11:=x11) l f1 (L + 49) (some (nD h)) (some (TN (Wr rz h))) z6 z7 (fun z hz=>hl z (List.mem_cons_of_mem _ hz)) ⟨fun x=>Nat.le_trans (k1.len x) (by omega),k1.ok⟩ (by omega)
  refine ⟨f',y4,y5,y6,y7,k2,?_⟩
  rw [List.map_cons,<-e2]
  refine cP (r1:=[some (WD rz),some (TQ S c n),some d2,some (dW n f),some (nD h),some (TN (Wr rz h)),x6,x7,x8,x9,x10,x11]) rfl ?_
  exact aq ((dk (mC (d:=TN (Wr rz h)) rfl rfl)).trans e1)
def Cw (rz:List (List Nat)) (P:List (Nat × Nat)) (here:Nat):Prop:=∀(i:Nat) (p:Nat × Nat) (u:Nat),P[i]? = some p->(P.map (·.2)++[here])[i + 1]? = some u->(Wr rz p.1).idxOf u < (Wr rz p.1).idxOf p.2
theorem Cw.snoc {P:List (Nat × Nat)} {here h b:Nat} (w:Cw rz P here) (hb:(Wr rz h).idxOf b < (Wr rz h).idxOf here):Cw rz (P++[(h,here)]) b:=fun i p u hp hu=>by
 have em:(P++[(h,here)]).map (·.2)++[b]=P.map (·.2)++[here]++[b]:=by rw [List.map_append]; rfl
 rw [em] at hu
 by_cases hi:i < P.length
 ·rw [List.getElem?_append_left hi] at hp
  rw [List.getElem?_append_left (by simp; omega)] at hu
  exact w i p u hp hu
 ·have hlt:i < (P++[(h,here)]).length:=(List.getElem?_eq_some_iff.mp hp).1
  have e:i=P.length:=by simp at hlt; omega
  subst e
  have ea:(P++[(h,here)])[P.length]? = some (h,here):=by simp
  have eb:(P.map (·.2)++[here]++[b])[P.length + 1]? = some b:=by simp
  rw [ea] at hp
  rw [eb] at hu
  cases hp
  cases hu
  exact hb
structure Wk (rz:List (List Nat)) (n:Nat) (c:Nat->Nat->Nat) (P:List (Nat × Nat)) (here:Nat):Prop where
 lt:here < n
 pl:∀p∈P,p.1 < n/\p.2 < n/\0 < c p.1 p.2
 nd:(P.map (·.2)).Nodup
 ch:Cw rz P here
theorem AU (R:Sq rz n) {d5 x6 x7:Option D} {f:Nat->List (Nat × Nat)} (F:Lk rz n c f 900):∀(j:Nat) (P:List (Nat × Nat)) (here cell:Nat) (x4 x11:Option D),Wk rz n c P here->n + 1 - P.length < j ->
  ∃(P':List (Nat × Nat)) (here' cell':Nat) (y4 y11:Option D),Wk rz n c P' here'/\dM cX CS CP j [some (WD rz),some (TQ S c n),some (nD cell),some (dW n f),x4,d5,x6,x7,some (nD here),some (PL P),some (LN (P.map (·.2))),x11]=.nx [some (WD rz),some (TQ S c n),some (nD cell'),some (dW n f),y4,d5,x6,x7,some (nD here'),some (PL P'),some (LN (P'.map (·.2))),y11]
 | 0,P,here,cell,x4,x11,_,h=>absurd h (by omega)
 | j + 1,P,here,cell,x4,x11,W,h=>by
  have hn7:=R.n7
  have hPl:P.length<=n:=by
   have:=Rg.iQ (m:=List.range n) W.nd fun x hx=>by
    obtain ⟨p,hp,rfl⟩:=List.mem_map.mp hx
    exact List.mem_range.mpr (W.pl p hp).2.1
   simpa using this
  have t1:=cr (ai (f:=gv 8) (f':=gv 10) (r:=[some (WD rz),some (TQ S c n),some (nD cell),some (dW n f),x4,d5,x6,x7,some (nD here),some (PL P),some (LN (P.map (·.2))),x11]) (a:=nD here) (b:=LN (P.map (·.2))) rfl rfl (nz (P.map (·.2)) here))
  have hix:(f2 (gv 3) (gv 8) am) [some (WD rz),some (TQ S c n),some (nD cell),some (dW n f),x4,d5,x6,x7,some (nD here),some (PL P),some (LN (P.map (·.2))),x11]=.ok (PL (f here)):=ai (a:=dW n f) (b:=nD here) rfl rfl (dO W.lt)
  by_cases e:here∈P.map (·.2)
  ·rw [decide_eq_true e] at t1
   exact ⟨P,here,cell,x4,x11,W,nH (pJ t1)⟩
  ·rw [decide_eq_false e] at t1
   have hg:=nh (f here).length 0
   have t2:=cr (ai (f:=fC (ae (f2 (gv 3) (gv 8) am) aa) lenD) (f':=fun _=>Res.ok (D.int 0)) (r:=[some (WD rz),some (TQ S c n),some (nD cell),some (dW n f),x4,d5,x6,x7,some (nD here),some (PL P),some (LN (P.map (·.2))),x11]) (b:=nD 0) (bD (ag hix al) (iK _ _)) rfl hg)
   by_cases z:0 < (f here).length
   ·rw [decide_eq_true z] at t2
    have hm:cell / 7 % (f here).length < (f here).length:=Nat.mod_lt _ z
    obtain ⟨q,hq⟩:∃q,(f here)[cell / 7 % (f here).length]? = some q:=⟨_,List.getElem?_eq_getElem hm⟩
    have hqm:=List.mem_of_getElem? hq
    obtain ⟨q1,q2,q3,q4⟩:=F.ok here q hqm
    have W2:Wk rz n c (P++[(q.1,here)]) q.2:=by
     refine ⟨q2,fun p hp=>?_,?_,W.ch.snoc q4⟩
     ·rcases List.mem_append.mp hp with y | y
      ·exact W.pl p y
      ·rw [List.mem_singleton.mp y]; exact ⟨q1,W.lt,q3⟩
     ·rw [List.map_append]
      refine List.nodup_append.mpr ⟨W.nd,by simp,fun a ha b hb=>?_⟩
      simp at hb
      rintro rfl
      exact e (hb ▸ ha)
    obtain ⟨P',here',cell',y4,y11,W',ih⟩:=AU R (d5:=d5) (x6:=x6) (x7:=x7) F j (P++[(q.1,here)]) q.2 (cell / 7) (some (nD q.1)) (some (nD q.2)) W2 (by rw [List.length_append,List.length_singleton]; omega)
    refine ⟨P',here',cell',y4,y11,W',(nI ((ni t1).trans t2) ?_).trans ih⟩
    refine (aq (aX (d:=nD (cell / 7)) (ai (a:=nD cell) (b:=nD 7) rfl rfl (qi (by omega) (by omega))))).trans ?_
    refine (aq (zC (d:=ay q) (ai (a:=PL (f here)) (b:=nD (cell / 7 % (f here).length)) (ai (a:=dW n f) (b:=nD here) rfl rfl (dO W.lt)) (ai (a:=nD (cell / 7)) (b:=nD (f here).length) rfl (bD (ag (ai (a:=dW n f) (b:=nD here) rfl rfl (dO W.lt)) al) (iK _ _)) (iH z)) (iS (by rw [List.getElem?_map,hq]; rfl))) rfl)).trans ?_
    refine (aq (jC (d:=PL P) (ds:=[ay (q.1,here)]) (d':=PL (P++[(q.1,here)])) rfl rfl (ag (hV (ag (d:=nD q.1) rfl (ag (d:=nD here) rfl al)) (by simp)) al) ?_)).trans ?_
    ·rw [kM (by rw [List.length_map]; omega)]
     show some (D.lst _)=some (D.lst (List.map ay _))
     rw [List.map_append]; rfl
    refine (aq (jC (d:=LN (P.map (·.2))) (ds:=[nD here]) (d':=LN ((P++[(q.1,here)]).map (·.2))) rfl rfl (ag (d:=nD here) rfl al) ?_)).trans ?_
    ·rw [kM (by rw [List.length_map,List.length_map]; omega)]
     show some (D.lst _)=some (D.lst (List.map nD _))
     rw [List.map_append,List.map_append]; rfl
    exact aq (aX (d:=nD q.2) rfl)
   ·rw [decide_eq_false z] at t2
    exact ⟨P,here,cell,x4,x11,W,nH ((ni t1).trans t2)⟩
theorem Gd.mk' {ring:List (Nat × Nat)} (hne:ring≠[]) (lt:∀p∈ring,p.1 < n/\p.2 < n) (nd:(ring.map (·.2)).Nodup) (pos:∀p∈ring,0 < c p.1 p.2) (up:∀z∈ring.zip (br ring),(Wr rz z.1.1).idxOf z.2.2 < (Wr rz z.1.1).idxOf z.1.2):Gd rz n c ring:=by
 refine ⟨?_,lt,nd,pos,up⟩
 match ring,hne,up with
 | [p],_,up=>exact absurd (up (p,p) List.mem_cons_self) (Nat.lt_irrefl _)
 | p::q::l,_,_=>simp
theorem A9 (l:List D) {i:Nat} (h:i<=l.length):jK (.lst l) (some (i:Int)) none=some (.lst (l.drop i)):=by
 show some (D.lst (bW l (some (i:Int)) none))=_
 unfold bW
 rw [HT.bA,HT.bJ,Nat.min_eq_left h,List.take_of_length_le (by rw [List.length_drop]; omega)]
theorem run_walked (R:Sq rz n) (t:Tc S n c) (cell:Nat):lI [WD rz,TQ S c n,nD cell]=.ok .non\/∃ring:List (Nat × Nat),Gd rz n c ring/\lI [WD rz,TQ S c n,nD cell]=.ok (.tup (ring.map ay)):=by
 have hn7:=R.n7
 have hn1:=R.n1
 obtain ⟨f,y4,y5,y6,y7,F,e1⟩:=Bh R t (d2:=nD cell) (x8:=none) (x9:=none) (x10:=none) (x11:=none) (List.range n) (fun _=>[]) 0 none none none none (fun h hh=>List.mem_range.mp hh) ⟨fun _=>Nat.le_refl _,fun _ q hq=>by cases hq⟩ (by rw [List.length_range]; omega)
 obtain ⟨P,here,cell',z4,z11,W,e2⟩:=AU (S:=S) R (d5:=y5) (x6:=y6) (x7:=y7) F 64 [] (cell % n) cell y4 none ⟨Nat.mod_lt _ (by omega),fun p hp=>(by cases hp),by simp,fun i p u hp=>(by cases hp)⟩ (by simp; omega)
 have hlen:lenD [TQ S c n]=some (nD n):=by rw [j3,List.length_range]
 have go:∀d,(Mg (bS cX (bq (f2 (gv 8) (gv 10) da)) (Mg (au cX (fun _=>Res.ok D.non)) ar) ar) (Mg (au cX (fC (ae (gW (gv 9) (g9 (fM "list" (gv 10) (ae (gv 8) aa) nJ)) (fun _=>Res.ok none)) aa) tupD)) ar)) [some (WD rz),some (TQ S c n),some (nD cell'),some (dW n f),z4,y5,y6,y7,some (nD here),some (PL P),some (LN (P.map (·.2))),z11]=.rt d->lI [WD rz,TQ S c n,nD cell]=.ok d:=fun d hd=>by
  refine bY (B:=wB) (n:=12) ?_
  unfold wB
  refine (aq (aX (d:=dW n fun _=>[]) (fO (l:=List.range n) (fun h=>TF ((List.range n).map (tc S c h))) (fun _=>PL []) (dg (d:=TQ S c n) rfl rfl) (by simp; omega) fun h _=>⟨[some (TF ((List.range n).map (tc S c h)))],rfl,gL al (by simp)⟩))).trans ?_
  refine (aq ((dk (by rw [<-Bn R]; exact mC (d:=WD rz) rfl rfl)).trans e1)).trans ?_
  refine (aq (aX (d:=nD (cell % n)) (ai (a:=nD cell) (b:=nD n) rfl (bD (ag (d:=TQ S c n) rfl al) hlen) (iH (by omega))))).trans ?_
  refine (aq (aX (d:=PL []) (gL al (by simp)))).trans ?_
  refine (aq (aX (d:=LN []) (gL al (by simp)))).trans ?_
  exact (aq e2).trans hd
 have t1:=nz (P.map (·.2)) here
 by_cases e:here∈P.map (·.2)
 ·right
  rw [decide_eq_true e] at t1
  have hi:(P.map (·.2)).idxOf here < (P.map (·.2)).length:=List.idxOf_lt_length_of_mem e
  have hi':(P.map (·.2)).idxOf here < P.length:=by rwa [List.length_map] at hi
  have hat:∃p0,P[(P.map (·.2)).idxOf here]? = some p0/\p0.2=here:=by
   refine ⟨P[(P.map (·.2)).idxOf here],List.getElem?_eq_getElem hi',?_⟩
   have:=List.getElem_idxOf hi
   rw [List.getElem_map] at this
   exact this
  obtain ⟨p0,a1,a2⟩:=hat
  have hidx:=Br e
  generalize (P.map (·.2)).idxOf here=k at hi hi' a1 hidx
  refine ⟨P.drop k,Gd.mk' ?_ (fun p hp=>?_) ?_ (fun p hp=>?_) fun z hz=>?_,go _ ?_⟩
  ·intro q
   have:=congrArg List.length q
   rw [List.length_drop,List.length_nil] at this
   omega
  ·have:=W.pl p (List.mem_of_mem_drop hp)
   exact ⟨this.1,this.2.1⟩
  ·rw [List.map_drop]
   exact W.nd.sublist (List.drop_sublist _ _)
  ·exact (W.pl p (List.mem_of_mem_drop hp)).2.2
  ·obtain ⟨i,hz⟩:=List.mem_iff_getElem?.mp hz
   obtain ⟨z1,z2⟩:=List.getElem?_zip_eq_some.mp hz
   rw [List.getElem?_drop] at z1
   refine W.ch (k + i) z.1 z.2.2 z1 ?_
   rcases rt1_at z2 with q | ⟨q1,q2⟩
   ·rw [List.getElem?_drop] at q
    have hlt2:k + (i + 1) < P.length:=(List.getElem?_eq_some_iff.mp q).1
    rw [List.getElem?_append_left (by rw [List.length_map]; omega),List.getElem?_map,Nat.add_assoc,q]; rfl
   ·rw [List.length_drop] at q1
    rw [List.getElem?_drop,Nat.add_zero,a1] at q2
    cases q2
    rw [show k + i + 1=(P.map (·.2)).length by rw [List.length_map]; omega,List.getElem?_append_right (Nat.le_refl _),Nat.sub_self,a2]; rfl
  ·refine (aq ((bc (cr (ai (a:=nD here) (b:=LN (P.map (·.2))) rfl rfl t1))).trans (e_skip _))).trans ?_
   have hsl:=A9 (P.map ay) (i:=k) (by rw [List.length_map]; omega)
   rw [<-List.map_drop] at hsl
   exact bK (bR (bD (ag (jB (d:=PL P) rfl (jG (i:=(k:Int)) (mq (d:=LN (P.map (·.2))) rfl rfl (ag (d:=nD here) rfl al) hidx)) rfl hsl) al) rfl))
 ·left
  rw [decide_eq_false e] at t1
  exact go .non (bK ((dP (cr (ai (a:=nD here) (b:=LN (P.map (·.2))) rfl rfl t1))).trans (bK (bR (d:=.non) rfl))))
end
end Law
end
section
set_option exponentiation.threshold 3000
namespace Law
open PySem PyProof.Rows L2 DL Fq
theorem A1:∀{l m:List Nat},l.Nodup->(∀x∈l,x∈m)->m.length<=l.length->l.Perm m
 | [],m,_,_,hl=>by
  have:m=[]:=List.eq_nil_of_length_eq_zero (by simpa using hl)
  rw [this]
 | a::l,m,hn,hs,hl=>by
  have hn':=List.nodup_cons.mp hn
  have ha:=hs a List.mem_cons_self
  refine List.Perm.trans ?_ (List.perm_cons_erase ha).symm
  refine List.Perm.cons a (A1 hn'.2 (fun x hx=>?_) ?_)
  ·have:x≠a:=by rintro rfl; exact hn'.1 hx
   exact (List.mem_erase_of_ne this).mpr (hs x (List.mem_cons_of_mem _ hx))
  ·rw [List.length_erase_of_mem ha]; simp at hl; omega
theorem sS {f:Nat->Nat} {l:List Nat} (hn:l.Nodup) (hi:∀x∈l,∀y∈l,f x=f y->x=y):(l.map f).Nodup:=by
 induction l with
 | nil=>simp
 | cons a l ih=>
  have hn':=List.nodup_cons.mp hn
  rw [List.map_cons,List.nodup_cons]
  refine ⟨fun z=>?_,ih hn'.2 fun x hx y hy e=>hi x (List.mem_cons_of_mem _ hx) y (List.mem_cons_of_mem _ hy) e⟩
  obtain ⟨b,hb,e⟩:=List.mem_map.mp z
  exact hn'.1 (hi b (List.mem_cons_of_mem _ hb) a List.mem_cons_self e ▸ hb)
theorem lv {d:List Nat} {n i j:Nat} (hp:d.Perm (List.range n)) (hi:i < n) (hj:j < n) (e:dA d i=dA d j):i=j:=by
 have h1:=(fg hp hi).1
 have h2:=(fg hp hj).1
 unfold dA at e
 rw [List.getElem?_eq_getElem h1,List.getElem?_eq_getElem h2] at e
 have nd:d.Nodup:=hp.nodup_iff.mpr List.nodup_range
 have e2:d.idxOf d[i]=d.idxOf d[j]:=congrArg d.idxOf e
 rw [nd.idxOf_getElem i h1,nd.idxOf_getElem j h2] at e2
 exact e2
theorem qa {l:List Nat} {i j a b:Nat} (nd:l.Nodup) (hi:l[i]? = some a) (hj:l[j]? = some b) (h:i < j):l.idxOf a < l.idxOf b:=by
 have e:∀{i a:Nat},l[i]? = some a->l.idxOf a=i:=fun {i a} h=>by
  obtain ⟨hl,e⟩:=List.getElem?_eq_some_iff.mp h
  rw [<-e]; exact nd.idxOf_getElem i hl
 rw [e hi,e hj]; exact h
theorem FF (l:List Nat) (k:Nat):da (nD k) (TN l)=some (.bl (! decide (k∈l))):=nz l k
theorem zB {a b:List Nat} (h0:a≠[]) (h:a.length + b.length<=1000):addA (TN a) (TN b)=some (TN (a++b)):=by
 cases a with
 | nil=>exact absurd rfl h0
 | cons x a=>
  show (if ((x::a).map nD).length + (b.map nD).length<=sizeLine then some (D.tup ((x::a).map nD++b.map nD)) else none)=_
  rw [if_pos (by rw [List.length_map,List.length_map,sizeLine_eq]; omega),<-List.map_append]
abbrev WL (rz:List (List Nat)):D:=.lst (rz.map TN)
section
variable {n:Nat} {hands things:List Nat}
theorem Kp {a w:List Nat} (nd:a.Nodup) (sub:∀x∈a,x∈w) (hw:w.Perm (List.range n)):(a++w.filter fun x=>! decide (x∈a)).Perm (List.range n):=by
 have ndw:w.Nodup:=hw.nodup_iff.mpr List.nodup_range
 refine List.Perm.trans ((List.perm_ext_iff_of_nodup ?_ ndw).mpr fun x=>?_) hw
 ·refine List.nodup_append.mpr ⟨nd,Rg.zT ndw,fun x hx y hy=>?_⟩
  rintro rfl
  have:=(List.mem_filter.mp hy).2
  simp [hx] at this
 ·rw [List.mem_append,List.mem_filter]
  constructor
  ·rintro (h | h)
   ·exact sub x h
   ·exact h.1
  ·intro h
   by_cases z:x∈a
   ·exact .inl z
   ·exact .inr ⟨h,by simpa using z⟩
theorem tj {s0 FS:D} {rz:List (List Nat)} {k:Nat} {fs:List Nat} (hT:things.Perm (List.range n)) (hH:hands.Perm (List.range n)) (h4:4<=n) (h7:n<=7) (rl:rz.length=n) (rp:∀row∈rz,row.Perm (List.range n)) (hk:k < 3) (hfs:am FS (nD k)=some (TN fs)) (f0:fs≠[]) (f4:∀a∈fs,a < 4) (fl:fs.length<=4) (fnd:fs.Nodup) {x7:Option D} :
  ∃rest:List Nat,(fs.map (dA things)++rest).Perm (List.range n)/\rm [some s0,some (nD n),some (TN hands),some (TN things),some (WL rz),some FS,some (nD k),x7,none,none,none,none,none,none,none,none]=.nx [some s0,some (nD n),some (TN hands),some (TN things),some (WL (rz.set (dA hands k) (fs.map (dA things)++rest))),some FS,some (nD k),some (TN (fs.map (dA things))),none,none,none,none,none,none,none,none]:=by
 obtain ⟨k1,k2⟩:=fg hH (show k < n by omega)
 have hrp:(Wr rz (dA hands k)).Perm (List.range n):=by
  unfold Wr
  rw [List.getElem?_eq_getElem (by omega)]
  exact rp _ (List.getElem_mem _)
 have hrl:(Wr rz (dA hands k)).length=n:=by rw [hrp.length_eq,List.length_range]
 have fin:∀a∈fs,a < n:=fun a ha=>by have:=f4 a ha; omega
 refine ⟨(Wr rz (dA hands k)).filter fun x=>! decide (x∈fs.map (dA things)),Kp (sS fnd fun x hx y hy e=>lv hT (fin x hx) (fin y hy) e) (fun x hx=>?_) hrp,?_⟩
 ·obtain ⟨a,ha,rfl⟩:=List.mem_map.mp hx
  exact hrp.mem_iff.mpr (List.mem_range.mpr (fg hT (fin a ha)).2)
 have hc:=fO (nl:=1) (cap:=[3]) (fi:=aC bp (f2 (gv 5) (gv 6) am)) (ft:=av 0) (fe:=f2 (gv 1) (gv 0) am) (r:=[some s0,some (nD n),some (TN hands),some (TN things),some (WL rz),some FS,some (nD k),x7,none,none,none,none,none,none,none,none]) (l:=fs) nD (fun a=>nD (dA things a)) (dg (ai (a:=FS) (b:=nD k) rfl rfl hfs) rfl) (by omega) fun a ha=>⟨[some (nD a),some (TN things)],rfl,ai (a:=TN things) (b:=nD a) rfl rfl (kD (fg hT (fin a ha)).1)⟩
 refine (aq (aX (d:=TN (fs.map (dA things))) (bD (ag hc al) ?_))).trans ?_
 ·rw [e_tupL]
  show _=some (D.tup (List.map nD _))
  rw [List.map_map]; rfl
 have hih:(f2 (gv 2) (gv 6) am) [some s0,some (nD n),some (TN hands),some (TN things),some (WL rz),some FS,some (nD k),some (TN (fs.map (dA things))),none,none,none,none,none,none,none,none]=.ok (nD (dA hands k)):=ai (a:=TN hands) (b:=nD k) rfl rfl (kD k1)
 have hc2:=jU (nl:=1) (cap:=[7]) (fi:=aC bp (f2 (gv 4) (f2 (gv 2) (gv 6) am) am)) (ft:=av 0) (q:=bq (f2 (gv 0) (gv 1) da)) (fe:=gv 0) (r:=[some s0,some (nD n),some (TN hands),some (TN things),some (WL rz),some FS,some (nD k),some (TN (fs.map (dA things))),none,none,none,none,none,none,none,none]) (l:=Wr rz (dA hands k)) nD (fun x=>! decide (x∈fs.map (dA things))) nD (dg (ai (a:=WL rz) (b:=nD (dA hands k)) rfl hih (iS (zk (by omega)))) rfl) (by omega) fun x _=>⟨[some (nD x),some (TN (fs.map (dA things)))],rfl,cr (ai (a:=nD x) (b:=TN (fs.map (dA things))) rfl rfl (FF _ _)),fun _=>rfl⟩
 have hfl:=List.length_filter_le (fun x=>! decide (x∈fs.map (dA things))) (Wr rz (dA hands k))
 have hst:=sV (ds:=rz.map TN) (i:=dA hands k) (v:=TN (fs.map (dA things)++(Wr rz (dA hands k)).filter fun x=>! decide (x∈fs.map (dA things)))) (by rw [List.length_map]; omega)
 rw [<-List.map_set] at hst
 exact aq (ll (d:=WL rz) (k:=nD (dA hands k)) rfl (ai (a:=TN (fs.map (dA things))) rfl (bD (ag hc2 al) rfl) (zB (by simpa using f0) (by rw [List.length_map]; omega))) hih hst)
abbrev fT (n:Nat) (gets:List Nat):List Nat:=gets++(List.range (n - 4)).map (4 + ·)
theorem JG (i j:Int):nr [.int i,.int j]=if -(2 ^ 62)<=i/\i < 2 ^ 62/\-(2 ^ 62)<=j/\j < 2 ^ 62/\(j - i).toNat<=sizeLine then some (.tup (cJ i (j - i).toNat)) else none:=rfl
theorem FY (h4:4<=n) (h7:n<=7):nr [.int 4,nD n]=some (TN ((List.range (n - 4)).map (4 + ·))):=by
 have e:((n:Int) - 4).toNat=n - 4:=by omega
 rw [JG,if_pos ⟨by omega,by omega,by omega,by omega,by rw [e,sizeLine_eq]; omega⟩,e]
 show some (D.tup _)=some (D.tup (List.map nD _))
 unfold cJ
 rw [List.map_map]
 congr 2
theorem zv {s0 d4 d5 d6 d7 d8:D} {gets:List Nat} (hT:things.Perm (List.range n)) (hH:hands.Perm (List.range n)) (h4:4<=n) (h7:n<=7) (hg:gets≠[]) (hfp:(fT n gets).Perm (List.range n)):∀(j i:Nat) (G:Nat->D) (x11:Option D),i + j=n->(∀a,a < i->G (dA hands a)=nD (dA things (dA (fT n gets) a))) ->
  ∃(G':Nat->D) (y11:Option D),(∀a,a < n->G' (dA hands a)=nD (dA things (dA (fT n gets) a)))/\aE (av 11) CC ((List.range' i j).map nD) [some s0,some (nD n),some (TN hands),some (TN things),some d4,some d5,some d6,some d7,some d8,some (TN gets),some (.lst ((List.range n).map G)),x11,none,none,none,none]=.nx [some s0,some (nD n),some (TN hands),some (TN things),some d4,some d5,some d6,some d7,some d8,some (TN gets),some (.lst ((List.range n).map G')),y11,none,none,none,none]
 | 0,i,G,x11,h,hG=>⟨G,x11,fun a ha=>hG a (by omega),dj⟩
 | j + 1,i,G,x11,h,hG=>by
  have hi:i < n:=by omega
  obtain ⟨i1,i2⟩:=fg hH hi
  obtain ⟨f1,f2'⟩:=fg hfp hi
  have hgl:gets.length + ((List.range (n - 4)).map (4 + ·)).length<=1000:=by
   have:=hfp.length_eq
   rw [List.length_append,List.length_range] at this
   omega
  obtain ⟨G',y11,k1,k2⟩:=zv (s0:=s0) (d4:=d4) (d5:=d5) (d6:=d6) (d7:=d7) (d8:=d8) hT hH h4 h7 hg hfp j (i + 1) (fun y=>if y=dA hands i then nD (dA things (dA (fT n gets) i)) else G y) (some (nD i)) (by omega) (fun a ha=>by
   show (if dA hands a=dA hands i then _ else _)=_
   by_cases e:a=i
   ·subst e; rw [if_pos rfl]
   ·rw [if_neg (fun z=>e (lv hH (by omega) hi z))]
    exact hG a (by omega))
  refine ⟨G',y11,k1,?_⟩
  rw [List.range'_succ,List.map_cons,<-k2]
  refine cP (r1:=[some s0,some (nD n),some (TN hands),some (TN things),some d4,some d5,some d6,some d7,some d8,some (TN gets),some (.lst ((List.range n).map G)),some (nD i),none,none,none,none]) rfl ?_
  exact aq (ll (d:=.lst ((List.range n).map G)) (k:=nD (dA hands i)) (v:=nD (dA things (dA (fT n gets) i))) rfl (ai (a:=TN things) (b:=nD (dA (fT n gets) i)) rfl (ai (a:=TN (fT n gets)) (b:=nD i) (ai (a:=TN gets) rfl (bD (ag (d:=.int 4) rfl (ag (d:=nD n) rfl al)) (FY h4 h7)) (zB hg hgl)) rfl (kD f1)) (kD (fg hT f2').1)) (ai (a:=TN hands) (b:=nD i) rfl rfl (kD i1)) (pL i2))
def dealt (n:Nat) (hands things gets:List Nat):List Nat:=(List.range n).map fun h=>dA things (dA (fT n gets) (hands.idxOf h))
theorem nS (hH:hands.Perm (List.range n)) {h:Nat} (hh:h < n):hands.idxOf h < n/\dA hands (hands.idxOf h)=h:=by
 have hm:h∈hands:=hH.mem_iff.mpr (List.mem_range.mpr hh)
 have hi:=List.idxOf_lt_length_of_mem hm
 refine ⟨by have:=hH.length_eq; rw [List.length_range] at this; omega,?_⟩
 unfold dA
 rw [List.getElem?_eq_getElem hi,List.getElem_idxOf hi]; rfl
theorem IM (hH:hands.Perm (List.range n)) {a:Nat} (ha:a < n):hands.idxOf (dA hands a)=a:=by
 have h:=fg hH ha
 have h2:=nS hH h.2
 exact lv hH h2.1 ha h2.2
theorem Cd (hT:things.Perm (List.range n)) (hH:hands.Perm (List.range n)) {gets:List Nat} (hfp:(fT n gets).Perm (List.range n)):(dealt n hands things gets).Perm (List.range n):=by
 refine A1 (sS List.nodup_range fun x hx y hy e=>?_) (fun x hx=>?_) (by unfold dealt; simp)
 ·have hx':=List.mem_range.mp hx
  have hy':=List.mem_range.mp hy
  obtain ⟨a1,a2⟩:=nS hH hx'
  obtain ⟨b1,b2⟩:=nS hH hy'
  have:=lv hfp a1 b1 (lv hT (fg hfp a1).2 (fg hfp b1).2 e)
  rw [<-a2,<-b2,this]
 ·obtain ⟨h,hh,rfl⟩:=List.mem_map.mp hx
  have hh':=List.mem_range.mp hh
  exact List.mem_range.mpr (fg hT (fg hfp (nS hH hh').1).2).2
theorem Bm {gets:List Nat} (hH:hands.Perm (List.range n)) {a:Nat} (ha:a < n):dA (dealt n hands things gets) (dA hands a)=dA things (dA (fT n gets) a):=by
 have h:=(fg hH ha).2
 unfold dealt
 show ((((List.range n).map _)[dA hands a]?).getD 0)=_
 rw [List.getElem?_map,List.getElem?_range h]
 show dA things (dA (fT n gets) (hands.idxOf (dA hands a)))=_
 rw [IM hH ha]
theorem AS {s0 d4 d5 d7:D} {gets:List Nat} (hT:things.Perm (List.range n)) (hH:hands.Perm (List.range n)) (h4:4<=n) (h7:n<=7) (hg:gets≠[]) (hfp:(fT n gets).Perm (List.range n)) {ds:List D} {k:Nat} (hk:k < ds.length) (x10 x11:Option D) :
  ∃y10 y11,w9 [some s0,some (nD n),some (TN hands),some (TN things),some d4,some d5,some (nD k),some d7,some (.lst ds),some (TN gets),x10,x11,none,none,none,none]=.nx [some s0,some (nD n),some (TN hands),some (TN things),some d4,some d5,some (nD k),some d7,some (.lst (ds.set k (TN (dealt n hands things gets)))),some (TN gets),y10,y11,none,none,none,none]:=by
 have hhl:hands.length=n:=by rw [hH.length_eq,List.length_range]
 obtain ⟨G,y11,k1,k2⟩:=zv (s0:=s0) (d4:=d4) (d5:=d5) (d6:=nD k) (d7:=d7) (d8:=.lst ds) hT hH h4 h7 hg hfp n 0 (fun _=>.non) x11 (by omega) (fun a ha=>absurd ha (by omega))
 rw [<-List.range_eq_range'] at k2
 refine ⟨some (.lst ((List.range n).map G)),y11,?_⟩
 have hc:=fO (nl:=1) (cap:=[]) (fi:=aC bp (gv 2)) (ft:=av 0) (fe:=fun _=>Res.ok D.non) (r:=[some s0,some (nD n),some (TN hands),some (TN things),some d4,some d5,some (nD k),some d7,some (.lst ds),some (TN gets),x10,x11,none,none,none,none]) (l:=hands) nD (fun _=>.non) (dg (d:=TN hands) rfl rfl) (by omega) fun h _=>⟨[some (nD h)],rfl,rfl⟩
 have em:hands.map (fun _=>D.non)=(List.range n).map fun _=>D.non:=by
  refine List.ext_getElem? fun i=>?_
  rw [List.getElem?_map,List.getElem?_map]
  by_cases hi:i < n
  ·rw [List.getElem?_range hi,List.getElem?_eq_getElem (by omega)]; rfl
  ·rw [List.getElem?_eq_none (by omega),List.getElem?_eq_none (by simp; omega)]
 rw [em] at hc
 refine (aq (aX (d:=.lst ((List.range n).map fun _=>.non)) hc)).trans ?_
 refine (aq ((dk (iX (ag (d:=nD n) rfl al) (iW (by omega)))).trans k2)).trans ?_
 refine aq (ll (d:=.lst ds) (k:=nD k) (v:=TN (dealt n hands things gets)) rfl (bD (ag (d:=.lst ((List.range n).map G)) rfl al) ?_) rfl (sV hk))
 rw [e_tupL]
 show some (D.tup _)=some (D.tup (List.map nD _))
 unfold dealt
 rw [List.map_map]
 congr 2
 refine List.map_congr_left fun h hh=>?_
 obtain ⟨a1,a2⟩:=nS hH (List.mem_range.mp hh)
 have:=k1 _ a1
 rw [a2] at this
 exact this
end
end Law
end
section
set_option exponentiation.threshold 3000
namespace Law
open PySem PyProof.Rows L2 DL Fq
theorem IU {z S:Nat} (hS:0 < S) (h:0 < z):0 < (low ((z:Nat):Int) S).1:=by
 apply Classical.byContradiction
 intro q
 have h1:(low ((z:Nat):Int) S).1 * (S:Int)=((z:Nat):Int) * ((low ((z:Nat):Int) S).2:Int):=ia _ S
 have h2:0 < z * (low ((z:Nat):Int) S).2:=Nat.mul_pos h (hZ _ hS)
 rw [<-Int.natCast_mul] at h1
 have h3:(low ((z:Nat):Int) S).1 * (S:Int)<=0:=Int.mul_nonpos_of_nonpos_of_nonneg (by omega) (by omega)
 omega
theorem Dx {rz:List (List Nat)} {n S:Nat} {c:Nat->Nat->Nat} {ring:List (Nat × Nat)} (R:Sq rz n) (t:Tc S n c) (g:Gd rz n c ring):Co (Eg rz (tc S c) n) n≠[]:=by
 intro hC
 have hn7:=R.n7
 have gf:Gf (Eg rz (tc S c) n) n:=pH R
 obtain ⟨d,hd⟩:=Gr.lS 63 (List.range n) (by simp; omega) hC
 have hne:ring.map (·.2)≠[]:=by
  intro z
  have h1:=congrArg List.length z
  have h2:=g.l2
  rw [List.length_map,List.length_nil] at h1
  omega
 obtain ⟨x,hx,hm⟩:=Gr.dN d (ring.map (·.2)) hne
 obtain ⟨p,hp,rfl⟩:=List.mem_map.mp hx
 have hp':p∈(ring.zip (br ring)).map (·.1):=by rw [(zf ring).1]; exact hp
 obtain ⟨z,hz,rfl⟩:=List.mem_map.mp hp'
 have m2:=tY (List.of_mem_zip hz).2
 have l1:=g.lt _ hp
 have l2:=g.lt _ m2
 have he:z.2.2∈Eg rz (tc S c) n z.1.2:=qb.mpr ⟨l2.2,z.1.1,l1.1,IU t.pos (g.pos _ hp),g.up z hz⟩
 have h1:=hd z.1.2 (List.mem_range.mpr l1.2) z.2.2 he (List.mem_range.mpr l2.2)
 have h2:=hm z.2.2 (List.mem_map.mpr ⟨z.2,m2,rfl⟩)
 omega
abbrev R4 (hands things:List Nat):List (Nat × Nat):=[(dA hands 0,dA things 0),(dA hands 1,dA things 1),(dA hands 0,dA things 2),(dA hands 2,dA things 3)]
theorem EQ {rz:List (List Nat)} {n:Nat} {c:Nat->Nat->Nat} {hands things:List Nat} (hl:∀p∈R4 hands things,p.1 < n/\p.2 < n/\0 < c p.1 p.2) (nd:((R4 hands things).map (·.2)).Nodup)
  (u0:(Wr rz (dA hands 0)).idxOf (dA things 1) < (Wr rz (dA hands 0)).idxOf (dA things 0)) (u1:(Wr rz (dA hands 1)).idxOf (dA things 2) < (Wr rz (dA hands 1)).idxOf (dA things 1)) (u2:(Wr rz (dA hands 0)).idxOf (dA things 3) < (Wr rz (dA hands 0)).idxOf (dA things 2)) (u3:(Wr rz (dA hands 2)).idxOf (dA things 0) < (Wr rz (dA hands 2)).idxOf (dA things 3)) {st:Nat} (hst:st < 4) :
  Gd rz n c ((R4 hands things).drop st++(R4 hands things).take st):=by
 have hmem:∀p∈(R4 hands things).drop st++(R4 hands things).take st,p∈R4 hands things:=fun p hp=>by
  rcases List.mem_append.mp hp with z | z
  ·exact List.mem_of_mem_drop z
  ·exact List.mem_of_mem_take z
 refine ⟨?_,fun p hp=>⟨(hl p (hmem p hp)).1,(hl p (hmem p hp)).2.1⟩,?_,fun p hp=>(hl p (hmem p hp)).2.2,?_⟩
 ·rw [List.length_append,List.length_drop,List.length_take]
  show 2<=4 - st + min st 4
  omega
 ·have hp:((R4 hands things).drop st++(R4 hands things).take st).Perm (R4 hands things):=by
   refine List.Perm.trans List.perm_append_comm ?_
   rw [List.take_append_drop]
  exact (hp.map (·.2)).nodup_iff.mpr nd
 ·intro z hz
  rcases (show st=0\/st=1\/st=2\/st=3 by omega) with rfl | rfl | rfl | rfl <;> simp [br] at hz <;> rcases hz with rfl | rfl | rfl | rfl <;> assumption
theorem z9 {n:Nat} {g:List Nat} (h4:4<=n) (hg:g.Perm (List.range 4)):(fT n g).Perm (List.range n):=by
 have e:List.range n=List.range 4++(List.range (n - 4)).map (4 + ·):=by
  rw [<-List.range_add]; congr 1; omega
 rw [e]
 exact hg.append_right _
theorem Ge {a b:List D} (h:a.length + b.length<=1000):addE (.lst a) (.lst b)=some (.lst (a++b)):=by
 show (if a.length + b.length<=sizeLine then some (D.lst (a++b)) else none)=_
 rw [if_pos (by rw [sizeLine_eq]; omega)]
abbrev gG:D:=.lst [TN [1,0,3,2],TN [2,1],TN [0,3]]
theorem Kz (ns:List Int):∃(n S:Nat) (rz:List (List Nat)) (c:Nat->Nat->Nat) (ring:List (Nat × Nat)),Sq rz n/\Tc S n c/\S<=400/\Gd rz n c ring/\qY [IN ns]=.ok (.tup [WD rz,TQ S c n,.tup (ring.map ay)]):=by
 obtain ⟨c20,h20⟩:=jH ns 20 (by omega)
 obtain ⟨c21,h21⟩:=jH ns 21 (by omega)
 obtain ⟨c22,h22⟩:=jH ns 22 (by omega)
 obtain ⟨c30,h30⟩:=jH ns 30 (by omega)
 have hm4:c20 % 4 < 4:=Nat.mod_lt _ (by omega)
 have hst:c20 / 4 % 4 < 4:=Nat.mod_lt _ (by omega)
 generalize hn:4 + c20 % 4=n
 have n4:4<=n:=by omega
 have n7:n<=7:=by omega
 obtain ⟨hands,hH,r21⟩:=nM c21 n (by omega)
 obtain ⟨things,hT,r22⟩:=nM c22 n (by omega)
 obtain ⟨d2,hd2,r30⟩:=nM c30 n (by omega)
 obtain ⟨rows0,rl0,rp0,rw0⟩:=Mh ns 23 n n (by omega) (by omega) (by omega)
 have FS0:am gG (nD 0)=some (TN [1,0,3,2]):=iS rfl
 have FS1:am gG (nD 1)=some (TN [2,1]):=iS rfl
 have FS2':am gG (nD 2)=some (TN [0,3]):=iS rfl
 obtain ⟨s0,p0,e0⟩:=tj (s0:=IN ns) (rz:=rows0) (x7:=none) hT hH n4 n7 rl0 rp0 (by omega) FS0 (by simp) (by simp) (by simp) (by simp)
 generalize hv0 : [1,0,3,2].map (dA things)++s0=v0 at p0 e0
 have rl1:(rows0.set (dA hands 0) v0).length=n:=by rw [List.length_set]; exact rl0
 have rp1:∀row∈rows0.set (dA hands 0) v0,row.Perm (List.range n):=fun row hr=>by
  rcases List.mem_or_eq_of_mem_set hr with z | z
  ·exact rp0 row z
  ·rw [z]; exact p0
 obtain ⟨s1,p1,e1⟩:=tj (s0:=IN ns) (rz:=rows0.set (dA hands 0) v0) (x7:=some (TN ([1,0,3,2].map (dA things)))) hT hH n4 n7 rl1 rp1 (by omega) FS1 (by simp) (by simp) (by simp) (by simp)
 generalize hv1 : [2,1].map (dA things)++s1=v1 at p1 e1
 have rl2:((rows0.set (dA hands 0) v0).set (dA hands 1) v1).length=n:=by rw [List.length_set]; exact rl1
 have rp2:∀row∈(rows0.set (dA hands 0) v0).set (dA hands 1) v1,row.Perm (List.range n):=fun row hr=>by
  rcases List.mem_or_eq_of_mem_set hr with z | z
  ·exact rp1 row z
  ·rw [z]; exact p1
 obtain ⟨s2,p2,e2⟩:=tj (s0:=IN ns) (rz:=(rows0.set (dA hands 0) v0).set (dA hands 1) v1) (x7:=some (TN ([2,1].map (dA things)))) hT hH n4 n7 rl2 rp2 (by omega) FS2' (by simp) (by simp) (by simp) (by simp)
 generalize hv2 : [0,3].map (dA things)++s2=v2 at p2 e2
 have rl3:(((rows0.set (dA hands 0) v0).set (dA hands 1) v1).set (dA hands 2) v2).length=n:=by rw [List.length_set]; exact rl2
 have rp3:∀row∈((rows0.set (dA hands 0) v0).set (dA hands 1) v1).set (dA hands 2) v2,row.Perm (List.range n):=fun row hr=>by
  rcases List.mem_or_eq_of_mem_set hr with z | z
  ·exact rp2 row z
  ·rw [z]; exact p2
 have hd:∀a,a < 4->dA hands a < n:=fun a ha=>(fg hH (by omega)).2
 have ht:∀a,a < 4->dA things a < n:=fun a ha=>(fg hT (by omega)).2
 have hne:∀a b,a < 4->b < 4->a≠b->dA hands a≠dA hands b:=fun a b ha hb q z=>q (lv hH (by omega) (by omega) z)
 have w0:Wr (((rows0.set (dA hands 0) v0).set (dA hands 1) v1).set (dA hands 2) v2) (dA hands 0)=v0:=by
  unfold Wr
  rw [List.getElem?_set_ne (hne 2 0 (by omega) (by omega) (by omega)),List.getElem?_set_ne (hne 1 0 (by omega) (by omega) (by omega)),List.getElem?_set_self (by rw [rl0]; exact hd 0 (by omega))]; rfl
 have w1:Wr (((rows0.set (dA hands 0) v0).set (dA hands 1) v1).set (dA hands 2) v2) (dA hands 1)=v1:=by
  unfold Wr
  rw [List.getElem?_set_ne (hne 2 1 (by omega) (by omega) (by omega)),List.getElem?_set_self (by rw [rl1]; exact hd 1 (by omega))]; rfl
 have w2:Wr (((rows0.set (dA hands 0) v0).set (dA hands 1) v1).set (dA hands 2) v2) (dA hands 2)=v2:=by
  unfold Wr
  rw [List.getElem?_set_self (by rw [rl2]; exact hd 2 (by omega))]; rfl
 generalize hrows:((rows0.set (dA hands 0) v0).set (dA hands 1) v1).set (dA hands 2) v2=rz at *
 have R:Sq rz n:=⟨by omega,n7,rl3,rp3⟩
 have nd0:v0.Nodup:=p0.nodup_iff.mpr List.nodup_range
 have nd1:v1.Nodup:=p1.nodup_iff.mpr List.nodup_range
 have nd2:v2.Nodup:=p2.nodup_iff.mpr List.nodup_range
 have u0:(Wr rz (dA hands 0)).idxOf (dA things 1) < (Wr rz (dA hands 0)).idxOf (dA things 0):=by rw [w0]; exact qa nd0 (i:=0) (j:=1) (by rw [<-hv0]; rfl) (by rw [<-hv0]; rfl) (by omega)
 have u2:(Wr rz (dA hands 0)).idxOf (dA things 3) < (Wr rz (dA hands 0)).idxOf (dA things 2):=by rw [w0]; exact qa nd0 (i:=2) (j:=3) (by rw [<-hv0]; rfl) (by rw [<-hv0]; rfl) (by omega)
 have u1:(Wr rz (dA hands 1)).idxOf (dA things 2) < (Wr rz (dA hands 1)).idxOf (dA things 1):=by rw [w1]; exact qa nd1 (i:=0) (j:=1) (by rw [<-hv1]; rfl) (by rw [<-hv1]; rfl) (by omega)
 have u3:(Wr rz (dA hands 2)).idxOf (dA things 0) < (Wr rz (dA hands 2)).idxOf (dA things 3):=by rw [w2]; exact qa nd2 (i:=0) (j:=1) (by rw [<-hv2]; rfl) (by rw [<-hv2]; rfl) (by omega)
 have f0:(fT n [0,1,3,2]).Perm (List.range n):=z9 n4 (by decide)
 have f1:(fT n [2,1,3,0]).Perm (List.range n):=z9 n4 (by decide)
 obtain ⟨a10,a11,g0⟩:=AS (s0:=IN ns) (d4:=WL rz) (d5:=gG) (d7:=TN ([0,3].map (dA things))) hT hH n4 n7 (by simp) f0 (ds:=[LN (List.range n),LN (List.range n)]) (k:=0) (by simp) none none
 obtain ⟨b10,b11,g1⟩:=AS (s0:=IN ns) (d4:=WL rz) (d5:=gG) (d7:=TN ([0,3].map (dA things))) hT hH n4 n7 (by simp) f1 (ds:=[TN (dealt n hands things [0,1,3,2]),LN (List.range n)]) (k:=1) (by simp) a10 a11
 have dp0:=Cd hT hH f0
 have dp1:=Cd hT hH f1
 have q0:∀a,a < 4->dA (dealt n hands things [0,1,3,2]) (dA hands a)=dA things (dA (fT n [0,1,3,2]) a):=fun a ha=>Bm hH (by omega)
 have q1:∀a,a < 4->dA (dealt n hands things [2,1,3,0]) (dA hands a)=dA things (dA (fT n [2,1,3,0]) a):=fun a ha=>Bm hH (by omega)
 generalize dealt n hands things [0,1,3,2]=d0 at *
 generalize dealt n hands things [2,1,3,0]=d1 at *
 have hc:∀k:Nat,∃c:Nat,k<=3->dD [IN ns,nD (31 + k)]=.ok (nD c):=by
  intro k
  by_cases hk:k<=3
  ·obtain ⟨c,hc⟩:=jH ns (31 + k) (by omega)
   exact ⟨c,fun _=>hc⟩
  ·exact ⟨0,fun z=>absurd z hk⟩
 obtain ⟨g,hg⟩:=Classical.axiomOfChoice hc
 have hcw:=fO (nl:=1) (cap:=[0]) (fi:=cC cw (ae (ci 3) aa)) (ft:=av 0) (fe:=f2 (ci 1) (f2 (aA (ae (gv 1) (ae (f2 (ci 31) (gv 0) addA) aa)) [] dD) (ci 20) ba) addA) (r:=[some (IN ns),some (nD n),some (TN hands),some (TN things),some (WL rz),some gG,some (nD 1),some (TN ([0,3].map (dA things))),some (.lst [TN d0,TN d1,TN d2]),some (TN [2,1,3,0]),b10,b11,none,none,none,none]) (l:=List.range 3) nD (fun k=>nD (1 + g k % 20)) (iX (ag (d:=nD 3) rfl al) (iW (by omega))) (by simp) fun k hk=>⟨[some (nD k),some (IN ns)],rfl,by
  have hk':=List.mem_range.mp hk
  exact ai (a:=nD 1) rfl (ai (b:=nD 20) (aN (ag (d:=IN ns) rfl (ag (ai (a:=nD 31) (b:=nD k) rfl rfl (fj 31 k)) al)) (hg k (by omega))) rfl (iH (by omega))) (fj 1 _)⟩
 have hw:∀k,1<=1 + g k % 20/\1 + g k % 20<=20:=fun k=>by have:=Nat.mod_lt (g k) (show 20 > 0 by omega); omega
 have hcw':D.lst ((List.range 3).map fun k=>nD (1 + g k % 20))=LN [1 + g 0 % 20,1 + g 1 % 20,1 + g 2 % 20]:=rfl
 rw [hcw'] at hcw
 have k0:=hw 0
 have k1:=hw 1
 have k2:=hw 2
 generalize 1 + g 0 % 20=x0 at *
 generalize 1 + g 1 % 20=x1 at *
 generalize 1 + g 2 % 20=x2 at *
 have hSum:=za [x0,x1,x2]
 have hS : [x0,x1,x2].sum=x0 + x1 + x2:=by simp [Nat.add_assoc]
 rw [hS] at hSum
 generalize hSS:x0 + x1 + x2=S at *
 have hS0:0 < S:=by omega
 have hqs:∀q∈[(x0,d0),(x1,d1),(x2,d2)],(1<=q.1/\q.1<=20)/\q.2.Perm (List.range n):=fun q hq=>by
  simp only [List.mem_cons,List.not_mem_nil,or_false] at hq
  rcases hq with rfl | rfl | rfl
  ·exact ⟨k0,dp0⟩
  ·exact ⟨k1,dp1⟩
  ·exact ⟨k2,hd2⟩
 have P:Pts n ([(x0,d0),(x1,d1),(x2,d2)].map (wt S)):=⟨by omega,n7,by simp,by simp,fun p hp=>by
  obtain ⟨q,hq,rfl⟩:=List.mem_map.mp hp
  have:=(hqs q hq).1
  exact ⟨Bd.low hS0 (by show S < 1024; omega) (by rw [Int.natAbs_natCast]; show q.1 < 1024; omega),(hqs q hq).2⟩⟩
 have hmix:=Cj P
 rw [zR hS0,sD] at hmix
 have t:Tc S n (cut n (cq [(x0,d0),(x1,d1),(x2,d2)])):=sE hS0 (by omega) fun x hx=>by
  rw [sC hx _ fun q hq=>(hqs q hq).2]
  show [x0,x1,x2].sum=S
  rw [hS]
 have cpos:∀h x,h < n->x < n->(dA d0 h=x\/dA d1 h=x)->0 < cut n (cq [(x0,d0),(x1,d1),(x2,d2)]) h x:=fun h x hh hx e=>by
  have ec:cut n (cq [(x0,d0),(x1,d1),(x2,d2)]) h x=cq [(x0,d0),(x1,d1),(x2,d2)] h x:=if_pos ⟨hh,hx⟩
  rw [ec,tJ,tJ]
  rcases e with e | e
  ·rw [if_pos e]; show 0 < x0 + _; omega
  ·rw [if_pos e]; show 0 < _ + (x1 + _); omega
 have hzz:=sU (fa:=gv 12) (fb:=gv 8) (r:=[some (IN ns),some (nD n),some (TN hands),some (TN things),some (WL rz),some gG,some (nD 1),some (TN ([0,3].map (dA things))),some (.lst [TN d0,TN d1,TN d2]),some (TN [2,1,3,0]),b10,b11,some (LN [x0,x1,x2]),none,none,none]) (d:=LN [x0,x1,x2]) (e:=.lst [TN d0,TN d1,TN d2]) rfl rfl rfl rfl
 have hcp:=fO (nl:=2) (cap:=[12]) (fi:=dQ (gv 12) (gv 8)) (ft:=bT (aK (av 0) (aK (av 1) bQ))) (fe:=c0 (ae (aA (ae (gv 0) (ae (fC (ae (gv 2) aa) sumD) aa)) [] gO) (ae (gv 1) aa))) (r:=[some (IN ns),some (nD n),some (TN hands),some (TN things),some (WL rz),some gG,some (nD 1),some (TN ([0,3].map (dA things))),some (.lst [TN d0,TN d1,TN d2]),some (TN [2,1,3,0]),b10,b11,some (LN [x0,x1,x2]),none,none,none]) (l:=[(x0,d0),(x1,d1),(x2,d2)]) (fun q=>D.tup [nD q.1,TN q.2]) (fun q=>pD (wt S q)) hzz (by simp) fun q hq=>⟨[some (nD q.1),some (TN q.2),some (LN [x0,x1,x2])],rfl,by
  have:=(hqs q hq).1
  exact hV (ag (aN (ag (d:=nD q.1) rfl (ag (bD (ag (d:=LN [x0,x1,x2]) rfl al) hSum) al)) (nL (k:=10) hS0 (by show S < 1024; omega) (by omega))) (ag (d:=TN q.2) rfl al)) (by simp)⟩
 have hcp':D.lst ([(x0,d0),(x1,d1),(x2,d2)].map fun q=>pD (wt S q))=LP ([(x0,d0),(x1,d1),(x2,d2)].map (wt S)):=rfl
 rw [hcp'] at hcp
 have G:Gd rz n (cut n (cq [(x0,d0),(x1,d1),(x2,d2)])) ((R4 hands things).drop (c20 / 4 % 4)++(R4 hands things).take (c20 / 4 % 4)):=by
  refine EQ (fun p hp=>?_) ?_ u0 u1 u2 u3 hst
  ·simp only [List.mem_cons,List.not_mem_nil,or_false] at hp
   rcases hp with rfl | rfl | rfl | rfl
   ·exact ⟨hd 0 (by omega),ht 0 (by omega),cpos _ _ (hd 0 (by omega)) (ht 0 (by omega)) (.inl (q0 0 (by omega)))⟩
   ·exact ⟨hd 1 (by omega),ht 1 (by omega),cpos _ _ (hd 1 (by omega)) (ht 1 (by omega)) (.inl (q0 1 (by omega)))⟩
   ·exact ⟨hd 0 (by omega),ht 2 (by omega),cpos _ _ (hd 0 (by omega)) (ht 2 (by omega)) (.inr (q1 0 (by omega)))⟩
   ·exact ⟨hd 2 (by omega),ht 3 (by omega),cpos _ _ (hd 2 (by omega)) (ht 3 (by omega)) (.inl (q0 2 (by omega)))⟩
  ·show ([0,1,2,3].map (dA things)).Nodup
   refine sS (by simp) fun x hx y hy e=>lv hT ?_ ?_ e
   ·have:x < 4:=by simp at hx; omega
    omega
   ·have:y < 4:=by simp at hy; omega
    omega
 refine ⟨n,S,rz,_,_,R,t,by omega,G,bY (B:=wJ) (n:=16) ?_⟩
 unfold wJ
 refine (aq (aX (d:=nD n) (ai (a:=nD 4) rfl (ai (b:=nD 4) (aN (ag (d:=IN ns) rfl (ag (d:=nD 20) rfl al)) h20) rfl (iH (by omega))) (by rw [fj,hn])))).trans ?_
 refine (aq (aX (d:=TN hands) (aN (ag (aN (ag (d:=IN ns) rfl (ag (d:=nD 21) rfl al)) h21) (ag (d:=nD n) rfl al)) r21))).trans ?_
 refine (aq (aX (d:=TN things) (aN (ag (aN (ag (d:=IN ns) rfl (ag (d:=nD 22) rfl al)) h22) (ag (d:=nD n) rfl al)) r22))).trans ?_
 refine (aq (aX (d:=WL rows0) (bD (ag (aN (ag (d:=IN ns) rfl (ag (d:=nD 23) rfl (ag (d:=nD n) rfl (ag (d:=nD n) rfl al)))) rw0) al) rfl))).trans ?_
 refine (aq (aX (d:=gG) rfl)).trans ?_
 have lp:aE (av 6) rm ((List.range 3).map nD) [some (IN ns),some (nD n),some (TN hands),some (TN things),some (WL rows0),some gG,none,none,none,none,none,none,none,none,none,none]=.nx [some (IN ns),some (nD n),some (TN hands),some (TN things),some (WL rz),some gG,some (nD 2),some (TN ([0,3].map (dA things))),none,none,none,none,none,none,none,none]:=by
  show aE (av 6) rm [nD 0,nD 1,nD 2] _=_
  exact (cP rfl e0).trans ((cP rfl e1).trans ((cP rfl e2).trans dj))
 refine (aq ((dk (iX (ag (d:=nD 3) rfl al) (iW (by omega)))).trans lp)).trans ?_
 refine (aq (aX (d:=.lst [LN (List.range n),LN (List.range n)]) (gL (ag (bD (ag (d:=nD n) rfl al) (qq (by omega))) (ag (bD (ag (d:=nD n) rfl al) (qq (by omega))) al)) (by simp)))).trans ?_
 have lq:aE (bT (aK (av 6) (aK (av 9) bQ))) w9 (bh 0 [TN [0,1,3,2],TN [2,1,3,0]]) [some (IN ns),some (nD n),some (TN hands),some (TN things),some (WL rz),some gG,some (nD 2),some (TN ([0,3].map (dA things))),some (.lst [LN (List.range n),LN (List.range n)]),none,none,none,none,none,none,none]=.nx [some (IN ns),some (nD n),some (TN hands),some (TN things),some (WL rz),some gG,some (nD 1),some (TN ([0,3].map (dA things))),some (.lst [TN d0,TN d1]),some (TN [2,1,3,0]),b10,b11,none,none,none,none]:=
  (cP (r1:=[some (IN ns),some (nD n),some (TN hands),some (TN things),some (WL rz),some gG,some (nD 0),some (TN ([0,3].map (dA things))),some (.lst [LN (List.range n),LN (List.range n)]),some (TN [0,1,3,2]),none,none,none,none,none,none]) rfl g0).trans ((cP (r1:=[some (IN ns),some (nD n),some (TN hands),some (TN things),some (WL rz),some gG,some (nD 1),some (TN ([0,3].map (dA things))),some (.lst [TN d0,LN (List.range n)]),some (TN [2,1,3,0]),a10,a11,none,none,none,none]) rfl g1).trans dj)
 refine (aq ((dk (mC (d:=.lst [TN [0,1,3,2],TN [2,1,3,0]]) rfl rfl)).trans lq)).trans ?_
 refine (aq (jC (d:=.lst [TN d0,TN d1]) (ds:=[TN d2]) (d':=.lst [TN d0,TN d1,TN d2]) rfl rfl (ag (aN (ag (aN (ag (d:=IN ns) rfl (ag (d:=nD 30) rfl al)) h30) (ag (d:=nD n) rfl al)) r30) al) (kM (by simp)))).trans ?_
 refine (aq (aX (d:=LN [x0,x1,x2]) hcw)).trans ?_
 refine (aq (aX (d:=LP ([(x0,d0),(x1,d1),(x2,d2)].map (wt S))) hcp)).trans ?_
 have ih:∀a,a < 4->am (TN hands) (nD a)=some (nD (dA hands a)):=fun a ha=>kD (fg hH (by omega)).1
 have it:∀a,a < 4->am (TN things) (nD a)=some (nD (dA things a)):=fun a ha=>kD (fg hT (by omega)).1
 have pr:∀{r:ak} (a b:Nat),a < 4->b < 4->dc r 2=.ok (TN hands)->dc r 3=.ok (TN things)->c0 (ae (f2 (gv 2) (fun _=>Res.ok (nD a)) am) (ae (f2 (gv 3) (fun _=>Res.ok (nD b)) am) aa)) r=.ok (ay (dA hands a,dA things b)):=fun a b ha hb h1 h2=>hV (ag (ai (b:=nD a) h1 rfl (ih a ha)) (ag (ai (b:=nD b) h2 rfl (it b hb)) al)) (by simp)
 refine (aq (aX (d:=PL (R4 hands things)) (gL (ag (pr 0 0 (by omega) (by omega) rfl rfl) (ag (pr 1 1 (by omega) (by omega) rfl rfl) (ag (pr 0 2 (by omega) (by omega) rfl rfl) (ag (pr 2 3 (by omega) (by omega) rfl rfl) al)))) (by simp)))).trans ?_
 refine (aq (aX (d:=nD (c20 / 4 % 4)) (ai (b:=nD 4) (ai (b:=nD 4) (aN (ag (d:=IN ns) rfl (ag (d:=nD 20) rfl al)) h20) rfl (qi (by omega) (by omega))) rfl (iH (by omega))))).trans ?_
 have hR4:((R4 hands things).map ay).length=4:=rfl
 have sl1:=A9 ((R4 hands things).map ay) (i:=c20 / 4 % 4) (by omega)
 have sl2:=y0 ((R4 hands things).map ay) (c20 / 4 % 4)
 refine bK (bR (hV (ag (bD (ag (d:=WL rz) rfl al) rfl) (ag (aN (ag (d:=LP ([(x0,d0),(x1,d1),(x2,d2)].map (wt S))) rfl (ag (d:=nD n) rfl al)) hmix) (ag (bD (ag (ai (jB (d:=PL (R4 hands things)) rfl (jG (i:=((c20 / 4 % 4:Nat):Int)) rfl) rfl sl1) (jB (d:=PL (R4 hands things)) rfl rfl (jG (i:=((c20 / 4 % 4:Nat):Int)) rfl) sl2) (Ge ?_)) al) ?_) al))) (by simp)))
 ·rw [List.length_drop,List.length_take]; omega
 ·rw [e_tupL,<-List.map_drop,<-List.map_take,<-List.map_append]
end Law
end
section
set_option exponentiation.threshold 3000
namespace Law
open PySem PyProof.Rows L2 DL Fq
theorem Ak {rz:List (List Nat)} {n S b:Nat} {c:Nat->Nat->Nat} {ring:List (Nat × Nat)} (R:Sq rz n) (t:Tc S n c) (hS:S<=400) (g:Gd rz n c ring) (b1:1<=b) (b60:b<=60) {d0 d1:D} {x6:Option D} :
  (eL (bg (aL (aA (ae (gv 5) (ae (gv 2) (ae (gv 3) aa))) [] lJ))) (bg (aL (aA (ae (gv 2) (ae (gv 3) (ae (gv 5) (ae (gv 4) aa)))) [] j4)))) [some d0,some d1,some (WD rz),some (TQ S c n),some (nD b),some (.tup (ring.map ay)),x6]=.ok false:=by
 rw [cZ (en (b:=true) (cE (aN (ag (d:=.tup (ring.map ay)) rfl (ag (d:=WD rz) rfl (ag (d:=TQ S c n) rfl al))) (KL R t g)) rfl))]
 exact en (b:=true) (cE (aN (ag (d:=WD rz) rfl (ag (d:=TQ S c n) rfl (ag (d:=.tup (ring.map ay)) rfl (ag (d:=nD b) rfl al)))) (zl R t hS g b1 b60)) rfl)
theorem main (ns:List Int) (_:ns.length<=63):r6 [.lst (ns.map .int)]=.ok (.bl true):=by
 obtain ⟨c1,h1⟩:=jH ns 1 (by omega)
 have hm6:c1 % 6 < 6:=Nat.mod_lt _ (by omega)
 have hm5:c1 / 6 % 5 < 5:=Nat.mod_lt _ (by omega)
 generalize hn:2 + c1 % 6=n
 have hn2:2<=n:=by omega
 have hn7:n<=7:=by omega
 obtain ⟨c2,h2⟩:=jH ns (2 + n) (by omega)
 have hm60:c2 % 60 < 60:=Nat.mod_lt _ (by omega)
 obtain ⟨rz,r1,r2,r3⟩:=Mh ns 2 n n (by omega) (by omega) (by omega)
 have R:Sq rz n:=⟨by omega,by omega,r1,r2⟩
 obtain ⟨qs,q1,q2,q3⟩:=Ky ns (3 + n) n (2 + c1 / 6 % 5) (by omega) (by omega) (by omega) (by omega)
 have hb:=sY (qs.map (·.1)) fun x hx=>by
  obtain ⟨q,hq,rfl⟩:=List.mem_map.mp hx
  exact (q2 q hq).1
 rw [List.length_map,q1] at hb
 generalize hS:(qs.map (·.1)).sum=S at *
 have hS0:0 < S:=by omega
 have hperm:∀q∈qs,q.2.Perm (List.range n):=fun q hq=>(q2 q hq).2
 have P:Pts n (qs.map (wt S)):=⟨by omega,hn7,by rw [List.length_map]; omega,by rw [List.length_map]; omega,fun p hp=>by
  obtain ⟨q,hq,rfl⟩:=List.mem_map.mp hp
  have:=(q2 q hq).1
  exact ⟨Bd.low hS0 (by show S < 1024; omega) (by rw [Int.natAbs_natCast]; show q.1 < 1024; omega),hperm q hq⟩⟩
 have hmix:=Cj P
 rw [zR hS0,sD] at hmix
 have t:Tc S n (cut n (cq qs)):=sE hS0 (by omega) fun x hx=>by rw [sC hx qs hperm,hS]
 generalize cut n (cq qs)=c at hmix t
 generalize hbb:1 + c2 % 60=b
 have b1:1<=b:=by omega
 have b60:b<=60:=by omega
 refine bY (B:=pF) (n:=7) ?_
 unfold pF
 refine (aq (aX (d:=nD n) (ai (a:=nD 2) rfl (ai (b:=nD 6) (aN (ag (d:=IN ns) rfl (ag (d:=nD 1) rfl al)) h1) rfl (iH (by omega))) (by rw [fj,hn])))).trans ?_
 refine (aq (aX (aN (ag (d:=IN ns) rfl (ag (d:=nD 2) rfl (ag (d:=nD n) rfl (ag (d:=nD n) rfl al)))) r3))).trans ?_
 refine (aq (aX (d:=TQ S c n) (aN (ag (aN (ag (d:=IN ns) rfl (ag (ai (a:=nD 3) (b:=nD n) rfl rfl (fj 3 n)) (ag (d:=nD n) rfl (ag (d:=nD (2 + c1 / 6 % 5)) (ai (a:=nD 2) rfl (ai (b:=nD 5) (ai (b:=nD 6) (aN (ag (d:=IN ns) rfl (ag (d:=nD 1) rfl al)) h1) rfl (qi (by omega) (by omega))) rfl (iH (by omega))) (fj _ _)) al)))) q3) (ag (d:=nD n) rfl al)) hmix))).trans ?_
 refine (aq (aX (d:=nD b) (ai (a:=nD 1) rfl (ai (b:=nD 60) (aN (ag (d:=IN ns) rfl (ag (ai (a:=nD 2) (b:=nD n) rfl rfl (fj 2 n)) al)) h2) rfl (iH (by omega))) (by rw [fj,hbb])))).trans ?_
 have first:∃y5,kO [WD rz,TQ S c n]=.ok y5/\(bS bB (bq (f2 (gv 5) (fun _=>Res.ok D.non) lX)) (Mg (bS bB (aL (aA (ae (aA (ae (gv 2) (ae (gv 3) aa)) [] oD) aa) [] oH)) (Mg (au bB (fun _=>Res.ok (D.bl false))) ar) ar) ar) (Mg (bS bB (eL (bg (aL (aA (ae (gv 5) (ae (gv 2) (ae (gv 3) aa))) [] lJ))) (bg (aL (aA (ae (gv 2) (ae (gv 3) (ae (gv 5) (ae (gv 4) aa)))) [] j4)))) (Mg (au bB (fun _=>Res.ok (D.bl false))) ar) ar) ar)) [some (IN ns),some (nD n),some (WD rz),some (TQ S c n),some (nD b),some y5,none]=.nx [some (IN ns),some (nD n),some (WD rz),some (TQ S c n),some (nD b),some y5,none]:=by
  by_cases hC:Co (Eg rz (tc S c) n) n=[]
  ·refine ⟨.non,KD R t.tok hC,?_⟩
   refine (dP (cr (ai (a:=.non) (b:=.non) rfl rfl rfl))).trans ?_
   obtain ⟨f,F,fm,f2'⟩:=Ks R t.tok
   have hr:=Lm F R.n7
   have g:Gf (Eg rz (tc S c) n) n:=pH R
   obtain ⟨d,hd⟩:=Gr.lS 63 (List.range n) (by simp; omega) hC
   have hd1:∀x,x < n->∀y∈Eg rz (tc S c) n x,d y < d x:=fun x hx y hy=>hd x (List.mem_range.mpr hx) y hy (List.mem_range.mpr (g.lt x hx y hy))
   have hnil:Gr.di f n (List.range n)=[]:=Gr.c8 (n:=n) (d:=d) (fun x hx y hy=>hd1 x hx y ((fm x hx y).mp hy)) n (List.range n) List.nodup_range (fun x hx=>List.mem_range.mp hx) (by simp)
   rw [hnil] at hr
   exact aq ((bc (cE (aN (ag (aN (ag (d:=WD rz) rfl (ag (d:=TQ S c n) rfl al)) f2') al) hr) rfl)).trans (e_skip _))
  ·obtain ⟨ring,g,e⟩:=AR R t hC
   refine ⟨_,e,?_⟩
   refine (bc (cr (ai (a:=.tup (ring.map ay)) (b:=.non) rfl rfl rfl))).trans ?_
   exact aq ((bc (Ak R t (by omega) g b1 b60)).trans (e_skip _))
 obtain ⟨y5,s1,s2⟩:=first
 refine (aq (aX (d:=y5) (aN (ag (d:=WD rz) rfl (ag (d:=TQ S c n) rfl al)) s1))).trans ?_
 refine (aq s2).trans ?_
 have second:∃y6,lI [WD rz,TQ S c n,nD c2]=.ok y6/\(dy (bq (f2 (gv 6) (fun _=>Res.ok D.non) fB)) (bg (aL (aA (ae (gv 2) (ae (gv 3) (ae (gv 6) (ae (gv 4) aa)))) [] j4)))) [some (IN ns),some (nD n),some (WD rz),some (TQ S c n),some (nD b),some y5,some y6]=.ok false:=by
  rcases run_walked R t c2 with e | ⟨ring,g,e⟩
  ·exact ⟨.non,e,pJ (cr (ai (a:=.non) (b:=.non) rfl rfl rfl))⟩
  ·refine ⟨_,e,(ni (cr (ai (a:=.tup (ring.map ay)) (b:=.non) rfl rfl rfl))).trans ?_⟩
   exact en (b:=true) (cE (aN (ag (d:=WD rz) rfl (ag (d:=TQ S c n) rfl (ag (d:=.tup (ring.map ay)) rfl (ag (d:=nD b) rfl al)))) (zl R t (by omega) g b1 b60)) rfl)
 obtain ⟨y6,s3,s4⟩:=second
 refine (aq (aX (d:=y6) (aN (ag (d:=WD rz) rfl (ag (d:=TQ S c n) rfl (ag (aN (ag (d:=IN ns) rfl (ag (ai (a:=nD 2) (b:=nD n) rfl rfl (fj 2 n)) al)) h2) al))) s3))).trans ?_
 refine (aq ((bc s4).trans (e_skip _))).trans ?_
 obtain ⟨n2,S2,rows2,c2',ring2,R2,t2,hS2,g2,e2⟩:=Kz ns
 refine (aq (zC (d:=.tup [WD rows2,TQ S2 c2' n2,.tup (ring2.map ay)]) (aN (ag (d:=IN ns) rfl al) e2) rfl)).trans ?_
 refine (aq ((bc (Ak R2 t2 hS2 g2 b1 b60)).trans (e_skip _))).trans ?_
 obtain ⟨ring3,g3,e3⟩:=AR R2 t2 (Dx R2 t2 g2)
 exact bK (bR (ai (a:=.tup (ring3.map ay)) (b:=.non) (aN (ag (d:=WD rows2) rfl (ag (d:=TQ S2 c2' n2) rfl al)) e3) rfl rfl))
end Law
end
open PySem PySem.W PyProof.Rows
abbrev P0:=PySem.Challenge.rw_ringtrade_k34_rings_of_shares.prog
namespace PySem.W.Fast
def tw11644823007394642610:=0
def tw5999944478443554004:=0
def tw5081513307702286327:=0
def tw7075206531630210000:=0
def tw7947385279027074492:=0
def tw2760774656836611926:=0
def tw14577866172058905182:=0
def tw7217799099630248479:=0
def tw10307513341875593176:=0
def tw6856052264061111107:=0
def tw277017375237024921:=0
def tw9418989536036693320:=0
def tw11737349645321843537:=0
def tw9286370651937701126:=0
end PySem.W.Fast
set_option maxRecDepth 100000 in
set_option maxHeartbeats 0 in
theorem PySem.Challenge.cw_ringtrade_k34_rings_of_shares_holds : PySem.Challenge.rw_ringtrade_k34_rings_of_shares.Holds := by
 w_on; o_law; k_head; (case hw=>w_witness2)
 k_fill
 refine DL.DQ (l:=PySem.Challenge.rw_ringtrade_k34_rings_of_shares) (k:=8) (x := "_law_script") (F:=Law.r6) rfl rfl ⟨rfl,by decide,by decide,rfl⟩ (fun w h Y=>PySem.W.kIn_of Y) Law.main ?C
 intro w mg fa h KX G hmg
 have T:Law.Txt (L2.aO KX) mg:=by
  dsimp only [L2.aO]
  refine ⟨?un,?uo,?up,?uq,?ur,?ut,?uu,?uv,?uw,?ux,?uy,?uz,?u0,?u1,?u2⟩
  case un|uo|up|uq|ur|ut|uu|uv|uw|ux|uy|uz|u0|u1=>(refine' PySem.W.mg_none_of KX G ?_; k_is)
  case u2=>(refine' DL.DC KX G ?u3 ?u4; (case u3=>k_is); (case u4=>k_is))
 have u5:DL.DefAt (L2.aO KX) mg "_law_row" Law.uY:=by
  dsimp only [L2.aO]
  refine' DL.ce KX G ?a ?l ?c ?k
  case a|l|c|k=>k_is
 have u6:DL.DefAt (L2.aO KX) mg "_law_cell" Law.vQ:=by
  dsimp only [L2.aO]
  refine' DL.ce KX G ?a ?l ?c ?k
  case a|l|c|k=>k_is
 have u7:DL.DefAt (L2.aO KX) mg "_law_wishes" Law.ou:=by
  dsimp only [L2.aO]
  refine' DL.ce KX G ?a ?l ?c ?k
  case a|l|c|k=>k_is
 have u8:DL.DefAt (L2.aO KX) mg "_law_common" Law.vH:=by
  dsimp only [L2.aO]
  refine' DL.ce KX G ?a ?l ?c ?k
  case a|l|c|k=>k_is
 have u9:DL.DefAt (L2.aO KX) mg "_law_low" Law.uX:=by
  dsimp only [L2.aO]
  refine' DL.ce KX G ?a ?l ?c ?k
  case a|l|c|k=>k_is
 have va:DL.DefAt (L2.aO KX) mg "_law_plus" Law.vT:=by
  dsimp only [L2.aO]
  refine' DL.ce KX G ?a ?l ?c ?k
  case a|l|c|k=>k_is
 have vb:DL.DefAt (L2.aO KX) mg "_law_mixed" Law.ox:=by
  dsimp only [L2.aO]
  refine' DL.ce KX G ?a ?l ?c ?k
  case a|l|c|k=>k_is
 have vc:DL.DefAt (L2.aO KX) mg "steps_within" Law.oM:=by
  dsimp only [L2.aO]
  refine' DL.ce KX G ?a ?l ?c ?k
  case a|l|c|k=>k_is
 have vd:DL.DefAt (L2.aO KX) mg "places_that_go_on" Law.oC:=by
  dsimp only [L2.aO]
  refine' DL.ce KX G ?a ?l ?c ?k
  case a|l|c|k=>k_is
 have ve:DL.DefAt (L2.aO KX) mg "ring_of_steps" Law.vZ:=by
  dsimp only [L2.aO]
  refine' DL.ce KX G ?a ?l ?c ?k
  case a|l|c|k=>k_is
 have vf:DL.DefAt (L2.aO KX) mg "less" Law.sW:=by
  dsimp only [L2.aO]
  refine' DL.ce KX G ?a ?l ?c ?k
  case a|l|c|k=>k_is
 have vg:DL.DefAt (L2.aO KX) mg "likes" Law.tu:=by
  dsimp only [L2.aO]
  refine' DL.ce KX G ?a ?l ?c ?k
  case a|l|c|k=>k_is
 have vh:DL.DefAt (L2.aO KX) mg "hands_that_rise" Law.lM:=by
  dsimp only [L2.aO]
  refine' DL.ce KX G ?a ?l ?c ?k
  case a|l|c|k=>k_is
 have vi:DL.DefAt (L2.aO KX) mg "steps_up" Law.nW:=by
  dsimp only [L2.aO]
  refine' DL.ce KX G ?a ?l ?c ?k
  case a|l|c|k=>k_is
 have vj:DL.DefAt (L2.aO KX) mg "ones_behind" Law.vI:=by
  dsimp only [L2.aO]
  refine' DL.ce KX G ?a ?l ?c ?k
  case a|l|c|k=>k_is
 have vk:DL.DefAt (L2.aO KX) mg "share_ring" Law.vD:=by
  dsimp only [L2.aO]
  refine' DL.ce KX G ?a ?l ?c ?k
  case a|l|c|k=>k_is
 have vl:DL.DefAt (L2.aO KX) mg "_law_walked" Law.lH:=by
  dsimp only [L2.aO]
  refine' DL.ce KX G ?a ?l ?c ?k
  case a|l|c|k=>k_is
 have vm:DL.DefAt (L2.aO KX) mg "_law_twice" Law.ic:=by
  dsimp only [L2.aO]
  refine' DL.ce KX G ?a ?l ?c ?k
  case a|l|c|k=>k_is
 have vn:DL.DefAt (L2.aO KX) mg "_law_parts" Law.oy:=by
  dsimp only [L2.aO]
  refine' DL.ce KX G ?a ?l ?c ?k
  case a|l|c|k=>k_is
 have vo:DL.DefAt (L2.aO KX) mg "_law_has_ring" Law.oE:=by
  dsimp only [L2.aO]
  refine' DL.ce KX G ?a ?l ?c ?k
  case a|l|c|k=>k_is
 have vp:DL.DefAt (L2.aO KX) mg "_law_better_than" Law.lN:=by
  dsimp only [L2.aO]
  refine' DL.ce KX G ?a ?l ?c ?k
  case a|l|c|k=>k_is
 have vq:DL.DefAt (L2.aO KX) mg "_law_less" Law.vR:=by
  dsimp only [L2.aO]
  refine' DL.ce KX G ?a ?l ?c ?k
  case a|l|c|k=>k_is
 have vr:DL.DefAt (L2.aO KX) mg "least" Law.tt:=by
  dsimp only [L2.aO]
  refine' DL.ce KX G ?a ?l ?c ?k
  case a|l|c|k=>k_is
 have vs:DL.DefAt (L2.aO KX) mg "can_hand" Law.nV:=by
  dsimp only [L2.aO]
  refine' DL.ce KX G ?a ?l ?c ?k
  case a|l|c|k=>k_is
 have vt:DL.DefAt (L2.aO KX) mg "greatest_divisor" Law.wW:=by
  dsimp only [L2.aO]
  refine' DL.ce KX G ?a ?l ?c ?k
  case a|l|c|k=>k_is
 have vu:DL.DefAt (L2.aO KX) mg "is_whole" Law.vA:=by
  dsimp only [L2.aO]
  refine' DL.ce KX G ?a ?l ?c ?k
  case a|l|c|k=>k_is
 have vv:DL.DefAt (L2.aO KX) mg "fraction" Law.uZ:=by
  dsimp only [L2.aO]
  refine' DL.ce KX G ?a ?l ?c ?k
  case a|l|c|k=>k_is
 have vw:DL.DefAt (L2.aO KX) mg "minus" Law.tv:=by
  dsimp only [L2.aO]
  refine' DL.ce KX G ?a ?l ?c ?k
  case a|l|c|k=>k_is
 have vx:DL.DefAt (L2.aO KX) mg "plus" Law.sX:=by
  dsimp only [L2.aO]
  refine' DL.ce KX G ?a ?l ?c ?k
  case a|l|c|k=>k_is
 have vy:DL.DefAt (L2.aO KX) mg "handed" Law.lD:=by
  dsimp only [L2.aO]
  refine' DL.ce KX G ?a ?l ?c ?k
  case a|l|c|k=>k_is
 have vz:DL.DefAt (L2.aO KX) mg "_law_along" Law.vC:=by
  dsimp only [L2.aO]
  refine' DL.ce KX G ?a ?l ?c ?k
  case a|l|c|k=>k_is
 have v0:DL.DefAt (L2.aO KX) mg "_law_no_less" Law.om:=by
  dsimp only [L2.aO]
  refine' DL.ce KX G ?a ?l ?c ?k
  case a|l|c|k=>k_is
 have v1:DL.DefAt (L2.aO KX) mg "_law_betters" Law.oi:=by
  dsimp only [L2.aO]
  refine' DL.ce KX G ?a ?l ?c ?k
  case a|l|c|k=>k_is
 have v2:DL.DefAt (L2.aO KX) mg "_law_is_fraction" Law.wV:=by
  dsimp only [L2.aO]
  refine' DL.ce KX G ?a ?l ?c ?k
  case a|l|c|k=>k_is
 have v3:DL.DefAt (L2.aO KX) mg "_law_is_table" Law.oF:=by
  dsimp only [L2.aO]
  refine' DL.ce KX G ?a ?l ?c ?k
  case a|l|c|k=>k_is
 have v4:DL.DefAt (L2.aO KX) mg "_law_handed" Law.lG:=by
  dsimp only [L2.aO]
  refine' DL.ce KX G ?a ?l ?c ?k
  case a|l|c|k=>k_is
 have v5:DL.DefAt (L2.aO KX) mg "_law_handing_well" Law.xo:=by
  dsimp only [L2.aO]
  refine' DL.ce KX G ?a ?l ?c ?k
  case a|l|c|k=>k_is
 have v6:DL.DefAt (L2.aO KX) mg "_law_is_ring" Law.oj:=by
  dsimp only [L2.aO]
  refine' DL.ce KX G ?a ?l ?c ?k
  case a|l|c|k=>k_is
 have v7:DL.DefAt (L2.aO KX) mg "law" Law.sy:=by
  dsimp only [L2.aO]
  refine' DL.ce KX G ?a ?l ?c ?k
  case a|l|c|k=>k_is
 refine DL.DR hmg v7 (fun _ _ _ _ _ _ us hl=>match us,hl with | [_],_=>rfl) fun f fd Fn base=>?_
 have uc:=Law.Ho (P:=P0) (w:=w) (base:=base) T u5
 have ua:=Law.HP (P:=P0) (w:=w) (base:=base) T u6
 have ue:=Law.JN (P:=P0) (w:=w) (base:=base) T u7 ua uc
 have uf:=Law.JK (P:=P0) (w:=w) (base:=base) T u8
 have ub:=Law.Hn (P:=P0) (w:=w) (base:=base) T u9 uf
 have ud:=Law.HR (P:=P0) (w:=w) (base:=base) T va ub
 have ug:=Law.IZ (P:=P0) (w:=w) (base:=base) T vb ud
 have uh:=Law.Ka (P:=P0) (w:=w) (base:=base) T vc
 have v8:=Law.KS (P:=P0) (w:=w) (base:=base) T vd uh
 have v9:=Law.Kh (P:=P0) (w:=w) (base:=base) T ve v8 uh
 have ui:=Law.DM (P:=P0) (w:=w) (base:=base) T vf
 have wa:=Law.EE (P:=P0) (w:=w) (base:=base) T vg
 have uj:=Law.KB (P:=P0) (w:=w) (base:=base) T vh ui wa
 have wb:=Law.Ht (P:=P0) (w:=w) (base:=base) T vi uj
 have uk:=Law.Ju (P:=P0) (w:=w) (base:=base) T vj
 have wc:=Law.Ib (P:=P0) (w:=w) (base:=base) T vk wb v9 uk uj
 have wd:=Law.JM (P:=P0) (w:=w) (base:=base) T vl
 have we:=Law.Ja (P:=P0) (w:=w) (base:=base) T vm ua uc ue ub ug
 have wf:=Law.I0 (P:=P0) (w:=w) (base:=base) T vn ua uc ub
 have wg:=Law.Kf (P:=P0) (w:=w) (base:=base) T vo
 have wh:=Law.K4 (P:=P0) (w:=w) (base:=base) T vp
 have ul:=Law.HQ (P:=P0) (w:=w) (base:=base) T vq
 have wi:=Law.ED (P:=P0) (w:=w) (base:=base) T vr ui
 have wj:=Law.Hq (P:=P0) (w:=w) (base:=base) T vs wi
 have wk:=Law.K6 (P:=P0) (w:=w) (base:=base) T vt
 have wl:=Law.Hs (P:=P0) (w:=w) (base:=base) T vu
 have um:=Law.Hr (P:=P0) (w:=w) (base:=base) T vv wl wk
 have wm:=Law.EF (P:=P0) (w:=w) (base:=base) T vw um
 have wn:=Law.DN (P:=P0) (w:=w) (base:=base) T vx um
 have wo:=Law.EU (P:=P0) (w:=w) (base:=base) T vy uk wm wn
 have wp:=Law.IY (P:=P0) (w:=w) (base:=base) T vz ud
 have wq:=Law.J9 (P:=P0) (w:=w) (base:=base) T v0 wp ul
 have wr:=Law.J7 (P:=P0) (w:=w) (base:=base) T v1 wq
 have ws:=Law.K5 (P:=P0) (w:=w) (base:=base) T v2 uf
 have wt:=Law.Kg (P:=P0) (w:=w) (base:=base) T v3 ws
 have wu:=Law.JL (P:=P0) (w:=w) (base:=base) T v4 ud
 have wv:=Law.KR (P:=P0) (w:=w) (base:=base) T v5 ul wj ub wo wu wt wr
 have ww:=Law.J8 (P:=P0) (w:=w) (base:=base) T v6
 exact Law.DS T Fn ua ue wf ug wc wh wg wv ww wd we
end
