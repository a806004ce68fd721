import PyProof.Rows.All
import Wide.All
import OpenK.AllK
import Wide.FinOn
import Lean
import PyProof.EqAt
import PyProof.EqKinds
import PyProof.TupleCall
import PyProof.Rows.SetFrom
import KE.KSortTup
import PyProof.Draws
import PyProof.EnumMake
import PyProof.ListRange
import PyProof.Rows.EnumRows
import PyProof.SetRoads
import PyProof.Rows.MinMaxN
import PyProof.Rows.MaxTwoN
import PyProof.ZipIter
import PySem.Challenge.RW_ringtrade_k44_rows_of_the_desk
noncomputable section
open PySem renaming Value->a_,wpAny_bind->b_,Shared->f_,starEach->i_,wpAny_pure->u_,wpAny->C_,Program->E_,model->G_,sizeLine_eq->N_,World->S_,mainGlobals->Ub,Around->Uc,compareOp->Ug,attributeBase->Uo,foldedSetIterable->Ut,swapsWith->Uw,wpAny_field->UA,FuncData->UE,wpAny_callSpecial?_slot->UK,assignEach->UN,behindInMarks->UU,strLen_append->UW,wpAny_newObj_type->UZ,wpAny_call_entry->U7,sysModules->U9,wpAny_pyIter_tuple->U_,wpAny_seqItems->Va,wpAny_setField_rec->Vb,wpAny_passesOwn->Vh,cLine->Vj,wpAny_mono->Vn,wpAny_holding->Vo,IsPair->Vr,binaryOp->Vu,scanBound->Vv,wpAny_getItem_str_slice->Vw,keywordEach->Vz,wpAny_Call_Name_kw->VA,call_meets->VD,wpAny_loadPart'->VH,wpAny_truthy_bool->VN,NameKind->VQ,bootBuiltins->VS,holding->VT,Scope->VX,tupleKind_room_in1->V8,sliceBounds->Wa,bindArgs->Wd,codeAny_mono->We,backToKw->Wk,wpAny_updateSeq_pair->Wl,assign->Wo,letOwnedTupleGo->Wp,post_val_or_str->Ws,standAt->Ww,codeAny->Wx,PassesOwn->WA,IsZip->WK,Builtin->WQ,wpAny_pyIter_enum->WU,wpAny_standAt->WY,wpAny_comprehension_free->W1,wpAny_onRaise->W2,getMethod->W6,rawInt->Xa,IsPart->Xc,getItem->Xd,Keyword->Xh,callerA->Xj,notedBy->Xk,wpAny_execs_nil->Xo,compEnvC->Xy,tupleKind->XE,valueAt->XG,swapsWithSole->XM,swappedStores->XO,Draws->XQ,typeIs_str->XY,PlainAttrs->XZ,wpAny_rule->X2,JoinOk->X4,wpAny_assign_Name->X9,BindsTo->Ya,callWith->Yb,concat_meets->Yc,wpAny_sequenceKey->Yd,wpAny_typeOf->Ye,slot_list_getitem->Yf,wpAny_pyIter_list->Yi,relabel->Yj,pyNext->Yp,noFill_tuple_add->Yr,wpAny_getItem_of->Ys,wpAny_pyIter_zip->Yz,strValues->YA,seqIndex_of->YG,atKey->YH,wpAny_letGo->YJ,builtinsNs->YZ,wpAny_Name->Y0,pyIter->Y1,Result->Y4,wpAny_call->Y5,bindL->Y6,bindC->Y7,typeIs_int->Y9,closureFor->Zb,field->Zc,CmpOp->Zp,cellsFrom->Zq,DictEntry->Zs,seqItems?->Zt,intKind->Zu,setItem->Zw,truthy->Zx,cellOf->ZC
open PySem.Heap renaming get?_push_of_some->c_,get?_push_size->r_,lt_size->w_,size_push->UD,SameBut->Wv,get?_update_other->Xf,get?_update_self->Xs,get?_none_of_le->Xv,ExtBut->ZI
open List renaming getElem?_set_ne->d_,mem_cons_self->e_,mem_cons_of_mem->h_,length_map->j_,getElem?_eq_some_iff->k_,size_toArray->l_,getElem?_eq_getElem->m_,mem_cons->n_,getElem?_set_self->o_,mem_map->p_,replicate->q_,range->t_,length_cons->x_,mem_singleton->y_,getD_eq_getElem?_getD->z_,mem_range->A_,mem_filter->B_,getElem?_map->D_,not_mem_nil->J_,map_map->K_,map_cons->L_,map_append->Q_,getElem?_append_left->R_,find?_cons->T_,mem_append_right->Uh,mem_append->Ui,all_eq_true->Uj,length_append->Uk,lookup->Up,find?_eq_none->Uq,ne_nil_of_mem->Ur,replicate_succ->Us,getElem?_append_right->Uu,length_take->Ux,filter_cons->Uy,drop_eq_getElem_cons->Uz,flatten_cons->UB,getElem?_eq_none->UC,append_nil->UG,mem_filterMap->UI,getElem?_replicate->UJ,append_assoc->UP,length_pos_of_mem->UR,map_nil->UV,nodup_cons->U2,of_mem_zip->U3,getElem?_range->U4,map_congr_left->U5,lookup_cons->U8,length_replicate->Vc,contains_iff_mem->Vd,mem_of_find?_eq_some->Vf,exists_mem_of_ne_nil->Vg,mem_append_left->Vi,mem_of_getElem?->Vk,nodup_append->Vl,all_cons->Vq,mem_flatten->Vx,nodup_range->Vy,length_nil->VI,length_set->VJ,any_cons->VL,dropLast_eq_take->VM,idxOf_lt_length_of_mem->VP,nodup_iff_pairwise_ne->VR,length_drop->VU,zipWith->VV,drop_length->VW,filterMap_cons->V0,foldl_cons->V5,map_const'->V6,find?_some->V7,length->V_,getElem?_cons_succ->Wb,length_singleton->Wf,any_eq_true->Wh,mem_erase_of_ne->Wm,getElem?_of_mem->Wn,forIn_cons->Wq,length_zipWith->Wu,any_map->Wy,map_set->Wz,filter_filter->WL,mem_or_eq_of_mem_set->WN,pairwise_map->WV,ext_getElem?->WW,getElem?_take_of_lt->WZ,ext_getElem->W8,take_of_length_le->Xl,nil_append->Xp,length_zip->Xr,getElem?_zipWith->Xt,length_filter_le->Xu,erase_cons_tail->XA,getLast?_concat->XC,dropLast_concat->XD,filter_eq_self->XI,zip_cons_cons->XU,getElem?_drop->X5,length_range->Yk,map_snd_zip->Yt,getElem_mem->Yx,zipIdx_cons->Yy,zipWith_map->YE,zipIdx_nil->YS,range_succ->YU,idxOf_cons->YW,foldl->Y_,forIn_nil->Ze,drop_drop->Zg,drop_left->Zh,map_drop->Zn,sum_cons->Zo
open Bool renaming false_ne_true->g_,and_eq_true->P_,eq_iff_iff->Ud,false_eq_true->X0,not_eq_true'->Ym,or_eq_true->YQ,false_and->Y2
open Nat renaming le_refl->s_,lt_of_lt_of_le->F_,ne_of_lt->M_,le_trans->Ue,zero_le->Uf,lt_irrefl->UM,ne_of_gt->UO,lt_succ_of_lt->U0,lt_succ_self->U6,le_of_eq->Wc,mod_lt->Wi,le_succ->WP,add_sub_cancel_left->W9,succ_mul->Xi,lt_of_succ_lt_succ->Xm,zero_add->Xn,le_of_lt->X8,add_comm->Yg,mul_comm->Yh,succ_le_succ->Yu,min_eq_left->YX,min_le_left->YY,lt_trans->Zz,min_self->ZB
open Option.some renaming inj->H_,injEq->WO
open PySem.PassesOwn renaming never->I_
open PySem.Builtin.Str renaming occurrences->O_,strKind->V2
open PySem.Str renaming join->Ua,ofString->UH,empty->WB,length->XV
open PyProof.Rows renaming slot_tuple_getitem->Ul,callWith_type1->UL,envOfC->VB,IntsAre->VO,AllBare->Wj,seqObj->W0,subscriptTail_builtinR->Xe,firstMet->Xw,step_dedup->X3,IsTup->X7,entry_tuple_getitem->Yl,args_tuple_getitem->Yo,callWith_builtin1->Yq,get?_update_seq->YN,boot_isinstance->YR,boot_range->Y3,tail_any->Y8,tupleItemsOf_->Zd,assign_Tuple->Zj,boot_sorted->Zl
open PySem.Builtin.SmallTypes renaming nextOf->Um,ownedTupleIsFree->UF,ownedTupleHandOut->V1
open PySem.PyData renaming canLay0->Uv,depth->UQ,canLayAll0->WT,depthAll->Xq,eqv->ZM
open Array renaming getElem?_toList->US,length_toList->Vs,perm_iff_toList_perm->WI,toArray_toList->Xz,toList_append->XJ,toList_inj->Yw,toList->Zv,getD->ZK,ext'->ZL
open LawfulBEq renaming eq_of_beq->UT
open Ne renaming symm->UX
open Int renaming toNat_natCast->UY,natCast_nonneg->VE,ofNat_inj->V4,toNat_of_nonneg->XH,natCast_ediv->YC,natCast_mul->YT,natCast_add->YV,ofNat_lt->ZF
open False renaming elim->U1
open PySem.Builtin.Slice renaming slicePlaces->Ve,sliceAdjust->VY,sliceApplied->WF,slicePartIndex->YK,sliceFields->Zi
open Function renaming comp_def->Vm,comp_apply->Vt
open PySem.Builtin.Tuple renaming tupleExact->Vp,tupleItemsOf->WG,tupleIsExact->WJ,tupleCompareSizes->Yn
open PySem.Obj renaming mapSeq->VC,data_mapFields->X1
open PySem.StrLaws renaming join_length_le->VF,At->V9,glued_eq_join->Wg,join_split->WM,sumLen_le->WX,partsBetween_eq->W_,subAt_eq->YD
open Option renaming map_some->VG,isSome_map->WR,getD_none->W7,getD_some->YB,map_none->YO,isSome->Zm
open Classical renaming byContradiction->VZ
open PySem.Builtin.List renaming listTooLong->V3,listFitsIndex->WH
open PySem.Heap.SameBut renaming update->Wt
open PySem.Calls renaming Name_function_global->WC,callWith_builtin->Xg
open PySem.SeqAt.EqAt renaming int_int->WE,int_str->XR,str_int->XS,same->YL
open List.Pairwise renaming imp_of_mem->W3
open List.cons renaming inj->W4
open PySem.Builtin.Range renaming rangeSize->W5
open PySem.Around renaming under->Xb
open PyProof.Rows.IntsAre renaming int_at->Xx,nums->ZE
open Eq renaming trans->XB
open PySem.SeqAt renaming EqAt->XT,shaped->ZD
open List.Nodup renaming sublist->X6
open PySem.Code renaming isFrame->X_,isGuard->Zy,frames->ZH
open PySem.MeetsSeq renaming EqGives->Yv
open Sum.inl renaming inj->YF
open PySem.Shared renaming heap->YI
open PySem.Builtin.Frozenset renaming updateFrom->YM
open PyProof.Rows.SortSt renaming mk'->Za
open List.Perm renaming refl->Zf
open PySem.Value renaming isStrOf->Zk,isInt->ZG
open PyProof.Rows.IsTup renaming new->Zr
open PySem.W.WShape renaming has->ZJ
set_option Elab.async false
set_option linter.all false
set_option exponentiation.threshold 3000
set_option maxRecDepth 100000
set_option maxHeartbeats 4000000
section
namespace L2
open PySem PySem.Spec PyProof.Rows
abbrev aG:=Sum Int Str
def ii:aG->a_->Bool
|.inl k,v=>ZG k v
|.inr x,v=>Zk x v
def Bn(w:S_):aG->Int
|.inl k=>hashInt k
|.inr x=>hashStr w x
theorem keyIs_shape:∀{k:aG}{v:a_},ii k v=true->(∃i t,k=Sum.inl i/\v=Value.int i t)\/(∃x t,k=Sum.inr x/\v=Value.str x t)
|.inl i,v,h=>by obtain⟨t,e⟩:=Value.isInt_shape (k:=i) (v:=v) h;exact .inl ⟨i,t,rfl,e⟩
|.inr x,v,h=>by obtain⟨t,e⟩:=Value.isStrOf_shape (x:=x) (v:=v) h;exact .inr ⟨x,t,rfl,e⟩
theorem O2(i:Int)(t:Tok):ii (.inl i) (.int i t)=true:=by simp[ii,ZG]
theorem rB(x:Str)(t:Tok):ii (.inr x) (.str x t)=true:=by simp[ii,Zk]
theorem JF(a b:Int):decide ((Sum.inl a:aG)=Sum.inl b)=(a==b):=by
 by_cases e:a=b
 .subst e;simp
 .have h:¬ (Sum.inl a:aG)=Sum.inl b:=fun q=>e (YF q);rw[decide_eq_false h];exact(beq_eq_false_iff_ne.mpr e).symm
theorem JI(a b:Str):decide ((Sum.inr a:aG)=Sum.inr b)=decide (a=b):=by
 by_cases e:a=b
 .subst e;simp
 .have h:¬ (Sum.inr a:aG)=Sum.inr b:=fun q=>e (Sum.inr.inj q);rw[decide_eq_false h,decide_eq_false e]
theorem JG(a:Int)(b:Str):decide ((Sum.inl a:aG)=Sum.inr b)=false:=decide_eq_false (fun q=>nomatch q)
theorem JH(a:Str)(b:Int):decide ((Sum.inr a:aG)=Sum.inl b)=false:=decide_eq_false (fun q=>nomatch q)
def d9(prog:E_)(w:S_):PySem.KeyKind prog w aG where
 is:=ii
 hash:=Bn w
 inj:=fun v a b ha hb=>by
  rcases keyIs_shape ha with⟨i,t,rfl,rfl⟩|⟨x,t,rfl,rfl⟩
  .rcases keyIs_shape hb with⟨j,u,rfl,e⟩|⟨y,u,rfl,e⟩
   .injection e with e1 _;rw[e1]
   .exact nomatch e
  .rcases keyIs_shape hb with⟨j,u,rfl,e⟩|⟨y,u,rfl,e⟩
   .exact nomatch e
   .injection e with e1 _;rw[e1]
 byValue:=fun k v h=>by rcases keyIs_shape h with⟨i,t,rfl,rfl⟩|⟨x,t,rfl,rfl⟩ <;> rfl
 pyHash:=fun hv h=>by
  rcases keyIs_shape hv with⟨i,t,rfl,rfl⟩|⟨x,t,rfl,rfl⟩
  .exact wpAny_pyHash_int h
  .exact wpAny_pyHash_str h
 eqBool:=fun hu hv h=>by
  rcases keyIs_shape hu with⟨i,t,rfl,rfl⟩|⟨x,t,rfl,rfl⟩
  .rcases keyIs_shape hv with⟨j,u,rfl,rfl⟩|⟨y,u,rfl,rfl⟩
   .rw[JF]at h;exact wpAny_eqBool_int h
   .rw[JG]at h;exact XR i t y u _ _ _ _ h
  .rcases keyIs_shape hv with⟨j,u,rfl,rfl⟩|⟨y,u,rfl,rfl⟩
   .rw[JH]at h;exact XS x t j u _ _ _ _ h
   .rw[JI]at h;exact wpAny_eqBool_str h
 «strs»:=fun k x t v h=>by
  rcases keyIs_shape h with⟨i,u,rfl,e⟩|⟨y,u,rfl,e⟩
  .exact nomatch e
  .injection e with e1 _
   subst e1;cases v <;> rfl
theorem QO(prog:E_)(w:S_)(i:Int)(t:Tok):(d9 prog w).is (.inl i) (.int i t)=true:=O2 i t
theorem QP(prog:E_)(w:S_)(x:Str)(t:Tok):(d9 prog w).is (.inr x) (.str x t)=true:=rB x t
inductive V where
 |non|bl (b:Bool)|int (i:Int)|str (x:Str)|byt (b:Array UInt8)|flt (b:UInt64)|ref (a:Addr)|ty (n:String)
 deriving DecidableEq
def ar:V->a_->Prop
|.non,u=>u=Value.none
|.bl b,u=>u=Value.bool b
|.int i,u=>∃t,u=Value.int i t
|.str x,u=>∃t,u=Value.str x t
|.byt b,u=>∃t,u=Value.bytes b t
|.flt b,u=>∃t,u=Value.float b t
|.ref a,u=>u=Value.ref a
|.ty n,u=>u=Value.type n
abbrev al:List V->List a_->Prop:=Paired ar
theorem al.length{xs:List V}{us:List a_}(r:al xs us):xs.length=us.length:=Paired.length r
theorem al.get:∀{xs:List V}{us:List a_}{i:Nat}{x:V},al xs us->xs[i]? = some x->∃u,us[i]? = some u/\ar x u
|_,_,_,_,.nil,e=>by simp at e
|_,_,0,_,.cons r _,e=>by simp at e;subst e;exact⟨_,rfl,r⟩
|_,_,i+1,x,.cons _ t,e=>by obtain⟨u,h1,h2⟩:=al.get (i:=i) (x:=x) t (by simpa using e);exact⟨u,by simpa using h1,h2⟩
theorem al.set{x:V}{u:a_}(r:ar x u):∀{xs:List V}{us:List a_}(i:Nat),al xs us->al (xs.set i x) (us.set i u)
|_,_,_,.nil=>.nil
|_,_,0,.cons _ t=>.cons r t
|_,_,i+1,.cons q t=>.cons q (al.set r i t)
theorem al.append{xs ys:List V}{us ws:List a_}(h:al xs us)(h':al ys ws):al (xs++ys) (us++ws):=by induction h with
|nil=>exact h'
|cons r _ ih=>exact .cons r ih
theorem al.take:∀{xs:List V}{us:List a_}(n:Nat),al xs us->al (xs.take n) (us.take n)
|_,_,0,_=>.nil
|_,_,_+1,.nil=>.nil
|_,_,n+1,.cons r t=>.cons r (al.take n t)
theorem al.drop:∀{xs:List V}{us:List a_}(n:Nat),al xs us->al (xs.drop n) (us.drop n)
|_,_,0,r=>r
|_,_,_+1,.nil=>.nil
|_,_,n+1,.cons _ t=>al.drop n t
def cA:Option V->Option a_->Prop
|some v,some u=>ar v u
|none,none=>True
|_,_=>False
def KV{κ:Type}:List (κ×V)->List (κ×a_)->Prop:=Paired fun(p:κ×V)(q:κ×a_)=>p.1=q.1/\ar p.2 q.2
def kV:aG->V
|.inl i=>.int i
|.inr x=>.str x
inductive HO where
 |lst (xs:List V)
 |tup (xs:List V)
 |dK (kvs:List (aG×V))|dT (kvs:List (List aG×V))
 |set (S:Int->Bool) (n:Nat)
 |ins (C dx:Addr) (fs:List (Str×V))
 |own (x:Addr)
 |xd (fs:List (Str×V))
 |met (f x:Addr)
 |rng (lo hi:Int)
 |frz (o:Obj) (u:HO)
 |tbl (ps:Array a_)
 |ext (φ:Heap->Prop)
abbrev Hp:=Addr->Option HO
def aB(H:Hp)(a:Addr)(o:HO):Hp:=fun b=>if b=a then some o else H b
theorem bB{H:Hp}{a:Addr}{o:HO}:aB H a o a=some o:=by unfold aB;rw[if_pos rfl]
theorem bf{H:Hp}{a b:Addr}{o:HO}(h:b≠a):aB H a o b=H b:=by unfold aB;rw[if_neg h]
theorem Jc{H:Hp}{a b:Addr}{o u:HO}(h:H a=some o)(h':H b=some u)(d:o≠u):a≠b:=by intro e;subst e;rw[h]at h';exact d (H_ h')
theorem kM{H:Hp}{a b:Addr}{o:HO}(h:H a=some o)(h':H b=none):a≠b:=by intro e;subst e;rw[h]at h';cases h'
section
variable(P:E_)(w:S_)
def bF(H:Hp)(h:Heap)(a:Addr):HO->Prop
|.lst xs=>xs.length<=sizeLine/\∃(its:List a_)(n:Nat),al xs its/\h.get? a=some { cls:=.type "list",data:=.seq its.toArray n }
|.tup xs=>xs.length<=sizeLine/\∃its:List a_,al xs its/\X7 h a its.toArray/\∃o,h.get? a=some o/\o.dict=none
|.dK kvs=>kvs.length<=sizeLine/\(a==U9)=false/\∃vs,KV kvs vs/\h.DictOf (d9 P w) a vs
| .dT kvs=>kvs.length<=sizeLine/\(a == U9)=false/\∃xs:List (List aG × Addr × a_),
   Paired (fun(p:List aG×V)(q:List aG×Addr×a_)=>p.1=q.1/\H q.2.1=some (.tup (p.1.map kV))/\ar p.2 q.2.2) kvs xs /\∃o es ep,h.get? a=some o/\o.ExactDict/\o.data=.dict es ep/\es.toList=xs.map (entryOfKey (XE (d9 P w)))/\(xs.map (·.1)).Nodup
|.set S n=>h.SetOf (Zu P w) a S n
| .ins C dx fs=>H dx=some (.own a)/\fs.length<=1000/\dx≠a/\h.get? a=some (W.instObj C dx) /\
   ∃mA,h.Ns1 dx mA/\(∀f,cA (fs.lookup f) (mA f))/\PySem.Within mA (fs.map (·.1))
|.own _=>∃o,h.get? a=some o
|.xd fs=>∃mA,h.Ns1 a mA/\∀f,cA (fs.lookup f) (mA f)
|.rng lo hi=>∃t u v,h.get? a=some { cls:=.type "range",data:=.fields #[.int lo t,.int hi u,.int 1 v] }
|.frz o u=>h.get? a=some o/\bF H h a u
|.tbl ps=>h.get? a=some { cls:=.none,data:=.fields ps }
|.met f x=>h.get? a=some (W.methodObj (.ref f) (.ref x))
|.ext φ=>φ h/\(∃o,h.get? a=some o)/\∀h1 h2:Heap,φ h1->(∀o,h1.get? a=some o->h2.get? a=some o)->φ h2
def cB(H:Hp)(h:Heap):Prop:=∀a o,H a=some o->bF P w H h a o
end
variable{P:E_}{w:S_}{H H':Hp}{h h':Heap}{a:Addr}{o:HO}
theorem bF.lt(x:bF P w H h a o):a<h.objs.size:=by cases o with
|lst xs=>obtain⟨_,_,_,_,e⟩:=x;exact w_ e
|tup xs=>obtain⟨_,_,_,p,_⟩:=x;exact p.lt
|dK kvs=>obtain⟨_,_,_,_,o,_,_,e,_⟩:=x;exact w_ e
|dT kvs=>obtain⟨_,_,_,_,o,_,_,e,_⟩:=x;exact w_ e
|set S n=>obtain⟨o,_,_,_,e,_⟩:=x;exact w_ e
|ins C dx fs=>obtain⟨_,_,_,e,_⟩:=x;exact w_ e
|own y=>obtain⟨_,e⟩:=x;exact w_ e
|xd fs=>obtain⟨_,⟨_,_,_,e,_⟩,_⟩:=x;exact w_ e
|rng lo hi=>obtain⟨_,_,_,e⟩:=x;exact w_ e
|frz ob u=>obtain⟨e,_⟩:=x;exact w_ e
|tbl ps=>exact w_ (show h.get? a=some _ from x)
|met f y=>exact w_ (show h.get? a=some _ from x)
|ext φ=>obtain⟨_,⟨_,e⟩,_⟩:=x;exact w_ e
theorem Paired.mapP{α β:Type}{F G:α->β->Prop}{l₁:List α}{l₂:List β}(h:Paired F l₁ l₂)(f:∀a b,F a b->G a b):Paired G l₁ l₂:=by induction h with
|nil=>exact .nil
|cons r _ ih=>exact .cons (f _ _ r) ih
theorem bF.stay(x:bF P w H h a o)(k:∀b u,(b=a\/H b=some (.own a))->h.get? b=some u->h'.get? b=some u)(ho:∀b,H b=some (.own a)->H' b=some (.own a))(ht:∀b xs,H b=some (.tup xs)->H' b=some (.tup xs)):bF P w H' h' a o:=by induction o with
|lst xs=>obtain⟨z,its,n,r,e⟩:=x;exact⟨z,its,n,r,k _ _ (.inl rfl) e⟩
|tup xs=>obtain⟨z,its,r,⟨ob,e,c⟩,B,e2,c2⟩:=x;exact⟨z,its,r,⟨ob,k _ _ (.inl rfl) e,c⟩,B,k _ _ (.inl rfl) e2,c2⟩
|dK kvs=>obtain⟨z,y,vs,r,ob,es,ep,e,c⟩:=x;exact⟨z,y,vs,r,ob,es,ep,k _ _ (.inl rfl) e,c⟩
|dT kvs=>obtain⟨z,y,xs,r,ob,es,ep,e,c⟩:=x;exact⟨z,y,xs,Paired.mapP r fun p q z=>⟨z.1,ht _ _ z.2.1,z.2.2⟩,ob,es,ep,k _ _ (.inl rfl) e,c⟩
|set S n=>obtain⟨ob,es,ep,t,e,c⟩:=x;exact⟨ob,es,ep,t,k _ _ (.inl rfl) e,c⟩
|ins C dx fs=>obtain⟨d,z,ne,e,mA,⟨od,es,ep,e2,c⟩,r⟩:=x;exact⟨ho _ d,z,ne,k _ _ (.inl rfl) e,mA,⟨od,es,ep,k _ _ (.inr d) e2,c⟩,r⟩
|own y=>obtain⟨ob,e⟩:=x;exact⟨ob,k _ _ (.inl rfl) e⟩
|xd fs=>obtain⟨mA,⟨od,es,ep,e,c⟩,r⟩:=x;exact⟨mA,⟨od,es,ep,k _ _ (.inl rfl) e,c⟩,r⟩
|rng lo hi=>obtain⟨t,u,v,e⟩:=x;exact⟨t,u,v,k _ _ (.inl rfl) e⟩
|frz ob u ih=>obtain⟨e,q⟩:=x;exact⟨k _ _ (.inl rfl) e,ih q⟩
|tbl ps=>have e:h.get? a=some { cls:=.none,data:=.fields ps }:=x;show h'.get? a=some { cls:=.none,data:=.fields ps };exact k a _ (.inl rfl) e
|met f y=>have e:h.get? a=some (W.methodObj (.ref f) (.ref y)):=x;show h'.get? a=some (W.methodObj (.ref f) (.ref y));exact k a _ (.inl rfl) e
|ext φ=>obtain⟨p,⟨o,e⟩,st⟩:=x;exact⟨st _ _ p fun o q=>k _ _ (.inl rfl) q,⟨o,k _ _ (.inl rfl) e⟩,st⟩
theorem cB.lt(x:cB P w H h)(e:H a=some o):a<h.objs.size:=(x a o e).lt
theorem cB.fresh(x:cB P w H h)(e:h.objs.size<=a):H a=none:=by cases q:H a with
|none=>rfl
|some u=>exact absurd (F_ (x.lt q) e) (UM _)
theorem cB.kept(x:cB P w H h)(k:∀b u,h.get? b=some u->h'.get? b=some u):cB P w H h':=fun a o e=>(x a o e).stay (fun b u _ q=>k b u q) (fun _ q=>q) fun _ _ q=>q
theorem cB.laid(x:cB P w H h)(k:∀b u,h.get? b=some u->h'.get? b=some u)(hp:h.objs.size<=a)(new:bF P w (aB H a o) h' a o):cB P w (aB H a o) h':=fun b u e=>by
 have hn:=x.fresh hp;by_cases hb:b=a
 .subst hb;rw[bB]at e;cases e;exact new
 .rw[bf hb]at e;exact(x b u e).stay (fun c v _ q=>k c v q) (fun c q=>by rw[bf (kM q hn)];exact q) fun c xs q=>by rw[bf (kM q hn)];exact q
def Rd(H:Hp)(a:Addr)(u:HO):Prop:=H a=some u\/∃o,H a=some (.frz o u)
theorem Rd.ok{P:E_}{w:S_}{H:Hp}{h:Heap}{a:Addr}{u:HO}(r:Rd H a u)(x:cB P w H h):bF P w H h a u:=by
 rcases r with r|⟨o,r⟩
 .exact x a u r
 .obtain⟨_,q⟩:=x a _ r;exact q
def p7:Option HO->Prop
|some (.lst _)=>True
|some (.dK _)=>True
|some (.dT _)=>True
|some (.set _ _)=>True
|some (.ins _ _ _)=>True
|some (.ext _)=>True
|_=>False
section
variable{x e:Addr}{o':HO}
theorem cB.write(ok:cB P w H h)(mu:p7 (H x))(he:e=x\/H e=some (.own x))(k:∀b u,b≠e->h.get? b=some u->h'.get? b=some u)(M:∃u,h'.get? e=some u)(new:bF P w (aB H x o') h' x o'):cB P w (aB H x o') h':=fun b u q=>by
 have B:∀c y,H c=some (.own y)->c≠x:=fun c y r z=>by subst z;rw[r]at mu;exact mu
 have L:∀c xs,H c=some (.tup xs)->c≠x:=fun c xs r z=>by subst z;rw[r]at mu;exact mu
 by_cases hb:b=x
 .subst hb;rw[bB]at q;cases q;exact new
 .rw[bf hb]at q;by_cases hbe:b=e
  .have q':H b=some (.own x):=by
    rcases he with z|z
    .exact absurd (hbe.trans z) hb
    .rw[hbe];exact z
   rw[q]at q';cases q';obtain⟨v,hv⟩:=M;exact⟨v,by rw[hbe];exact hv⟩
  .refine(ok b u q).stay (fun c v hc r=>k c v ?_ r) (fun c r=>by rw[bf (B c b r)];exact r) fun c xs r=>by rw[bf (L c xs r)];exact r
   rcases hc with rfl|hc
   .exact hbe
   .rintro rfl
    rcases he with z|z
    .exact B c b hc z
    .rw[hc]at z;cases z;exact hb rfl
end
structure Un(fs ex:List Addr)(H H':Hp)(h h':Heap):Prop where
 keep:∀b o,h.get? b=some o->H b=none->b∉fs->b∉ex->h'.get? b=some o
 slot:∀b o,h.get? b=some o->H b=none->b∈fs->b∉ex->∃sl,h'.get? b=some { o with slots:=sl }
 free:∀b o,h.get? b=some o->H b=none->b∉ex->H' b=none
 there:∀b o,h.get? b=some o->b∉ex->∃o',h'.get? b=some o'
 tups:∀b xs,H b=some (.tup xs)->H' b=some (.tup xs)
 frzs:∀b o u,H b=some (.frz o u)->H' b=some (.frz o u)
 tbls:∀b ps,H b=some (.tbl ps)->∃more,H' b=some (.tbl (ps++more))
section
variable{fs fs' ex ex':List Addr}{H1 H2:Hp}{h1 h2:Heap}{x e:Addr}
theorem Un.any(u:Un fs ex H H1 h h1){b:Addr}{ob:Obj}(q:h.get? b=some ob)(n:H b=none)(hx:b∉ex):∃sl,h1.get? b=some { ob with slots:=sl }:=by
 by_cases hb:b∈fs
 .exact u.slot b ob q n hb hx
 .exact⟨ob.slots,u.keep b ob q n hb hx⟩
theorem Un.kept(k:∀b u,h.get? b=some u->h'.get? b=some u):Un fs ex H H h h':=⟨fun b ob q _ _ _=>k b ob q,fun b ob q _ _ _=>⟨ob.slots,k b ob q⟩,fun _ _ _ n _=>n,fun b ob q _=>⟨ob,k b ob q⟩,fun _ _ q=>q,fun _ _ _ q=>q,fun _ ps q=>⟨#[],by rw[q];simp⟩⟩
theorem Un.refl:Un fs ex H H h h:=Un.kept fun _ _ q=>q
theorem Un.laid(k:∀b u,h.get? b=some u->h'.get? b=some u)(hp:h.objs.size<=a)(hn:H a=none):Un fs ex H (aB H a o) h h' where
 keep:=fun b u q _ _ _=>k b u q
 slot:=fun b u q _ _ _=>⟨u.slots,k b u q⟩
 free:=fun b u q n _=>by rw[bf (M_ (F_ (w_ q) hp))];exact n
 there:=fun b u q _=>⟨u,k b u q⟩
 tups:=fun b xs q=>by rw[bf (kM q hn)];exact q
 frzs:=fun b u xs q=>by rw[bf (kM q hn)];exact q
 tbls:=fun b ps q=>⟨#[],by rw[bf (kM q hn),q];simp⟩
theorem Un.write(mu:p7 (H x))(he:e=x\/H e=some (.own x))(k:∀b u,b≠e->h.get? b=some u->h'.get? b=some u)(B:∃u,h'.get? e=some u):Un fs ex H (aB H x o) h h':=by
 have hx:∀b,H b=none->b≠x:=fun b n z=>by subst z;rw[n]at mu;exact mu
 have hb:∀b,H b=none->b≠e:=fun b n z=>by
  subst z;rcases he with r|r
  .exact hx b n r
  .rw[n]at r;cases r
 have hm:∀b u,H b=some u->¬ p7 (some u)->b≠x:=fun b u q nm z=>by subst z;rw[q]at mu;exact nm mu
 refine⟨fun b u q n _ _=>k b u (hb b n) q,fun b u q n _ _=>⟨u.slots,k b u (hb b n) q⟩,fun b u q n _=>by rw[bf (hx b n)];exact n,fun b u q _=>?_,fun b xs q=>by rw[bf (hm b _ q fun z=>z)];exact q,fun b u xs q=>by rw[bf (hm b _ q fun z=>z)];exact q,fun b ps q=>⟨#[],by rw[bf (hm b _ q fun z=>z),q];simp⟩⟩;by_cases hbe:b=e
 .subst hbe;exact B
 .exact⟨u,k b u hbe q⟩
end
def trk(h:Heap)(H:Hp):List Addr:=(t_ h.objs.size).filter fun a=>(H a).isSome
def eR(h:Heap)(H:Hp):Heap:=W.hideAll h (trk h H)
theorem OX(h:Heap)(H:Hp):(eR h H).objs.size=h.objs.size:=W.hideAll_size _ _
theorem Nv{h:Heap}{H:Hp}{b:Addr}{o:Obj}(e:h.get? b=some o)(n:H b=none):(eR h H).get? b=some o:=W.hideAll_get _ e fun hm=>by have q:(H b).isSome=true:=(B_.mp hm).2;rw[n]at q;simp at q
theorem Mu{h:Heap}{H:Hp}{b:Addr}{o:Obj}(e:(eR h H).get? b=some o):h.get? b=some o/\H b=none:=by have e':h.get? b=some o:=W.of_hideAll (trk h H) e;refine⟨e',?_⟩;cases q:H b with
|none=>rfl
|some x=>have hm:b∈trk h H:=B_.mpr ⟨A_.mpr (w_ e'),by simp[q]⟩;have z:(eR h H).get? b=none:=W.hideAll_none (trk h H) hm;rw[z]at e;cases e
def mU(g h:Heap)(L:Addr):List (Addr×Obj):=(t_ h.objs.size).filterMap fun a=>if a=L\/(g.get? a).isSome=true then none else(h.get? a).map fun o=>(a,o)
theorem zj{g h:Heap}{L a:Addr}{o:Obj}(h1:a≠L)(h2:g.get? a=none)(h3:h.get? a=some o):(a,o)∈mU g h L:=UI.mpr ⟨a,A_.mpr (w_ h3),by simp[h1,h2,h3]⟩
theorem RS{g h:Heap}{L:Addr}{p:Addr×Obj}(hp:p∈mU g h L):p.1≠L/\g.get? p.1=none/\h.get? p.1=some p.2:=by
 obtain⟨b,_,e⟩:=UI.mp hp;split at e
 .cases e
 .rename_i hn;cases q:h.get? b with
 |none=>rw[q]at e;simp at e
 |some u=>rw[q]at e;simp only[VG,WO]at e;subst e;refine⟨fun z=>hn (.inl z),?_,q⟩;show g.get? b=none;cases r:g.get? b with
  |none=>rfl
  |some v=>exact(hn (.inr (by simp[r]))).elim
def rest(g h:Heap)(L d:Addr):List (Addr×Obj):=(mU g h L).filter fun p=>decide (p.1≠d)
theorem EB{g h:Heap}{L:Addr}:News g L h (mU g h L):=fun p hp=>let⟨a,b,c⟩:=RS hp;⟨c,a,b⟩
structure Mod(K:W.Frag)(mg:Str->Option a_)(base:Heap):Prop where
 kin:K.In base
 glob:base.Ns Ub mg
 blt:∃mb,base.Ns YZ mb/\∀x:Str,x≠"__name__"->mb x=VS x
 nolimit:base.NoLimit
structure Cx where
 prog:E_
 w:S_
 K:W.Frag
 mg:Str->Option a_
 base:Heap
 A:Uc
 N:List Str
 s₀:f_
 H₀:Hp
 env:Env
 outer:List Env
 stack:List Env
 ex:List Addr
 fn:Str->Bool
 calm:Bool
 pn:List (Addr×Obj)
 xe:a_->f_->Prop
def gF(l:List Env):List Addr:=l.filterMap (·.frame)
abbrev Cx.fs(X:Cx):List Addr:=gF X.outer
def dz(sc:VX)(x:Str):Prop:=sc.names.lookup x=some .local\/sc.names.lookup x=some .cell\/sc.names.lookup x=some .free
def fW(sc:VX)(x:Str):Prop:=sc.names.lookup x=some .local\/sc.names.lookup x=some .cell
def BA(env:Env)(h:Heap)(m:Str->Option a_)(x:Str)(u:a_):Prop:=(env.kindOf x=some .local/\m x=some u)\/((env.kindOf x=some .cell\/env.kindOf x=some .free)/\∃c,env.cells.lookup x=some c/\h.IsCell c (some u))
structure Cx.Ok(X:Cx):Prop where
 mod:Mod X.K X.mg X.base
 kind:X.env.scope.kind=.function
 glob:X.env.globals=Ub
 blt:X.env.builtins=YZ
 above:X.s₀.heap.objs.size<=X.env.locals
 inj:∀x y c,X.env.cells.lookup x=some c->X.env.cells.lookup y=some c->x=y
 has:∀x,(X.env.kindOf x=some .cell\/X.env.kindOf x=some .free)->∃c,X.env.cells.lookup x=some c
 cab:∀x c,X.fn x=true->X.env.cells.lookup x=some c->X.s₀.heap.objs.size<=c
 hd:X.calm=true->X.A.handled=none
 frames:X.A.frames=some X.stack
 stk:X.stack=X.outer\/(X.stack=X.env::X.outer/\X.env.frame=some X.env.locals)
 exf:∀b∈X.ex,b≠X.env.locals/\∀x c,X.env.cells.lookup x=some c->c≠b
 bs:∀b o,X.base.get? b=some o->X.s₀.heap.get? b=some o/\X.H₀ b=none
 bsz:X.base.objs.size<=X.s₀.heap.objs.size
 noex:∀b o,X.base.get? b=some o->b∉X.ex
 exfs:∀b∈X.ex,b∉X.fs
 funs:X.s₀.heap.FunFrames X.base X.outer
 frf:∀b∈X.fs,X.H₀ b=none
structure Inv(X:Cx)(pz:List (Addr×Obj))(σ:List (Option V))(H:Hp)(s:f_):Prop where
 ok:X.Ok
 os:s.os=X.s₀.os
 bare:Wj s.gens
 base:Un X.fs X.ex X.H₀ H X.s₀.heap s.heap
 loc:∃m,s.heap.Ns X.env.locals m/\∀(i:Nat)(x:Str)(v:V),X.N[i]? = some x->σ[i]? = some (some v)->dz X.env.scope x->∃u,ar v u/\BA X.env s.heap m x u
 cell:∀x c,X.env.cells.lookup x=some c->∃v,s.heap.IsCell c v
 free:H X.env.locals=none
 freeC:∀x c,X.env.cells.lookup x=some c->H c=none
 pin:∀p∈X.pn++pz,s.heap.get? p.1=some p.2/\H p.1=none/\p.1≠X.env.locals/\p.1∉X.fs/\∀v,p.2.data≠.cell v
 hok:cB X.prog X.w H s.heap
 len:σ.length=X.N.length
variable{X:Cx}{pz:List (Addr×Obj)}{s:f_}
section
variable{σ:List (Option V)}
theorem Cx.Ok.nofr(ok:X.Ok){b:Addr}{o:Obj}(e:X.base.get? b=some o):b∉X.fs:=fun hb=>by have:=(ok.funs.mem hb).1;rw[e]at this;cases this
theorem Inv.bs(I:Inv X pz σ H s):∀b o,X.base.get? b=some o->s.heap.get? b=some o/\H b=none:=fun b o e=>⟨I.base.keep b o (I.ok.bs b o e).1 (I.ok.bs b o e).2 (I.ok.nofr e) (I.ok.noex b o e),I.base.free b o (I.ok.bs b o e).1 (I.ok.bs b o e).2 (I.ok.noex b o e)⟩
theorem Inv.bk(I:Inv X pz σ H s):∀b o,X.base.get? b=some o->s.heap.get? b=some o:=fun b o e=>(I.bs b o e).1
theorem Inv.mod(I:Inv X pz σ H s):Mod X.K X.mg X.base:=I.ok.mod
theorem Inv.kIn(I:Inv X pz σ H s):X.K.In s.heap:=I.ok.mod.kin.keeps I.bk
theorem Inv.fr(I:Inv X pz σ H s):∃m,Fr X.base X.env.locals s.heap m:=let⟨m,hn,_⟩:=I.loc
 ⟨m,hn,I.bk,Ue I.ok.bsz I.ok.above⟩
theorem Inv.lt(I:Inv X pz σ H s):X.env.locals<s.heap.objs.size:=let⟨_,hn,_⟩:=I.loc;hn.lt
theorem Inv.sz(I:Inv X pz σ H s):X.s₀.heap.objs.size<=s.heap.objs.size:=Ue I.ok.above (X8 I.lt)
theorem Inv.nofs(I:Inv X pz σ H s){a:Addr}(h:s.heap.objs.size<=a):a∉X.fs:=fun hb=>by obtain⟨_,o,ho,_⟩:=I.ok.funs.mem hb;exact absurd (F_ (w_ ho) (Ue I.sz h)) (UM _)
theorem Inv.cne(I:Inv X pz σ H s):∀x c,X.env.cells.lookup x=some c->c≠X.env.locals:=fun x c e z=>by obtain⟨v,o,ho,hd⟩:=I.cell x c e;obtain⟨m,⟨o',es,ep,B,hd',_⟩,_⟩:=I.loc;rw[z,B]at ho;cases ho;rw[hd']at hd;cases hd
theorem Inv.funs(I:Inv X pz σ H s):s.heap.FunFrames X.base X.outer:=by
 have all:∀(l:List Env),(∀b∈gF l,b∈X.fs)->X.s₀.heap.FunFrames X.base l->s.heap.FunFrames X.base l:=by
  intro l
  induction l with
 |nil=>intro _ _;trivial
 |cons env r ih=>intro hs hl;obtain⟨hk,⟨L,o,hf,hn,ho,hd⟩,hr⟩:=hl;have hL:L∈X.fs:=hs L (by unfold gF;rw[V0,hf];exact e_);obtain⟨sl,e⟩:=I.base.slot L o ho (I.ok.frf L hL) hL fun z=>I.ok.exfs L z hL;exact⟨hk,⟨L,_,hf,hn,e,hd⟩,ih (fun b hb=>hs b (by unfold gF;rw[V0,hf];exact h_ _ hb)) hr⟩
 exact all X.outer (fun _ hb=>hb) I.ok.funs
theorem Inv.stack(I:Inv X pz σ H s):s.heap.FunFrames X.base X.stack:=by
 rcases I.ok.stk with e|⟨e,hf⟩
 .rw[e];exact I.funs
 .rw[e];obtain⟨m,hn,_⟩:=I.loc;refine .cons (by rw[I.ok.kind];decide) hf hn ?_ I.funs;exact Xv (Ue I.ok.bsz I.ok.above)
theorem Inv.stkSub(I:Inv X pz σ H s):∀b∈gF X.stack,b∈X.env.locals::X.fs:=fun b hb=>by
 rcases I.ok.stk with e|⟨e,hf⟩
 .rw[e]at hb;exact h_ _ hb
 .rw[e]at hb;unfold gF at hb;rw[V0,hf]at hb;exact hb
theorem Inv.stkFree(I:Inv X pz σ H s):∀b∈gF X.stack,H b=none:=fun b hb=>by
 rcases n_.mp (I.stkSub b hb)with e|hb
 .rw[e];exact I.free
 .obtain⟨_,o,ho,_⟩:=I.ok.funs.mem hb;exact I.base.free b o ho (I.ok.frf b hb) fun z=>I.ok.exfs b z hb
theorem Inv.step{g':Array GenState}{t':Nat}{d':Drawn}{ch:List Addr}(I:Inv X pz σ H s)(B:∀b∈ch,(b∈X.ex\/X.s₀.heap.objs.size<=b)/\b≠X.env.locals/\(∀x c,X.env.cells.lookup x=some c->c≠b)/\∀p∈X.pn++pz,p.1≠b)(keep:∀b o,b≠X.env.locals->b∉X.fs->b∉ch->s.heap.get? b=some o->H b=none->h'.get? b=some o)(slot:∀b o,b≠X.env.locals->b∈X.fs->b∉ch->s.heap.get? b=some o->H b=none->∃sl,h'.get? b=some { o with slots:=sl })(free:∀b o,b∉ch->s.heap.get? b=some o->H b=none->H' b=none)(there:∀b o,b∉ch->s.heap.get? b=some o->∃o',h'.get? b=some o')(tups:∀b xs,H b=some (.tup xs)->H' b=some (.tup xs))(frzs:∀b o u,H b=some (.frz o u)->H' b=some (.frz o u))(tbls:∀b ps,H b=some (.tbl ps)->∃more,H' b=some (.tbl (ps++more)))(ns:∀m,s.heap.Ns X.env.locals m->h'.Ns X.env.locals m)(hok:cB X.prog X.w H' h')(hg:Wj g'):Inv X pz σ H' { s with heap:=h',gens:=g',drawn:=d',toks:=t' }:=by
 have Y:∀b o,X.s₀.heap.get? b=some o->b≠X.env.locals:=fun b o e=>M_ (F_ (w_ e) I.ok.above);have U:∀b o,X.s₀.heap.get? b=some o->b∉X.ex->b∉ch:=fun b o e hx hb=>by
  rcases(B b hb).1 with z|z
  .exact hx z
  .exact absurd (F_ (w_ e) z) (UM _)
 have M:∀x c,X.env.cells.lookup x=some c->∀v,s.heap.IsCell c v->h'.IsCell c v:=fun x c e v ⟨o,ho,hd⟩=>by
  have L:c∉ch:=fun z=>(B c z).2.2.1 x c e rfl;by_cases hc:c∈X.fs
  .obtain⟨sl,q⟩:=slot c o (I.cne x c e) hc L ho (I.freeC x c e);exact⟨_,q,hd⟩
  .exact⟨o,keep c o (I.cne x c e) hc L ho (I.freeC x c e),hd⟩
 refine⟨I.ok,I.os,hg,⟨fun b o e n hb hx=>?_,fun b o e n hb hx=>?_,fun b o e n hx=>?_,fun b o e hx=>?_,fun b xs e=>tups b xs (I.base.tups b xs e),fun b o xs e=>frzs b o xs (I.base.frzs b o xs e),fun b ps e=>?_⟩,?_,fun x c e=>?_,?_,fun x c e=>?_,fun p hp=>?_,hok,I.len⟩
 .exact keep b o (Y b o e) hb (U b o e hx) (I.base.keep b o e n hb hx) (I.base.free b o e n hx)
 .obtain⟨sl,e1⟩:=I.base.slot b o e n hb hx;obtain⟨Z,e2⟩:=slot b _ (Y b o e) hb (U b o e hx) e1 (I.base.free b o e n hx);exact⟨Z,e2⟩
 .obtain⟨o',e1⟩:=I.base.there b o e hx;exact free b o' (U b o e hx) e1 (I.base.free b o e n hx)
 .obtain⟨o',e1⟩:=I.base.there b o e hx;exact there b o' (U b o e hx) e1
 .obtain⟨m1,e1⟩:=I.base.tbls b ps e;obtain⟨m2,e2⟩:=tbls b _ e1;exact⟨m1++m2,by rw[e2,Array.append_assoc]⟩
 .obtain⟨m,hn,hl⟩:=I.loc;refine⟨m,ns m hn,fun i x v e1 e2 e3=>?_⟩;obtain⟨u,r,l⟩:=hl i x v e1 e2 e3;refine⟨u,r,?_⟩;rcases l with l|⟨k,c,e,z⟩
  .exact .inl l
  .exact .inr ⟨k,c,e,M x c e _ z⟩
 .obtain⟨v,z⟩:=I.cell x c e;exact⟨v,M x c e v z⟩
 .obtain⟨m,⟨o,_,_,ho,_⟩,_⟩:=I.loc;exact free _ o (fun z=>(B _ z).2.1 rfl) ho I.free
 .obtain⟨v,o,ho,hd⟩:=I.cell x c e;exact free c o (fun z=>(B c z).2.2.1 x c e rfl) ho (I.freeC x c e)
 .obtain⟨e,n,ne,nf,d⟩:=I.pin p hp;have L:p.1∉ch:=fun z=>(B p.1 z).2.2.2 p hp rfl;exact⟨keep p.1 p.2 ne nf L e n,free p.1 p.2 L e n,ne,nf,d⟩
theorem Inv.un{t':Nat}(I:Inv X pz σ H s)(u:Un X.fs [] H H' s.heap h')(hok:cB X.prog X.w H' h'):Inv X pz σ H' { s with heap:=h',toks:=t' }:=by obtain⟨m,⟨o,es,ep,ho,r⟩,_⟩:=id I.loc;obtain⟨sl,hL⟩:=u.any ho I.free (by simp);exact I.step (g':=s.gens) (d':=s.drawn) (ch:=[]) (fun _ z=>nomatch z) (fun b o _ hb _ e n=>u.keep b o e n hb (by simp)) (fun b o _ hb _ e n=>u.slot b o e n hb (by simp)) (fun b o _ e n=>u.free b o e n (by simp)) (fun b o _ e=>u.there b o e (by simp)) u.tups u.frzs u.tbls (fun m' hm=>by obtain⟨o',L,M,B,r'⟩:=hm;rw[ho]at B;cases B;exact⟨_,L,M,hL,r'⟩) hok I.bare
theorem Inv.call{g':Array GenState}{t':Nat}{d':Drawn}{ch:List Addr}(I:Inv X pz σ H s)(u:Un (gF X.stack) ch H H' s.heap h')(hok:cB X.prog X.w H' h')(hg:Wj g')(L:∀b∈ch,(b∈X.ex\/X.s₀.heap.objs.size<=b)/\b≠X.env.locals/\(∀x c,X.env.cells.lookup x=some c->c≠b)/\∀p∈X.pn++pz,p.1≠b):Inv X pz σ H' { s with heap:=h',gens:=g',drawn:=d',toks:=t' }:=by obtain⟨m,⟨o,es,ep,ho,r⟩,_⟩:=id I.loc;obtain⟨sl,hL⟩:=u.any ho I.free fun z=>(L _ z).2.1 rfl;exact I.step (ch:=ch) L (fun b o hL hb hc e n=>u.keep b o e n (fun z=>(n_.mp (I.stkSub b z)).elim hL hb) hc) (fun b o _ _ hc e n=>u.any e n hc) (fun b o hc e n=>u.free b o e n hc) (fun b o hc e=>u.there b o e hc) u.tups u.frzs u.tbls (fun m' hm=>by obtain⟨o',U,M,B,r'⟩:=hm;rw[ho]at B;cases B;exact⟨_,U,M,hL,r'⟩) hok hg
theorem Inv.turned{t':Nat}{it:Addr}(I:Inv X pz σ H s)(k:∀b o,b≠it->s.heap.get? b=some o->h'.get? b=some o)(hn:H it=none)(hL:it≠X.env.locals)(h1:it∈X.ex\/X.s₀.heap.objs.size<=it)(h2:∀x c,X.env.cells.lookup x=some c->c≠it)(h3:∀p∈X.pn++pz,p.1≠it):Inv X pz σ H { s with heap:=h',toks:=t' }:=by
 have B:∀b u,H b=some u->b≠it:=fun b u e z=>by rw[z,hn]at e;cases e
 refine I.step (g':=s.gens) (d':=s.drawn) (ch:=[it]) (fun b hb=>?_) (fun b o _ _ hc e _=>k b o (fun z=>hc (by simp[z])) e) (fun b o _ _ hc e _=>⟨o.slots,k b o (fun z=>hc (by simp[z])) e⟩) (fun _ _ _ _ n=>n)
  (fun b o hc e=>⟨o,k b o (fun z=>hc (by simp[z])) e⟩) (fun _ _ e=>e) (fun _ _ _ e=>e) (fun b ps e=>⟨#[],by rw[e];simp⟩) (fun m hm=>?_) (fun b u e=>?_) I.bare
 .have e:b=it:=by simpa using hb
  subst e;exact⟨h1,hL,h2,h3⟩
 .obtain⟨o,es,ep,ho,r⟩:=hm;exact⟨o,es,ep,k _ o (UX hL) ho,r⟩
 .refine(I.hok b u e).stay (fun c v hc q=>k c v ?_ q) (fun _ q=>q) fun _ _ q=>q;rcases hc with z|z
  .rw[z];exact B b u e
  .exact B c _ z
theorem Inv.tok(I:Inv X pz σ H s)(t:Nat):Inv X pz σ H { s with toks:=t }:=I.un (h':=s.heap) (t':=t) Un.refl I.hok
theorem Inv.kept{t':Nat}(I:Inv X pz σ H s)(k:∀b u,s.heap.get? b=some u->h'.get? b=some u):Inv X pz σ H { s with heap:=h',toks:=t' }:=I.un (Un.kept k) (I.hok.kept k)
theorem Inv.laid{a:Addr}{o:HO}{t':Nat}(I:Inv X pz σ H s)(k:∀b u,s.heap.get? b=some u->h'.get? b=some u)(hp:s.heap.objs.size<=a)(new:bF X.prog X.w (aB H a o) h' a o):Inv X pz σ (aB H a o) { s with heap:=h',toks:=t' }:=I.un (Un.laid k hp (I.hok.fresh hp)) (I.hok.laid k hp new)
theorem Inv.write{x e:Addr}{o:HO}{t':Nat}(I:Inv X pz σ H s)(mu:p7 (H x))(he:e=x\/H e=some (.own x))(k:∀b u,b≠e->s.heap.get? b=some u->h'.get? b=some u)(B:∃u,h'.get? e=some u)(new:bF X.prog X.w (aB H x o) h' x o):Inv X pz σ (aB H x o) { s with heap:=h',toks:=t' }:=I.un (Un.write mu he k B) (I.hok.write mu he k B new)
theorem Inv.pins_of{B:List (Addr×Obj)}(I:Inv X pz σ H s)(h:∀p∈B,s.heap.get? p.1=some p.2/\H p.1=none/\p.1≠X.env.locals/\p.1∉X.fs/\∀v,p.2.data≠.cell v):Inv X B σ H s:=⟨I.ok,I.os,I.bare,I.base,I.loc,I.cell,I.free,I.freeC,fun p hp=>(Ui.mp hp).elim (fun z=>I.pin p (Vi _ z)) (h p),I.hok,I.len⟩
theorem EC{N:List Str}(hN:N.Nodup){i j:Nat}{x:Str}(a:N[i]? = some x)(b:N[j]? = some x):i=j:=by obtain⟨h1,e1⟩:=k_.mp a;obtain⟨h2,e2⟩:=k_.mp b;exact(List.getElem_inj hN).mp (e1.trans e2.symm)
theorem Fw{M:Model}{A:Uc}{E:a_->f_->Prop}{i:Nat}{x:Str}{v:V}{u:a_}{Q:Unit->f_->Prop}(I:Inv X pz σ H s)(hN:X.N.Nodup)(hi:X.N[i]? = some x)(hx:fW X.env.scope x)(r:ar v u)(h:∀s',Inv X pz (σ.set i (some v)) H s'->(∃a,Wv a s.heap s'.heap/\(a=X.env.locals\/X.env.cells.lookup x=some a))->Q () s')(hf:X.fn x=true\/X.env.scope.names.lookup x=some .local:=by first|exact .inl rfl|exact .inr rfl|assumption):C_ M A (storeName X.env x u) Q E s:=by
 obtain⟨m,hn,hl⟩:=id I.loc;have ac:(X.env.scope.kind==.class || (X.env.scope.kind==.module&&X.env.locals != X.env.globals))=false:=by rw[I.ok.kind];rfl
 have U:i<σ.length:=by rw[I.len];exact(k_.mp hi).1
 have cne:=I.cne;have B:∀{a:Addr}{h':Heap},(∃o,s.heap.get? a=some o/\H a=none)->Wv a s.heap h'->cB X.prog X.w H h':=fun{a h'} ha hs b ob e=>by
  obtain⟨_,_,L⟩:=ha;refine(I.hok b ob e).stay (fun c w' hc q=>(hs.2 c ?_).trans q) (fun _ q=>q) fun _ _ q=>q
  rintro rfl
  rcases hc with rfl|hc
  .rw[L]at e;cases e
  .rw[L]at hc;cases hc
 rcases hx with hk|hk
 .refine wpAny_storeName_local hk hn (fun h' dl hs=>?_) ac;obtain⟨oL,_,_,BT,_⟩:=id hn;refine h _ ⟨I.ok,I.os,I.bare,⟨fun b o e n hb hx=>?_,fun b o e n hb hx=>?_,I.base.free,fun b o e hx=>?_,I.base.tups,I.base.frzs,I.base.tbls⟩,⟨_,dl,fun j y v' e1 e2 e3=>?_⟩,fun y c e=>?_,I.free,I.freeC,fun p hp=>?_,B ⟨oL,BT,I.free⟩ hs,by simpa using I.len⟩ ⟨_,hs,.inl rfl⟩
  .exact(hs.2 b (M_ (F_ (w_ e) I.ok.above))).trans (I.base.keep b o e n hb hx)
  .obtain⟨sl,e1⟩:=I.base.slot b o e n hb hx;exact⟨sl,(hs.2 b (M_ (F_ (w_ e) I.ok.above))).trans e1⟩
  .obtain⟨o',e1⟩:=I.base.there b o e hx;exact⟨o',(hs.2 b (M_ (F_ (w_ e) I.ok.above))).trans e1⟩
  .by_cases hj:j=i
   .subst hj;rw[hi]at e1;cases e1;rw[o_ U]at e2;cases e2;exact⟨u,r,.inl ⟨hk,by simp⟩⟩
   .rw[d_ (UX hj)]at e2;obtain⟨u',r',q⟩:=hl j y v' e1 e2 e3;refine⟨u',r',?_⟩;rcases q with⟨k,e⟩|⟨k,c,e,z⟩
    .refine .inl ⟨k,?_⟩;have:y≠x:=fun e=>hj (EC hN e1 (e▸hi));simp[this,e]
    .exact .inr ⟨k,c,e,z.sameBut hs (cne y c e)⟩
  .obtain⟨w',z⟩:=I.cell y c e;exact⟨w',z.sameBut hs (cne y c e)⟩
  .obtain⟨e,n,ne,nf,d⟩:=I.pin p hp;exact⟨(hs.2 p.1 ne).trans e,n,ne,nf,d⟩
 .have hfn:X.fn x=true:=by
   rcases hf with z|z
   .exact z
   .rw[z]at hk;cases hk
  obtain⟨c,hc⟩:=I.ok.has x (.inl hk);obtain⟨w',z⟩:=I.cell x c hc;refine wpAny_storeName_cell I.ok.kind hk hc z (fun h' Y hs=>?_);obtain⟨oc,Z,ad⟩:=id z;refine h { s with heap:=h' } ⟨I.ok,I.os,I.bare,⟨fun b o e n hb hx=>?_,fun b o e n hb hx=>?_,I.base.free,fun b o e hx=>?_,I.base.tups,I.base.frzs,I.base.tbls⟩,⟨m,hn.sameBut hs (UX (cne x c hc)),fun j y v' e1 e2 e3=>?_⟩,fun y c' e=>?_,I.free,I.freeC,fun p hp=>?_,B ⟨oc,Z,I.freeC x c hc⟩ hs,by simpa using I.len⟩ ⟨c,hs,.inr hc⟩
  .exact(hs.2 b (M_ (F_ (w_ e) (I.ok.cab x c hfn hc)))).trans (I.base.keep b o e n hb hx)
  .obtain⟨sl,e1⟩:=I.base.slot b o e n hb hx;exact⟨sl,(hs.2 b (M_ (F_ (w_ e) (I.ok.cab x c hfn hc)))).trans e1⟩
  .obtain⟨o',e1⟩:=I.base.there b o e hx;exact⟨o',(hs.2 b (M_ (F_ (w_ e) (I.ok.cab x c hfn hc)))).trans e1⟩
  .by_cases hj:j=i
   .subst hj;rw[hi]at e1;cases e1;rw[o_ U]at e2;cases e2;exact⟨u,r,.inr ⟨.inl hk,c,hc,Y⟩⟩
   .rw[d_ (UX hj)]at e2;obtain⟨u',r',q⟩:=hl j y v' e1 e2 e3;refine⟨u',r',?_⟩;rcases q with q|⟨k,c',e,z'⟩
    .exact .inl q
    .refine .inr ⟨k,c',e,z'.sameBut hs ?_⟩
     rintro rfl
     exact hj (EC hN e1 (I.ok.inj _ _ _ e hc▸hi))
  .by_cases hcc:c'=c
   .subst hcc;exact⟨_,Y⟩
   .obtain⟨w2,z2⟩:=I.cell y c' e;exact⟨w2,z2.sameBut hs hcc⟩
  .obtain⟨e,n,ne,nf,d⟩:=I.pin p hp;refine⟨(hs.2 p.1 ?_).trans e,n,ne,nf,d⟩;intro q;rw[q,Z]at e;have q':oc=p.2:=H_ e;exact d w' (by rw[<-q'];exact ad)
theorem EW{M:Model}{A:Uc}{E:a_->f_->Prop}{i:Nat}{x:Str}{v:V}{u:a_}{Q:Unit->f_->Prop}(I:Inv X pz σ H s)(hN:X.N.Nodup)(hi:X.N[i]? = some x)(hx:fW X.env.scope x)(r:ar v u)(h:∀s',Inv X pz (σ.set i (some v)) H s'->Q () s')(hf:X.fn x=true\/X.env.scope.names.lookup x=some .local:=by first|exact .inl rfl|exact .inr rfl|assumption):C_ M A (storeName X.env x u) Q E s:=Fw I hN hi hx r (fun s' I' _=>h s' I') hf
theorem Inv.call'{s':f_}{ch:List Addr}(I:Inv X pz σ H s)(ho:s'.os=s.os)(u:Un (gF X.stack) ch H H' s.heap s'.heap)(hok:cB X.prog X.w H' s'.heap)(hg:Wj s'.gens)(B:∀b∈ch,(b∈X.ex\/X.s₀.heap.objs.size<=b)/\b≠X.env.locals/\(∀x c,X.env.cells.lookup x=some c->c≠b)/\∀p∈X.pn++pz,p.1≠b):Inv X pz σ H' s':=by obtain⟨h',g',d',t',o'⟩:=s';have e:o'=s.os:=ho;subst e;exact I.call (g':=g') (t':=t') (d':=d') u hok hg B
end
abbrev XK:=a_->Option Addr->Hp->Prop
abbrev St:=List (Option V)
abbrev VK:=V->Hp->Prop
abbrev TE:=St->Hp->VK->Prop
abbrev TT:=St->Hp->(Bool->Hp->Prop)->Prop
abbrev TA:=St->Hp->(List V->Hp->Prop)->Prop
structure Ends where
 nx:St->Hp->Prop
 rt:VK
 bk:St->Hp->Prop:=fun _ _=>False
 ct:St->Hp->Prop:=fun _ _=>False
abbrev TS:=Ends->St->Hp->Prop
def EP(X:Cx)(pz:List (Addr×Obj))(σ:St)(Q:VK)(u:a_)(s':f_):Prop:=∃v H',Inv X pz σ H' s'/\ar v u/\Q v H'
def TP(X:Cx)(pz:List (Addr×Obj))(σ:St)(Q:Bool->Hp->Prop)(b:Bool)(s':f_):Prop:=∃H',Inv X pz σ H' s'/\Q b H'
def AP(X:Cx)(pz:List (Addr×Obj))(σ:St)(Q:List V->Hp->Prop)(us:List a_)(s':f_):Prop:=∃vs H',Inv X pz σ H' s'/\al vs us/\Q vs H'
def SP(X:Cx)(pz:List (Addr×Obj))(D:Ends)(f:Flow)(s':f_):Prop:=match f with
|.next=>∃σ' H',Inv X pz σ' H' s'/\D.nx σ' H'
|.brk=>∃σ' H',Inv X pz σ' H' s'/\D.bk σ' H'
|.cont=>∃σ' H',Inv X pz σ' H' s'/\D.ct σ' H'
|.ret u=>∃v σ' H',Inv X pz σ' H' s'/\ar v u/\D.rt v H'
def PE(X:Cx)(e:Expr)(t:TE):Prop:=∀(pz:List (Addr×Obj))(s:f_)(σ:St)(H:Hp)(Q:VK),Inv X pz σ H s->t σ H Q->C_ (G_ X.prog X.w) X.A (eval e X.env) (EP X pz σ Q) X.xe s
def PT(X:Cx)(e:Expr)(t:TT):Prop:=∀(pz:List (Addr×Obj))(s:f_)(σ:St)(H:Hp)(Q:Bool->Hp->Prop),Inv X pz σ H s->t σ H Q->C_ (G_ X.prog X.w) X.A (isTrue e X.env (eval e X.env)) (TP X pz σ Q) X.xe s
def PW(X:Cx)(e:Expr)(t:TT):Prop:=∀(whole:Sem a_)(pz:List (Addr×Obj))(s:f_)(σ:St)(H:Hp)(Q:Bool->Hp->Prop),Inv X pz σ H s->t σ H Q->C_ (G_ X.prog X.w) X.A (isTrue e X.env whole) (TP X pz σ Q) X.xe s
theorem PW.pt{X:Cx}{e:Expr}{t:TT}(h:PW X e t):PT X e t:=h _
def PA(X:Cx)(es:List Expr)(t:TA):Prop:=∀(pos:Pos)(pz:List (Addr×Obj))(s:f_)(σ:St)(H:Hp)(Q:List V->Hp->Prop),Inv X pz σ H s->t σ H Q->C_ (G_ X.prog X.w) X.A (spliced (backTo pos (i_ es X.env))) (AP X pz σ Q) X.xe s
def PS(X:Cx)(st:Stmt)(t:TS):Prop:=∀(pz:List (Addr×Obj))(s:f_)(σ:St)(H:Hp)(D:Ends),Inv X pz σ H s->t D σ H->C_ (G_ X.prog X.w) X.A (exec st X.env) (SP X pz D) X.xe s
def bW(X:Cx)(st:List Stmt)(t:TS):Prop:=∀(pz:List (Addr×Obj))(s:f_)(σ:St)(H:Hp)(D:Ends),Inv X pz σ H s->t D σ H->C_ (G_ X.prog X.w) X.A (execs st X.env) (SP X pz D) X.xe s
theorem aO{α:Type}{t:Sem α}{Q Q':α->f_->Prop}{M:Model}{A:Uc}{E:a_->f_->Prop}{s:f_}(h:C_ M A t Q E s)(hQ:∀a s,Q a s->Q' a s):C_ M A t Q' E s:=Vn h hQ fun _ _ x=>x
variable{b:Expr}{ta tb:TE}{pos:Pos}
section
def AU(i:Nat):TE:=fun σ H Q=>∃v,σ[i]? = some (some v)/\Q v H
def tC(v:V):TE:=fun _ H Q=>Q v H
theorem dM{i:Nat}{x:Str}{pos:Pos}(hN:X.N[i]? = some x)(hv:dz X.env.scope x)(hd:(x==("__debug__" : Str))=false:=by decide)(B:(x==("__classdict__" : Str))=false:=by decide):PE X (.Name x pos) (AU i):=by
 intro pz s σ H Q I h;obtain⟨v,e,h⟩:=h;obtain⟨m,hn,hl⟩:=I.loc;obtain⟨u,r,l⟩:=hl i x v hN e hv;have fin:EP X pz σ Q u s:=⟨v,H,I,r,h⟩
 rcases l with⟨hk,hm⟩|⟨hk,c,hc,hcell⟩
 .exact Y0 (wpAny_loadName_local I.ok.kind hk hn hm fin) hd
 .rcases hk with hk|hk
  .exact Y0 (wpAny_loadName_cell I.ok.kind hk hc hcell fin) hd
  .exact Y0 (wpAny_loadName_free I.ok.kind hk hc hcell fin B) hd
theorem KA{i j pos}:PE X (.Constant (.int i) j pos) (tC (.int i)):=fun _ _ _ H _ I h=>wpAny_Constant_int ⟨.int i,H,I.tok _,⟨_,rfl⟩,h⟩
theorem Ci{b j pos}:PE X (.Constant (.bool b) j pos) (tC (.bl b)):=fun _ _ _ H _ I h=>Constant_bool ⟨.bl b,H,I,rfl,h⟩
theorem KF{j pos}:PE X (.Constant .none j pos) (tC .non):=fun _ _ _ H _ I h=>Constant_none ⟨.non,H,I,rfl,h⟩
theorem KH{x j pos}:PE X (.Constant (.str x) j pos) (tC (.str x)):=fun _ _ _ H _ I h=>Calls.Constant_str ⟨.str x,H,I.tok _,⟨_,rfl⟩,h⟩
def Gl(X:Cx)(x:Str):Prop:=X.env.kindOf x=some .globalImplicit
theorem qO{E:a_->f_->Prop}{pz:List (Addr×Obj)}{s:f_}{σ:St}{H:Hp}{x:Str}{u:a_}{pos:Pos}{Q:a_->f_->Prop}(I:Inv X pz σ H s)(hg:Gl X x)(hm:X.mg x=some u)(h:Q u s)(hd:(x==("__debug__" : Str))=false:=by decide):C_ (G_ X.prog X.w) X.A (eval (.Name x pos) X.env) Q E s:=WC I.ok.kind hg (Calls.loadGlobal_global (by rw[I.ok.glob];exact I.mod.glob.keeps I.bk) hm h) hd
theorem lu{E:a_->f_->Prop}{pz:List (Addr×Obj)}{s:f_}{σ:St}{H:Hp}{x:Str}{u:a_}{pos:Pos}{Q:a_->f_->Prop}(I:Inv X pz σ H s)(hg:Gl X x)(hm:X.mg x=none)(hv:VS x=some u)(h:Q u s)(hn:x≠"__name__" := by decide)(hd:(x==("__debug__" : Str))=false:=by decide):C_ (G_ X.prog X.w) X.A (eval (.Name x pos) X.env) Q E s:=by obtain⟨mb,h1,h2⟩:=I.mod.blt;exact WC I.ok.kind hg (Calls.loadGlobal_builtin (by rw[I.ok.glob];exact I.mod.glob.keeps I.bk) hm (by rw[I.ok.blt];exact h1.keeps I.bk) ((h2 x hn).trans hv) h) hd
theorem wK{x:Str}{v:V}{u:a_}{pos:Pos}(hg:Gl X x)(hm:X.mg x=some u)(r:ar v u)(hd:(x==("__debug__" : Str))=false:=by decide):PE X (.Name x pos) (tC v):=fun _ _ _ H _ I h=>qO I hg hm ⟨v,H,I,r,h⟩ hd
theorem L6{x:Str}{v:V}{u:a_}{pos:Pos}(hg:Gl X x)(hm:X.mg x=none)(hv:VS x=some u)(r:ar v u)(hn:x≠"__name__" := by decide)(hd:(x==("__debug__" : Str))=false:=by decide):PE X (.Name x pos) (tC v):=fun _ _ _ H _ I h=>lu I hg hm hv ⟨v,H,I,r,h⟩ hn hd
variable{a:Expr}
def tB(t:TE):TT:=fun σ H Q=>t σ H fun x H1=>∃c,x=.bl c/\Q c H1
variable{tA tB':TT}{rest:List Expr}
def A6(t u:TT):TT:=fun σ H Q=>t σ H fun c H1=>if c=true then u σ H1 Q else Q false H1
def Sn(t u:TT):TT:=fun σ H Q=>t σ H fun c H1=>if c=true then Q true H1 else u σ H1 Q
def AY(t:TT):TT:=fun σ H Q=>t σ H fun c H1=>Q (! c) H1
theorem Mg(ha:PT X a tA):PW X (.BoolOp .And [a] pos) tA:=by intro wh pz s σ H Q I h;refine isTrue_and (aO (ha pz s σ H Q I h) fun c s1 e=>?_);cases c with
|true=>exact isTrue_and_nil e
|false=>exact e
theorem KQ(ha:PT X a tA):PW X (.BoolOp .Or [a] pos) tA:=by intro wh pz s σ H Q I h;refine isTrue_or (aO (ha pz s σ H Q I h) fun c s1 e=>?_);cases c with
|false=>exact isTrue_or_nil e
|true=>exact e
theorem KP(ha:PT X a tA)(hb:PW X (.BoolOp .And (b::rest) pos) tB'):PW X (.BoolOp .And (a::b::rest) pos) (A6 tA tB'):=by intro wh pz s σ H Q I h;refine isTrue_and (aO (ha pz s σ H _ I h) fun c s1 ⟨H1,I1,q1⟩=>?_);cases c with
|true=>exact hb wh pz s1 σ H1 Q I1 q1
|false=>exact⟨H1,I1,q1⟩
theorem Jn(ha:PT X a tA)(hb:PW X (.BoolOp .Or (b::rest) pos) tB'):PW X (.BoolOp .Or (a::b::rest) pos) (Sn tA tB'):=by intro wh pz s σ H Q I h;refine isTrue_or (aO (ha pz s σ H _ I h) fun c s1 ⟨H1,I1,q1⟩=>?_);cases c with
|true=>exact⟨H1,I1,q1⟩
|false=>exact hb wh pz s1 σ H1 Q I1 q1
theorem vA(ha:PT X a tA):PT X (.UnaryOp .Not a pos) (AY tA):=by intro pz s σ H Q I h;exact isTrue_not (ha pz s σ H (fun c H1=>Q (! c) H1) I h)
def IG(ta tb:TE):TE:=fun σ H Q=>ta σ H fun x H1=>∃c,x=.bl c/\if c=true then tb σ H1 Q else Q (.bl false) H1
def IL(ta:TE):TE:=fun σ H Q=>ta σ H fun x H1=>∃c,x=.bl c/\Q (.bl (! c)) H1
theorem CW{op}{t:TE}(h:PE X a t):PE X (.BoolOp op [a] pos) t:=fun pz s σ H Q I hw=>BoolOp_one (h pz s σ H Q I hw)
theorem CV(ha:PE X a ta)(hb:PE X (.BoolOp .And (b::rest) pos) tb):PE X (.BoolOp .And (a::b::rest) pos) (IG ta tb):=by intro pz s σ H Q I h;refine BoolOp_and (aO (ha pz s σ H _ I h) fun v s1 ⟨x,H1,I1,r1,q1⟩=>?_);obtain⟨c,rfl,q1⟩:=q1;cases r1;refine VN ?_;cases c with
|true=>exact hb pz s1 σ H1 Q I1 q1
|false=>exact⟨.bl false,H1,I1,rfl,q1⟩
theorem KG(ha:PE X a ta):PE X (.UnaryOp .Not a pos) (IL ta):=by intro pz s σ H Q I h;refine UnaryOp_ (aO (ha pz s σ H _ I h) fun v s1 ⟨x,H1,I1,r1,q1⟩=>?_);obtain⟨c,rfl,q1⟩:=q1;cases r1;exact not_of (VN ⟨.bl (! c),H1,I1,rfl,q1⟩)
def So(t:TT)(ta tb:TE):TE:=fun σ H Q=>t σ H fun c H1=>if c=true then ta σ H1 Q else tb σ H1 Q
theorem OA{c:Expr}(hc:PT X c tA)(ha:PE X a ta)(hb:PE X b tb):PE X (.IfExp c a b pos) (So tA ta tb):=by intro pz s σ H Q I h;refine wpAny_IfExp (aO (hc pz s σ H _ I h) fun d s1 ⟨H1,I1,q1⟩=>?_);cases d with
|true=>exact ha pz s1 σ H1 Q I1 q1
|false=>exact hb pz s1 σ H1 Q I1 q1
end
def bh(K:W.Frag)(H:Hp)(a:Addr)(xs:List V):Prop:=Rd H a (.lst xs) \/∃(o:Obj)(its:Array a_)(n:Nat),K.lookup a=some o/\o.cls=.type "list"/\o.dict=none/\o.data=.seq its n/\its.size<=sizeLine/\al xs its.toList
def bU(K:W.Frag)(H:Hp)(a:Addr)(xs:List V):Prop:=Rd H a (.tup xs) \/∃(o:Obj)(its:Array a_)(n:Nat),K.lookup a=some o/\o.cls=.type "tuple"/\o.data=.seq its n/\its.size<=sizeLine/\al xs its.toList
def Bv:a_->Option V
|.none=>some .non
|.bool b=>some (.bl b)
|.int i _=>some (.int i)
|.str x _=>some (.str x)
|.bytes b _=>some (.byt b)
|.float b _=>some (.flt b)
|.ref a=>some (.ref a)
|.type n=>some (.ty n)
|_=>none
theorem ar.abs{x:V}{u:a_}(r:ar x u):Bv u=some x:=by cases x with
|non=>cases r;rfl
|bl _=>cases r;rfl
|int _=>obtain⟨t,rfl⟩:=r;rfl
|str _=>obtain⟨t,rfl⟩:=r;rfl
|byt _=>obtain⟨t,rfl⟩:=r;rfl
|flt _=>obtain⟨t,rfl⟩:=r;rfl
|ref _=>cases r;rfl
|ty _=>cases r;rfl
theorem ar.inj{x y:V}{u:a_}(r:ar x u)(q:ar y u):x=y:=H_ (r.abs.symm.trans q.abs)
theorem al.inj{xs ys:List V}{us:List a_}(h:al xs us)(h':al ys us):xs=ys:=by induction h generalizing ys with
|nil=>cases h';rfl
|cons r t ih=>cases h' with
 |cons r' t'=>rw[r.inj r',ih t']
variable{σ:St}
section
variable{xs ys:List V}
theorem bh.of{K:W.Frag}(h:H a=some (.lst xs)):bh K H a xs:=.inl (.inl h)
theorem Inv.list(I:Inv X pz σ H s)(h:bh X.K H a xs):∃its:List a_,al xs its/\PlainL s.heap a its.toArray/\xs.length<=sizeLine:=by
 rcases h with h|⟨o,its,n,hk,hc,hd,hs,hz,r⟩
 .obtain⟨z,its,n,r,e⟩:=h.ok I.hok;exact⟨its,r,⟨_,n,e,rfl,rfl,rfl⟩,z⟩
 .refine⟨its.toList,r,⟨o,n,I.kIn a o hk,hc,hd,by simpa using hs⟩,?_⟩;have e:=r.length;simp only[Vs]at e;omega
theorem Inv.tuple(I:Inv X pz σ H s)(h:bU X.K H a xs):∃its:List a_,al xs its/\X7 s.heap a its.toArray/\xs.length<=sizeLine:=by
 rcases h with h|⟨o,its,n,hk,hc,hs,hz,r⟩
 .obtain⟨z,its,r,p,_⟩:=h.ok I.hok;exact⟨its,r,p,z⟩
 .refine⟨its.toList,r,⟨o,I.kIn a o hk,hc,n,by simpa using hs⟩,?_⟩;have e:=r.length;simp only[Vs]at e;omega
theorem Inv.list_inj(I:Inv X pz σ H s)(h:bh X.K H a xs)(h':bh X.K H a ys):xs=ys:=by
 obtain⟨its,r,⟨o,n,e,_,_,d⟩,_⟩:=I.list h;obtain⟨its',r',⟨o',n',e',_,_,d'⟩,_⟩:=I.list h';rw[e]at e';cases e';rw[d]at d';injection d' with d1 _
 have:its=its':=by simpa using congrArg Zv d1
 subst this;exact r.inj r'
theorem Inv.tuple_inj(I:Inv X pz σ H s)(h:bU X.K H a xs)(h':bU X.K H a ys):xs=ys:=by
 obtain⟨its,r,⟨o,e,_,n,d⟩,_⟩:=I.tuple h;obtain⟨its',r',⟨o',e',_,n',d'⟩,_⟩:=I.tuple h';rw[e]at e';cases e';rw[d]at d';injection d' with d1 _
 have:its=its':=by simpa using congrArg Zv d1
 subst this;exact r.inj r'
end
abbrev Cx.wish(X:Cx)(E:a_->f_->Prop):Cx:={ X with xe:=E }
abbrev Cx.nox(X:Cx):Cx:=X.wish fun _ _=>False
theorem Cx.Ok.wish{X:Cx}(ok:X.Ok)(E:a_->f_->Prop):(X.wish E).Ok:=⟨ok.mod,ok.kind,ok.glob,ok.blt,ok.above,ok.inj,ok.has,ok.cab,ok.hd,ok.frames,ok.stk,ok.exf,ok.bs,ok.bsz,ok.noex,ok.exfs,ok.funs,ok.frf⟩
theorem Cx.Ok.unwish{X:Cx}{E:a_->f_->Prop}(ok:(X.wish E).Ok):X.Ok:=⟨ok.mod,ok.kind,ok.glob,ok.blt,ok.above,ok.inj,ok.has,ok.cab,ok.hd,ok.frames,ok.stk,ok.exf,ok.bs,ok.bsz,ok.noex,ok.exfs,ok.funs,ok.frf⟩
variable{E:a_->f_->Prop}
theorem Inv.wish(I:Inv X pz σ H s)(E:a_->f_->Prop):Inv (X.wish E) pz σ H s:=⟨I.ok.wish E,I.os,I.bare,I.base,I.loc,I.cell,I.free,I.freeC,I.pin,I.hok,I.len⟩
theorem Inv.unwish(I:Inv (X.wish E) pz σ H s):Inv X pz σ H s:=⟨I.ok.unwish,I.os,I.bare,I.base,I.loc,I.cell,I.free,I.freeC,I.pin,I.hok,I.len⟩
theorem SP.unwish{D:Ends}{f:Flow}{s':f_}(h:SP (X.wish E) pz D f s'):SP X pz D f s':=by cases f with
|next=>obtain⟨σ',H',I,q⟩:=h;exact⟨σ',H',I.unwish,q⟩
|brk=>obtain⟨σ',H',I,q⟩:=h;exact⟨σ',H',I.unwish,q⟩
|cont=>obtain⟨σ',H',I,q⟩:=h;exact⟨σ',H',I.unwish,q⟩
|ret u=>obtain⟨v,σ',H',I,r,q⟩:=h;exact⟨v,σ',H',I.unwish,r,q⟩
theorem bW.nox{st:List Stmt}{t:TS}(h:bW X.nox st t):bW X st t:=fun pz s σ H D I hw=>Vn (h pz s σ H D (I.wish _) hw) (fun _ _ q=>q.unwish) fun _ _ z=>U1 z
variable{e:Expr}{te:TE}
section
variable{st:Stmt}{rest:List Stmt}{t u:TS}
def IK:TS:=fun D σ H=>D.nx σ H
def AW(t u:TS):TS:=fun D σ H=>t { D with nx:=u D } σ H
theorem kF:bW X [] IK:=fun _ _ σ H _ I h=>Xo ⟨σ,H,I,h⟩
theorem jL(h1:PS X st t)(h2:bW X rest u):bW X (st::rest) (AW t u):=by intro pz s σ H D I h;refine wpAny_execs_cons (aO (h1 pz s σ H { D with nx:=u D } I h) fun f s1 q=>?_);cases f with
|next=>obtain⟨σ',H',I',q⟩:=q;exact h2 pz s1 σ' H' D I' q
|ret v=>exact q
|brk=>exact q
|cont=>exact q
theorem Inv.quiet{pz:List (Addr×Obj)}{σ:St}{H:Hp}{s:f_}(I:Inv X pz σ H s):interactive X.env=false:=by simp[interactive,I.ok.kind]
def IJ(te:TE):TS:=fun D σ H=>te σ H fun _ H1=>D.nx σ H1
theorem qT(he:PE X e te)(hs:Uw e none pos.line X.env=pure false:=by rfl):PS X (.Expr e pos) (IJ te):=by intro pz s σ H D I h;exact wpAny_Expr_any (aO (he pz s σ H _ I h) fun v s1 ⟨x,H1,I1,r1,q1⟩=>⟨σ,H1,I1,q1⟩) I.quiet hs
def AX(te:TE):TS:=fun D σ H=>te σ H D.rt
theorem vG(he:PE X e te):PS X (.Return (some e) pos) (AX te):=by intro pz s σ H D I h;exact wpAny_Return_some (aO (he pz s σ H _ I h) fun v s1 ⟨x,H1,I1,r1,q1⟩=>⟨x,σ,H1,I1,r1,q1⟩)
def A1(c:TT)(t u:TS):TS:=fun D σ H=>c σ H fun b H1=>if b=true then t D σ H1 else u D σ H1
theorem qj{c:Expr}{a b:List Stmt}{tc:TT}(hc:PT X c tc)(ha:bW X a t)(hb:bW X b u):PS X (.If c a b pos) (A1 tc t u):=by intro pz s σ H D I h;refine wpAny_If (aO (hc pz s σ H _ I h) fun d s1 ⟨H1,I1,q1⟩=>?_);cases d with
|true=>exact ha pz s1 σ H1 D I1 q1
|false=>exact hb pz s1 σ H1 D I1 q1
def Ln:TS:=fun _ _ _=>False
theorem OH:PS X st Ln:=fun _ _ _ _ _ _ h=>h.elim
end
abbrev TG:=V->St->Hp->(St->Hp->Prop)->Prop
abbrev ju:=List V->St->Hp->(St->Hp->Prop)->Prop
def PG(X:Cx)(target:Expr)(t:TG):Prop:=∀(pz:List (Addr×Obj))(s:f_)(σ:St)(H:Hp)(v:V)(u:a_)(Q:St->Hp->Prop),Inv X pz σ H s->ar v u->t v σ H Q ->C_ (G_ X.prog X.w) X.A (Wo target X.env u) (fun _ s'=>∃σ' H',Inv X pz σ' H' s'/\Q σ' H') X.xe s
def i9(X:Cx)(ts:List Expr)(t:ju):Prop:=∀(pz:List (Addr×Obj))(s:f_)(σ:St)(H:Hp)(vs:List V)(us:List a_)(Q:St->Hp->Prop),Inv X pz σ H s->al vs us->t vs σ H Q ->C_ (G_ X.prog X.w) X.A (assignInOrder ((UN ts X.env).map (·.2)) us) (fun _ s'=>∃σ' H',Inv X pz σ' H' s'/\Q σ' H') X.xe s
abbrev j5:=V->V->V->Hp->(Hp->Prop)->Prop
def fI(X:Cx)(t:j5):Prop:=∀(pz:List (Addr×Obj))(s:f_)(σ:St)(H:Hp)(o i v:V)(ov iv u:a_)(Q:Hp->Prop),Inv X pz σ H s->ar o ov->ar i iv->ar v u->t o i v H Q ->C_ (G_ X.prog X.w) X.A (Zw ov iv u) (fun _ s'=>∃H',Inv X pz σ H' s'/\Q H') X.xe s
def BY(i:Nat):TG:=fun v σ H Q=>Q (σ.set i (some v)) H
theorem DY{i:Nat}{x:Str}(hN:X.N.Nodup)(hi:X.N[i]? = some x)(hx:fW X.env.scope x)(hf:X.fn x=true\/X.env.scope.names.lookup x=some .local:=by first|exact .inl rfl|exact .inr rfl|assumption):PG X (.Name x pos) (BY i):=by intro pz s σ H v u Q I r h;exact X9 (EW I hN hi hx r (fun s' I'=>⟨_,H,I',h⟩) hf)
def Bq:ju:=fun vs σ H Q=>vs=[]/\Q σ H
def Jw(t:TG)(u:ju):ju:=fun vs σ H Q=>∃v r,vs=v::r/\t v σ H fun σ' H'=>u r σ' H' Q
theorem Mb:i9 X [] Bq:=by intro pz s σ H vs us Q I r h;obtain⟨e,h⟩:=h;subst e;cases r;exact assignInOrder_nil ⟨σ,H,I,h⟩
theorem OF{e:Expr}{es:List Expr}{t:TG}{u:ju}(h1:PG X e t)(h2:i9 X es u)(hs:(UN (e::es) X.env).map (·.2)=Wo e X.env::(UN es X.env).map (·.2):=by rfl):i9 X (e::es) (Jw t u):=by intro pz s σ H vs us Q I r h;obtain⟨v,vr,e1,h⟩:=h;subst e1;cases r with
|cons r rr=>rw[hs];refine assignInOrder_cons (aO (h1 pz s σ H _ _ _ I r h) fun _ s1 ⟨σ1,H1,I1,q1⟩=>?_);exact h2 pz s1 σ1 H1 _ _ Q I1 rr q1
def Bo(K:W.Frag)(n:Nat)(t:ju):TG:=fun v σ H Q=>∃a xs,v=.ref a/\bU K H a xs/\xs.length=n/\t xs σ H Q
theorem KL{es:List Expr}{k:Nat}{t:ju}{n:Nat}(hc:X.calm=true)(h:i9 X es t)(hn:(UN es X.env).length=n:=by rfl)(B:(UN es X.env).findIdx? (·.1)=none:=by rfl):PG X (.Tuple es k pos) (Bo X.K n t):=by intro pz s σ H v u Q I r hw;obtain⟨a,xs,e1,hq,hl,hw⟩:=hw;subst e1;cases r;obtain⟨its,rv,ht,hz⟩:=I.tuple hq;refine assign_Tuple_tuple (I.ok.hd hc) ht (by simp[hn,<-hl,rv.length]) B fun h' hx=>?_;have I1:Inv X pz σ H { s with heap:=h' }:=I.kept (t':=s.toks) fun b o e=>hx b o (M_ (w_ e)) e;exact h pz _ σ H xs _ Q I1 (by simpa using rv) hw
def Bp(to ti:TE)(t:j5):TG:=fun v σ H Q=>to σ H fun o H1=>ti σ H1 fun i H2=>t o i v H2 fun H3=>Q σ H3
theorem KJ{o i:Expr}{to ti:TE}{t:j5}(ho:PE X o to)(hi:PE X i ti)(hs:fI X t)(ha:∀v,Wo (.Subscript o i pos) X.env v=(do
   let ov <-VT [v] (eval o X.env);let iv <-VT [v,ov] (eval i X.env)
   Ww pos
   VT [v,ov,iv] (Zw ov iv v)
   release [v,ov,iv] []):=by intro _;rfl):PG X (.Subscript o i pos) (Bp to ti t):=by intro pz s σ H v u Q I r h;rw[ha];refine b_ (Vo (aO (ho pz s σ H _ I h) fun ov s1 ⟨x,H1,I1,r1,q1⟩=>?_));refine b_ (Vo (aO (hi pz s1 σ H1 _ I1 q1) fun iv s2 ⟨y,H2,I2,r2,q2⟩=>?_));refine b_ (WY (b_ (Vo (aO (hs pz s2 σ H2 x y v ov iv u _ I2 r1 r2 r q2) fun _ s3 ⟨H3,I3,q3⟩=>?_))));exact wpAny_release ⟨σ,H3,I3,q3⟩
def pD(te:TE)(g:TG):TS:=fun D σ H=>te σ H fun x H1=>g x σ H1 D.nx
theorem CZ{tg e:Expr}{te:TE}{g:TG}(he:PE X e te)(hg:PG X tg g)(hs:XM [tg] e pos.line X.env=pure false:=by rfl)(hw:XO [tg] e X.env=pure none:=by rfl)(h1:(UN [tg] X.env).map (·.2)=[Wo tg X.env]:=by rfl):PS X (.Assign [tg] e pos) (pD te g):=by intro pz s σ H D I h;refine wpAny_Assign_stores (aO (he pz s σ H _ I h) fun v s1 ⟨x,H1,I1,r1,q1⟩=>?_) hs hw;rw[h1];exact aO (hg pz s1 σ H1 x v _ I1 r1 q1) fun _ s2 q=>q
theorem mO{i:Nat}{x:Str}{e:Expr}{te:TE}{pos':Pos}(hN:X.N.Nodup)(hi:X.N[i]? = some x)(hx:fW X.env.scope x)(he:PE X e te)(hs:Uw e (some (.Name x pos')) pos.line X.env=pure false:=by rfl)(hf:X.fn x=true\/X.env.scope.names.lookup x=some .local:=by first|exact .inl rfl|exact .inr rfl|assumption):PS X (.Assign [.Name x pos'] e pos) (pD te (BY i)):=by intro pz s σ H D I h;refine wpAny_Assign_Name (aO (he pz s σ H _ I h) fun v s1 ⟨y,H1,I1,r1,q1⟩=>?_) hs;exact EW I1 hN hi hx r1 (fun s2 I2=>⟨_,H1,I2,q1⟩) hf
def Lo(c:TT)(tb:TS):TS:=fun D σ H=>∃W:Nat->St->Hp->Prop,(∃m,W m σ H)/\∀m σ H,W m σ H ->c σ H fun b H1=>if b=true then ∃N:St->Hp->Prop,(∀σ' H',N σ' H'->∃m',m'<m/\W m' σ' H')/\tb { D with nx:=N,ct:=N,bk:=D.nx } σ H1 else D.nx σ H1
theorem OI{c:Expr}{body:List Stmt}{tc:TT}{tb:TS}(hp:WA (G_ X.prog X.w) X.A X.env X.xe)(hc:PT X c tc)(hb:bW X body tb):PS X (.While c body [] pos) (Lo tc tb):=by
 intro pz s σ H D I h;obtain⟨W,⟨m0,w0⟩,turn⟩:=h;refine wpAny_While (codeAny_whileLoop (fun n s'=>∃σ' H',Inv X pz σ' H' s'/\W n σ' H') ?_ m0 ⟨σ,H,I,w0⟩)
 rintro n s1 ⟨σ1,H1,I1,w1⟩
 refine Vh hp (aO (hc pz s1 σ1 H1 _ I1 (turn n σ1 H1 w1)) fun b s2 ⟨H2,I2,q2⟩=>?_);cases b with
|true=>obtain⟨N,hN,q2⟩:=q2;rw[if_pos rfl];refine Vh hp (aO (hb pz s2 σ1 H2 _ I2 q2) fun f s3 q3=>?_);cases f with
 |next=>obtain⟨σ3,H3,I3,n3⟩:=q3;obtain⟨m',hm,w3⟩:=hN σ3 H3 n3;exact⟨m',hm,σ3,H3,I3,w3⟩
 |cont=>obtain⟨σ3,H3,I3,n3⟩:=q3;obtain⟨m',hm,w3⟩:=hN σ3 H3 n3;exact⟨m',hm,σ3,H3,I3,w3⟩
 |brk=>exact q3
 |ret v=>exact q3
|false=>rw[if_neg g_];exact Xo ⟨σ1,H2,I2,q2⟩
structure It where
 go:Nat->Hp->Prop
 yld:Nat->Hp->V->Hp->Prop
 stop:Nat->Hp->Prop
def cX(X:Cx)(pz:List (Addr×Obj))(H:Hp)(b:Addr):Prop:=H b=none/\b≠X.env.locals/\b∉X.fs/\(b∈X.ex\/X.s₀.heap.objs.size<=b)/\(∀x c,X.env.cells.lookup x=some c->c≠b)/\∀p∈X.pn++pz,p.1≠b
theorem Inv.fpOk{X:Cx}{pz:List (Addr×Obj)}{σ:St}{H H':Hp}{s:f_}{b:Addr}(I:Inv X pz σ H s)(hb:s.heap.objs.size<=b)(hn:H' b=none):cX X pz H' b:=by
 refine⟨hn,UO (F_ I.lt hb),I.nofs hb,.inr (Ue I.sz hb),fun x c e z=>?_,fun p hp z=>?_⟩
 .obtain⟨v,q⟩:=I.cell x c e;exact absurd (F_ q.lt (by rw[z];exact hb)) (UM _)
 .exact absurd (F_ (w_ (I.pin p hp).1) (by rw[z];exact hb)) (UM _)
structure Turn(P:E_)(w:S_)(K:W.Frag)(tg:Expr)(J:It)(fp:List Addr)(it:Addr)(tn:Nat->Heap->Prop):Prop where
 mem:it∈fp
 obj:∀i h,tn i h->∀b∈fp,∃o,h.get? b=some o/\∀v,o.data≠.cell v
 keep:∀i h h',tn i h->(∀b∈fp,∀o,h.get? b=some o->h'.get? b=some o)->tn i h'
 item:∀(X:Cx),X.prog=P->X.w=w->X.K=K->X.calm=true->∀(i:Nat)(pz:List (Addr×Obj))(s:f_)(σ:St)(H:Hp)(E:a_->f_->Prop),Inv X pz σ H s->(∀b∈fp,cX X pz H b)->tn i s.heap->J.go i H ->C_ (G_ P w) X.A (Yp (.ref it)) (fun r s1=>∃u,r=some u /\C_ (G_ P w) X.A (Wp tg (.ref it) u) (fun _ s2=>∃x H',Inv X pz σ H' s2/\ar x u/\J.yld i H x H'/\tn (i+1) s2.heap/\∀b∈fp,H' b=none) E s1) E s
 done:∀(X:Cx),X.prog=P->X.w=w->X.K=K->X.calm=true->∀(i:Nat)(pz:List (Addr×Obj))(s:f_)(σ:St)(H:Hp)(E:a_->f_->Prop),Inv X pz σ H s->(∀b∈fp,cX X pz H b)->tn i s.heap->J.stop i H ->C_ (G_ P w) X.A (Yp (.ref it)) (fun r s1=>r=none/\Inv X pz σ H s1) E s
 self:∀(A:Uc)(i:Nat)(s:f_)(Q:a_->f_->Prop)(E:a_->f_->Prop),tn i s.heap->Q (.ref it) s->C_ (G_ P w) A (Y1 (.ref it)) Q E s
abbrev TI:=St->Hp->(It->Hp->Prop)->Prop
def Ir(X:Cx)(pz:List (Addr×Obj))(σ:St)(tg:Expr)(R:It->Hp->Prop)(itv:a_)(s2:f_):Prop:=∃(it:Addr)(fp:List Addr)(tn:Nat->Heap->Prop)(J:It)(H':Hp),itv=.ref it/\Inv X pz σ H' s2/\Turn X.prog X.w X.K tg J fp it tn/\tn 0 s2.heap/\(∀b∈fp,cX X pz H' b)/\R J H'
def PI(X:Cx)(tg iter:Expr)(wi:TI):Prop:=∀(pz:List (Addr×Obj))(s:f_)(σ:St)(H:Hp)(R:It->Hp->Prop),Inv X pz σ H s->wi σ H R ->C_ (G_ X.prog X.w) X.A (eval iter X.env) (fun v s1=>C_ (G_ X.prog X.w) X.A (Y1 v) (Ir X pz σ tg R) X.xe s1) X.xe s
theorem tK{M:Model}{A:Uc}{E:a_->f_->Prop}{s:f_}{tg:Expr}{it:Addr}{u:a_}{o:Obj}{n:String}{vs:Array a_}{Q:Unit->f_->Prop}(ho:s.heap.get? it=some o)(hc:o.cls=.type n)(hd:o.data=.fields vs)(hn : ["enumerate","zip","dict_itemiterator","dict_reverseitemiterator","odict_iterator","itertools.zip_longest","itertools.pairwise"].contains n=false)(hQ:Q () s):C_ M A (Wp tg (.ref it) u) Q E s:=by
  unfold Wp;cases tg <;> first
    |exact u_ hQ
    |(cases u <;> first
        |exact u_ hQ
        | (refine b_ (wpAny_load ho ?_)
           rw[hc,hd];show C_ M A (if (["enumerate","zip","dict_itemiterator","dict_reverseitemiterator","odict_iterator","itertools.zip_longest","itertools.pairwise"].contains n&&vs[0]? == some (Xa _))=true then _ else _) Q E s;rw[if_neg (by intro h;rw[hn,Y2]at h;cases h)];exact u_ hQ))
def qb(K:W.Frag)(a:Addr):It:=⟨fun i H=>∃xs x,bh K H a xs/\xs[i]? = some x,fun i H x H'=>H'=H/\∀xs,bh K H a xs->xs[i]? = some x,fun i H=>∃xs,bh K H a xs/\xs.length<=i⟩
def BB(K:W.Frag)(a:Addr):It:=⟨fun i H=>∃xs x,bU K H a xs/\xs[i]? = some x,fun i H x H'=>H'=H/\∀xs,bU K H a xs->xs[i]? = some x,fun i H=>∃xs,bU K H a xs/\xs.length<=i⟩
def qa(lo:Int)(n:Nat):It:=⟨fun i _=>i<n,fun i H x H'=>H'=H/\x=.int (lo+i),fun i _=>n<=i⟩
theorem Qb{P:E_}{w:S_}{K:W.Frag}{tg:Expr}(a it:Addr):Turn P w K tg (qb K a) [it] it (fun i h=>h.IsListIter it a i) where
 mem:=by simp
 obj:=fun i h st b hb=>by
  have e:b=it:=by simpa using hb
  subst e;obtain⟨o,e,c,d⟩:=st;exact⟨o,e,fun v z=>by rw[d]at z;cases z⟩
 keep:=fun i h h' st k=>st.at fun o e=>k it (by simp) o e
 item:=by intro X hP hw hK hc i pz s σ H E I hf st hg;subst hP hw hK;obtain⟨xs,x,hq,hx⟩:=hg;obtain⟨its,rv,p,hz⟩:=I.list hq;obtain⟨u,hu,ru⟩:=rv.get hx;obtain⟨f0,f1,f2,f3,f4,f5⟩:=hf it (by simp);refine wpAny_pyNext_list_item st p.isList (x:=u) (by simpa using hu) fun h' st' sb=>?_;have I1:Inv X pz σ H { s with heap:=h' }:=I.turned (t':=s.toks) (fun b o hb e=>(sb.2 b hb).trans e) f0 f1 f3 f4 f5;obtain⟨o,e,c,d⟩:=id st';exact⟨u,rfl,tK (s:={ s with heap:=h' }) e c d (by decide) ⟨x,H,I1,ru,⟨rfl,fun ys hy=>by rw[I.list_inj hy hq];exact hx⟩,st',fun b hb=>(hf b hb).1⟩⟩
 done:=by intro X hP hw hK hc i pz s σ H E I hf st hg;subst hP hw hK;obtain⟨xs,hq,hx⟩:=hg;obtain⟨its,rv,p,hz⟩:=I.list hq;obtain⟨f0,f1,f2,f3,f4,f5⟩:=hf it (by simp);have hl:=rv.length;exact wpAny_pyNext_list_end (I.ok.hd hc) st p.isList (by simp;omega) fun h' eb=>⟨rfl,I.turned (t':=s.toks) (fun b o hb e=>eb b o hb e) f0 f1 f3 f4 f5⟩
 self:=fun _ _ _ _ _ st h=>wpAny_pyIter_listiter st h
theorem Qy{P:E_}{w:S_}{K:W.Frag}{tg:Expr}(a it:Addr):Turn P w K tg (BB K a) [it] it (fun i h=>h.IsTupleIter it a i) where
 mem:=by simp
 obj:=fun i h st b hb=>by
  have e:b=it:=by simpa using hb
  subst e;obtain⟨o,e,c,d⟩:=st;exact⟨o,e,fun v z=>by rw[d]at z;cases z⟩
 keep:=fun i h h' st k=>st.at fun o e=>k it (by simp) o e
 item:=by intro X hP hw hK hc i pz s σ H E I hf st hg;subst hP hw hK;obtain⟨xs,x,hq,hx⟩:=hg;obtain⟨its,rv,p,hz⟩:=I.tuple hq;obtain⟨u,hu,ru⟩:=rv.get hx;obtain⟨f0,f1,f2,f3,f4,f5⟩:=hf it (by simp);refine wpAny_pyNext_tuple_item st (show s.heap.IsTuple a its.toArray from p) (x:=u) (by simpa using hu) fun h' st' sb=>?_;have I1:Inv X pz σ H { s with heap:=h' }:=I.turned (t':=s.toks) (fun b o hb e=>(sb.2 b hb).trans e) f0 f1 f3 f4 f5;obtain⟨o,e,c,d⟩:=id st';exact⟨u,rfl,tK (s:={ s with heap:=h' }) e c d (by decide) ⟨x,H,I1,ru,⟨rfl,fun ys hy=>by rw[I.tuple_inj hy hq];exact hx⟩,st',fun b hb=>(hf b hb).1⟩⟩
 done:=by intro X hP hw hK hc i pz s σ H E I hf st hg;subst hP hw hK;obtain⟨xs,hq,hx⟩:=hg;obtain⟨its,rv,p,hz⟩:=I.tuple hq;obtain⟨f0,f1,f2,f3,f4,f5⟩:=hf it (by simp);have hl:=rv.length;exact wpAny_pyNext_tuple_end (I.ok.hd hc) st (show s.heap.IsTuple a its.toArray from p) (by simp;omega) fun h' eb=>⟨rfl,I.turned (t':=s.toks) (fun b o hb e=>eb b o hb e) f0 f1 f3 f4 f5⟩
 self:=fun _ _ _ _ _ st h=>wpAny_pyIter_tupleiter st h
theorem Qx{P:E_}{w:S_}{K:W.Frag}{tg:Expr}(it:Addr)(lo:Int)(n:Nat):Turn P w K tg (qa lo n) [it] it (fun i h=>IsRangeIter h it (lo+(i:Nat)*1) ((n:Int)-(i:Nat)) 1) where
 mem:=by simp
 obj:=fun i h st b hb=>by
  have e:b=it:=by simpa using hb
  subst e;exact⟨_,st,fun v z=>by have z':Data.fields _=Data.cell v:=z;cases z'⟩
 keep:=fun i h h' st k=>k it (by simp) _ st
 item:=by intro X hP hw hK hc i pz s σ H E I hf st hg;subst hP hw hK;obtain⟨f0,f1,f2,f3,f4,f5⟩:=hf it (by simp);have W:=Walks.range (prog:=X.prog) (w:=X.w) (I.ok.hd hc) it lo 1 n;refine W.item i s _ _ hg st fun v h' tk hv st' kk=>?_;obtain⟨t,rfl⟩:=hv;have I1:Inv X pz σ H { s with heap:=h',toks:=tk }:=I.turned (fun b o hb e=>kk b o (by simpa using hb) e) f0 f1 f3 f4 f5;refine⟨_,rfl,tK (s:={ s with heap:=h',toks:=tk }) (n := "range_iterator") st' rfl rfl (by decide) ⟨.int (lo+i),H,I1,⟨t,?_⟩,⟨rfl,rfl⟩,st',fun b hb=>(hf b hb).1⟩⟩;rw[Int.mul_one]
 done:=by intro X hP hw hK hc i pz s σ H E I hf st hg;subst hP hw hK;obtain⟨f0,f1,f2,f3,f4,f5⟩:=hf it (by simp);exact wpAny_pyNext_range_end (I.ok.hd hc) st (by have:n<=i:=hg;omega) fun h' eb=>⟨rfl,I.turned (t':=s.toks) (fun b o hb e=>eb b o hb e) f0 f1 f3 f4 f5⟩
 self:=fun _ _ _ _ _ st h=>wpAny_pyIter_rangeiter st h
section
variable{tg:Expr}
theorem E5{pz:List (Addr×Obj)}{σ:St}{H:Hp}{s:f_}{R:It->Hp->Prop}{E:a_->f_->Prop}{lo hi:Int}{t u v:Tok}{tk:Nat}(I:Inv X pz σ H s)(h1 : -(2^62)<=lo)(h2:lo<2^62)(h3 : -(2^62)<=hi)(h4:hi<2^62)(q:R (qa lo (hi-lo).toNat) H):C_ (G_ X.prog X.w) X.A (Y1 (.ref s.heap.objs.size)) (Ir X pz σ tg R) E { s with heap:=s.heap.push { cls:=.type "range",data:=.fields #[.int lo t,.int hi u,.int 1 v] },toks:=tk }:=by
 refine wpAny_pyIter_range (IsRange.new ..) (small_one h1 h2 h3 h4) ?_;have I1:Inv X pz σ H { s with heap:=s.heap.push { cls:=.type "range",data:=.fields #[.int lo t,.int hi u,.int 1 v] },toks:=tk }:=I.kept fun b o e=>c_ _ e;refine⟨(s.heap.push { cls:=.type "range",data:=.fields #[.int lo t,.int hi u,.int 1 v] }).objs.size,[(s.heap.push { cls:=.type "range",data:=.fields #[.int lo t,.int hi u,.int 1 v] }).objs.size],_,_,H,rfl,I1.kept (t':=tk) fun b o e=>c_ _ e,Qx _ lo (hi-lo).toNat,?_,fun b hb=>?_,q⟩
 .have e1:lo+((0:Nat):Int)*1=lo:=by simp
  have e2:(((hi-lo).toNat:Nat):Int)-((0:Nat):Int)=W5 lo hi 1:=by rw[rangeSize_one];split <;> omega
  show IsRangeIter _ _ (lo+((0:Nat):Int)*1) ((((hi-lo).toNat:Nat):Int)-((0:Nat):Int)) 1;rw[e1,e2];exact r_ _ rfl
 .have e:b=(s.heap.push { cls:=.type "range",data:=.fields #[.int lo t,.int hi u,.int 1 v] }).objs.size:=by simpa using hb
  subst e;exact I1.fpOk (s_ _) (I1.hok.fresh (s_ _))
def Jx(ta:TA):TI:=fun σ H R=>ta σ H fun vs H1=>∃j:Int,vs=[.int j]/\-(2^62)<=j/\j<2^62/\R (qa 0 j.toNat) H1
def IT(ta:TA):TI:=fun σ H R=>ta σ H fun vs H1=>∃i j:Int,vs=[.int i,.int j]/\(-(2^62)<=i/\i<2^62/\-(2^62)<=j/\j<2^62)/\R (qa i (j-i).toNat) H1
theorem PC{a:Expr}{ta:TA}{p pos:Pos}(hg:Gl X "range")(hm:X.mg "range" = none)(ha:PA X [a] ta)(hs:i_ [a] X.env=[(false,eval a X.env)]:=by rfl):PI X tg (.Call (.Name "range" p) [a] [] pos) (Jx ta):=by intro pz s σ H R I h;refine Call_ (lu I hg hm Y3 (UL (aO (ha pos pz s σ H _ I h) fun us s1 ⟨vs,H1,I1,r1,q1⟩=>?_) hs rfl));obtain⟨j,e,q1,q2,q⟩:=q1;subst e;cases r1 with
|cons r rr=>cases rr;obtain⟨t,rfl⟩:=r;exact call_range_1 (E5 I1 (by omega) (by omega) q1 q2 (by simpa using q))
theorem PD{a b:Expr}{ta:TA}{p pos:Pos}(hg:Gl X "range")(hm:X.mg "range" = none)(ha:PA X [a,b] ta)(hs:i_ [a,b] X.env=[(false,eval a X.env),(false,eval b X.env)]:=by rfl)(B:i_ [b] X.env=[(false,eval b X.env)]:=by rfl):PI X tg (.Call (.Name "range" p) [a,b] [] pos) (IT ta):=by intro pz s σ H R I h;refine Call_ (lu I hg hm Y3 (UL (aO (ha pos pz s σ H _ I h) fun us s1 ⟨vs,H1,I1,r1,q1⟩=>?_) (by rw[hs,B]) (by rw[B];rfl)));obtain⟨i,j,e,⟨q1,q2,q3,q4⟩,q⟩:=q1;subst e;cases r1 with
|cons r rr=>cases rr with
 |cons r' rr=>cases rr;obtain⟨t,rfl⟩:=r;obtain⟨t',rfl⟩:=r';exact call_range_2 (E5 I1 q1 q2 q3 q4 q)
def A2(wi:TI)(g:TG)(tb:TS):TS:=fun D σ H=>wi σ H fun J H1=>∃W:Nat->Nat->St->Hp->Prop,(∃m,W 0 m σ H1)/\∀i m σ H,W i m σ H ->(J.stop i H/\D.nx σ H)\/(J.go i H/\∃N:St->Hp->Prop,(∀σ' H',N σ' H'->∃m',m'<m/\W (i+1) m' σ' H')/\∀x H',J.yld i H x H'->g x σ H' fun σ2 H2=>tb { D with nx:=N,ct:=N,bk:=D.nx } σ2 H2)
def oa(fp:List Addr)(h:Heap):List (Addr×Obj):=fp.filterMap fun b=>(h.get? b).map fun o=>(b,o)
theorem rS{fp:List Addr}{h:Heap}{b:Addr}{o:Obj}(hb:b∈fp)(e:h.get? b=some o):(b,o)∈oa fp h:=UI.mpr ⟨b,hb,by rw[e];rfl⟩
theorem Pu{fp:List Addr}{h:Heap}{p:Addr×Obj}(hp:p∈oa fp h):p.1∈fp/\h.get? p.1=some p.2:=by obtain⟨b,hb,e⟩:=UI.mp hp;cases q:h.get? b with
|none=>rw[q]at e;cases e
|some o=>rw[q]at e;have e':(b,o)=p:=H_ e;subst e';exact⟨hb,q⟩
theorem Inv.pinned{pz:List (Addr×Obj)}{σ:St}{H:Hp}{s:f_}{fp:List Addr}(I:Inv X pz σ H s)(hf:∀b∈fp,cX X pz H b)(ho:∀b∈fp,∃o,s.heap.get? b=some o/\∀v,o.data≠.cell v):Inv X (pz++oa fp s.heap) σ H s:=I.pins_of fun p hp=>(Ui.mp hp).elim (fun z=>I.pin p (Uh _ z)) fun z=>by obtain⟨hb,e⟩:=Pu z;obtain⟨f0,f1,f2,_⟩:=hf p.1 hb;obtain⟨o,e',d⟩:=ho p.1 hb;rw[e]at e';cases e';exact⟨e,f0,f1,f2,d⟩
theorem Inv.unpinned{pz pl:List (Addr×Obj)}{σ:St}{H:Hp}{s:f_}(I:Inv X (pz++pl) σ H s):Inv X pz σ H s:=I.pins_of fun p hp=>I.pin p (Uh _ (Vi _ hp))
theorem qF{iter:Expr}{body:List Stmt}{wi:TI}{g:TG}{tb:TS}{pos:Pos}(hp:WA (G_ X.prog X.w) X.A X.env X.xe)(hc:X.calm=true)(hi:PI X tg iter wi)(hg:PG X tg g)(hb:bW X body tb)(hs:∀x,Ut iter X.env x=pure x:=by intro _;rfl):PS X (.For tg iter body [] pos) (A2 wi g tb):=by
 intro pz s σ H D I h;refine wpAny_For (aO (hi pz s σ H _ I h) fun v s1 h1=>aO h1 fun itv s2 h2=>?_) hs;obtain⟨it,fp,tn,J,H2,e,I2,T,st2,f2,W,⟨m0,w0⟩,turn⟩:=h2;subst e;have L:∀{H':Hp},(∀b∈fp,H' b=none)->∀b∈fp,cX X pz H' b:=fun hn b hb=>⟨hn b hb,(f2 b hb).2⟩
 refine codeAny_forLoop_any (fun n s'=>∃i σ' H',Inv X pz σ' H' s'/\tn i s'.heap/\(∀b∈fp,H' b=none)/\W i n σ' H') ?_ m0 ⟨0,σ,H2,I2,st2,fun b hb=>(f2 b hb).1,w0⟩
 rintro n s3 ⟨i,σ3,H3,I3,st3,fr3,w3⟩
 rcases turn i n σ3 H3 w3 with⟨stop,qn⟩|⟨go,N,hN,step⟩
 .refine Vh hp (aO (T.done X rfl rfl rfl hc i pz s3 σ3 H3 X.xe I3 (L fr3) st3 stop) fun r s4 ⟨hr,I4⟩=>?_);subst hr;exact Xo ⟨σ3,H3,I4,qn⟩
 .refine Vh hp (aO (T.item X rfl rfl rfl hc i pz s3 σ3 H3 X.xe I3 (L fr3) st3 go) fun r s4 ⟨u,hr,h4⟩=>?_);subst hr;refine Vh hp (aO h4 fun _ s5 ⟨x,H5,I5,r5,y5,st5,fr5⟩=>?_);have M:=I5.pinned (L fr5) (T.obj _ _ st5);refine Vh hp (aO (hg _ s5 σ3 H5 x u _ M r5 (step x H5 y5)) fun _ s6 ⟨σ6,H6,I6,q6⟩=>?_);refine Vh hp (aO (hb _ s6 σ6 H6 _ I6 q6) fun f s7 q7=>?_);have again:∀{B:St}{H7:Hp},Inv X (pz++oa fp s5.heap) B H7 s7->N B H7->∃m,m<n/\∃i σ' H',Inv X pz σ' H' s7/\tn i s7.heap/\(∀b∈fp,H' b=none)/\W i m σ' H':=fun{B H7} I7 n7=>by obtain⟨m',hm,w7⟩:=hN B H7 n7;refine⟨m',hm,i+1,B,H7,I7.unpinned,T.keep _ _ _ st5 fun b hb o e=>(I7.pin (b,o) (Uh _ (Uh _ (rS hb e)))).1,fun b hb=>?_,w7⟩;obtain⟨o,e,d⟩:=T.obj _ _ st5 b hb;exact(I7.pin (b,o) (Uh _ (Uh _ (rS hb e)))).2.1
  cases f with
 |next=>obtain⟨B,H7,I7,n7⟩:=q7;exact again I7 n7
 |cont=>obtain⟨B,H7,I7,n7⟩:=q7;exact again I7 n7
 |brk=>obtain⟨B,H7,I7,q7⟩:=q7;exact⟨B,H7,I7.unpinned,q7⟩
 |ret v=>obtain⟨x7,B,H7,I7,r7,q7⟩:=q7;exact⟨x7,B,H7,I7.unpinned,r7,q7⟩
end
abbrev R2:=V->V->Hp->VK->Prop
def bo(X:Cx)(f:a_->a_->Sem a_)(r:R2):Prop:=∀(pz:List (Addr×Obj))(s:f_)(σ:St)(H:Hp)(x y:V)(v u:a_)(Q:VK),Inv X pz σ H s->ar x v->ar y u->r x y H Q ->C_ (G_ X.prog X.w) X.A (f v u) (EP X pz σ Q) X.xe s
def Bx(X:Cx)(f:a_->Sem a_)(r:V->Hp->VK->Prop):Prop:=∀(pz:List (Addr×Obj))(s:f_)(σ:St)(H:Hp)(x:V)(v:a_)(Q:VK),Inv X pz σ H s->ar x v->r x H Q ->C_ (G_ X.prog X.w) X.A (f v) (EP X pz σ Q) X.xe s
def dA(X:Cx)(f:a_)(r:List V->Hp->VK->Prop):Prop:=∀(pz:List (Addr×Obj))(s:f_)(σ:St)(H:Hp)(xs:List V)(us:List a_)(Q:VK),Inv X pz σ H s->al xs us->r xs H Q ->C_ (G_ X.prog X.w) X.A (call f us) (EP X pz σ Q) X.xe s
def By(X:Cx)(r:V->Hp->(Bool->Hp->Prop)->Prop):Prop:=∀(pz:List (Addr×Obj))(s:f_)(σ:St)(H:Hp)(x:V)(v:a_)(Q:Bool->Hp->Prop),Inv X pz σ H s->ar x v->r x H Q ->C_ (G_ X.prog X.w) X.A (Zx v) (TP X pz σ Q) X.xe s
def pB(r:R2)(ta tb:TE):TE:=fun σ H Q=>ta σ H fun x H1=>tb σ H1 fun y H2=>r x y H2 Q
def Sl(r:V->Hp->VK->Prop)(ta:TE):TE:=fun σ H Q=>ta σ H fun x H1=>r x H1 Q
def rI(C:Int->Int->Prop)(g:Int->Int->V):R2:=fun x y H Q=>∃i j,x=.int i/\y=.int j/\C i j/\Q (g i j) H
def js(g:Int->Int->V):R2:=fun x y H Q=>∃i j,x=.int i/\y=.int j/\Q (g i j) H
def rU(g:Int->V):V->Hp->VK->Prop:=fun x H Q=>∃i,x=.int i/\Q (g i) H
variable{c:Expr}{tc:TE}
section
variable{a:Expr}
theorem ma(ha:PE X a ta)(hb:PE X b tb){pz:List (Addr×Obj)}{s:f_}{σ:St}{H:Hp}{R:V->V->Hp->Prop}(I:Inv X pz σ H s)(h:ta σ H fun x H1=>tb σ H1 fun y H2=>R x y H2){Q:a_->f_->Prop}{f:a_->a_->Sem a_}(hf:∀v u s2 x y H2,Inv X pz σ H2 s2->ar x v->ar y u->R x y H2->C_ (G_ X.prog X.w) X.A (f v u) Q X.xe s2):C_ (G_ X.prog X.w) X.A (eval a X.env) (fun v s₁=>C_ (G_ X.prog X.w) X.A (eval b X.env) (fun u s₂=>C_ (G_ X.prog X.w) X.A (f v u) Q X.xe s₂) X.xe s₁) X.xe s:=by refine aO (ha pz s σ H _ I h) fun v s1 ⟨x,H1,I1,r1,q1⟩=>?_;refine aO (hb pz s1 σ H1 _ I1 q1) fun u s2 ⟨y,H2,I2,r2,q2⟩=>?_;exact hf v u s2 x y H2 I2 r1 r2 q2
theorem Ck{op:Operator}{r:R2}(ho:bo X (Vu op) r)(ha:PE X a ta)(hb:PE X b tb):PE X (.BinOp a op b pos) (pB r ta tb):=by intro pz s σ H Q I h;exact wpAny_BinOp (ma ha hb I h fun v u s2 x y H2 I2 rx ry q=>ho pz s2 σ H2 x y v u Q I2 rx ry q)
theorem Jm{op:UnaryOp}{r:V->Hp->VK->Prop}(ho:Bx X (unaryOp op) r)(ha:PE X a ta):PE X (.UnaryOp op a pos) (Sl r ta):=by intro pz s σ H Q I h;exact UnaryOp_ (aO (ha pz s σ H _ I h) fun v s1 ⟨x,H1,I1,r1,q1⟩=>ho pz s1 σ H1 x v Q I1 r1 q1)
theorem sW{f:a_->a_->Sem a_}{C:Int->Int->Prop}{g:Int->Int->Int}(B:∀(i j:Int)(t u:Tok)(s:f_)(Q:a_->f_->Prop)(E:a_->f_->Prop),C i j->Q (.int (g i j) s.toks) { s with toks:=s.toks+1 }->C_ (G_ X.prog X.w) X.A (f (.int i t) (.int j u)) Q E s):bo X f (rI C fun i j=>.int (g i j)):=by intro pz s σ H x y v u Q I rx ry h;obtain⟨i,j,rfl,rfl,hc,q⟩:=h;obtain⟨t,rfl⟩:=rx;obtain⟨t',rfl⟩:=ry;exact B i j t t' s _ _ hc ⟨.int (g i j),H,I.tok _,⟨_,rfl⟩,q⟩
theorem pQ{f:a_->a_->Sem a_}{g:Int->Int->Int}(B:∀(i j:Int)(t u:Tok)(s:f_)(Q:a_->f_->Prop)(E:a_->f_->Prop),Q (.int (g i j) s.toks) { s with toks:=s.toks+1 }->C_ (G_ X.prog X.w) X.A (f (.int i t) (.int j u)) Q E s):bo X f (js fun i j=>.int (g i j)):=by intro pz s σ H x y v u Q I rx ry h;obtain⟨i,j,rfl,rfl,q⟩:=h;obtain⟨t,rfl⟩:=rx;obtain⟨t',rfl⟩:=ry;exact B i j t t' s _ _ ⟨.int (g i j),H,I.tok _,⟨_,rfl⟩,q⟩
theorem lZ{f:a_->a_->Sem a_}{g:Int->Int->Bool}(B:∀(i j:Int)(t u:Tok)(s:f_)(Q:a_->f_->Prop)(E:a_->f_->Prop),Q (.bool (g i j)) s->C_ (G_ X.prog X.w) X.A (f (.int i t) (.int j u)) Q E s):bo X f (js fun i j=>.bl (g i j)):=by intro pz s σ H x y v u Q I rx ry h;obtain⟨i,j,rfl,rfl,q⟩:=h;obtain⟨t,rfl⟩:=rx;obtain⟨t',rfl⟩:=ry;exact B i j t t' s _ _ ⟨.bl (g i j),H,I,rfl,q⟩
def hZ(i j:Int):Prop:=0<j/\j<1073741824
def fJ(i j:Int):Prop:=0<=j/\j<=1000000/\i.natAbs<2^64
def gz(i j:Int):Prop:=(-(2^64)<i/\i<2^64)\/(-(2^64)<j/\j<2^64)
theorem gz.ok{i j:Int}(h:gz i j):IntMulOk i j:=by
 rcases h with⟨h1,h2⟩|⟨h1,h2⟩
 .exact .of_left (intBits_le_64 h1 h2)
 .exact .of_right (intBits_le_64 h1 h2)
theorem KY:bo X (Vu .Add) (js fun i j=>.int (i+j)):=pQ fun _ _ _ _ _ _ _ q=>add_int q
theorem Kw:bo X (Vu .Sub) (js fun i j=>.int (i-j)):=pQ fun _ _ _ _ _ _ _ q=>sub_int q
theorem K2:bo X (Vu .Mult) (rI gz fun i j=>.int (i*j)):=sW fun _ _ _ _ _ _ _ hc q=>mul_int q hc.ok
theorem LX:bo X (Vu .FloorDiv) (rI hZ fun i j=>.int (i/j)):=sW fun i j _ _ _ _ _ hc q=>by have h1:(0:Int)<j:=hc.1;have h2:j<1073741824:=hc.2;exact floordiv_int (by omega) (by rw[Int.fdiv_eq_ediv_of_nonneg i (by omega)];exact q) (.inl (PyProof.noPylong_small (by omega)))
theorem K1:bo X (Vu .Mod) (rI (fun _ j=>0<j) fun i j=>.int (i%j)):=sW fun i j _ _ _ _ _ hc q=>by have h1:(0:Int)<j:=hc;exact mod_int' (by omega) (by rw[Int.fmod_eq_emod_of_nonneg i (by omega)];exact q)
theorem Ku:bo X (Vu .Pow) (rI fJ fun i j=>.int (i^j.toNat)):=sW fun _ _ _ _ _ _ _ hc q=>pow_int_small hc.1 hc.2.1 hc.2.2 q
theorem Sk{f:a_->Sem a_}{g:Int->Int}(B:∀(i:Int)(t:Tok)(s:f_)(Q:a_->f_->Prop)(E:a_->f_->Prop),Q (.int (g i) s.toks) { s with toks:=s.toks+1 }->C_ (G_ X.prog X.w) X.A (f (.int i t)) Q E s):Bx X f (rU fun i=>.int (g i)):=by intro pz s σ H x v Q I rx h;obtain⟨i,rfl,q⟩:=h;obtain⟨t,rfl⟩:=rx;exact B i t s _ _ ⟨.int (g i),H,I.tok _,⟨_,rfl⟩,q⟩
theorem Lw:Bx X (unaryOp .USub) (rU fun i=>.int (-i)):=Sk fun _ _ _ _ _ q=>neg_int q
end
def jP:V->V->Bool
|.non,.non=>true|.non,.int _=>true|.int _,.non=>true|.non,.bl _=>true|.bl _,.non=>true|.non,.str _=>true|.str _,.non=>true
|.int _,.int _=>true|.bl _,.bl _=>true|.str _,.str _=>true|.byt _,.byt _=>true
|.int _,.str _=>true|.str _,.int _=>true|.bl _,.str _=>true|.str _,.bl _=>true
|_,_=>false
def Im:R2:=fun x y H Q=>jP x y=true/\Q (.bl (decide (x=y))) H
def Il:R2:=fun x y H Q=>jP x y=true/\Q (.bl (! decide (x=y))) H
theorem vO{i j:Int}:decide (V.int i=V.int j)=(i==j):=by rw[Ud];simp
theorem uT{i j:Bool}:decide (V.bl i=V.bl j)=(i==j):=by rw[Ud];simp
theorem vP{i j:Str}:decide (V.str i=V.str j)=(i==j):=by rw[Ud];simp
theorem Dv{i j:Array UInt8}:decide (V.byt i=V.byt j)=(i.toList==j.toList):=by rw[Ud];cases i;cases j;simp
section
variable{a:Expr}
theorem cx{pz:List (Addr×Obj)}{σ:St}{H:Hp}{s:f_}{Q:VK}{k k':Bool}(I:Inv X pz σ H s)(q:Q (.bl k) H)(e:k=k'):EP X pz σ Q (.bool k') s:=by subst e;exact⟨.bl k,H,I,rfl,q⟩
theorem Cq:bo X (Ug .Eq) Im:=by intro pz s σ H x y v u Q I rx ry h;obtain⟨hs,q⟩:=h;cases x with
|non=>cases rx;cases y with
 |non=>cases ry;exact PySem.EqNone.eq_none_none (cx I q (by simp))
 |bl j=>cases ry;exact PySem.EqNone.eq_none_bool (cx I q (by simp))
 |int j=>obtain⟨t',rfl⟩:=ry;exact PySem.EqNone.eq_none_int (cx I q (by simp))
 |str j=>obtain⟨t',rfl⟩:=ry;exact PySem.EqNone.eq_none_str (cx I q (by simp))
 |_=>exact absurd (show false=true from hs) g_
|bl i=>cases rx;cases y with
 |non=>cases ry;exact PySem.EqNone.eq_bool_none (cx I q (by simp))
 |bl j=>cases ry;exact eq_bool (cx I q uT)
 |str j=>obtain⟨t',rfl⟩:=ry;exact PySem.EqMixed.eq_bool_str (cx I q (by simp))
 |_=>exact absurd (show false=true from hs) g_
|int i=>obtain⟨t,rfl⟩:=rx;cases y with
 |non=>cases ry;exact PySem.EqNone.eq_int_none (cx I q (by simp))
 |int j=>obtain⟨t',rfl⟩:=ry;exact eq_int (cx I q vO)
 |str j=>obtain⟨t',rfl⟩:=ry;exact PySem.EqMixed.eq_int_str (cx I q (by simp))
 |_=>exact absurd (show false=true from hs) g_
|str i=>obtain⟨t,rfl⟩:=rx;cases y with
 |non=>cases ry;exact PySem.EqNone.eq_str_none (cx I q (by simp))
 |bl j=>cases ry;exact PySem.EqMixed.eq_str_bool (cx I q (by simp))
 |int j=>obtain⟨t',rfl⟩:=ry;exact PySem.EqMixed.eq_str_int (cx I q (by simp))
 |str j=>obtain⟨t',rfl⟩:=ry;exact eq_str (cx I q vP)
 |_=>exact absurd (show false=true from hs) g_
|byt i=>obtain⟨t,rfl⟩:=rx;cases y with
 |byt j=>obtain⟨t',rfl⟩:=ry;exact W.eq_bytes (cx I q Dv)
 |_=>exact absurd (show false=true from hs) g_
|_=>cases y <;> exact absurd (show false=true from hs) g_
theorem Jl:bo X (Ug .NotEq) Il:=by intro pz s σ H x y v u Q I rx ry h;obtain⟨hs,q⟩:=h;cases x with
|non=>cases rx;cases y with
 |non=>cases ry;exact PySem.EqNone.ne_none_none (cx I q (by simp))
 |bl j=>cases ry;exact PySem.EqNone.ne_none_bool (cx I q (by simp))
 |int j=>obtain⟨t',rfl⟩:=ry;exact PySem.EqNone.ne_none_int (cx I q (by simp))
 |str j=>obtain⟨t',rfl⟩:=ry;exact PySem.EqNone.ne_none_str (cx I q (by simp))
 |_=>exact absurd (show false=true from hs) g_
|bl i=>cases rx;cases y with
 |non=>cases ry;exact PySem.EqNone.ne_bool_none (cx I q (by simp))
 |bl j=>cases ry;exact ne_bool (cx I q (congrArg not uT))
 |str j=>obtain⟨t',rfl⟩:=ry;exact PySem.EqMixed.ne_bool_str (cx I q (by simp))
 |_=>exact absurd (show false=true from hs) g_
|int i=>obtain⟨t,rfl⟩:=rx;cases y with
 |non=>cases ry;exact PySem.EqNone.ne_int_none (cx I q (by simp))
 |int j=>obtain⟨t',rfl⟩:=ry;exact ne_int (cx I q (congrArg not vO))
 |str j=>obtain⟨t',rfl⟩:=ry;exact PySem.EqMixed.ne_int_str (cx I q (by simp))
 |_=>exact absurd (show false=true from hs) g_
|str i=>obtain⟨t,rfl⟩:=rx;cases y with
 |non=>cases ry;exact PySem.EqNone.ne_str_none (cx I q (by simp))
 |bl j=>cases ry;exact PySem.EqMixed.ne_str_bool (cx I q (by simp))
 |int j=>obtain⟨t',rfl⟩:=ry;exact PySem.EqMixed.ne_str_int (cx I q (by simp))
 |str j=>obtain⟨t',rfl⟩:=ry;exact ne_str (cx I q (congrArg not vP))
 |_=>exact absurd (show false=true from hs) g_
|byt i=>obtain⟨t,rfl⟩:=rx;cases y with
 |byt j=>obtain⟨t',rfl⟩:=ry;exact W.ne_bytes (cx I q (congrArg not Dv))
 |_=>exact absurd (show false=true from hs) g_
|_=>cases y <;> exact absurd (show false=true from hs) g_
theorem tT:bo X (Ug .Lt) (js fun i j=>.bl (decide (i<j))):=lZ fun _ _ _ _ _ _ _ q=>lt_int q
theorem Jk:bo X (Ug .LtE) (js fun i j=>.bl (decide (i<=j))):=lZ fun _ _ _ _ _ _ _ q=>le_int q
theorem Jj:bo X (Ug .Gt) (js fun i j=>.bl (decide (j<i))):=lZ fun _ _ _ _ _ _ _ q=>gt_int q
theorem Pz:bo X (Ug .In) (fun x y H Q=>∃i j,x=.str i/\y=.str j/\Q (.bl (!(O_ j i 0 j.length 1).isEmpty)) H):=by intro pz s σ H x y v u Q I rx ry h;obtain⟨i,j,rfl,rfl,q⟩:=h;obtain⟨t,rfl⟩:=rx;obtain⟨t',rfl⟩:=ry;exact in_str (cx I q rfl)
theorem K0:bo X (Ug .Is) (fun x y H Q=>y=.non/\Q (.bl (decide (x=.non))) H):=by
 intro pz s σ H x y v u Q I rx ry h;obtain⟨rfl,q⟩:=h;cases ry;refine is_none_gen (cx I q ?_);cases x <;> first
  |(cases rx;rfl)
  |(obtain⟨t,rfl⟩:=rx;rfl)
theorem L0:bo X (Ug .IsNot) (fun x y H Q=>y=.non/\Q (.bl (! decide (x=.non))) H):=by
 intro pz s σ H x y v u Q I rx ry h;obtain⟨rfl,q⟩:=h;cases ry;refine isnot_none_gen (cx I q ?_);cases x <;> first
  |(cases rx;rfl)
  |(obtain⟨t,rfl⟩:=rx;rfl)
theorem bo.or{f:a_->a_->Sem a_}{r r':R2}(h:bo X f r)(h':bo X f r'):bo X f (fun x y H Q=>r x y H Q\/r' x y H Q):=by
 intro pz s σ H x y v u Q I rx ry q;rcases q with q|q
 .exact h pz s σ H x y v u Q I rx ry q
 .exact h' pz s σ H x y v u Q I rx ry q
theorem kx(b:Expr){op:Zp}(h:op≠.In:=by decide)(h2:op≠.NotIn:=by decide):UU op b=false:=by
 have e1:(op==CmpOp.In)=false:=by cases op <;> first|rfl|exact absurd rfl h
 have e2:(op==CmpOp.NotIn)=false:=by cases op <;> first|rfl|exact absurd rfl h2
 cases b <;> simp[UU,e1,e2]
theorem L7{op:Zp}{r:R2}(ho:bo X (Ug op) r)(ha:PE X a ta)(hb:PE X b tb)(hm:UU op b=false):PE X (.Compare a [op] [b] pos) (pB r ta tb):=by intro pz s σ H Q I h;exact wpAny_Compare1 (ma ha hb I h fun v u s2 x y H2 I2 rx ry q=>ho pz s2 σ H2 x y v u Q I2 rx ry q) hm
def IP(t:TE):TT:=fun σ H Q=>t σ H fun x H'=>∃k,x=.bl k/\Q k H'
theorem DA{op:Zp}{r:R2}(ho:bo X (Ug op) r)(ha:PE X a ta)(hb:PE X b tb)(hm:UU op b=false):PT X (.Compare a [op] [b] pos) (IP (pB r ta tb)):=by intro pz s σ H Q I h;refine wpAny_isTrue_Compare1 (aO (ha pz s σ H _ I h) fun v s1 ⟨x,H1,I1,r1,q1⟩=>aO (hb pz s1 σ H1 _ I1 q1) fun u s2 ⟨y,H2,I2,r2,q2⟩=>aO (ho pz s2 σ H2 x y v u _ I2 r1 r2 q2) fun c s3 ⟨z,H3,I3,r3,k,e,q3⟩=>?_) hm;subst e;cases r3;exact VN ⟨H3,I3,q3⟩
def C9(r r':R2)(ta tb tc:TE):TE:=fun σ H Q=>ta σ H fun x H1=>tb σ H1 fun y H2=>r x y H2 fun z H3=>∃k,z=.bl k /\(if k=true then tc σ H3 fun w' H4=>r' y w' H4 Q else Q (.bl false) H3)
theorem Oy{op B:Zp}{r r':R2}(ho:bo X (Ug op) r)(L:bo X (Ug B) r')(ha:PE X a ta)(hb:PE X b tb)(hc:PE X c tc)(hm:lastMarks [op,B] [b,c]=false:=by with_unfolding_all rfl):PE X (.Compare a [op,B] [b,c] pos) (C9 r r' ta tb tc):=by intro pz s σ H Q I h;refine Compare_chain (aO (ha pz s σ H _ I h) fun v s1 ⟨x,H1,I1,r1,q1⟩=>chain_link (aO (hb pz s1 σ H1 _ I1 q1) fun u s2 ⟨y,H2,I2,r2,q2⟩=>aO (ho pz s2 σ H2 x y v u _ I2 r1 r2 q2) fun d s3 ⟨z,H3,I3,r3,k,e,q3⟩=>?_)) hm;subst e;cases r3;refine VN ?_;cases k with
|false=>exact ite_ff ⟨.bl false,H3,I3,rfl,q3⟩
|true=>exact ite_tt (chain_last (aO (hc pz s3 σ H3 _ I3 q3) fun w' s4 ⟨z',H4,I4,r4,q4⟩=>L pz s4 σ H4 y z' u w' Q I4 r2 r4 q4))
def j4(K:W.Frag)(x:V)(H:Hp)(k:Bool):Prop:=match x with
|.non=>k=false
|.bl b=>k=b
|.int i=>k=(i != 0)
|.str y=>y.length<=sizeLine/\k=((y.length:Int) != 0)
|.byt y=>y.size<=sizeLine/\k=((y.size:Int) != 0)
|.ref p=>(∃xs,bh K H p xs/\k = ! xs.isEmpty)\/(∃xs,bU K H p xs/\k = ! xs.isEmpty)\/∃kvs,Rd H p (.dK kvs)/\k = ! kvs.isEmpty
|_=>False
theorem PU{κ:Type}{kvs:List (κ×V)}{vs:List (κ×a_)}(r:KV kvs vs):(! vs.isEmpty) = ! kvs.isEmpty:=by cases r <;> rfl
theorem GD{xs:List V}{its:List a_}(r:al xs its):(! its.toArray.isEmpty) = ! xs.isEmpty:=by cases r <;> simp
theorem mR:(sizeLine:Nat)<2^63:=by rw[N_];decide
theorem Da:By X (fun x H Q=>∃k,j4 X.K x H k/\Q k H):=by intro pz s σ H x v Q I rx h;obtain⟨k,e,q⟩:=h;have hl:=mR;have hs:sizeLine=16777216:=N_;cases x with
|non=>cases rx;have e':k=false:=e;subst e';exact truthy_none ⟨H,I,q⟩
|bl b=>cases rx;have e':k=b:=e;subst e';exact VN ⟨H,I,q⟩
|int i=>obtain⟨t,rfl⟩:=rx;have e':k=(i != 0):=e;subst e';exact PySem.P.truthy_int ⟨H,I,q⟩
|str y=>obtain⟨t,rfl⟩:=rx;obtain⟨hy,e'⟩:y.length<=sizeLine/\k=((y.length:Int) != 0):=e;subst e';exact PySem.P.truthy_str (by omega) ⟨H,I.tok _,q⟩
|byt y=>obtain⟨t,rfl⟩:=rx;obtain⟨hy,e'⟩:y.size<=sizeLine/\k=((y.size:Int) != 0):=e;subst e';exact W.truthy_bytes (by omega) ⟨H,I.tok _,q⟩
|ref p=>
  cases rx;have e':(∃xs,bh X.K H p xs/\k = ! xs.isEmpty)\/(∃xs,bU X.K H p xs/\k = ! xs.isEmpty)\/∃kvs,Rd H p (.dK kvs)/\k = ! kvs.isEmpty:=e;rcases e' with⟨xs,hx,e'⟩|⟨xs,hx,e'⟩|⟨kvs,hx,e'⟩
  .subst e';obtain⟨its,r,pl,hz⟩:=I.list hx;have hlen:=r.length;exact wpAny_truthy_list pl.isList (by simp only[l_];omega) ⟨H,I.tok _,by rw[GD r];exact q⟩
  .subst e';obtain⟨its,r,pl,hz⟩:=I.tuple hx;have hlen:=r.length;exact truthy_tuple pl (by simp only[l_];omega) ⟨H,I.tok _,by rw[GD r];exact q⟩
  .subst e';obtain⟨hz,hS,vs,r,m⟩:kvs.length<=sizeLine/\(p==U9)=false/\∃vs,KV kvs vs/\s.heap.DictOf (d9 X.prog X.w) p vs:=hx.ok I.hok;have hlen:kvs.length=vs.length:=Paired.length r;exact wpAny_truthy_dict hS m (by omega) ⟨H,I.tok _,by rw[PU r];exact q⟩
|_=>exact(show False from e).elim
theorem xE(ha:PE X a ta)(he:∀whole,isTrue a X.env whole=(do let v <-whole;Ww a.pos;VT [v] (Zx v))):PT X a (fun σ H Q=>ta σ H fun x H'=>∃k,j4 X.K x H' k/\Q k H'):=by intro pz s σ H Q I h;exact isTrue_plain (aO (ha pz s σ H _ I h) fun v s1 ⟨x,H1,I1,r1,q1⟩=>Da pz s1 σ H1 x v Q I1 r1 q1) (he _)
theorem P5:bo X (Vu .Add) (fun x y H Q=>∃i j,x=.str i/\y=.str j/\i.length+j.length<=sizeLine/\Q (.str (i++j)) H):=by intro pz s σ H x y v u Q I rx ry h;obtain⟨i,j,rfl,rfl,hz,q⟩:=h;obtain⟨t,rfl⟩:=rx;obtain⟨t',rfl⟩:=ry;exact add_str (fun t' tk=>⟨.str (i++j),H,I.tok _,⟨_,rfl⟩,q⟩) hz
theorem d6{x:V}{us:List a_}(r:al [x] us):∃u,us=[u]/\ar x u:=by cases r with
|cons r1 r2=>cases r2;exact⟨_,rfl,r1⟩
theorem Cv{x y:V}{us:List a_}(r:al [x,y] us):∃u w',us=[u,w']/\ar x u/\ar y w':=by cases r with
|cons r1 r2=>cases r2 with
 |cons r3 r4=>cases r4;exact⟨_,_,rfl,r1,r3⟩
theorem QV:dA X (.type "str") (fun xs H Q=>∃i,xs=[.int i]/\i.natAbs.log2<1920/\Q (.str (toString i)) H):=by intro pz s σ H xs us Q I r h;obtain⟨i,rfl,hz,q⟩:=h;obtain⟨u,rfl,t,rfl⟩:=d6 r;exact PySem.P.str_of_int hz ⟨.str _,H,I.tok _,⟨_,rfl⟩,q⟩
def p9(K:W.Frag)(x:V)(H:Hp)(n:Nat):Prop:=match x with
|.str y=>y.length<=sizeLine/\n=y.length
|.byt y=>y.size<=sizeLine/\n=y.size
|.ref p=>(∃xs,bh K H p xs/\n=xs.length)\/∃xs,bU K H p xs/\n=xs.length
|_=>False
theorem Ni:dA X (.builtin "len") (fun xs H Q=>∃x n,xs=[x]/\p9 X.K x H n/\Q (.int n) H):=by intro pz s σ H xs us Q I r h;obtain⟨x,n,rfl,e,q⟩:=h;obtain⟨u,rfl,rx⟩:=d6 r;have hl:=mR;have hs:sizeLine=16777216:=N_;cases x with
|str y=>obtain⟨t,rfl⟩:=rx;obtain⟨hy,e'⟩:y.length<=sizeLine/\n=y.length:=e;subst e';exact len_str (by omega) ⟨.int _,H,I.tok _,⟨_,rfl⟩,q⟩
|byt y=>obtain⟨t,rfl⟩:=rx;obtain⟨hy,e'⟩:y.size<=sizeLine/\n=y.size:=e;subst e';exact W.len_bytes (by omega) ⟨.int _,H,I.tok _,⟨_,rfl⟩,q⟩
|ref p=>
  cases rx;have e':(∃xs,bh X.K H p xs/\n=xs.length)\/∃xs,bU X.K H p xs/\n=xs.length:=e;rcases e' with⟨xs,hx,e'⟩|⟨xs,hx,e'⟩
  .subst e';obtain⟨its,r',pl,hz⟩:=I.list hx;have hlen:=r'.length;exact Calls.call_len_list pl.isList (by simp only[l_];omega) ⟨.int xs.length,H,I.tok _,⟨_,by simp only[l_];rw[hlen]⟩,q⟩
  .subst e';obtain⟨its,r',pl,hz⟩:=I.tuple hx;have hlen:=r'.length;exact len_tuple pl (by simp only[l_];omega) ⟨.int xs.length,H,I.tok _,⟨_,by simp only[l_];rw[hlen]⟩,q⟩
|_=>exact(show False from e).elim
end
structure ObjM(h:Heap)(x dx C:Addr)(mA:Str->Option a_):Prop where
 obj:h.get? x=some (W.instObj C dx)
 ns:h.Ns1 dx mA
 ne:dx≠x
theorem PH{h:Heap}{dx:Addr}{mA:Str->Option a_}(n:h.Ns1 dx mA):∃od,h.get? dx=some od/\∀name,W.lookIn name od=some (mA name):=by
 obtain⟨o,es,ep,ho,hd,hk,_,hm⟩:=n;refine⟨o,ho,fun name=>?_⟩;have e:=hm name;unfold nsFind findBy at e;rw[<-Array.find?_toList]at e;unfold W.lookIn;rw[hd]
 dsimp only
 split
 .rename_i y q;rw[q]at e;exact congrArg some e
 .rename_i q;rw[q]at e;have a:es.toList.any (·.refKey)=false:=by rw[List.any_eq_false];intro y hy;obtain⟨z,t,B⟩:=hk y (Array.mem_toList_iff.mp hy);simp[DictEntry.refKey,B]
  have a':¬ es.toList.any (·.refKey)=true:=by rw[a];exact g_
  rw[if_neg a'];exact congrArg some e
theorem ObjM.look{h:Heap}{x dx C:Addr}{mA:Str->Option a_}(I:ObjM h x dx C mA):∃od,W.InstAt h x (W.instObj C dx) C (some od)/\∀name,W.lookIn name od=some (mA name):=let⟨od,ho,hl⟩:=PH I.ns
 ⟨od,⟨I.obj,rfl,rfl,ho⟩,hl⟩
variable{A:Uc}{dx C f:Addr}
section
variable{prog:E_}{K:W.Frag}{x:Addr}{mA:Str->Option a_}{name:Str}{v:a_}
theorem Ll{B:Bool}{Q:a_->f_->Prop}(X:K.In s.heap)(I:ObjM s.heap x dx C mA)(hg:W.plainGet K C name=true)(hh:W.hasDictIn K C=true)(ha:W.findIn K (.ref C) name=some none)(hv:mA name=some v)(L:W.handedIn v=true)(h:Q v { s with toks:=s.toks+1 }):C_ (G_ prog w) A (getAttr (.ref x) name B) Q E s:=by obtain⟨od,J,hl⟩:=I.look;exact W.get_value X J (W.plainGet_of hg).1 (W.findObj_own hh ha rfl (by rw[hl,hv])) L h
theorem Nt{pl:Sem Bool}{Q:a_×List a_->f_->Prop}(X:K.In s.heap)(I:ObjM s.heap x dx C mA)(hg:W.plainGet K C name=true)(hf:W.findIn K (.ref C) name=some (some (.ref f)))(ht:W.isFn K (.ref f)=true)(hv:mA name=none)(h:Q (.ref f,[.ref x]) s):C_ (G_ prog w) A (W6 (.ref x) name pl) Q E s:=by obtain⟨od,J,hl⟩:=I.look;exact W.method_fn X J (W.plainGet_of hg).1 (W.plainGet_of hg).2 hf (beq_iff_eq.mp ht) (by show(W.lookIn name od).map (·.isSome)=some false;rw[hl,hv];rfl) h
theorem MT{ns:List Str}{Q:Unit->f_->Prop}(X:K.In s.heap)(I:ObjM s.heap x dx C mA)(hs:W.findIn K (.ref C) "__setattr__" = some (some (.builtin "object.__setattr__")))(hp:W.plainOver K C=true)(ht:W.takerIn K C name=some none)(hh:W.hasDictIn K C=true)(hw:PySem.Within mA ns)(hsz:ns.length<=sizeLine)(h:∀h',ObjM h' x dx C (fun y=>if y=name then some v else mA y)->Wv dx s.heap h'->Q () { s with heap:=h',toks:=s.toks+2 }):C_ (G_ prog w) A (setAttr (.ref x) name v) Q E s:=by obtain⟨od,J,hl⟩:=I.look;refine W.set_plain X J hs (W.osa_open (s:={ s with toks:=s.toks+1 }) (r:=none) X J hp ht fun b=>?_);obtain⟨cd,hc,hd'⟩:=W.any_some hh;have hx:s.heap.get? x=some ⟨.ref C,some dx,.plain,#[]⟩:=I.obj;refine b_ (u_ (b_ (b_ (wpAny_loadPart hx (b_ (W.Looks.here (s:={ s with toks:=s.toks+1 }) (W.looks_clsIn X hc) ?_))))));rw[hd'];refine u_ (a:=some dx) (b_ (u_ (b_ ?_)));refine wpAny_nsSet1 (s:={ s with toks:=s.toks+1 }) I.ns fun h' B L=>?_;obtain⟨oD,ac,Z,M,Y,U⟩:=B.count (PySem.Within.cons name v hw);refine b_ (wpAny_lookBehind M (by rw[Y];exact pastItsLine_dict (Ue U (by rw[x_];omega))) ?_);exact u_ (h _ ⟨(L.2 _ (UX I.ne)).trans I.obj,B,I.ne⟩ L)
theorem OL{R:Y4->f_->Prop}{vs:List a_}{kw:List (Str×a_)}(X:K.In s.heap)(hm:W.makesIn K C=true)(hi:W.findIn K (.ref C) "__init__" = some (some (.ref f)))(hf:W.typeIn K (.ref f)=some (.type "function"))(h:Wx (G_ prog w) (A.under (.builtin "type.__call__" ⟨.ref C::vs,kw⟩)) (.call (.ref f) ⟨.ref (s.heap.objs.size+1)::vs,kw⟩) (W.InitBack (s.heap.objs.size+1) R)
   { s with heap:=(s.heap.push W.emptyDict).push (W.instObj C s.heap.objs.size) }):Wx (G_ prog w) A (.call (.ref C) ⟨vs,kw⟩) R s:=by obtain⟨hh,g,d,t,os⟩:=s;exact W.make_core (W.makes_of X hm) (W.looks_findIn X hi) (fun self=>W.bind_fn X self hf) (.inl rfl) h
end
def putF(f:Str)(v:V):List (Str×V)->List (Str×V)
|[]=>[(f,v)]
|(g,x)::r=>if g=f then(g,v)::r else(g,x)::putF f v r
theorem GP(f g:Str)(v:V):∀fs:List (Str×V),(putF f v fs).lookup g=if g=f then some v else fs.lookup g
|[]=>by
  show Up g [(f,v)]=_;by_cases h:g=f
  .have hb:(g==f)=true:=beq_iff_eq.mpr h;simp only[Up,hb,if_pos h]
  .have hb:(g==f)=false:=beq_eq_false_iff_ne.mpr h;simp only[Up,hb,if_neg h]
|(k,x)::r=>by
  have ih:=GP f g v r;rw[show putF f v ((k,x)::r)=(if k=f then(k,v)::r else(k,x)::putF f v r)from rfl];by_cases hk:k=f
  .rw[if_pos hk];by_cases h:g=k
   .have hb:(g==k)=true:=beq_iff_eq.mpr h;simp only[Up,hb,if_pos (h.trans hk)]
   .have hb:(g==k)=false:=beq_eq_false_iff_ne.mpr h;simp only[Up,hb,if_neg (fun e:g=f=>h (e.trans hk.symm))]
  .rw[if_neg hk];by_cases h:g=k
   .have hb:(g==k)=true:=beq_iff_eq.mpr h;simp only[Up,hb,if_neg (fun e:g=f=>hk (h.symm.trans e))]
   .have hb:(g==k)=false:=beq_eq_false_iff_ne.mpr h;simp only[Up,hb];exact ih
theorem yn(f:Str)(v:V):∀fs:List (Str×V),f∈(putF f v fs).map (·.1)/\∀g,g∈fs.map (·.1)->g∈(putF f v fs).map (·.1)
|[]=>⟨by simp[putF],fun g h=>by simp at h⟩
|(k,x)::r=>by
  obtain⟨i1,i2⟩:=yn f v r;rw[show putF f v ((k,x)::r)=(if k=f then(k,v)::r else(k,x)::putF f v r)from rfl];by_cases hk:k=f
  .rw[if_pos hk];subst hk;exact⟨by simp,fun g h=>by simpa using h⟩
  .rw[if_neg hk];refine⟨?_,fun g h=>?_⟩
   .rw[L_];exact h_ _ i1
   .rw[L_]at h ⊢;rcases n_.mp h with e|e
    .exact List.mem_cons.mpr (.inl e)
    .exact h_ _ (i2 g e)
theorem GO(f:Str)(v:V):∀fs:List (Str×V),(putF f v fs).length<=fs.length+1
|[]=>by simp[putF]
|(k,x)::r=>by
  have ih:=GO f v r;rw[show putF f v ((k,x)::r)=(if k=f then(k,v)::r else(k,x)::putF f v r)from rfl];by_cases hk:k=f
  .rw[if_pos hk,x_,x_];omega
  .rw[if_neg hk,x_,x_];omega
theorem cA.some_of{v:V}{o:Option a_}(r:cA (some v) o):∃u,o=some u/\ar v u:=by cases o with
|none=>exact(show False from r).elim
|some u=>exact⟨u,rfl,r⟩
theorem cA.none_of{o:Option a_}(r:cA none o):o=none:=by cases o with
|none=>rfl
|some u=>exact(show False from r).elim
theorem OW{v:V}{u:a_}(r:ar v u):W.handedIn u=true:=by cases v with
|non=>cases(show u=Value.none from r);rfl
|bl b=>cases(show u=Value.bool b from r);rfl
|int i=>obtain⟨t,e⟩:=(show ∃t,u=Value.int i t from r);cases e;rfl
|str x=>obtain⟨t,e⟩:=(show ∃t,u=Value.str x t from r);cases e;rfl
|byt b=>obtain⟨t,e⟩:=(show ∃t,u=Value.bytes b t from r);cases e;rfl
|flt b=>obtain⟨t,e⟩:=(show ∃t,u=Value.float b t from r);cases e;rfl
|ref a=>cases(show u=Value.ref a from r);rfl
|ty n=>cases(show u=Value.type n from r);rfl
section
variable{fs fs':List (Str×V)}
theorem vV(hok:cB P w H h)(e:H a=some (.ins C dx fs)):∃mA,ObjM h a dx C mA/\(∀f,cA (fs.lookup f) (mA f))/\PySem.Within mA (fs.map (·.1))/\fs.length<=1000/\H dx=some (.own a):=by
 obtain⟨d,z,ne,ob,mA,n,r,q⟩:=(show bF P w H h a (.ins C dx fs)from hok a _ e)
 exact⟨mA,⟨ob,n,ne⟩,r,q,z,d⟩
end
structure Cls(K:W.Frag)(C:Addr):Prop where
 pg:W.plainGet K C WB=true
 hd:W.hasDictIn K C=true
 po:W.plainOver K C=true
 sa:W.findIn K (.ref C) "__setattr__" = some (some (.builtin "object.__setattr__"))
theorem Cls.get{K:W.Frag}{C:Addr}(c:Cls K C)(f:Str):W.plainGet K C f=true:=c.pg
def eZ(K:W.Frag)(C:Addr)(f:Str):Prop:=W.findIn K (.ref C) f=some none
theorem eZ.taker{K:W.Frag}{C:Addr}{f:Str}(n:eZ K C f):W.takerIn K C f=some none:=by unfold W.takerIn;rw[show W.findIn K (.ref C) f=some none from n];rfl
structure Meth(K:W.Frag)(C:Addr)(m:Str)(f:Addr):Prop where
 at_:W.findIn K (.ref C) m=some (some (.ref f))
 fn:W.isFn K (.ref f)=true
 kp:W.keepIn K (.ref f)=true
section
variable{fs:List (Str×V)}{f:Str}{v:V}
theorem PQ{b:Bool}{Q:a_->f_->Prop}(I:Inv X pz σ H s)(e:H a=some (.ins C dx fs))(c:Cls X.K C)(n:eZ X.K C f)(l:fs.lookup f=some v)(h:∀u s',Inv X pz σ H s'->ar v u->Q u s'):C_ (G_ X.prog X.w) A (getAttr (.ref a) f b) Q E s:=by obtain⟨mA,O,r,_,_,_⟩:=vV I.hok e;obtain⟨u,hu,ru⟩:=cA.some_of (v:=v) (o:=mA f) (by rw[<-l];exact r f);exact Ll I.kIn O (c.get f) c.hd n hu (OW ru) (h u _ (I.tok _) ru)
theorem GC{m:Str}{g:Addr}{pl:Sem Bool}{Q:a_×List a_->f_->Prop}(I:Inv X pz σ H s)(e:H a=some (.ins C dx fs))(c:Cls X.K C)(k:Meth X.K C m g)(l:fs.lookup m=none)(h:Q (.ref g,[.ref a]) s):C_ (G_ X.prog X.w) A (W6 (.ref a) m pl) Q E s:=by obtain⟨mA,O,r,_,_,_⟩:=vV I.hok e;have hn:mA m=none:=cA.none_of (by rw[<-l];exact r m);exact Nt I.kIn O (c.get m) k.at_ k.fn hn h
theorem Qt{y:V}{u:a_}{Q:Unit->f_->Prop}(I:Inv X pz σ H s)(e:H a=some (.ins C dx fs))(c:Cls X.K C)(n:eZ X.K C f)(hl:fs.length<1000)(ry:ar y u)(h:∀s',Inv X pz σ (aB H a (.ins C dx (putF f y fs))) s'->Q () s'):C_ (G_ X.prog X.w) A (setAttr (.ref a) f u) Q E s:=by
 obtain⟨mA,O,r,wi,_,ho⟩:=vV I.hok e;have hz:(fs.map (·.1)).length<=sizeLine:=by rw[j_,N_];omega
 refine MT I.kIn O c.sa c.po n.taker c.hd wi hz fun h' O' sb=>h _ ?_;have hd:∃o,h'.get? dx=some o:=let⟨o,_,_,e',_⟩:=O'.ns;⟨o,e'⟩;refine I.write (x:=a) (e:=dx) (by rw[e];exact True.intro) (.inr ho) (fun b q hb z=>(sb.2 b hb).trans z) hd ?_;refine⟨by rw[bf O.ne];exact ho,?_,O.ne,O'.obj,_,O'.ns,fun g=>?_,fun g hg=>?_⟩
 .have:=GO f y fs;omega
 .show cA ((putF f y fs).lookup g) (if g=f then some u else mA g);rw[GP];by_cases q:g=f
  .rw[if_pos q,if_pos q];exact ry
  .rw[if_neg q,if_neg q];exact r g
 .by_cases q:g=f
  .rw[q];exact(yn f y fs).1
  .refine(yn f y fs).2 g (wi g fun z=>hg ?_);show(if g=f then some u else mA g)=none;rw[if_neg q];exact z
theorem Inv.made(I:Inv X pz σ H s):Inv X pz σ (aB (aB H s.heap.objs.size (.own (s.heap.objs.size+1))) (s.heap.objs.size+1) (.ins C s.heap.objs.size []))
  { s with heap:=(s.heap.push W.emptyDict).push (W.instObj C s.heap.objs.size) }:=by
 have e1:(s.heap.push W.emptyDict).get? s.heap.objs.size=some W.emptyDict:=r_ s.heap rfl;have e2:((s.heap.push W.emptyDict).push (W.instObj C s.heap.objs.size)).get? (s.heap.objs.size+1)=some (W.instObj C s.heap.objs.size):=by have:=r_ (s.heap.push W.emptyDict) (o:=W.instObj C s.heap.objs.size) rfl;rwa[UD]at this
 have e3:(s.heap.push W.emptyDict).Ns s.heap.objs.size (fun _=>none):=⟨W.emptyDict,#[],_,e1,rfl,(fun e he=>absurd he (by simp)),fun _=>rfl⟩
 have I1:=I.laid (a:=s.heap.objs.size) (o:=.own (s.heap.objs.size+1)) (h':=s.heap.push W.emptyDict) (t':=s.toks) (fun b u q=>c_ _ q) (s_ _) ⟨_,e1⟩;refine I1.laid (a:=s.heap.objs.size+1) (o:=.ins C s.heap.objs.size []) (t':=s.toks) (fun b u q=>c_ _ q) (Wc (UD _ _)) ?_;have ne:s.heap.objs.size≠s.heap.objs.size+1:=M_ (U6 _);refine⟨by rw[bf ne,bB],Uf _,ne,e2,fun _=>none,(Heap.Ns1.of_empty e3).at fun o q=>c_ _ q,fun _=>True.intro,fun y hy=>absurd rfl hy⟩
theorem K6{prog:E_}{w:S_}{env:Env}{e:Expr}{f:Str}{pos:Pos}{s:f_}{Q:a_->f_->Prop}(hb:Uo e f env (eval e env)=eval e env)(h:C_ (G_ prog w) A (eval e env) (fun o s₁=>C_ (G_ prog w) A (getAttr o f true) Q E s₁) E s):C_ (G_ prog w) A (eval (.Attribute e f pos) env) Q E s:=Attribute_any_ h (by rw[arm_eval_Attribute,hb])
end
def A3(K:W.Frag)(ta:TE)(f:Str):TE:=fun σ H Q=>ta σ H fun x H1=>∃a C dx fs v,x=.ref a/\H1 a=some (.ins C dx fs)/\Cls K C/\eZ K C f/\fs.lookup f=some v/\Q v H1
def Bb(K:W.Frag)(ta tv:TE)(f:Str):TS:=fun D σ H=>tv σ H fun y H1=>ta σ H1 fun x H2=>∃a C dx fs,x=.ref a/\H2 a=some (.ins C dx fs)/\Cls K C/\eZ K C f/\fs.length<1000 /\D.nx σ (aB H2 a (.ins C dx (putF f y fs)))
section
variable{o value:Expr}{f:Str}{pos' tpos:Pos}{tv:TE}
theorem mT(he:PE X e ta)(hb:Uo e f X.env (eval e X.env)=eval e X.env):PE X (.Attribute e f pos) (A3 X.K ta f):=by intro pz s σ H Q I h;refine K6 hb (aO (he pz s σ H _ I h) fun u s1 ⟨x,H1,I1,rx,a,C,dx,fs,v,ex,ea,c,n,l,q⟩=>?_);subst ex;obtain rfl:u=Value.ref a:=rx;exact PQ I1 ea c n l fun u' s2 I2 ru=>⟨v,H1,I2,ru,q⟩
theorem og(ha:PE X o ta)(hv:PE X value tv)(hs:Uw value (some (.Attribute o f pos')) pos.line X.env=pure false):PS X (.Assign [.Attribute o f pos'] value pos) (Bb X.K ta tv f):=by intro pz s σ H D I h;refine plainObj_wpAny_Assign_Attribute (aO (hv pz s σ H _ I h) fun u s1 ⟨y,H1,I1,ry,q⟩=>aO (ha pz s1 σ H1 _ I1 q) fun ov s2 ⟨x,H2,I2,rx,a,C,dx,fs,ex,ea,c,n,l,q2⟩=>?_) hs;subst ex;obtain rfl:ov=Value.ref a:=rx;exact Qt I2 ea c n l ry fun s3 I3=>⟨σ,_,I3,q2⟩
end
structure Room(k:Nat)(A:Uc):Prop where
 hd:A.handled=none
 dp:A.depth+3*k+5<recursionLimit
 un:A.units+16*k+200<Vj
 gd:A.guards=some []
theorem Room.mono{j k:Nat}{A:Uc}(r:Room k A)(h:j<=k):Room j A:=⟨r.hd,by have:=r.dp;omega,by have:=r.un;omega,r.gd⟩
theorem Room.deeper{k:Nat}{A:Uc}(r:Room (k+1) A)(env:Env):Room k (A.deeper env):=⟨r.hd,by have:=r.dp;show A.depth+1+3*k+5<_;omega,by have:=r.un;show A.units+3+16*k+200<_;omega,r.gd⟩
theorem PX{A:Uc}{C:Addr}{us:List a_}{kw:List (Str×a_)}:(A.under (.builtin "type.__call__" ⟨.ref C::us,kw⟩)).depth=A.depth+1:=by first|rfl|simp[Xb,Code.weight,Code.isCreation,Zy,Code.isCaller,ZH,X_,guardIds]
theorem PY{A:Uc}{C:Addr}{us:List a_}{kw:List (Str×a_)}:(A.under (.builtin "type.__call__" ⟨.ref C::us,kw⟩)).units=A.units+1:=by first|rfl|simp[Xb,Code.cUnits,ZH,X_]
theorem Room.make{k:Nat}{A:Uc}(r:Room (k+1) A)(C:Addr)(us:List a_)(kw:List (Str×a_)):Room k (A.under (.builtin "type.__call__" ⟨.ref C::us,kw⟩)):=⟨r.hd,by have:=r.dp;rw[PX];omega,by have:=r.un;rw[PY];omega,(by have:=r.gd;first|exact this|(simp[Xb,Zy,guardIds];exact this))⟩
theorem Room.depth{k:Nat}{A:Uc}(r:Room k A):A.depth<recursionLimit:=by have:=r.dp;omega
theorem Room.units{k:Nat}{A:Uc}(r:Room k A):A.units+64<Vj:=by have:=r.un;omega
def lO:TA:=fun _ H Q=>Q [] H
def II(ta:TE)(tr:TA):TA:=fun σ H Q=>ta σ H fun x H1=>tr σ H1 fun xs H2=>Q (x::xs) H2
variable{t:TA}{es:List Expr}
theorem iN:PA X [] lO:=fun _ _ _ _ H Q I h=>Calls.spliced_nil ⟨[],H,I,.nil,h⟩
theorem ff(ha:PE X e te)(hr:PA X es t)(hs:i_ (e::es) X.env=(false,eval e X.env)::i_ es X.env:=by rfl):PA X (e::es) (II te t):=by intro pos pz s σ H Q I h;rw[hs];show C_ _ _ (spliced ((false,eval e X.env)::backTo pos (i_ es X.env))) _ _ s;refine Calls.spliced_cons (aO (ha pz s σ H _ I h) fun u s1 ⟨x,H1,I1,r1,q1⟩=>?_);exact aO (hr pos pz s1 σ H1 _ I1 q1) fun us s2 ⟨xs,H2,I2,r2,q2⟩=>⟨x::xs,H2,I2,.cons r1 r2,q2⟩
def AV(t:TA):TE:=fun σ H Q=>t σ H fun xs H1=>xs.length<=sizeLine/\∀p,H1 p=none->Q (.ref p) (aB H1 p (.tup xs))
def AZ(t:TA):TE:=fun σ H Q=>t σ H fun xs H1=>xs.length<=sizeLine/\∀p,H1 p=none->Q (.ref p) (aB H1 p (.lst xs))
theorem KI{x1}(h:PA X es t):PE X (.Tuple es x1 pos) (AV t):=by intro pz s σ H Q I hq;refine wpAny_Tuple_spliced (aO (h pos pz s σ H _ I hq) fun us s1 ⟨xs,H1,I1,r,z,q⟩=>⟨by rw[<-r.length];exact z,?_⟩);have hf:H1 s1.heap.objs.size=none:=I1.hok.fresh (s_ _);refine⟨.ref s1.heap.objs.size,aB H1 s1.heap.objs.size (.tup xs),I1.laid (t':=s1.toks) (fun b u e=>c_ _ e) (s_ _) ?_,rfl,q _ hf⟩;exact⟨z,us,r,⟨_,r_ _ rfl,rfl,_,rfl⟩,_,r_ _ rfl,rfl⟩
theorem KB(h:PA X es t):PE X (.List es pos) (AZ t):=by intro pz s σ H Q I hq;refine wpAny_List_spliced (aO (h pos pz s σ H _ I hq) fun us s1 ⟨xs,H1,I1,r,z,q⟩=>⟨by rw[<-r.length];exact z,?_⟩);have hf:H1 s1.heap.objs.size=none:=I1.hok.fresh (s_ _);refine⟨.ref s1.heap.objs.size,aB H1 s1.heap.objs.size (.lst xs),I1.laid (t':=s1.toks) (fun b u e=>c_ _ e) (s_ _) ?_,rfl,q _ hf⟩;exact⟨z,us,0,r,r_ _ rfl⟩
abbrev Sp:=List V->Hp->VK->XK->Prop
abbrev iF:=List Env->Hp->f_->XK->a_->f_->Prop
structure Env0(P:E_)(w:S_)(K:W.Frag)(mg:Str->Option a_)(base:Heap)(A:Uc)(outer:List Env)(s:f_)(H:Hp):Prop where
 frames:A.frames=some outer
 mod:Mod K mg base
 bs:∀b o,base.get? b=some o->s.heap.get? b=some o/\H b=none
 bsz:base.objs.size<=s.heap.objs.size
 funs:s.heap.FunFrames base outer
 frf:∀b∈gF outer,H b=none
 hok:cB P w H s.heap
 bare:Wj s.gens
def CE(outer:List Env)(P:E_)(w:S_)(H:Hp)(s:f_)(Q:VK)(u:a_)(s':f_):Prop:=∃v H',s'.os=s.os/\Wj s'.gens/\Un (gF outer) [] H H' s.heap s'.heap/\cB P w H' s'.heap/\ar v u/\Q v H'
def CR(CX:iF)(outer:List Env)(P:E_)(w:S_)(H:Hp)(s:f_)(Q:VK)(E:XK)(r:Y4)(s':f_):Prop:=match r with
|.ok (.ret u)=>CE outer P w H s Q u s'
|.ok _=>False
|.error e=>CX outer H s E e s'
structure FnOk(P:E_)(w:S_)(K:W.Frag)(mg:Str->Option a_)(base:Heap)(CX:iF)(k:Nat)(f:Addr)(fd:UE)(ps:List Str)(sp:Sp):Prop where
 len:∀vs H Q E,sp vs H Q E->vs.length=ps.length
 run:∀(A:Uc)(outer:List Env)(s:f_)(H:Hp)(args:Args)(us:List a_)(vs:List V)(Q:VK)(E:XK),Room k A->Env0 P w K mg base A outer s H->Ya s fd args (ps.zip us)->al vs us->sp vs H Q E ->Wx (G_ P w) A (.call (.ref f) args) (CR CX outer P w H s Q E) s
theorem FnOk.mono{P:E_}{w:S_}{K:W.Frag}{mg:Str->Option a_}{base:Heap}{CX:iF}{j k:Nat}{f:Addr}{fd:UE}{ps:List Str}{sp:Sp}(F:FnOk P w K mg base CX j f fd ps sp)(h:j<=k):FnOk P w K mg base CX k f fd ps sp:=⟨F.len,fun A outer s H args us vs Q E hr=>F.run A outer s H args us vs Q E (hr.mono h)⟩
theorem FnOk.imp{P:E_}{w:S_}{K:W.Frag}{mg:Str->Option a_}{base:Heap}{CX:iF}{k:Nat}{f:Addr}{fd:UE}{ps:List Str}{sp B:Sp}(F:FnOk P w K mg base CX k f fd ps sp)(h:∀vs H Q E,B vs H Q E->sp vs H Q E):FnOk P w K mg base CX k f fd ps B:=⟨fun vs H Q E q=>F.len vs H Q E (h _ _ _ _ q),fun A outer s H args us vs Q E hr he hb hv hs=>F.run A outer s H args us vs Q E hr he hb hv (h _ _ _ _ hs)⟩
theorem Env0.make{P:E_}{w:S_}{K:W.Frag}{mg:Str->Option a_}{base:Heap}{A:Uc}{outer:List Env}{s:f_}{H:Hp}(e:Env0 P w K mg base A outer s H)(C:Addr)(us:List a_)(kw:List (Str×a_)):Env0 P w K mg base (A.under (.builtin "type.__call__" ⟨.ref C::us,kw⟩)) outer s H:=⟨by first|exact e.frames|(simpa[Xb,Code.envs,X_,pushEnvs]using e.frames),e.mod,e.bs,e.bsz,e.funs,e.frf,e.hok,e.bare⟩
section
variable{s':f_}
theorem Inv.env0(I:Inv X pz σ H s):Env0 X.prog X.w X.K X.mg X.base X.A X.stack s H:=⟨I.ok.frames,I.ok.mod,I.bs,Ue I.ok.bsz I.sz,I.stack,I.stkFree,I.hok,I.bare⟩
theorem Inv.after{Q:VK}{u:a_}(I:Inv X pz σ H s)(h:CE X.stack X.prog X.w H s Q u s'):EP X pz σ Q u s':=by obtain⟨v,H',os,bare,un,hok,r,q⟩:=h;obtain⟨hh,g,d,t,os'⟩:=s';obtain rfl:os'=s.os:=os;exact⟨v,H',I.call (h':=hh) (g':=g) (d':=d) (t':=t) (ch:=[]) un hok bare (fun b z=>absurd z (by simp)),r,q⟩
end
def IH(sp:Sp)(dvs:List V)(E:XK)(t:TA):TE:=fun σ H Q=>t σ H fun vs H1=>sp (vs++dvs) H1 Q E
def Cs(C:Addr)(m:Str)(sp:Sp)(dvs:List V)(E:XK)(ta:TE)(t:TA):TE:=fun σ H Q=>ta σ H fun x H1=>∃a dx fs,x=.ref a/\H1 a=some (.ins C dx fs)/\fs.lookup m=none /\t σ H1 fun vs H2=>sp (x::(vs++dvs)) H2 Q E
def Cr(C:Addr)(sp:Sp)(dvs:List V)(E:XK)(t:TA):TE:=fun σ H Q=>t σ H fun vs H1=>∀x dx,H1 x=none->H1 dx=none->dx≠x ->sp (.ref x::(vs++dvs)) (aB (aB H1 dx (.own x)) x (.ins C dx [])) (fun v H2=>v=.non/\Q (.ref x) H2) E
def fK(K:W.Frag)(fd:UE)(ps:List Str)(ds:List a_):Prop:=∀(s:f_)(us:List a_),K.In s.heap->(us++ds).length=ps.length->Ya s fd ⟨us,[]⟩ (ps.zip (us++ds))
theorem fK.all{K:W.Frag}{fd:UE}{ps:List Str}(h:∀us:List a_,us.length=ps.length->Wd fd ⟨us,[]⟩=pure (ps.zip us)):fK K fd ps []:=fun s us _ hl=>by rw[UG]at hl ⊢;exact .of_eq (h us hl)
def ko(CX:iF)(X:Cx)(E:XK):Prop:=∀(pz:List (Addr×Obj))(σ:St)(H:Hp)(s:f_)(e:a_)(s':f_),Inv X pz σ H s->CX X.stack H s E e s'->X.xe e s'
variable{p:Pos}
section
variable{CX:iF}{k:Nat}{fd:UE}{ps:List Str}{sp:Sp}{dvs:List V}{ds:List a_}{E:XK}{x m:Str}{apos:Pos}{o:Expr}
theorem qy{pz:List (Addr×Obj)}{σ:St}{H:Hp}{s:f_}{Q:VK}{us:List a_}{vs:List V}(F:FnOk X.prog X.w X.K X.mg X.base CX k f fd ps sp)(hr:Room k X.A)(hb:fK X.K fd ps ds)(hd:al dvs ds)(hx:ko CX X E)(I:Inv X pz σ H s)(r:al vs us)(h:sp (vs++dvs) H Q E):C_ (G_ X.prog X.w) X.A (call (.ref f) us) (EP X pz σ Q) X.xe s:=by
 have r2:al (vs++dvs) (us++ds):=r.append hd;have hl:(us++ds).length=ps.length:=by rw[<-r2.length];exact F.len _ _ _ _ h
 refine Y5 (We (F.run X.A X.stack s H ⟨us,[]⟩ (us++ds) (vs++dvs) Q E hr I.env0 (hb s us I.kIn hl) r2 h) fun r s' hq=>?_);cases r with
|error e=>exact hx pz σ H s e s' I hq
|ok fl=>cases fl with
 |ret u=>exact I.after hq
 |next=>exact U1 hq
 |brk=>exact U1 hq
 |cont=>exact U1 hq
theorem qS(F:FnOk X.prog X.w X.K X.mg X.base CX k f fd ps sp)(hr:Room k X.A)(hg:Gl X x)(hm:X.mg x=some (.ref f))(hk:W.keepIn X.K (.ref f)=true)(hb:fK X.K fd ps ds)(hd:al dvs ds)(hx:ko CX X E)(ha:PA X (e::es) t)(B:(x==("__debug__" : Str))=false:=by decide)(he:i_ (e::es) X.env=(false,eval e X.env)::i_ es X.env:=by rfl)(hpl:(backTo pos (i_ es X.env)).any (·.1)=false:=by rfl):PE X (.Call (.Name x p) (e::es) [] pos) (IH sp dvs E t):=by intro pz s σ H Q I h;refine VA (qO I hg hm ?_ B);refine W.callWith_K (h₀:=X.base) I.ok.mod.kin hk (aO (ha pos pz s σ H _ I h) fun us s1 ⟨vs,H1,I1,r,q⟩=>⟨I1.kIn,?_⟩) he hpl;exact qy F hr hb hd hx I1 r q
theorem L9{pl:Sem Bool}(he:PE X o ta)(c:Cls X.K C)(hm:Meth X.K C m f)(F:FnOk X.prog X.w X.K X.mg X.base CX k f fd ps sp)(hr:Room k X.A)(hb:fK X.K fd ps ds)(hd:al dvs ds)(hx:ko CX X E)(ha:PA X (e::es) t)(B:i_ (e::es) X.env=(false,eval e X.env)::i_ es X.env:=by rfl)(hpl:(backTo pos (i_ es X.env)).any (·.1)=false:=by rfl)(ht:eval (.Call (.Attribute o m apos) (e::es) [] pos) X.env=(do
   let ov <-eval o X.env
   Ww apos.atName
   let(f,first) <-VT [ov] (W6 ov m pl)
   Yb pos f first (backTo pos (i_ (e::es) X.env)) (Wk pos (Vz [] X.env))):=by rfl):PE X (.Call (.Attribute o m apos) (e::es) [] pos) (Cs C m sp dvs E ta t):=by intro pz s σ H Q I h;refine W.methodCall_KW (pl:=pl) (aO (he pz s σ H _ I h) fun u s1 ⟨x,H1,I1,rx,a,dx,fs,ex,ea,l,q⟩=>?_) ht;subst ex;obtain rfl:u=Value.ref a:=rx;refine GC I1 ea c hm l ?_;refine W.callWith_K (first:=[.ref a]) (h₀:=X.base) I.ok.mod.kin hm.kp (aO (ha pos pz s1 σ H1 _ I1 q) fun us s2 ⟨vs,H2,I2,r,q2⟩=>⟨I2.kIn,?_⟩) B hpl;exact qy (us:=.ref a::us) (vs:=.ref a::vs) F hr hb hd hx I2 (.cons rfl r) q2
theorem OE{pl:Sem Bool}(he:PE X o ta)(c:Cls X.K C)(hm:Meth X.K C m f)(F:FnOk X.prog X.w X.K X.mg X.base CX k f fd ps sp)(hr:Room k X.A)(hb:fK X.K fd ps ds)(hd:al dvs ds)(hx:ko CX X E)(ht:eval (.Call (.Attribute o m apos) [] [] pos) X.env=(do
   let ov <-eval o X.env
   Ww apos.atName
   let(f,first) <-VT [ov] (W6 ov m pl)
   Yb pos f first (backTo pos (i_ [] X.env)) (Wk pos (Vz [] X.env))):=by rfl):PE X (.Call (.Attribute o m apos) [] [] pos) (Cs C m sp dvs E ta lO):=by intro pz s σ H Q I h;refine W.methodCall_KW (pl:=pl) (aO (he pz s σ H _ I h) fun u s1 ⟨x,H1,I1,rx,a,dx,fs,ex,ea,l,q⟩=>?_) ht;subst ex;obtain rfl:u=Value.ref a:=rx;refine GC I1 ea c hm l ?_;exact W.callWith_K0 (first:=[.ref a]) I1.kIn hm.kp (qy (us:=[.ref a]) (vs:=[.ref a]) F hr hb hd hx I1 (.cons rfl .nil) q)
structure Mk(K:W.Frag)(C f:Addr):Prop where
 makes:W.makesIn K C=true
 init:W.findIn K (.ref C) "__init__" = some (some (.ref f))
 fn:W.isFn K (.ref f)=true
 kp:W.keepIn K (.ref C)=true
theorem EQ{pz:List (Addr×Obj)}{σ:St}{H:Hp}{s:f_}{Q:VK}{us:List a_}{vs:List V}(M:Mk X.K C f)(F:FnOk X.prog X.w X.K X.mg X.base CX k f fd ps sp)(hr:Room (k+1) X.A)(hb:fK X.K fd ps ds)(hd:al dvs ds)(hx:ko CX X E)(I:Inv X pz σ H s)(r:al vs us)(h:∀x dx,H x=none->H dx=none->dx≠x->sp (.ref x::(vs++dvs)) (aB (aB H dx (.own x)) x (.ins C dx [])) (fun v H2=>v=.non/\Q (.ref x) H2) E):C_ (G_ X.prog X.w) X.A (call (.ref C) us) (EP X pz σ Q) X.xe s:=by
 have hq:=h (s.heap.objs.size+1) s.heap.objs.size (I.hok.fresh (WP _)) (I.hok.fresh (s_ _)) (M_ (U6 _));have I2:=Inv.made (C:=C) I;have r2:al (V.ref (s.heap.objs.size+1)::(vs++dvs)) (Value.ref (s.heap.objs.size+1)::(us++ds)):=.cons rfl (r.append hd);have hl:(Value.ref (s.heap.objs.size+1)::us++ds).length=ps.length:=by have e:=r2.length;rw[F.len _ _ _ _ hq]at e;exact e.symm
 refine Y5 (OL (f:=f) I.kIn M.makes M.init (beq_iff_eq.mp M.fn) (We (F.run _ X.stack _ _ ⟨Value.ref (s.heap.objs.size+1)::us,[]⟩ (Value.ref (s.heap.objs.size+1)::(us++ds)) _ _ E (hr.make C us [])
  (I2.env0.make C us []) (hb _ (Value.ref (s.heap.objs.size+1)::us) I2.kIn hl) r2 hq) fun r s' hq'=>?_))
 cases r with
|error e=>exact hx pz σ _ _ e s' I2 hq'
|ok fl=>cases fl with
 |ret u=>obtain⟨v,H',I3,rv,ev,q3⟩:=I2.after hq';subst ev;exact⟨rv,⟨V.ref (s.heap.objs.size+1),H',I3,rfl,q3⟩⟩
 |next=>exact U1 hq'
 |brk=>exact U1 hq'
 |cont=>exact U1 hq'
theorem L8(M:Mk X.K C f)(F:FnOk X.prog X.w X.K X.mg X.base CX k f fd ps sp)(hr:Room (k+1) X.A)(hg:Gl X x)(hm:X.mg x=some (.ref C))(hb:fK X.K fd ps ds)(hd:al dvs ds)(hx:ko CX X E)(ha:PA X (e::es) t)(B:(x==("__debug__" : Str))=false:=by decide)(he:i_ (e::es) X.env=(false,eval e X.env)::i_ es X.env:=by rfl)(hpl:(backTo pos (i_ es X.env)).any (·.1)=false:=by rfl):PE X (.Call (.Name x p) (e::es) [] pos) (Cr C sp dvs E t):=by intro pz s σ H Q I h;refine VA (qO I hg hm ?_ B);refine W.callWith_K (h₀:=X.base) I.ok.mod.kin M.kp (aO (ha pos pz s σ H _ I h) fun us s1 ⟨vs,H1,I1,r,q⟩=>⟨I1.kIn,?_⟩) he hpl;exact EQ M F hr hb hd hx I1 r q
theorem ED(M:Mk X.K C f)(F:FnOk X.prog X.w X.K X.mg X.base CX k f fd ps sp)(hr:Room (k+1) X.A)(hg:Gl X x)(hm:X.mg x=some (.ref C))(hb:fK X.K fd ps ds)(hd:al dvs ds)(hx:ko CX X E)(B:(x==("__debug__" : Str))=false:=by decide):PE X (.Call (.Name x p) [] [] pos) (Cr C sp dvs E lO):=by intro pz s σ H Q I h;refine VA (qO I hg hm ?_ B);exact W.callWith_K0 I.kIn M.kp (EQ (us:=[]) M F hr hb hd hx I .nil h)
end
structure FnScope(N P:List Str)(sc:VX):Prop where
 kind:sc.kind=.function
 co:sc.isCoroutine=false
 gen:sc.isGenerator=false
 nd:N.Nodup
 pre:N.take P.length=P
 par:∀x∈P,sc.names.lookup x=some .local\/sc.names.lookup x=some .cell
 nofree:∀y∈sc.names,y.2≠.free
theorem Fl{kindOf:Str->Option VQ}{x:Str}:∀{binds:List (Str×a_)}{m:Str->Option a_},(∀v,(x,v)∉binds)->Y6 kindOf binds m x=m x
|[],_,_=>rfl
|(n,v)::r,m,h=>by
  unfold Y6;rw[Fl fun w hw=>h w (h_ _ hw)];split
  .have:x≠n:=by rintro rfl;exact h v e_
   simp[this]
  .rfl
theorem Fj{kindOf:Str->Option VQ}{x:Str}:∀{binds:List (Str×a_)}{m:Str->Option a_},(∀v,(x,v)∉binds)->Y7 kindOf binds m x=m x
|[],_,_=>rfl
|(n,v)::r,m,h=>by
  unfold Y7;rw[Fj fun w hw=>h w (h_ _ hw)];split
  .rfl
  .have:x≠n:=by rintro rfl;exact h v e_
   simp[this]
theorem Fk{kindOf:Str->Option VQ}{x:Str}{v:a_}:∀{P:List Str}{vs:List a_}{i:Nat}{m:Str->Option a_},P.Nodup->P[i]? = some x->vs[i]? = some v->kindOf x=some .local ->Y6 kindOf (P.zip vs) m x=some v
|[],_,_,_,_,h,_,_=>by simp at h
|_::_,[],_,_,_,_,h,_=>by simp at h
|p::P,w::vs,0,m,nd,h1,h2,hk=>by simp at h1 h2;subst h1;subst h2;show Y6 kindOf ((p,w)::P.zip vs) m p=_;unfold Y6;rw[Fl fun v hv=>(U2.mp nd).1 (U3 hv).1,if_pos hk];simp
|p::P,w::vs,i+1,m,nd,h1,h2,hk=>by show Y6 kindOf ((p,w)::P.zip vs) m x=_;unfold Y6;exact Fk (i:=i) (U2.mp nd).2 (by simpa using h1) (by simpa using h2) hk
theorem Fi{kindOf:Str->Option VQ}{x:Str}{v:a_}:∀{P:List Str}{vs:List a_}{i:Nat}{m:Str->Option a_},P.Nodup->P[i]? = some x->vs[i]? = some v->kindOf x≠some .local ->Y7 kindOf (P.zip vs) m x=some v
|[],_,_,_,_,h,_,_=>by simp at h
|_::_,[],_,_,_,_,h,_=>by simp at h
|p::P,w::vs,0,m,nd,h1,h2,hk=>by simp at h1 h2;subst h1;subst h2;show Y7 kindOf ((p,w)::P.zip vs) m p=_;unfold Y7;rw[Fj fun v hv=>(U2.mp nd).1 (U3 hv).1,if_neg hk];simp
|p::P,w::vs,i+1,m,nd,h1,h2,hk=>by show Y7 kindOf ((p,w)::P.zip vs) m x=_;unfold Y7;exact Fi (i:=i) (U2.mp nd).2 (by simpa using h1) (by simpa using h2) hk
def aJ(N:List Str)(vs:List V):St:=vs.map some++q_ (N.length-vs.length) none
def cr(CX:iF)(P:E_)(w:S_)(K:W.Frag)(mg:Str->Option a_)(base:Heap)(N:List Str)(qual:Str)(scope:VX)(f:Addr)(cd:a_)(A:Uc)(outer:List Env)(s:f_)(H:Hp)(E:XK):Cx where
 prog:=P
 w:=w
 K:=K
 mg:=mg
 base:=base
 A:=A.deeper (VB qual scope s.heap.objs.size f cd)
 N:=N
 s₀:=s
 H₀:=H
 env:=VB qual scope s.heap.objs.size f cd
 outer:=outer
 stack:=VB qual scope s.heap.objs.size f cd::outer
 ex:=[]
 calm:=true
 fn:=fun _=>true
 pn:=[]
 xe:=fun e s'=>C_ (G_ P w) (A.deeper (VB qual scope s.heap.objs.size f cd)) (leaving (VB qual scope s.heap.objs.size f cd) e) (fun _ s''=>CX outer H s E e s'') (fun e' s''=>CX outer H s E e' s'') s'
theorem Ek{sc:VX}{n:Nat}{x:Str}(h:sc.names.lookup x=some .cell):∃c,(Zq n sc.names []).lookup x=some c:=by have q:=W.cellsFrom_some sc.names n [] (.inl h);exact Option.isSome_iff_exists.mp q
theorem OZ{CX:iF}{P:E_}{w:S_}{K:W.Frag}{mg:Str->Option a_}{base:Heap}{N ps:List Str}{qual:Str}{scope:VX}{f:Addr}{cd:a_}{A:Uc}{outer:List Env}{s s1:f_}{H:Hp}{E:XK}{us:List a_}{vs:List V}(S:FnScope N ps scope)(hd:A.handled=none)(e0:Env0 P w K mg base A outer s H)(hl:vs.length=ps.length)(r:al vs us)(x:InCallC s s.heap.objs.size (Y6 (VB qual scope s.heap.objs.size f cd).kindOf (ps.zip us) fun _=>none) (Zq (s.heap.objs.size+1) scope.names []) (Y7 (VB qual scope s.heap.objs.size f cd).kindOf (ps.zip us) fun _=>none) s1):Inv (cr CX P w K mg base N qual scope f cd A outer s H E) [] (aJ N vs) H s1:=by
 have hpl:ps.length<=N.length:=by have:=congrArg V_ S.pre;rw[Ux]at this;omega
 obtain⟨h1,tk,rfl,hk⟩:=x.done;have B:∀b:Addr,b∉(cr CX P w K mg base N qual scope f cd A outer s H E).ex:=fun b z=>absurd (show b∈([]:List Addr)from z) (by simp);refine⟨⟨e0.mod,S.kind,rfl,rfl,s_ _,fun y z c h1 h2=>?_,fun y hy=>?_,fun y c _ h=>?_,fun _=>hd,Around.frames_deeper e0.frames,.inr ⟨rfl,rfl⟩,fun b z=>absurd z (B b),e0.bs,e0.bsz,fun b _ _=>B b,fun b z=>absurd z (B b),e0.funs,e0.frf⟩,rfl,e0.bare,Un.kept hk,⟨_,x.toInCall.ns,fun i y v h1 h2 h3=>?_⟩,fun y c h=>⟨_,x.cell y c h⟩,e0.hok.fresh (s_ _),fun y c h=>?_,fun p hp=>absurd (show p∈([]:List (Addr×Obj))from hp) (by simp),e0.hok.kept hk,?_⟩
 .exact name_of_addr x.apart (PySem.mem_of_lookup h1) (PySem.mem_of_lookup h2)
 .have hy:scope.names.lookup y=some .cell\/scope.names.lookup y=some .free:=hy;rcases hy with hy|hy
  .exact Ek hy
  .exact absurd rfl (S.nofree _ (PySem.mem_of_lookup hy))
 .exact X8 (x.above y c (PySem.mem_of_lookup h))
 .have hi:i<vs.length:=by
   unfold aJ at h2;by_cases hi:i<vs.length
   .exact hi
   .rw[Uu (by simpa using hi)]at h2;rw[UJ]at h2;split at h2 <;> cases h2
  have ha:vs[i]? = some v:=by unfold aJ at h2;rw[R_ (by simpa using hi),D_]at h2;cases e:vs[i]? with
  |none=>rw[e]at h2;cases h2
  |some a=>rw[e]at h2;cases h2;rfl
  obtain⟨u,hu,rv⟩:=r.get ha;have hp:ps[i]? = some y:=by rw[<-S.pre,WZ (by omega)];exact h1
  have L:ps.Nodup:=by rw[<-S.pre];exact S.nd.sublist (List.take_sublist _ _)
  refine⟨u,rv,?_⟩;rcases S.par y (Vk hp)with k|k
  .exact .inl ⟨k,Fk L hp hu k⟩
  .obtain⟨c,e⟩:=Ek (n:=s.heap.objs.size+1) k;refine .inr ⟨.inl k,c,e,?_⟩;have q:=x.cell y c e;rw[Fi L hp hu (by show scope.names.lookup y≠_;rw[k];decide)]at q;exact q
 .exact e0.hok.fresh (X8 (x.above y c (PySem.mem_of_lookup h)))
 .unfold aJ;show _=N.length;rw[Uk,j_,Vc];omega
theorem BX{CX:iF}{P:E_}{w:S_}{K:W.Frag}{mg:Str->Option a_}{base:Heap}{k:Nat}{f:Addr}{name qual:Str}{params:Arguments}{body:List Stmt}{scope:VX}{dV kV doc pm cdv ct oc:a_}{an od:Option Addr}{osl:Array (Option a_)}{N ps:List Str}{sp:Sp}(lk:K.lookup f=some ⟨oc,od,.func (W.fnOf name qual params body scope dV kV doc pm an cdv ct),osl⟩)(U:W.codeIn K cdv qual=true)(S:FnScope N ps scope)(len:∀vs H Q E,sp vs H Q E->vs.length=ps.length)(B:∀(A:Uc)(outer:List Env)(s:f_)(H:Hp)(vs:List V)(Q:VK)(E:XK),Room k (A.deeper (VB qual scope s.heap.objs.size f cdv))->sp vs H Q E ->∃t,bW (cr CX P w K mg base N qual scope f cdv A outer s H E) body t/\t { nx:=fun _ H'=>Q .non H',rt:=Q } (aJ N vs) H):FnOk P w K mg base CX (k+1) f (W.fnOf name qual params body scope dV kV doc pm an cdv ct) ps sp:=by
 refine⟨len,fun A outer s H args us vs Q E hr e0 hb r M=>?_⟩;have hl:=len _ _ _ _ M;have KX:K.In s.heap:=e0.mod.kin.keeps fun b o e=>(e0.bs b o e).1;have Y:s.heap.NoLimit:=e0.mod.nolimit.keeps fun b o e=>(e0.bs b o e).1;have L:∀y∈ps.zip us,scope.names.lookup y.1=some .local\/(scope.names.lookup y.1=some .cell/\((Zq (s.heap.objs.size+1) scope.names []).lookup y.1).isSome=true):=fun⟨n,v⟩ hy=>by
  rcases S.par n (U3 hy).1 with q|q
  .exact .inl q
  .exact .inr ⟨q,W.cellsFrom_some _ _ _ (.inl q)⟩
 refine codeAny_call_function hr.depth (KX _ _ lk) rfl S.co S.gen rfl (W.codeRec_of KX U) (hb _ _ _ _ ?_);refine wpAny_newFunctionEnv_cells S.kind L fun env he s1 x=>?_;subst he;refine⟨Y.keeps x.toInCall.keep,codeAny_func ?_⟩;obtain⟨t,ht,hq⟩:=B A outer s H vs Q E (hr.deeper _) M;have I:Inv (cr CX P w K mg base N qual scope f cdv A outer s H E) [] (aJ N vs) H s1:=OZ S hr.hd e0 hl r x;refine Vn (ht [] s1 (aJ N vs) H _ I hq) (fun fl s' hs=>?_) fun e s' hs=>hs;have fin:∀{σ':St}{H':Hp}{v:V}{u:a_},Inv (cr CX P w K mg base N qual scope f cdv A outer s H E) [] σ' H' s'->ar v u->Q v H'->CE outer P w H s Q u s':=fun{σ' H' v u} J rv q=>⟨v,H',J.os,J.bare,J.base,J.hok,rv,q⟩
 cases fl with
|ret u=>obtain⟨v,σ',H',J,rv,q⟩:=hs;exact fin J rv q
|next=>obtain⟨σ',H',J,q⟩:=hs;exact fin (v:=V.non) (u:=Value.none) J rfl q
|brk=>obtain⟨_,_,_,q⟩:=hs;exact U1 q
|cont=>obtain⟨_,_,_,q⟩:=hs;exact U1 q
section
variable{x:Str}{id T:String}{r:List V->Hp->VK->Prop}
def sU(r:List V->Hp->VK->Prop)(t:TA):TE:=fun σ H Q=>t σ H fun vs H1=>r vs H1 Q
theorem nc(hc:dA X (.builtin id) r)(hg:Gl X x)(hm:X.mg x=none)(hv:VS x=some (.builtin id))(ha:PA X (e::es) t)(hn:x≠"__name__" := by decide)(B:(x==("__debug__" : Str))=false:=by decide)(he:i_ (e::es) X.env=(false,eval e X.env)::i_ es X.env:=by rfl)(hpl:(backTo pos (i_ es X.env)).any (·.1)=false:=by rfl):PE X (.Call (.Name x p) (e::es) [] pos) (sU r t):=by intro pz s σ H Q I h;refine VA (lu I hg hm hv ?_ hn B);exact Yq (aO (ha pos pz s σ H _ I h) fun us s1 ⟨vs,H1,I1,r1,q1⟩=>hc pz s1 σ H1 vs us Q I1 r1 q1) he hpl
theorem kJ(hc:dA X (.type T) r)(hg:Gl X x)(hm:X.mg x=none)(hv:VS x=some (.type T))(ha:PA X (e::es) t)(hn:x≠"__name__" := by decide)(B:(x==("__debug__" : Str))=false:=by decide)(he:i_ (e::es) X.env=(false,eval e X.env)::i_ es X.env:=by rfl)(hpl:(backTo pos (i_ es X.env)).any (·.1)=false:=by rfl):PE X (.Call (.Name x p) (e::es) [] pos) (sU r t):=by intro pz s σ H Q I h;refine VA (lu I hg hm hv ?_ hn B);exact UL (aO (ha pos pz s σ H _ I h) fun us s1 ⟨vs,H1,I1,r1,q1⟩=>hc pz s1 σ H1 vs us Q I1 r1 q1) he hpl
end
end L2
namespace HT
open PySem PyProof.Rows
def bP:List Int->List Int->Bool
|[],[]=>false
|[],_::_=>true
|_::_,[]=>false
|x::xs,y::ys=>if x=y then bP xs ys else decide (x<y)
theorem di(x y:Int)(xs ys:List Int):bP (x::xs) (y::ys)=if x=y then bP xs ys else decide (x<y):=rfl
theorem RD:bP [] []=false:=rfl
theorem RQ(y:Int)(ys:List Int):bP [] (y::ys)=true:=rfl
theorem RP(x:Int)(xs:List Int):bP (x::xs) []=false:=rfl
theorem Np(A:Uc)(s:f_)(a:Int)(t:Tok)(c:Int)(u:Tok):∃e,XT A s (.int a t) (.int c u) e/\(e=true↔a=c):=⟨(a==c),WE a t c u,by simp⟩
theorem OK(A:Uc)(s:f_)(a:Int)(t:Tok)(c:Int)(u:Tok)(prog:E_)(w:S_)(E:a_->f_->Prop)(Q:a_->f_->Prop)(h:Q (.bool (decide (a<c))) s):C_ (G_ prog w) A (richCompare .Lt (.int a t) (.int c u)) Q E s:=(PyProof.Rows.lt_int h:C_ (G_ prog w) A (Ug .Lt (.int a t) (.int c u)) Q E s)
section
open PySem.SeqAt
open PySem.AutoSeq1 (wpAny_loadPart')
open PySem.MeetsSeq PySem.MeetsSeq2 PySem.MeetsSeq3
theorem RC(l b:Addr)(items B:Array a_)(n n2:Nat)(dd ad:Option Addr)(sl ac:Array (Option a_))(ns ms:List Int)(hi:VO items.toList ns)(hj:VO B.toList ms) :
  Meets (WQ.«tuple.__lt__» ⟨[.ref l,.ref b],[]⟩)
   (fun _ R s=>s.heap.get? l=some { cls:=.type "tuple",dict:=dd,data:=.seq items n,slots:=sl }/\s.heap.get? b=some { cls:=.type "tuple",dict:=ad,data:=.seq B n2,slots:=ac } /\R (.ok (.ret (.bool (bP ns ms)))) s):=
 .of_wp fun prog w A R s h=>by
  obtain⟨hp,g,d,tk,os⟩:=s;obtain⟨hl,hb,h⟩:=h;have f2:=AutoSeq1.sub_tuple_tuple;have z1:items.size=ns.length:=by rw[<-hi.length];simp
  have z2:B.size=ms.length:=by rw[<-hj.length];simp
  wp_walk using VH hl,VH hb,wpAny_forIn_list _ (fun rest b s'=>b.1=none/\s'=⟨hp,g,d,tk,os⟩/\∃(vs ws:List a_)(L ms':List Int),rest=vs.zip ws /\VO vs L/\VO ws ms'/\L.length+B.size=ms'.length+items.size/\R (.ok (.ret (.bool (bP L ms')))) ⟨hp,g,d,tk,os⟩) _
  case turn=>
   rintro⟨y,x⟩ rest b s' ⟨hb',rfl,vs,ws,L,ms',hz,Y,M,hlen,hR⟩
   cases Y with
  |nil=>rw[List.zip_nil_left]at hz;cases hz
  |cons a t hvi'=>cases M with
   |nil=>rw[List.zip_nil_right]at hz;cases hz
   |cons c u hwi'=>
     rw[XU]at hz;injection hz with hyx hrest
     injection hyx with hy hx
     subst hy hx;rw[di]at hR;simp only[x_]at hlen;obtain⟨e,he,U⟩:=Np A.in1 ⟨hp,g,d,tk,os⟩ a t c u;refine b_ (he prog w _ _ ?_);cases e with
    |true=>
      rw[if_pos (U.mp rfl)]at hR
      wp_walk
      exact⟨rfl,rfl,_,_,_,_,hrest,hvi',hwi',by omega,hR⟩
    |false=>
      rw[if_neg (fun q=>absurd (U.mpr q) g_)]at hR;have Z:=OK A.in1 ⟨hp,g,d,tk,os⟩ a t c u prog w
      wp_walk using Z
      exact⟨_,rfl,by simpa using hR⟩
  case fin=>
   rintro⟨b1,b2⟩ s' ⟨hb',rfl,vs,ws,L,ms',hz,Y,M,hlen,hR⟩
   simp only at hb';subst hb';have hv:bP L ms'=decide (items.size<B.size):=by cases Y with
   |nil=>cases M with
    |nil=>simp only[VI]at hlen;rw[RD];exact(decide_eq_false (by omega)).symm
    |cons c u hw=>simp only[VI,x_]at hlen;rw[RQ];exact(decide_eq_true (by omega)).symm
   |cons a t hv=>cases M with
    |nil=>simp only[VI,x_]at hlen;rw[RP];exact(decide_eq_false (by omega)).symm
    |cons c u hw=>rw[XU]at hz;cases hz
   rw[hv]at hR
   wp_walk
   exact⟨_,rfl,by simpa[Yn]using hR⟩
  case h=>exact⟨rfl,rfl,items.toList,B.toList,ns,ms,rfl,hi,hj,by omega,h⟩
end
section
variable{prog:E_}{w:S_}{A:Uc}{E:a_->f_->Prop}{s:f_}
theorem gj{l b:Addr}{items B:Array a_}{ns ms:List Int}{Q:a_->f_->Prop}(hl:X7 s.heap l items)(hb:X7 s.heap b B)(hi:VO items.toList ns)(hj:VO B.toList ms)(hu:A.units<Vj)(h:Q (.bool (bP ns ms)) s):C_ (G_ prog w) A (Ug .Lt (.ref l) (.ref b)) Q E s:=by
 obtain⟨⟨cls,dd,data,sl⟩,ho,hc,n,hd⟩:=id hl;obtain⟨⟨Z,U,Y,M⟩,ho2,L,n2,hd2⟩:=id hb;simp only at hc hd L hd2;subst hc hd L hd2;exact richCompare_meets_room (op:=.Lt) ⟨_,ho,rfl⟩ ⟨_,ho2,rfl⟩ PySem.F.slot_tuple_lt PySem.F.entry_tuple_lt (PySem.F.args_tuple_lt_2 _ _) (RC l b items B n n2 dd U sl M ns ms hi hj)
  ⟨ho,ho2,show Value.bool (bP ns ms)≠Value.notImplemented/\Q (.bool (bP ns ms)) s from⟨(fun x=>nomatch x),h⟩⟩ hu
theorem j0{t b:Addr}{vs ws:List a_}{Q:a_->f_->Prop}(ht:X7 s.heap t vs.toArray)(hb:X7 s.heap b ws.toArray)(hv:vs≠[])(h1:ws=[]->Q (.ref t) s)(h2:ws≠[]->Q (.ref s.heap.objs.size) { s with heap:=s.heap.push { cls:=.type "tuple",data:=.seq (vs++ws).toArray } })(hsz:vs.length+ws.length<=sizeLine):C_ (G_ prog w) A (Vu .Add (.ref t) (.ref b)) Q E s:=by
 obtain⟨⟨cls,dd,data,sl⟩,ho,hc,n,hd⟩:=id ht;obtain⟨⟨Y,L,U,B⟩,ho2,M,n2,hd2⟩:=id hb;simp only at hc hd M hd2;subst hc hd M hd2;have e:vs.toArray++ws.toArray=(vs++ws).toArray:=by simp
 by_cases hw:ws=[]
 .exact Yc ⟨_,ho,rfl⟩ ⟨_,ho2,rfl⟩ Yr seq_tuple_add PySem.F.slot_tuple_add PySem.F.entry_tuple_add (PySem.F.args_tuple_add_2 _ _)
   (tuple_addW1 t b vs.toArray ws.toArray n n2 dd L sl B (by simpa using hv) (by simp[hw])) ⟨ho,ho2,h1 hw⟩
 .refine Yc ⟨_,ho,rfl⟩ ⟨_,ho2,rfl⟩ Yr seq_tuple_add PySem.F.slot_tuple_add PySem.F.entry_tuple_add (PySem.F.args_tuple_add_2 _ _)
   (tuple_addW2 t b vs.toArray ws.toArray n n2 dd L sl B (by simpa using hv) (by simpa using hw) (by rw[l_,l_];exact hsz)) ⟨ho,ho2,?_⟩
  rw[e];exact h2 hw
def sIx(n d:Nat):Option Int->Nat
|none=>d
|some v=>if v<0 then(v+(n:Int)).toNat else min v.toNat n
theorem fu(n d:Nat):sIx n d none=d:=rfl
theorem gE(n d k:Nat):sIx n d (some (k:Int))=min k n:=by show(if (k:Int)<0 then((k:Int)+(n:Int)).toNat else min (k:Int).toNat n)=min k n;rw[if_neg (by omega),UY]
theorem Km(n d:Nat)(hd:d<=n)(o:Option Int):sIx n d o<=n:=by cases o with
|none=>exact hd
|some v=>
  show(if v<0 then(v+(n:Int)).toNat else min v.toNat n)<=n;by_cases hv:v<0
  .rw[if_pos hv];omega
  .rw[if_neg hv];exact Nat.min_le_right _ _
theorem Ds(v:Int)(n d:Nat):(if v<0 then max (v+(n:Int)) 0 else min v (n:Int))=((sIx n d (some v):Nat):Int):=by
 show(if v<0 then max (v+(n:Int)) 0 else min v (n:Int))=(((if v<0 then(v+(n:Int)).toNat else min v.toNat n):Nat):Int)
 by_cases hv:v<0
 .simp only[if_pos hv];omega
 .simp only[if_neg hv];omega
theorem Qg(lo hi:Option Int)(n:Nat):VY lo hi 1 (n:Int)=(((sIx n 0 lo:Nat):Int),((sIx n n hi:Nat):Int)):=by
 have h1:¬ ((1:Int)<0):=by omega
 unfold VY;simp only[h1,if_false];refine Prod.ext ?_ ?_
 .cases lo with
 |none=>rfl
 |some v=>exact Ds v n 0
 .cases hi with
 |none=>rfl
 |some v=>exact Ds v n n
theorem P6(i j:Nat):Ve (i:Int) (j:Int) 1=j-i:=by
 unfold Ve;have h1:(1:Int)>0:=by omega
 simp only[h1,if_true,Int.ediv_one];split <;> omega
theorem Gx{v:a_}{o:Option Int}{Q:Option Int->f_->Prop}(p:Xc v o)(h:Q o s):C_ (G_ prog w) A (YK v) Q E s:=by cases p with
|none=>exact slicePart_none h
|int i t=>exact slicePart_int h
theorem bO{sl:Addr}{vl vu:a_}{lo hi:Option Int}{n:Nat}{Q:Int×Int×Nat->f_->Prop}(hs:s.heap.IsSliceOf sl vl vu .none)(pl:Xc vl lo)(pu:Xc vu hi)(h:Q (((sIx n 0 lo:Nat):Int),1,sIx n n hi-sIx n 0 lo) s):C_ (G_ prog w) A (WF (.ref sl) (pure (n:Int))) Q E s:=by obtain⟨os,L,M,B⟩:=id hs;unfold WF Zi;refine b_ (b_ (UA L B (x:=vl) rfl (b_ (UA L B (x:=vu) rfl (b_ (UA L B (x:=.none) rfl (u_ ?_)))))));refine b_ (slicePart_none ?_);show C_ _ _ (if ((1:Int)==0)=true then _ else _) _ _ s;rw[if_neg (by decide)];refine b_ (Gx pl (b_ (Gx pu (b_ (u_ ?_)))));show C_ _ _ (match VY lo hi 1 (n:Int)with|(lo,hi)=>pure (lo,(1:Int),Ve lo hi 1)) _ _ s;rw[Qg lo hi n];show C_ _ _ (pure (((sIx n 0 lo:Nat):Int),(1:Int),Ve ((sIx n 0 lo:Nat):Int) ((sIx n n hi:Nat):Int) 1)) _ _ s;rw[P6];exact u_ h
theorem OG(xs:Array a_)(i k:Nat):((t_ k).filterMap fun(m:Nat)=>xs[((i:Int)+(m:Int)*1).toNat]?).toArray=((xs.toList.drop i).take k).toArray:=by
 have e:(fun(m:Nat)=>xs[((i:Int)+(m:Int)*1).toNat]?)=fun m=>xs[i+m]?:=by
  funext m;have:((i:Int)+(m:Int)*1).toNat=i+m:=by omega
  rw[this]
 rw[e];have:=pick_run xs i k;rw[List.filterMap_map]at this;have e2:((fun x=>xs[x]?)∘fun x=>i+x)=fun m=>xs[i+m]?:=rfl;rw[e2]at this;rw[this]
theorem cN{t sl:Addr}{items:Array a_}{vl vu:a_}{lo hi:Option Int}{Q:a_->f_->Prop}(ht:X7 s.heap t items)(hs:s.heap.IsSliceOf sl vl vu .none)(pl:Xc vl lo)(pu:Xc vu hi)(hw:¬ (sIx items.size 0 lo=0/\sIx items.size items.size hi=items.size))(h:Q (.ref s.heap.objs.size) { s with heap:=s.heap.push { cls:=.type "tuple",data:=.seq ((items.toList.drop (sIx items.size 0 lo)).take (sIx items.size items.size hi-sIx items.size 0 lo)).toArray } })(hsz:items.size<=sizeLine):C_ (G_ prog w) A (Xd (.ref t) (.ref sl)) Q E s:=by
 have B:sizeOk (.seq ((items.toList.drop (sIx items.size 0 lo)).take (sIx items.size items.size hi-sIx items.size 0 lo)).toArray):=by show((items.toList.drop (sIx items.size 0 lo)).take (sIx items.size items.size hi-sIx items.size 0 lo)).toArray.size<=sizeLine;rw[l_,Ux,VU,Vs];omega
 have hj:sIx items.size items.size hi<=items.size:=Km _ _ (s_ _) hi;obtain⟨os,Y,M,Z⟩:=id hs;have U:s.TypeIs (.ref sl) "slice" := ⟨os,Y,M⟩
 unfold Xd
 try with_reducible refine Vo ?_
 first|refine b_ (u_ ?_)|skip
 refine b_ (Yd ht.typeIs (by decide) ?_);refine b_ (UK (name:=UH "__getitem__") ht.typeIs Ul
  (U7 Ul ht.typeIs entry_tuple_getitem ?_ (args_tuple_getitem _ _)))
 show C_ _ _ (WG (.ref t) >>= _) _ _ s;refine b_ (tupleItemsOf_ ht ?_);refine b_ (Ye U ?_);rw[if_pos (by decide)];refine b_ (bO hs pl pu ?_);have L:¬ ((((sIx items.size 0 lo:Nat):Int)==0&&(1:Int)==1&&(sIx items.size items.size hi-sIx items.size 0 lo)==items.size)=true):=by intro q;rw[P_,P_]at q;have q1:((sIx items.size 0 lo:Nat):Int)=0:=UT q.1.1;have q2:sIx items.size items.size hi-sIx items.size 0 lo=items.size:=UT q.2;exact hw ⟨by omega,by omega⟩
 show C_ _ _ (if (((sIx items.size 0 lo:Nat):Int)==0&&(1:Int)==1&&(sIx items.size items.size hi-sIx items.size 0 lo)==items.size)=true then _ else _) _ _ s;rw[if_neg L,OG]
 first
  |exact b_ (m:=Vp _) (UZ (u_ ⟨_,rfl,u_ h⟩) B)
  |exact b_ (m:=Vp _) (UZ (b_ (u_ (u_ ⟨_,rfl,u_ h⟩))) B)
  |exact b_ (b_ (m:=Vp _) (UZ (u_ (u_ ⟨_,rfl,u_ h⟩)) B))
  |exact b_ (b_ (m:=Vp _) (UZ (u_ ⟨_,rfl,u_ h⟩) B))
end
end HT
namespace L2
open PySem PySem.Spec PyProof.Rows
abbrev TO:=St->Hp->(Option Int->Hp->Prop)->Prop
def PO(X:Cx)(e:Option Expr)(t:TO):Prop:=∀(pz:List (Addr×Obj))(s:f_)(σ:St)(H:Hp)(Q:Option Int->Hp->Prop),Inv X pz σ H s->t σ H Q ->C_ (G_ X.prog X.w) X.A (evalPart e X.env) (fun u s'=>∃o H',Inv X pz σ H' s'/\Xc u o/\Q o H') X.xe s
def M0:TO:=fun _ H Q=>Q none H
def IM(t:TE):TO:=fun σ H Q=>t σ H fun x H1=>∃i,x=.int i/\Q (some i) H1
theorem yQ{ns:List Int}:∀{us:List a_},al (ns.map V.int) us->VO us ns:=by induction ns with
|nil=>intro us r;rw[UV]at r;cases r;exact .nil
|cons n ns ih=>intro us r;rw[L_]at r;cases r with
 |cons r1 r2=>obtain⟨t,e⟩:=r1;subst e;exact .cons n t (ih r2)
variable{X:Cx}{e:Expr}{pos:Pos}
section
variable{te:TE}{lo hi:Option Expr}{tl th:TO}{p2:Pos}
theorem Mc:PO X none M0:=by intro pz s σ H Q I h;rw[evalPart_none];exact u_ ⟨none,H,I,.none,h⟩
theorem Me(h:PE X e te):PO X (some e) (IM te):=by intro pz s σ H Q I hw;rw[evalPart_some];refine aO (h pz s σ H _ I hw) fun u s1 ⟨x,H1,I1,r1,q1⟩=>?_;obtain⟨i,rfl,q⟩:=q1;obtain⟨t,rfl⟩:=r1;exact⟨some i,H1,I1,.int i t,q⟩
def i8(X:Cx)(r:V->Option Int->Option Int->Hp->VK->Prop):Prop:=∀(pz:List (Addr×Obj))(s:f_)(σ:St)(H:Hp)(x:V)(v vl vu:a_)(lo hi:Option Int)(sl:Addr)(Q:VK),Inv X pz σ H s->ar x v->s.heap.IsSliceOf sl vl vu .none->Xc vl lo->Xc vu hi->r x lo hi H Q ->∃T id,typeLookup (.type T) "__getitem__" = pure (some (.builtin id))/\s.TypeIs v T/\C_ (G_ X.prog X.w) X.A (Xd v (.ref sl)) (EP X pz σ Q) X.xe s
theorem i8.or{r r':V->Option Int->Option Int->Hp->VK->Prop}(h:i8 X r)(h':i8 X r'):i8 X (fun x lo hi H Q=>r x lo hi H Q\/r' x lo hi H Q):=by
 intro pz s σ H x v vl vu lo hi sl Q I rx hs pl pu q;rcases q with q|q
 .exact h pz s σ H x v vl vu lo hi sl Q I rx hs pl pu q
 .exact h' pz s σ H x v vl vu lo hi sl Q I rx hs pl pu q
def Sm(r:V->Option Int->Option Int->Hp->VK->Prop)(te:TE)(tl th:TO):TE:=fun σ H Q=>te σ H fun x H1=>tl σ H1 fun l H2=>th σ H2 fun u H3=>r x l u H3 Q
theorem EE{r:V->Option Int->Option Int->Hp->VK->Prop}(hr:i8 X r)(he:PE X e te)(hl:PO X lo tl)(hu:PO X hi th):PE X (.Subscript e (.Slice lo hi none p2) pos) (Sm r te tl th):=by intro pz s σ H Q I h;refine Subscript_ (aO (he pz s σ H _ I h) fun v s1 ⟨x,H1,I1,r1,q1⟩=>?_);refine wpAny_Slice (aO (hl pz s1 σ H1 _ I1 q1) fun vl s2 ⟨l,H2,I2,pl,q2⟩=>aO (hu pz s2 σ H2 _ I2 q2) fun vu s3 ⟨u,H3,I3,pu,q3⟩=>?_);rw[evalPart_none];refine u_ ?_;have I4:Inv X pz σ H3 { s3 with heap:=s3.heap.push { cls:=.type "slice",data:=.fields #[vl,vu,.none] } }:=I3.kept (t':=s3.toks) fun b ob q=>c_ _ q;obtain⟨T,id,hT,ht,hg⟩:=hr pz { s3 with heap:=s3.heap.push { cls:=.type "slice",data:=.fields #[vl,vu,.none] } } σ H3 x v vl vu l u s3.heap.objs.size Q I4 r1 (Heap.IsSliceOf.new ..) pl pu q3;show C_ (G_ X.prog X.w) X.A (subscriptTail e (.Slice lo hi none p2) v (.ref s3.heap.objs.size)) (EP X pz σ Q) X.xe { s3 with heap:=s3.heap.push { cls:=.type "slice",data:=.fields #[vl,vu,.none] } };exact Y8 (ops:=[.ref s3.heap.objs.size,v]) ht hT hg (by with_unfolding_all rfl)
def g9(xs:List V)(lo hi:Option Int):List V:=(xs.drop (HT.sIx xs.length 0 lo)).take (HT.sIx xs.length xs.length hi-HT.sIx xs.length 0 lo)
theorem GM(xs:List V)(lo hi:Option Int):(g9 xs lo hi).length<=xs.length:=by unfold g9;rw[Ux,VU];omega
def Bd(K:W.Frag):V->Option Int->Option Int->Hp->VK->Prop:=fun x lo hi H Q=>∃a xs,x=.ref a/\bU K H a xs /\¬ (HT.sIx xs.length 0 lo=0/\HT.sIx xs.length xs.length hi=xs.length)/\∀p,H p=none->Q (.ref p) (aB H p (.tup (g9 xs lo hi)))
theorem LL:i8 X (Bd X.K):=by
 intro pz s σ H x v vl vu lo hi sl Q I rx hs pl pu h;obtain⟨a,xs,rfl,hx,hw,q⟩:=h;cases rx;obtain⟨its,r,ht,hz⟩:=I.tuple hx;have hlen:its.toArray.size=xs.length:=by rw[l_];exact r.length.symm
 refine⟨"tuple",_,Ul.lookup,ht.typeIs,?_⟩;refine HT.cN ht hs pl pu (by rw[hlen];exact hw) ?_ (by rw[hlen];exact hz);rw[hlen];refine⟨.ref s.heap.objs.size,_,I.laid (t':=s.toks) (o:=.tup (g9 xs lo hi)) (fun b ob q=>c_ _ q) (s_ _) ?_,rfl,q _ (I.hok.fresh (s_ _))⟩;exact⟨Ue (GM xs lo hi) hz,_,(r.drop (HT.sIx xs.length 0 lo)).take (HT.sIx xs.length xs.length hi-HT.sIx xs.length 0 lo),Zr _ _,_,r_ _ rfl,rfl⟩
def B6(K:W.Frag):R2:=fun x y H Q=>∃a b xs ys,x=.ref a/\y=.ref b/\bU K H a xs/\bU K H b ys/\xs≠[]/\xs.length+ys.length<=sizeLine /\(ys=[]->Q (.ref a) H)/\(ys≠[]->∀p,H p=none->Q (.ref p) (aB H p (.tup (xs++ys))))
theorem al.nil_iff{xs:List V}{us:List a_}(r:al xs us):us=[]↔xs=[]:=by cases r with
|nil=>simp
|cons _ _=>simp
theorem LW:bo X (Vu .Add) (B6 X.K):=by intro pz s σ H x y v u Q I rx ry h;obtain⟨a,b,xs,ys,rfl,rfl,ha,hb,hx,hz,q1,q2⟩:=h;cases rx;cases ry;obtain⟨its,r1,p1,_⟩:=I.tuple ha;obtain⟨B,r2,p2,_⟩:=I.tuple hb;refine HT.j0 p1 p2 (fun z=>hx (r1.nil_iff.mp z)) (fun z=>⟨.ref a,H,I,rfl,q1 (r2.nil_iff.mp z)⟩) (fun z=>?_) (by rw[<-r1.length,<-r2.length];exact hz);refine⟨.ref s.heap.objs.size,_,I.laid (t':=s.toks) (o:=.tup (xs++ys)) (fun b ob q=>c_ _ q) (s_ _) ?_,rfl,q2 (fun w=>z (r2.nil_iff.mpr w)) _ (I.hok.fresh (s_ _))⟩;exact⟨by rw[Uk];exact hz,_,r1.append r2,Zr _ _,_,r_ _ rfl,rfl⟩
end
def gl(n:Nat)(i:Int):Option Nat:=if 0<=i then(if i<n then some i.toNat else none)else if-(n:Int)<=i then some (i+n).toNat else none
def fV{α:Type}(xs:List α)(i:Int):Option α:=(gl xs.length i).bind fun j=>xs[j]?
theorem Dm{n:Nat}{i:Int}{j:Nat}(h:gl n i=some j):seqIndex? i n=some j/\j<n/\-(n:Int)<=i/\i<n:=by
 unfold gl at h;by_cases h0:0<=i
 .rw[if_pos h0]at h;by_cases h1:i<n
  .rw[if_pos h1]at h;have e:i.toNat=j:=H_ h;exact⟨by rw[YG h0 h1,e],by omega,by omega,h1⟩
  .rw[if_neg h1]at h;cases h
 .rw[if_neg h0]at h;by_cases h1 : -(n:Int)<=i
  .rw[if_pos h1]at h;have e:(i+n).toNat=j:=H_ h;exact⟨by rw[seqIndex_neg (by omega) h1,e],by omega,h1,by omega⟩
  .rw[if_neg h1]at h;cases h
theorem vN{α:Type}{xs:List α}{i:Int}{v:α}(h:fV xs i=some v):∃j,seqIndex? i xs.length=some j/\xs[j]? = some v/\j<xs.length/\-(xs.length:Int)<=i/\i<xs.length:=by unfold fV at h;cases e:gl xs.length i with
|none=>rw[e]at h;cases h
|some j=>rw[e]at h;obtain⟨h1,h2,h3,h4⟩:=Dm e;exact⟨j,h1,h,h2,h3,h4⟩
def qI(b:Expr):Prop:=∀o i,subscripted b false o i=operate [o,i] (Xd o i)
def iE(X:Cx)(r:R2):Prop:=∀(value slice:Expr)(pz:List (Addr×Obj))(s:f_)(σ:St)(H:Hp)(x y:V)(v u:a_)(Q:VK),Inv X pz σ H s->ar x v->ar y u->r x y H Q ->subscripted slice false v u=operate [v,u] (Xd v u)->C_ (G_ X.prog X.w) X.A (subscriptTail value slice v u) (EP X pz σ Q) X.xe s
def hU(X:Cx)(id:String)(r:V->List V->Hp->VK->Prop):Prop:=∀(pz:List (Addr×Obj))(s:f_)(σ:St)(H:Hp)(x:V)(xs:List V)(v:a_)(us:List a_)(Q:VK),Inv X pz σ H s->ar x v->al xs us->r x xs H Q ->C_ (G_ X.prog X.w) X.A (call (.builtin id) (v::us)) (EP X pz σ Q) X.xe s
section
variable{a b:Expr}{ta tb:TE}
theorem iE.or{r r':R2}(h:iE X r)(h':iE X r'):iE X (fun x y H Q=>r x y H Q\/r' x y H Q):=by
 intro value slice pz s σ H x y v u Q I rx ry q hs;rcases q with q|q
 .exact h value slice pz s σ H x y v u Q I rx ry q hs
 .exact h' value slice pz s σ H x y v u Q I rx ry q hs
theorem Cj{r:R2}(hr:iE X r)(ha:PE X a ta)(hb:PE X b tb)(hs:qI b):PE X (.Subscript a b pos) (pB r ta tb):=by intro pz s σ H Q I h;exact Subscript_ (ma ha hb I h fun v u s2 x y H2 I2 rx ry q=>hr a b pz s2 σ H2 x y v u Q I2 rx ry q (hs _ _))
def pL(K:W.Frag):R2:=fun x y H Q=>∃p xs i v,x=.ref p/\y=.int i/\bh K H p xs/\fV xs i=some v/\Q v H
def pJ(K:W.Frag):R2:=fun x y H Q=>∃p xs i v,x=.ref p/\y=.int i/\bU K H p xs/\fV xs i=some v/\Q v H
def pK:R2:=fun x y H Q=>∃z i c,x=.str z/\y=.int i/\z.length<=sizeLine/\fV z.cps.toList i=some c/\Q (.str ⟨#[c]⟩) H
theorem MF:iE X (pL X.K):=by
 intro value slice pz s σ H x y v u Q I rx ry h hs;obtain⟨p,xs,i,z,rfl,rfl,hq,he,q⟩:=h;cases rx;obtain⟨t,rfl⟩:=ry;obtain⟨its,r,pl,hz⟩:=I.list hq;obtain⟨j,h1,h2,h3,h4,h5⟩:=vN he;obtain⟨w,ew,B⟩:=r.get h2;have hl:=r.length;have hn:=mR;have fin:EP X pz σ Q w s:=⟨z,H,I,B,q⟩
 by_cases h0:0<=i
 .have hj:i.toNat=j:=by rw[YG h0 h5]at h1;exact H_ h1
  exact item_listR pl.isList h0 (by omega) (by rw[hj];simpa using ew) fin hs
 .have hj:(i+(its.toArray.size:Int)).toNat=j:=by rw[seqIndex_neg (by omega) h4]at h1;rw[l_,<-hl];exact H_ h1
  exact Xe (x:=w) pl.isList.typeIs Yf.lookup
   (wpAny_getItem_list_neg (Q:=fun r s'=>r=w/\EP X pz σ Q r s') pl.isList (by omega) (by rw[l_] <;> omega) (by omega) (by rw[hj];simpa using ew) ⟨rfl,fin⟩) hs
theorem JD:iE X (pJ X.K):=by
 intro value slice pz s σ H x y v u Q I rx ry h hs;obtain⟨p,xs,i,z,rfl,rfl,hq,he,q⟩:=h;cases rx;obtain⟨t,rfl⟩:=ry;obtain⟨its,r,pl,hz⟩:=I.tuple hq;obtain⟨j,h1,h2,h3,h4,h5⟩:=vN he;obtain⟨w,ew,B⟩:=r.get h2;have hl:=r.length;have hn:=mR;have fin:EP X pz σ Q w s:=⟨z,H,I,B,q⟩
 exact Xe (x:=w) pl.typeIs Ul.lookup
  (getItem_tuple (j:=j) (Q:=fun r s'=>r=w/\EP X pz σ Q r s') pl (by omega) (by omega) (by rw[l_,<-hl];exact h1) (by simpa using ew) ⟨rfl,fin⟩) hs
theorem JC:iE X pK:=by
 intro value slice pz s σ H x y v u Q I rx ry h hs;obtain⟨z,i,c,rfl,rfl,hz,he,q⟩:=h;obtain⟨t,rfl⟩:=rx;obtain⟨t',rfl⟩:=ry;obtain⟨j,h1,h2,h3,h4,h5⟩:=vN he;have hl:z.cps.toList.length=z.length:=by simp[XV]
 rw[hl]at h1 h4 h5;have hn:=mR;exact Y8 (XY s z t) slot_str_getitem.lookup (getItem_str (c:=c) (by have e1:decide (i < -(2^63:Int))=false:=decide_eq_false (by omega);have e2:decide (i>=2^63)=false:=decide_eq_false (by omega);rw[e1,e2,Bool.or_false]) (by rw[h1];simpa using h2) ⟨.str ⟨#[c]⟩,H,I.tok _,⟨_,rfl⟩,q⟩) hs
def Bh(K:W.Frag):R2:=fun x y H Q=>pL K x y H Q\/pJ K x y H Q\/pK x y H Q
theorem JB:iE X (Bh X.K):=MF.or (JD.or JC)
theorem PZ(its:List a_)(n j:Nat)(u:a_):VC (·.setIfInBounds j u) { cls:=.type "list",data:=.seq its.toArray n }={ cls:=.type "list",data:=.seq (its.set j u).toArray n }:=by simp[VC]
theorem Inv.lst{pz:List (Addr×Obj)}{σ:St}{H:Hp}{s:f_}{p:Addr}{xs:List V}(I:Inv X pz σ H s)(h:H p=some (.lst xs)):∃(its:List a_)(n:Nat),al xs its/\s.heap.get? p=some { cls:=.type "list",data:=.seq its.toArray n }/\xs.length<=sizeLine:=by obtain⟨z,its,n,r,e⟩:=I.hok p _ h;exact⟨its,n,r,e,z⟩
theorem Inv.lstUpd{pz:List (Addr×Obj)}{σ:St}{H:Hp}{s:f_}{p:Addr}{xs ys:List V}{its its':List a_}{n n':Nat}{f:Obj->Obj}(I:Inv X pz σ H s)(h:H p=some (.lst xs))(ho:s.heap.get? p=some { cls:=.type "list",data:=.seq its.toArray n })(hf:f { cls:=.type "list",data:=.seq its.toArray n }={ cls:=.type "list",data:=.seq its'.toArray n' })(r:al ys its')(hz:ys.length<=sizeLine)(t:Nat):Inv X pz σ (aB H p (.lst ys)) { s with heap:=s.heap.update p f,toks:=t }:=by
 have e:(s.heap.update p f).get? p=some { cls:=.type "list",data:=.seq its'.toArray n' }:=by rw[Xs f ho (by rw[hf] <;> rfl),hf]
 refine I.write (x:=p) (e:=p) (by rw[h];trivial) (.inl rfl) (fun b u hb q=>(Xf _ _ (UX hb)).trans q) ⟨_,e⟩ ?_;exact⟨hz,its',n',r,e⟩
def Cc:V->V->V->Hp->(Hp->Prop)->Prop:=fun o i v H Q=>∃p xs k j,o=.ref p/\i=.int k/\H p=some (.lst xs)/\gl xs.length k=some j/\Q (aB H p (.lst (xs.set j v)))
theorem Ob:fI X Cc:=by
 intro pz s σ H o i v ov iv u Q I ro ri rv h;obtain⟨p,xs,k,j,rfl,rfl,hp,hj,q⟩:=h;cases ro;obtain⟨t,rfl⟩:=ri;obtain⟨its,n,r,ho,hz⟩:=I.lst hp;obtain⟨h1,h2,h3,h4⟩:=Dm hj;have hl:=r.length;have hn:=mR;have I':Inv X pz σ (aB H p (.lst (xs.set j v))) { s with heap:=s.heap.update p (VC (·.setIfInBounds j u)) }:=I.lstUpd hp ho (PZ its n j u) (r.set rv j) (by rw[VJ];exact hz) s.toks;by_cases h0:0<=k
 .have hk:k.toNat=j:=by rw[YG h0 h4]at h1;exact H_ h1
  exact W.ki_setAt ho h0 (by omega) (by rw[l_,<-hl];exact h4) (by rw[hk];exact⟨_,I',q⟩)
 .have hk:(k+(its.toArray.size:Int)).toNat=j:=by rw[seqIndex_neg (by omega) h3]at h1;rw[l_,<-hl];exact H_ h1
  exact W.ki_setBack ho (by omega) (by rw[l_,<-hl];exact h3) (by omega) (by rw[hk];exact⟨_,I',q⟩)
theorem Rh(lo hi:Option Int)(n:Nat):(Wa lo hi none n).1=((HT.sIx n 0 lo:Nat):Int)/\(Wa lo hi none n).2.1=((HT.sIx n n hi:Nat):Int)/\(Wa lo hi none n).2.2=1:=by
 refine⟨?_,?_,rfl⟩
 .cases lo with
 |none=>simp[Wa,HT.sIx]
 |some i=>
   simp only[Wa,HT.sIx,W7,show(1:Int)>0 by decide,if_true];by_cases h:i<0
   .simp only[h,if_true] <;> omega
   .simp only[h,if_false] <;> omega
 .cases hi with
 |none=>simp[Wa,HT.sIx]
 |some i=>
   simp only[Wa,HT.sIx,W7,show(1:Int)>0 by decide,if_true];by_cases h:i<0
   .simp only[h,if_true] <;> omega
   .simp only[h,if_false] <;> omega
theorem RA(its:List a_)(lo hi:Option Int):slicePick its.toArray lo hi none=((its.drop (HT.sIx its.length 0 lo)).take (HT.sIx its.length its.length hi-HT.sIx its.length 0 lo)).toArray:=by obtain⟨h1,h2,h3⟩:=Rh lo hi its.toArray.size;unfold slicePick;rw[h1,h2,h3];simp only[sliceRange_one,pick_run,l_] <;> rfl
def Be(K:W.Frag):V->Option Int->Option Int->Hp->VK->Prop:=fun x lo hi H Q=>∃a xs,x=.ref a/\bh K H a xs/\∀p,H p=none->Q (.ref p) (aB H p (.lst (g9 xs lo hi)))
theorem MW:i8 X (Be X.K):=by intro pz s σ H x v vl vu lo hi sl Q I rx hs pl pu h;obtain⟨a,xs,rfl,hx,q⟩:=h;cases rx;obtain⟨its,r,ht,hz⟩:=I.list hx;have hlen:=r.length;refine⟨"list",_,Yf.lookup,ht.isList.typeIs,?_⟩;refine wpAny_getItem_list_slice ht.isList hs pl pu .none (by simp) ?_ (by rw[l_] <;> omega);rw[RA,<-hlen];refine⟨.ref s.heap.objs.size,_,I.laid (t':=s.toks) (o:=.lst (g9 xs lo hi)) (fun b ob q=>c_ _ q) (s_ _) ?_,rfl,q _ (I.hok.fresh (s_ _))⟩;exact⟨Ue (GM xs lo hi) hz,_,0,(r.drop (HT.sIx xs.length 0 lo)).take (HT.sIx xs.length xs.length hi-HT.sIx xs.length 0 lo),r_ _ rfl⟩
def fO:V->Bool
|.non=>true
|.bl _=>true
|.int _=>true
|.str _=>true
|_=>false
def gZ:V->V->Bool
|.non,.non=>true
|.bl a,.bl b=>a==b
|.bl a,.int b=>(if a then 1 else 0)==b
|.int a,.bl b=>a==(if b then 1 else 0)
|.int a,.int b=>a==b
|.str a,.str b=>a==b
|_,_=>false
theorem JU{A:Uc}{s:f_}{y x:V}{u v:a_}(ry:ar y u)(rx:ar x v)(fy:fO y=true)(fx:fO x=true):XT A s u v (gZ y x):=by cases y with
|non=>cases ry;cases x with
 |non=>cases rx;exact YL _
 |bl b=>cases rx;exact SeqAt.EqAt.none_bool b
 |int b=>obtain⟨t,rfl⟩:=rx;exact SeqAt.EqAt.none_int b t
 |str b=>obtain⟨t,rfl⟩:=rx;exact SeqAt.EqAt.none_str b t
 |_=>exact absurd (show false=true from fx) g_
|bl a=>cases ry;cases x with
 |non=>cases rx;exact SeqAt.EqAt.bool_none a
 |bl b=>cases rx;exact SeqAt.EqAt.bool_bool a b
 |int b=>obtain⟨t,rfl⟩:=rx;exact SeqAt.EqAt.bool_int a b t
 |str b=>obtain⟨t,rfl⟩:=rx;exact SeqAt.EqAt.bool_str a b t
 |_=>exact absurd (show false=true from fx) g_
|int a=>obtain⟨t',rfl⟩:=ry;cases x with
 |non=>cases rx;exact SeqAt.EqAt.int_none a t'
 |bl b=>cases rx;exact SeqAt.EqAt.int_bool a t' b
 |int b=>obtain⟨t,rfl⟩:=rx;exact WE a t' b t
 |str b=>obtain⟨t,rfl⟩:=rx;exact XR a t' b t
 |_=>exact absurd (show false=true from fx) g_
|str a=>obtain⟨t',rfl⟩:=ry;cases x with
 |non=>cases rx;exact SeqAt.EqAt.str_none a t'
 |bl b=>cases rx;exact SeqAt.EqAt.str_bool a t' b
 |int b=>obtain⟨t,rfl⟩:=rx;exact XS a t' b t
 |str b=>obtain⟨t,rfl⟩:=rx;exact SeqAt.EqAt.str_str a t' b t
 |_=>exact absurd (show false=true from fx) g_
|_=>exact absurd (show false=true from fy) g_
def dy(x:V)(u:a_):Bool:=match u with
|.none=>gZ .non x
|.bool b=>gZ (.bl b) x
|.int i _=>gZ (.int i) x
|.str z _=>gZ (.str z) x
|_=>false
theorem qq{x y:V}{u:a_}(r:ar y u)(f:fO y=true):dy x u=gZ y x:=by cases y with
|non=>cases r;rfl
|bl b=>cases r;rfl
|int i=>obtain⟨t,rfl⟩:=r;rfl
|str z=>obtain⟨t,rfl⟩:=r;rfl
|_=>exact absurd (show false=true from f) g_
theorem oC{x:V}:∀{xs:List V}{us:List a_},al xs us->xs.all fO=true->us.any (dy x)=xs.any fun y=>gZ y x
|_,_,.nil,_=>rfl
|y::xs,u::us,.cons r t,f=>by rw[Vq,P_]at f;rw[VL,VL,qq r f.1,oC t f.2]
theorem m9{A:Uc}{s:f_}{x:V}{v:a_}(rx:ar x v)(fx:fO x=true):∀{xs:List V}{us:List a_},al xs us->xs.all fO=true->∀u∈us,XT A s u v (dy x u)
|_,_,.nil,_=>fun u hu=>by cases hu
|y::xs,u::us,.cons r t,f=>fun u' hu=>by
  rw[Vq,P_]at f;rcases n_.mp hu with rfl|hu
  .rw[qq r f.1];exact JU r rx f.1 fx
  .exact m9 rx fx t f.2 u' hu
def sZ(x:V)(xs:List V):Bool:=xs.any fun y=>gZ y x
def Bi(K:W.Frag)(neg:Bool):R2:=fun x y H Q=>∃p xs,y=.ref p/\(bh K H p xs\/bU K H p xs)/\fO x=true/\xs.all fO=true/\Q (.bl (if neg then ! sZ x xs else sZ x xs)) H
theorem Py:bo X (Ug .In) (Bi X.K false):=by
 intro pz s σ H x y v u Q I rx ry h;obtain⟨p,xs,rfl,hq,fx,fs,q⟩:=h;cases ry;rcases hq with hq|hq
 .obtain⟨its,r,pl,hz⟩:=I.list hq;refine SeqAt.in_listAt (dy x) pl.isList (fun w hw=>m9 rx fx r fs w (by simpa using hw)) ⟨.bl _,H,I,rfl,?_⟩;rw[show its.toArray.any (dy x)=its.any (dy x)by simp,oC r fs];exact q
 .obtain⟨its,r,pl,hz⟩:=I.tuple hq;refine SeqAt.in_tupleAt (dy x) pl (fun w hw=>m9 rx fx r fs w (by simpa using hw)) ⟨.bl _,H,I,rfl,?_⟩;rw[show its.toArray.any (dy x)=its.any (dy x)by simp,oC r fs];exact q
theorem Rm:bo X (Ug .NotIn) (Bi X.K true):=by
 intro pz s σ H x y v u Q I rx ry h;obtain⟨p,xs,rfl,hq,fx,fs,q⟩:=h;cases ry;rcases hq with hq|hq
 .obtain⟨its,r,pl,hz⟩:=I.list hq;refine SeqAt.notIn_listAt (dy x) pl.isList (fun w hw=>m9 rx fx r fs w (by simpa using hw)) ⟨.bl _,H,I,rfl,?_⟩;rw[show its.toArray.any (dy x)=its.any (dy x)by simp,oC r fs];exact q
 .obtain⟨its,r,pl,hz⟩:=I.tuple hq;refine SeqAt.notIn_tupleAt (dy x) pl (fun w hw=>m9 rx fx r fs w (by simpa using hw)) ⟨.bl _,H,I,rfl,?_⟩;rw[show its.toArray.any (dy x)=its.any (dy x)by simp,oC r fs];exact q
theorem Ro:bo X (Ug .NotIn) (fun x y H Q=>∃i j,x=.str i/\y=.str j/\Q (.bl (!(!(O_ j i 0 j.length 1).isEmpty))) H):=by intro pz s σ H x y v u Q I rx ry h;obtain⟨i,j,rfl,rfl,q⟩:=h;obtain⟨t,rfl⟩:=rx;obtain⟨t',rfl⟩:=ry;exact notIn_str ⟨.bl _,H,I,rfl,q⟩
theorem dA.or{f:a_}{r r':List V->Hp->VK->Prop}(h:dA X f r)(h':dA X f r'):dA X f (fun xs H Q=>r xs H Q\/r' xs H Q):=by
 intro pz s σ H xs us Q I rs q;rcases q with q|q
 .exact h pz s σ H xs us Q I rs q
 .exact h' pz s σ H xs us Q I rs q
theorem QS:dA X (.type "list") (fun xs H Q=>∃p ys,xs=[.ref p]/\(bh X.K H p ys\/bU X.K H p ys)/\∀l,H l=none->Q (.ref l) (aB H l (.lst ys))):=by
 intro pz s σ H xs us Q I r h;obtain⟨p,ys,rfl,hq,q⟩:=h;obtain⟨u,rfl,rx⟩:=d6 r;cases rx;have fin:∀(its:List a_),al ys its->ys.length<=sizeLine->∀(h':Heap)(c':Nat),(∀b o',s.heap.get? b=some o'->h'.get? b=some o') ->h'.get? s.heap.objs.size=some { cls:=.type "list",dict:=none,data:=.seq its.toArray c',slots:=#[] }->EP X pz σ Q (.ref s.heap.objs.size) { s with heap:=h' }:=fun its r' hz h' c' kp e=>⟨.ref s.heap.objs.size,_,I.laid (t':=s.toks) kp (s_ _) (show bF X.prog X.w _ h' _ (.lst ys)from⟨hz,its,c',r',e⟩),rfl,q _ (I.hok.fresh (s_ _))⟩
 rcases hq with hq|hq
 .obtain⟨its,r',pl,hz⟩:=I.list hq;have hlen:=r'.length;obtain⟨o,ho,hc,n,hd⟩:=pl.isList;exact call_list_seq p (.inl rfl) ho hc hd (fun h' c' kp e=>fin its r' hz h' c' kp e) (by simp only[l_] <;> omega)
 .obtain⟨its,r',pl,hz⟩:=I.tuple hq;have hlen:=r'.length;obtain⟨o,ho,hc,n,hd⟩:=pl;exact call_list_seq p (.inr rfl) ho hc hd (fun h' c' kp e=>fin its r' hz h' c' kp e) (by simp only[l_] <;> omega)
theorem RL:dA X (.type "tuple") (fun xs H Q=>∃p ys,xs=[.ref p]/\((bh X.K H p ys/\∀l,H l=none->Q (.ref l) (aB H l (.tup ys)))\/(bU X.K H p ys/\Q (.ref p) H))):=by
 intro pz s σ H xs us Q I r h;obtain⟨p,ys,rfl,h⟩:=h;obtain⟨u,rfl,rx⟩:=d6 r;cases rx;rcases h with⟨hq,q⟩|⟨hq,q⟩
 .obtain⟨its,r',pl,hz⟩:=I.list hq;have hlen:=r'.length;refine call_tuple_list pl.isList (fun h' kp=>?_) (by simp only[l_] <;> omega);have I1:Inv X pz σ H { s with heap:=h' }:=I.kept (t':=s.toks) kp;have I2:Inv X pz σ (aB H h'.objs.size (.tup ys)) { s with heap:=h'.push { cls:=.type "tuple",data:=.seq its.toArray } }:=I1.laid (t':=s.toks) (fun b o e=>c_ _ e) (s_ _) (show bF X.prog X.w _ _ _ (.tup ys)from⟨hz,its,r',Zr _ _,_,r_ _ rfl,rfl⟩);exact⟨.ref h'.objs.size,_,I2,rfl,q _ (I1.hok.fresh (s_ _))⟩
 .obtain⟨its,r',pl,hz⟩:=I.tuple hq;exact call_tuple_same pl ⟨.ref p,H,I,rfl,q⟩
def nJ(K:W.Frag)(T:String)(x:V)(H:Hp):Prop:=match x with
|.str _=>T = "str"
|.int _=>T = "int"
| .ref p=>(T = "list"/\∃xs,bh K H p xs)\/(T = "tuple"/\((∃o,K.lookup p=some o/\o.cls=.type "tuple"/\o.dict=none)\/∃xs,Rd H p (.tup xs))) \/
   (T = "dict"/\((∃kvs,Rd H p (.dK kvs))\/∃kvs,H p=some (.dT kvs)))\/(T = "set"/\∃S n,H p=some (.set S n))
|_=>False
theorem Db{pz:List (Addr×Obj)}{σ:St}{H:Hp}{s:f_}{T:String}{x:V}{v:a_}(I:Inv X pz σ H s)(r:ar x v)(ty:nJ X.K T x H):s.TypeIs v T/\∀a,v=.ref a->∃ob,s.heap.get? a=some ob/\ob.dict=none:=by cases x with
|str z=>obtain⟨t,rfl⟩:=r;cases(show T = "str" from ty);exact⟨XY s z t,fun _ e=>nomatch e⟩
|int i=>obtain⟨t,rfl⟩:=r;cases(show T = "int" from ty);exact⟨Y9 s i t,fun _ e=>nomatch e⟩
|ref p=>
  cases r;rcases ty with⟨rfl,xs,hq⟩|⟨rfl,⟨o,hk,hc,hd⟩|⟨xs,hq⟩⟩|⟨rfl,hk⟩|⟨rfl,S,n,hk⟩
  .obtain⟨its,_,pl,_⟩:=I.list hq;refine⟨pl.isList.typeIs,fun a e=>?_⟩;cases e;obtain⟨o,n,e,c,hd,_⟩:=pl;exact⟨o,e,hd⟩
  .refine⟨⟨o,I.kIn p o hk,hc⟩,fun a e=>?_⟩;cases e;exact⟨o,I.kIn _ o hk,hd⟩
  .obtain⟨_,its,_,⟨o,ho,hc,_⟩,o2,ho2,hd2⟩:=hq.ok I.hok;refine⟨⟨o,ho,hc⟩,fun a e=>?_⟩;cases e;exact⟨o2,ho2,hd2⟩
  .have z:∃o,s.heap.get? p=some o/\o.ExactDict:=by
    rcases hk with⟨kvs,hk⟩|⟨kvs,hk⟩
    .obtain⟨_,_,_,_,o,_,_,e,ex,_⟩:=(show bF X.prog X.w H s.heap p (.dK kvs)from hk.ok I.hok)
     exact⟨o,e,ex⟩
    .obtain⟨_,_,_,_,o,_,_,e,ex,_⟩:=I.hok p _ hk;exact⟨o,e,ex⟩
   obtain⟨o,e,ex⟩:=z;refine⟨⟨o,e,ex.1⟩,fun a e2=>?_⟩;cases e2;exact⟨o,e,ex.2.1⟩
  .obtain⟨o,_,_,_,e,ex,_⟩:=I.hok p _ hk;refine⟨⟨o,e,ex.1⟩,fun a e2=>?_⟩;cases e2;exact⟨o,e,ex.2.1⟩
|_=>exact U1 ty
def A5(K:W.Frag)(T:String)(r:V->List V->Hp->VK->Prop)(to:TE):TE:=fun σ H Q=>to σ H fun x H1=>nJ K T x H1/\r x [] H1 Q
def Sv(K:W.Frag)(T:String)(r:V->List V->Hp->VK->Prop)(to:TE)(t:TA):TE:=fun σ H Q=>to σ H fun x H1=>nJ K T x H1/\t σ H1 fun xs H2=>r x xs H2 Q
variable{o:Expr}{es:List Expr}{to:TE}{t:TA}{name:Str}{apos cpos:Pos}{T id:String}{r:V->List V->Hp->VK->Prop}
theorem vE(pa:XZ T)(slot:Slot T name id)(M:typeOf (.builtin id)=pure (.type "method_descriptor"))(hm:hU X id r)(ho:PE X o to)(B:Uo o name X.env (eval o X.env)=eval o X.env:=by rfl)(L:(apos.endLine==cpos.line)=true:=by rfl):PE X (.Call (.Attribute o name apos) [] [] cpos) (A5 X.K T r to):=by intro pz s σ H Q I h;refine wpAny_Call_method0_late B L (aO (ho pz s σ H _ I h) fun v s1 ⟨x,H1,I1,r1,ty,q1⟩=>?_);obtain⟨h1,h2⟩:=Db I1 r1 ty;exact⟨T,id,pa,slot,M,h1,h2,Xg rfl (PySem.evalArgs_none (hm pz s1 σ H1 x [] v [] Q I1 r1 .nil q1))⟩
theorem tU(pa:XZ T)(slot:Slot T name id)(Y:typeOf (.builtin id)=pure (.type "method_descriptor"))(hm:hU X id r)(ho:PE X o to)(ha:PA X (e::es) t)(L:Uo o name X.env (eval o X.env)=eval o X.env:=by rfl)(U:((backTo cpos (i_ (e::es) X.env)).all (fun x=>! x.1)&&(Wk cpos (Vz [] X.env)).all (fun x=>x.1.isSome)
   && decide ((e::es).length+([]:List Xh).length+(if ([]:List Xh).isEmpty then 0 else 1)<30))=true:=by rfl)(M:(apos.endLine==cpos.line)=true:=by rfl)(hs:i_ (e::es) X.env=(false,eval e X.env)::i_ es X.env:=by rfl)(B:(backTo cpos (i_ es X.env)).any (·.1)=false:=by rfl):PE X (.Call (.Attribute o name apos) (e::es) [] cpos) (Sv X.K T r to t):=by intro pz s σ H Q I h;refine wpAny_Call_method_late L U M rfl (aO (ho pz s σ H _ I h) fun v s1 ⟨x,H1,I1,r1,ty,q1⟩=>?_);obtain⟨h1,h2⟩:=Db I1 r1 ty;refine⟨T,id,pa,slot,Y,h1,h2,?_⟩;have hA:=ha cpos pz s1 σ H1 _ I1 q1;rw[hs]at hA ⊢;refine Xg (by show(false || (backTo cpos (i_ es X.env)).any (·.1))=false;rw[B] <;> rfl) (Calls.evalArgs_plain ?_);exact aO hA fun us s2 ⟨vs,H2,I2,r2,q2⟩=>hm pz s2 σ H2 x vs v us Q I2 r1 r2 q2
end
def Iu(X:Cx)(id:String)(r:V->List V->Hp->VK->Prop):Prop:=∀(pz:List (Addr×Obj))(s:f_)(σ:St)(H:Hp)(x:V)(xs:List V)(v:a_)(us:List a_)(Q:VK),Inv X pz σ H s->ar x v->al xs us->r x xs H Q ->C_ (G_ X.prog X.w) X.A (call (.builtin id) (v::us)) (EP X pz σ Q) X.xe s
theorem al.one{x:V}{us:List a_}(h:al [x] us):∃u,us=[u]/\ar x u:=by cases h with
|cons r t=>cases t;exact⟨_,rfl,r⟩
theorem al.zero:∀{us:List a_},al [] us->us=[]
|_,.nil=>rfl
theorem al.dropLast{xs:List V}{us:List a_}(h:al xs us):al xs.dropLast us.dropLast:=by induction h with
|nil=>exact .nil
|cons r t ih=>cases t with
 |nil=>exact .nil
 |cons q t'=>exact .cons r ih
theorem al.eraseIdx:∀{xs:List V}{us:List a_}(i:Nat),al xs us->al (xs.eraseIdx i) (us.eraseIdx i)
|_,_,_,.nil=>.nil
|_,_,0,.cons _ t=>t
|_,_,i+1,.cons r t=>.cons r (al.eraseIdx i t)
theorem al.rep{xs:List V}{us:List a_}(h:al xs us):∀k:Nat,al (q_ k xs).flatten (q_ k us).flatten
|0=>.nil
|k+1=>by rw[Us,Us,UB,UB];exact al.append h (al.rep h k)
theorem PP{α:Type}(l:List α):l.eraseIdx (l.length-1)=l.dropLast:=by induction l with
|nil=>rfl
|cons a r ih=>cases r with
 |nil=>rfl
 |cons b r=>
   have e:(a::b::r).length-1=((b::r).length-1)+1:=by have h1:(a::b::r).length=r.length+2:=rfl;have h2:(b::r).length=r.length+1:=rfl;omega
   rw[e,List.eraseIdx_cons_succ,ih]
   all_goals rfl
theorem Fq(its:List a_):∀(k:Nat)(acc:List a_),Y_ (fun x1 x2=>x1++x2) acc.toArray (q_ k its.toArray)=(acc++(q_ k its).flatten).toArray
|0,acc=>by simp
|k+1,acc=>by
  have e:acc.toArray++its.toArray=(acc++its).toArray:=by simp
  have e2:(acc++its)++(q_ k its).flatten=acc++(q_ (k+1) its).flatten:=by rw[Us,UB,UP]
  rw[<-e2,<-Fq its k (acc++its),<-e,Us,V5]
variable{pz:List (Addr×Obj)}{σ:St}{H:Hp}{s:f_}
section
variable{l b:Addr}{xs ys zs:List V}
theorem Inv.lset{its its':List a_}{n:Nat}{f:Array a_->Array a_}{t':Nat}(I:Inv X pz σ H s)(hH:H l=some (.lst xs))(e:s.heap.get? l=some { cls:=.type "list",data:=.seq its.toArray n })(hf:f its.toArray=its'.toArray)(hv:al ys its')(hz:ys.length<=sizeLine):Inv X pz σ (aB H l (.lst ys)) { s with heap:=s.heap.update l (VC f),toks:=t' }:=by have q:=PySem.IsL.update e f;rw[hf]at q;refine I.write (x:=l) (e:=l) (by rw[hH];exact trivial) (.inl rfl) (fun b' u hb hu=>(Xf s.heap (VC f) (UX hb)).trans hu) ⟨_,q⟩ ?_;exact⟨hz,its',_,hv,q⟩
theorem Inv.lnew{its:List a_}{t':Nat}(I:Inv X pz σ H s)(hv:al ys its)(hz:ys.length<=sizeLine):Inv X pz σ (aB H s.heap.objs.size (.lst ys)) { s with heap:=s.heap.push { cls:=.type "list",data:=.seq its.toArray },toks:=t' }:=I.laid (fun _ _ q=>c_ _ q) (s_ _) ⟨hz,its,0,hv,r_ _ rfl⟩
theorem Inv.fresh(I:Inv X pz σ H s):H s.heap.objs.size=none:=I.hok.fresh (s_ _)
theorem Inv.lstM(I:Inv X pz σ H s)(hH:H l=some (.lst xs)):xs.length<=sizeLine/\∃(its:List a_)(n:Nat),al xs its/\xs.length=its.length/\s.heap.get? l=some { cls:=.type "list",data:=.seq its.toArray n }:=by obtain⟨z,its,n,r,e⟩:=I.hok l _ hH;exact⟨z,its,n,r,r.length,e⟩
theorem OP{n:Nat}(h:n<=sizeLine):V3 n=false:=by unfold V3;exact decide_eq_false (by omega)
end
def DB:V->List V->Hp->VK->Prop:=fun x vs H Q=>∃l xs y,x=.ref l/\vs=[y]/\H l=some (.lst xs)/\xs.length<sizeLine/\Q .non (aB H l (.lst (xs++[y])))
theorem iR:Iu X "list.append" DB:=by intro pz s σ H x vs v us Q I rx rv h;obtain⟨l,xs,y,rfl,rfl,hH,hz,q⟩:=h;cases rx;obtain⟨u,rfl,ru⟩:=rv.one;obtain⟨z,its,n,r,hl,e⟩:=I.lstM hH;refine VD F.slot_list_append ⟨_,e,rfl⟩ F.entry_list_append (F.args_list_append_2 _ _) (PySem.list_append l its.toArray n u (by rw[l_];omega)) ⟨e,?_⟩;refine⟨.non,_,I.lset (its':=its++[u]) hH e (by simp) (r.append (.cons ru .nil)) ?_,rfl,q⟩;rw[Uk,Wf];omega
def Bg:V->List V->Hp->VK->Prop:=fun x vs H Q=>∃l xs y,x=.ref l/\vs=[]/\H l=some (.lst xs)/\xs[xs.length-1]? = some y/\Q y (aB H l (.lst xs.dropLast))
theorem CP:Iu X "list.pop" Bg:=by
 intro pz s σ H x vs v us Q I rx rv h;obtain⟨l,xs,y,rfl,rfl,hH,hy,q⟩:=h;cases rx;have B:=rv.zero;subst B;obtain⟨z,its,n,r,hl,e⟩:=I.lstM hH;obtain⟨u,hu,ru⟩:=r.get hy;have L:its.toArray[its.toArray.size-1]? = some u:=by show its.toArray[its.length-1]? = some u;rw[<-US,<-hl];exact hu
 refine VD F.slot_list_pop ⟨_,e,rfl⟩ F.entry_list_pop (F.args_list_pop_1 _) (MeetsSeq.list_pop_last l its.toArray n u L (by rw[l_];omega)) ⟨e,?_⟩;refine⟨y,_,I.lset (its':=its.dropLast) hH e ?_ r.dropLast ?_,ru,q⟩
 .show its.toArray.eraseIdxIfInBounds (its.toArray.size-1)=its.dropLast.toArray;rw[l_,List.eraseIdxIfInBounds_toArray,PP]
 .rw[List.length_dropLast];omega
def Bf:R2:=fun x y H Q=>∃l k xs,x=.ref l/\y=.int k/\H l=some (.lst xs)/\-(2^63)<=k/\k<2^63/\xs.length*k.toNat<=sizeLine /\∀p,H p=none->Q (.ref p) (aB H p (.lst (q_ k.toNat xs).flatten))
theorem Mj{α:Type}(xs:List α)(k:Nat):(q_ k xs).flatten.length=k*xs.length:=by induction k with
|zero=>simp
|succ k ih=>rw[Us,UB,Uk,ih,Xi,Yg]
theorem Kv:bo X (Vu .Mult) Bf:=by
 intro pz s σ H x y v u Q I rx ry h;obtain⟨l,k,xs,rfl,rfl,hH,h1,h2,hz,q⟩:=h;cases rx;obtain⟨t,rfl⟩:=ry;obtain⟨z,its,n,r,hl,e⟩:=I.lstM hH;have hlen:its.toArray.size*k.toNat<=sizeLine:=by rw[l_,<-hl];exact hz
 have Y:¬ its.toArray.size*k.toNat>(2^63-1)/8:=by
  have:(sizeLine:Nat)<=(2^63-1)/8:=by decide
  omega
 have L:¬ (! WH k)=true:=by rw[fitsIndex_both h1 h2];exact g_
 have B:¬ V3 (its.toArray.size*k.toNat)=true:=by rw[OP hlen];exact g_
 have M:Y_ (fun x1 x2=>x1++x2) #[] (q_ (if its.toArray.isEmpty=true then 0 else k.toNat) its.toArray)=(q_ k.toNat its).flatten.toArray:=by
  have f0:∀m:Nat,Y_ (fun x1 x2=>x1++x2) #[] (q_ m its.toArray)=(q_ m its).flatten.toArray:=fun m=>by have:=Fq its m [];rw[Xp]at this;exact this
  rw[f0];cases its with
 |nil=>simp
 |cons a r'=>rw[if_neg (by simp)]
 refine wpAny_binaryOp_repeat_ref (T := "list") (U := "int") (by decide) ⟨_,e,rfl⟩ (fun s'=>Y9 s' k t) noFill_list_mul F.fills_int_mul F.slot_int_rmul repeat_list F.slot_int_index.lookup
  (VD F.slot_int_rmul (Y9 s k t) F.entry_int_rmul (F.args_int_rmul_2 _ _) (int___rmul___int_list k t l its.toArray n)
   ⟨e,rfl,⟨_,e,rfl⟩,VD F.slot_list_mul ⟨_,e,rfl⟩ F.entry_list_mul (F.args_list_mul_2 _ _) (AutoListH.list___mul___list_int_3 l its.toArray n k t L Y B) ⟨e,?_⟩⟩)
 rw[M];exact⟨.ref _,_,I.lnew (t':=s.toks) (r.rep k.toNat) (by rw[Mj,Yh];exact hz),rfl,q _ I.fresh⟩
section
variable{κ:Type}[DecidableEq κ]
def cJ(kvs:List (κ×V))(k:κ):Option V:=(kvs.find? fun kv=>decide (kv.1=k)).map (·.2)
def ca(kvs:List (κ×V))(k:κ)(v:V):List (κ×V):=if (kvs.any fun kv=>decide (kv.1=k))=true then kvs.map (fun kv=>if kv.1=k then(kv.1,v)else kv)else kvs++[(k,v)]
theorem rj{p:κ×V}{r:List (κ×V)}{k:κ}(e:p.1=k):cJ (p::r) k=some p.2:=by simp[cJ,T_,e]
theorem oM{p:κ×V}{r:List (κ×V)}{k:κ}(e:¬ p.1=k):cJ (p::r) k=cJ r k:=by simp[cJ,T_,e]
theorem E1(k:κ):∀kvs:List (κ×V),(kvs.any fun kv=>decide (kv.1=k))=(cJ kvs k).isSome
|[]=>rfl
|p::r=>by
  rw[VL];by_cases e:p.1=k
  .simp only[rj e,decide_eq_true e,Bool.true_or,Option.isSome_some]
  .rw[oM e,decide_eq_false e,Bool.false_or];exact E1 k r
theorem zi(kvs:List (κ×V))(k:κ)(v:V):(ca kvs k v).length<=kvs.length+1:=by
 unfold ca;split
 .rw[j_];omega
 .rw[Uk,x_,VI];omega
theorem cA.isSome_eq{o:Option V}{u:Option a_}(r:cA o u):o.isSome=u.isSome:=by cases o with
|none=>cases u with
 |none=>rfl
 |some _=>exact(show False from r).elim
|some _=>cases u with
 |none=>exact(show False from r).elim
 |some _=>rfl
theorem KV.val{kvs:List (κ×V)}{vs:List (κ×a_)}(r:KV kvs vs)(k:κ):cA (cJ kvs k) (XG vs k):=by
 unfold KV at r
 induction r with
|nil=>exact True.intro
|@cons p q ps qs h t ih=>
  obtain⟨h1,h2⟩:=h;by_cases e:p.1=k
  .have e':q.1=k:=h1.symm.trans e;have b:XG (q::qs) k=some q.2:=by simp[XG,T_,e']
   rw[rj e,b];exact h2
  .have e':¬ q.1=k:=fun z=>e (h1.trans z);have b:XG (q::qs) k=XG qs k:=by simp[XG,T_,e']
   rw[oM e,b];exact ih
theorem KV.any{kvs:List (κ×V)}{vs:List (κ×a_)}(r:KV kvs vs)(k:κ):(kvs.any fun kv=>decide (kv.1=k))=vs.any fun kv=>decide (kv.1=k):=by
 unfold KV at r
 induction r with
|nil=>rfl
|cons h t ih=>rw[VL,VL,ih,h.1]
theorem KV.repl{kvs:List (κ×V)}{vs:List (κ×a_)}(r:KV kvs vs)(k:κ){y:V}{u:a_}(ry:ar y u):KV (kvs.map fun kv=>if kv.1=k then(kv.1,y)else kv) (vs.map fun kv=>if kv.1=k then(kv.1,u)else kv):=by
 unfold KV at r ⊢
 induction r with
|nil=>exact .nil
|@cons p q ps qs h t ih=>
  rw[L_,L_];refine .cons ?_ ih;obtain⟨h1,h2⟩:=h;by_cases e:p.1=k
  .rw[if_pos e,if_pos (h1.symm.trans e)];exact⟨h1,ry⟩
  .rw[if_neg e,if_neg (fun z=>e (h1.trans z))];exact⟨h1,h2⟩
theorem KV.put{kvs:List (κ×V)}{vs:List (κ×a_)}(r:KV kvs vs)(k:κ){y:V}{u:a_}(ry:ar y u):KV (ca kvs k y) (stored vs k u):=by
 unfold ca stored;rw[r.any k];by_cases e:(vs.any fun kv=>decide (kv.1=k))=true
 .rw[if_pos e,if_pos e];exact r.repl k ry
 .rw[if_neg e,if_neg e];exact Paired.snoc r ⟨rfl,ry⟩
theorem KV.length{kvs:List (κ×V)}{vs:List (κ×a_)}(r:KV kvs vs):kvs.length=vs.length:=Paired.length r
end
theorem nW{P:E_}{w:S_}{k:aG}{u:a_}(r:ar (kV k) u):(d9 P w).is k u=true:=by cases k with
|inl i=>obtain⟨t,e⟩:=(show ∃t,u=Value.int i t from r);subst e;exact QO P w i t
|inr x=>obtain⟨t,e⟩:=(show ∃t,u=Value.str x t from r);subst e;exact QP P w x t
theorem FU{P:E_}{w:S_}:∀{ks:List aG}{us:List a_},al (ks.map kV) us->ItemsAre (d9 P w) ks us
|[],_,r=>by rw[UV]at r;cases r;exact .nil
|k::ks,_,r=>by rw[L_]at r;cases r with
 |cons h t=>exact .cons (nW h) (FU t)
abbrev KT(H:Hp):List (List aG×V)->List (List aG×Addr×a_)->Prop:=Paired fun p q=>p.1=q.1/\H q.2.1=some (.tup (p.1.map kV))/\ar p.2 q.2.2
theorem KT.val{H:Hp}{kvs:List (List aG×V)}{xs:List (List aG×Addr×a_)}(r:KT H kvs xs)(k:List aG):cA (cJ kvs k) ((YH xs k).map (·.2)):=by induction r with
|nil=>exact True.intro
|@cons p q ps qs h t ih=>
  obtain⟨h1,_,h2⟩:=h;by_cases e:p.1=k
  .have e':q.1=k:=h1.symm.trans e;have b:YH (q::qs) k=some q.2:=by simp[YH,T_,e']
   rw[rj e,b];exact h2
  .have e':¬ q.1=k:=fun z=>e (h1.trans z);have b:YH (q::qs) k=YH qs k:=by simp[YH,T_,e']
   rw[oM e,b];exact ih
theorem KT.repl{H:Hp}{kvs:List (List aG×V)}{xs:List (List aG×Addr×a_)}(r:KT H kvs xs)(k:List aG){y:V}{u:a_}(ry:ar y u):KT H (kvs.map fun kv=>if kv.1=k then(kv.1,y)else kv) (xs.map (putAt k u)):=by induction r with
|nil=>exact .nil
|@cons p q ps qs h t ih=>
  rw[L_,L_];refine .cons ?_ ih;obtain⟨h1,h2,h3⟩:=h;unfold putAt;by_cases e:p.1=k
  .rw[if_pos e,if_pos (h1.symm.trans e)];exact⟨h1,h2,ry⟩
  .rw[if_neg e,if_neg (fun z=>e (h1.trans z))];exact⟨h1,h2,h3⟩
theorem KT.put{H:Hp}{kvs:List (List aG×V)}{xs:List (List aG×Addr×a_)}(r:KT H kvs xs)(k:List aG){b:Addr}{y:V}{u:a_}(hb:H b=some (.tup (k.map kV)))(ry:ar y u):KT H (ca kvs k y) (storedH xs k b u):=by
 have e:(kvs.any fun kv=>decide (kv.1=k))=(YH xs k).isSome:=by rw[E1,(r.val k).isSome_eq,WR]
 unfold ca storedH;rw[e];by_cases q:(YH xs k).isSome=true
 .rw[if_pos q,if_pos q];exact r.repl k ry
 .rw[if_neg q,if_neg q];exact Paired.snoc r ⟨rfl,hb,ry⟩
theorem KT.keeps{H H':Hp}{kvs:List (List aG×V)}{xs:List (List aG×Addr×a_)}(r:KT H kvs xs)(ht:∀b ys,H b=some (.tup ys)->H' b=some (.tup ys)):KT H' kvs xs:=Paired.mapP r fun _ _ z=>⟨z.1,ht _ _ z.2.1,z.2.2⟩
variable{a:Addr}
section
variable{P:E_}{w:S_}{h:Heap}
theorem Cd{u:HO}(ok:cB P w H h)(e:Rd H a u):bF P w H h a u:=e.ok ok
theorem mo{kvs:List (aG×V)}(ok:cB P w H h)(e:Rd H a (.dK kvs)):kvs.length<=sizeLine/\(a==U9)=false/\∃vs,KV kvs vs/\h.DictOf (d9 P w) a vs:=show bF P w H h a (.dK kvs)from Cd ok e
theorem Jr{kvs:List (aG×V)}(ok:cB P w H h)(e:H a=some (.dK kvs)):kvs.length<=sizeLine/\(a==U9)=false/\∃vs,KV kvs vs/\h.DictOf (d9 P w) a vs:=mo ok (.inl e)
theorem oq{ks:List aG}(ok:cB P w H h)(e:H a=some (.tup (ks.map kV))):(XE (d9 P w)).is h ks a:=by
 obtain⟨_,its,r,⟨o,h1,h2,n,h3⟩,_⟩:=(show bF P w H h a (.tup (ks.map kV))from ok a _ e)
 exact⟨o,its.toArray,n,h1,h2,h3,by simpa using FU r⟩
theorem nX{kvs:List (List aG×V)}(ok:cB P w H h)(e:Rd H a (.dT kvs)):kvs.length<=sizeLine/\(a==U9)=false /\∃xs,KT H kvs xs/\h.DictOfH (XE (d9 P w)) a xs:=by
 obtain⟨z,y,xs,r,o,es,ep,h1,h2,h3,h4,h5⟩:=(show bF P w H h a (.dT kvs)from Cd ok e)
 refine⟨z,y,xs,r,o,es,ep,h1,h2,h3,h4,fun x hx=>?_,h5⟩;have all:∀{l:List (List aG×V)}{m:List (List aG×Addr×a_)},KT H l m->∀x∈m,(XE (d9 P w)).is h x.1 x.2.1:=by
  intro l m q
  induction q with
 |nil=>intro x hx;exact nomatch hx
 |@cons p q ps qs hq t ih=>
   intro x hx;rcases n_.mp hx with e|hx
   .subst e;exact oq ok (by rw[<-hq.1];exact hq.2.1)
   .exact ih x hx
 exact all r x hx
theorem Js{kvs:List (List aG×V)}(ok:cB P w H h)(e:H a=some (.dT kvs)):kvs.length<=sizeLine/\(a==U9)=false /\∃xs,KT H kvs xs/\h.DictOfH (XE (d9 P w)) a xs:=nX ok (.inl e)
end
def hX(H:Hp)(a:Addr)(y:V)(r:Option V):Prop:=(∃kvs k,Rd H a (.dK kvs)/\y=kV k/\r=cJ kvs k)\/∃kvs k b,Rd H a (.dT kvs)/\y=.ref b/\H b=some (.tup (k.map kV))/\r=cJ kvs k
def ja(H:Hp)(a:Addr)(y v:V)(H':Hp):Prop:=(∃kvs k,H a=some (.dK kvs)/\y=kV k/\kvs.length<sizeLine/\H'=aB H a (.dK (ca kvs k v))) \/∃kvs k b,H a=some (.dT kvs)/\y=.ref b/\H b=some (.tup (k.map kV))/\kvs.length<sizeLine/\H'=aB H a (.dT (ca kvs k v))
theorem ja.k{H:Hp}{a:Addr}{kvs:List (aG×V)}{k:aG}{v:V}(e:H a=some (.dK kvs))(hl:kvs.length<sizeLine):ja H a (kV k) v (aB H a (.dK (ca kvs k v))):=.inl ⟨kvs,k,e,rfl,hl,rfl⟩
variable{u:a_}{A:Uc}{E:a_->f_->Prop}
section
variable{y v:V}{r:a_}{o:Option V}
theorem Inv.big(I:Inv X pz σ H s):U9<s.heap.objs.size:=by have h:Ub<s.heap.objs.size:=(I.mod.glob.keeps I.bk).lt;exact Zz (by decide) h
theorem Pc{Q:a_->f_->Prop}(hu:A.units+1<Vj)(I:Inv X pz σ H s)(g:hX H a y (some v))(ry:ar y u)(h:∀w' s',Inv X pz σ H s'->ar v w'->Q w' s'):C_ (G_ X.prog X.w) A (Xd (.ref a) u) Q E s:=by
 rcases g with⟨kvs,k,e,ey,l⟩|⟨kvs,k,b,e,ey,eb,l⟩
 .subst ey;obtain⟨z,hd,vs,L,dd⟩:=mo I.hok e;obtain⟨w',hw,B⟩:=cA.some_of (v:=v) (o:=XG vs k) (by rw[l];exact L.val k);exact Ys (nW ry) dd.mapOf hw (h w' _ (I.tok _) B)
 .subst ey;cases(show u=Value.ref b from ry);obtain⟨z,hd,xs,L,dd⟩:=nX I.hok e;obtain⟨w',hw,B⟩:=cA.some_of (v:=v) (o:=(YH xs k).map (·.2)) (by rw[l];exact L.val k);obtain⟨p,hp,M⟩:=Option.map_eq_some_iff.mp hw;refine wpAny_getItem_heap (V8 hu) (oq I.hok eb) dd hp ?_;rw[M];exact h w' _ (I.tok _) B
theorem Bt{Q:a_->f_->Prop}(hu:A.units+1<Vj)(I:Inv X pz σ H s)(g:hX H a y o)(ry:ar y u)(h:∀s',Inv X pz σ H s'->Q (.bool o.isSome) s'):C_ (G_ X.prog X.w) A (Ug .In u (.ref a)) Q E s:=by
 rcases g with⟨kvs,k,e,ey,l⟩|⟨kvs,k,b,e,ey,eb,l⟩
 .subst ey;obtain⟨z,hd,vs,B,dd⟩:=mo I.hok e;refine wpAny_in_of (nW ry) hd dd.mapOf ?_;rw[<-(B.val k).isSome_eq,<-l];exact h _ (I.tok _)
 .subst ey;cases(show u=Value.ref b from ry);obtain⟨z,hd,xs,B,dd⟩:=nX I.hok e;refine wpAny_in_heap (V8 hu) (oq I.hok eb) hd dd ?_;have q:=(B.val k).isSome_eq;rw[WR]at q;rw[<-q,<-l];exact h _ (I.tok _)
theorem Le{Q:a_->f_->Prop}(hu:A.units+1<Vj)(I:Inv X pz σ H s)(g:hX H a y o)(ry:ar y u)(h:∀s',Inv X pz σ H s'->Q (.bool (! o.isSome)) s'):C_ (G_ X.prog X.w) A (Ug .NotIn u (.ref a)) Q E s:=by
 rcases g with⟨kvs,k,e,ey,l⟩|⟨kvs,k,b,e,ey,eb,l⟩
 .subst ey;obtain⟨z,hd,vs,B,dd⟩:=mo I.hok e;refine wpAny_notIn_of (nW ry) hd dd.mapOf ?_;rw[<-(B.val k).isSome_eq,<-l];exact h _ (I.tok _)
 .subst ey;cases(show u=Value.ref b from ry);obtain⟨z,hd,xs,B,dd⟩:=nX I.hok e;refine wpAny_notIn_heap (V8 hu) (oq I.hok eb) hd dd ?_;have q:=(B.val k).isSome_eq;rw[WR]at q;rw[<-q,<-l];exact h _ (I.tok _)
theorem Du{h':Heap}{t':Nat}{ob:HO}(I:Inv X pz σ H s)(mu:p7 (H a))(hs:Wv a s.heap h')(he:∃q,h'.get? a=some q)(new:bF X.prog X.w (aB H a ob) h' a ob):Inv X pz σ (aB H a ob) { s with heap:=h',toks:=t' }:=I.write (x:=a) (e:=a) mu (.inl rfl) (fun b q hb z=>(hs.2 b hb).trans z) he new
theorem JS{P:E_}{w:S_}{H':Hp}{h':Heap}{kvs:List (aG×V)}{vs:List (aG×a_)}(z:kvs.length<=sizeLine)(hd:(a==U9)=false)(B:KV kvs vs)(dd:h'.DictOf (d9 P w) a vs):bF P w H' h' a (.dK kvs):=⟨z,hd,vs,B,dd⟩
theorem Pd{H':Hp}{Q:Unit->f_->Prop}(hu:A.units+1<Vj)(I:Inv X pz σ H s)(g:ja H a y v H')(ry:ar y u)(rv:ar v r)(h:∀s',Inv X pz σ H' s'->Q () s'):C_ (G_ X.prog X.w) A (Zw (.ref a) u r) Q E s:=by
 rcases g with⟨kvs,k,e,ey,l,eH⟩|⟨kvs,k,b,e,ey,eb,l,eH⟩
 .subst ey eH;obtain⟨z,hd,vs,B,dd⟩:=Jr I.hok e;have hz:vs.length<=sizeLine:=by rw[<-B.length];exact z
  have hl:(ca kvs k v).length<=sizeLine:=by have:=zi kvs k v;omega
  refine wpAny_setItem_pairs (hsz:=hz) (nW ry) dd fun h' L hs=>h _ ?_;have he:∃q,h'.get? a=some q:=let⟨q,_,_,hq,_⟩:=L;⟨q,hq⟩;exact Du I (by rw[e];exact True.intro) hs he (JS hl hd (B.put k rv) L)
 .subst ey eH;cases(show u=Value.ref b from ry);obtain⟨z,hd,xs,B,dd⟩:=Js I.hok e;have hz:xs.length<=sizeLine:=by rw[<-Paired.length B];exact z
  have hl:(ca kvs k v).length<=sizeLine:=by have:=zi kvs k v;omega
  refine wpAny_setItem_heap (hsz:=hz) (V8 hu) (oq I.hok eb) dd fun h' L hs=>h _ ?_;obtain⟨q,es,ep,hq,h2,h3,h4,_,h5⟩:=L;refine Du I (by rw[e];exact True.intro) hs ⟨q,hq⟩ ⟨hl,hd,_,(B.put k eb rv).keeps fun c ys ec=>?_,q,es,ep,hq,h2,h3,h4,h5⟩;rw[bf (Jc ec e (fun z=>nomatch z))];exact ec
end
section
variable{kvs:List (aG×V)}{k:aG}
theorem Jp{Q:a_->f_->Prop}(I:Inv X pz σ H s)(e:Rd H a (.dK kvs))(h:∀t s',Inv X pz σ H s'->Q (.int kvs.length t) s'):C_ (G_ X.prog X.w) A (call (.builtin "len") [.ref a]) Q E s:=by obtain⟨z,hd,vs,B,dd⟩:=mo I.hok e;refine call_len_dict hd dd (by rw[<-B.length];rw[N_]at z;omega) ?_;rw[<-B.length];exact h _ _ (I.tok _)
end
theorem QJ{X:Cx}{pz:List (Addr×Obj)}{σ:St}{H:Hp}{s:f_}{a:Addr}{y:V}{o:Option V}(I:Inv X pz σ H s)(g:hX H a y o):s.TypeIs (.ref a) "dict" := by
 rcases g with⟨kvs,k,e,_,_⟩|⟨kvs,k,b,e,_,_,_⟩
 .obtain⟨_,_,vs,_,dd⟩:=mo I.hok e;exact dd.typeIs
 .obtain⟨_,_,xs,_,dd⟩:=nX I.hok e;exact dd.typeIs
theorem Nn{P:E_}{w:S_}{H:Hp}(h:Heap)(hb:U9<h.objs.size):bF P w H (h.push { cls:=.type "dict",data:=.dict #[] }) h.objs.size (.dK []):=⟨Uf _,beq_eq_false_iff_ne.mpr (UX (M_ hb)),[],.nil,Heap.DictOf.new h⟩
def LQ:TE:=fun _ H Q=>∀p,H p=none->Q (.ref p) (aB H p (.dK []))
theorem Oz:PE X (.Dict [] [] pos) LQ:=fun pz s σ H Q I h=>wpAny_Dict_empty ⟨.ref s.heap.objs.size,_,I.laid (a:=s.heap.objs.size) (o:=.dK []) (t':=s.toks) (fun _ _ q=>c_ _ q) (s_ _) (Nn s.heap I.big),rfl,h _ (I.hok.fresh (s_ _))⟩
def ku(kvs more:List (aG×V)):List (aG×V):=more.foldl (fun acc kv=>ca acc kv.1 kv.2) kvs
theorem KV.merge:∀{more:List (aG×V)}{rs:List (aG×a_)}{kvs:List (aG×V)}{vs:List (aG×a_)},KV more rs->KV kvs vs->KV (ku kvs more) (merged vs rs):=by
 intro more rs kvs vs r;unfold KV at r
 induction r generalizing kvs vs with
|nil=>intro q;exact q
|@cons p q ps qs h t ih=>
  intro r0;have e:KV (ca kvs p.1 p.2) (stored vs q.1 q.2):=by have:=r0.put p.1 h.2;rw[<-h.1];exact this
  exact ih e
theorem Hz:∀(more kvs:List (aG×V)),(ku kvs more).length<=kvs.length+more.length
|[],kvs=>by show kvs.length<=kvs.length+0;omega
|p::r,kvs=>by have h1:=Hz r (ca kvs p.1 p.2);have h2:=zi kvs p.1 p.2;show(ku (ca kvs p.1 p.2) r).length<=_;rw[x_];omega
end L2
namespace Att
open PySem PySem.W PySem.Calls PyProof.Rows
theorem RZ{P:Params}{h:Heap}:∀(ns:List Int)(vs:List a_),WellAll P h vs (ns.map WData.int)->VO vs ns:=by
 intro ns
 induction ns with
|nil=>intro vs w;rw[UV]at w;cases w;exact .nil
|cons n ns ih=>intro vs w;rw[L_]at w;cases w with
 |cons a b=>cases a;exact .cons _ _ (ih _ b)
theorem Qk{l:OpenLaw}{n:Nat}(hn:l.most=some n){P:Params}{h:Heap}{args:List WData}{vals:List a_}(B:l.row.toRowW.claim.pre args=true)(M:WellAll P h vals args):∃a vs ns,vals=[Value.ref a]/\args=[WData.list (ns.map WData.int)]/\h.get? a=some { cls:=.type "list",data:=.seq vs.toArray }/\VO vs ns/\ns.length<=n:=by
 have L:WShape.hasAll [] args [.list .int]=true:=(pre_splitW B).1;have hc:l.pre.holds [] { args:=args }=true:=(pre_splitW B).2;obtain⟨d,r,rfl,h1,h2⟩:=hasAllW_cons L;obtain rfl:=hasAllW_nil h2;obtain⟨xs,rfl,h3⟩:=hasW_list h1;obtain⟨ns,rfl⟩:=items_int h3;have hlen:ns.length<=n:=by
  unfold OpenLaw.pre at hc;have h4:(WTm.not (.lt (.lit (.int (n:Int))) (.len (.arg 0)))).holds [] { args:=[.list (ns.map .int)] }=true:=by have h4:=(holds_andW hc).1;rw[hn]at h4;exact h4
  have h5:=condW_of h4 (w_not (w_lt w_lit (w_len_list (w_arg rfl))));rw[j_]at h5;refine Nat.le_of_not_lt fun q=>?_;have q':(n:Int)<((ns.length:Nat):Int):=by omega
  first
   |(rw[decide_eq_true q']at h5;exact absurd h5 (by decide))
   |(simp at h5;omega)
 cases M with
|cons w1 w2=>cases w2;cases w1 with
 |list ho hall=>exact⟨_,_,ns,rfl,rfl,ho,RZ ns _ hall,hlen⟩
theorem PF(l:OpenLaw)(args:List WData):l.row.toRowW.claim.post args (.bool true) args=true:=
 postW_of (r:=l.row.toRowW) (X:=(true==true))
  (show ZJ [] (.bool true) .bool=true by first|rfl|decide|simp[ZJ,WShape.arms,WShape.armsAll])
  (show(WTm.eq .res (.lit (.bool true))).value [] { args:=args,res:=some (.bool true),after:=args }=some (.bool (true==true))from w_eq_bool (w_res rfl) w_lit) rfl
theorem attach_call{l:OpenLaw}{n:Nat}{q:E_}{B:List Str}{XP:(Str->Option a_)->Heap->Prop}{YP:S_->Heap->Prop}{d:DefRec}(hn:l.most=some n)(ad:d.params.defaults=[])(call:∀(w:S_)(s₀ s₁:f_)(mg mb:Str->Option a_)(fa:Addr)(o:Obj)(pm cd doc:a_)(a:Addr)(vs:List a_)(ns:List Int),Ground q B [] XP w s₀ mg mb s₁.heap->YP w s₁.heap ->s₁.heap.get? fa=some o->o.data=.func (docDef d.name d.params d.body d.scope pm cd doc)->s₁.heap.CodeRec cd d.name->mg d.name=some (.ref fa) ->s₁.heap.get? a=some { cls:=.type "list",data:=.seq vs.toArray }->VO vs ns->ns.length<=n->s₁.gens = #[] ->Wx (G_ l.prog w) Xj (.call (.ref fa) ⟨[.ref a],[]⟩) (fun r s'=>r=.ok (.ret (.bool true))/\OldK s₁.heap s'.heap/\s'.os=s₁.os/\Wj s'.gens) s₁):WalkO q B XP YP l.row.toRowW d [] (fun f vs=>PySem.call f vs):=by intro w s₀ s₁ mg mb G Y fa o pm cd doc dV kV ho hd Z hD hmg hg args vals as M dl BT ac Cl;obtain rfl:dV=.none:=Dflts.none hD ad;obtain rfl:kV=.none:=Dflts.noKw hD;obtain⟨a,vs,ns,rfl,rfl,U,L,hlen⟩:=Qk hn M ac;refine enter_call (We (call w s₀ s₁ mg mb fa o pm cd doc a vs ns G Y ho (fd_plain hd) Z hmg U L hlen hg) fun r s' hq=>?_);obtain⟨rfl,h2,h3,h4⟩:=hq;exact⟨.inl ⟨.bool true,.bool true,[],rfl,fun _=>rfl,.bool true,PF l _,fun _=>⟨List.Pairwise.nil,fun _ hm=>(nomatch hm)⟩⟩,h2,h3,h4⟩
end Att
namespace L2
open PySem PySem.Spec PyProof.Rows
theorem Fy:∀{vs:List a_}{ns:List Int},VO vs ns->al (ns.map V.int) vs
|_,_,.nil=>.nil
|_,_,.cons n t h=>.cons ⟨t,rfl⟩ (Fy h)
def mh(H:Hp):Prop:=∀b,H b=none\/∃o xs,H b=some (.frz o (.lst xs))
theorem ND{P:E_}{w:S_}{K:W.Frag}{mg mb:Str->Option a_}{CX:iF}{k:Nat}{fa a:Addr}{fd:UE}{x:Str}{sp:Sp}{s₁:f_}{vs:List a_}{ns:List Int}(KX:K.In s₁.heap)(Z:s₁.heap.Ns Ub mg)(hb:s₁.heap.Ns YZ mb)(Cl:∀x:Str,x≠"__name__"->mb x=VS x)(dl:s₁.heap.NoLimit)(hg:s₁.gens = #[])(ha:s₁.heap.get? a=some { cls:=.type "list",data:=.seq vs.toArray })(hi:VO vs ns)(hl:ns.length<=sizeLine)(hr:Room k Xj)(F:∀base:Heap,K.In base->base.Ns Ub mg->FnOk P w K mg base CX k fa fd [x] sp)(U:∀(s:f_)(u:a_),Ya s fd ⟨[u],[]⟩ [(x,u)])(Id:∀H:Hp,mh H->bh K H a (ns.map V.int)->sp [.ref a] H (fun v _=>v=.bl true) fun _ _ _=>False)(IO:∀H e s',CX [] H s₁ (fun _ _ _=>False) e s'->False):Wx (G_ P w) Xj (.call (.ref fa) ⟨[.ref a],[]⟩) (fun r s'=>r=.ok (.ret (.bool true))/\OldK s₁.heap s'.heap/\s'.os=s₁.os/\Wj s'.gens) s₁:=by
 have rv:=Fy hi;have ac:=hi.length;have M:∀H:Hp,mh H->bh K H a (ns.map V.int)->cB P w H s₁.heap->(∀b,H b≠none->b=a)->(H a≠none->K.lookup a=none) ->Wx (G_ P w) Xj (.call (.ref fa) ⟨[.ref a],[]⟩) (fun r s'=>r=.ok (.ret (.bool true))/\OldK s₁.heap s'.heap/\s'.os=s₁.os/\Wj s'.gens) s₁:=by
  intro H hO hS hok hA hK;have B:∀{b:Addr}{o:Obj},s₁.heap.get? b=some o->H b=none->(eR s₁.heap H).get? b=some o:=fun e n=>Nv e n;have BT:∀{b:Addr}{o:Obj}{es:Array Zs}{ep:Nat},s₁.heap.get? b=some o->o.data=.dict es ep->H b=none:=fun{b o es ep} e d=>by cases q:H b with
  |none=>rfl
  |some u=>have e':b=a:=hA b (by rw[q];simp);subst e';rw[ha]at e;cases e;have d':Data.seq vs.toArray _=Data.dict es ep:=d;cases d'
  have L:∀{b:Addr}{m:Str->Option a_},s₁.heap.Ns b m->(eR s₁.heap H).Ns b m:=fun{b m} ⟨o,es,ep,e,d,r⟩=>⟨o,es,ep,B e (BT e d),d,r⟩
  have Y:K.In (eR s₁.heap H):=fun b o e=>B (KX b o e) (by cases q:H b with
  |none=>rfl
  |some u=>have e':b=a:=hA b (by rw[q];simp);subst e';rw[hK (by rw[q];simp)]at e;cases e)
  have hM:Mod K mg (eR s₁.heap H):=⟨Y,L Z,⟨mb,L hb,Cl⟩,let⟨mc,h1,h2⟩:=dl;⟨mc,L h1,h2⟩⟩
  have e0:Env0 P w K mg (eR s₁.heap H) Xj [] s₁ H:=⟨rfl,hM,fun b o e=>Mu e,Wc (OX _ _),trivial,fun b hb=>absurd (show b∈([]:List Addr)from hb) (by simp),hok,.of_eq hg⟩
  refine We ((F _ Y (L Z)).run Xj [] s₁ H ⟨[.ref a],[]⟩ [.ref a] [.ref a] _ _ hr e0 (U s₁ (.ref a)) (.cons rfl .nil) (Id H hO hS)) fun r s' h=>?_;cases r with
 |error e=>exact(IO H e s' h).elim
 |ok fl=>cases fl with
  |next=>exact U1 h
  |brk=>exact U1 h
  |cont=>exact U1 h
  |ret u=>obtain⟨v,H',os,bare,un,ad,r',q⟩:=h;have q':v=.bl true:=q;subst q';obtain rfl:u=Value.bool true:=r';refine⟨rfl,OldK.of_keep fun b o e=>?_,os,bare⟩;cases q:H b with
   |none=>exact un.keep b o e q (by intro z;exact absurd (show b∈([]:List Addr)from z) (by simp)) (by simp)
   |some u=>
     rcases hO b with z|⟨ob,xs,z⟩
     .rw[q]at z;cases z
     .have z2:=un.frzs b ob _ z;obtain⟨e1,_⟩:=hok b _ z;obtain⟨e2,_⟩:=ad b _ z2;rw[e]at e1;cases e1;exact e2
 cases hk:K.lookup a with
|some o=>have e:=KX a o hk;rw[ha]at e;cases e;refine M (fun _=>none) (fun _=>.inl rfl) (.inr ⟨_,vs.toArray,_,hk,rfl,rfl,rfl,by rw[l_,ac];exact hl,by simpa using rv⟩) (fun b u z=>by have z':(none:Option HO)=some u:=z;cases z') (fun b z=>absurd rfl z) fun z=>absurd rfl z
|none=>
  refine M (fun b=>if b=a then some (.frz { cls:=.type "list",data:=.seq vs.toArray } (.lst (ns.map V.int)))else none) (fun b=>?_) (.inl (.inr ⟨{ cls:=.type "list",data:=.seq vs.toArray },if_pos rfl⟩)) (fun b u z=>?_) (fun b z=>?_) fun _=>hk
  .by_cases hb:b=a
   .exact .inr ⟨_,_,if_pos hb⟩
   .exact .inl (if_neg hb)
  .by_cases hb:b=a
   .have z':=(if_pos hb).symm.trans z;cases z';subst hb;exact⟨ha,by rw[j_];exact hl,vs,_,rv,ha⟩
   .have z':=(if_neg hb).symm.trans z;cases z'
  .by_cases hb:b=a
   .exact hb
   .exact absurd (if_neg hb) z
abbrev aP{K:W.Frag}{h:Heap}(_:K.In h):W.Frag:=K
theorem jO{l:W.OpenLaw}{n k:Nat}{q:E_}{L:List Str}{XP:(Str->Option a_)->Heap->Prop}{YP:S_->Heap->Prop}{d:DefRec}{K:Params->W.Frag}{CX:S_->iF}{sp:S_->Sp}{x:Str}(hn:l.most=some n)(U:n<=sizeLine)(ad:d.params.defaults=[])(hr:Room k Xj)(hY:∀(w:S_)(h:Heap),YP w h->(K w.params).In h)(F:∀(w:S_)(mg:Str->Option a_)(fa:Addr)(h:Heap),(K w.params).In h->h.Ns Ub mg->mg d.name=some (.ref fa) ->∃fd:UE,(∀(s:f_)(u:a_),Ya s fd ⟨[u],[]⟩ [(x,u)]) /\∀base:Heap,(K w.params).In base->base.Ns Ub mg->FnOk l.prog w (K w.params) mg base (CX w) k fa fd [x] (sp w))(Z:∀(w:S_)(H:Hp)(a:Addr)(ns:List Int),ns.length<=n->mh H->bh (K w.params) H a (ns.map V.int)->sp w [.ref a] H (fun v _=>v=.bl true) fun _ _ _=>False)(ac:∀(w:S_)(H:Hp)(s:f_)(e:a_)(s':f_),CX w [] H s (fun _ _ _=>False) e s'->False):W.WalkO q L XP YP l.row.toRowW d [] (fun f vs=>PySem.call f vs):=by refine Att.attach_call hn ad fun w s₀ s₁ mg mb fa o pm cd doc a vs ns G Y ho hd dl hmg M B hlen hg=>?_;have KX:=hY w _ Y;obtain⟨fd,hb,hF⟩:=F w mg fa _ KX G.T.g hmg;exact ND KX G.T.g G.T.b G.T.builtins G.T.nolimit hg M B (Ue hlen U) hr hF hb (fun H hO hS=>Z w H a ns hlen hO hS) fun H e s'=>ac w H s₁ e s'
def aC(s:Stmt):Arguments:=match s with
|.FunctionDef _ a _ _ _ _ _ _ _ _=>a
|_=>{ posonlyargs:=[],args:=[],vararg:=none,kwonlyargs:=[],kw_defaults:=[],kwarg:=none,defaults:=[] }
def ap(s:Stmt):List Stmt:=match s with
|.FunctionDef _ _ b _ _ _ _ _ _ _=>b
|_=>[]
def aa(s:Stmt):VX:=match s with
|.FunctionDef _ _ _ _ _ _ sc _ _ _=>sc
|_=>{ kind:=.function,names:=[],isGenerator:=false,isCoroutine:=false }
abbrev cO:iF:=fun _ _ _ _ _ _=>False
abbrev E0:XK:=fun _ _ _=>False
theorem ji{X:Cx}:ko cO X E0:=fun _ _ _ _ _ _ _ h=>h.elim
structure Fun(K:W.Frag)(x qual:Str)(st:Stmt)(f:Addr)(fd:UE):Prop where
 ex:∃(oc:a_)(od:Option Addr)(kV doc pm:a_)(an:Option Addr)(cdv ct:a_)(osl:Array (Option a_)),fd=W.fnOf x qual (aC st) (ap st) (aa st) .none kV doc pm an cdv ct/\K.lookup f=some ⟨oc,od,.func fd,osl⟩/\W.codeIn K cdv qual=true
 kp:W.keepIn K (.ref f)=true
section
variable{P:E_}{w:S_}{K:W.Frag}{mg:Str->Option a_}{base:Heap}
theorem Fun.ok{x qual:Str}{st:Stmt}{f:Addr}{fd:UE}{N ps:List Str}{k:Nat}{sp:Sp}(F:Fun K x qual st f fd)(S:FnScope N ps (aa st))(len:∀vs H Q E,sp vs H Q E->vs.length=ps.length)(B:∀(cdv:a_)(A:Uc)(outer:List Env)(s:f_)(H:Hp)(vs:List V)(Q:VK)(E:XK),Room k (A.deeper (VB qual (aa st) s.heap.objs.size f cdv))->sp vs H Q E ->∃t,bW (cr cO P w K mg base N qual (aa st) f cdv A outer s H E).nox (ap st) t/\t { nx:=fun _ H'=>Q .non H',rt:=Q } (aJ N vs) H):FnOk P w K mg base cO (k+1) f fd ps sp:=by obtain⟨oc,od,kV,doc,pm,an,cdv,ct,osl,rfl,lk,L⟩:=F.ex;refine BX lk L S len fun A outer s H vs Q E hr M=>?_;obtain⟨t,h,q⟩:=B cdv A outer s H vs Q E hr M;exact⟨t,h.nox,q⟩
theorem Fun.binds{x qual:Str}{st:Stmt}{f:Addr}{fd:UE}{ps:List Str}(F:Fun K x qual st f fd)(h:∀(kV doc pm:a_)(an:Option Addr)(cdv ct:a_)(us:List a_),us.length=ps.length->Wd (W.fnOf x qual (aC st) (ap st) (aa st) .none kV doc pm an cdv ct) ⟨us,[]⟩=pure (ps.zip us)):fK K fd ps []:=by obtain⟨oc,od,kV,doc,pm,an,cdv,ct,osl,rfl,lk,B⟩:=F.ex;exact .all (h kV doc pm an cdv ct)
theorem dm{x qual:Str}{st:Stmt}{f:Addr}{oc:a_}{od an:Option Addr}{osl:Array (Option a_)}{kV doc pm cdv ct:a_}(l:K.lookup f=some ⟨oc,od,.func (W.fnOf x qual (aC st) (ap st) (aa st) .none kV doc pm an cdv ct),osl⟩)(c:W.codeIn K cdv qual=true)(k:W.keepIn K (.ref f)=true):Fun K x qual st f (W.fnOf x qual (aC st) (ap st) (aa st) .none kV doc pm an cdv ct):=⟨⟨oc,od,kV,doc,pm,an,cdv,ct,osl,rfl,l,c⟩,k⟩
end
theorem kh{A:Uc}{k:Nat}(hr:Room k A):A.units+1<Vj:=Nat.lt_of_le_of_lt (Nat.add_le_add_left (by decide:1<=64) _) hr.units
section
variable{X:Cx}
theorem O4:dA X (.builtin "len") (fun xs H Q=>∃a kvs,xs=[V.ref a]/\Rd H a (.dK kvs)/\Q (.int kvs.length) H):=by intro pz s σ H xs us Q I r h;obtain⟨a,kvs,rfl,ha,q⟩:=h;obtain⟨u,rfl,ru⟩:=d6 r;cases ru;exact Jp I ha fun t s' I'=>⟨.int kvs.length,H,I',⟨t,rfl⟩,q⟩
end
end L2
end
namespace DL
open PySem
section
open PySem.SeqAt
open PySem.AutoSeq1 (wpAny_loadPart')
open PySem.MeetsSeq PySem.MeetsSeq2 PySem.MeetsSeq3
end
end DL
namespace DL
open PySem PyProof.Rows
theorem Q5:isSubtype (.type "tuple") (.type "set")=pure false:=by rw[isSubtype_type];kernel_rfl
theorem Rj:isSubtype (.type "tuple") (.type "frozenset")=pure false:=by rw[isSubtype_type];kernel_rfl
section
variable{prog:E_}{w:S_}{A:Uc}{E:a_->f_->Prop}{s:f_}
abbrev dO(led:Bool):Obj:={ cls:=.type "set",dict:=none,data:=.set #[] 0 (.fresh 0 0 led) }
def uX(prog:E_)(w:S_)(s:f_)(ns:List Int)(n:Nat)(h':Heap):Prop:=h'.SetOf (Zu prog w) s.heap.objs.size (fun k=>(Xw (fun i=>ns.getD i 0) n).any (· == k)) (Xw (fun i=>ns.getD i 0) n).length/\∀b o,b<s.heap.objs.size->s.heap.get? b=some o->h'.get? b=some o
set_option maxHeartbeats 3200000 in
theorem Rw{t:Addr}{items:Array a_}{ns:List Int}{led:Bool}{R:Y4->f_->Prop}(hh:A.handled=none)(ht:s.heap.IsTuple t items)(hi:VO items.toList ns)(hb:items.size+1<Vv)(hR:∀h' tk,uX prog w s ns items.size h'->R (.ok (.ret .none)) { s with heap:=h',toks:=tk }):C_ (G_ prog w) A.in1 (WQ.«set.__init__» ⟨[.ref s.heap.objs.size,.ref t],[]⟩) (fun fin s'=>match fin with|.done f=>R (.ok f) s'|.again c'=>c'.quiet=true/\Wx (G_ prog w) A c' R s') (fun e s'=>R (.error e) s') { s with heap:=s.heap.push (dO led) }:=by
 obtain⟨⟨ocls,odict,odata,oslots⟩,hol,hcl,nl,hdl⟩:=ht;simp only at hcl hdl;subst hcl;subst hdl;have hol1:=c_ (dO led) hol;have g1:=Q5;have g2:=Rj;have g3:(Value.type "tuple" == Value.type "dict")=false:=by decide
 have hT1:(s.heap.push (dO led)).IsTuple t items:=⟨_,hol1,rfl,nl,rfl⟩
 have hS:(s.heap.push (dO led)).get? s.heap.objs.size=some (dO led):=r_ _ rfl;unfold WQ.«set.__init__» noKeywords YM;generalize hPI:Y1=PI
 wp_walk
 subst hPI;refine U_ hT1 (b_ (wpAny_runValue ?_));have ltT:t<s.heap.objs.size:=w_ hol;have z1:(s.heap.push (dO led)).objs.size=s.heap.objs.size+1:=UD ..;have neI:t≠(s.heap.push (dO led)).objs.size:=by rw[z1];exact M_ (U0 ltT)
 have hout:s.heap.objs.size∉[(s.heap.push (dO led)).objs.size,t]:=by rw[z1];simp only[n_,J_,or_false,not_or];exact⟨M_ (U6 _),UO ltT⟩
 have hval:∀(i:Nat)(v:a_),items[i]? = some v->∃tk,v=.int ((fun i=>ns.getD i 0) i) tk:=fun i v hv=>Xx hi i v (by rw[US];exact hv);refine codeAny_set_update_loopS ((Walks.tuple (A:=A.in1.in1) hh _ t neI items).toS) s.heap.objs.size hout (fun i=>ns.getD i 0) hval hb (items.size-0) 0 _ (by omega) (Uf _) ⟨⟨_,r_ _ rfl,rfl,rfl⟩,hT1.push _⟩ ?_ fun s' hm hS'=>?_
 .exact SetOf_congr ((setObjOf_fresh (knd:=Zu prog w) led).setOf (c_ _ hS) (by unfold Vv;omega)) (fun _=>rfl) rfl
 .obtain⟨h',g',d',tk',os'⟩:=s';obtain rfl:g'=s.gens:=hm.gens;obtain rfl:d'=s.drawn:=hm.drawn;obtain rfl:os'=s.os:=hm.os;show C_ _ _ _ _ _ _;refine u_ ?_;show C_ _ _ (ret Value.none) _ _ _;refine u_ (hR h' tk' ⟨hS',fun b o hb2 e=>?_⟩);refine hm.heap b o ?_ (c_ _ (c_ _ e));rw[z1];simp only[n_,J_,or_false,not_or];exact⟨M_ hb2,M_ (U0 hb2)⟩
set_option maxHeartbeats 3200000 in
theorem QU{t:Addr}{items:Array a_}{ns:List Int}{Q:a_->f_->Prop}(hh:A.handled=none)(ht:s.heap.IsTuple t items)(hi:VO items.toList ns)(hb:items.size+1<Vv)(h:∀h' tk,uX prog w s ns items.size h'->Q (.ref s.heap.objs.size) { s with heap:=h',toks:=tk }):C_ (G_ prog w) A (call (.type "set") [.ref t]) Q E s:=by
 obtain⟨c,tl,hmro⟩:=F.called_set.mro;have a1:=F.called_set.made;have a2:=F.called_set.sub;refine Y5 (codeAny_of_tree ?_);show C_ _ _ (callAny (.type "set") _) _ _ _;refine u_ ⟨Code.quiet_builtin _ (by decide+kernel),codeAny_builtin F.entry_type_call ?_⟩;rw[Around.under_plain (weight_type_call_type "set" [.ref t] []) rfl];have a3:=F.called_set.notType;have a4:=F.called_set.canCreate;have a5:=F.typeCall_set_1 (.ref t)
 repeat (any_goals (first|assumption|wp_step))
 refine We (code_set_new_1 (.ref t) (E:=E) (Q₁:=fun obj s₁=>∃led:Bool,obj=.ref s.heap.objs.size/\s₁={ s with heap:=s.heap.push (dO led) }) fun led=>⟨led,rfl,rfl⟩) fun r s₁ hr=>?_;cases r with
|error e=>exact hr
|ok fl=>cases fl with
 |ret obj=>
   obtain⟨led,rfl,rfl⟩:=hr;have hT:Shared.TypeIs { s with heap:=s.heap.push (dO led) } (.ref s.heap.objs.size) "set" := ⟨_,r_ _ rfl,rfl⟩
   have b1:=F.called_set.init.lookup;have b2:=F.called_set.init.bind (.ref s.heap.objs.size)
   repeat (any_goals (first|assumption|wp_step))
   refine We (codeAny_call_builtin (R:=wants (fun r s₂=>r=.none/\∃h' tk,s₂={ s with heap:=h',toks:=tk }/\uX prog w s ns items.size h') E) F.called_set.init.plain F.entry_set_init (check_set_init_1 hT ?_)) fun r₂ s₂ hr₂=>?_
   .refine Rw (A:=A.in1) (led:=led) hh ht hi hb fun h2 tk he=>?_;exact⟨rfl,h2,tk,rfl,he⟩
   .cases r₂ with
   |error e=>exact hr₂
   |ok fl₂=>cases fl₂ with
    |ret r=>
      obtain⟨rfl,h',tk,rfl,he⟩:=hr₂
      repeat (any_goals (first|assumption|wp_step))
      exact h _ _ he
    |_=>exact hr₂.elim
 |_=>exact hr.elim
end
end DL
namespace DL
open PySem PyProof.Rows PySem.W
def on{α:Type}(c:Nat->Nat->Bool):KasT α->α
|.ret a=>a
|.ask i j k=>on c (k (c i j))
inductive Asks(n:Nat){α:Type}(P:α->Prop):KasT α->Prop where
 |ret {a:α}:P a->Asks n P (.ret a)
 |ask {i j:Nat} {k:Bool->KasT α}:i<n->j<n->(∀b,Asks n P (k b))->Asks n P (.ask i j k)
theorem Asks.bind{n:Nat}{α β:Type}{P:α->Prop}{P':β->Prop}{t:KasT α}{f:α->KasT β}(h:Asks n P t)(hf:∀a,P a->Asks n P' (f a)):Asks n P' (t.bind f):=by induction h with
|ret h=>exact hf _ h
|ask h1 h2 _ ih=>exact .ask h1 h2 ih
theorem Asks.run{n:Nat}{α:Type}{P:α->Prop}{t:KasT α}(h:Asks n P t)(c:Nat->Nat->Bool):P (on c t):=by induction h with
|ret h=>exact h
|ask _ _ _ ih=>exact ih _
theorem O1{n:Nat}{α:Type}{P:α->Prop}{cmp:Nat->Nat->(Bool->f_->Prop)->f_->Prop}{c:Nat->Nat->Bool}{s:f_}(hc:∀i j C,i<n->j<n->C (c i j) s->cmp i j C s){Q:α->f_->Prop}{t:KasT α}(h:Asks n P t):Q (on c t) s->t.kasWp cmp Q s:=by induction h with
|ret _=>exact fun q=>q
|ask h1 h2 _ ih=>exact fun q=>hc _ _ _ h1 h2 (ih _ q)
def dB(n:Nat)(p:Array Nat):Prop:=p.toList.Perm (t_ n)
theorem dB.bd{n:Nat}{p:Array Nat}(h:dB n p)(hn:0<n)(k:Nat):p.getD k 0<n:=by
 by_cases hk:k<p.size
 .have e:p.getD k 0=p[k]:=by simp[ZK,hk]
  rw[e];exact A_.mp (h.mem_iff.mp (by simp))
 .have e:p.getD k 0=0:=by simp[ZK,hk]
  rw[e];exact hn
theorem dB.rev{n:Nat}{p:Array Nat}(h:dB n p)(i j:Nat):dB n (kas_rev p i j):=(WI.mp (mirror_perm p i j ((j-i)/2))).trans h
theorem dB.bub{n:Nat}{p:Array Nat}(h:dB n p)(i j:Nat):dB n (bubble p i j):=(WI.mp (bubble_perm p i j)).trans h
section
variable{n:Nat}(hn:0<n)
include hn
theorem wW{p:Array Nat}(h:dB n p):∀f k,Asks n (fun _=>True) (kas_asc p f k)
|0,k=>.ret trivial
|f+1,k=>.ask (h.bd hn _) (h.bd hn _) fun b=>by cases b with
 |true=>rw[if_pos rfl];exact .ret trivial
 |false=>rw[if_neg g_];exact wW h f (k+1)
theorem rA:∀f (p:Array Nat) k q,dB n p->Asks n (fun r=>dB n r.1) (kas_desc f p k q)
|0,p,k,q,h=>.ret h
|f+1,p,k,q,h=>.ask (h.bd hn _) (h.bd hn _) fun b=>by cases b with
 |true=>
   rw[if_pos rfl];split
   .exact rA f _ _ _ (h.rev _ _)
   .exact rA f _ _ _ h
 |false=>rw[if_neg g_];refine .ask (h.bd hn _) (h.bd hn _) fun b=>?_;cases b with
  |true=>rw[if_pos rfl];exact .ret h
  |false=>rw[if_neg g_];exact rA f _ _ _ h
theorem Fh{p:Array Nat}(h:dB n p)(a b:Nat):Asks n (fun r=>dB n r.2) (kas_tail3 a b p):=Asks.bind (wW hn (h.rev 0 a) _ _) fun m _=>.ret (h.rev 0 a)
theorem GA{p:Array Nat}(h:dB n p)(a b:Nat):Asks n (fun r=>dB n r.2) (kas_descPart a b p):=by
 refine Asks.bind (rA hn _ p _ _ h) fun r hr=>?_;split
 .exact Fh hn (hr.rev _ _) _ _
 .exact Fh hn hr _ _
theorem Qh{p:Array Nat}(h:dB n p)(a:Nat):Asks n (fun r=>dB n r.2) (kas_count a p):=by
 refine Asks.bind (wW hn h _ _) fun k _=>?_;split
 .exact .ret h
 .split
  .refine .ask (h.bd hn _) (h.bd hn _) fun b=>?_;cases b with
  |true=>rw[if_pos rfl];exact .ret h
  |false=>rw[if_neg g_];exact GA hn (h.rev _ _) _ _
  .exact GA hn h _ _
theorem yP{p:Array Nat}(h:dB n p)(k:Nat):∀f l r,Asks n (fun _=>True) (kas_place p k f l r)
|0,l,r=>.ret trivial
|f+1,l,r=>by
  unfold kas_place;split
  .exact .ret trivial
  .refine .ask (h.bd hn _) (h.bd hn _) fun b=>?_;cases b with
  |true=>rw[if_pos rfl];exact yP h k f _ _
  |false=>rw[if_neg g_];exact yP h k f _ _
theorem EL:∀f (p:Array Nat) k,dB n p->Asks n (dB n) (kas_bin f p k)
|0,p,k,h=>.ret h
|f+1,p,k,h=>Asks.bind (yP hn h k _ _ _) fun l _=>EL f _ _ (h.bub _ _)
theorem Fg:Asks n (dB n) (kas_sort n):=by
 refine Asks.bind (Qh hn (p:=List.toArray (t_ n)) (by unfold dB;simp) n) fun r hr=>?_;split
 .exact EL hn _ _ _ hr
 .exact .ret hr
end
def jc(n:Nat)(c:Nat->Nat->Bool):List Nat:=if n<2 then t_ n else(on c (kas_sort n)).toList
theorem yU(n:Nat)(c:Nat->Nat->Bool):(jc n c).Perm (t_ n):=by
 unfold jc;split
 .exact .refl _
 .exact(Fg (n:=n) (by omega)).run c
def i6:List Int->List Int->Bool
|[],[]=>false
|[],_::_=>true
|_::_,[]=>false
|x::xs,y::ys=>if x=y then i6 xs ys else decide (x<y)
def gW(fin:Bool):List (List Int)->List (List Int)->Bool
|k::ks,l::ls=>if k=l then gW fin ks ls else i6 k l
|_,_=>fin
def d4(ks ls:List (List Int)):Bool:=gW (decide (ks.length<ls.length)) ks ls
end DL
namespace DL
open PySem PyProof.Rows PySem.W PySem.Calls
section
variable{prog:E_}{w:S_}{A:Uc}{E:a_->f_->Prop}{s:f_}
theorem Qv{a:Addr}{vs:List a_}{n:Nat}{P:PySem.Fin->f_->Prop}(ho:s.heap.get? a=some (W0 "list" vs.toArray n))(h2:vs.length<2)(h:∀h' c,(∀b o,b≠a->s.heap.get? b=some o->h'.get? b=some o)->h'.get? a=some (W0 "list" vs.toArray c)->P (.done (.ret .none)) { s with heap:=h' }):C_ (G_ prog w) A (WQ.«list.sort» ⟨[.ref a],[]⟩) P E s:=by
 have B:vs.length<=sizeLine:=by rw[N_];omega
 have up:=fun(h:Heap)(f:Array a_->Array a_)=>Wt h a (VC f);obtain⟨e1,U⟩:∃e1,(s.heap.update a (VC fun _=>(#[]:Array a_))).get? a=some (W0 "list" #[] e1):=⟨_,YN ho fun _=>#[]⟩
 rw[list_sort_plain];refine b_ (listItems_at ho rfl (b_ (listUpdate_at ho rfl ?_ (by rw[l_];exact B) (Uf _))));refine b_ (seqEpoch_at U rfl (b_ (wpAny_newTuple (b_ (wpAny_newList (Vo ?_) (Uf _))) (by show vs.length<=_;exact B))))
 dsimp only
 have hlt:vs.toArray.size<2:=by rw[l_];exact h2
 rw[if_pos hlt,if_pos hlt];refine b_ (u_ ?_);have Y:(pure ():StateT SortSt Sem Unit).run (Za general' (vs.toArray.zip vs.toArray) #[] 7 none)=pure ((),Za general' (vs.toArray.zip vs.toArray) #[] 7 none):=rfl;rw[Y];refine b_ (u_ ?_)
 dsimp only
 have hout:(arrOf (Za general' (vs.toArray.zip vs.toArray) #[] 7 none)).map (·.2)=vs.toArray:=by show((vs.toArray.zip vs.toArray).map (·.2))=vs.toArray;apply ZL;simp[Yt]
 rw[hout];have L:∀b o,(s.heap.update a (VC fun _=>(#[]:Array a_))).get? b=some o->(((s.heap.update a (VC fun _=>(#[]:Array a_))).push (W0 "tuple" vs.toArray 0)).push (W0 "list" #[] 0)).get? b=some o:=fun b o e=>c_ _ (c_ _ e);have M:=L _ _ U;refine b_ (seqEpoch_at M rfl (b_ (listUpdate_at M rfl ?_ (Uf _) (by rw[l_];exact Nat.le_succ_of_le B))));simp only[bne_self_eq_false,X0,if_false];refine u_ (h _ _ (fun b o hb e=>?_) (YN M fun _=>vs.toArray));exact((up _ _).2 b hb).trans (L b o (((up _ _).2 b hb).trans e))
theorem Ri{l:Addr}{vs:List a_}{Q:a_->f_->Prop}(hl:s.heap.IsList l vs.toArray)(h2:vs.length<2)(h:∀h' c D,(∀b o,s.heap.get? b=some o->h'.get? b=some o)->s.heap.objs.size<=D->h'.get? D=some (W0 "list" vs.toArray c)->Q (.ref D) { s with heap:=h' }):C_ (G_ prog w) A (call (.builtin "sorted") [.ref l]) Q E s:=by
 refine Calls.call_function_entry kind_sorted plain_sorted entry_sorted (args_sorted1 _) ?_;unfold WQ.«sorted»;refine b_ (m:=checkCount "sorted" 1 1 _) (u_ (b_ (collect_list hl ?_ (by rw[N_];omega))));refine b_ (wpAny_newList ?_ (by rw[N_];omega));generalize hH:((s.heap.push (W0 "list" #[] 0)).update s.heap.objs.size (VC (·++vs.toArray)))=H1;have hsz:H1.objs.size=s.heap.objs.size+1:=by rw[<-hH,Heap.size_update,size_push']
 have keep:∀b o,s.heap.get? b=some o->(H1.push (W0 "list" vs.toArray 0)).get? b=some o:=fun b o q=>by have hlt:b<s.heap.objs.size:=w_ q;refine c_ _ ?_;rw[<-hH,Heap.get?_update_ne _ _ _ _ (M_ hlt)];exact c_ _ q
 have B:(H1.push (W0 "list" vs.toArray 0)).get? H1.objs.size=some (W0 "list" vs.toArray 0):=r_ _ rfl;refine b_ (Vo (U7 slot_list_sort ⟨_,B,rfl⟩ entry_list_sort ?_ (args_list_sort _)));refine Qv (s:={ s with heap:=H1.push (W0 "list" vs.toArray 0) }) B h2 fun h' c kp hD=>?_;refine⟨_,rfl,u_ ⟨_,rfl,h h' c _ (fun b o e=>kp b o ?_ (keep b o e)) (by rw[hsz];exact WP _) hD⟩⟩;rw[hsz];exact M_ (U0 (w_ e))
end
end DL
namespace DL
open PySem PySem.Spec PyProof.Rows L2 PySem.W PySem.Calls
def Sg(h B:Heap)(a:Addr)(cls:a_)(od L:Option Addr):Prop:=∃oe vs,h.get? a=some oe/\oe.cls=cls/\(∀dx,od=some dx->oe.dict=some dx)/\oe.data=.fields vs /\(vs[1]? = some Value.none\/(∃T oT ts,vs[1]? = some (.ref T)/\B.get? T=none/\T≠a/\h.get? T=some oT/\oT.data=.fields ts/\ts[3]? = some Value.none) \/∃l T oT ts,L=some l/\vs[1]? = some (.ref T)/\B.get? T=none/\T≠a/\h.get? T=some oT/\oT.data=.fields ts/\ts[3]? = some (Xa ↑l))
def AT(st:List Env):Option Addr:=st.head?.bind (·.frame)
structure Fly(P:E_)(w:S_)(st:List Env)(H:Hp)(s:f_)(H':Hp)(a:Addr)(cls:a_)(od:Option Addr)(s':f_):Prop where
 os:s'.os=s.os
 bare:Wj s'.gens
 un:Un (gF st) [] H H' s.heap s'.heap
 hok:cB P w H' s'.heap
 ex:∃B:Heap,B.StaysIn s'.heap/\B.get? a=none/\s'.heap.FunFrames B st/\Sg s'.heap B a cls od (AT st) /\(∀b o,s.heap.get? b=some o->b∉gF st->∃o',B.get? b=some o')/\∀b u,H' b=some u->∃o',B.get? b=some o'
end DL
namespace DL
open PySem PySem.Spec PyProof.Rows L2
inductive D where
 |non|bl (b:Bool)|int (i:Int)|str (x:Str)
 |tup (ds:List D)|lst (ds:List D)
 |dic (kvs:List (aG×D))
 |obj (c:Nat) (fs:List (Str×D))
instance:Inhabited D:=⟨.non⟩
inductive Res(α:Type) where
 |ok (a:α)|exc (x:D)|stuck
def Res.bind{α β:Type}(r:Res α)(f:α->Res β):Res β:=match r with
|.ok a=>f a
|.exc x=>.exc x
|.stuck=>.stuck
@[simp] theorem bind_ok{α β:Type}(a:α)(f:α->Res β):(Res.ok a).bind f=f a:=rfl
def fin{α:Type}(r:Res α)(q:α->Prop)(x:D->Prop):Prop:=match r with
|.ok a=>q a
|.exc e=>x e
|.stuck=>False
theorem ba{α:Type}{r:Res α}{q q':α->Prop}{x:D->Prop}(h:fin r q x)(hq:∀a,q a->q' a):fin r q' x:=by cases r with
|ok a=>exact hq a h
|exc e=>exact h
|stuck=>exact h
theorem bg{α β:Type}{r:Res α}{f:α->Res β}{q:β->Prop}{x:D->Prop}(h:fin (r.bind f) q x):fin r (fun a=>fin (f a) q x) x:=by cases r with
|ok a=>exact h
|exc e=>exact h
|stuck=>exact h
abbrev GH:=Addr->Option D
inductive Scl:V->D->Prop where
 |non:Scl .non .non
 |bl (b:Bool):Scl (.bl b) (.bl b)
 |int (i:Int):Scl (.int i) (.int i)
 |str (x:Str):Scl (.str x) (.str x)
inductive KC(K:W.Frag)(a:Addr):D->Prop where
|lst {xs:List V} {ds:List D}:bh K (fun _=>none) a xs->Paired Scl xs ds->KC K a (.lst ds)
|tup {xs:List V} {ds:List D}:bU K (fun _=>none) a xs->Paired Scl xs ds->(∃o,K.lookup a=some o/\o.cls=.type "tuple"/\o.dict=none)->KC K a (.tup ds)
inductive RG(K:W.Frag)(G:GH):V->D->Prop where
 |scl {v:V} {d:D}:Scl v d->RG K G v d
 |ref {a:Addr} {d:D}:G a=some d->RG K G (.ref a) d
 |kc {a:Addr} {d:D}:KC K a d->RG K G (.ref a) d
abbrev bx(K:W.Frag)(G:GH):List V->List D->Prop:=Paired (RG K G)
abbrev eu(K:W.Frag)(G:GH):List (aG×V)->List (aG×D)->Prop:=Paired fun p q=>p.1=q.1/\RG K G p.2 q.2
abbrev xD(nm:Str)(ds:List (Str×D)):D:=.obj 0 (("__class__",.str nm)::ds)
def XN(K:W.Frag)(nm:Str)(C:Addr):Prop:=∃o cd,K.lookup C=some o/\o.data=Data.cls cd/\cd.name=nm
def Sx(a C:Addr)(od:Option Addr):Heap->Prop:=fun h=>∃oe vs,h.get? a=some oe/\oe.cls=.ref C/\(∀dx,od=some dx->oe.dict=some dx)/\oe.data=.fields vs
def XF(G:GH)(od:Option Addr)(ds:List (Str×D)):Prop:=match od with
|none=>ds=[]
|some dx=>G dx=some (.obj 1 ds)
theorem XF.mono{G G':GH}{od:Option Addr}{ds:List (Str×D)}(h:XF G od ds)(ge:∀a d,G a=some d->G' a=some d):XF G' od ds:=by cases od with
|none=>exact h
|some dx=>exact ge _ _ h
abbrev gy(K:W.Frag)(G:GH):List (Str×V)->List (Str×D)->Prop:=Paired fun p q=>p.1=q.1/\RG K G p.2 q.2
abbrev iD(nm:Str)(ds:List (Str×D)):D:=.obj 2 (("__class__",.str nm)::ds)
inductive OB(K:W.Frag)(G:GH)(H:Hp)(a:Addr):D->Prop where
 |lst {xs:List V} {ds:List D}:Rd H a (.lst xs)->bx K G xs ds->OB K G H a (.lst ds)
 |tup {xs:List V} {ds:List D}:Rd H a (.tup xs)->bx K G xs ds->OB K G H a (.tup ds)
 |dic {ob:Obj} {ps:List (aG×V)} {kvs:List (aG×D)}:H a=some (.frz ob (.dK ps))->eu K G ps kvs->OB K G H a (.dic kvs)
 |exc {nm:Str} {C:Addr} {od:Option Addr} {ds:List (Str×D)}:H a=some (.ext (Sx a C od))->XN K nm C->XF G od ds->OB K G H a (xD nm ds)
 |fld {fs:List (Str×V)} {ds:List (Str×D)}:H a=some (.xd fs)->gy K G fs ds->OB K G H a (.obj 1 ds)
 |ins {nm:Str} {C dx:Addr} {fs:List (Str×V)} {ds:List (Str×D)}:H a=some (.ins C dx fs)->XN K nm C->gy K G fs ds->OB K G H a (iD nm ds)
def aU(K:W.Frag)(G:GH)(H:Hp):Prop:=∀a d,G a=some d->OB K G H a d
inductive OwnO(K:W.Frag)(G:GH)(H:Hp)(a:Addr):D->Prop where
 |lst {xs:List V} {ds:List D}:H a=some (.lst xs)->bx K G xs ds->OwnO K G H a (.lst ds)
 |dic {ps:List (aG×V)} {kvs:List (aG×D)}:H a=some (.dK ps)->eu K G ps kvs->OwnO K G H a (.dic kvs)
structure Own(K:W.Frag)(G:GH)(H:Hp)(a:Addr)(d:D):Prop where
 un:G a=none
 ob:OwnO K G H a d
structure Grow(K:W.Frag)(G:GH)(H:Hp)(G':GH)(H':Hp):Prop where
 ok:aU K G' H'
 he:∀a o,H a=some o->H' a=some o
 ge:∀a d,G a=some d->G' a=some d
 gf:∀a,H a≠none->G' a=G a
variable{K:W.Frag}{G G' G2:GH}{H H' H2:Hp}{d:D}{v:V}
section
variable{G1:GH}{H1:Hp}{a p:Addr}
theorem Rd.mono{u:HO}(h:Rd H a u)(he:∀a o,H a=some o->H' a=some o):Rd H' a u:=by
 rcases h with h|⟨o,h⟩
 .exact .inl (he _ _ h)
 .exact .inr ⟨o,he _ _ h⟩
theorem Rd.isS{u:HO}(h:Rd H a u):H a≠none:=by rcases h with h|⟨o,h⟩ <;> rw[h] <;> simp
theorem RG.mono(h:RG K G v d)(ge:∀a d,G a=some d->G' a=some d):RG K G' v d:=by cases h with
|scl s=>exact .scl s
|ref e=>exact .ref (ge _ _ e)
|kc k=>exact .kc k
theorem bx.mono{xs:List V}{ds:List D}(h:bx K G xs ds)(ge:∀a d,G a=some d->G' a=some d):bx K G' xs ds:=Paired.mono (fun _ _ r=>r.mono ge) h
theorem eu.mono{xs:List (aG×V)}{ds:List (aG×D)}(h:eu K G xs ds)(ge:∀a d,G a=some d->G' a=some d):eu K G' xs ds:=Paired.mono (fun _ _ r=>⟨r.1,r.2.mono ge⟩) h
theorem OB.mono(h:OB K G H a d)(ge:∀a d,G a=some d->G' a=some d)(he:∀o,H a=some o->H' a=some o):OB K G' H' a d:=by
 have rd:∀{u:HO},Rd H a u->Rd H' a u:=fun r=>by
  rcases r with r|⟨o,r⟩
  .exact .inl (he _ r)
  .exact .inr ⟨o,he _ r⟩
 cases h with
|lst r s=>exact .lst (rd r) (s.mono ge)
|tup r s=>exact .tup (rd r) (s.mono ge)
|dic r s=>exact .dic (he _ r) (eu.mono s ge)
|exc r n f=>exact .exc (he _ r) n (f.mono ge)
|fld r s=>exact .fld (he _ r) (Paired.mono (fun _ _ r=>⟨r.1,r.2.mono ge⟩) s)
|ins r n s=>exact .ins (he _ r) n (Paired.mono (fun _ _ r=>⟨r.1,r.2.mono ge⟩) s)
theorem OB.isS(h:OB K G H a d):H a≠none:=by cases h with
|lst r s=>exact Rd.isS r
|tup r s=>exact Rd.isS r
|dic r s=>rw[r];simp
|exc r n f=>rw[r];simp
|fld r s=>rw[r];simp
|ins r n s=>rw[r];simp
theorem aU.isN(g:aU K G H)(h:H p=none):G p=none:=by cases e:G p with
|none=>rfl
|some d=>exact absurd h (g p d e).isS
theorem OwnO.isS(h:OwnO K G H a d):H a≠none:=by cases h with
|lst r s=>rw[r];simp
|dic r s=>rw[r];simp
theorem OwnO.mono(h:OwnO K G H a d)(ge:∀a d,G a=some d->G' a=some d)(he:∀o,H a=some o->H' a=some o):OwnO K G' H' a d:=by cases h with
|lst r s=>exact .lst (he _ r) (s.mono ge)
|dic r s=>exact .dic (he _ r) (eu.mono s ge)
theorem Own.mono(h:Own K G H a d)(w:Grow K G H G' H'):Own K G' H' a d:=⟨by rw[w.gf a h.ob.isS];exact h.un,h.ob.mono w.ge fun o e=>w.he _ _ e⟩
def fz(H:Hp)(a:Addr)(ob:Obj):Hp:=match H a with
|some (.dK ps)=>aB H a (.frz ob (.dK ps))
|_=>H
theorem nY{b:Addr}{ob:Obj}(h:b≠a):fz H a ob b=H b:=by unfold fz;cases e:H a with
|none=>rfl
|some u=>cases u <;> first|rfl|exact bf h
theorem JY{xs:List V}{ob:Obj}(h:H a=some (.lst xs)):fz H a ob=H:=by unfold fz;rw[h]
theorem JX{ps:List (aG×V)}{ob:Obj}(h:H a=some (.dK ps)):fz H a ob a=some (.frz ob (.dK ps)):=by unfold fz;rw[h];exact bB
theorem OwnO.fast(h:OwnO K G H a d)(ob:Obj):OB K G (fz H a ob) a d:=by cases h with
|lst r s=>rw[JY r];exact .lst (.inl r) s
|dic r s=>exact .dic (JX r) s
theorem aU.fast(g:aU K G H)(hn:G a=none)(ob:Obj):aU K G (fz H a ob):=fun b d e=>by
 have hb:b≠a:=by rintro rfl;rw[hn]at e;cases e
 exact(g b d e).mono (fun _ _ z=>z) fun o z=>by rw[nY hb];exact z
theorem Grow.refl(g:aU K G H):Grow K G H G H:=⟨g,fun _ _ e=>e,fun _ _ e=>e,fun _ _=>rfl⟩
theorem Grow.trans(x:Grow K G H G1 H1)(y:Grow K G1 H1 G2 H2):Grow K G H G2 H2:=
 ⟨y.ok,fun a o e=>y.he _ _ (x.he _ _ e),fun a d e=>y.ge _ _ (x.ge _ _ e),fun a h=>by
  have h1:H1 a≠Option.none:=by cases e:H a with
  |none=>exact absurd e h
  |some o=>rw[x.he _ _ e];simp
  rw[y.gf a h1,x.gf a h]⟩
def gset(G:GH)(a:Addr)(d:D):GH:=fun b=>if b=a then some d else G b
theorem gD:gset G a d a=some d:=if_pos rfl
theorem kB{b:Addr}(h:b≠a):gset G a d b=G b:=if_neg h
theorem iP(hn:G a=none):∀b e,G b=some e->gset G a d b=some e:=fun b e h=>by
 have:b≠a:=by rintro rfl;rw[hn]at h;cases h
 rw[kB this];exact h
theorem aU.gset(g:aU K G H)(hn:G a=none)(o:OB K G H a d):aU K (gset G a d) H:=fun b e h=>by
 by_cases hb:b=a
 .subst hb;rw[gD]at h;cases h;exact o.mono (iP hn) fun _ q=>q
 .rw[kB hb]at h;exact(g b e h).mono (iP hn) fun _ q=>q
theorem vI(hn:H p=none){o:HO}:∀a u,H a=some u->aB H p o a=some u:=fun a u e=>by rw[bf (kM e hn)];exact e
theorem Grow.new(g:aU K G H)(hn:H p=none)(o:HO):Grow K G H G (aB H p o):=⟨fun a d e=>(g a d e).mono (fun _ _ q=>q) fun u q=>vI hn _ _ q,fun a u e=>vI hn _ _ e,fun _ _ e=>e,fun _ _=>rfl⟩
theorem Grow.newF(g:aU K G H)(hn:H p=none){o:HO}(ob:OB K G (aB H p o) p d):Grow K G H (gset G p d) (aB H p o):=by have w:=Grow.new g hn o;have gn:=g.isN hn;exact⟨w.ok.gset gn ob,w.he,fun a e h=>iP gn a e h,fun a h=>kB (by rintro rfl;exact h hn)⟩
theorem Grow.frz(w:Grow K G H G' H')(hn:H a=none)(o:Own K G' H' a d)(ob:Obj):Grow K G H (gset G' a d) (fz H' a ob):=⟨(w.ok.fast o.un ob).gset o.un (o.ob.fast ob),fun b u e=>by rw[nY (by rintro rfl;rw[hn]at e;cases e)];exact w.he b u e,fun b e h=>iP o.un b e (w.ge b e h),fun b h=>by rw[kB (by rintro rfl;exact h hn)];exact w.gf b h⟩
theorem RG.lst{ds:List D}(g:aU K G H)(h:RG K G v (.lst ds)):∃a xs,v=.ref a/\bh K H a xs/\bx K G xs ds:=by cases h with
|scl s=>cases s
|ref e=>cases g _ _ e with
 |lst r s=>exact⟨_,_,rfl,.inl r,s⟩
|kc k=>cases k with
 |lst r s=>
   refine⟨_,_,rfl,?_,Paired.mono (fun _ _ z=>.scl z) s⟩;rcases r with(r|⟨o,r⟩)|r
   .cases r
   .cases r
   .exact .inr r
theorem RG.tup{ds:List D}(g:aU K G H)(h:RG K G v (.tup ds)):∃a xs,v=.ref a/\bU K H a xs/\bx K G xs ds:=by cases h with
|scl s=>cases s
|ref e=>cases g _ _ e with
 |tup r s=>exact⟨_,_,rfl,.inl r,s⟩
|kc k=>cases k with
 |tup r s _=>
   refine⟨_,_,rfl,?_,Paired.mono (fun _ _ z=>.scl z) s⟩;rcases r with(r|⟨o,r⟩)|r
   .cases r
   .cases r
   .exact .inr r
theorem RG.dic{kvs:List (aG×D)}(g:aU K G H)(h:RG K G v (.dic kvs)):∃a ps,v=.ref a/\Rd H a (.dK ps)/\eu K G ps kvs:=by cases h with
|scl s=>cases s
|ref e=>cases g _ _ e with
 |dic r s=>exact⟨_,_,rfl,.inr ⟨_,r⟩,s⟩
|kc k=>cases k
theorem RG.int{i:Int}(g:aU K G H)(h:RG K G v (.int i)):v=.int i:=by cases h with
|scl s=>cases s;rfl
|ref e=>cases g _ _ e
|kc k=>cases k
theorem RG.str{x:Str}(g:aU K G H)(h:RG K G v (.str x)):v=.str x:=by cases h with
|scl s=>cases s;rfl
|ref e=>cases g _ _ e
|kc k=>cases k
theorem RG.bl{b:Bool}(g:aU K G H)(h:RG K G v (.bl b)):v=.bl b:=by cases h with
|scl s=>cases s;rfl
|ref e=>cases g _ _ e
|kc k=>cases k
theorem RG.non(g:aU K G H)(h:RG K G v .non):v=.non:=by cases h with
|scl s=>cases s;rfl
|ref e=>cases g _ _ e
|kc k=>cases k
def RB(K:W.Frag)(G:GH)(H:Hp)(v:V)(d:D):Prop:=RG K G v d\/∃a,v=.ref a/\Own K G H a d
theorem RG.rb(h:RG K G v d):RB K G H v d:=.inl h
theorem RB.mono(h:RB K G H v d)(w:Grow K G H G' H'):RB K G' H' v d:=by
 rcases h with h|⟨a,e,h⟩
 .exact .inl (h.mono w.ge)
 .exact .inr ⟨a,e,h.mono w⟩
theorem RB.lst{ds:List D}(g:aU K G H)(h:RB K G H v (.lst ds)):∃a xs,v=.ref a/\bh K H a xs/\bx K G xs ds:=by
 rcases h with h|⟨a,e,h⟩
 .exact h.lst g
 .cases h.ob with
 |lst r s=>exact⟨a,_,e,bh.of r,s⟩
theorem RB.tup{ds:List D}(g:aU K G H)(h:RB K G H v (.tup ds)):∃a xs,v=.ref a/\bU K H a xs/\bx K G xs ds:=by
 rcases h with h|⟨a,e,h⟩
 .exact h.tup g
 .cases h.ob
theorem RB.dic{kvs:List (aG×D)}(g:aU K G H)(h:RB K G H v (.dic kvs)):∃a ps,v=.ref a/\Rd H a (.dK ps)/\eu K G ps kvs:=by
 rcases h with h|⟨a,e,h⟩
 .exact h.dic g
 .cases h.ob with
 |dic r s=>exact⟨a,_,e,.inl r,s⟩
theorem RB.int{i:Int}(g:aU K G H)(h:RB K G H v (.int i)):v=.int i:=by
 rcases h with h|⟨a,e,h⟩
 .exact h.int g
 .cases h.ob
theorem RB.str{x:Str}(g:aU K G H)(h:RB K G H v (.str x)):v=.str x:=by
 rcases h with h|⟨a,e,h⟩
 .exact h.str g
 .cases h.ob
theorem RB.bl{b:Bool}(g:aU K G H)(h:RB K G H v (.bl b)):v=.bl b:=by
 rcases h with h|⟨a,e,h⟩
 .exact h.bl g
 .cases h.ob
theorem RB.non(g:aU K G H)(h:RB K G H v .non):v=.non:=by
 rcases h with h|⟨a,e,h⟩
 .exact h.non g
 .cases h.ob
theorem Paired.get{α β:Type}{F:α->β->Prop}:∀{l:List α}{r:List β}{i:Nat}{b:β},Paired F l r->r[i]? = some b->∃a,l[i]? = some a/\F a b
|_,_,_,_,.nil,e=>by simp at e
|_,_,0,_,.cons h _,e=>by simp at e;subst e;exact⟨_,rfl,h⟩
|_,_,i+1,b,.cons _ t,e=>by obtain⟨a,h1,h2⟩:=Paired.get (i:=i) t (by simpa using e);exact⟨a,by simpa using h1,h2⟩
theorem Paired.app{α β:Type}{F:α->β->Prop}{l l':List α}{r r':List β}(h:Paired F l r)(q:Paired F l' r'):Paired F (l++l') (r++r'):=by induction h with
|nil=>exact q
|cons h _ ih=>exact .cons h ih
theorem Paired.tk{α β:Type}{F:α->β->Prop}{l:List α}{r:List β}(n:Nat)(h:Paired F l r):Paired F (l.take n) (r.take n):=by induction h generalizing n with
|nil=>cases n <;> exact .nil
|cons h _ ih=>cases n with
 |zero=>exact .nil
 |succ n=>exact .cons h (ih n)
theorem Paired.dr{α β:Type}{F:α->β->Prop}{l:List α}{r:List β}(n:Nat)(h:Paired F l r):Paired F (l.drop n) (r.drop n):=by induction h generalizing n with
|nil=>cases n <;> exact .nil
|cons h t ih=>cases n with
 |zero=>exact .cons h t
 |succ n=>exact ih n
theorem Paired.st{α β:Type}{F:α->β->Prop}{a:α}{b:β}(h:F a b){l:List α}{r:List β}(n:Nat)(p:Paired F l r):Paired F (l.set n a) (r.set n b):=by induction p generalizing n with
|nil=>exact .nil
|cons q t ih=>cases n with
 |zero=>exact .cons h t
 |succ n=>exact .cons q (ih n)
theorem Paired.er{α β:Type}{F:α->β->Prop}{l:List α}{r:List β}(n:Nat)(p:Paired F l r):Paired F (l.eraseIdx n) (r.eraseIdx n):=by induction p generalizing n with
|nil=>exact .nil
|cons q t ih=>cases n with
 |zero=>exact t
 |succ n=>exact .cons q (ih n)
end
inductive Md where
 |sh|ow|bw
 deriving DecidableEq
abbrev am:=List (Option D)
structure GE where
 gh:GH
 h0:Hp
 hd:Nat->Option (Option V×Option D)
def Bw(K:W.Frag)(h0:Hp)(G:GH)(H:Hp)(v:V)(d:D):Prop:=RG K G v d\/∃a,v=V.ref a/\Own K G H a d/\h0 a≠none
theorem Bw.grow{K:W.Frag}{h0:Hp}{G G':GH}{H H':Hp}{v:V}{d:D}(h:Bw K h0 G H v d)(w:Grow K G H G' H'):Bw K h0 G' H' v d:=by
 rcases h with h|⟨a,e,h1,h2⟩
 .exact .inl (h.mono w.ge)
 .exact .inr ⟨a,e,h1.mono w,h2⟩
theorem Bw.rb{K:W.Frag}{h0:Hp}{G:GH}{H:Hp}{v:V}{d:D}(h:Bw K h0 G H v d):RB K G H v d:=by
 rcases h with h|⟨a,e,h1,h2⟩
 .exact .inl h
 .exact .inr ⟨a,e,h1⟩
def Lk(r:am)(st:L2.St)(i:Nat)(o:Option V×Option D):Prop:=st[i]? = some o.1/\∀d,r[i]? = some (some d)->o.2=some d
structure SI(X:Cx)(g:GE)(m:List Md)(r:am)(G:GH)(st:L2.St)(H:Hp):Prop where
 gok:aU X.K G H
 old:∀a o,g.h0 a=some o->H a=some o
 ge:∀a d,g.gh a=some d->G a=some d
 gf:∀a,g.h0 a≠none->G a=g.gh a
 lm:m.length=st.length
 lr:r.length=st.length
 sh:∀(i:Nat) d,r[i]? = some (some d)->m[i]? = some .sh->∃v,st[i]? = some (some v)/\RG X.K G v d
 ow:∀(i:Nat) d,r[i]? = some (some d)->m[i]? = some .ow->∃a,st[i]? = some (some (V.ref a))/\Own X.K G H a d/\g.h0 a=none
 bw:∀(i:Nat) d,r[i]? = some (some d)->m[i]? = some .bw->∃v,st[i]? = some (some v)/\Bw X.K g.h0 G H v d
 dis:∀(i j:Nat) a d e,i≠j->r[i]? = some (some d)->r[j]? = some (some e)->m[i]? = some .ow->m[j]? = some .ow->st[i]? = some (some (V.ref a))->st[j]? = some (some (V.ref a))->False
 lk:∀(i:Nat) o,g.hd i=some o->m[i]? = some .bw->Lk r st i o
variable{X:Cx}{g:GE}{m:List Md}{r:am}
section
variable{st:L2.St}
theorem SI.grow(s:SI X g m r G st H)(w:Grow X.K G H G' H'):SI X g m r G' st H' where
 gok:=w.ok
 old:=fun a o e=>w.he _ _ (s.old a o e)
 ge:=fun a d e=>w.ge _ _ (s.ge a d e)
 gf:=fun a h=>by
  have h1:H a≠none:=by cases e:g.h0 a with
  |none=>exact absurd e h
  |some o=>rw[s.old _ _ e];simp
  rw[w.gf a h1,s.gf a h]
 lm:=s.lm
 lr:=s.lr
 sh:=fun i d h1 h2=>by obtain⟨v,h3,h4⟩:=s.sh i d h1 h2;exact⟨v,h3,h4.mono w.ge⟩
 ow:=fun i d h1 h2=>by obtain⟨a,h3,h4,h5⟩:=s.ow i d h1 h2;exact⟨a,h3,h4.mono w,h5⟩
 bw:=fun i d h1 h2=>by obtain⟨v,h3,h4⟩:=s.bw i d h1 h2;exact⟨v,h3,h4.grow w⟩
 dis:=s.dis
 lk:=s.lk
theorem SI.grown(s:SI X g m r G st H):Grow X.K g.gh g.h0 G H:=⟨s.gok,s.old,s.ge,s.gf⟩
theorem SI.frz(s:SI X g m r G st H)(i:Nat)(hi:m[i]? = some .ow):(∃G',(∀a d,G a=some d->G' a=some d)/\SI X g (m.set i .sh) r G' st H)\/∃a,∀ob,∃G',(∀a d,G a=some d->G' a=some d)/\SI X g (m.set i .sh) r G' st (fz H a ob):=by
 have hlt:i<m.length:=(k_.mp hi).1;by_cases hb:∃d,r[i]? = some (some d)
 .obtain⟨d,hd⟩:=hb;obtain⟨a,h1,h2,h3⟩:=s.ow i d hd hi;refine .inr ⟨a,fun ob=>⟨gset G a d,iP h2.un,(s.gok.fast h2.un ob).gset h2.un (h2.ob.fast ob),fun b o e=>by rw[nY (by rintro rfl;rw[h3]at e;cases e)];exact s.old b o e,fun b e h=>iP h2.un b e (s.ge b e h),fun b h=>?_,by simpa using s.lm,s.lr,?_,?_,?_,?_,fun j o hj hm=>?_⟩⟩
  .rw[kB (by rintro rfl;exact h h3)];exact s.gf b h
  .intro j e hj hm;by_cases hij:i=j
   .subst hij;rw[hd]at hj;cases hj;exact⟨_,h1,.ref gD⟩
   .rw[d_ hij]at hm;obtain⟨v,q1,q2⟩:=s.sh j e hj hm;exact⟨v,q1,q2.mono (iP h2.un)⟩
  .intro j e hj hm;by_cases hij:i=j
   .subst hij;rw[o_ hlt]at hm;cases hm
   .rw[d_ hij]at hm;obtain⟨b,q1,q2,q3⟩:=s.ow j e hj hm;have B:b≠a:=by
     rintro rfl
     exact s.dis i j b d e hij hd hj hi hm h1 q1
    exact⟨b,q1,⟨by rw[kB B];exact q2.un,q2.ob.mono (iP h2.un) fun _ z=>by rw[nY B];exact z⟩,q3⟩
  .intro j e hj hm;by_cases hij:i=j
   .subst hij;rw[o_ hlt]at hm;cases hm
   .rw[d_ hij]at hm;obtain⟨v,q1,q2⟩:=s.bw j e hj hm;refine⟨v,q1,?_⟩;rcases q2 with q2|⟨b,rfl,q2,q3⟩
    .exact .inl (q2.mono (iP h2.un))
    .have B:b≠a:=by rintro rfl;exact q3 h3
     exact .inr ⟨b,rfl,⟨by rw[kB B];exact q2.un,q2.ob.mono (iP h2.un) fun _ z=>by rw[nY B];exact z⟩,q3⟩
  .intro j k b e e' hjk hj hk hm hm' q1 q2;have hij:i≠j:=by
    rintro rfl
    rw[o_ hlt]at hm;cases hm
   have hik:i≠k:=by
    rintro rfl
    rw[o_ hlt]at hm';cases hm'
   rw[d_ hij]at hm;rw[d_ hik]at hm';exact s.dis j k b e e' hjk hj hk hm hm' q1 q2
  .refine s.lk j o hj ?_;by_cases hij:i=j
   .subst hij;rw[o_ hlt]at hm;cases hm
   .rw[d_ hij]at hm;exact hm
 .refine .inl ⟨G,fun _ _ z=>z,s.gok,s.old,s.ge,s.gf,by simpa using s.lm,s.lr,?_,?_,?_,?_,fun j o hj hm=>?_⟩
  .intro j e hj hm;have hij:i≠j:=by rintro rfl;exact hb ⟨e,hj⟩
   rw[d_ hij]at hm;exact s.sh j e hj hm
  .intro j e hj hm;have hij:i≠j:=by rintro rfl;exact hb ⟨e,hj⟩
   rw[d_ hij]at hm;exact s.ow j e hj hm
  .intro j e hj hm;have hij:i≠j:=by rintro rfl;exact hb ⟨e,hj⟩
   rw[d_ hij]at hm;exact s.bw j e hj hm
  .intro j k b e e' hjk hj hk hm hm' q1 q2;have hij:i≠j:=by rintro rfl;exact hb ⟨e,hj⟩
   have hik:i≠k:=by rintro rfl;exact hb ⟨e',hk⟩
   rw[d_ hij]at hm;rw[d_ hik]at hm';exact s.dis j k b e e' hjk hj hk hm hm' q1 q2
  .refine s.lk j o hj ?_;by_cases hij:i=j
   .subst hij;rw[o_ hlt]at hm;cases hm
   .rw[d_ hij]at hm;exact hm
end
theorem PE.imp{X:Cx}{e:Expr}{t t':TE}(h:PE X e t)(i:∀σ H Q,t' σ H Q->t σ H Q):PE X e t':=fun pz s σ H Q I q=>h pz s σ H Q I (i σ H Q q)
theorem PT.imp{X:Cx}{e:Expr}{t t':TT}(h:PT X e t)(i:∀σ H Q,t' σ H Q->t σ H Q):PT X e t':=fun pz s σ H Q I q=>h pz s σ H Q I (i σ H Q q)
theorem PW.imp{X:Cx}{e:Expr}{t t':TT}(h:PW X e t)(i:∀σ H Q,t' σ H Q->t σ H Q):PW X e t':=fun whole pz s σ H Q I q=>h whole pz s σ H Q I (i σ H Q q)
theorem PA.imp{X:Cx}{e:List Expr}{t t':TA}(h:PA X e t)(i:∀σ H Q,t' σ H Q->t σ H Q):PA X e t':=fun pos pz s σ H Q I q=>h pos pz s σ H Q I (i σ H Q q)
theorem PS.imp{X:Cx}{e:Stmt}{t t':TS}(h:PS X e t)(i:∀D σ H,t' D σ H->t D σ H):PS X e t':=fun pz s σ H D I q=>h pz s σ H D I (i D σ H q)
theorem bW.imp{X:Cx}{e:List Stmt}{t t':TS}(h:bW X e t)(i:∀D σ H,t' D σ H->t D σ H):bW X e t':=fun pz s σ H D I q=>h pz s σ H D I (i D σ H q)
def Iv(X:Cx)(σ:L2.St)(G:GH)(H':Hp)(e:a_)(x:D)(s':f_):Prop:=∃pz s H1 a C od nm ds,e=.ref a/\x=xD nm ds/\XN X.K nm C/\XF G od ds/\Inv X pz σ H1 s/\Fly X.prog X.w X.stack H1 s H' a (.ref C) od s'
def XW(X:Cx)(σ:L2.St)(G:GH)(H:Hp)(x:D):Prop:=∀pz e s' G' H',Grow X.K G H G' H'->Inv X pz σ H' s'->Iv X σ G' H' e x s'->X.xe e s'
theorem XW.grow{X:Cx}{σ:L2.St}{G G1:GH}{H H1:Hp}{x:D}(h:XW X σ G H x)(w:Grow X.K G H G1 H1):XW X σ G1 H1 x:=fun pz e s' G' H' w' I q=>h pz e s' G' H' (w.trans w') I q
abbrev FE:=am->Res D
def tE(X:Cx)(g:GE)(m:List Md)(f:FE):TE:=fun σ H Q=>∃r G,SI X g m r G σ H/\fin (f r) (fun d=>∀v G' H',Grow X.K G H G' H'->RG X.K G' v d->Q v H') (XW X σ G H)
def tB(X:Cx)(g:GE)(m:List Md)(f:FE):TE:=fun σ H Q=>∃r G,SI X g m r G σ H/\fin (f r) (fun d=>∀v G' H',Grow X.K G H G' H'->RB X.K G' H' v d->Q v H') (XW X σ G H)
def tO(X:Cx)(g:GE)(m:List Md)(f:FE):TE:=fun σ H Q=>∃r G,SI X g m r G σ H/\fin (f r) (fun d=>∀a G' H',Grow X.K G H G' H'->H a=none->Own X.K G' H' a d->Q (.ref a) H') (XW X σ G H)
def tQ(X:Cx)(g:GE)(m:List Md)(f:am->Res Bool):TT:=fun σ H Q=>∃r G,SI X g m r G σ H/\fin (f r) (fun b=>∀G' H',Grow X.K G H G' H'->Q b H') (XW X σ G H)
def tL(X:Cx)(g:GE)(m:List Md)(f:am->Res (List D)):TA:=fun σ H Q=>∃r G,SI X g m r G σ H/\fin (f r) (fun ds=>∀vs G' H',Grow X.K G H G' H'->bx X.K G' vs ds->Q vs H') (XW X σ G H)
def A0(X:Cx)(g:GE)(m:List Md)(f:am->Res (List D)):TA:=fun σ H Q=>∃r G,SI X g m r G σ H/\fin (f r) (fun ds=>∀vs G' H',Grow X.K G H G' H'->Paired (RB X.K G' H') vs ds->Q vs H') (XW X σ G H)
def SE(X:Cx)(g:GE)(m:List Md)(e:Expr)(f:FE):Prop:=PE X e (tE X g m f)
def SB(X:Cx)(g:GE)(m:List Md)(e:Expr)(f:FE):Prop:=PE X e (tB X g m f)
def SO(X:Cx)(g:GE)(m:List Md)(e:Expr)(f:FE):Prop:=PE X e (tO X g m f)
def SQ(X:Cx)(g:GE)(m:List Md)(e:Expr)(f:am->Res Bool):Prop:=PT X e (tQ X g m f)
def SW(X:Cx)(g:GE)(m:List Md)(e:Expr)(f:am->Res Bool):Prop:=PW X e (tQ X g m f)
def SA(X:Cx)(g:GE)(m:List Md)(es:List Expr)(f:am->Res (List D)):Prop:=PA X es (tL X g m f)
def gw(X:Cx)(g:GE)(m:List Md)(es:List Expr)(f:am->Res (List D)):Prop:=PA X es (A0 X g m f)
variable{a e b c:Expr}{f fa fb fc:FE}{pos:Pos}
theorem SE.toB(h:SE X g m e f):SB X g m e f:=PE.imp h fun σ H Q ⟨r,G,si,q⟩=>⟨r,G,si,ba q fun d k v G' H' w z=>k v G' H' w z.rb⟩
theorem Inv.fast{pz:List (Addr×Obj)}{σ:L2.St}{H:Hp}{s:f_}(I:Inv X pz σ H s)(a:Addr):∃ob,Inv X pz σ (fz H a ob) s:=by cases e:H a with
|none=>exact⟨{ cls:=.none,data:=.fields #[] },by unfold fz;rw[e];exact I⟩
|some u=>cases u with
 |dK ps=>
   obtain⟨z1,z2,vs,z3,o,es,ep,z4,z5⟩:=(show bF X.prog X.w H s.heap a (.dK ps)from I.hok a _ e)
   have ef:fz H a o=aB H a (.frz o (.dK ps)):=by unfold fz;rw[e]
   refine⟨o,?_⟩;rw[ef];exact I.write (t':=s.toks) (h':=s.heap) (x:=a) (e:=a) (by rw[e];exact trivial) (.inl rfl) (fun b u _ q=>q) ⟨o,z4⟩ (show bF X.prog X.w _ s.heap a (.frz o (.dK ps))from⟨z4,z1,z2,vs,z3,o,es,ep,z4,z5⟩)
 |_=>exact⟨{ cls:=.none,data:=.fields #[] },by unfold fz;rw[e];exact I⟩
theorem SO.toE(h:SO X g m e f):SE X g m e f:=by intro pz s σ H Q I ⟨r,G,si,q⟩;refine aO (h pz s σ H (fun v H'=>∃a,v=.ref a/\∀ob,Q v (fz H' a ob)) I ⟨r,G,si,ba q fun d k a G' H' w hn o=>⟨a,rfl,fun ob=>k _ _ _ (w.frz hn o ob) (.ref gD)⟩⟩) fun u s' ⟨v,H',I',rv,a,_,z⟩=>?_;obtain⟨ob,I2⟩:=Inv.fast I' a;exact⟨v,_,I2,rv,z ob⟩
theorem SO.toB(h:SO X g m e f):SB X g m e f:=h.toE.toB
theorem ou{v:V}{d:D}(h:PE X e (tC v))(s:Scl v d):SE X g m e fun _=>.ok d:=PE.imp h fun σ H Q ⟨r,G,si,q⟩=>q v G H (Grow.refl si.gok) (.scl s)
theorem n0{i:Int}{j}:SE X g m (.Constant (.int i) j pos) fun _=>.ok (.int i):=ou KA (.int i)
theorem pI{i:Bool}{j}:SE X g m (.Constant (.bool i) j pos) fun _=>.ok (.bl i):=ou Ci (.bl i)
theorem eV{j}:SE X g m (.Constant .none j pos) fun _=>.ok .non:=ou KF .non
theorem cH{i:Str}{j}:SE X g m (.Constant (.str i) j pos) fun _=>.ok (.str i):=ou KH (.str i)
def eS(r:am)(i:Nat):Res D:=match r[i]? with
|some (some d)=>.ok d
|_=>.stuck
theorem xJ{r:am}{i:Nat}{q:D->Prop}{x:D->Prop}(h:fin (eS r i) q x):∃d,r[i]? = some (some d)/\q d:=by
 unfold eS at h;split at h
 .rename_i d e;exact⟨d,e,h⟩
 .exact h.elim
theorem ID(i:Nat){x:Str}(hm:m[i]? = some .sh)(hN:X.N[i]? = some x)(hv:dz X.env.scope x)(hd:(x==("__debug__" : Str))=false:=by decide)(B:(x==("__classdict__" : Str))=false:=by decide):SE X g m (.Name x pos) fun r=>eS r i:=by refine PE.imp (dM hN hv hd B) fun σ H Q ⟨r,G,si,q⟩=>?_;obtain⟨d,e,k⟩:=xJ q;obtain⟨v,e1,e2⟩:=si.sh i d e hm;exact⟨v,e1,k v G H (Grow.refl si.gok) e2⟩
theorem Ks(i:Nat){x:Str}(hm:i<m.length)(hN:X.N[i]? = some x)(hv:dz X.env.scope x)(hd:(x==("__debug__" : Str))=false:=by decide)(B:(x==("__classdict__" : Str))=false:=by decide):SB X g m (.Name x pos) fun r=>eS r i:=by refine PE.imp (dM hN hv hd B) fun σ H Q ⟨r,G,si,q⟩=>?_;obtain⟨d,e,k⟩:=xJ q;have hm':m[i]? = some m[i]:=m_ hm;cases h:m[i]with
|sh=>obtain⟨v,e1,e2⟩:=si.sh i d e (hm'.trans (by rw[h]));exact⟨v,e1,k v G H (Grow.refl si.gok) e2.rb⟩
|ow=>obtain⟨v,e1,e2,_⟩:=si.ow i d e (hm'.trans (by rw[h]));exact⟨_,e1,k _ G H (Grow.refl si.gok) (.inr ⟨v,rfl,e2⟩)⟩
|bw=>obtain⟨v,e1,e2⟩:=si.bw i d e (hm'.trans (by rw[h]));exact⟨_,e1,k _ G H (Grow.refl si.gok) e2.rb⟩
theorem C7{x:Str}{v:V}{u:a_}{d:D}(hg:Gl X x)(hm:X.mg x=some u)(r:ar v u)(s:Scl v d)(hd:(x==("__debug__" : Str))=false:=by decide):SE X g m (.Name x pos) fun _=>.ok d:=ou (wK hg hm r hd) s
theorem lT{β:Type}{k:D->D->Res β}{q:β->Prop}{R:V->V->Hp->Prop}{r:am}{G:GH}{σ:L2.St}{H:Hp}(si:SI X g m r G σ H)(h:fin ((fa r).bind fun d1=>(fb r).bind fun d2=>k d1 d2) q (XW X σ G H))(hk:∀d1 d2 v1 v2 G2 H2,Grow X.K G H G2 H2->RB X.K G2 H2 v1 d1->RB X.K G2 H2 v2 d2->fin (k d1 d2) q (XW X σ G H)->R v1 v2 H2):tB X g m fa σ H fun v1 H1=>tB X g m fb σ H1 fun v2 H2=>R v1 v2 H2:=by refine⟨r,G,si,ba (bg h) fun d1 h1 v1 G1 H1 w1 r1=>⟨r,G1,si.grow w1,?_⟩⟩;cases e:fb r with
|ok d2=>rw[e]at h1;exact fun v2 G2 H2 w2 r2=>hk d1 d2 v1 v2 G2 H2 (w1.trans w2) (r1.mono w2) r2 h1
|exc x=>rw[e]at h1;exact(show XW X σ G H x from h1).grow w1
|stuck=>rw[e]at h1;exact h1
def cP{α:Type}:Option α->Res α
|some a=>.ok a
|none=>.stuck
@[simp] theorem opt_some{α:Type}(a:α):cP (some a)=.ok a:=rfl
theorem ck{α:Type}{o:Option α}{q:α->Prop}{x:D->Prop}(h:fin (cP o) q x):∃a,o=some a/\q a:=by cases o with
|none=>exact h.elim
|some a=>exact⟨a,rfl,h⟩
def dG(K:W.Frag)(r:R2)(k:D->D->Option D):Prop:=∀(G:GH)(H:Hp)(v1 v2:V)(d1 d2 d:D)(Q:VK),aU K G H->RB K G H v1 d1->RB K G H v2 d2->k d1 d2=some d ->(∀v G' H',Grow K G H G' H'->RG K G' v d->Q v H')->r v1 v2 H Q
def f2(fa fb:FE)(k:D->D->Option D):FE:=fun r=>(fa r).bind fun d1=>(fb r).bind fun d2=>cP (k d1 d2)
theorem uF{R:R2}{k:D->D->Option D}(ho:dG X.K R k)(h:PE X e (pB R (tB X g m fa) (tB X g m fb))):SE X g m e (f2 fa fb k):=by refine PE.imp h fun σ H Q ⟨r,G,si,q⟩=>?_;refine lT si q fun d1 d2 v1 v2 G2 H2 w r1 r2 q2=>?_;obtain⟨d,e,q2⟩:=ck q2;exact ho G2 H2 v1 v2 d1 d2 d Q w.ok r1 r2 e fun v G' H' w' z=>q2 v G' H' (w.trans w') z
theorem lf{op:Operator}{R:R2}{k:D->D->Option D}(hr:bo X (Vu op) R)(ho:dG X.K R k)(ha:SB X g m a fa)(hb:SB X g m b fb):SE X g m (.BinOp a op b pos) (f2 fa fb k):=uF ho (Ck hr ha hb)
theorem uD{op:Zp}{R:R2}{k:D->D->Option D}(hr:bo X (Ug op) R)(ho:dG X.K R k)(ha:SB X g m a fa)(hb:SB X g m b fb)(hm:UU op b=false):SE X g m (.Compare a [op] [b] pos) (f2 fa fb k):=uF ho (L7 hr ha hb hm)
def pY:D->Option Bool
|.bl b=>some b
|_=>none
def aW(f:FE):am->Res Bool:=fun r=>(f r).bind fun d=>cP (pY d)
theorem kg{op:Zp}{R:R2}{k:D->D->Option D}(hr:bo X (Ug op) R)(ho:dG X.K R k)(ha:SB X g m a fa)(hb:SB X g m b fb)(hm:UU op b=false):SQ X g m (.Compare a [op] [b] pos) (aW (f2 fa fb k)):=by
 refine PT.imp (DA hr ha hb hm) fun σ H Q ⟨r,G,si,q⟩=>?_;have e:aW (f2 fa fb k) r=(fa r).bind fun d1=>(fb r).bind fun d2=>(cP (k d1 d2)).bind fun d=>cP (pY d):=by unfold aW f2;cases fa r with
 |ok d1=>cases fb r <;> rfl
 |exc _=>rfl
 |stuck=>rfl
 rw[e]at q;refine lT (R:=fun x y H2=>R x y H2 fun x H'=>∃k,x=V.bl k/\Q k H') si q fun d1 d2 v1 v2 G2 H2 w r1 r2 q3=>?_;obtain⟨d,e,q3⟩:=ck (bg q3);obtain⟨b,eb,q3⟩:=ck q3;cases d with
|bl b'=>cases eb;exact ho G2 H2 v1 v2 d1 d2 _ _ w.ok r1 r2 e fun v G' H' w' z=>⟨_,z.bl w'.ok,q3 G' H' (w.trans w')⟩
|_=>cases eb
instance decMul(i j:Int):Decidable (gz i j):=by unfold gz;infer_instance
instance decDiv(i j:Int):Decidable (hZ i j):=by unfold hZ;infer_instance
instance decPow(i j:Int):Decidable (fJ i j):=by unfold fJ;infer_instance
def mB(k:Int->Int->D):D->D->Option D
|.int a,.int b=>some (k a b)
|_,_=>none
def jz(C:Int->Int->Prop)[∀a b,Decidable (C a b)](k:Int->Int->D):D->D->Option D
|.int a,.int b=>if C a b then some (k a b)else none
|_,_=>none
@[simp] theorem intsC_int(C:Int->Int->Prop)[∀a b,Decidable (C a b)](k:Int->Int->D)(a b:Int):jz C k (.int a) (.int b)=if C a b then some (k a b)else none:=rfl
theorem mZ{gv:Int->Int->V}{gd:Int->Int->D}(hs:∀i j,Scl (gv i j) (gd i j)):dG K (js gv) (mB gd):=by
 intro G H v1 v2 d1 d2 d Q g r1 r2 e q;unfold mB at e;split at e
 .cases e;exact⟨_,_,r1.int g,r2.int g,q _ G H (Grow.refl g) (.scl (hs _ _))⟩
 .cases e
theorem q8{C:Int->Int->Prop}[∀a b,Decidable (C a b)]{gv:Int->Int->V}{gd:Int->Int->D}(hs:∀i j,Scl (gv i j) (gd i j)):dG K (rI C gv) (jz C gd):=by
 intro G H v1 v2 d1 d2 d Q g r1 r2 e q;unfold jz at e;split at e
 .split at e
  .rename_i hc;cases e;exact⟨_,_,r1.int g,r2.int g,hc,q _ G H (Grow.refl g) (.scl (hs _ _))⟩
  .cases e
 .cases e
abbrev lR:D->D->Option D:=mB fun a b=>.int (a-b)
abbrev bi:D->D->Option D:=jz gz fun a b=>.int (a*b)
abbrev fN:D->D->Option D:=jz hZ fun a b=>.int (a/b)
abbrev aV:D->D->Option D:=jz (fun _ b=>0<b) fun a b=>.int (a%b)
abbrev fB:D->D->Option D:=jz fJ fun a b=>.int (a^b.toNat)
abbrev iu:D->D->Option D:=mB fun a b=>.bl (decide (a<b))
abbrev Bl:D->D->Option D:=mB fun a b=>.bl (decide (a<=b))
abbrev jt:D->D->Option D:=mB fun a b=>.bl (decide (b<a))
variable{p q:FQ}{es:List Expr}{fl:am->Res (List D)}
section
theorem IB(ha:SB X g m a fa)(hb:SB X g m b fb):SE X g m (.BinOp a .Sub b pos) (f2 fa fb lR):=lf Kw (mZ fun _ _=>.int _) ha hb
theorem fZ(ha:SB X g m a fa)(hb:SB X g m b fb):SE X g m (.BinOp a .Mult b pos) (f2 fa fb bi):=lf K2 (q8 fun _ _=>.int _) ha hb
theorem km(ha:SB X g m a fa)(hb:SB X g m b fb):SE X g m (.BinOp a .FloorDiv b pos) (f2 fa fb fN):=lf LX (q8 fun _ _=>.int _) ha hb
theorem dH(ha:SB X g m a fa)(hb:SB X g m b fb):SE X g m (.BinOp a .Mod b pos) (f2 fa fb aV):=lf K1 (q8 fun _ _=>.int _) ha hb
theorem Cg(ha:SB X g m a fa)(hb:SB X g m b fb):SE X g m (.BinOp a .Pow b pos) (f2 fa fb fB):=lf Ku (q8 fun _ _=>.int _) ha hb
theorem Ba(ha:SB X g m a fa)(hb:SB X g m b fb):SE X g m (.Compare a [.Lt] [b] pos) (f2 fa fb iu):=uD tT (mZ fun _ _=>.bl _) ha hb (kx _)
theorem jQ(ha:SB X g m a fa)(hb:SB X g m b fb):SQ X g m (.Compare a [.Lt] [b] pos) (aW (f2 fa fb iu)):=kg tT (mZ fun _ _=>.bl _) ha hb (kx _)
theorem gT(ha:SB X g m a fa)(hb:SB X g m b fb):SQ X g m (.Compare a [.Gt] [b] pos) (aW (f2 fa fb jt)):=kg Jj (mZ fun _ _=>.bl _) ha hb (kx _)
def f1(fa:FE)(k:D->Option D):FE:=fun r=>(fa r).bind fun d=>cP (k d)
def pS:D->Option D
|.int a=>some (.int (-a))
|_=>none
theorem Iy(ha:SB X g m a fa):SE X g m (.UnaryOp .USub a pos) (f1 fa pS):=by
 refine PE.imp (Jm Lw ha) fun σ H Q ⟨r,G,si,q⟩=>⟨r,G,si,ba (bg q) fun d q1 v G1 H1 w1 r1=>?_⟩
 obtain⟨d',e,q2⟩:=ck q1;cases d with
|int i=>cases e;exact⟨i,r1.int w1.ok,q2 _ G1 H1 w1 (.scl (.int _))⟩
|_=>cases e
def gO:D->Option Bool
|.non=>some false
|.bl b=>some b
|.int i=>some (i != 0)
|.str y=>if y.length<=sizeLine then some ((y.length:Int) != 0)else none
|.lst ds=>some (! ds.isEmpty)
|.tup ds=>some (! ds.isEmpty)
|.dic kvs=>some (! kvs.isEmpty)
|.obj _ _=>none
theorem ym{α β:Type}{F:α->β->Prop}{l:List α}{r:List β}(h:Paired F l r):l.isEmpty=r.isEmpty:=by cases h <;> rfl
theorem Ee{K:W.Frag}{G:GH}{H:Hp}{v:V}{d:D}{b:Bool}(gk:aU K G H)(h:RB K G H v d)(e:gO d=some b):j4 K v H b:=by cases d with
|non=>cases e;rw[h.non gk];rfl
|bl b'=>cases e;rw[h.bl gk];rfl
|int i=>cases e;rw[h.int gk];rfl
|str y=>
  rw[h.str gk];have e':(if y.length<=sizeLine then some ((y.length:Int) != 0)else none)=some b:=e;by_cases hy:y.length<=sizeLine
  .rw[if_pos hy]at e';cases e';exact⟨hy,rfl⟩
  .rw[if_neg hy]at e';cases e'
|lst ds=>cases e;obtain⟨a,xs,rfl,s,r⟩:=h.lst gk;exact .inl ⟨xs,s,by rw[ym r]⟩
|tup ds=>cases e;obtain⟨a,xs,rfl,s,r⟩:=h.tup gk;exact .inr (.inl ⟨xs,s,by rw[ym r]⟩)
|dic kvs=>cases e;obtain⟨a,xs,rfl,s,r⟩:=h.dic gk;exact .inr (.inr ⟨xs,s,by rw[ym r]⟩)
|obj _ _=>cases e
def cn(f:FE):am->Res Bool:=fun r=>(f r).bind fun d=>cP (gO d)
theorem iK(ha:SB X g m a fa)(he:∀whole,isTrue a X.env whole=(do let v <-whole;Ww a.pos;VT [v] (Zx v)):=by intro _;rfl):SQ X g m a (cn fa):=by
 refine PT.imp (xE ha he) fun σ H Q ⟨r,G,si,q⟩=>⟨r,G,si,ba (bg q) fun d q1 v G1 H1 w1 r1=>?_⟩
 obtain⟨b,e,q2⟩:=ck q1;exact⟨b,Ee w1.ok r1 e,q2 G1 H1 w1⟩
abbrev FQ:=am->Res Bool
def dw(p q:FQ):FQ:=fun r=>(p r).bind fun c=>if c=true then q r else .ok false
def gs(p q:FQ):FQ:=fun r=>(p r).bind fun c=>if c=true then .ok true else q r
def du(p:FQ):FQ:=fun r=>(p r).bind fun c=>.ok (! c)
variable{rest:List Expr}
theorem Ju{α:Type}{r:Res α}{q:α->Prop}{x x':D->Prop}(h:fin r q x)(hx:∀e,x e->x' e):fin r q x':=by cases r with
|ok a=>exact h
|exc e=>exact hx e h
|stuck=>exact h
theorem fm{α:Type}{r:Res α}{σ:L2.St}{G G1:GH}{H H1:Hp}{P P':α->Prop}(h:fin r P (XW X σ G H))(w:Grow X.K G H G1 H1)(hp:∀a,P a->P' a):fin r P' (XW X σ G1 H1):=Ju (ba h hp) fun _ x=>x.grow w
theorem qG(ha:SQ X g m a p):SW X g m (.BoolOp .And [a] pos) p:=Mg ha
theorem lj(ha:SQ X g m a p):SW X g m (.BoolOp .Or [a] pos) p:=KQ ha
theorem qk(ha:SQ X g m a p)(hb:SW X g m (.BoolOp .And (b::rest) pos) q):SW X g m (.BoolOp .And (a::b::rest) pos) (dw p q):=by
 refine PW.imp (KP ha hb) fun σ H Q ⟨r,G,si,k⟩=>⟨r,G,si,ba (bg k) fun c k1 G1 H1 w1=>?_⟩
 cases c with
|true=>rw[if_pos rfl]at k1 ⊢;exact⟨r,G1,si.grow w1,fm k1 w1 fun b z G' H' w'=>z G' H' (w1.trans w')⟩
|false=>rw[if_neg g_]at k1 ⊢;exact k1 G1 H1 w1
theorem ga(ha:SQ X g m a p)(hb:SW X g m (.BoolOp .Or (b::rest) pos) q):SW X g m (.BoolOp .Or (a::b::rest) pos) (gs p q):=by
 refine PW.imp (Jn ha hb) fun σ H Q ⟨r,G,si,k⟩=>⟨r,G,si,ba (bg k) fun c k1 G1 H1 w1=>?_⟩
 cases c with
|true=>rw[if_pos rfl]at k1 ⊢;exact k1 G1 H1 w1
|false=>rw[if_neg g_]at k1 ⊢;exact⟨r,G1,si.grow w1,fm k1 w1 fun b z G' H' w'=>z G' H' (w1.trans w')⟩
theorem SW.toQ(h:SW X g m e p):SQ X g m e p:=PW.pt h
theorem li(ha:SQ X g m a p):SQ X g m (.UnaryOp .Not a pos) (du p):=PT.imp (vA ha) fun σ H Q ⟨r,G,si,k⟩=>⟨r,G,si,ba (bg k) fun c k1 G1 H1 w1=>k1 G1 H1 w1⟩
def de(fa fb:FE):FE:=fun r=>(fa r).bind fun d=>(cP (pY d)).bind fun c=>if c=true then fb r else .ok (.bl false)
def pA(fa:FE):FE:=fun r=>(fa r).bind fun d=>(cP (pY d)).bind fun c=>.ok (.bl (! c))
theorem lg{op}(h:SE X g m a fa):SE X g m (.BoolOp op [a] pos) fa:=CW h
theorem k9(ha:SE X g m a fa)(hb:SE X g m (.BoolOp .And (b::rest) pos) fb):SE X g m (.BoolOp .And (a::b::rest) pos) (de fa fb):=by
 refine PE.imp (CV ha hb) fun σ H Q ⟨r,G,si,k⟩=>⟨r,G,si,ba (bg k) fun d k1 v G1 H1 w1 r1=>?_⟩
 obtain⟨c,e,k2⟩:=ck (bg k1);cases d with
|bl c'=>cases e;refine⟨_,r1.bl w1.ok,?_⟩;cases c with
 |true=>rw[if_pos rfl]at k2 ⊢;exact⟨r,G1,si.grow w1,fm k2 w1 fun b z v G' H' w'=>z v G' H' (w1.trans w')⟩
 |false=>rw[if_neg g_]at k2 ⊢;exact k2 _ G1 H1 w1 (.scl (.bl _))
|_=>cases e
theorem Iz(ha:SE X g m a fa):SE X g m (.UnaryOp .Not a pos) (pA fa):=by
 refine PE.imp (KG ha) fun σ H Q ⟨r,G,si,k⟩=>⟨r,G,si,ba (bg k) fun d k1 v G1 H1 w1 r1=>?_⟩
 obtain⟨c,e,k2⟩:=ck (bg k1);cases d with
|bl c'=>cases e;exact⟨_,r1.bl w1.ok,k2 _ G1 H1 w1 (.scl (.bl _))⟩
|_=>cases e
def iz(p:FQ)(fa fb:FE):FE:=fun r=>(p r).bind fun c=>if c=true then fa r else fb r
theorem mI(hc:SQ X g m c p)(ha:SE X g m a fa)(hb:SE X g m b fb):SE X g m (.IfExp c a b pos) (iz p fa fb):=by
 refine PE.imp (OA hc ha hb) fun σ H Q ⟨r,G,si,k⟩=>⟨r,G,si,ba (bg k) fun c k1 G1 H1 w1=>?_⟩
 cases c with
|true=>rw[if_pos rfl]at k1 ⊢;exact⟨r,G1,si.grow w1,fm k1 w1 fun b z v G' H' w'=>z v G' H' (w1.trans w')⟩
|false=>rw[if_neg g_]at k1 ⊢;exact⟨r,G1,si.grow w1,fm k1 w1 fun b z v G' H' w'=>z v G' H' (w1.trans w')⟩
variable{fr:am->Res (List D)}
def ab:am->Res (List D):=fun _=>.ok []
def af(fa:FE)(fl:am->Res (List D)):am->Res (List D):=fun r=>(fa r).bind fun d=>(fl r).bind fun ds=>.ok (d::ds)
theorem bJ:SA X g m [] ab:=PA.imp iN fun σ H Q ⟨r,G,si,k⟩=>k [] G H (Grow.refl si.gok) .nil
theorem bp(ha:SE X g m e fa)(hr:SA X g m es fl)(hs:i_ (e::es) X.env=(false,eval e X.env)::i_ es X.env:=by rfl):SA X g m (e::es) (af fa fl):=by
 refine PA.imp (ff ha hr hs) fun σ H Q ⟨r,G,si,k⟩=>⟨r,G,si,ba (bg k) fun d k1 v G1 H1 w1 r1=>⟨r,G1,si.grow w1,?_⟩⟩
 exact fm (bg k1) w1 fun ds z vs G2 H2 w2 r2=>z (v::vs) G2 H2 (w1.trans w2) (.cons (r1.mono w2.ge) r2)
theorem aN:gw X g m [] ab:=PA.imp iN fun σ H Q ⟨r,G,si,k⟩=>k [] G H (Grow.refl si.gok) .nil
theorem aM(ha:SB X g m e fa)(hr:gw X g m es fl)(hs:i_ (e::es) X.env=(false,eval e X.env)::i_ es X.env:=by rfl):gw X g m (e::es) (af fa fl):=by
 refine PA.imp (ff ha hr hs) fun σ H Q ⟨r,G,si,k⟩=>⟨r,G,si,ba (bg k) fun d k1 v G1 H1 w1 r1=>⟨r,G1,si.grow w1,?_⟩⟩
 exact fm (bg k1) w1 fun ds z vs G2 H2 w2 r2=>z (v::vs) G2 H2 (w1.trans w2) (.cons (r1.mono w2) r2)
def sz(ds:List D):Option (List D):=if ds.length<=sizeLine then some ds else none
theorem uJ{ds ds':List D}(h:sz ds=some ds'):ds'=ds/\ds.length<=sizeLine:=by
 unfold sz at h;split at h
 .rename_i hl;cases h;exact⟨rfl,hl⟩
 .cases h
theorem IF{ds:List D}(h:ds.length<=sizeLine):sz ds=some ds:=if_pos h
def eO(fl:am->Res (List D)):FE:=fun r=>(fl r).bind fun ds=>(cP (sz ds)).bind fun ds=>.ok (.tup ds)
def fD(fl:am->Res (List D)):FE:=fun r=>(fl r).bind fun ds=>(cP (sz ds)).bind fun ds=>.ok (.lst ds)
theorem fP{x1}(h:SA X g m es fl):SE X g m (.Tuple es x1 pos) (eO fl):=by
 refine PE.imp (KI h) fun σ H Q ⟨r,G,si,k⟩=>⟨r,G,si,ba (bg k) fun ds k1 vs G1 H1 w1 r1=>?_⟩
 obtain⟨ds',e,k2⟩:=ck (bg k1);obtain⟨rfl,hl⟩:=uJ e;have hlen:=Paired.length r1;refine⟨by omega,fun p hp=>?_⟩;exact k2 _ _ _ (w1.trans (Grow.newF (d:=.tup ds') w1.ok hp (.tup (.inl bB) r1))) (.ref gD)
theorem fY(h:SA X g m es fl):SO X g m (.List es pos) (fD fl):=by
 refine PE.imp (KB h) fun σ H Q ⟨r,G,si,k⟩=>⟨r,G,si,ba (bg k) fun ds k1 vs G1 H1 w1 r1=>?_⟩
 obtain⟨ds',e,k2⟩:=ck (bg k1);obtain⟨rfl,hl⟩:=uJ e;have hlen:=Paired.length r1;refine⟨by omega,fun p hp=>?_⟩;have hn:H p=none:=by cases q:H p with
 |none=>rfl
 |some o=>rw[w1.he _ _ q]at hp;cases hp
 exact k2 p G1 _ (w1.trans (Grow.new w1.ok hp _)) hn ⟨w1.ok.isN hp,.lst bB r1⟩
end
def kZ(K:W.Frag)(r:List V->Hp->VK->Prop)(k:List D->Option D):Prop:=∀(G:GH)(H:Hp)(vs:List V)(ds:List D)(d:D)(Q:VK),aU K G H->Paired (RB K G H) vs ds->k ds=some d ->(∀v G' H',Grow K G H G' H'->RG K G' v d->Q v H')->r vs H Q
def BG(K:W.Frag)(r:List V->Hp->VK->Prop)(k:List D->Option D):Prop:=∀(G:GH)(H:Hp)(vs:List V)(ds:List D)(d:D)(Q:VK),aU K G H->Paired (RB K G H) vs ds->k ds=some d ->(∀a G' H',Grow K G H G' H'->H a=none->Own K G' H' a d->Q (.ref a) H')->r vs H Q
def fC(fl:am->Res (List D))(k:List D->Option D):FE:=fun r=>(fl r).bind fun ds=>cP (k ds)
theorem Grow.back{K:W.Frag}{G G1:GH}{H H1:Hp}(w:Grow K G H G1 H1){a:Addr}(hn:H1 a=none):H a=none:=by cases q:H a with
|none=>rfl
|some o=>rw[w.he _ _ q]at hn;cases hn
variable{id T:String}
section
variable{p p2:Pos}{x:Str}{R:List V->Hp->VK->Prop}{k:List D->Option D}
theorem gR(hk:kZ X.K R k)(h:PE X e (sU R (A0 X g m fl))):SE X g m e (fC fl k):=by
 refine PE.imp h fun σ H Q ⟨r,G,si,q⟩=>⟨r,G,si,ba (bg q) fun ds q1 vs G1 H1 w1 r1=>?_⟩
 obtain⟨d,e,q2⟩:=ck q1;exact hk G1 H1 vs ds d Q w1.ok r1 e fun v G' H' w' z=>q2 v G' H' (w1.trans w') z
theorem Cf(hk:BG X.K R k)(h:PE X e (sU R (A0 X g m fl))):SO X g m e (fC fl k):=by
 refine PE.imp h fun σ H Q ⟨r,G,si,q⟩=>⟨r,G,si,ba (bg q) fun ds q1 vs G1 H1 w1 r1=>?_⟩
 obtain⟨d,e,q2⟩:=ck q1;exact hk G1 H1 vs ds d Q w1.ok r1 e fun v G' H' w' hn z=>q2 v G' H' (w1.trans w') (w1.back hn) z
def lenD:List D->Option D
|[.str y]=>if y.length<=sizeLine then some (.int y.length)else none
|[.lst ds]=>some (.int ds.length)
|[.tup ds]=>some (.int ds.length)
|[.dic kvs]=>some (.int kvs.length)
|_=>none
theorem JK{K:W.Frag}:kZ K (fun xs H Q=>(∃x n,xs=[x]/\p9 K x H n/\Q (.int n) H)\/∃a kvs,xs=[V.ref a]/\Rd H a (.dK kvs)/\Q (.int kvs.length) H) lenD:=by
 intro G H vs ds d Q gk rs e q;unfold lenD at e;split at e
 .split at e
  .cases e;cases rs with
  |cons r t=>cases t;exact .inl ⟨_,_,rfl,by rw[r.str gk];exact⟨by assumption,rfl⟩,q _ G H (Grow.refl gk) (.scl (.int _))⟩
  .cases e
 .cases e;cases rs with
 |cons r t=>cases t;obtain⟨a,xs,rfl,s,r⟩:=r.lst gk;have:=Paired.length r;exact .inl ⟨_,_,rfl,.inl ⟨xs,s,rfl⟩,q _ G H (Grow.refl gk) (.scl (by rw[this];exact .int _))⟩
 .cases e;cases rs with
 |cons r t=>cases t;obtain⟨a,xs,rfl,s,r⟩:=r.tup gk;have:=Paired.length r;exact .inl ⟨_,_,rfl,.inr ⟨xs,s,rfl⟩,q _ G H (Grow.refl gk) (.scl (by rw[this];exact .int _))⟩
 .cases e;cases rs with
 |cons r t=>cases t;obtain⟨a,xs,rfl,s,r⟩:=r.dic gk;have:=Paired.length r;exact .inr ⟨_,_,rfl,s,q _ G H (Grow.refl gk) (.scl (by rw[this];exact .int _))⟩
 .cases e
theorem cC(hg:Gl X "len")(hm:X.mg "len" = none)(ha:gw X g m (e::es) fl)(he:i_ (e::es) X.env=(false,eval e X.env)::i_ es X.env:=by rfl)(hpl:(backTo pos (i_ es X.env)).any (·.1)=false:=by rfl):SE X g m (.Call (.Name "len" p) (e::es) [] pos) (fC fl lenD):=gR JK (nc (dA.or Ni O4) hg hm PySem.boot_len ha (by decide) (by decide) he hpl)
def kU:List D->Option D
|[.lst ds]=>some (.lst ds)
|[.tup ds]=>some (.lst ds)
|_=>none
theorem Mm{K:W.Frag}:BG K (fun xs H Q=>∃p ys,xs=[.ref p]/\(bh K H p ys\/bU K H p ys)/\∀l,H l=none->Q (.ref l) (aB H l (.lst ys))) kU:=by
 intro G H vs ds d Q gk rs e q;have fin:∀{ys:List V}{zs:List D},bx K G ys zs->(∀(a:Addr)(G':GH)(H':Hp),Grow K G H G' H'->H a=none->Own K G' H' a (.lst zs)->Q (.ref a) H')->∀l,H l=none->Q (.ref l) (aB H l (.lst ys)):=fun r q l hl=>q l G _ (Grow.new gk hl _) hl ⟨gk.isN hl,.lst bB r⟩;unfold kU at e;split at e
 .cases e;cases rs with
 |cons r t=>cases t;obtain⟨a,xs,rfl,s,r⟩:=r.lst gk;exact⟨a,xs,rfl,.inl s,fin r q⟩
 .cases e;cases rs with
 |cons r t=>cases t;obtain⟨a,xs,rfl,s,r⟩:=r.tup gk;exact⟨a,xs,rfl,.inr s,fin r q⟩
 .cases e
theorem qv(hg:Gl X "list")(hm:X.mg "list" = none)(ha:gw X g m (e::es) fl)(he:i_ (e::es) X.env=(false,eval e X.env)::i_ es X.env:=by rfl)(hpl:(backTo pos (i_ es X.env)).any (·.1)=false:=by rfl):SO X g m (.Call (.Name "list" p) (e::es) [] pos) (fC fl kU):=Cf Mm (kJ QS hg hm rfl ha (by decide) (by decide) he hpl)
def tupD:List D->Option D
|[.lst ds]=>some (.tup ds)
|[.tup ds]=>some (.tup ds)
|_=>none
theorem Lr{K:W.Frag}:kZ K (fun xs H Q=>∃p ys,xs=[.ref p]/\((bh K H p ys/\∀l,H l=none->Q (.ref l) (aB H l (.tup ys)))\/(bU K H p ys/\Q (.ref p) H))) tupD:=by
 intro G H vs ds d Q gk rs e q;unfold tupD at e;split at e
 .cases e;cases rs with
 |cons r t=>cases t;obtain⟨a,xs,rfl,s,r⟩:=r.lst gk;exact⟨a,xs,rfl,.inl ⟨s,fun l hl=>q _ _ _ (Grow.newF gk hl (.tup (.inl bB) r)) (.ref gD)⟩⟩
 .cases e;cases rs with
 |cons r t=>
   cases t;rcases r with r|⟨a,_,o⟩
   .obtain⟨a,xs,rfl,s,r'⟩:=r.tup gk;exact⟨a,xs,rfl,.inr ⟨s,q _ G H (Grow.refl gk) r⟩⟩
   .cases o.ob
 .cases e
theorem io(hg:Gl X "tuple")(hm:X.mg "tuple" = none)(ha:gw X g m (e::es) fl)(he:i_ (e::es) X.env=(false,eval e X.env)::i_ es X.env:=by rfl)(hpl:(backTo pos (i_ es X.env)).any (·.1)=false:=by rfl):SE X g m (.Call (.Name "tuple" p) (e::es) [] pos) (fC fl tupD):=gR Lr (kJ RL hg hm rfl ha (by decide) (by decide) he hpl)
def ixD:D->D->Option D
|.lst ds,.int i=>fV ds i
|.tup ds,.int i=>fV ds i
|.str z,.int i=>if z.length<=sizeLine then(fV z.cps.toList i).map fun c=>.str ⟨#[c]⟩else none
|_,_=>none
theorem B4{K:W.Frag}{G:GH}{xs:List V}{ds:List D}{i:Int}{d:D}(r:bx K G xs ds)(h:fV ds i=some d):∃v,fV xs i=some v/\RG K G v d:=by unfold fV at h ⊢;rw[Paired.length r];cases e:gl ds.length i with
|none=>rw[e]at h;cases h
|some j=>rw[e]at h;exact Paired.get r h
theorem t0{K:W.Frag}:dG K (Bh K) ixD:=by
 intro G H v1 v2 d1 d2 d Q gk r1 r2 e q;unfold ixD at e;split at e
 .obtain⟨a,xs,rfl,s,r⟩:=r1.lst gk;obtain⟨v,ev,rv⟩:=B4 r e;exact .inl ⟨a,xs,_,v,rfl,r2.int gk,s,ev,q v G H (Grow.refl gk) rv⟩
 .obtain⟨a,xs,rfl,s,r⟩:=r1.tup gk;obtain⟨v,ev,rv⟩:=B4 r e;exact .inr (.inl ⟨a,xs,_,v,rfl,r2.int gk,s,ev,q v G H (Grow.refl gk) rv⟩)
 .split at e
  .rename_i z i hz;cases ec:fV z.cps.toList i with
  |none=>rw[ec]at e;cases e
  |some c=>rw[ec]at e;cases e;exact .inr (.inr ⟨z,i,c,r1.str gk,r2.int gk,hz,ec,q _ G H (Grow.refl gk) (.scl (.str _))⟩)
  .cases e
 .cases e
def cW{α:Type}(xs:List α)(lo hi:Option Int):List α:=(xs.drop (HT.sIx xs.length 0 lo)).take (HT.sIx xs.length xs.length hi-HT.sIx xs.length 0 lo)
theorem B5{α β:Type}{F:α->β->Prop}{xs:List α}{ds:List β}(r:Paired F xs ds)(lo hi:Option Int):Paired F (cW xs lo hi) (cW ds lo hi):=by unfold cW;rw[Paired.length r];exact Paired.tk _ (Paired.dr _ r)
abbrev FP:=am->Res (Option Int)
def tP(X:Cx)(g:GE)(m:List Md)(f:FP):TO:=fun σ H Q=>∃r G,SI X g m r G σ H/\fin (f r) (fun o=>∀G' H',Grow X.K G H G' H'->Q o H') (XW X σ G H)
def nP(X:Cx)(g:GE)(m:List Md)(e:Option Expr)(f:FP):Prop:=PO X e (tP X g m f)
theorem PO.imp{X:Cx}{e:Option Expr}{t t':TO}(h:PO X e t)(i:∀σ H Q,t' σ H Q->t σ H Q):PO X e t':=fun pz s σ H Q I q=>h pz s σ H Q I (i σ H Q q)
def Sw:D->Option Int
|.int i=>some i
|_=>none
def iJ(f:FE):FP:=fun r=>(f r).bind fun d=>(cP (Sw d)).bind fun i=>.ok (some i)
theorem lw:nP X g m none fun _=>.ok none:=PO.imp Mc fun σ H Q ⟨r,G,si,q⟩=>q G H (Grow.refl si.gok)
theorem lx(h:SB X g m e f):nP X g m (some e) (iJ f):=by
 refine PO.imp (Me h) fun σ H Q ⟨r,G,si,q⟩=>⟨r,G,si,ba (bg q) fun d q1 v G1 H1 w1 r1=>?_⟩
 obtain⟨i,e,q2⟩:=ck (bg q1);cases d with
|int j=>cases e;exact⟨_,r1.int w1.ok,q2 G1 H1 w1⟩
|_=>cases e
def A9(d:D)(lo hi:Option Int):Option D:=match d with
|.tup ds=>if HT.sIx ds.length 0 lo=0/\HT.sIx ds.length ds.length hi=ds.length then none else some (.tup (cW ds lo hi))
|.lst ds=>some (.lst (cW ds lo hi))
|_=>none
def Bs(fa:FE)(fl fh:FP):FE:=fun r=>(fa r).bind fun d=>(fl r).bind fun lo=>(fh r).bind fun hi=>cP (A9 d lo hi)
end
inductive Out where
 |nx (r:am)|rt (d:D)|bk (r:am)|ct (r:am)|exc (x:D) (r:am)|stuck
abbrev FS:=am->Out
def aR(G G':GH):Prop:=∀a d,G a=some d->G' a=some d
theorem aR.refl(G:GH):aR G G:=fun _ _ e=>e
theorem aR.trans{G G1 G2:GH}(a:aR G G1)(b:aR G1 G2):aR G G2:=fun x d e=>b x d (a x d e)
def forget(m:List Md)(r:am):am:=VV (fun md o=>if md=Md.sh then o else none) m r
def eB(m:List Md):List Md:=m.map fun _=>Md.sh
theorem oW{m:List Md}{r:am}{i:Nat}{d:D}(h:(forget m r)[i]? = some (some d)):r[i]? = some (some d)/\m[i]? = some .sh:=by unfold forget at h;rw[Xt]at h;cases e1:m[i]? with
|none=>rw[e1]at h;cases h
|some md=>cases e2:r[i]? with
 |none=>rw[e1,e2]at h;cases h
 |some o=>
   rw[e1,e2]at h;have h':(if md=Md.sh then o else none)=some d:=H_ h;split at h'
   .rename_i hm;subst hm;rw[h'];exact⟨rfl,rfl⟩
   .cases h'
section
variable{st:L2.St}
theorem SI.forget(s:SI X g m r G st H):SI X g (eB m) (forget m r) G st H where
 gok:=s.gok
 old:=s.old
 ge:=s.ge
 gf:=s.gf
 lm:=by rw[eB,j_];exact s.lm
 lr:=by rw[DL.forget,Wu,s.lm,s.lr,ZB]
 sh:=fun i d h _=>s.sh i d (oW h).1 (oW h).2
 ow:=fun i d h hm=>by rw[eB,D_,(oW h).2]at hm;cases hm
 bw:=fun i d h hm=>by rw[eB,D_,(oW h).2]at hm;cases hm
 dis:=fun i j a d e _ h _ hm=>by rw[eB,D_,(oW h).2]at hm;cases hm
 lk:=fun i o _ hm=>by rw[eB,D_]at hm;cases q:m[i]? <;> rw[q]at hm <;> cases hm
theorem SI.set(s:SI X g m r G st H)(i:Nat){v:V}{d:D}(hv:RG X.K G v d):SI X g (m.set i .sh) (r.set i (some d)) G (st.set i (some v)) H where
 gok:=s.gok
 old:=s.old
 ge:=s.ge
 gf:=s.gf
 lm:=by simp[s.lm]
 lr:=by simp[s.lr]
 sh:=fun j e h hm=>by
  by_cases hij:i=j
  .subst hij;have hl:i<r.length:=by have:=(k_.mp h).1;simpa using this
   rw[o_ hl]at h;cases h;exact⟨v,by rw[o_ (by rw[<-s.lr];exact hl)],hv⟩
  .rw[d_ hij]at h hm;rw[d_ hij];exact s.sh j e h hm
 ow:=fun j e h hm=>by
  by_cases hij:i=j
  .subst hij;have hl:i<m.length:=by have:=(k_.mp hm).1;simpa using this
   rw[o_ hl]at hm;cases hm
  .rw[d_ hij]at h hm;rw[d_ hij];exact s.ow j e h hm
 bw:=fun j e h hm=>by
  by_cases hij:i=j
  .subst hij;have hl:i<m.length:=by have:=(k_.mp hm).1;simpa using this
   rw[o_ hl]at hm;cases hm
  .rw[d_ hij]at h hm;rw[d_ hij];exact s.bw j e h hm
 dis:=fun j k a d1 d2 hjk h1 h2 hm hm' q1 q2=>by
  have hij:i≠j:=by
   rintro rfl
   have hl:i<m.length:=by have:=(k_.mp hm).1;simpa using this
   rw[o_ hl]at hm;cases hm
  have hik:i≠k:=by
   rintro rfl
   have hl:i<m.length:=by have:=(k_.mp h2).1;rw[VJ,s.lr,<-s.lm]at this;exact this
   rw[o_ hl]at hm';cases hm'
  rw[d_ hij]at h1 hm q1;rw[d_ hik]at h2 hm' q2;exact s.dis j k a d1 d2 hjk h1 h2 hm hm' q1 q2
 lk:=fun j o hj hm=>by
  have hij:i≠j:=by
   rintro rfl
   have hl:i<m.length:=by have:=(k_.mp hm).1;simpa using this
   rw[o_ hl]at hm;cases hm
  rw[d_ hij]at hm;have:=s.lk j o hj hm;exact⟨by rw[d_ hij];exact this.1,fun d h=>this.2 d (by rw[d_ hij]at h;exact h)⟩
theorem SI.setO(s:SI X g m r G st H)(i:Nat){a:Addr}{d:D}(ho:Own X.K G H a d)(h0:g.h0 a=none)(hx:∀(j:Nat)(b:Addr)(e:D),r[j]? = some (some e)->m[j]? = some Md.ow->st[j]? = some (some (V.ref b))->b≠a):SI X g (m.set i .ow) (r.set i (some d)) G (st.set i (some (V.ref a))) H where
 gok:=s.gok
 old:=s.old
 ge:=s.ge
 gf:=s.gf
 lm:=by simp[s.lm]
 lr:=by simp[s.lr]
 sh:=fun j e h hm=>by
  by_cases hij:i=j
  .subst hij;have hl:i<m.length:=by have:=(k_.mp hm).1;simpa using this
   rw[o_ hl]at hm;cases hm
  .rw[d_ hij]at h hm;rw[d_ hij];exact s.sh j e h hm
 ow:=fun j e h hm=>by
  by_cases hij:i=j
  .subst hij;have hl:i<r.length:=by have:=(k_.mp h).1;simpa using this
   rw[o_ hl]at h;cases h;exact⟨a,by rw[o_ (by rw[<-s.lr];exact hl)],ho,h0⟩
  .rw[d_ hij]at h hm;rw[d_ hij];exact s.ow j e h hm
 bw:=fun j e h hm=>by
  by_cases hij:i=j
  .subst hij;have hl:i<m.length:=by have:=(k_.mp hm).1;simpa using this
   rw[o_ hl]at hm;cases hm
  .rw[d_ hij]at h hm;rw[d_ hij];exact s.bw j e h hm
 dis:=fun j k b d1 d2 hjk h1 h2 hm hm' q1 q2=>by
  by_cases hij:i=j
  .subst hij;rw[d_ hjk]at h2 hm' q2;have hl:i<st.length:=by have:=(k_.mp q1).1;simpa using this
   rw[o_ hl]at q1;have e:a=b:=by injection q1 with q1;injection q1 with q1;injection q1
   exact hx k b d2 h2 hm' q2 e.symm
  .by_cases hik:i=k
   .subst hik;rw[d_ hij]at h1 hm q1;have hl:i<st.length:=by have:=(k_.mp q2).1;simpa using this
    rw[o_ hl]at q2;have e:a=b:=by injection q2 with q2;injection q2 with q2;injection q2
    exact hx j b d1 h1 hm q1 e.symm
   .rw[d_ hij]at h1 hm q1;rw[d_ hik]at h2 hm' q2;exact s.dis j k b d1 d2 hjk h1 h2 hm hm' q1 q2
 lk:=fun j o hj hm=>by
  have hij:i≠j:=by
   rintro rfl
   have hl:i<m.length:=by have:=(k_.mp hm).1;simpa using this
   rw[o_ hl]at hm;cases hm
  rw[d_ hij]at hm;have:=s.lk j o hj hm;exact⟨by rw[d_ hij];exact this.1,fun d h=>this.2 d (by rw[d_ hij]at h;exact h)⟩
theorem SI.other(s:SI X g m r G st H){p:Addr}(hp:G p=none)(h0:g.h0 p=none)(hm:∀(i:Nat),m[i]?≠some Md.ow)(o:HO):SI X g m r G st (aB H p o) where
 gok:=fun b e h=>(s.gok b e h).mono (fun _ _ z=>z) fun o' q=>by rw[bf (by rintro rfl;rw[hp]at h;cases h)];exact q
 old:=fun b o' h=>by rw[bf (by rintro rfl;rw[h0]at h;cases h)];exact s.old b o' h
 ge:=s.ge
 gf:=s.gf
 lm:=s.lm
 lr:=s.lr
 sh:=s.sh
 ow:=fun i d _ h=>absurd h (hm i)
 bw:=fun i d h1 h2=>by
  obtain⟨v,h3,h4⟩:=s.bw i d h1 h2;refine⟨v,h3,?_⟩;rcases h4 with h4|⟨a,rfl,h4,h5⟩
  .exact .inl h4
  .have ha:a≠p:=by rintro rfl;exact h5 h0
   exact .inr ⟨a,rfl,⟨h4.un,h4.ob.mono (fun _ _ z=>z) fun o' z=>by rw[bf ha];exact z⟩,h5⟩
 dis:=fun i j a d e _ _ _ h=>absurd h (hm i)
 lk:=s.lk
theorem SI.less(s:SI X g m r G st H){r':am}(hl:r'.length=r.length)(h:∀(i:Nat) d,r'[i]? = some (some d)->r[i]? = some (some d)):SI X g m r' G st H:=⟨s.gok,s.old,s.ge,s.gf,s.lm,hl.trans s.lr,fun i d a b=>s.sh i d (h i d a) b,fun i d a b=>s.ow i d (h i d a) b,fun i d a b=>s.bw i d (h i d a) b,fun i j a d e n p q x y=>s.dis i j a d e n (h i d p) (h j e q) x y,fun i o hi hm=>by have:=s.lk i o hi hm;exact⟨this.1,fun d hd=>this.2 d (h i d hd)⟩⟩
theorem SI.held(s:SI X g m r G st H){j:Nat}{b:Addr}{e:D}(h:r[j]? = some (some e))(hm:m[j]? = some .ow)(hs:st[j]? = some (some (V.ref b))):H b≠none:=by
 obtain⟨a,h1,h2,_⟩:=s.ow j e h hm;rw[hs]at h1;injection h1 with h1;injection h1 with h1;injection h1 with h1
 rw[h1];exact h2.ob.isS
theorem SI.setN(s:SI X g m r G st H){G':GH}{H':Hp}(w:Grow X.K G H G' H')(i:Nat){a:Addr}{d:D}(hn:H a=none)(ho:Own X.K G' H' a d):SI X g (m.set i .ow) (r.set i (some d)) G' (st.set i (some (V.ref a))) H':=by
 refine(s.grow w).setO i ho ?_ fun j b e h1 h2 h3=>?_
 .cases q:g.h0 a with
 |none=>rfl
 |some o=>rw[s.old _ _ q]at hn;cases hn
 .rintro rfl
  exact s.held h1 h2 h3 hn
theorem SI.mut(s:SI X g m r G st H){i:Nat}{d:D}(hm:m[i]? = some .ow)(hd:r[i]? = some (some d)):∃a,st[i]? = some (some (V.ref a))/\Own X.K G H a d/\∀(o':HO)(d':D),OwnO X.K G (aB H a o') a d'->SI X g m (r.set i (some d')) G st (aB H a o'):=by
 obtain⟨a,h1,h2,h3⟩:=s.ow i d hd hm;have hl:i<r.length:=(k_.mp hd).1;refine⟨a,h1,h2,fun o' d' ob=>?_⟩;have oth:∀(j:Nat)(b:Addr)(e:D),j≠i->r[j]? = some (some e)->m[j]? = some .ow->st[j]? = some (some (V.ref b))->b≠a:=fun j b e hj q1 q2 q3 z=>by subst z;exact s.dis i j b d e (UX hj) hd q1 hm q2 h1 q3
 refine⟨fun b e h=>?_,fun b o h=>?_,s.ge,s.gf,s.lm,by simp[s.lr],?_,?_,?_,?_,fun j o hj hm'=>?_⟩
 .have hb:b≠a:=by rintro rfl;rw[h2.un]at h;cases h
  exact(s.gok b e h).mono (fun _ _ z=>z) fun o q=>by rw[bf hb];exact q
 .have hb:b≠a:=by rintro rfl;rw[h3]at h;cases h
  rw[bf hb];exact s.old b o h
 .intro j e h hm';have hij:i≠j:=by rintro rfl;rw[hm]at hm';cases hm'
  rw[d_ hij]at h;exact s.sh j e h hm'
 .intro j e h hm';by_cases hij:i=j
  .subst hij;rw[o_ hl]at h;cases h;exact⟨a,h1,⟨h2.un,ob⟩,h3⟩
  .rw[d_ hij]at h;obtain⟨b,q1,q2,q3⟩:=s.ow j e h hm';have hb:=oth j b e (UX hij) h hm' q1;exact⟨b,q1,⟨q2.un,q2.ob.mono (fun _ _ z=>z) fun o z=>by rw[bf hb];exact z⟩,q3⟩
 .intro j e h hm';have hij:i≠j:=by rintro rfl;rw[hm]at hm';cases hm'
  rw[d_ hij]at h;obtain⟨v,q1,q2⟩:=s.bw j e h hm';refine⟨v,q1,?_⟩;rcases q2 with q2|⟨b,rfl,q2,q3⟩
  .exact .inl q2
  .have hb:b≠a:=by rintro rfl;exact q3 h3
   exact .inr ⟨b,rfl,⟨q2.un,q2.ob.mono (fun _ _ z=>z) fun o z=>by rw[bf hb];exact z⟩,q3⟩
 .have bound:∀(j:Nat) e,(r.set i (some d'))[j]? = some (some e)->∃e',r[j]? = some (some e'):=fun j e h=>by
   by_cases hij:i=j
   .subst hij;exact⟨d,hd⟩
   .rw[d_ hij]at h;exact⟨e,h⟩
  intro j k b d1 d2 hjk q1 q2 p1 p2 z1 z2;obtain⟨e1,q1⟩:=bound j d1 q1;obtain⟨e2,q2⟩:=bound k d2 q2;exact s.dis j k b e1 e2 hjk q1 q2 p1 p2 z1 z2
 .have hij:i≠j:=by rintro rfl;rw[hm]at hm';cases hm'
  have:=s.lk j o hj hm';exact⟨this.1,fun B h=>this.2 B (by rw[d_ hij]at h;exact h)⟩
end
def RV(ro:Bool)(K:W.Frag)(H0:Hp)(G:GH)(H:Hp)(v:V)(d:D):Prop:=match ro with
|false=>RG K G v d
|true=>(∃a,v=.ref a/\H0 a=none/\Own K G H a d)\/(d=.non/\v=.non)
def cj(X:Cx)(g:GE)(ro:Bool)(m' mb:List Md)(G:GH)(D:Ends):Out->Prop
|.nx r'=>∀σ' G' H',aR G G'->SI X g m' r' G' σ' H'->D.nx σ' H'
|.rt d=>∀v G' H',Grow X.K g.gh g.h0 G' H'->RV ro X.K g.h0 G' H' v d->D.rt v H'
|.bk r'=>∀σ' G' H',aR G G'->SI X g mb r' G' σ' H'->D.bk σ' H'
|.ct r'=>∀σ' G' H',aR G G'->SI X g mb r' G' σ' H'->D.ct σ' H'
|.exc x r'=>∀pz e s' σ' G' H',aR G G'->SI X g (eB m') r' G' σ' H'->Inv X pz σ' H' s'->Iv X σ' G' H' e x s'->X.xe e s'
|.stuck=>False
def tS(X:Cx)(g:GE)(ro:Bool)(m m' mb:List Md)(f:FS):TS:=fun D σ H=>∃r G,SI X g m r G σ H/\cj X g ro m' mb G D (f r)
def SS(X:Cx)(g:GE)(ro:Bool)(mb m:List Md)(st:Stmt)(f:FS)(m':List Md):Prop:=m'.length=m.length/\PS X st (tS X g ro m m' mb f)
def fG(X:Cx)(g:GE)(ro:Bool)(mb m:List Md)(st:List Stmt)(f:FS)(m':List Md):Prop:=m'.length=m.length/\bW X st (tS X g ro m m' mb f)
theorem rq{m m':List Md}(h:m'.length=m.length):eB m'=eB m:=by unfold eB;rw[V6,V6,h]
theorem cj.x{X:Cx}{g:GE}{ro:Bool}{m m' mb:List Md}{r:am}{G:GH}{D:Ends}{σ:L2.St}{H:Hp}{x:DL.D}(h:cj X g ro m' mb G D (.exc x (forget m r)))(si:SI X g m r G σ H)(hl:m'.length=m.length):XW X σ G H x:=fun pz e s' G' H' w I ex=>h pz e s' σ G' H' w.ge (by rw[rq hl];exact(si.grow w).forget) I ex
variable{ro:Bool}{m' m1 mb:List Md}{pos':Pos}{sts:List Stmt}{s1:FS}
section
variable{tg:Expr}{st:Stmt}{sts':List Stmt}{s2:FS}
theorem cj.gle{G G1:GH}{D:Ends}{o:Out}(h:cj X g ro m' mb G D o)(w:aR G G1):cj X g ro m' mb G1 D o:=by cases o with
|nx r'=>exact fun σ' G' H' q si=>h σ' G' H' (w.trans q) si
|rt d=>exact h
|bk r'=>exact fun σ' G' H' q si=>h σ' G' H' (w.trans q) si
|ct r'=>exact fun σ' G' H' q si=>h σ' G' H' (w.trans q) si
|exc x r'=>exact fun pz e s' σ' G' H' q=>h pz e s' σ' G' H' (w.trans q)
|stuck=>exact h
def seqF(s1 s2:FS):FS:=fun r=>match s1 r with
|.nx r'=>s2 r'
|o=>o
def au:FS:=fun r=>.nx r
theorem aw:fG X g ro mb m [] au m:=⟨rfl,bW.imp kF fun D σ H ⟨r,G,si,q⟩=>q σ G H (aR.refl G) si⟩
theorem ai(h1:SS X g ro mb m st s1 m1)(h2:fG X g ro mb m1 sts s2 m'):fG X g ro mb m (st::sts) (seqF s1 s2) m':=by refine⟨h2.1.trans h1.1,bW.imp (jL h1.2 h2.2) fun D σ H ⟨r,G,si,q⟩=>⟨r,G,si,?_⟩⟩;unfold seqF at q;cases e:s1 r with
|nx r'=>rw[e]at q;exact fun σ' G' H' w si'=>⟨r',G',si',cj.gle q w⟩
|rt d=>rw[e]at q;exact q
|bk r'=>rw[e]at q;exact q
|ct r'=>rw[e]at q;exact q
|exc x r'=>rw[e]at q;exact fun pz e s' σ' G' H' w si'=>q pz e s' σ' G' H' w (by rw[rq h2.1];exact si')
|stuck=>rw[e]at q;exact q
theorem jK:SS X g ro mb m st (fun _=>.stuck) m:=⟨rfl,PS.imp OH fun D σ H ⟨r,G,si,q⟩=>q⟩
theorem uE(i:Nat)(hi:m[i]? = some .ow)(h:SS X g ro mb (m.set i .sh) st s1 m'):SS X g ro mb m st s1 m':=by
 refine⟨h.1.trans (by simp),fun pz s σ H D I ⟨r,G,si,q⟩=>?_⟩;rcases si.frz i hi with⟨G',le,si'⟩|⟨a,z⟩
 .exact h.2 pz s σ H D I ⟨r,G',si',cj.gle q le⟩
 .obtain⟨ob,I2⟩:=Inv.fast I a;obtain⟨G',le,si'⟩:=z ob;exact h.2 pz s σ _ D I2 ⟨r,G',si',cj.gle q le⟩
def onE{α:Type}(m:List Md)(r:am)(x:Res α)(k:α->Out):Out:=match x with
|.ok a=>k a
|.exc e=>.exc e (forget m r)
|.stuck=>.stuck
@[simp] theorem onE_ok{α:Type}(m:List Md)(r:am)(a:α)(k:α->Out):onE m r (.ok a) k=k a:=rfl
theorem gC{α:Type}{x:Res α}{k:α->Out}{r:am}{G:GH}{D:Ends}{σ:L2.St}{H:Hp}(si:SI X g m r G σ H)(hl:m'.length=m.length)(h:cj X g ro m' mb G D (onE m r x k)):fin x (fun a=>cj X g ro m' mb G D (k a)) (XW X σ G H):=by cases x with
|ok a=>exact h
|exc e=>exact cj.x h si hl
|stuck=>exact h
def ao(m:List Md)(i:Nat)(f:FE):FS:=fun r=>onE m r (f r) fun d=>.nx (r.set i (some d))
theorem IA(i:Nat){x:Str}(hN:X.N.Nodup)(hi:X.N[i]? = some x)(hx:fW X.env.scope x)(he:SE X g m e f)(hs:Uw e (some (.Name x pos')) pos.line X.env=pure false:=by rfl)(hf:X.fn x=true\/X.env.scope.names.lookup x=some .local:=by first|exact .inl rfl|exact .inr rfl|assumption):SS X g ro mb m (.Assign [.Name x pos'] e pos) (ao m i f) (m.set i .sh):=by
 have hl:(m.set i .sh).length=m.length:=by simp
 refine⟨hl,PS.imp (mO hN hi hx he hs hf) fun D σ H ⟨r,G,si,q⟩=>⟨r,G,si,?_⟩⟩;exact ba (gC si hl q) fun d q v G' H' w rv=>q _ G' H' w.ge ((si.grow w).set i rv)
theorem eY(i:Nat){x:Str}(hN:X.N.Nodup)(hi:X.N[i]? = some x)(hx:fW X.env.scope x)(he:SO X g m e f)(hs:Uw e (some (.Name x pos')) pos.line X.env=pure false:=by rfl)(hf:X.fn x=true\/X.env.scope.names.lookup x=some .local:=by first|exact .inl rfl|exact .inr rfl|assumption):SS X g ro mb m (.Assign [.Name x pos'] e pos) (ao m i f) (m.set i .ow):=by
 have hl:(m.set i .ow).length=m.length:=by simp
 refine⟨hl,PS.imp (mO hN hi hx he hs hf) fun D σ H ⟨r,G,si,q⟩=>⟨r,G,si,?_⟩⟩;exact ba (gC si hl q) fun d q a G' H' w hn ho=>q _ G' H' w.ge (si.setN w i hn ho)
def iI(m:List Md)(f:FE):FS:=fun r=>onE m r (f r) fun _=>.nx r
theorem kl(he:SE X g m e f)(hs:Uw e none pos.line X.env=pure false:=by rfl):SS X g ro mb m (.Expr e pos) (iI m f) m:=⟨rfl,PS.imp (qT he hs) fun D σ H ⟨r,G,si,q⟩=>⟨r,G,si,ba (gC si rfl q) fun d q v G' H' w _=>q σ G' H' w.ge (si.grow w)⟩⟩
def retF(m:List Md)(f:FE):FS:=fun r=>onE m r (f r) fun d=>.rt d
theorem aY(he:SE X g m e f):SS X g false mb m (.Return (some e) pos) (retF m f) m:=⟨rfl,PS.imp (vG he) fun D σ H ⟨r,G,si,q⟩=>⟨r,G,si,ba (gC si rfl q) fun d q v G' H' w rv=>q v G' H' (si.grow w).grown rv⟩⟩
def cF(m:List Md)(p:FQ)(s1 s2:FS):FS:=fun r=>onE m r (p r) fun c=>if c=true then s1 r else s2 r
theorem bu(hc:SQ X g m c p)(h1:fG X g ro mb m sts s1 m')(h2:fG X g ro mb m sts' s2 m'):SS X g ro mb m (.If c sts sts' pos) (cF m p s1 s2) m':=by refine⟨h1.1,PS.imp (qj hc h1.2 h2.2) fun D σ H ⟨r,G,si,q⟩=>⟨r,G,si,ba (gC si h1.1 q) fun c q G' H' w=>?_⟩⟩;cases c with
|true=>rw[if_pos rfl]at q ⊢;exact⟨r,G',si.grow w,cj.gle q w.ge⟩
|false=>rw[if_neg g_]at q ⊢;exact⟨r,G',si.grow w,cj.gle q w.ge⟩
theorem rJ(i:Nat)(h:fG X g ro mb m sts s1 m')(hi:m'[i]? = some .ow):fG X g ro mb m sts s1 (m'.set i .sh):=by
 refine⟨by simp[h.1],fun pz s σ H D I ⟨r,G,si,q⟩=>?_⟩;refine aO (h.2 pz s σ H ⟨fun σ' H'=>D.nx σ' H'\/∃a,∀ob,D.nx σ' (fz H' a ob),D.rt,D.bk,D.ct⟩ I ⟨r,G,si,?_⟩) fun f s' p=>?_
 .cases e:s1 r with
 |nx r'=>
   rw[e]at q;intro σ' G' H' w si';rcases si'.frz i hi with⟨G2,le,B⟩|⟨a,z⟩
   .exact .inl (q σ' G2 H' (w.trans le) B)
   .refine .inr ⟨a,fun ob=>?_⟩;obtain⟨G2,le,B⟩:=z ob;exact q σ' G2 _ (w.trans le) B
 |rt d=>rw[e]at q;exact q
 |bk r'=>rw[e]at q;exact q
 |ct r'=>rw[e]at q;exact q
 |exc x r'=>rw[e]at q;exact fun pz e s' σ' G' H' w si'=>q pz e s' σ' G' H' w (by rw[rq (m:=m') (by simp)];exact si')
 |stuck=>rw[e]at q;exact q
 .cases f with
 |next=>
   obtain⟨σ',H',I',z|⟨a,z⟩⟩:=p
   .exact⟨σ',H',I',z⟩
   .obtain⟨ob,I2⟩:=Inv.fast I' a;exact⟨σ',_,I2,z ob⟩
 |brk=>exact p
 |cont=>exact p
 |ret u=>exact p
end
abbrev FT:=D->am->Option am
abbrev jw:=List D->am->Option am
def tG(X:Cx)(g:GE)(m m':List Md)(ft:FT):TG:=fun v σ H Q=>∃r G d,SI X g m r G σ H/\RG X.K G v d/\∃r',ft d r=some r'/\∀σ',SI X g m' r' G σ' H->Q σ' H
def Ss(X:Cx)(g:GE)(m m':List Md)(ft:jw):ju:=fun vs σ H Q=>∃r G ds,SI X g m r G σ H/\bx X.K G vs ds/\∃r',ft ds r=some r'/\∀σ',SI X g m' r' G σ' H->Q σ' H
theorem PG.imp{X:Cx}{e:Expr}{t t':TG}(h:PG X e t)(i:∀v σ H Q,t' v σ H Q->t v σ H Q):PG X e t':=fun pz s σ H v u Q I r q=>h pz s σ H v u Q I r (i v σ H Q q)
theorem i9.imp{X:Cx}{e:List Expr}{t t':ju}(h:i9 X e t)(i:∀v σ H Q,t' v σ H Q->t v σ H Q):i9 X e t':=fun pz s σ H v u Q I r q=>h pz s σ H v u Q I r (i v σ H Q q)
def SG(X:Cx)(g:GE)(m:List Md)(tg:Expr)(ft:FT)(m':List Md):Prop:=m'.length=m.length/\PG X tg (tG X g m m' ft)
structure SGs(X:Cx)(g:GE)(m:List Md)(ts:List Expr)(n:Nat)(ft:jw)(m':List Md):Prop where
 ml:m'.length=m.length
 ln:∀ds r r',ft ds r=some r'->ds.length=n
 pg:i9 X ts (Ss X g m m' ft)
def ay(i:Nat):FT:=fun d r=>some (r.set i (some d))
def dq(ft:jw):FT:=fun d r=>match d with
|.tup ds=>ft ds r
|.lst ds=>ft ds r
|_=>none
def c9:jw:=fun ds r=>match ds with
|[]=>some r
|_=>none
def bD(ft:FT)(fts:jw):jw:=fun ds r=>match ds with
|[]=>none
|d::ds=>(ft d r).bind fun r'=>fts ds r'
variable{ft:FT}
section
variable{tg:Expr}{ts:List Expr}{fts:jw}{n:Nat}
theorem JZ(i:Nat){x:Str}(hN:X.N.Nodup)(hi:X.N[i]? = some x)(hx:fW X.env.scope x)(hf:X.fn x=true\/X.env.scope.names.lookup x=some .local:=by first|exact .inl rfl|exact .inr rfl|assumption):SG X g m (.Name x pos) (ay i) (m.set i .sh):=⟨by simp,PG.imp (DY hN hi hx hf) fun v σ H Q ⟨r,G,d,si,rv,r',e,k⟩=>by cases e;exact k _ (si.set i rv)⟩
theorem jf:SGs X g m [] 0 c9 m:=by
 refine⟨rfl,fun ds r r' e=>?_,i9.imp Mb fun v σ H Q ⟨r,G,ds,si,rv,r',e,k⟩=>?_⟩
 .cases ds with
 |nil=>rfl
 |cons _ _=>cases e
 .cases rv with
 |nil=>cases e;exact⟨rfl,k σ si⟩
 |cons _ _=>cases e
theorem dL(h1:SG X g m tg ft m1)(h2:SGs X g m1 ts n fts m')(hs:(UN (tg::ts) X.env).map (·.2)=Wo tg X.env::(UN ts X.env).map (·.2):=by rfl):SGs X g m (tg::ts) (n+1) (bD ft fts) m':=by
 refine⟨h2.ml.trans h1.1,fun ds r r' e=>?_,i9.imp (OF h1.2 h2.pg hs) fun v σ H Q ⟨r,G,ds,si,rv,r',e,k⟩=>?_⟩
 .cases ds with
 |nil=>cases e
 |cons d ds=>have e':((ft d r).bind fun r'=>fts ds r')=some r':=e;cases q:ft d r with
  |none=>rw[q]at e';cases e'
  |some r1=>rw[q]at e';have:=h2.ln ds r1 r' e';simp[this]
 .cases rv with
 |nil=>cases e
 |@cons v0 d vs ds rv rs=>have e':((ft d r).bind fun r'=>fts ds r')=some r':=e;cases q:ft d r with
  |none=>rw[q]at e';cases e'
  |some r1=>rw[q]at e';exact⟨_,_,rfl,r,G,d,si,rv,r1,q,fun σ' si'=>⟨r1,G,ds,si',rs,r',e',k⟩⟩
theorem KM{k:Nat}{t:ju}(hc:X.calm=true)(h:i9 X ts t)(hn:(UN ts X.env).length=n)(B:(UN ts X.env).findIdx? (·.1)=none):PG X (.Tuple ts k pos) (fun v σ H Q=>∃a xs,v=.ref a/\bh X.K H a xs/\xs.length=n/\t xs σ H Q):=by intro pz s σ H v u Q I r hw;obtain⟨a,xs,e1,hq,hl,hw⟩:=hw;subst e1;cases r;obtain⟨its,rv,⟨o,nn,l1,l2,l3,l4⟩,hz⟩:=I.list hq;rw[Zj];refine b_ (WY ?_);unfold unpack;rw[B,show(UN ts X.env).length=its.toArray.size by simp[hn,<-hl,rv.length]];refine b_ (Vo (W.kun_itemsOf (I.ok.hd hc) ⟨o,l1,l2,nn,l4⟩ fun h' hx=>?_));have I1:Inv X pz σ H { s with heap:=h' }:=I.kept (t':=s.toks) fun b o e=>hx b o (M_ (w_ e)) e;exact h pz _ σ H xs _ Q I1 (by simpa using rv) hw
theorem PG.or{e:Expr}{t t':TG}(h:PG X e t)(h':PG X e t'):PG X e (fun v σ H Q=>t v σ H Q\/t' v σ H Q):=fun pz s σ H v u Q I r q=>q.elim (h pz s σ H v u Q I r) (h' pz s σ H v u Q I r)
theorem jg{k:Nat}(hc:X.calm=true)(h:SGs X g m ts n fts m')(hn:(UN ts X.env).length=n:=by rfl)(B:(UN ts X.env).findIdx? (·.1)=none:=by rfl):SG X g m (.Tuple ts k pos) (dq fts) m':=by refine⟨h.ml,PG.imp (PG.or (KL hc h.pg hn B) (KM hc h.pg hn B)) fun v σ H Q ⟨r,G,d,si,rv,r',e,k⟩=>?_⟩;cases d with
|tup ds=>obtain⟨a,xs,rfl,s,rs⟩:=rv.tup si.gok;exact .inl ⟨a,xs,rfl,s,(Paired.length rs).trans (h.ln ds r r' e),r,G,ds,si,rs,r',e,k⟩
|lst ds=>obtain⟨a,xs,rfl,s,rs⟩:=rv.lst si.gok;exact .inr ⟨a,xs,rfl,s,(Paired.length rs).trans (h.ln ds r r' e),r,G,ds,si,rs,r',e,k⟩
|_=>cases e
end
structure Yields(K:W.Frag)(J:It)(ds:List D)(G0:GH):Prop where
 go:∀G H (i:Nat),aR G0 G->aU K G H->i<ds.length->J.go i H
 yld:∀G H (i:Nat) x H' d,aR G0 G->aU K G H->J.yld i H x H'->ds[i]? = some d->∃G',Grow K G H G' H'/\RG K G' x d
 stop:∀G H,aR G0 G->aU K G H->J.stop ds.length H
abbrev FI:=am->Res (List D)
def tI(X:Cx)(g:GE)(m:List Md)(f:FI):TI:=fun σ H R=>∃r G,SI X g m r G σ H/\fin (f r) (fun ds=>∀J G' H',Grow X.K G H G' H'->Yields X.K J ds G'->R J H') (XW X σ G H)
def iC(X:Cx)(g:GE)(m:List Md)(tg iter:Expr)(f:FI):Prop:=PI X tg iter (tI X g m f)
theorem PI.imp{X:Cx}{tg e:Expr}{t t':TI}(h:PI X tg e t)(i:∀σ H Q,t' σ H Q->t σ H Q):PI X tg e t':=fun pz s σ H R I q=>h pz s σ H R I (i σ H R q)
theorem wJ{K:W.Frag}{a:Addr}{ds:List D}{G0:GH}(h0:RG K G0 (.ref a) (.lst ds)):Yields K (qb K a) ds G0:=by
 have at_:∀G H,aR G0 G->aU K G H->∃xs,bh K H a xs/\bx K G xs ds:=fun G H w gk=>by obtain⟨b,xs,e,s,r⟩:=(h0.mono w).lst gk;cases e;exact⟨xs,s,r⟩
 refine⟨fun G H i w gk hi=>?_,fun G H i x H' d w gk y e=>?_,fun G H w gk=>?_⟩
 .obtain⟨xs,s,r⟩:=at_ G H w gk;have hl:=Paired.length r;exact⟨xs,xs[i],s,m_ (by omega)⟩
 .obtain⟨xs,s,r⟩:=at_ G H w gk;obtain⟨rfl,y⟩:=y;obtain⟨v,e1,rv⟩:=Paired.get r e;have:=y xs s;rw[e1]at this;cases this;exact⟨G,Grow.refl gk,rv⟩
 .obtain⟨xs,s,r⟩:=at_ G H w gk;exact⟨xs,s,Wc (Paired.length r)⟩
theorem vJ{K:W.Frag}{a:Addr}{ds:List D}{G0:GH}(h0:RG K G0 (.ref a) (.tup ds)):Yields K (BB K a) ds G0:=by
 have at_:∀G H,aR G0 G->aU K G H->∃xs,bU K H a xs/\bx K G xs ds:=fun G H w gk=>by obtain⟨b,xs,e,s,r⟩:=(h0.mono w).tup gk;cases e;exact⟨xs,s,r⟩
 refine⟨fun G H i w gk hi=>?_,fun G H i x H' d w gk y e=>?_,fun G H w gk=>?_⟩
 .obtain⟨xs,s,r⟩:=at_ G H w gk;have hl:=Paired.length r;exact⟨xs,xs[i],s,m_ (by omega)⟩
 .obtain⟨xs,s,r⟩:=at_ G H w gk;obtain⟨rfl,y⟩:=y;obtain⟨v,e1,rv⟩:=Paired.get r e;have:=y xs s;rw[e1]at this;cases this;exact⟨G,Grow.refl gk,rv⟩
 .obtain⟨xs,s,r⟩:=at_ G H w gk;exact⟨xs,s,Wc (Paired.length r)⟩
def cD(lo:Int)(n:Nat):List D:=(t_ n).map fun(i:Nat)=>D.int (lo+(i:Int))
theorem Dd{K:W.Frag}{lo:Int}{n:Nat}{G0:GH}:Yields K (qa lo n) (cD lo n) G0:=by
 have hl:(cD lo n).length=n:=by simp[cD]
 refine⟨fun G H i w gk hi=>(by rw[hl]at hi;exact hi),fun G H i x H' d w gk y e=>?_,fun G H w gk=>(by rw[hl];exact s_ _)⟩;obtain⟨rfl,rfl⟩:=y;have hi:i<n:=by have:=(k_.mp e).1;rw[hl]at this;exact this
 unfold cD at e;rw[D_,U4 hi]at e;cases e;exact⟨G,Grow.refl gk,.scl (.int _)⟩
def bz:D->Option (List D)
|.lst ds=>some ds
|.tup ds=>some ds
|_=>none
variable{iter:Expr}
section
variable{tg:Expr}
def aL(k:D->Option (List D))(f:FE):FI:=fun r=>(f r).bind fun d=>cP (k d)
theorem vF{l:Expr}{tl:TE}(hl:PE X l tl):PI X tg l (fun σ H R=>tl σ H fun x H1=>(∃a,x=.ref a/\(∃xs,bh X.K H1 a xs)/\R (qb X.K a) H1)\/∃a,x=.ref a/\(∃xs,bU X.K H1 a xs)/\R (BB X.K a) H1):=by
 intro pz s σ H R I h;refine aO (hl pz s σ H _ I h) fun v s1 ⟨x,H1,I1,r1,q1⟩=>?_;rcases q1 with⟨a,e,⟨xs,hq⟩,q⟩|⟨a,e,⟨xs,hq⟩,q⟩
 .subst e;cases r1;obtain⟨its,rv,p,hz⟩:=I1.list hq;refine Yi p.isList ?_;refine⟨s1.heap.objs.size,[s1.heap.objs.size],_,_,H1,rfl,I1.kept (t':=s1.toks) fun b o e=>c_ _ e,Qb a _,⟨_,r_ _ rfl,rfl,rfl⟩,fun b hb=>?_,q⟩;have e:b=s1.heap.objs.size:=by simpa using hb
  subst e;exact I1.fpOk (s_ _) (I1.hok.fresh (s_ _))
 .subst e;cases r1;obtain⟨its,rv,p,hz⟩:=I1.tuple hq;refine U_ (show s1.heap.IsTuple a its.toArray from p) ?_;refine⟨s1.heap.objs.size,[s1.heap.objs.size],_,_,H1,rfl,I1.kept (t':=s1.toks) fun b o e=>c_ _ e,Qy a _,⟨_,r_ _ rfl,rfl,rfl⟩,fun b hb=>?_,q⟩;have e:b=s1.heap.objs.size:=by simpa using hb
  subst e;exact I1.fpOk (s_ _) (I1.hok.fresh (s_ _))
theorem nU(h:SE X g m e f):iC X g m tg e (aL bz f):=by
 refine PI.imp (vF h) fun σ H R ⟨r,G,si,q⟩=>⟨r,G,si,ba (bg q) fun d q v G' H' w rv=>?_⟩
 obtain⟨ds,e,q⟩:=ck q;cases d with
|lst ds'=>cases e;obtain⟨a,xs,rfl,s,rs⟩:=rv.lst w.ok;exact .inl ⟨a,rfl,⟨xs,s⟩,q _ G' H' w (wJ rv)⟩
|tup ds'=>cases e;obtain⟨a,xs,rfl,s,rs⟩:=rv.tup w.ok;exact .inr ⟨a,rfl,⟨xs,s⟩,q _ G' H' w (vJ rv)⟩
|_=>cases e
structure YieldsC(K:W.Frag)(J:It)(ds:List D)(G0:GH)(H0:Hp):Prop where
 go:∀G H (i:Nat),Grow K G0 H0 G H->i<ds.length->J.go i H
 yld:∀G H (i:Nat) x H' d,Grow K G0 H0 G H->J.yld i H x H'->ds[i]? = some d->∃G',Grow K G H G' H'/\RG K G' x d
 stop:∀G H,Grow K G0 H0 G H->J.stop ds.length H
theorem Yields.toC{K:W.Frag}{J:It}{ds:List D}{G0:GH}{H0:Hp}(y:Yields K J ds G0):YieldsC K J ds G0 H0:=⟨fun G H i w hi=>y.go G H i w.ge w.ok hi,fun G H i x H' d w q e=>y.yld G H i x H' d w.ge w.ok q e,fun G H w=>y.stop G H w.ge w.ok⟩
def Sq(X:Cx)(g:GE)(m:List Md)(f:FI):TI:=fun σ H R=>∃r G,SI X g m r G σ H/\fin (f r) (fun ds=>∀J G' H',Grow X.K G H G' H'->YieldsC X.K J ds G' H'->R J H') (XW X σ G H)
def fH(X:Cx)(g:GE)(m:List Md)(tg iter:Expr)(f:FI):Prop:=PI X tg iter (Sq X g m f)
theorem iC.toC{fi:FI}(h:iC X g m tg iter fi):fH X g m tg iter fi:=PI.imp h fun σ H R ⟨r,G,si,q⟩=>⟨r,G,si,ba q fun ds k J G' H' w y=>k J G' H' w y.toC⟩
theorem Lz{K:W.Frag}{a:Addr}{ds:List D}{G0:GH}{H0:Hp}(o:Own K G0 H0 a (.lst ds)):YieldsC K (qb K a) ds G0 H0:=by
 have at_:∀G H,Grow K G0 H0 G H->∃xs,bh K H a xs/\bx K G xs ds:=fun G H w=>by cases(o.mono w).ob with
 |lst r s=>exact⟨_,bh.of r,s⟩
 refine⟨fun G H i w hi=>?_,fun G H i x H' d w y e=>?_,fun G H w=>?_⟩
 .obtain⟨xs,s,r⟩:=at_ G H w;have hl:=Paired.length r;exact⟨xs,xs[i],s,m_ (by omega)⟩
 .obtain⟨xs,s,r⟩:=at_ G H w;obtain⟨rfl,y⟩:=y;obtain⟨v,e1,rv⟩:=Paired.get r e;have:=y xs s;rw[e1]at this;cases this;exact⟨G,Grow.refl w.ok,rv⟩
 .obtain⟨xs,s,r⟩:=at_ G H w;exact⟨xs,s,Wc (Paired.length r)⟩
theorem db(h:SB X g m e f):fH X g m tg e (aL bz f):=by
 refine PI.imp (vF h) fun σ H R ⟨r,G,si,q⟩=>⟨r,G,si,ba (bg q) fun d q v G' H' w rv=>?_⟩
 obtain⟨ds,e,q⟩:=ck q;cases d with
|lst ds'=>
  cases e;rcases rv with rv|⟨a,rfl,o⟩
  .obtain⟨a,xs,rfl,s,rs⟩:=rv.lst w.ok;exact .inl ⟨a,rfl,⟨xs,s⟩,q _ G' H' w (wJ rv).toC⟩
  .cases o.ob with
  |lst r s=>exact .inl ⟨a,rfl,⟨_,bh.of r⟩,q _ G' H' w (Lz o)⟩
|tup ds'=>
  cases e;rcases rv with rv|⟨a,rfl,o⟩
  .obtain⟨a,xs,rfl,s,rs⟩:=rv.tup w.ok;exact .inr ⟨a,rfl,⟨xs,s⟩,q _ G' H' w (vJ rv).toC⟩
  .cases o.ob
|_=>cases e
def eN:List D->Option (List D)
|[.int j]=>if-(2^62)<=j/\j<2^62 then some (cD 0 j.toNat)else none
|_=>none
def f8:List D->Option (List D)
|[.int i,.int j]=>if-(2^62)<=i/\i<2^62/\-(2^62)<=j/\j<2^62 then some (cD i (j-i).toNat)else none
|_=>none
def c7(k:List D->Option (List D))(fl:am->Res (List D)):FI:=fun r=>(fl r).bind fun ds=>cP (k ds)
theorem oI{pn:Pos}(hg:Gl X "range")(hm:X.mg "range" = none)(ha:gw X g m [a] fl)(hs:i_ [a] X.env=[(false,eval a X.env)]:=by rfl):iC X g m tg (.Call (.Name "range" pn) [a] [] pos) (c7 eN fl):=by
 refine PI.imp (PC hg hm ha hs) fun σ H R ⟨r,G,si,q⟩=>⟨r,G,si,ba (bg q) fun ds q vs G' H' w rs=>?_⟩
 obtain⟨zs,e,q⟩:=ck q;unfold eN at e;split at e
 .split at e
  .rename_i j hj;cases e;cases rs with
  |cons r1 t=>cases t;exact⟨j,by rw[r1.int w.ok],hj.1,hj.2,q _ G' H' w Dd⟩
  .cases e
 .cases e
theorem Nw{pn:Pos}(hg:Gl X "range")(hm:X.mg "range" = none)(ha:gw X g m [a,b] fl)(hs:i_ [a,b] X.env=[(false,eval a X.env),(false,eval b X.env)]:=by rfl)(B:i_ [b] X.env=[(false,eval b X.env)]:=by rfl):iC X g m tg (.Call (.Name "range" pn) [a,b] [] pos) (c7 f8 fl):=by
 refine PI.imp (PD hg hm ha hs B) fun σ H R ⟨r,G,si,q⟩=>⟨r,G,si,ba (bg q) fun ds q vs G' H' w rs=>?_⟩
 obtain⟨zs,e,q⟩:=ck q;unfold f8 at e;split at e
 .split at e
  .rename_i i j hj;cases e;cases rs with
  |cons r1 t=>cases t with
   |cons r2 t=>cases t;exact⟨i,j,by rw[r1.int w.ok,r2.int w.ok],hj,q _ G' H' w Dd⟩
  .cases e
 .cases e
def aD(ft:FT)(body:FS):List D->FS
|[],r=>.nx r
|d::ds,r=>match ft d r with
 |none=>.stuck
 |some r1=>match body r1 with
  |.nx r'=>aD ft body ds r'
  |.ct r'=>aD ft body ds r'
  |.bk r'=>.nx r'
  |o=>o
def cZ(m:List Md)(fi:FI)(ft:FT)(body:FS):FS:=fun r=>onE m r (fi r) fun ds=>aD ft body ds r
theorem ij(hp:WA (G_ X.prog X.w) X.A X.env X.xe)(hc:X.calm=true){ft:FT}{fi:FI}(hi:iC X g m tg iter fi)(hg:SG X g m tg ft m)(hb:fG X g ro m m sts s1 m)(hs:∀x,Ut iter X.env x=pure x:=by intro _;rfl):SS X g ro mb m (.For tg iter sts [] pos) (cZ m fi ft s1) m:=by
 refine⟨rfl,PS.imp (qF hp hc hi hg.2 hb.2 hs) fun D σ H ⟨r,G,si,q⟩=>⟨r,G,si,ba (gC si rfl q) fun ds q J G0 H0 w0 Y=>?_⟩⟩;refine⟨fun i n σ H=>∃r G,SI X g m r G σ H/\aR G0 G/\i<=ds.length/\n=ds.length-i/\cj X g ro m mb G D (aD ft s1 (ds.drop i) r),⟨ds.length,r,G0,si.grow w0,aR.refl G0,Uf _,rfl,cj.gle q w0.ge⟩,?_⟩
 rintro i n σ1 H1 ⟨r1,G1,si1,le1,hi,rfl,q1⟩
 by_cases hlt:i<ds.length
 .have hd:ds.drop i=ds[i]::ds.drop (i+1):=Uz hlt;rw[hd]at q1;unfold aD at q1;refine .inr ⟨Y.go G1 H1 i le1 si1.gok hlt,fun σ' H'=>∃r G,SI X g m r G σ' H'/\aR G0 G/\cj X g ro m mb G D (aD ft s1 (ds.drop (i+1)) r),fun σ' H' ⟨r',G',si',M,q'⟩=>⟨ds.length-(i+1),by omega,r',G',si',M,hlt,rfl,q'⟩,fun x H' y=>?_⟩;obtain⟨G',w',rv⟩:=Y.yld G1 H1 i x H' ds[i] le1 si1.gok y (m_ hlt);have M:aR G0 G':=le1.trans w'.ge;cases U:ft ds[i] r1 with
 |none=>simp only[U]at q1;exact q1.elim
 |some r2=>simp only[U]at q1;refine⟨r1,G',ds[i],si1.grow w',rv,r2,U,fun σ2 Z=>⟨r2,G',Z,?_⟩⟩;cases eb:s1 r2 with
  |nx r'=>simp only[eb]at q1;exact fun σ3 G3 H3 B L=>⟨r',G3,L,M.trans B,cj.gle q1 (aR.trans w'.ge B)⟩
  |ct r'=>simp only[eb]at q1;exact fun σ3 G3 H3 B L=>⟨r',G3,L,M.trans B,cj.gle q1 (aR.trans w'.ge B)⟩
  |bk r'=>simp only[eb]at q1;exact fun σ3 G3 H3 B L=>q1 σ3 G3 H3 (aR.trans w'.ge B) L
  |rt d=>simp only[eb]at q1;exact q1
  |exc x r'=>simp only[eb]at q1;exact fun pz e s' σ3 G3 H3 B=>q1 pz e s' σ3 G3 H3 (aR.trans w'.ge B)
  |stuck=>simp only[eb]at q1;exact q1
 .have e:i=ds.length:=by omega
  subst e;rw[VW]at q1;exact .inl ⟨Y.stop G1 H1 le1 si1.gok,q1 σ1 G1 H1 (aR.refl _) si1⟩
def cI(m:List Md):List Md:=m.map fun x=>if x=Md.sh then Md.sh else Md.bw
def kW(m:List Md)(r:am)(st:L2.St)(G:GH)(H:Hp):GE:=⟨G,H,fun i=>if m[i]? = some Md.ow\/m[i]? = some Md.bw then some ((st[i]?).join,(r[i]?).join)else none⟩
theorem oQ{m:List Md}{i:Nat}{x:Md}(h:m[i]? = some x):(cI m)[i]? = some (if x=Md.sh then Md.sh else Md.bw):=by unfold cI;rw[D_,h];rfl
theorem NF{m:List Md}{i:Nat}(h:(cI m)[i]? = some Md.sh):m[i]? = some Md.sh:=by cases q:m[i]? with
|none=>unfold cI at h;rw[D_,q]at h;cases h
|some x=>rw[oQ q]at h;cases x <;> first|rfl|(simp at h)
theorem Ew{m:List Md}{i:Nat}(h:(cI m)[i]? = some Md.ow):False:=by cases q:m[i]? with
|none=>unfold cI at h;rw[D_,q]at h;cases h
|some x=>rw[oQ q]at h;cases x <;> simp at h
theorem lockM_bw{m:List Md}{i:Nat}(h:(cI m)[i]? = some Md.bw):m[i]? = some Md.ow\/m[i]? = some Md.bw:=by cases q:m[i]? with
|none=>unfold cI at h;rw[D_,q]at h;cases h
|some x=>rw[oQ q]at h;cases x with
 |sh=>simp at h
 |ow=>exact .inl rfl
 |bw=>exact .inr rfl
theorem SI.lock{r:am}{G:GH}{st:L2.St}{H:Hp}(s:SI X g m r G st H):SI X (kW m r st G H) (cI m) r G st H where
 gok:=s.gok
 old:=fun _ _ e=>e
 ge:=fun _ _ e=>e
 gf:=fun _ _=>rfl
 lm:=by unfold cI;rw[j_];exact s.lm
 lr:=s.lr
 sh:=fun i d h hm=>s.sh i d h (NF hm)
 ow:=fun i d h hm=>(Ew hm).elim
 bw:=fun i d h hm=>by
  rcases lockM_bw hm with z|z
  .obtain⟨a,h1,h2,_⟩:=s.ow i d h z;exact⟨_,h1,.inr ⟨a,rfl,h2,h2.ob.isS⟩⟩
  .obtain⟨v,h1,h2⟩:=s.bw i d h z;refine⟨v,h1,?_⟩;rcases h2 with h2|⟨a,e,h2,_⟩
   .exact .inl h2
   .exact .inr ⟨a,e,h2,h2.ob.isS⟩
 dis:=fun i j a d e _ _ _ hm=>(Ew hm).elim
 lk:=fun i o h hm=>by
  have h':(if m[i]? = some Md.ow\/m[i]? = some Md.bw then some ((st[i]?).join,(r[i]?).join)else none)=some o:=h;rw[if_pos (lockM_bw hm)]at h';cases h';have hi:i<st.length:=by have:=(k_.mp hm).1;unfold cI at this;rw[j_,s.lm]at this;exact this
  refine⟨?_,fun d hd=>by rw[hd];rfl⟩;rw[m_ hi];rfl
theorem SI.unlock{r r':am}{G G':GH}{st st':L2.St}{H H':Hp}(s:SI X g m r G st H)(s':SI X (kW m r st G H) (cI m) r' G' st' H'):SI X g m r' G' st' H':=by
 have w:Grow X.K G H G' H':=s'.grown;have B:∀(i:Nat),(m[i]? = some Md.ow\/m[i]? = some Md.bw)->st'[i]? = some (st[i]?).join/\∀d,r'[i]? = some (some d)->r[i]? = some (some d):=fun i hi=>by
  have hm:(cI m)[i]? = some Md.bw:=by rcases hi with z|z <;> rw[oQ z] <;> simp
  obtain⟨h1,h2⟩:=s'.lk i ((st[i]?).join,(r[i]?).join) (if_pos hi) hm;refine⟨h1,fun d hd=>?_⟩;have:=h2 d hd;cases q:r[i]? with
 |none=>rw[q]at this;cases this
 |some o=>rw[q]at this;rw[show o=some d from this]
 have L:∀(i:Nat) v,(m[i]? = some Md.ow\/m[i]? = some Md.bw)->st[i]? = some (some v)->st'[i]? = some (some v):=fun i v hi h=>by rw[(B i hi).1,h];rfl
 refine⟨s'.gok,fun a o e=>s'.old a o (s.old a o e),fun a d e=>s'.ge a d (s.ge a d e),fun a h=>?_,?_,s'.lr,fun i d h hm=>?_,fun i d h hm=>?_,fun i d h hm=>?_,fun i j a d e hij h1 h2 m1 m2 q1 q2=>?_,fun i o hi hm=>?_⟩
 .have h1:H a≠none:=by cases e:g.h0 a with
  |none=>exact absurd e h
  |some o=>rw[s.old _ _ e];simp
  rw[w.gf a h1,s.gf a h]
 .have:=s'.lm;unfold cI at this;rw[j_]at this;exact this
 .exact s'.sh i d h (by rw[oQ hm];simp)
 .obtain⟨a,h1,h2,h3⟩:=s.ow i d ((B i (.inl hm)).2 d h) hm;exact⟨a,L i _ (.inl hm) h1,h2.mono w,h3⟩
 .obtain⟨v,h1,h2⟩:=s.bw i d ((B i (.inr hm)).2 d h) hm;exact⟨v,L i _ (.inr hm) h1,h2.grow w⟩
 .have e1:=(B i (.inl m1)).2 d h1;have e2:=(B j (.inl m2)).2 e h2;obtain⟨b,z1,_,_⟩:=s.ow i d e1 m1;obtain⟨c,z2,_,_⟩:=s.ow j e e2 m2;have y1:=L i _ (.inl m1) z1;have y2:=L j _ (.inl m2) z2;rw[q1]at y1;rw[q2]at y2;cases y1;cases y2;exact s.dis i j a d e hij e1 e2 m1 m2 z1 z2
 .obtain⟨h1,h2⟩:=s.lk i o hi hm;refine⟨?_,fun d hd=>h2 d ((B i (.inr hm)).2 d hd)⟩;rw[(B i (.inr hm)).1,h1];rfl
theorem SI.unlockX{r r':am}{G G':GH}{st st':L2.St}{H H':Hp}(s:SI X g m r G st H)(s':SI X (kW m r st G H) (eB (cI m)) r' G' st' H'):SI X g (eB m) r' G' st' H':=by
 have w:Grow X.K G H G' H':=s'.grown;have el:eB (cI m)=eB m:=rq (by unfold cI;rw[j_]);rw[el]at s';have no:∀{i:Nat}{x:Md},(eB m)[i]? = some x->x=Md.sh:=fun{i x} h=>by unfold eB at h;rw[D_]at h;cases q:m[i]? with
 |none=>rw[q]at h;cases h
 |some y=>rw[q]at h;cases h;rfl
 refine⟨s'.gok,fun a o e=>s'.old a o (s.old a o e),fun a d e=>s'.ge a d (s.ge a d e),fun a h=>?_,s'.lm,s'.lr,s'.sh,fun i d h hm=>(nomatch (no hm)),fun i d h hm=>(nomatch (no hm)),fun i j a d e hij h1 h2 m1 m2=>(nomatch (no m1)),fun i o hi hm=>(nomatch (no hm))⟩;have h1:H a≠none:=by cases e:g.h0 a with
 |none=>exact absurd e h
 |some o=>rw[s.old _ _ e];simp
 rw[w.gf a h1,s.gf a h]
theorem qA(hp:WA (G_ X.prog X.w) X.A X.env X.xe)(hc:X.calm=true){ft:FT}{fi:FI}(hi:fH X g m tg iter fi)(hg:∀g',SG X g' (cI m) tg ft (cI m))(hb:∀g',fG X g' ro (cI m) (cI m) sts s1 (cI m))(hs:∀x,Ut iter X.env x=pure x:=by intro _;rfl):SS X g ro mb m (.For tg iter sts [] pos) (cZ m fi ft s1) m:=by
 have ac:PG X tg (fun v σ H Q=>∃g',tG X g' (cI m) (cI m) ft v σ H Q):=fun pz s σ H v u Q I r ⟨g',q⟩=>(hg g').2 pz s σ H v u Q I r q;have ad:bW X sts (fun D σ H=>∃g',tS X g' ro (cI m) (cI m) (cI m) s1 D σ H):=fun pz s σ H D I ⟨g',q⟩=>(hb g').2 pz s σ H D I q;refine⟨rfl,PS.imp (qF hp hc hi ac ad hs) fun D σ H ⟨r,G,si,q⟩=>⟨r,G,si,ba (gC si rfl q) fun ds q J G0 H0 w0 Y=>?_⟩⟩;have M:=si.grow w0;refine⟨fun i n σ1 H1=>∃r1 G1,SI X (kW m r σ G0 H0) (cI m) r1 G1 σ1 H1/\i<=ds.length/\n=ds.length-i/\cj X g ro m mb G1 D (aD ft s1 (ds.drop i) r1),⟨ds.length,r,G0,M.lock,Uf _,rfl,cj.gle q w0.ge⟩,?_⟩
 rintro i n σ1 H1 ⟨r1,G1,si1,hi,rfl,q1⟩
 have wg:Grow X.K G0 H0 G1 H1:=si1.grown;by_cases hlt:i<ds.length
 .have hd:ds.drop i=ds[i]::ds.drop (i+1):=Uz hlt;rw[hd]at q1;unfold aD at q1;refine .inr ⟨Y.go G1 H1 i wg hlt,fun σ' H'=>∃r' G',SI X (kW m r σ G0 H0) (cI m) r' G' σ' H'/\cj X g ro m mb G' D (aD ft s1 (ds.drop (i+1)) r'),fun σ' H' ⟨r',G',si',q'⟩=>⟨ds.length-(i+1),by omega,r',G',si',hlt,rfl,q'⟩,fun x H' y=>?_⟩;obtain⟨G',w',rv⟩:=Y.yld G1 H1 i x H' ds[i] wg y (m_ hlt);cases U:ft ds[i] r1 with
 |none=>simp only[U]at q1;exact q1.elim
 |some r2=>simp only[U]at q1;refine⟨kW m r σ G0 H0,r1,G',ds[i],si1.grow w',rv,r2,U,fun σ2 dl=>⟨kW m r σ G0 H0,r2,G',dl,?_⟩⟩;cases eb:s1 r2 with
  |nx r'=>simp only[eb]at q1;exact fun σ3 G3 H3 L B=>⟨r',G3,B,cj.gle q1 (aR.trans w'.ge L)⟩
  |ct r'=>simp only[eb]at q1;exact fun σ3 G3 H3 L B=>⟨r',G3,B,cj.gle q1 (aR.trans w'.ge L)⟩
  |bk r'=>simp only[eb]at q1;exact fun σ3 G3 H3 L B=>q1 σ3 G3 H3 (aR.trans w'.ge L) (M.unlock B)
  |rt d=>simp only[eb]at q1;intro v G2 H2 wr Z;refine q1 v G2 H2 (M.grown.trans wr) ?_;cases ro with
   |false=>exact Z
   |true=>
     rcases Z with⟨a,e1,e2,e3⟩|z
     .exact .inl ⟨a,e1,M.grown.back e2,e3⟩
     .exact .inr z
  |exc x r'=>simp only[eb]at q1;exact fun pz e s' σ3 G3 H3 L B=>q1 pz e s' σ3 G3 H3 (aR.trans w'.ge L) (M.unlockX B)
  |stuck=>simp only[eb]at q1;exact q1
 .have e:i=ds.length:=by omega
  subst e;rw[VW]at q1;exact .inl ⟨Y.stop G1 H1 wg,q1 σ1 G1 H1 (aR.refl _) (M.unlock si1)⟩
def eJ(m:List Md)(p:FQ)(body:FS):Nat->FS
|0,_=>.stuck
|n+1,r=>onE m r (p r) fun c=>if c=true then(match body r with
  |.nx r'=>eJ m p body n r'
  |.ct r'=>eJ m p body n r'
  |.bk r'=>.nx r'
  |o=>o)else .nx r
theorem qV(n:Nat)(hp:WA (G_ X.prog X.w) X.A X.env X.xe)(hc:SQ X g m c p)(hb:fG X g ro m m sts s1 m):SS X g ro mb m (.While c sts [] pos) (eJ m p s1 n) m:=by
 refine⟨rfl,PS.imp (OI hp hc hb.2) fun D σ H ⟨r,G,si,q⟩=>?_⟩;refine⟨fun n σ H=>∃r G,SI X g m r G σ H/\cj X g ro m mb G D (eJ m p s1 n r),⟨n,r,G,si,q⟩,?_⟩
 rintro n σ1 H1 ⟨r1,G1,si1,q1⟩
 cases n with
|zero=>exact q1.elim
|succ n=>unfold eJ at q1;refine⟨r1,G1,si1,ba (gC si1 rfl q1) fun c q2 G2 H2 w2=>?_⟩;cases c with
 |false=>rw[if_neg g_]at q2 ⊢;exact q2 σ1 G2 H2 w2.ge (si1.grow w2)
 |true=>rw[if_pos rfl]at q2 ⊢;refine⟨fun σ' H'=>∃r G,SI X g m r G σ' H'/\cj X g ro m mb G D (eJ m p s1 n r),fun σ' H' h=>⟨n,U6 _,h⟩,r1,G2,si1.grow w2,?_⟩;cases eb:s1 r1 with
  |nx r'=>simp only[eb]at q2;exact fun σ3 G3 H3 B L=>⟨r',G3,L,cj.gle q2 (aR.trans w2.ge B)⟩
  |ct r'=>simp only[eb]at q2;exact fun σ3 G3 H3 B L=>⟨r',G3,L,cj.gle q2 (aR.trans w2.ge B)⟩
  |bk r'=>simp only[eb]at q2;exact fun σ3 G3 H3 B L=>q2 σ3 G3 H3 (aR.trans w2.ge B) L
  |rt d=>simp only[eb]at q2;exact q2
  |exc x r'=>simp only[eb]at q2;exact fun pz e s' σ3 G3 H3 B=>q2 pz e s' σ3 G3 H3 (aR.trans w2.ge B)
  |stuck=>simp only[eb]at q2;exact q2
def gu(m:List Md)(f:FE)(ft:FT):FS:=fun r=>onE m r (f r) fun d=>match ft d r with
|some r'=>.nx r'
|none=>.stuck
theorem uC{ft:FT}(he:SE X g m e f)(hg:SG X g m tg ft m')(hs:XM [tg] e pos.line X.env=pure false:=by rfl)(hw:XO [tg] e X.env=pure none:=by rfl)(h1:(UN [tg] X.env).map (·.2)=[Wo tg X.env]:=by rfl):SS X g ro mb m (.Assign [tg] e pos) (gu m f ft) m':=by refine⟨hg.1,PS.imp (CZ he hg.2 hs hw h1) fun D σ H ⟨r,G,si,q⟩=>⟨r,G,si,ba (gC si hg.1 q) fun d q v G' H' w rv=>?_⟩⟩;cases e1:ft d r with
|none=>simp only[e1]at q;exact q.elim
|some r'=>simp only[e1]at q;exact⟨r,G',d,si.grow w,rv,r',e1,fun σ' si'=>q σ' G' H' w.ge si'⟩
end
def nK:Res D->Res D
|.ok d=>.ok d
|_=>.stuck
inductive ArgsOk(K:W.Frag)(G:GH)(H:Hp):List Md->List V->List D->Prop where
 |nil:ArgsOk K G H [] [] []
 |sh {v:V} {d:D} {ms:List Md} {vs:List V} {ds:List D}:RG K G v d->ArgsOk K G H ms vs ds->ArgsOk K G H (.sh::ms) (v::vs) (d::ds)
 |bw {v:V} {d:D} {ms:List Md} {vs:List V} {ds:List D}:RB K G H v d->ArgsOk K G H ms vs ds->ArgsOk K G H (.bw::ms) (v::vs) (d::ds)
theorem ArgsOk.len{ms:List Md}{vs:List V}{ds:List D}(h:ArgsOk K G H ms vs ds):vs.length=ms.length/\ds.length=ms.length:=by induction h with
|nil=>exact⟨rfl,rfl⟩
|sh h t ih=>exact⟨congrArg (· + 1) ih.1,congrArg (· + 1) ih.2⟩
|bw h t ih=>exact⟨congrArg (· + 1) ih.1,congrArg (· + 1) ih.2⟩
theorem ArgsOk.app{dvs:List V}{dds:List D}(hs:Paired Scl dvs dds):∀{ms:List Md}{vs:List V}{ds:List D},ArgsOk K G H ms vs ds->ArgsOk K G H (ms++q_ dds.length .sh) (vs++dvs) (ds++dds)
|_,_,_,.nil=>by induction hs with
 |nil=>exact .nil
 |cons h t ih=>exact .sh (.scl h) ih
|_,_,_,.sh h t=>.sh h (t.app hs)
|_,_,_,.bw h t=>.bw h (t.app hs)
theorem ArgsOk.get:∀{ms:List Md}{vs:List V}{ds:List D}{i:Nat}{d:D},ArgsOk K G H ms vs ds->ds[i]? = some d->∃v,vs[i]? = some v/\((ms[i]? = some .sh/\RG K G v d)\/(ms[i]? = some .bw/\RB K G H v d))
|_,_,_,_,_,.nil,e=>by simp at e
|_,_,_,0,_,.sh h t,e=>by simp at e;subst e;exact⟨_,rfl,.inl ⟨rfl,h⟩⟩
|_,_,_,0,_,.bw h t,e=>by simp at e;subst e;exact⟨_,rfl,.inr ⟨rfl,h⟩⟩
|_,_,_,i+1,d,.sh h t,e=>by obtain⟨v,h1,h2⟩:=t.get (i:=i) (d:=d) (by simpa using e);exact⟨v,by simpa using h1,by simpa using h2⟩
|_,_,_,i+1,d,.bw h t,e=>by obtain⟨v,h1,h2⟩:=t.get (i:=i) (d:=d) (by simpa using e);exact⟨v,by simpa using h1,by simpa using h2⟩
def jr(K:W.Frag)(ro:Bool)(ms:List Md)(F:List D->Res D):Sp:=fun vs H Q _=>∃G ds,aU K G H/\ArgsOk K G H ms vs ds/\fin (F ds) (fun d=>∀v G' H',Grow K G H G' H'->RV ro K H G' H' v d->Q v H') fun _=>False
def av(ro:Bool):Out->Res D
|.nx _=>if ro=true then .stuck else .ok .non
|.rt d=>.ok d
|.exc x _=>.exc x
|_=>.stuck
def aE(n:Nat)(ds:List D):am:=ds.map some++q_ (n-ds.length) none
def eI(n:Nat)(ms:List Md):List Md:=ms++q_ (n-ms.length) .sh
variable{w:S_}
section
variable{P:E_}{mg:Str->Option a_}{base:Heap}
theorem re{X:Cx}{N:List Str}{ms:List Md}{vs:List V}{ds:List D}{G:GH}{H:Hp}(gk:aU X.K G H)(rs:ArgsOk X.K G H ms vs ds)(hn:ms.length<=N.length):SI X ⟨G,H,fun _=>none⟩ (eI N.length ms) (aE N.length ds) G (L2.aJ N vs) H:=by
 obtain⟨l1,l2⟩:=rs.len;have e1:(L2.aJ N vs).length=N.length:=by unfold L2.aJ;rw[Uk,j_,Vc];omega
 have e2:(aE N.length ds).length=N.length:=by unfold aE;rw[Uk,j_,Vc];omega
 have e3:(eI N.length ms).length=N.length:=by unfold eI;rw[Uk,Vc];omega
 have at_:∀(i:Nat) d,(aE N.length ds)[i]? = some (some d)->i<ms.length/\(eI N.length ms)[i]? = ms[i]?/\∃v,(L2.aJ N vs)[i]? = some (some v)/\((ms[i]? = some .sh/\RG X.K G v d)\/(ms[i]? = some .bw/\RB X.K G H v d)):=fun i d h=>by
  unfold aE at h;by_cases hi:i<ds.length
  .rw[R_ (by simpa using hi),D_]at h;have hd:ds[i]? = some d:=by cases z:ds[i]? with
   |none=>rw[z]at h;cases h
   |some d'=>rw[z]at h;cases h;rfl
   obtain⟨v,hv,rv⟩:=rs.get hd;refine⟨by omega,?_,v,?_,rv⟩
   .unfold eI;rw[R_ (by omega)]
   .unfold L2.aJ;rw[R_ (by rw[j_];omega),D_,hv];rfl
  .rw[Uu (by simpa using hi),UJ]at h;split at h <;> cases h
 refine⟨gk,fun _ _ e=>e,fun _ _ e=>e,fun _ _=>rfl,by rw[e3,e1],by rw[e1,e2],fun i d h hm=>?_,fun i d h hm=>?_,fun i d h hm=>?_,fun i j a d e _ h _ hm=>?_,fun i o h=>nomatch h⟩
 .obtain⟨_,hq,v,h1,h2⟩:=at_ i d h;rw[hq]at hm;rcases h2 with⟨_,h2⟩|⟨h3,h2⟩
  .exact⟨v,h1,h2⟩
  .rw[hm]at h3;cases h3
 .obtain⟨_,hq,v,h1,h2⟩:=at_ i d h;rw[hq]at hm;rcases h2 with⟨h3,h2⟩|⟨h3,h2⟩ <;> rw[hm]at h3 <;> cases h3
 .obtain⟨_,hq,v,h1,h2⟩:=at_ i d h;rw[hq]at hm;rcases h2 with⟨h3,h2⟩|⟨h3,h2⟩
  .rw[hm]at h3;cases h3
  .refine⟨v,h1,?_⟩;rcases h2 with h2|⟨a,rfl,h2⟩
   .exact .inl h2
   .exact .inr ⟨a,rfl,h2,h2.ob.isS⟩
 .obtain⟨_,hq,v,h1,h2⟩:=at_ i d h;rw[hq]at hm;rcases h2 with⟨h3,h2⟩|⟨h3,h2⟩ <;> rw[hm]at h3 <;> cases h3
theorem EM{X:Cx}{ro:Bool}{fs:FS}{m':List Md}{G:GH}{H:Hp}{r:am}{Q:VK}(q:fin (av ro (fs r)) (fun d=>∀v G' H',Grow X.K G H G' H'->RV ro X.K H G' H' v d->Q v H') fun _=>False):cj X ⟨G,H,fun _=>none⟩ ro m' [] G { nx:=fun _ H'=>Q .non H',rt:=Q } (fs r):=by cases e:fs r with
|nx r'=>rw[e]at q;cases ro with
 |false=>exact fun σ' G' H' _ si=>q .non G' H' si.grown (.scl .non)
 |true=>exact q.elim
|rt d=>rw[e]at q;exact fun v G' H' wg rv=>q v G' H' wg rv
|bk r'=>rw[e]at q;exact q.elim
|ct r'=>rw[e]at q;exact q.elim
|exc x r'=>rw[e]at q;exact q.elim
|stuck=>rw[e]at q;exact q
theorem CI{x qual:Str}{st:Stmt}{f:Addr}{fd:UE}{N ps:List Str}{k:Nat}{ro:Bool}{ms:List Md}{fs:FS}{m':List Md}(F:Fun K x qual st f fd)(S:FnScope N ps (aa st))(L:ms.length=ps.length)(B:∀(cdv:a_)(A:Uc)(outer:List Env)(s:f_)(H:Hp)(g:GE)(E:XK),Room k (A.deeper (VB qual (aa st) s.heap.objs.size f cdv)) ->fG (cr cO P w K mg base N qual (aa st) f cdv A outer s H E).nox g ro [] (eI N.length ms) (ap st) fs m'):FnOk P w K mg base cO (k+1) f fd ps (jr K ro ms fun ds=>av ro (fs (aE N.length ds))):=by
 refine F.ok S (fun vs H Q E ⟨G,ds,gk,rs,q⟩=>rs.len.1.trans L) fun cdv A outer s H vs Q E hr h=>?_;obtain⟨G,ds,gk,rs,q⟩:=h;have hpl:ps.length<=N.length:=by have:=congrArg V_ S.pre;rw[Ux]at this;omega
 exact⟨_,(B cdv A outer s H ⟨G,H,fun _=>none⟩ E hr).2,aE N.length ds,G,re gk rs (by omega),EM q⟩
end
section
variable{k:Nat}{fa:Addr}{fd:UE}{ps:List Str}{F:List D->Res D}{dvs:List V}{ds:List a_}{dds:List D}{x:Str}{p:Pos}{ms:List Md}
def pC(X:Cx)(g:GE)(m:List Md)(ms:List Md)(f:am->Res (List D)):TA:=fun σ H Q=>∃r G,SI X g m r G σ H/\fin (f r) (fun ds=>∀vs G' H',Grow X.K G H G' H'->ArgsOk X.K G' H' ms vs ds->Q vs H') (XW X σ G H)
def gG(X:Cx)(g:GE)(m:List Md)(es:List Expr)(ms:List Md)(f:am->Res (List D)):Prop:=PA X es (pC X g m ms f)
theorem aK:gG X g m [] [] ab:=PA.imp iN fun σ H Q ⟨r,G,si,k⟩=>k [] G H (Grow.refl si.gok) .nil
theorem aF(ha:SE X g m e f)(hr:gG X g m es ms fl)(hs:i_ (e::es) X.env=(false,eval e X.env)::i_ es X.env:=by rfl):gG X g m (e::es) (.sh::ms) (af f fl):=by
 refine PA.imp (ff ha hr hs) fun σ H Q ⟨r,G,si,k⟩=>⟨r,G,si,ba (bg k) fun d k1 v G1 H1 w1 r1=>⟨r,G1,si.grow w1,?_⟩⟩
 exact fm (bg k1) w1 fun ds z vs G2 H2 w2 r2=>z (v::vs) G2 H2 (w1.trans w2) (.sh (r1.mono w2.ge) r2)
theorem ak(ha:SB X g m e f)(hr:gG X g m es ms fl)(hs:i_ (e::es) X.env=(false,eval e X.env)::i_ es X.env:=by rfl):gG X g m (e::es) (.bw::ms) (af f fl):=by
 refine PA.imp (ff ha hr hs) fun σ H Q ⟨r,G,si,k⟩=>⟨r,G,si,ba (bg k) fun d k1 v G1 H1 w1 r1=>⟨r,G1,si.grow w1,?_⟩⟩
 exact fm (bg k1) w1 fun ds z vs G2 H2 w2 r2=>z (v::vs) G2 H2 (w1.trans w2) (.bw (r1.mono w2) r2)
def aI(fl:am->Res (List D))(dds:List D)(F:List D->Res D):FE:=fun r=>(fl r).bind fun ds=>nK (F (ds++dds))
theorem Fm{ro:Bool}{vs:List V}{zs:List D}{G:GH}{H:Hp}{Q:VK}(gk:aU X.K G H)(rs:ArgsOk X.K G H ms vs zs)(B:Paired Scl dvs dds)(q:fin (nK (F (zs++dds))) (fun d=>∀v G' H',Grow X.K G H G' H'->RV ro X.K H G' H' v d->Q v H') fun _=>False):jr X.K ro (ms++q_ dds.length .sh) F (vs++dvs) H Q E0:=by refine⟨G,zs++dds,gk,rs.app B,?_⟩;cases e:F (zs++dds)with
|ok d=>rw[e]at q;exact q
|exc x=>rw[e]at q;exact q.elim
|stuck=>rw[e]at q;exact q.elim
theorem yk{α:Type}{r:Res α}{q:α->Prop}{x:D->Prop}(h:fin r q x)(hr:∀e,r≠.exc e):fin r q fun _=>False:=by cases r with
|ok a=>exact h
|exc e=>exact absurd rfl (hr e)
|stuck=>exact h
theorem CS(r:Res D)(e:D):nK r≠.exc e:=by cases r <;> simp[nK]
theorem Kn(G1:FnOk X.prog X.w X.K X.mg X.base cO k fa fd ps (jr X.K false (ms++q_ dds.length .sh) F))(hr:Room k X.A)(hg:Gl X x)(hm:X.mg x=some (.ref fa))(hk:W.keepIn X.K (.ref fa)=true)(hb:fK X.K fd ps ds)(hd:al dvs ds)(L:Paired Scl dvs dds)(ha:gG X g m (e::es) ms fl)(B:(x==("__debug__" : Str))=false:=by decide)(he:i_ (e::es) X.env=(false,eval e X.env)::i_ es X.env:=by rfl)(hpl:(backTo pos (i_ es X.env)).any (·.1)=false:=by rfl):SE X g m (.Call (.Name x p) (e::es) [] pos) (aI fl dds F):=by
 refine PE.imp (qS G1 hr hg hm hk hb hd ji ha B he hpl) fun σ H Q ⟨r,G,si,q⟩=>⟨r,G,si,?_⟩
 cases ez:fl r with
|ok zs=>unfold aI at q;rw[ez]at q;intro vs G' H' w' rs;exact Fm w'.ok rs L (ba (yk q (CS _)) fun d k v G2 H2 w2 rv=>k v G2 H2 (w'.trans w2) rv)
|exc x=>unfold aI at q;rw[ez]at q;exact q
|stuck=>unfold aI at q;rw[ez]at q;exact q
end
theorem Nm{env:Env}:∀(l:List (Str×VQ))(cs:List (Str×Addr)),(∀x∈l,x.2=.free->∃c,env.cells.lookup x.1=some c)->(∀x c,cs.lookup x=some c->env.cells.lookup x=some c) ->∃cl,(forIn l cs (fun(x:Str×VQ)(cs:List (Str×Addr))=>if (x.2==NameKind.free)=true then(do let a <-ZC env x.1;pure (ForInStep.yield ((x.1,a)::cs)))else pure (ForInStep.yield cs)):Sem (List (Str×Addr)))=pure cl /\(∀x c,cl.lookup x=some c->env.cells.lookup x=some c)/\(∀x,(x,NameKind.free)∈l->∃c,cl.lookup x=some c)/\(∀x c,cs.lookup x=some c->∃c',cl.lookup x=some c'):=by
 intro l
 induction l with
|nil=>intro cs _ h;exact⟨cs,rfl,h,fun x hx=>(by cases hx),fun x c h=>⟨c,h⟩⟩
|cons y l ih=>
  intro cs hf hc;obtain⟨n,k⟩:=y;by_cases hk:k=.free
  .subst hk;obtain⟨c,ec⟩:=hf (n,.free) e_ rfl;have e1:ZC env n=pure c:=by unfold ZC;rw[ec]
   have B:∀x c',((n,c)::cs).lookup x=some c'->env.cells.lookup x=some c':=fun x c' h=>by rw[U8]at h;cases q:x==n with
   |true=>rw[q]at h;cases h;rw[UT q];exact ec
   |false=>rw[q]at h;exact hc x c' h
   obtain⟨cl,e2,h1,h2,h3⟩:=ih ((n,c)::cs) (fun x hx=>hf x (h_ _ hx)) B;refine⟨cl,?_,h1,fun x hx=>?_,fun x c' h=>?_⟩
   .rw[<-e2];rw[Wq];show(ZC env n >>= fun a=>pure (ForInStep.yield ((n,a)::cs))) >>= _=_;rw[e1];rfl
   .rcases n_.mp hx with z|z
    .cases z;exact h3 n c (by rw[U8];simp)
    .exact h2 x z
   .cases q:x==n with
   |true=>exact h3 x c (by rw[U8,q])
   |false=>exact h3 x c' (by rw[U8,q];exact h)
  .obtain⟨cl,e2,h1,h2,h3⟩:=ih cs (fun x hx=>hf x (h_ _ hx)) hc;have hb:(k==NameKind.free)=false:=by simpa using hk
   refine⟨cl,?_,h1,fun x hx=>?_,h3⟩
   .rw[<-e2,Wq];simp only[hb,X0,if_false];rfl
   .rcases n_.mp hx with z|z
    .cases z;exact absurd rfl hk
    .exact h2 x z
theorem PN{scope:VX}{env:Env}(hf:∀x∈scope.names,x.2=.free->∃c,env.cells.lookup x.1=some c):∃cl,Zb scope env=pure cl/\(∀x c,cl.lookup x=some c->env.cells.lookup x=some c)/\(∀x,(x,NameKind.free)∈scope.names->∃c,cl.lookup x=some c):=by obtain⟨cl,e,h1,h2,_⟩:=Nm scope.names [] hf (fun x c h=>by cases h);refine⟨cl,?_,h1,h2⟩;have e0:Zb scope env=((forIn scope.names ([]:List (Str×Addr)) (fun(x:Str×VQ)(cs:List (Str×Addr))=>if (x.2==NameKind.free)=true then(do let a <-ZC env x.1;pure (ForInStep.yield ((x.1,a)::cs)))else pure (ForInStep.yield cs)):Sem (List (Str×Addr))) >>= fun cs=>pure cs):=rfl;rw[e0,e];rfl
theorem HD{f:Str->VQ->VQ}:∀(l:List (Str×VQ))(x:Str),(l.map fun y=>(y.1,f y.1 y.2)).lookup x=(l.lookup x).map (f x)
|[],x=>rfl
|(n,k)::l,x=>by rw[L_,U8,U8];cases q:x==n with
 |true=>simp[UT q]
 |false=>exact HD l x
def dR(env:Env)(n:Str)(k:VQ):VQ:=if (k==.free&&env.scope.kind==.function&&env.kindOf n==some .cell)=true then .cell else k
theorem HE(scope:VX)(env:Env)(x:Str):(Yj scope env).names.lookup x=(scope.names.lookup x).map (dR env x):=by
 rw[<-HD];unfold Yj;congr 1;apply U5;intro y _;obtain⟨n,k⟩:=y;show(if (k==NameKind.free&&env.scope.kind==.function&&env.kindOf n==some .cell)=true then(n,NameKind.cell)else(n,k))=(n,dR env n k)
 unfold dR;split <;> rfl
structure CompSc(X:Cx)(scope:VX)(N':List Str)(nl:Nat)(cap:List Nat):Prop where
 kind:scope.kind=.function
 nocell:∀y∈scope.names,y.2≠.cell
 names:∀y∈scope.names,y.2=.local->scope.names.lookup y.1=some .local
 freeK:∀y∈scope.names,y.2=.free->X.env.kindOf y.1=some .cell\/X.env.kindOf y.1=some .free
 len:N'.length=nl+cap.length
 capN:∀j,j<cap.length->∃x,N'[nl+j]? = some x/\X.N[cap.getD j 0]? = some x/\scope.names.lookup x=some .free
def cV(X:Cx)(s₀:f_)(H₀:Hp)(N':List Str)(scope:VX)(cl:List (Str×Addr))(C:Addr)(fp:List Addr):Cx where
 prog:=X.prog
 w:=X.w
 K:=X.K
 mg:=X.mg
 base:=X.base
 A:=X.A
 N:=N'
 s₀:=s₀
 H₀:=H₀
 env:=Xy scope cl C X.env
 outer:=X.stack
 stack:=X.stack
 ex:=fp
 fn:=fun _=>false
 calm:=X.calm
 pn:=[]
 xe:=fun _ _=>False
variable{pz:List (Addr×Obj)}{σ:L2.St}{s:f_}{scope:VX}{N':List Str}{nl:Nat}{cap:List Nat}{cl:List (Str×Addr)}{C:Addr}{fp:List Addr}
theorem Kc(I:Inv X pz σ H s)(sc:CompSc X scope N' nl cap)(h1:∀x c,cl.lookup x=some c->X.env.cells.lookup x=some c)(h2:∀x,(x,NameKind.free)∈scope.names->∃c,cl.lookup x=some c)(hf:∀b∈fp,cX X pz H b/\b<s.heap.objs.size)(hC:s.heap.objs.size<=C):(cV X s H N' scope cl C fp).Ok where
 mod:=I.ok.mod
 kind:=sc.kind
 glob:=I.ok.glob
 blt:=I.ok.blt
 above:=hC
 inj:=fun x y c a b=>I.ok.inj x y c (h1 x c a) (h1 y c b)
 has:=fun x hk=>by
  have B:(scope.names.lookup x).map (dR X.env x)=some .cell\/(scope.names.lookup x).map (dR X.env x)=some .free:=by rw[<-HE];exact hk
  cases e:scope.names.lookup x with
 |none=>rw[e]at B;rcases B with z|z <;> cases z
 |some k=>
   have hm:=PySem.mem_of_lookup e;have kf:k=.free:=by
    rw[e]at B;have L:dR X.env x k=.cell\/dR X.env x k=.free:=by
     rcases B with z|z
     .exact .inl (H_ z)
     .exact .inr (H_ z)
    unfold dR at L;split at L
    .rename_i hc;simp only[P_,beq_iff_eq]at hc;exact hc.1.1
    .rcases L with z|z
     .exact absurd z (sc.nocell _ hm)
     .exact z
   subst kf;exact h2 x hm
 cab:=fun x c h=>by cases h
 hd:=I.ok.hd
 frames:=I.ok.frames
 stk:=.inl rfl
 exf:=fun b hb=>⟨M_ (F_ (hf b hb).2 hC),fun x c e=>(hf b hb).1.2.2.2.2.1 x c (h1 x c e)⟩
 bs:=I.bs
 bsz:=Ue I.ok.bsz I.sz
 noex:=fun b o e hb=>by
  obtain⟨_,_,_,hx,_⟩:=(hf b hb).1;rcases hx with z|z
  .exact I.ok.noex b o e z
  .exact absurd (F_ (w_ e) (Ue I.ok.bsz z)) (UM _)
 exfs:=fun b hb hfs=>by
  obtain⟨_,q1,q2,_⟩:=(hf b hb).1;rcases n_.mp (I.stkSub b hfs)with z|z
  .exact q1 z
  .exact q2 z
 funs:=I.stack
 frf:=I.stkFree
def fX(ft:FT)(q:FQ)(fe:FE)(r0:am):List D->Res (List D)
|[]=>.ok []
|d::ds=>(cP (ft d r0)).bind fun r1=>(q r1).bind fun c=>if c=true then(fe r1).bind fun v=>(fX ft q fe r0 ds).bind fun vs=>.ok (v::vs)else fX ft q fe r0 ds
def bv(nl:Nat)(cap:List Nat)(r:am):am:=q_ nl none++cap.map fun i=>r.getD i none
def aH(nl:Nat)(cap:List Nat)(m:List Md):List Md:=q_ nl Md.sh++cap.map fun i=>if m.getD i Md.sh=Md.sh then Md.sh else Md.bw
def c8(nl:Nat)(cap:List Nat)(st:L2.St):L2.St:=q_ nl none++cap.map fun i=>st.getD i none
theorem oE{α:Type}{nl:Nat}{cap:List Nat}{u:α}{h:Nat->α}{i:Nat}(hi:nl<=i):(q_ nl u++cap.map h)[i]? = (cap[i-nl]?).map h:=by rw[Uu (by simpa using hi),Vc,D_]
theorem Sh(si:SI X g m r G σ H)(w:Grow X.K G H G' H'):SI (cV X s H N' scope cl C fp) ⟨G,H,fun _=>none⟩ (aH nl cap m) (bv nl cap r) G' (c8 nl cap σ) H':=by
 have ad:(aH nl cap m).length=nl+cap.length:=by simp[aH]
 have ac:(bv nl cap r).length=nl+cap.length:=by simp[bv]
 have Y:(c8 nl cap σ).length=nl+cap.length:=by simp[c8]
 have B:∀(i:Nat) d,(bv nl cap r)[i]? = some (some d)->nl<=i/\∃j,cap[i-nl]? = some j/\r[j]? = some (some d):=fun i d h=>by
  by_cases hi:i<nl
  .unfold bv at h;rw[R_ (by simpa using hi),UJ]at h;split at h <;> cases h
  .refine⟨by omega,?_⟩;unfold bv at h;rw[oE (by omega)]at h;cases e:cap[i-nl]? with
  |none=>rw[e]at h;cases h
  |some j=>rw[e]at h;refine⟨j,rfl,?_⟩;have h':r.getD j none=some d:=H_ h;rw[z_]at h';cases e2:r[j]? with
   |none=>rw[e2]at h';cases h'
   |some o=>rw[e2]at h';rw[show o=some d from h']
 have L:∀(i j:Nat) md,nl<=i->cap[i-nl]? = some j->(aH nl cap m)[i]? = some md->md=if m.getD j Md.sh=Md.sh then Md.sh else Md.bw:=fun i j md hi hj h=>by unfold aH at h;rw[oE hi,hj]at h;exact(H_ h).symm
 have M:∀(i j:Nat) v,nl<=i->cap[i-nl]? = some j->σ[j]? = some (some v)->(c8 nl cap σ)[i]? = some (some v):=fun i j v hi hj h=>by unfold c8;rw[oE hi,hj];show some (σ.getD j none)=_;rw[z_,h];rfl
 have mj:∀(j:Nat) d,r[j]? = some (some d)->m[j]? = some (m.getD j Md.sh):=fun j d h=>by
  have hl:j<m.length:=by have:=(k_.mp h).1;rw[si.lr,<-si.lm]at this;exact this
  rw[z_,m_ hl];rfl
 refine⟨w.ok,w.he,w.ge,w.gf,by rw[ad,Y],by rw[ac,Y],fun i d h hm=>?_,fun i d h hm=>?_,fun i d h hm=>?_,fun i j a d e _ h _ hm=>?_,fun i o h=>nomatch h⟩
 .obtain⟨hi,j,hj,hr⟩:=B i d h;have e:=L i j _ hi hj hm;have Z:m.getD j Md.sh=Md.sh:=by
   by_cases z:m.getD j Md.sh=Md.sh
   .exact z
   .rw[if_neg z]at e;cases e
  obtain⟨v,h1,h2⟩:=si.sh j d hr (by rw[mj j d hr,Z]);exact⟨v,M i j v hi hj h1,h2.mono w.ge⟩
 .obtain⟨hi,j,hj,hr⟩:=B i d h;have e:=L i j _ hi hj hm;split at e <;> cases e
 .obtain⟨hi,j,hj,hr⟩:=B i d h;have e:=L i j _ hi hj hm;have Z:m.getD j Md.sh≠Md.sh:=by intro z;rw[if_pos z]at e;cases e
  have U:=mj j d hr;cases q:m.getD j Md.sh with
 |sh=>exact absurd q Z
 |ow=>rw[q]at U;obtain⟨a,h1,h2,_⟩:=si.ow j d hr U;exact⟨_,M i j _ hi hj h1,.inr ⟨a,rfl,h2.mono w,h2.ob.isS⟩⟩
 |bw=>
   rw[q]at U;obtain⟨v,h1,h2⟩:=si.bw j d hr U;refine⟨v,M i j _ hi hj h1,?_⟩;rcases h2 with h2|⟨a,rfl,h2,_⟩
   .exact .inl (h2.mono w.ge)
   .exact .inr ⟨a,rfl,h2.mono w,h2.ob.isS⟩
 .obtain⟨hi,j',hj,hr⟩:=B i d h;have e:=L i j' _ hi hj hm;split at e <;> cases e
theorem Kb(I:Inv X pz σ H s)(ok:(cV X s H N' scope cl C fp).Ok)(sc:CompSc X scope N' nl cap)(h1:∀x c,cl.lookup x=some c->X.env.cells.lookup x=some c)(h2:∀x,(x,NameKind.free)∈scope.names->∃c,cl.lookup x=some c)(hN:X.N.Nodup){s4:f_}{H4:Hp}{mc:Str->Option a_}(Z:s4.os=s.os)(hb:Wj s4.gens)(kp:∀b o,s.heap.get? b=some o->s4.heap.get? b=some o)(Y:s4.heap.Ns C mc)(hC:s.heap.objs.size<=C)(M:H4 C=none)(hH:∀b,H b=none->b<s.heap.objs.size->H4 b=none)(un:Un (gF X.stack) fp H H4 s.heap s4.heap)(hok:cB X.prog X.w H4 s4.heap):Inv (cV X s H N' scope cl C fp) [] (c8 nl cap σ) H4 s4:=by
 refine⟨ok,Z,hb,un,⟨mc,Y,fun i x v e1 e2 e3=>?_⟩,fun x c e=>?_,M,fun x c e=>?_,fun p hp=>absurd (show p∈([]:List (Addr×Obj))from hp) (by simp),hok,?_⟩
 .have hi:nl<=i:=by
   by_cases z:i<nl
   .unfold c8 at e2;rw[R_ (by simpa using z),UJ]at e2;split at e2 <;> cases e2
   .omega
  unfold c8 at e2;rw[oE hi]at e2;cases ej:cap[i-nl]? with
 |none=>rw[ej]at e2;cases e2
 |some j=>
   rw[ej]at e2;have hj:i-nl<cap.length:=(k_.mp ej).1;obtain⟨x',q1,q2,q3⟩:=sc.capN (i-nl) hj;have ed:cap.getD (i-nl) 0=j:=by rw[z_,ej];rfl
   rw[ed]at q2;have ei:nl+(i-nl)=i:=by omega
   rw[ei]at q1;have L:N'[i]? = some x:=e1;rw[q1]at L;have ex:x'=x:=H_ L;subst ex;have hv:σ[j]? = some (some v):=by have z:σ.getD j none=some v:=H_ e2;rw[z_]at z;cases q:σ[j]? with
   |none=>rw[q]at z;cases z
   |some o=>rw[q]at z;rw[show o=some v from z]
   have B:=PySem.mem_of_lookup q3;have kX:=sc.freeK _ B rfl;obtain⟨mx,ac,hl⟩:=I.loc;obtain⟨u,ru,lk⟩:=hl j x' v q2 hv (.inr kX);refine⟨u,ru,.inr ?_⟩;obtain⟨c,ec⟩:=h2 x' B;have U:Env.kindOf (cV X s H N' scope cl C fp).env x'=some .cell\/Env.kindOf (cV X s H N' scope cl C fp).env x'=some .free:=by
    have z:(Yj scope X.env).names.lookup x'=some (dR X.env x' .free):=by rw[HE,q3];rfl
    show(Yj scope X.env).names.lookup x'=_\/(Yj scope X.env).names.lookup x'=_;rw[z];unfold dR;split
    .exact .inl rfl
    .exact .inr rfl
   refine⟨U,c,ec,?_⟩;rcases lk with⟨k,_⟩|⟨_,c',ec',hcell⟩
   .rcases kX with z|z <;> rw[k]at z <;> cases z
   .rw[h1 x' c ec]at ec';cases ec';obtain⟨o,ho,hd⟩:=hcell;exact⟨o,kp c o ho,hd⟩
 .obtain⟨v,o,ho,hd⟩:=I.cell x c (h1 x c e);exact⟨v,o,kp c o ho,hd⟩
 .obtain⟨v,o,ho,hd⟩:=I.cell x c (h1 x c e);exact hH c (I.freeC x c (h1 x c e)) (w_ ho)
 .show(c8 nl cap σ).length=N'.length;rw[sc.len];simp[c8]
section
variable{prog:E_}{A:Uc}{R:Y4->f_->Prop}
theorem Lb{elt target iter:Expr}{ifs:List Expr}{scope:VX}{pos:Pos}{it acc:a_}{env:Env}(I:Nat->f_->Prop)(turn:∀n s,I n s->C_ (G_ prog w) A (Yp it) (fun r s1=>match r with
  |none=>R (.ok .next) s1
  |some v=>C_ (G_ prog w) A (Wp target it v) (fun _ B=>C_ (G_ prog w) A (Wo target env v) (fun _ s2=>
     C_ (G_ prog w) A (forIn ifs true fun c r=>if r=true then do let ok <-isTrue c env (eval c env);pure (ForInStep.yield ok)else pure (ForInStep.yield r)) (fun ok s3=>
      if ok=true then C_ (G_ prog w) A (eval elt env) (fun x s4=>C_ (G_ prog w) A (call (.builtin "list.append") [acc,x]) (fun _ s5=>∃m,m<n/\I m s5) (Xk (G_ prog w) A env fun e s'=>R (.error e) s') s4) (Xk (G_ prog w) A env fun e s'=>R (.error e) s') s3
      else ∃m,m<n/\I m s3) (Xk (G_ prog w) A env fun e s'=>R (.error e) s') s2) (Xk (G_ prog w) A env fun e s'=>R (.error e) s') B)
     (Xk (G_ prog w) A env fun e s'=>R (.error e) s') s1) (Xk (G_ prog w) A env fun e s'=>R (.error e) s') s)(n:Nat)(h:I n s):Wx (G_ prog w) A (.compLoop (.ListComp elt [⟨target,iter,ifs,0⟩] scope pos) 0 it acc env) R s:=by refine codeAny_loop rfl I (fun n s hI=>?_) n h;show C_ _ A ((compTurn (.ListComp elt [⟨target,iter,ifs,0⟩] scope pos) 0 it acc env).onRaise (fun x=>do noteFrame x env;theTreesLotGoes x)) _ _ s;refine wpAny_noted ?_;rw[compTurn_list];refine b_ (WY (b_ (Vn (turn n s hI) (fun r s1 h1=>?_) fun _ _ h'=>h')));cases r with
|none=>exact u_ h1
|some v=>refine b_ (Vn h1 (fun _ B L=>?_) fun _ _ h'=>h');refine b_ (Vn L (fun _ s2 h2=>b_ (Vn h2 (fun ok s3 h3=>?_) fun _ _ h'=>h')) fun _ _ h'=>h');cases ok with
 |false=>exact u_ ⟨rfl,h3⟩
 |true=>exact b_ (b_ (Vn h3 (fun x s4 h4=>b_ (Vn h4 (fun _ s5 h5=>u_ (u_ ⟨rfl,h5⟩)) fun _ _ h'=>h')) fun _ _ h'=>h'))
end
def jv(X:Cx)(g:GE)(m:List Md)(ifs:List Expr)(f:FQ):Prop:=∀(pz:List (Addr×Obj))(s:f_)(σ:L2.St)(H:Hp)(Q:Bool->Hp->Prop),Inv X pz σ H s->tQ X g m f σ H Q ->C_ (G_ X.prog X.w) X.A (forIn ifs true fun c r=>if r=true then do let ok <-isTrue c X.env (eval c X.env);pure (ForInStep.yield ok)else pure (ForInStep.yield r)) (TP X pz σ Q) X.xe s
theorem vB:jv X g m [] fun _=>.ok true:=fun pz s σ H Q I ⟨r,G,si,q⟩=>wpAny_tests_nil ⟨H,I,q G H (Grow.refl si.gok)⟩
theorem oh(h:SQ X g m c p):jv X g m [c] p:=fun pz s σ H Q I q=>wpAny_tests_one (h pz s σ H Q I q)
def hV(ft:FT)(nl:Nat):Prop:=∀d r r1,ft d r=some r1->r1.length=r.length/\∀i,nl<=i->r1[i]? = r[i]?
def qe(ft:jw)(nl:Nat):Prop:=∀d r r1,ft d r=some r1->r1.length=r.length/\∀i,nl<=i->r1[i]? = r[i]?
theorem qt{i nl:Nat}(h:i<nl):hV (ay i) nl:=fun d r r1 e=>by cases e;exact⟨by simp,fun j hj=>by rw[d_ (by omega)]⟩
theorem Nr{nl:Nat}:qe c9 nl:=fun ds r r1 e=>by cases ds with
|nil=>cases e;exact⟨rfl,fun _ _=>rfl⟩
|cons _ _=>cases e
theorem Ft{ft:FT}{fts:jw}{nl:Nat}(h1:hV ft nl)(h2:qe fts nl):qe (bD ft fts) nl:=fun ds r r1 e=>by cases ds with
|nil=>cases e
|cons d ds=>have e':((ft d r).bind fun r'=>fts ds r')=some r1:=e;cases q:ft d r with
 |none=>rw[q]at e';cases e'
 |some r2=>rw[q]at e';obtain⟨a1,a2⟩:=h1 d r r2 q;obtain⟨b1,b2⟩:=h2 ds r2 r1 e';exact⟨b1.trans a1,fun i hi=>(b2 i hi).trans (a2 i hi)⟩
theorem JW{fts:jw}{nl:Nat}(h:qe fts nl):hV (dq fts) nl:=fun d r r1 e=>by cases d with
|tup ds=>exact h ds r r1 e
|lst ds=>exact h ds r r1 e
|_=>cases e
variable{elt:Expr}{ifs:List Expr}{fe:FE}
section
variable{s2:f_}{tg:Expr}{J:It}{it:Addr}{tn:Nat->Heap->Prop}{ds vs:List D}{E:a_->f_->Prop}
theorem K8(i:Nat):(aH nl cap m)[i]?≠some Md.ow:=fun h=>by
 by_cases hi:i<nl
 .unfold aH at h;rw[R_ (by simpa using hi),UJ]at h;split at h <;> cases h
 .unfold aH at h;rw[oE (by omega)]at h;cases e:cap[i-nl]? with
 |none=>rw[e]at h;cases h
 |some j=>rw[e]at h;have h':(if m.getD j Md.sh=Md.sh then Md.sh else Md.bw)=Md.ow:=H_ h;split at h' <;> cases h'
theorem O8{i:Nat}(hi:i<nl)(d:D):(bv nl cap r)[i]?≠some (some d):=fun h=>by unfold bv at h;rw[R_ (by simpa using hi),UJ]at h;split at h <;> cases h
def A4(El:W.Frag->GH->Hp->GH->Hp->V->D->Prop)(X:Cx)(g:GE)(m:List Md)(f:FE):TE:=fun σ H Q=>∃r G,SI X g m r G σ H/\fin (f r) (fun d=>∀v G' H',Grow X.K G H G' H'->El X.K G H G' H' v d->Q v H') (XW X σ G H)
theorem GB{El:W.Frag->GH->Hp->GH->Hp->V->D->Prop}{Rl:Addr->GH->Hp->List V->List D->Prop}(R0:∀p G H,Rl p G H [] [])(Rg:∀{p G H G' H' ws ds},Rl p G H ws ds->Grow X.K G H G' H'->Rl p G' H' ws ds)(Rn:∀{p G H ws ds},Rl p G H ws ds->ws.length=ds.length)(Ra:∀{p G H G' H' ws ds v d},Rl p G H ws ds->Grow X.K G H G' H'->Grow X.K G2 H2 G H->H p=some (.lst ws)->El X.K G H G' H' v d->Rl p G' (aB H' p (.lst (ws++[v]))) (ws++[v]) (ds++[d]))(hN:X.N.Nodup)(SN:X.calm=true)(sc:CompSc X scope N' nl cap)(h1:∀x c,cl.lookup x=some c->X.env.cells.lookup x=some c)(h2:∀x,(x,NameKind.free)∈scope.names->∃c,cl.lookup x=some c)(I2:Inv X pz σ H2 s2)(si:SI X g m r G2 σ H2)(T:Turn X.prog X.w X.K tg J fp it tn)(st:tn 0 s2.heap)(hf:∀b∈fp,cX X pz H2 b)(Y:YieldsC X.K J ds G2 H2)(hsz:ds.length<=sizeLine)(hg:∀C,SG (cV X s2 H2 N' scope cl C fp) ⟨G2,H2,fun _=>none⟩ (aH nl cap m) tg ft (aH nl cap m))(Tg:hV ft nl)(hq:∀C,jv (cV X s2 H2 N' scope cl C fp) ⟨G2,H2,fun _=>none⟩ (aH nl cap m) ifs q)(he:∀C,PE (cV X s2 H2 N' scope cl C fp) elt (A4 El (cV X s2 H2 N' scope cl C fp) ⟨G2,H2,fun _=>none⟩ (aH nl cap m) fe))(Tc:fX ft q fe (bv nl cap r) ds=.ok vs){RR:a_->Addr->Y4->f_->Prop}(Tm:∀(p C:Addr)(s':f_)(H':Hp)(G':GH),Inv X pz σ H' s'->(∃mm,s'.heap.Ns C mm)->H' C=none->C≠X.env.locals->X.s₀.heap.objs.size<=C->(∀x c,X.env.cells.lookup x=some c->c≠C)->(∀z∈X.pn++pz,z.1≠C) ->Grow X.K G2 H2 G' H'->H2 p=none->(∃ws,H' p=some (.lst ws)/\G' p=none/\Rl p G' H' ws vs)->RR (.ref p) C (.ok .next) s'):C_ (G_ X.prog X.w) X.A (newList []) (fun acc s3=>C_ (G_ X.prog X.w) X.A (newFunctionEnv scope X.env.globals cl [] X.env.qual none .none (some X.env)) (fun SJ s4=>Wx (G_ X.prog X.w) X.A (.compStart (.ListComp elt [⟨tg,iter,ifs,0⟩] scope pos) 0 (.ref it) acc { SJ with scope:=Yj scope X.env }) (RR acc SJ.locals) s4) E s3) E s2:=by
 refine UZ (wpAny_newFunctionEnv sc.nocell (by intro y hy;simp at hy) (fun h₁ ad ac=>?_) sc.kind)
 dsimp only at ad ac ⊢
 generalize SK:s2.heap.push { cls:=.type "list",dict:=none,data:=.seq ([]:List a_).toArray }=HH at ad ac ⊢;have hC:HH.objs.size=s2.heap.objs.size+1:=by rw[<-SK,UD]
 have SU:s2.heap.objs.size≠HH.objs.size:=by rw[hC];exact M_ (U6 _)
 have L:s2.heap.objs.size<=HH.objs.size:=by rw[hC];exact WP _
 have U:∀b,b<s2.heap.objs.size->b≠HH.objs.size/\b≠s2.heap.objs.size:=fun b hb=>⟨by rw[hC];exact M_ (U0 hb),M_ hb⟩
 have old:∀b o,s2.heap.get? b=some o->h₁.get? b=some o:=fun b o e=>ac.extBut b o (U b (w_ e)).1 (c_ _ (SK▸c_ _ e));have Ta:h₁.get? s2.heap.objs.size=some { cls:=.type "list",dict:=none,data:=.seq ([]:List a_).toArray }:=ac.extBut _ _ SU (c_ _ (SK▸r_ _ rfl));have Z:H2 s2.heap.objs.size=none:=I2.hok.fresh (s_ _);have dl:∀b∈fp,cX X pz H2 b/\b<s2.heap.objs.size:=fun b hb=>⟨hf b hb,by obtain⟨o,e,_⟩:=T.obj 0 s2.heap st b hb;exact w_ e⟩
 have ok:=Kc (fp:=fp) I2 sc h1 h2 dl L;generalize B:cV X s2 H2 N' scope cl HH.objs.size fp=XX at ok;have S2:G2 s2.heap.objs.size=none:=si.gok.isN Z;have w0:Grow X.K G2 H2 G2 (aB H2 s2.heap.objs.size (.lst [])):=Grow.new si.gok Z _;have S9:cB X.prog X.w (aB H2 s2.heap.objs.size (.lst [])) h₁:=I2.hok.laid old (s_ _) ⟨Uf _,[],0,.nil,Ta⟩;have IC:Inv XX [] (c8 nl cap σ) (aB H2 s2.heap.objs.size (.lst [])) { s2 with heap:=h₁,toks:=s2.toks+([]:List (Str×a_)).length }:=by
  subst B;refine Kb I2 ok sc h1 h2 hN rfl I2.bare old ad L ?_ (fun b hb hlt=>?_) (Un.laid old (s_ _) Z) S9
  .rw[bf (UX SU)];exact I2.hok.fresh L
  .rw[bf (U b hlt).2];exact hb
 have SC:SI XX ⟨G2,H2,fun _=>none⟩ (aH nl cap m) (bv nl cap r) G2 (c8 nl cap σ) (aB H2 s2.heap.objs.size (.lst [])):=by subst B;exact Sh si w0
 have SM:tn 0 h₁:=T.keep _ _ _ st fun b _ o e=>old b o e;have IO:∀(H':Hp),(∀b∈fp,H' b=none)->∀b∈fp,cX XX [] H' b:=fun H' hn b hb=>by
  clear IC SC;subst B;obtain⟨z0,z1,z2,z3,z4,z5⟩:=hf b hb;refine⟨hn b hb,?_,?_,?_,?_,?_⟩
  .exact(U b (dl b hb).2).1
  .intro hfs;rcases n_.mp (I2.stkSub b hfs)with z|z
   .exact z1 z
   .exact z2 z
  .exact .inl hb
  .exact fun x c e=>z4 x c (h1 x c e)
  .intro p hp;exact absurd (show p∈([]:List (Addr×Obj))from hp) (by simp)
 have eA:XX.A=X.A:=Eq.rec (motive:=fun z _=>z.A=X.A) rfl B;have eP:XX.prog=X.prog:=Eq.rec (motive:=fun z _=>z.prog=X.prog) rfl B;have eW:XX.w=X.w:=Eq.rec (motive:=fun z _=>z.w=X.w) rfl B;have eK:XX.K=X.K:=Eq.rec (motive:=fun z _=>z.K=X.K) rfl B;have eX:XX.xe=fun _ _=>False:=Eq.rec (motive:=fun z _=>z.xe=fun _ _=>False) rfl B;have eE:XX.env=Xy scope cl HH.objs.size X.env:=Eq.rec (motive:=fun z _=>z.env=Xy scope cl HH.objs.size X.env) rfl B;have eC:XX.calm=true:=Eq.rec (motive:=fun z _=>z.calm=true) SN B;have eH:XX.H₀=H2:=Eq.rec (motive:=fun z _=>z.H₀=H2) rfl B;have ST:PG XX tg (tG XX ⟨G2,H2,fun _=>none⟩ (aH nl cap m) (aH nl cap m) ft):=Eq.rec (motive:=fun z _=>PG z tg (tG z ⟨G2,H2,fun _=>none⟩ (aH nl cap m) (aH nl cap m) ft)) (hg _).2 B;have hq':jv XX ⟨G2,H2,fun _=>none⟩ (aH nl cap m) ifs q:=Eq.rec (motive:=fun z _=>jv z ⟨G2,H2,fun _=>none⟩ (aH nl cap m) ifs q) (hq _) B;have S0:PE XX elt (A4 El XX ⟨G2,H2,fun _=>none⟩ (aH nl cap m) fe):=Eq.rec (motive:=fun z _=>PE z elt (A4 El z ⟨G2,H2,fun _=>none⟩ (aH nl cap m) fe)) (he _) B;have S4:∀{H':Hp}{s':f_}{σ':L2.St}{G':GH}{ws:List V},Inv XX [] σ' H' s'->Grow X.K G2 H2 G' H'->H' s2.heap.objs.size=some (.lst ws)->G' s2.heap.objs.size=none->Rl s2.heap.objs.size G' H' ws vs->RR (.ref s2.heap.objs.size) HH.objs.size (.ok .next) s':=fun{H' s' σ' G' ws} J1 wg hpp hgp rs=>by
  clear IC SC IO ST hq' S0 eA eP eW eK eX eE eC eH;subst B;have un:=J1.base;refine Tm _ _ s' H' G' ?_ (let⟨mm,hn,_⟩:=J1.loc;⟨mm,hn⟩) J1.free (UO (F_ I2.lt L)) (Ue I2.sz L) (fun x c e z=>?_) (fun z hz e=>?_) wg Z ⟨_,hpp,hgp,rs⟩
  .refine I2.call' J1.os un J1.hok J1.bare fun b hb=>?_;obtain⟨z0,z1,z2,z3,z4,z5⟩:=hf b hb;exact⟨z3,z1,z4,z5⟩
  .obtain⟨v,o,ho,_⟩:=I2.cell x c e;exact absurd (F_ (w_ ho) L) (by rw[z];exact UM _)
  .have:=(I2.pin z hz).1;exact absurd (F_ (w_ this) L) (by rw[e];exact UM _)
 have SH:Wx (G_ X.prog X.w) X.A (.compLoop (.ListComp elt [⟨tg,iter,ifs,0⟩] scope pos) 0 (.ref it) (.ref s2.heap.objs.size) (Xy scope cl HH.objs.size X.env)) (RR (.ref s2.heap.objs.size) HH.objs.size)
   { s2 with heap:=h₁,toks:=s2.toks+([]:List (Str×a_)).length }:=by
  refine Lb (fun n s'=>∃(i:Nat)(σ':L2.St)(H':Hp)(G':GH)(ws:List V)(done rest:List D),Inv XX [] σ' H' s'/\SI XX ⟨G2,H2,fun _=>none⟩ (aH nl cap m) (bv nl cap r) G' σ' H'/\tn i s'.heap/\(∀b∈fp,H' b=none)/\Grow X.K G2 H2 G' H' /\H' s2.heap.objs.size=some (.lst ws)/\G' s2.heap.objs.size=none/\Rl s2.heap.objs.size G' H' ws done/\fX ft q fe (bv nl cap r) (ds.drop i)=.ok rest/\vs=done++rest/\done.length<=i/\i<=ds.length/\n=ds.length-i) ?_ ds.length
   ⟨0,_,_,G2,[],[],vs,IC,SC,SM,fun b hb=>?_,w0,bB,S2,R0 _ _ _,Tc,rfl,s_ _,Uf _,rfl⟩
  rotate_left
  .rw[bf (U b (dl b hb).2).2];exact(hf b hb).1
  rintro n s3 ⟨i,σ3,H3,G3,ws,done,rest,I3,S3,st3,fr3,w3,hp3,hg3,rs3,hr3,hv3,hd3,hi3,rfl⟩
  have M:∀{α:Type}{t:Sem α}{Q:α->f_->Prop}{s':f_}{E':a_->f_->Prop},C_ (G_ XX.prog XX.w) XX.A t Q XX.xe s'->C_ (G_ X.prog X.w) X.A t Q E' s':=fun h=>by rw[eP,eW,eA,eX]at h;exact Vn h (fun _ _ z=>z) fun _ _ z=>z.elim
  by_cases hlt:i<ds.length
  .have hd:ds.drop i=ds[i]::ds.drop (i+1):=Uz hlt;rw[hd]at hr3;unfold fX at hr3;have SX:=T.item XX eP eW eK eC i [] s3 σ3 H3 (Xk (G_ X.prog X.w) X.A (Xy scope cl HH.objs.size X.env) fun e s'=>RR (.ref s2.heap.objs.size) HH.objs.size (.error e) s') I3 (IO H3 fr3) st3 (Y.go G3 H3 i w3 hlt);rw[eA]at SX;refine aO SX fun rr s4 ⟨u,hr,h4⟩=>?_;subst hr;refine aO h4 fun _ s5 ⟨x,H5,I5,r5,y5,st5,fr5⟩=>?_;obtain⟨G5,w5,Tp⟩:=Y.yld G3 H3 i x H5 ds[i] w3 y5 (m_ hlt);have Td:=w3.trans w5;cases BT:ft ds[i] (bv nl cap r)with
  |none=>rw[BT]at hr3;cases hr3
  |some r1=>
    rw[BT]at hr3;simp only[opt_some,bind_ok]at hr3;have Tl:=I5.pinned (IO H5 fr5) (T.obj _ _ st5);have S5:SI XX ⟨G2,H2,fun _=>none⟩ (aH nl cap m) (bv nl cap r) G5 σ3 H5:=S3.grow (by rw[eK];exact w5);have Tb:RG XX.K G5 x ds[i]:=by rw[eK];exact Tp
    have SZ:=ST _ s5 σ3 H5 x u (fun σ6 H6=>H6=H5/\SI XX ⟨G2,H2,fun _=>none⟩ (aH nl cap m) r1 G5 σ6 H5) Tl r5 ⟨bv nl cap r,G5,ds[i],S5,Tb,r1,BT,fun σ6 Ti=>⟨rfl,Ti⟩⟩;rw[eE]at SZ;refine aO (M SZ) fun _ s6 ⟨σ6,H6,I6,e6,S6⟩=>?_;subst e6;obtain⟨Te,fl2⟩:=Tg _ _ _ BT;cases Id:q r1 with
   |stuck=>rw[Id]at hr3;cases hr3
   |exc xx=>rw[Id]at hr3;cases hr3
   |ok b1=>
     rw[Id]at hr3;simp only[bind_ok]at hr3;have SV:=hq' _ s6 σ6 H6 (fun b H7=>b=b1/\∃G7,Grow X.K G5 H6 G7 H7) I6 ⟨r1,G5,S6,by rw[Id];exact fun G7 H7 w7=>⟨rfl,G7,by rw[eK]at w7;exact w7⟩⟩;rw[eE]at SV;refine aO (M SV) fun b s7 ⟨H7,I7,eb,G7,w7⟩=>?_;subst eb;have S7:SI XX ⟨G2,H2,fun _=>none⟩ (aH nl cap m) r1 G7 σ6 H7:=S6.grow (by rw[eK];exact w7);have SF:=Td.trans w7;have Cl:H7 s2.heap.objs.size=some (.lst ws):=w7.he _ _ (w5.he _ _ hp3);have SY:G7 s2.heap.objs.size=none:=by rw[w7.gf _ (by rw[w5.he _ _ hp3];simp),w5.gf _ (by rw[hp3];simp)];exact hg3
     have back:∀{LT:L2.St}{H8:Hp}{G8:GH}{s8:f_},Inv XX ([]++oa fp s5.heap) LT H8 s8->Inv XX [] LT H8 s8/\tn (i+1) s8.heap/\∀b∈fp,H8 b=none:=fun{LT H8 G8 s8} I8=>by refine⟨I8.unpinned,T.keep _ _ _ st5 fun b hb o e=>(I8.pin (b,o) (Uh _ (Uh _ (rS hb e)))).1,fun b hb=>?_⟩;obtain⟨o,e,_⟩:=T.obj _ _ st5 b hb;exact(I8.pin (b,o) (Uh _ (Uh _ (rS hb e)))).2.1
     have less:∀{LT:L2.St}{H8:Hp}{G8:GH},SI XX ⟨G2,H2,fun _=>none⟩ (aH nl cap m) r1 G8 LT H8->SI XX ⟨G2,H2,fun _=>none⟩ (aH nl cap m) (bv nl cap r) G8 LT H8:=fun h=>h.less Te.symm fun j d hj=>by
      by_cases Tn:j<nl
      .exact absurd hj (O8 Tn d)
      .rw[fl2 j (by omega)];exact hj
     cases b with
    |false=>rw[if_neg g_]at hr3 ⊢;obtain⟨Tj,t7,f7⟩:=back (G8:=G7) I7;exact⟨ds.length-(i+1),by omega,i+1,σ6,H7,G7,ws,done,rest,Tj,less S7,t7,f7,SF,Cl,SY,Rg rs3 (w5.trans w7),hr3,hv3,by omega,hlt,rfl⟩
    |true=>rw[if_pos rfl]at hr3 ⊢;cases KK:fe r1 with
     |stuck=>rw[KK]at hr3;cases hr3
     |exc xx=>rw[KK]at hr3;cases hr3
     |ok d1=>rw[KK]at hr3;simp only[bind_ok]at hr3;cases er:fX ft q fe (bv nl cap r) (ds.drop (i+1))with
      |stuck=>rw[er]at hr3;cases hr3
      |exc xx=>rw[er]at hr3;cases hr3
      |ok rest'=>
        rw[er]at hr3;simp only[bind_ok]at hr3;cases hr3;have SR:=S0 _ s7 σ6 H7 (fun v H8=>∃G8,Grow X.K G7 H7 G8 H8/\El X.K G7 H7 G8 H8 v d1) I7 ⟨r1,G7,S7,by rw[KK];exact fun v G8 H8 w8 rv=>⟨G8,by rw[eK]at w8;exact w8,by rw[eK]at rv;exact rv⟩⟩;rw[eE]at SR;refine aO (M SR) fun u8 s8 ⟨v8,H8,I8,r8,G8,w8,rv8⟩=>?_;have To:H8 s2.heap.objs.size=some (.lst ws):=w8.he _ _ Cl;have Sz:G8 s2.heap.objs.size=none:=by rw[w8.gf _ (by rw[Cl];simp)];exact SY
        have S8:SI XX ⟨G2,H2,fun _=>none⟩ (aH nl cap m) r1 G8 σ6 H8:=S7.grow (by rw[eK];exact w8);have hlen:=Rn rs3;have Tk:=iR (X:=XX) _ s8 σ6 H8 (.ref s2.heap.objs.size) [v8] (.ref s2.heap.objs.size) [u8] (fun v H9=>H9=aB H8 s2.heap.objs.size (.lst (ws++[v8]))) I8 rfl (.cons r8 .nil) ⟨_,ws,v8,rfl,rfl,To,by omega,rfl⟩;refine aO (M Tk) fun u9 s9 ⟨v9,H9,I9,r9,e9⟩=>?_;subst e9;obtain⟨Th,t9,f9⟩:=back (G8:=G8) I9;have Tf:=Ra (Rg rs3 (w5.trans w7)) w8 SF Cl rv8;have LE:=SF.trans w8;refine⟨ds.length-(i+1),by omega,i+1,σ6,_,G8,ws++[v8],done++[d1],rest',Th,less (S8.other Sz Z K8 _),t9,f9,?_,bB,Sz,Tf,er,by rw[hv3,UP];rfl,by rw[Uk,Wf];omega,hlt,rfl⟩;refine⟨fun b e hb=>(LE.ok b e hb).mono (fun _ _ z=>z) fun o z=>?_,fun b o hb=>?_,LE.ge,LE.gf⟩
        .rw[bf (by rintro rfl;rw[Sz]at hb;cases hb)];exact z
        .rw[bf (by rintro rfl;rw[Z]at hb;cases hb)];exact LE.he b o hb
  .have e:i=ds.length:=by omega
   subst e;rw[VW]at hr3;cases hr3;rw[UG]at hv3;subst hv3;have dn:=T.done XX eP eW eK eC ds.length [] s3 σ3 H3 (Xk (G_ X.prog X.w) X.A (Xy scope cl HH.objs.size X.env) fun e s'=>RR (.ref s2.heap.objs.size) HH.objs.size (.error e) s') I3 (IO H3 fr3) st3 (Y.stop G3 H3 w3);rw[eA]at dn;refine aO dn fun rr s4 ⟨hr,I4⟩=>?_;subst hr;exact S4 I4 w3 hp3 hg3 rs3
 exact codeAny_compStart_list SH (T.self X.A 0 _ _ _ SM SH)
end
def pR:Res (List D)->Res (List D)
|.ok d=>.ok d
|_=>.stuck
@[simp] theorem noXL_ok(d:List D):pR (.ok d)=.ok d:=rfl
def bN(nl:Nat)(cap:List Nat)(fi:FI)(ft:FT)(q:FQ)(fe:FE):FE:=fun r=>(fi r).bind fun ds=>(cP (sz ds)).bind fun ds=>(pR (fX ft q fe (bv nl cap r) ds)).bind fun vs=>.ok (.lst vs)
section
variable{tg:Expr}{spos:Pos}{fi:FI}
theorem Fp{r:am}{P:D->Prop}{x:D->Prop}(h:fin (bN nl cap fi ft q fe r) P x):fin (fi r) (fun ds=>∃vs,ds.length<=sizeLine/\fX ft q fe (bv nl cap r) ds=.ok vs/\P (.lst vs)) x:=by unfold bN at h;refine ba (bg h) fun ds h1=>?_;obtain⟨ds',e2,h2⟩:=ck (bg h1);obtain⟨rfl,hl⟩:=uJ e2;cases e3:fX ft q fe (bv nl cap r) ds' with
|ok vs=>rw[e3]at h2;exact⟨vs,hl,rfl,h2⟩
|exc x=>rw[e3]at h2;exact h2.elim
|stuck=>rw[e3]at h2;exact h2.elim
theorem CompSc.clo{pz:List (Addr×Obj)}{σ:L2.St}{H:Hp}{s:f_}(sc:CompSc X scope N' nl cap)(ok:X.Ok):∃cl,Zb scope X.env=pure cl/\(∀x c,cl.lookup x=some c->X.env.cells.lookup x=some c)/\(∀x,(x,NameKind.free)∈scope.names->∃c,cl.lookup x=some c):=PN fun y hy hf=>ok.has y.1 (sc.freeK y hy hf)
theorem CT(hN:X.N.Nodup)(B:X.calm=true)(sc:CompSc X scope N' nl cap)(hi:fH X g m tg iter fi)(hg:∀s0 H0 cl C fp g',SG (cV X s0 H0 N' scope cl C fp) g' (aH nl cap m) tg ft (aH nl cap m))(ad:hV ft nl)(hq:∀s0 H0 cl C fp g',jv (cV X s0 H0 N' scope cl C fp) g' (aH nl cap m) ifs q)(he:∀s0 H0 cl C fp g',SE (cV X s0 H0 N' scope cl C fp) g' (aH nl cap m) elt fe)(hs:∀x,Ut iter X.env x=pure x:=by intro _;rfl):SO X g m (.ListComp elt [⟨tg,iter,ifs,0⟩] scope pos) (bN nl cap fi ft q fe):=by
 intro pz s σ H Q I h;obtain⟨r,G,si,k⟩:=h;obtain⟨cl,hcl,h1,h2⟩:=sc.clo (pz:=pz) (σ:=σ) (H:=H) (s:=s) I.ok;have k1:=Fp k;rw[eval_ListComp];refine W1 (use:=none) rfl hs hcl sc.kind sc.names (aO (hi pz s σ H (fun J H'=>∃G' ds vs,Grow X.K G H G' H'/\YieldsC X.K J ds G' H'/\ds.length<=sizeLine/\fX ft q fe (bv nl cap r) ds=.ok vs /\(∀a G' H',Grow X.K G H G' H'->H a=none->Own X.K G' H' a (.lst vs)->Q (.ref a) H')) I ⟨r,G,si,ba k1 fun ds ⟨vs,z1,z2,z3⟩ J G' H' w y=>⟨G',ds,vs,w,y,z1,z2,z3⟩⟩) fun v s1 hv=>aO hv fun itv s2 M=>?_);obtain⟨it,fp,tn,J,H2,rfl,I2,T,st,hf,G2,ds,vs,w2,Y,hsz,L,hQ⟩:=M;refine GB (El:=fun K _ _ G' _ v d=>RG K G' v d) (Rl:=fun _ G _ ws ds=>bx X.K G ws ds) (fun _ _ _=>.nil) (fun h w=>h.mono w.ge) Paired.length (fun h w _ _ e=>Paired.snoc (h.mono w.ge) e) (RR:=fun acc C=>compPost (G_ X.prog X.w) X.A X.xe none (EP X pz σ Q) acc C) hN B sc h1 h2 I2 (si.grow w2) T st hf Y hsz (fun C=>hg _ _ _ _ _ _) ad (fun C=>hq _ _ _ _ _ _) (fun C=>he _ _ _ _ _ _) L ?_;intro p C s' H' G' I' ac BT U dl Cl Z w' hp ⟨ws,o1,o2,o3⟩;have ho:Own X.K G' H' p (.lst vs):=⟨o2,.lst o1 o3⟩
 obtain⟨mm,hn⟩:=ac;refine⟨mm,hn,fun h' hsb=>⟨.ref p,H',?_,rfl,hQ p G' H' (w2.trans w') (w2.back hp) ho⟩⟩;exact I'.turned (it:=C) (t':=s'.toks) (fun b o hb e=>hsb.extBut b o hb e) BT U.symm.symm (.inr dl) Cl Z
theorem Qi(i:Nat){y:Str}(hN:X.N.Nodup)(B:X.calm=true)(hy:X.N[i]? = some y)(M:X.env.scope.names.lookup y=some .local)(sc:CompSc X scope N' nl cap)(hi:fH X g m tg iter fi)(hg:∀s0 H0 cl C fp g',SG (cV X s0 H0 N' scope cl C fp) g' (aH nl cap m) tg ft (aH nl cap m))(BT:hV ft nl)(hq:∀s0 H0 cl C fp g',jv (cV X s0 H0 N' scope cl C fp) g' (aH nl cap m) ifs q)(he:∀s0 H0 cl C fp g',SE (cV X s0 H0 N' scope cl C fp) g' (aH nl cap m) elt fe)(Cl:Uw (.ListComp elt [⟨tg,iter,ifs,0⟩] scope pos) (some (.Name y pos')) spos.line X.env=pure true:=by rfl)(hs:∀x,Ut iter X.env x=pure x:=by intro _;rfl):SS X g ro mb m (.Assign [.Name y pos'] (.ListComp elt [⟨tg,iter,ifs,0⟩] scope pos) spos) (ao m i (bN nl cap fi ft q fe)) (m.set i .ow):=by
 refine⟨by simp,?_⟩;intro pz s σ H D0 I h;obtain⟨r,G,si,k⟩:=h;obtain⟨cl,hcl,h1,h2⟩:=sc.clo (pz:=pz) (σ:=σ) (H:=H) (s:=s) I.ok;have k1:=Fp (gC si (m':=m.set i .ow) (by simp) k);rw[exec_Assign_Name_used _ _ _ _ Cl];refine b_ (WY (b_ ?_));show C_ _ X.A (do let _ <-comprehension (.ListComp elt [⟨tg,iter,ifs,0⟩] scope pos) scope X.env _ (newList []) false (eval iter X.env) (some (Wo (.Name y pos') X.env))) _ _ s;refine b_ (Vn (W1 (use:=some (Wo (.Name y pos') X.env)) (Q:=fun _ s'=>SP X pz D0 .next s') rfl hs hcl sc.kind sc.names (aO (hi pz s σ H (fun J H'=>∃G' ds vs,Grow X.K G H G' H'/\YieldsC X.K J ds G' H'/\ds.length<=sizeLine/\fX ft q fe (bv nl cap r) ds=.ok vs /\(∀σ' G' H',aR G G'->SI X g (m.set i .ow) (r.set i (some (.lst vs))) G' σ' H'->D0.nx σ' H')) I ⟨r,G,si,ba k1 fun ds ⟨vs,z1,z2,z3⟩ J G' H' w y=>⟨G',ds,vs,w,y,z1,z2,z3⟩⟩) fun v s1 hv=>aO hv fun itv s2 LE=>?_)) (fun _ s' hq=>u_ (u_ hq)) fun _ _ e=>e);obtain⟨it,fp,tn,J,H2,rfl,I2,T,st,hf,G2,ds,vs,w2,Y,hsz,Z,hQ⟩:=LE;refine GB (El:=fun K _ _ G' _ v d=>RG K G' v d) (Rl:=fun _ G _ ws ds=>bx X.K G ws ds) (fun _ _ _=>.nil) (fun h w=>h.mono w.ge) Paired.length (fun h w _ _ e=>Paired.snoc (h.mono w.ge) e) (RR:=fun acc C=>compPost (G_ X.prog X.w) X.A X.xe (some (Wo (.Name y pos') X.env)) (fun _ s'=>SP X pz D0 .next s') acc C) hN B sc h1 h2 I2 (si.grow w2) T st hf Y hsz (fun C=>hg _ _ _ _ _ _) BT (fun C=>hq _ _ _ _ _ _) (fun C=>he _ _ _ _ _ _) Z ?_;intro p C s' H' G' I' dl LT L Id U ad w' hp ⟨ws,o1,o2,o3⟩;have ho:Own X.K G' H' p (.lst vs):=⟨o2,.lst o1 o3⟩
 obtain⟨mm,hn⟩:=dl;show C_ _ X.A (Wo (.Name y pos') X.env (.ref p)) _ _ s';refine X9 (Fw I' hN hy (.inl M) (v:=.ref p) rfl (fun s'' KK ⟨a,hsb,ha⟩=>?_) (.inr M));have IO:C≠a:=by
  rcases ha with z|z
  .rw[z];exact L
  .exact(U y a z).symm
 refine⟨mm,hn.sameBut hsb IO,fun h' ac=>?_⟩;refine⟨_,H',KK.turned (it:=C) (t':=s''.toks) (fun b o hb e=>ac.extBut b o hb e) LT L (.inr Id) U ad,?_⟩;exact hQ _ G' H' (w2.trans w').ge (si.setN (w2.trans w') i (w2.back hp) ho)
end
def hJ(K:W.Frag)(r:V->List V->Hp->VK->Prop)(mk:D->List D->Option D):Prop:=∀(G:GH)(H:Hp)(a:Addr)(d:D)(vs:List V)(ds:List D)(d':D)(Q:VK),aU K G H->Own K G H a d->bx K G vs ds->mk d ds=some d' ->(∀o',OwnO K G (aB H a o') a d'->Q .non (aB H a o'))->r (.ref a) vs H Q
def sT(T:String):D->Bool
|.lst _=>T == "list"
|.dic _=>T == "dict"
|_=>false
def cb(T:String)(m:List Md)(i:Nat)(fl:am->Res (List D))(mk:D->List D->Option D):FS:=fun r=>match r[i]? with
|some (some d)=>if sT T d=true then onE m r (fl r) fun ds=>(match mk d ds with
 |some d'=>.nx (r.set i (some d'))
 |none=>.stuck)else .stuck
|_=>.stuck
theorem Lv{K:W.Frag}{G:GH}{H:Hp}{a:Addr}{d:D}{T:String}(o:Own K G H a d)(t:sT T d=true):nJ K T (.ref a) H:=by cases o.ob with
|lst r s=>exact .inl ⟨UT t,_,bh.of r⟩
|dic r s=>exact .inr (.inr (.inl ⟨UT t,.inl ⟨_,.inl r⟩⟩))
variable{o:Expr}
section
variable{apos cpos:Pos}{x name:Str}{R:V->List V->Hp->VK->Prop}{mk:D->List D->Option D}
theorem OO(i:Nat)(hm:m[i]? = some .ow)(hk:hJ X.K R mk){D0:Ends}{σ:L2.St}{H:Hp}(h:tS X g ro m m mb (cb T m i fl mk) D0 σ H):∃v,σ[i]? = some (some v)/\nJ X.K T v H/\tL X g m fl σ H fun xs H2=>R v xs H2 fun _ H1=>D0.nx σ H1:=by obtain⟨r,G,si,k⟩:=h;unfold cb at k;cases er:r[i]? with
|none=>simp only[er]at k;exact(show False from k).elim
|some oo=>cases oo with
 |none=>simp only[er]at k;exact(show False from k).elim
 |some d=>
   simp only[er]at k;by_cases ht:sT T d=true
   .rw[if_pos ht]at k;obtain⟨a,h1,h2,h3⟩:=si.mut hm er;refine⟨_,h1,Lv h2 ht,r,G,si,ba (gC si rfl k) fun ds k2 vs G' H' w rs=>?_⟩;cases em:mk d ds with
   |none=>simp only[em]at k2;exact(show False from k2).elim
   |some d'=>simp only[em]at k2;obtain⟨a',B,L,M⟩:=(si.grow w).mut hm er;rw[h1]at B;cases B;exact hk G' H' a d vs ds d' _ w.ok L rs em fun o' ob=>k2 σ G' _ w.ge (M o' d' ob)
   .rw[if_neg ht]at k;exact(show False from k).elim
theorem gL(i:Nat)(hm:m[i]? = some .ow)(pa:XZ T)(slot:Slot T name id)(ac:typeOf (.builtin id)=pure (.type "method_descriptor"))(ad:hU X id R)(hk:hJ X.K R mk)(hN:X.N[i]? = some x)(hv:dz X.env.scope x)(ha:SA X g m (e::es) fl)(hd:(x==("__debug__" : Str))=false:=by decide)(Y:(x==("__classdict__" : Str))=false:=by decide)(L:Uo (.Name x pos') name X.env (eval (.Name x pos') X.env)=eval (.Name x pos') X.env:=by rfl)(U:((backTo cpos (i_ (e::es) X.env)).all (fun x=>! x.1)&&(Wk cpos (Vz [] X.env)).all (fun x=>x.1.isSome)&&decide ((e::es).length+([]:List Xh).length+(if ([]:List Xh).isEmpty then 0 else 1)<30))=true:=by rfl)(M:(apos.endLine==cpos.line)=true:=by rfl)(Z:i_ (e::es) X.env=(false,eval e X.env)::i_ es X.env:=by rfl)(B:(backTo cpos (i_ es X.env)).any (·.1)=false:=by rfl):SS X g ro mb m (.Expr (.Call (.Attribute (.Name x pos') name apos) (e::es) [] cpos) pos) (cb T m i fl mk) m:=⟨rfl,PS.imp (qT (tU pa slot ac ad (dM hN hv hd Y) ha L U M Z B)) fun D0 σ H h=>OO i hm hk h⟩
def appD:D->List D->Option D
|.lst ds,[d]=>if ds.length<sizeLine then some (.lst (ds++[d]))else none
|_,_=>none
theorem jF{K:W.Frag}:hJ K DB appD:=by
 intro G H a d vs ds d' Q gk ow rs e q;unfold appD at e;split at e
 .split at e
  .rename_i hl;cases e;cases ow.ob with
  |lst r s=>cases rs with
   |cons r1 t=>cases t;have:=Paired.length s;exact⟨a,_,_,rfl,rfl,r,by omega,q _ (.lst bB (Paired.snoc s r1))⟩
  .cases e
 .cases e
def tZ(x:Int)(n:Nat):Nat:=if x<0 then(x+(n:Int)).toNat else min x.toNat n
def ce{α:Type}(xs:List α)(x:Int)(y:α):List α:=xs.take (tZ x xs.length)++y::xs.drop (tZ x xs.length)
def DD:V->List V->Hp->VK->Prop:=fun x vs H Q=>∃l xs i y,x=.ref l/\vs=[.int i,y]/\H l=some (.lst xs)/\-(2^63)<=i/\i<2^63/\xs.length<sizeLine/\Q .non (aB H l (.lst (ce xs i y)))
theorem PJ:hU X "list.insert" DD:=by
 intro pz s σ H x vs v us Q I rx rv h;obtain⟨l,xs,i,y,rfl,rfl,hH,h1,h2,hz,q⟩:=h;cases rx;obtain⟨u,w',rfl,⟨t,rfl⟩,ry⟩:=Cv rv;obtain⟨z,its,n,r,hl,e⟩:=I.lstM hH;have B:¬(! WH i)=true:=by rw[fitsIndex_both h1 h2];exact g_
 refine VD PySem.F.slot_list_insert ⟨_,e,rfl⟩ PySem.F.entry_list_insert (PySem.F.args_list_insert_3 _ _ _) (AutoListH.list_insert_list_int_val_1 l its.toArray n i t w' B (by rw[l_];omega)) ⟨e,?_⟩;refine⟨.non,_,I.lset (its':=ce its i w') hH e ?_ ?_ ?_,rfl,q⟩
 .show((its.toArray.extract 0 (if i<0 then(i+((its.toArray.size:Nat):Int)).toNat else min i.toNat its.toArray.size)).push w'++its.toArray.extract (if i<0 then(i+((its.toArray.size:Nat):Int)).toNat else min i.toNat its.toArray.size))=(ce its i w').toArray;rw[l_];unfold ce tZ;generalize(if i<0 then(i+((its.length:Nat):Int)).toNat else min i.toNat its.length)=k;apply ZL;simp;exact Xl (by rw[VU];exact s_ _)
 .unfold ce;rw[hl];exact al.append (r.take _) (.cons ry (r.drop _))
 .unfold ce;rw[Uk,x_,Ux,VU];omega
def insD:D->List D->Option D
|.lst ds,[.int i,d]=>if ds.length<sizeLine/\-(2^63)<=i/\i<2^63 then some (.lst (ce ds i d))else none
|_,_=>none
theorem J5{α β:Type}{F:α->β->Prop}{l:List α}{r:List β}{x:α}{y:β}(h:Paired F l r)(i:Int)(B:F x y):Paired F (ce l i x) (ce r i y):=by unfold ce;rw[Paired.length h];exact Paired.app (Paired.tk _ h) (.cons B (Paired.dr _ h))
theorem J6{K:W.Frag}:hJ K DD insD:=by
 intro G H a d vs ds d' Q gk ow rs e q;unfold insD at e;split at e
 .split at e
  .rename_i hl;cases e;cases ow.ob with
  |lst r s=>cases rs with
   |cons r1 t=>cases t with
    |cons r2 t=>cases t;have:=Paired.length s;exact⟨a,_,_,_,rfl,by rw[r1.int gk],r,hl.2.1,hl.2.2,by omega,q _ (.lst bB (J5 s _ r2))⟩
  .cases e
 .cases e
end
def cv:D->Bool
|.non=>true
|.bl _=>true
|.int _=>true
|.str _=>true
|_=>false
def e8:D->V
|.non=>.non
|.bl b=>.bl b
|.int i=>.int i
|.str x=>.str x
|_=>.non
def eT(a b:D):Bool:=gZ (e8 a) (e8 b)
theorem RB.flat(h:RB K G H v d)(gk:aU K G H)(hf:cv d=true):v=e8 d/\fO v=true:=by cases d with
|non=>rw[h.non gk];exact⟨rfl,rfl⟩
|bl b=>rw[h.bl gk];exact⟨rfl,rfl⟩
|int i=>rw[h.int gk];exact⟨rfl,rfl⟩
|str x=>rw[h.str gk];exact⟨rfl,rfl⟩
|_=>cases hf
theorem BW{xs:List V}{ds:List D}(h:bx K G xs ds)(gk:aU K G H)(hf:ds.all cv=true):xs=ds.map e8/\xs.all fO=true:=by induction h with
|nil=>exact⟨rfl,rfl⟩
|cons r t ih=>rw[Vq,P_]at hf;obtain⟨e1,e2⟩:=RB.flat (H:=H) r.rb gk hf.1;obtain⟨e3,e4⟩:=ih hf.2;exact⟨by rw[L_,<-e3,<-e1],by rw[Vq,e2,e4];rfl⟩
def eQ:D->Option aG
|.int i=>some (.inl i)
|.str x=>some (.inr x)
|_=>none
def cU(kvs:List (aG×D))(k:aG):Bool:=kvs.any fun kv=>decide (kv.1=k)
def bH(kvs:List (aG×D))(k:aG):Option D:=(kvs.find? fun kv=>decide (kv.1=k)).map (·.2)
def iy(x c:D):Option Bool:=match c with
|.lst ds=>if cv x=true/\ds.all cv=true then some (ds.any fun y=>eT y x)else none
|.tup ds=>if cv x=true/\ds.all cv=true then some (ds.any fun y=>eT y x)else none
|.dic kvs=>(eQ x).map (cU kvs)
|.str y=>match x with
 |.str z=>some (!(O_ y z 0 y.length 1).isEmpty)
 |_=>none
|_=>none
def dF(x c:D):Option D:=(iy x c).map .bl
def dZ(x c:D):Option D:=(iy x c).map fun b=>.bl (! b)
theorem CH{K:W.Frag}{G:GH}{k:aG}{ps:List (aG×V)}{kvs:List (aG×D)}(h:eu K G ps kvs)(d:D)(e:bH kvs k=some d):∃v,cJ ps k=some v/\RG K G v d:=by induction h with
|nil=>cases e
|@cons p q ps kvs r t ih=>
  obtain⟨k1,v1⟩:=p;obtain⟨k2,d2⟩:=q;obtain⟨e1,r1⟩:=r;have B:k1=k2:=e1;subst B;by_cases hk:k1=k
  .subst hk;have:d2=d:=by simpa[bH,T_]using e
   subst this;exact⟨v1,rj rfl,r1⟩
  .have e':bH kvs k=some d:=by simpa[bH,T_,hk]using e
   obtain⟨v,h1,h2⟩:=ih e';exact⟨v,by rw[oM hk];exact h1,h2⟩
theorem Pf{K:W.Frag}{G:GH}{k:aG}{ps:List (aG×V)}{kvs:List (aG×D)}(h:eu K G ps kvs)(e:bH kvs k=none):cJ ps k=none:=by induction h with
|nil=>rfl
|@cons p q ps kvs r t ih=>
  obtain⟨k1,v1⟩:=p;obtain⟨k2,d2⟩:=q;obtain⟨e1,r1⟩:=r;have B:k1=k2:=e1;subst B;by_cases hk:k1=k
  .subst hk;simp[bH,T_]at e
  .have e':bH kvs k=none:=by simpa[bH,T_,hk]using e
   rw[oM hk];exact ih e'
theorem J2(kvs:List (aG×D))(k:aG):cU kvs k=(bH kvs k).isSome:=by induction kvs with
|nil=>rfl
|cons p r ih=>
  by_cases e:p.1=k
  .simp[cU,bH,T_,e]
  .have h1:cU (p::r) k=cU r k:=by simp[cU,e]
   have h2:bH (p::r) k=bH r k:=by simp[bH,T_,e]
   rw[h1,h2,ih]
theorem uS{K:W.Frag}{G:GH}{H:Hp}{v:V}{d:D}{k:aG}(gk:aU K G H)(h:RB K G H v d)(e:eQ d=some k):v=kV k:=by cases d with
|int i=>cases e;exact h.int gk
|str x=>cases e;exact h.str gk
|_=>cases e
def lU(neg:Bool):R2:=fun y x H Q=>∃a o,x=.ref a/\hX H a y o/\Q (.bl (if neg then ! o.isSome else o.isSome)) H
theorem KZ(hu:X.A.units+1<Vj):bo X (Ug .In) (lU false):=by intro pz s σ H y x u v Q I ry rx h;obtain⟨a,oo,rfl,hg,q⟩:=h;cases rx;exact Bt hu I hg ry fun s' I'=>⟨.bl _,H,I',rfl,q⟩
theorem LZ(hu:X.A.units+1<Vj):bo X (Ug .NotIn) (lU true):=by intro pz s σ H y x u v Q I ry rx h;obtain⟨a,oo,rfl,hg,q⟩:=h;cases rx;exact Le hu I hg ry fun s' I'=>⟨.bl _,H,I',rfl,q⟩
def gS(K:W.Frag)(neg:Bool):R2:=fun x y H Q=>Bi K neg x y H Q\/lU neg x y H Q\/∃i j,x=.str i/\y=.str j/\Q (.bl (if neg then !(!(O_ j i 0 j.length 1).isEmpty)else !(O_ j i 0 j.length 1).isEmpty)) H
theorem De(hu:X.A.units+1<Vj):bo X (Ug .In) (gS X.K false):=bo.or Py (bo.or (KZ hu) Pz)
theorem LY(hu:X.A.units+1<Vj):bo X (Ug .NotIn) (gS X.K true):=bo.or Rm (bo.or (LZ hu) Ro)
theorem Dk{K:W.Frag}(neg:Bool):dG K (gS K neg) (fun x c=>(iy x c).map fun b=>.bl (if neg then ! b else b)):=by
 intro G H v1 v2 d1 d2 d Q gk r1 r2 e q;have seq:∀{xs:List V}{ds:List D}{p:Addr},bx K G xs ds->v2=.ref p->(bh K H p xs\/bU K H p xs)->cv d1=true->ds.all cv=true->d=.bl (if neg then !(ds.any fun y=>eT y d1)else ds.any fun y=>eT y d1)->gS K neg v1 v2 H Q:=fun{xs ds p} rs e2 hs hf hfs ed=>by
  obtain⟨e1,f1⟩:=RB.flat r1 gk hf;obtain⟨e3,f3⟩:=BW rs gk hfs;refine .inl ⟨p,xs,e2,hs,f1,f3,q _ G H (Grow.refl gk) ?_⟩;have:sZ v1 xs=ds.any fun y=>eT y d1:=by unfold sZ;rw[e3,Wy,e1];rfl
  rw[this,ed];exact .scl (.bl _)
 cases d2 with
|lst ds=>
  by_cases hc:cv d1=true/\ds.all cv=true
  .simp only[iy,if_pos hc,VG]at e;obtain⟨p,xs,e2,hs,rs⟩:=r2.lst gk;exact seq rs e2 (.inl hs) hc.1 hc.2 (H_ e).symm
  .simp only[iy,if_neg hc,YO]at e;cases e
|tup ds=>
  by_cases hc:cv d1=true/\ds.all cv=true
  .simp only[iy,if_pos hc,VG]at e;obtain⟨p,xs,e2,hs,rs⟩:=r2.tup gk;exact seq rs e2 (.inr hs) hc.1 hc.2 (H_ e).symm
  .simp only[iy,if_neg hc,YO]at e;cases e
|dic kvs=>simp only[iy]at e;cases ek:eQ d1 with
 |none=>rw[ek]at e;cases e
 |some k=>
   rw[ek]at e;cases e;obtain⟨p,ps,rfl,hs,rs⟩:=r2.dic gk;refine .inr (.inl ⟨p,cJ ps k,rfl,by rw[uS gk r1 ek];exact .inl ⟨ps,k,hs,rfl,rfl⟩,q _ G H (Grow.refl gk) ?_⟩);have:(cJ ps k).isSome=cU kvs k:=by rw[J2];cases eg:bH kvs k with
   |none=>rw[Pf rs eg];rfl
   |some d=>obtain⟨v,h1,_⟩:=CH rs d eg;rw[h1];rfl
   rw[this];exact .scl (.bl _)
|str y=>cases d1 with
 |str z=>cases e;exact .inr (.inr ⟨z,y,r1.str gk,r2.str gk,q _ G H (Grow.refl gk) (.scl (.bl _))⟩)
 |_=>cases e
|_=>cases e
theorem B2{K:W.Frag}:dG K (gS K false) dF:=by
 have h:=Dk (K:=K) false;have e:(fun x c=>(iy x c).map fun b=>D.bl (if false=true then ! b else b))=dF:=by funext x c;unfold dF;cases iy x c <;> rfl
 rw[e]at h;exact h
theorem JP{K:W.Frag}:dG K (gS K true) dZ:=by
 have h:=Dk (K:=K) true;have e:(fun x c=>(iy x c).map fun b=>D.bl (if true=true then ! b else b))=dZ:=by funext x c;unfold dZ;cases iy x c <;> rfl
 rw[e]at h;exact h
theorem pG(hu:X.A.units+1<Vj)(ha:SB X g m a fa)(hb:SB X g m b fb)(hm:UU .In b=false:=by rfl):SE X g m (.Compare a [.In] [b] pos) (f2 fa fb dF):=uD (De hu) B2 ha hb hm
theorem iW(hu:X.A.units+1<Vj)(ha:SB X g m a fa)(hb:SB X g m b fb)(hm:UU .In b=false:=by rfl):SQ X g m (.Compare a [.In] [b] pos) (aW (f2 fa fb dF)):=kg (De hu) B2 ha hb hm
theorem uL(hu:X.A.units+1<Vj)(ha:SB X g m a fa)(hb:SB X g m b fb)(hm:UU .NotIn b=false:=by rfl):SQ X g m (.Compare a [.NotIn] [b] pos) (aW (f2 fa fb dZ)):=kg (LY hu) JP ha hb hm
def nL:D->D->Option D
|.non,.non=>some (.bl true)
|_,.non=>some (.bl false)
|_,_=>none
def i7:D->D->Option D
|.non,.non=>some (.bl false)
|_,.non=>some (.bl true)
|_,_=>none
theorem RB.isnon{K:W.Frag}{G:GH}{H:Hp}{v:V}{d:D}(gk:aU K G H)(h:RB K G H v d):(v=.non↔d=.non):=by
 constructor
 .intro e;subst e;rcases h with h|⟨a,e,_⟩
  .cases h with
  |scl s=>cases s;rfl
  .cases e
 .intro e;subst e;exact h.non gk
theorem IW{K:W.Frag}:dG K (fun x y H Q=>y=.non/\Q (.bl (decide (x=.non))) H) nL:=by intro G H v1 v2 d1 d2 d Q gk r1 r2 e q;have hn:=r1.isnon gk;cases d2 with
|non=>refine⟨r2.non gk,q _ G H (Grow.refl gk) ?_⟩;cases d1 with
 |non=>cases e;rw[decide_eq_true (hn.mpr rfl)];exact .scl (.bl _)
 |_=>cases e;rw[decide_eq_false (fun z=>by have:=hn.mp z;cases this)];exact .scl (.bl _)
|_=>cases d1 <;> cases e
theorem Jy{K:W.Frag}:dG K (fun x y H Q=>y=.non/\Q (.bl (! decide (x=.non))) H) i7:=by intro G H v1 v2 d1 d2 d Q gk r1 r2 e q;have hn:=r1.isnon gk;cases d2 with
|non=>refine⟨r2.non gk,q _ G H (Grow.refl gk) ?_⟩;cases d1 with
 |non=>cases e;rw[decide_eq_true (hn.mpr rfl)];exact .scl (.bl _)
 |_=>cases e;rw[decide_eq_false (fun z=>by have:=hn.mp z;cases this)];exact .scl (.bl _)
|_=>cases d1 <;> cases e
theorem lV(ha:SB X g m a fa)(hb:SB X g m b fb):SQ X g m (.Compare a [.Is] [b] pos) (aW (f2 fa fb nL)):=kg K0 IW ha hb (kx _)
theorem Co(ha:SB X g m a fa)(hb:SB X g m b fb):SQ X g m (.Compare a [.IsNot] [b] pos) (aW (f2 fa fb i7)):=kg L0 Jy ha hb (kx _)
end DL
section
namespace DL
open PySem PySem.Spec PyProof.Rows L2
variable{X:Cx}{g:GE}{m mb:List Md}{e a b o c:Expr}{f fa fb fc:FE}{pos pos':Pos}
section
variable{p1 p2:Pos}{ro:Bool}{x:Str}
def pM:R2:=fun x y H Q=>∃a v,x=.ref a/\hX H a y (some v)/\Q v H
theorem JA(hu:X.A.units+1<Vj):iE X pM:=by intro value slice pz s σ H x y v u Q I rx ry h hs;obtain⟨a,w,rfl,hg,q⟩:=h;cases rx;exact Y8 (QJ I hg) PySem.F.slot_dict_getitem.lookup (Pc hu I hg ry fun w' s' I' B=>⟨w,H,I',B,q⟩) hs
def aX:D->D->Option D
|.dic kvs,k=>(eQ k).bind (bH kvs)
|c,k=>ixD c k
theorem Jz{K:W.Frag}:dG K (fun x y H Q=>pM x y H Q\/Bh K x y H Q) aX:=by intro G H v1 v2 d1 d2 d Q gk r1 r2 e q;cases d1 with
|dic kvs=>obtain⟨a,ps,rfl,hs,rs⟩:=r1.dic gk;have e':(eQ d2).bind (bH kvs)=some d:=e;cases ek:eQ d2 with
 |none=>rw[ek]at e';cases e'
 |some k=>rw[ek]at e';obtain⟨v,h1,h2⟩:=CH rs d e';refine .inl ⟨a,v,rfl,?_,q v G H (Grow.refl gk) h2⟩;rw[uS gk r2 ek,<-h1];exact .inl ⟨ps,k,hs,rfl,rfl⟩
|lst ds=>exact .inr (t0 G H v1 v2 _ d2 d Q gk r1 r2 e q)
|tup ds=>exact .inr (t0 G H v1 v2 _ d2 d Q gk r1 r2 e q)
|str ds=>exact .inr (t0 G H v1 v2 _ d2 d Q gk r1 r2 e q)
|_=>cases e
theorem da(hu:X.A.units+1<Vj)(ha:SB X g m a fa)(hb:SB X g m b fb)(hs:qI b:=by intro _ _;rfl):SE X g m (.Subscript a b pos) (f2 fa fb aX):=uF Jz (Cj (iE.or (JA hu) JB) ha hb hs)
theorem mS:SO X g m (.Dict [] [] pos) fun _=>.ok (.dic []):=PE.imp Oz fun σ H Q ⟨r,G,si,q⟩ p hp=>q p G _ (Grow.new si.gok hp _) hp ⟨si.gok.isN hp,.dic bB .nil⟩
def cL(kvs:List (aG×D))(k:aG)(d:D):List (aG×D):=if (kvs.any fun kv=>decide (kv.1=k))=true then kvs.map fun kv=>if kv.1=k then(kv.1,d)else kv else kvs++[(k,d)]
theorem NJ{K:W.Frag}{G:GH}{k:aG}{ps:List (aG×V)}{kvs:List (aG×D)}(h:eu K G ps kvs):(ps.any fun kv=>decide (kv.1=k))=kvs.any fun kv=>decide (kv.1=k):=by induction h with
|nil=>rfl
|cons r t ih=>rw[VL,VL,ih,r.1]
theorem Cm{K:W.Frag}{G:GH}{ps:List (aG×V)}{kvs:List (aG×D)}{k:aG}{v:V}{d:D}(r:eu K G ps kvs)(h:RG K G v d):eu K G (ca ps k v) (cL kvs k d):=by
 unfold ca cL;rw[NJ r];by_cases hc:(kvs.any fun kv=>decide (kv.1=k))=true
 .rw[if_pos hc,if_pos hc];clear hc
  induction r with
 |nil=>exact .nil
 |@cons p q ps kvs r t ih=>
   refine .cons ?_ ih;obtain⟨p1,p2⟩:=p;obtain⟨q1,q2⟩:=q;have e:p1=q1:=r.1;subst e;by_cases hk:p1=k
   .simp only[hk,if_true,true_and];exact h
   .simp only[hk,if_false,true_and];exact r.2
 .rw[if_neg hc,if_neg hc];exact Paired.snoc r ⟨rfl,h⟩
def dN:D->D->D->Option D
|.lst ds,.int k,v=>(gl ds.length k).map fun j=>.lst (ds.set j v)
|.dic kvs,k,v=>(eQ k).bind fun k=>if kvs.length<sizeLine then some (.dic (cL kvs k v))else none
|_,_,_=>none
def Cb:V->V->V->Hp->(Hp->Prop)->Prop:=fun o i v H Q=>∃p H',o=.ref p/\ja H p i v H'/\Q H'
theorem MS(hu:X.A.units+1<Vj):fI X Cb:=by intro pz s σ H o i v ov iv u Q I ro ri rv h;obtain⟨p,H',rfl,hp,q⟩:=h;cases ro;exact Pd hu I hp ri rv fun s' I'=>⟨H',I',q⟩
theorem fI.or{t t':j5}(h:fI X t)(h':fI X t'):fI X (fun o i v H Q=>t o i v H Q\/t' o i v H Q):=by
 intro pz s σ H o i v ov iv u Q I ro ri rv q;rcases q with q|q
 .exact h pz s σ H o i v ov iv u Q I ro ri rv q
 .exact h' pz s σ H o i v ov iv u Q I ro ri rv q
theorem LP{K:W.Frag}{G:GH}{H:Hp}{a:Addr}{d k v d':D}{kv vv:V}{Q:Hp->Prop}(gk:aU K G H)(ow:Own K G H a d)(rk:RB K G H kv k)(rv:RG K G vv v)(e:dN d k v=some d')(q:∀o',OwnO K G (aB H a o') a d'->Q (aB H a o')):Cc (.ref a) kv vv H Q\/Cb (.ref a) kv vv H Q:=by cases ow.ob with
|@lst xs ds r s=>cases k with
 |int k=>have e':(gl ds.length k).map (fun j=>D.lst (ds.set j v))=some d':=e;cases ej:gl ds.length k with
  |none=>rw[ej]at e';cases e'
  |some j=>rw[ej]at e';cases e';exact .inl ⟨a,xs,k,j,rfl,rk.int gk,r,by rw[Paired.length s];exact ej,q _ (.lst bB (Paired.st rv j s))⟩
 |_=>cases e
|@dic ps kvs r s=>have e':(eQ k).bind (fun k=>if kvs.length<sizeLine then some (D.dic (cL kvs k v))else none)=some d':=e;cases ek:eQ k with
 |none=>rw[ek]at e';cases e'
 |some k'=>
   rw[ek]at e';have e2:(if kvs.length<sizeLine then some (D.dic (cL kvs k' v))else none)=some d':=e';by_cases hl:kvs.length<sizeLine
   .rw[if_pos hl]at e2;cases e2;have:=Paired.length s;refine .inr ⟨a,_,rfl,?_,q _ (.dic bB (Cm s rv))⟩;rw[uS gk rk ek];exact ja.k r (by omega)
   .rw[if_neg hl]at e2;cases e2
def putF(m:List Md)(i:Nat)(fk fv:FE):FS:=fun r=>onE m r (fv r) fun v=>match r[i]? with
|some (some d)=>onE m r (fk r) fun k=>(match dN d k v with
 |some d'=>.nx (r.set i (some d'))
 |none=>.stuck)
|_=>.stuck
theorem jB(i:Nat)(hu:X.A.units+1<Vj)(hm:m[i]? = some .ow)(hN:X.N[i]? = some x)(hv:dz X.env.scope x)(hk:SB X g m b fb)(he:SE X g m e f)(hd:(x==("__debug__" : Str))=false:=by decide)(L:(x==("__classdict__" : Str))=false:=by decide)(ha:∀v,Wo (.Subscript (.Name x p1) b p2) X.env v=(do
   let ov <-VT [v] (eval (.Name x p1) X.env);let iv <-VT [v,ov] (eval b X.env)
   Ww p2
   VT [v,ov,iv] (Zw ov iv v)
   release [v,ov,iv] []):=by intro _;rfl)(hs:XM [.Subscript (.Name x p1) b p2] e pos.line X.env=pure false:=by rfl)(hw:XO [.Subscript (.Name x p1) b p2] e X.env=pure none:=by rfl)(h1:(UN [.Subscript (.Name x p1) b p2] X.env).map (·.2)=[Wo (.Subscript (.Name x p1) b p2) X.env]:=by rfl):SS X g ro mb m (.Assign [.Subscript (.Name x p1) b p2] e pos) (putF m i fb f) m:=by refine⟨rfl,PS.imp (CZ he (KJ (dM hN hv hd L) hk (fI.or Ob (MS hu)) ha) hs hw h1) fun D0 σ H ⟨r,G,si,k⟩=>⟨r,G,si,?_⟩⟩;refine ba (gC si rfl k) fun v k1 vv G1 H1 w1 rv=>?_;cases er:r[i]? with
|none=>simp only[er]at k1;exact(show False from k1).elim
|some oo=>cases oo with
 |none=>simp only[er]at k1;exact(show False from k1).elim
 |some d=>simp only[er]at k1;obtain⟨a,h1,h2,h3⟩:=(si.grow w1).mut hm er;refine⟨_,h1,r,G1,si.grow w1,?_⟩;refine ba (gC (m:=m) (si.grow w1) rfl (cj.gle k1 w1.ge)) fun kk k2 kv G2 H2 w2 rk=>?_;cases es:dN d kk v with
  |none=>simp only[es]at k2;exact(show False from k2).elim
  |some d'=>simp only[es]at k2;obtain⟨a',B,M,U⟩:=((si.grow w1).grow w2).mut hm er;rw[h1]at B;cases B;exact LP w2.ok M rk (rv.mono w2.ge) es fun o' ob=>k2 σ G2 _ w2.ge (U o' d' ob)
end
mutual
def bC:D->PyData
|.non=>.none
|.bl b=>.bool b
|.int i=>.int i
|.str x=>.str x
|.tup ds=>.tuple (zkr ds)
|.lst ds=>.list (zkr ds)
|.dic _=>.none
|.obj _ _=>.none
def zkr:List D->List PyData
|[]=>[]
|d::ds=>bC d::zkr ds
end
def bT:Nat->D->Prop
|_,.non=>True
|_,.bl _=>True
|_,.int _=>True
|_,.str x=>PyData.strOk x=true
|0,.tup _=>False
|0,.lst _=>False
|k+1,.tup ds=>∀d∈ds,bT k d
|k+1,.lst ds=>∀d∈ds,bT k d
|_,.dic _=>False
|_,.obj _ _=>False
theorem qK{k:Nat}{ds:List D}:bT (k+1) (.lst ds)↔∀d∈ds,bT k d:=by simp only[bT]
theorem Ei{k:Nat}{ds:List D}:bT (k+1) (.tup ds)↔∀d∈ds,bT k d:=by simp only[bT]
def nM(a b:D):Bool:=ZM (bC a) (bC b)
section
variable{pz:List (Addr×Obj)}{σ:L2.St}{H:Hp}{s:f_}{G:GH}
theorem FG{k:Nat}(ih:∀(d:D)(v:V)(u:a_),bT k d->RG X.K G v d->L2.ar v u->∃as,Reads s.heap u (bC d) as)(ds:List D)(vs:List V)(us:List a_)(h:∀d∈ds,bT k d)(r:bx X.K G vs ds)(q:al vs us):∃as,ReadsAll s.heap us (zkr ds) as:=by induction r generalizing us with
|nil=>cases q;exact⟨[],.nil⟩
|cons r t ih'=>cases q with
 |cons r' t'=>obtain⟨a1,h1⟩:=ih _ _ _ (h _ e_) r r';obtain⟨a2,h2⟩:=ih' _ (fun x hx=>h x (h_ _ hx)) t';exact⟨a1++a2,.cons h1 h2⟩
theorem ra(I:Inv X pz σ H s)(gk:aU X.K G H):∀(k:Nat)(d:D)(v:V)(u:a_),bT k d->RB X.K G H v d->L2.ar v u->∃as,Reads s.heap u (bC d) as:=by
 intro k
 induction k with
|zero=>intro d v u hs r ru;cases d with
 |non=>rw[r.non gk]at ru;cases ru;exact⟨_,.none⟩
 |bl b=>rw[r.bl gk]at ru;cases ru;exact⟨_,.bool b⟩
 |int i=>rw[r.int gk]at ru;obtain⟨t,rfl⟩:=ru;exact⟨_,.int i t⟩
 |str x=>rw[r.str gk]at ru;obtain⟨t,rfl⟩:=ru;exact⟨_,.str x t⟩
 |tup _=>unfold bT at hs;exact hs.elim
 |lst _=>unfold bT at hs;exact hs.elim
 |dic _=>unfold bT at hs;exact hs.elim
 |obj _ _=>unfold bT at hs;exact hs.elim
|succ k ih=>intro d v u hs r ru;cases d with
 |non=>rw[r.non gk]at ru;cases ru;exact⟨_,.none⟩
 |bl b=>rw[r.bl gk]at ru;cases ru;exact⟨_,.bool b⟩
 |int i=>rw[r.int gk]at ru;obtain⟨t,rfl⟩:=ru;exact⟨_,.int i t⟩
 |str x=>rw[r.str gk]at ru;obtain⟨t,rfl⟩:=ru;exact⟨_,.str x t⟩
 |tup ds=>obtain⟨a,xs,rfl,sq,rs⟩:=r.tup gk;cases ru;obtain⟨its,rv,pl,_⟩:=I.tuple sq;obtain⟨o,ho,hc,n,hd⟩:=pl;obtain⟨as,h⟩:=FG (k:=k) (fun d v u h1 h2 h3=>ih d v u h1 h2.rb h3) ds xs its (Ei.mp hs) rs rv;refine⟨as,?_⟩;unfold bC;exact .tuple ho hc hd (by simpa using h)
 |lst ds=>obtain⟨a,xs,rfl,sq,rs⟩:=r.lst gk;cases ru;obtain⟨its,rv,pl,_⟩:=I.list sq;obtain⟨o,ho,hc,n,hd⟩:=pl.isList;obtain⟨as,h⟩:=FG (k:=k) (fun d v u h1 h2 h3=>ih d v u h1 h2.rb h3) ds xs its (qK.mp hs) rs rv;refine⟨a::as,?_⟩;unfold bC;exact .list ho hc hd (by simpa using h)
 |dic _=>unfold bT at hs;exact hs.elim
 |obj _ _=>unfold bT at hs;exact hs.elim
theorem wC{k:Nat}(ih:∀d,bT k d->Uv (bC d)=true/\UQ (bC d)<=k):∀ds:List D,(∀d∈ds,bT k d)->WT (zkr ds)=true/\Xq (zkr ds)<=k
|[],_=>by unfold zkr WT Xq;exact⟨rfl,Uf _⟩
|d::ds,h=>by obtain⟨a1,a2⟩:=ih d (h d e_);obtain⟨b1,b2⟩:=wC ih ds fun x hx=>h x (h_ _ hx);unfold zkr WT Xq;rw[a1,b1];exact⟨rfl,Nat.max_le.mpr ⟨a2,b2⟩⟩
theorem LJ:∀(k:Nat)(d:D),bT k d->Uv (bC d)=true/\UQ (bC d)<=k:=by
 intro k
 induction k with
|zero=>intro d hs;cases d with
 |non=>unfold bC Uv UQ;exact⟨rfl,Uf _⟩
 |bl b=>unfold bC Uv UQ;exact⟨rfl,Uf _⟩
 |int i=>unfold bC Uv UQ;exact⟨rfl,Uf _⟩
 |str x=>unfold bT at hs;unfold bC Uv UQ;exact⟨hs,Uf _⟩
 |tup _=>unfold bT at hs;exact hs.elim
 |lst _=>unfold bT at hs;exact hs.elim
 |dic _=>unfold bT at hs;exact hs.elim
 |obj _ _=>unfold bT at hs;exact hs.elim
|succ k ih=>intro d hs;cases d with
 |non=>unfold bC Uv UQ;exact⟨rfl,Uf _⟩
 |bl b=>unfold bC Uv UQ;exact⟨rfl,Uf _⟩
 |int i=>unfold bC Uv UQ;exact⟨rfl,Uf _⟩
 |str x=>unfold bT at hs;unfold bC Uv UQ;exact⟨hs,Uf _⟩
 |tup ds=>obtain⟨b1,b2⟩:=wC ih ds (Ei.mp hs);unfold bC Uv UQ;exact⟨b1,Yu b2⟩
 |lst ds=>obtain⟨b1,b2⟩:=wC ih ds (qK.mp hs);unfold bC Uv UQ;exact⟨b1,Yu b2⟩
 |dic _=>unfold bT at hs;exact hs.elim
 |obj _ _=>unfold bT at hs;exact hs.elim
theorem rH{d:D}(h:bT 60 d):ZD (bC d)=true:=by obtain⟨a,b⟩:=LJ 60 d h;unfold ZD;rw[a,decide_eq_true (Ue b (by decide))];rfl
end
def mJ(a b:D):Bool:=cv a&&cv b&&jP (e8 a) (e8 b)
open Classical in
def g6(a b:D):Option Bool:=if mJ a b=true then some (eT a b)else if bT 60 a/\bT 60 b then some (nM a b)else none
def eqD(a b:D):Option D:=(g6 a b).map .bl
def neD(a b:D):Option D:=(g6 a b).map fun c=>.bl (! c)
theorem Nq{a b:D}(h:mJ a b=false)(h1:bT 60 a)(h2:bT 60 b):g6 a b=some (nM a b):=by unfold g6;rw[if_neg (by rw[h];exact g_),if_pos ⟨h1,h2⟩]
theorem xH{a b:D}(h:mJ a b=true):g6 a b=some (eT a b):=by unfold g6;rw[if_pos h]
@[simp] theorem eqB_int(a b:Int):g6 (.int a) (.int b)=some (a==b):=xH rfl
@[simp] theorem eqB_str(a b:Str):g6 (.str a) (.str b)=some (a==b):=xH rfl
@[simp] theorem eqB_non_int(b:Int):g6 .non (.int b)=some false:=xH rfl
theorem ER{a b:D}(h:jP (e8 a) (e8 b)=true)(fa:cv a=true)(fb:cv b=true):decide (e8 a=e8 b)=eT a b:=by
 cases a <;> cases b <;> first
  |exact absurd (show false=true from fa) g_
  |exact absurd (show false=true from fb) g_
  |exact absurd (show false=true from h) g_
  |exact vO
  |exact uT
  |exact vP
  |rfl
  |simp[e8,eT,gZ]
def qU(K:W.Frag)(neg:Bool):R2:=fun x y H Q=>∃(G:GH)(d1 d2:D),aU K G H/\RB K G H x d1/\RB K G H y d2/\bT 60 d1/\bT 60 d2/\Q (.bl (if neg then ! nM d1 d2 else nM d1 d2)) H
theorem FF(hu:X.A.units+64<Vj):bo X (Ug .Eq) (qU X.K false):=by intro pz s σ H x y v u Q I rx ry h;obtain⟨G,d1,d2,gk,r1,r2,s1,s2,q⟩:=h;obtain⟨as,h1⟩:=ra I gk 60 d1 x v s1 r1 rx;obtain⟨bs,h2⟩:=ra I gk 60 d2 y u s2 r2 ry;exact SeqAt.compareEq_shaped h1 h2 (rH s1) (rH s2) hu ⟨.bl _,H,I,rfl,q⟩
theorem PB(hu:X.A.units+64<Vj):bo X (Ug .NotEq) (qU X.K true):=by intro pz s σ H x y v u Q I rx ry h;obtain⟨G,d1,d2,gk,r1,r2,s1,s2,q⟩:=h;obtain⟨as,h1⟩:=ra I gk 60 d1 x v s1 r1 rx;obtain⟨bs,h2⟩:=ra I gk 60 d2 y u s2 r2 ry;exact SeqAt.compareNe_shaped h1 h2 (rH s1) (rH s2) hu ⟨.bl _,H,I,rfl,q⟩
theorem eq_cases{a b:D}{c:Bool}(h:g6 a b=some c):(mJ a b=true/\c=eT a b)\/(bT 60 a/\bT 60 b/\c=nM a b):=by
 unfold g6 at h;split at h
 .rename_i hs;cases h;exact .inl ⟨hs,rfl⟩
 .split at h
  .rename_i hs;cases h;exact .inr ⟨hs.1,hs.2,rfl⟩
  .cases h
theorem BU{K:W.Frag}:dG K (fun x y H Q=>Im x y H Q\/qU K false x y H Q) eqD:=by intro G H v1 v2 d1 d2 d Q gk r1 r2 e q;unfold eqD at e;cases ec:g6 d1 d2 with
|none=>rw[ec]at e;cases e
|some c=>
  rw[ec]at e;cases e;rcases eq_cases ec with⟨hs,rfl⟩|⟨s1,s2,rfl⟩
  .unfold mJ at hs;rw[P_,P_]at hs;obtain⟨e1,_⟩:=RB.flat r1 gk hs.1.1;obtain⟨e2,_⟩:=RB.flat r2 gk hs.1.2;refine .inl ⟨by rw[e1,e2];exact hs.2,?_⟩;rw[e1,e2,ER hs.2 hs.1.1 hs.1.2];exact q _ G H (Grow.refl gk) (.scl (.bl _))
  .exact .inr ⟨G,d1,d2,gk,r1,r2,s1,s2,q _ G H (Grow.refl gk) (.scl (.bl _))⟩
theorem Jd{K:W.Frag}:dG K (fun x y H Q=>Il x y H Q\/qU K true x y H Q) neD:=by intro G H v1 v2 d1 d2 d Q gk r1 r2 e q;unfold neD at e;cases ec:g6 d1 d2 with
|none=>rw[ec]at e;cases e
|some c=>
  rw[ec]at e;cases e;rcases eq_cases ec with⟨hs,rfl⟩|⟨s1,s2,rfl⟩
  .unfold mJ at hs;rw[P_,P_]at hs;obtain⟨e1,_⟩:=RB.flat r1 gk hs.1.1;obtain⟨e2,_⟩:=RB.flat r2 gk hs.1.2;refine .inl ⟨by rw[e1,e2];exact hs.2,?_⟩;rw[e1,e2,ER hs.2 hs.1.1 hs.1.2];exact q _ G H (Grow.refl gk) (.scl (.bl _))
  .exact .inr ⟨G,d1,d2,gk,r1,r2,s1,s2,q _ G H (Grow.refl gk) (.scl (.bl _))⟩
theorem eM(hu:X.A.units+64<Vj)(ha:SB X g m a fa)(hb:SB X g m b fb):SE X g m (.Compare a [.Eq] [b] pos) (f2 fa fb eqD):=uD (bo.or Cq (FF hu)) BU ha hb (kx _)
theorem cz(hu:X.A.units+64<Vj)(ha:SB X g m a fa)(hb:SB X g m b fb):SQ X g m (.Compare a [.Eq] [b] pos) (aW (f2 fa fb eqD)):=kg (bo.or Cq (FF hu)) BU ha hb (kx _)
theorem Bj(hu:X.A.units+64<Vj)(ha:SB X g m a fa)(hb:SB X g m b fb):SQ X g m (.Compare a [.NotEq] [b] pos) (aW (f2 fa fb neD)):=kg (bo.or Jl (PB hu)) Jd ha hb (kx _)
def n5(fa fb fc:FE)(k k':D->D->Option D):FE:=fun r=>(fa r).bind fun x=>(fb r).bind fun y=>(cP (k x y)).bind fun z=>(cP (pY z)).bind fun c=>if c=true then(fc r).bind fun w=>cP (k' y w)else .ok (.bl false)
def Cp(K:W.Frag):R2:=fun x y H Q=>∃l b xs zs,x=.ref l/\y=.ref b/\bh K H l xs/\bh K H b zs/\xs.length+zs.length<=sizeLine/\∀p,H p=none->Q (.ref p) (aB H p (.lst (xs++zs)))
theorem LV:bo X (Vu .Add) (Cp X.K):=by
 intro pz s σ H x y v u Q I rx ry h;obtain⟨l,b,xs,zs,rfl,rfl,hH,hB,hz,q⟩:=h;cases rx;cases ry;obtain⟨its,r,pl,_⟩:=I.list hH;obtain⟨B,r2,Y,_⟩:=I.list hB;have l1:=r.length;have l2:=r2.length;obtain⟨⟨cls,dd,data,sl⟩,ho,hc,n,hd⟩:=pl.isList;obtain⟨⟨ac,U,Z,M⟩,ho2,L,n2,hd2⟩:=Y.isList;simp only at hc hd L hd2;subst hc hd L hd2;have e:its.toArray++B.toArray=(its++B).toArray:=by simp
 refine Yc ⟨_,ho,rfl⟩ ⟨_,ho2,rfl⟩ noFill_list_add seq_list_add PySem.F.slot_list_add PySem.F.entry_list_add (PySem.F.args_list_add_2 _ _) (list_addW _ _ its.toArray B.toArray n n2 dd U sl M (by simp;omega)) ⟨ho,ho2,?_⟩;rw[e];exact⟨.ref _,_,I.lnew (t':=s.toks) (r.append r2) (by rw[Uk];omega),rfl,q _ I.fresh⟩
def addA:D->D->Option D
|.int a,.int b=>some (.int (a+b))
|.str a,.str b=>if a.length+b.length<=sizeLine then some (.str (a++b))else none
|.lst a,.lst b=>if a.length+b.length<=sizeLine then some (.lst (a++b))else none
|.tup (x::a),.tup b=>if (x::a).length+b.length<=sizeLine then some (.tup (x::a++b))else none
|_,_=>none
theorem K4{K:W.Frag}:dG K (fun x y H Q=>(∃i j,x=.int i/\y=.int j/\Q (.int (i+j)) H)\/(∃i j,x=.str i/\y=.str j/\i.length+j.length<=sizeLine/\Q (.str (i++j)) H)\/Cp K x y H Q\/B6 K x y H Q) addA:=by
 intro G H v1 v2 d1 d2 d Q gk r1 r2 e q;unfold addA at e;split at e
 .cases e;exact .inl ⟨_,_,r1.int gk,r2.int gk,q _ G H (Grow.refl gk) (.scl (.int _))⟩
 .split at e
  .rename_i hl;cases e;exact .inr (.inl ⟨_,_,r1.str gk,r2.str gk,hl,q _ G H (Grow.refl gk) (.scl (.str _))⟩)
  .cases e
 .split at e
  .rename_i hl;cases e;obtain⟨a,xs,rfl,s1,t1⟩:=r1.lst gk;obtain⟨b,ys,rfl,s2,t2⟩:=r2.lst gk;have l1:=Paired.length t1;have l2:=Paired.length t2;exact .inr (.inr (.inl ⟨a,b,xs,ys,rfl,rfl,s1,s2,by omega,fun p hp=>q _ _ _ (Grow.newF gk hp (.lst (.inl bB) (Paired.app t1 t2))) (.ref gD)⟩))
  .cases e
 .split at e
  .rename_i x0 a0 b0 hl;cases e;rcases r1 with r1|⟨a',_,oo⟩
   .obtain⟨a,xs,rfl,s1,t1⟩:=r1.tup gk;obtain⟨b,ys,rfl,s2,t2⟩:=r2.tup gk;have l1:=Paired.length t1;have l2:=Paired.length t2;refine .inr (.inr (.inr ⟨a,b,xs,ys,rfl,rfl,s1,s2,?_,by omega,fun hy=>?_,fun _ p hp=>q _ _ _ (Grow.newF gk hp (.tup (.inl bB) (Paired.app t1 t2))) (.ref gD)⟩))
    .rintro rfl
     cases t1
    .subst hy;cases t2;refine q _ G H (Grow.refl gk) ?_;rw[UG];exact r1
   .cases oo.ob
  .cases e
 .cases e
theorem dc(ha:SB X g m a fa)(hb:SB X g m b fb):SE X g m (.BinOp a .Add b pos) (f2 fa fb addA):=lf (bo.or KY (bo.or P5 (bo.or LV LW))) K4 ha hb
end DL
end
namespace DL
open PySem PySem.Spec PyProof.Rows L2
structure DefAt(K:W.Frag)(mg:Str->Option a_)(x:Str)(st:Stmt):Prop where
 ex:∃f fd,mg x=some (.ref f)/\Fun K x x st f fd
structure Callee(P:E_)(w:S_)(K:W.Frag)(mg:Str->Option a_)(base:Heap)(x:Str)(ps:List Str)(ds:List a_)(k:Nat)(ro:Bool)(ms:List Md)(F:List D->Res D):Prop where
 ex:∃f fd,mg x=some (.ref f)/\W.keepIn K (.ref f)=true/\fK K fd ps ds/\FnOk P w K mg base cO k f fd ps (jr K ro ms F)
variable{w:S_}{K:W.Frag}
section
variable{P:E_}{mg:Str->Option a_}{base:Heap}
theorem JO{x:Str}{st:Stmt}{N ps:List Str}{k:Nat}{ro:Bool}{ms:List Md}{fs:FS}{m':List Md}(A:DefAt K mg x st)(S:FnScope N ps (aa st))(L:ms.length=ps.length)(hb:∀(kV doc pm:a_)(an:Option Addr)(cdv ct:a_)(us:List a_),us.length=ps.length->Wd (W.fnOf x x (aC st) (ap st) (aa st) .none kV doc pm an cdv ct) ⟨us,[]⟩=pure (ps.zip us))(B:∀(f:Addr)(cdv:a_)(A:Uc)(outer:List Env)(s:f_)(H:Hp)(g:GE)(E:XK),Room k (A.deeper (VB x (aa st) s.heap.objs.size f cdv)) ->fG (cr cO P w K mg base N x (aa st) f cdv A outer s H E).nox g ro [] (eI N.length ms) (ap st) fs m'):Callee P w K mg base x ps [] (k+1) ro ms fun ds=>av ro (fs (aE N.length ds)):=by obtain⟨f,fd,h1,F⟩:=A.ex;exact⟨f,fd,h1,F.kp,F.binds hb,CI F S L (B f)⟩
structure DefAtD(K:W.Frag)(mg:Str->Option a_)(x:Str)(st:Stmt)(dds:List a_):Prop where
 ex:∃(f T:Addr)(o:Obj)(n:Nat)(oc:a_)(od:Option Addr)(kV doc pm:a_)(an:Option Addr)(cdv ct:a_)(osl:Array (Option a_)),mg x=some (.ref f)/\K.lookup T=some o/\o.data=.seq dds.toArray n/\K.lookup f=some ⟨oc,od,.func (W.fnOf x x (aC st) (ap st) (aa st) (.ref T) kV doc pm an cdv ct),osl⟩/\W.codeIn K cdv x=true/\W.keepIn K (.ref f)=true
theorem vZ{x:Str}{st:Stmt}{N ps:List Str}{k:Nat}{ro:Bool}{ms:List Md}{fs:FS}{m':List Md}{dds ds:List a_}(A:DefAtD K mg x st dds)(S:FnScope N ps (aa st))(L:ms.length=ps.length)(nn:Nat)(hn:nn+ds.length=ps.length)(hb:∀(T:Addr)(kV doc pm:a_)(an:Option Addr)(cdv ct:a_)(us:List a_),us.length=nn->∃kk:Option (Array a_)->Sem (List (Str×a_)),Wd (W.fnOf x x (aC st) (ap st) (aa st) (.ref T) kV doc pm an cdv ct) ⟨us,[]⟩=Zt (.ref T) >>= kk/\kk (some dds.toArray)=pure (ps.zip (us++ds)))(B:∀(f:Addr)(cdv:a_)(A:Uc)(outer:List Env)(s:f_)(H:Hp)(g:GE)(E:XK),Room k (A.deeper (VB x (aa st) s.heap.objs.size f cdv)) ->fG (cr cO P w K mg base N x (aa st) f cdv A outer s H E).nox g ro [] (eI N.length ms) (ap st) fs m'):Callee P w K mg base x ps ds (k+1) ro ms fun zs=>av ro (fs (aE N.length zs)):=by
 obtain⟨f,T,o,n,oc,od,kV,doc,pm,an,cdv,ct,osl,h1,hT,hd,lk,M,kp⟩:=A.ex;refine⟨f,W.fnOf x x (aC st) (ap st) (aa st) (.ref T) kV doc pm an cdv ct,h1,kp,fun s us KX hl=>?_,?_⟩
 .obtain⟨kk,e1,e2⟩:=hb T kV doc pm an cdv ct us (by rw[Uk]at hl;omega);exact BindsTo.of_defaults rfl (KX _ _ hT) hd e1 e2
 .have hpl:ps.length<=N.length:=by have:=congrArg V_ S.pre;rw[Ux]at this;omega
  refine BX lk M S (fun vs H Q E ⟨G,ds,gk,rs,q⟩=>rs.len.1.trans L) fun A outer s H vs Q E hr ⟨G,ds,gk,rs,q⟩=>?_;exact⟨_,(B f cdv A outer s H ⟨G,H,fun _=>none⟩ E hr).2.nox,aE N.length ds,G,re gk rs (by omega),EM q⟩
end
variable{X:Cx}{g:GE}{m:List Md}{e:Expr}{es:List Expr}{fl:am->Res (List D)}{p pos:Pos}
section
variable{k:Nat}{ps:List Str}{F:List D->Res D}{dvs:List V}{ds:List a_}{dds:List D}{x:Str}{i:Nat}{ms ms':List Md}
theorem Ka(c:Callee X.prog X.w X.K X.mg X.base x ps ds k false ms' F)(hr:Room k X.A)(ha:gG X g m (e::es) ms fl)(L:ms'=ms++q_ dds.length .sh:=by rfl)(hg:Gl X x:=by rfl)(hd:al dvs ds:=by exact .nil)(M:Paired Scl dvs dds:=by exact .nil)(B:(x==("__debug__" : Str))=false:=by decide)(he:i_ (e::es) X.env=(false,eval e X.env)::i_ es X.env:=by rfl)(hpl:(backTo pos (i_ es X.env)).any (·.1)=false:=by rfl):SE X g m (.Call (.Name x p) (e::es) [] pos) (aI fl dds F):=by subst L;obtain⟨f,fd,h1,h2,h3,h4⟩:=c.ex;exact Kn h4 hr hg h1 h2 h3 hd M ha B he hpl
theorem v_(i:Nat)(hm:m[i]? = some .sh:=by rfl)(hN:X.N[i]? = some x:=by rfl)(hv:dz X.env.scope x:=by first|exact Or.inl rfl|exact Or.inr (Or.inl rfl)|exact Or.inr (Or.inr rfl))(hd:(x==("__debug__" : Str))=false:=by decide)(B:(x==("__classdict__" : Str))=false:=by decide):SE X g m (.Name x p) fun r=>eS r i:=ID i hm hN hv hd B
theorem ae(i:Nat)(hm:i<m.length:=by decide)(hN:X.N[i]? = some x:=by rfl)(hv:dz X.env.scope x:=by first|exact Or.inl rfl|exact Or.inr (Or.inl rfl)|exact Or.inr (Or.inr rfl))(hd:(x==("__debug__" : Str))=false:=by decide)(B:(x==("__classdict__" : Str))=false:=by decide):SB X g m (.Name x p) fun r=>eS r i:=Ks i hm hN hv hd B
end
def ox(osc:VX)(ON:List Str)(sc:VX)(N':List Str)(nl:Nat)(cap:List Nat):Bool:=decide (sc.kind=.function)&&sc.names.all (fun y=>decide (y.2≠.cell))&&sc.names.all (fun y=>decide (y.2≠.local) || decide (sc.names.lookup y.1=some .local)) &&
 sc.names.all (fun y=>decide (y.2≠.free) || (decide (osc.names.lookup y.1=some .cell) || decide (osc.names.lookup y.1=some .free)))&&decide (N'.length=nl+cap.length) &&
 (t_ cap.length).all fun j=>match N'[nl+j]?,ON[cap.getD j 0]? with
 |some x,some y=>decide (x=y)&&decide (sc.names.lookup x=some .free)
 |_,_=>false
theorem yj{X:Cx}{osc:VX}{ON:List Str}{sc:VX}{N':List Str}{nl:Nat}{cap:List Nat}(h1:X.env.scope=osc)(h2:X.N=ON)(h:ox osc ON sc N' nl cap=true):CompSc X sc N' nl cap:=by subst h1 h2;unfold ox at h;simp only[P_,Uj,decide_eq_true_eq,YQ]at h;obtain⟨⟨⟨⟨⟨a1,a2⟩,a3⟩,a4⟩,a5⟩,a6⟩:=h;refine⟨a1,a2,fun y hy hl=>(a3 y hy).resolve_left fun z=>z hl,fun y hy hf=>(a4 y hy).resolve_left fun z=>z hf,a5,fun j hj=>?_⟩;have h6:=a6 j (A_.mpr hj);cases e1:N'[nl+j]? with
|none=>rw[e1]at h6;cases h6
|some x=>cases e2:X.N[cap.getD j 0]? with
 |none=>rw[e1,e2]at h6;cases h6
 |some y=>rw[e1,e2]at h6;simp only[P_,decide_eq_true_eq]at h6;exact⟨x,rfl,by rw[h6.1],h6.2⟩
variable{mb:List Md}{a b:Expr}{f fa fb:FE}{pos':Pos}
section
variable{c:Expr}{fc:FE}
theorem PM{R R':R2}{k k':D->D->Option D}(ho:dG X.K R k)(B:dG X.K R' k'){σ:L2.St}{H:Hp}{Q:VK}(h:tE X g m (n5 fa fb fc k k') σ H Q):C9 R R' (tB X g m fa) (tB X g m fb) (tB X g m fc) σ H Q:=by obtain⟨r,G,si,q⟩:=h;refine lT si q fun d1 d2 v1 v2 G2 H2 w r1 r2 q2=>?_;obtain⟨z,ez,q3⟩:=ck (bg q2);obtain⟨cc,ec,q4⟩:=ck (bg q3);refine ho G2 H2 v1 v2 d1 d2 z _ w.ok r1 r2 ez fun v G3 H3 w3 rv=>?_;cases z with
|bl b'=>cases ec;refine⟨_,rv.bl w3.ok,?_⟩;cases cc with
 |false=>rw[if_neg g_]at q4 ⊢;exact q4 _ G3 H3 (w.trans w3) (.scl (.bl _))
 |true=>rw[if_pos rfl]at q4 ⊢;refine⟨r,G3,(si.grow w).grow w3,fm (bg q4) (w.trans w3) fun d3 q5 v3 G4 H4 w4 r3=>?_⟩;obtain⟨d,e,q6⟩:=ck q5;exact B G4 H4 v2 v3 d2 d3 d Q w4.ok ((r2.mono w3).mono w4) r3 e fun v G' H' w' z=>q6 v G' H' (((w.trans w3).trans w4).trans w') z
|_=>cases ec
theorem N9{op B:Zp}{R R':R2}{k k':D->D->Option D}(hr:bo X (Ug op) R)(M:bo X (Ug B) R')(ho:dG X.K R k)(L:dG X.K R' k')(ha:SB X g m a fa)(hb:SB X g m b fb)(hc:SB X g m c fc)(hm:lastMarks [op,B] [b,c]=false:=by with_unfolding_all rfl):SE X g m (.Compare a [op,B] [b,c] pos) (n5 fa fb fc k k'):=PE.imp (Oy hr M ha hb hc hm) fun σ H Q h=>PM ho L h
theorem Ji{K:W.Frag}:dG K (js fun i j=>V.bl (decide (i<j))) iu:=mZ fun _ _=>.bl _
theorem Jh{K:W.Frag}:dG K (js fun i j=>V.bl (decide (i<=j))) Bl:=mZ fun _ _=>.bl _
end
theorem Sd{K:W.Frag}{h:Heap}{mg:Str->Option a_}{x:Str}{st:Stmt}(KX:K.In h)(G:h.Ns Ub mg){f:Addr}{oc:a_}{od an:Option Addr}{osl:Array (Option a_)}{kV doc pm cdv ct:a_}(a:W.nsIn K Ub x=some (some (.ref f)))(l:K.lookup f=some ⟨oc,od,.func (W.fnOf x x (aC st) (ap st) (aa st) .none kV doc pm an cdv ct),osl⟩)(c:W.codeIn K cdv x=true)(k:W.keepIn K (.ref f)=true):DefAt K mg x st:=⟨f,_,W.mg_of KX G a,dm l c k⟩
theorem tu{K:W.Frag}{h:Heap}{mg:Str->Option a_}{x:Str}{st:Stmt}{dds:List a_}(KX:K.In h)(G:h.Ns Ub mg){f T:Addr}{oc tc:a_}{od an td:Option Addr}{osl B:Array (Option a_)}{n:Nat}{kV doc pm cdv ct:a_}(a:W.nsIn K Ub x=some (some (.ref f)))(l:K.lookup f=some ⟨oc,od,.func (W.fnOf x x (aC st) (ap st) (aa st) (.ref T) kV doc pm an cdv ct),osl⟩)(t:K.lookup T=some ⟨tc,td,.seq dds.toArray n,B⟩)(c:W.codeIn K cdv x=true)(k:W.keepIn K (.ref f)=true):DefAtD K mg x st dds:=⟨f,T,_,n,oc,od,kV,doc,pm,an,cdv,ct,osl,W.mg_of KX G a,t,rfl,l,c,k⟩
theorem Se{P:E_}{w:S_}{K:W.Frag}{mg:Str->Option a_}{x p:Str}{st:Stmt}{k:Nat}{F:List D->Res D}{fa:Addr}(B:mg x=some (.ref fa))(A:DefAt K mg x st)(hb:∀(kV doc pm:a_)(an:Option Addr)(cdv ct:a_)(us:List a_),us.length=[p].length->Wd (W.fnOf x x (aC st) (ap st) (aa st) .none kV doc pm an cdv ct) ⟨us,[]⟩=pure ([p].zip us))(C:∀(f:Addr)(fd:UE),Fun K x x st f fd->∀base:Heap,FnOk P w K mg base cO k f fd [p] (jr K false [.sh] F)):∃fd:UE,(∀(s:f_)(u:a_),Ya s fd ⟨[u],[]⟩ [(p,u)])/\∀base:Heap,K.In base->base.Ns Ub mg->FnOk P w K mg base cO k fa fd [p] (jr K false [.sh] F):=by obtain⟨f,fd,h1,Fn⟩:=A.ex;rw[B]at h1;cases h1;refine⟨fd,fun s u=>?_,fun base _ _=>C fa fd Fn base⟩;obtain⟨oc,od,kV,doc,pm,an,cdv,ct,osl,rfl,lk,L⟩:=Fn.ex;exact .of_eq (hb kV doc pm an cdv ct [u] rfl)
theorem Sb{l:W.OpenLaw}{k:Nat}{q:E_}{L:List Str}{XP:(Str->Option a_)->Heap->Prop}{YP:S_->Heap->Prop}{d:DefRec}{K:Params->W.Frag}{x:Str}{F:List D->Res D}(hn:l.most=some 63)(M:d.params.defaults=[])(hr:Room k Xj)(hY:∀(w:S_)(h:Heap),YP w h->(K w.params).In h)(hF:∀ns:List Int,ns.length<=63->F [.lst (ns.map .int)]=.ok (.bl true))(C:∀(w:S_)(mg:Str->Option a_)(fa:Addr)(h:Heap),(K w.params).In h->h.Ns Ub mg->mg d.name=some (.ref fa) ->∃fd:UE,(∀(s:f_)(u:a_),Ya s fd ⟨[u],[]⟩ [(x,u)])/\∀base:Heap,(K w.params).In base->base.Ns Ub mg->FnOk l.prog w (K w.params) mg base cO k fa fd [x] (jr (K w.params) false [.sh] F)):W.WalkO q L XP YP l.row.toRowW d [] (fun f vs=>PySem.call f vs):=by
 refine L2.jO (n:=63) (k:=k) (x:=x) (CX:=fun _=>cO) (sp:=fun w=>jr (K w.params) false [.sh] F) hn (by decide) M hr hY C (fun w H a ns hl hO hS=>?_) fun _ _ _ _ _ z=>z;have B:∀(l:List Int),Paired Scl (l.map V.int) (l.map D.int):=fun l=>by induction l with
 |nil=>exact .nil
 |cons i l ih=>exact .cons (.int i) ih
 rcases hS with hS|hS
 .refine⟨fun b=>if b=a then some (.lst (ns.map D.int))else none,[.lst (ns.map .int)],fun b d' hb=>?_,.sh (.ref (if_pos rfl)) .nil,?_⟩
  .by_cases e:b=a
   .subst e;have hb':some (D.lst (ns.map D.int))=some d':=(if_pos rfl).symm.trans hb;cases hb';exact .lst hS (Paired.mono (fun _ _ z=>.scl z) (B ns))
   .have hb':(none:Option D)=some d':=(if_neg e).symm.trans hb;cases hb'
  .rw[hF ns hl];intro v G' H' w' rv;exact rv.bl w'.ok
 .refine⟨fun _=>none,[.lst (ns.map .int)],fun b d' hb=>(by cases hb),.sh (.kc (.lst (.inr hS) (B ns))) .nil,?_⟩;rw[hF ns hl];intro v G' H' w' rv;exact rv.bl w'.ok
section
open AutoSeq1 (wpAny_loadPart')
section
variable{prog:E_}{w:S_}{A:Uc}{E:a_->f_->Prop}{s:f_}
theorem R7{it t:Addr}{i:Nat}{items}{x:a_}{Q:a_->f_->Prop}(hit:s.heap.IsTupleIter it t i)(ht:s.heap.IsTuple t items)(hx:items[i]? = some x)(hQ:∀h',h'.IsTupleIter it t (i+1)->Wv it s.heap h'->Q x { s with heap:=h' }):C_ (G_ prog w) A (Um (.ref it)) Q E s:=by
 obtain⟨o,ho,hc,hd⟩:=id hit;obtain⟨ol,hol,_,nl,hdl⟩:=ht;unfold Um;refine b_ (UK (name:=UH "__next__") hit.typeIs F.slot_tuple_iterator_next
  (U7 F.slot_tuple_iterator_next hit.typeIs F.entry_tuple_iterator_next ?_ (F.args_tuple_iterator_next_1 _)))
 show C_ _ _ (Zc (.ref it) 0 >>= _) _ _ s;refine b_ (UA ho hd (x:=.ref t) rfl ?_);show C_ _ _ (if (Value.ref t==Value.none)=true then _ else _) _ _ s;rw[if_neg (show ¬ ((Value.ref t==Value.none)=true)from g_)];show C_ _ _ (Zc (.ref it) 1 >>= _) _ _ s;refine b_ (UA ho hd (x:=.int i 0) rfl ?_);show C_ _ _ (Zt (.ref t) >>= _) _ _ s;refine b_ (Va hol hdl ?_);simp only[UY,hx];refine b_ (wpAny_setField ho hd (by simp) (u_ ⟨x,rfl,u_ (hQ _ ?_ (Wt ..))⟩));exact⟨_,Xs _ ho (Obj.isFreed_of_fields (X1 hd _)),(Obj.cls_mapFields ..).trans hc,by rw[X1 hd];simp[Xa]⟩
theorem R6{it t:Addr}{i:Nat}{items}{Q:a_->f_->Prop}(hh:A.handled=none)(hit:s.heap.IsTupleIter it t i)(ht:s.heap.IsTuple t items)(hx:items[i]? = none)(hE:∀h' e,ZI it s.heap h'->(∃o,h'.get? e=some o/\o.cls=.type "StopIteration")->E (.ref e) { s with heap:=h' }):C_ (G_ prog w) A (Um (.ref it)) Q E s:=by
 obtain⟨o,ho,hc,hd⟩:=id hit;obtain⟨ol,hol,_,nl,hdl⟩:=ht;unfold Um;refine b_ (UK (name:=UH "__next__") hit.typeIs F.slot_tuple_iterator_next
  (U7 F.slot_tuple_iterator_next hit.typeIs F.entry_tuple_iterator_next ?_ (F.args_tuple_iterator_next_1 _)))
 show C_ _ _ (Zc (.ref it) 0 >>= _) _ _ s;refine b_ (UA ho hd (x:=.ref t) rfl ?_);show C_ _ _ (if (Value.ref t==Value.none)=true then _ else _) _ _ s;rw[if_neg (show ¬ ((Value.ref t==Value.none)=true)from g_)];show C_ _ _ (Zc (.ref it) 1 >>= _) _ _ s;refine b_ (UA ho hd (x:=.int i 0) rfl ?_);show C_ _ _ (Zt (.ref t) >>= _) _ _ s;refine b_ (Va hol hdl ?_);simp only[UY,hx];refine b_ (X2 (b_ (wpAny_setField ho hd (by simp) ?_)));show C_ _ _ (newExc (.type "StopIteration") [] >>= _) _ _ _;refine b_ ?_;simp only[newExc,newTuple];refine b_ (UZ ?_ (by size_fits));refine b_ (m:=firstArgMember _ _) (wpAny_of_eq (a:=Value.none) (by first|rfl|(simp only[firstArgMember];rfl)) ?_);refine UZ ?_ (by size_fits);simp only[raiseNew];refine b_ (wpAny_handled ?_)
 first|rw[show A.in1.handled=none from hh]|rw[hh]
 refine b_ (u_ (wpAny_throw ?_));exact hE _ _ (((Wt ..).extBut.push _).push _) ⟨_,r_ _ rfl,rfl⟩
end
theorem JT{prog:E_}{w:S_}{A:Uc}(hh:A.handled=none)(it l:Addr)(hne:l≠it)(items:Array a_):XQ prog w A it [it,l] items.size (fun i v=>items[i]? = some v) (fun i h=>h.IsTupleIter it l i/\h.IsTuple l items) where
 live:=fun _ _ st=>let⟨o,ho,_⟩:=st.1;⟨o,ho⟩
 frame:=fun _ _ _ st hk=>⟨let⟨o,ho,r⟩:=st.1;⟨o,hk it (by simp) o ho,r⟩,let⟨o,ho,r⟩:=st.2;⟨o,hk l (by simp) o ho,r⟩⟩
 item:=fun i s Q E hi st hQ=>by refine R7 st.1 st.2 (x:=items[i]) (by simp[hi]) fun h' L B=>?_;exact hQ _ h' s.toks (by simp[hi]) ⟨L,st.2.extBut B.extBut hne⟩ B
 done:=fun s Q E st hE=>R6 hh st.1 st.2 (by simp) hE
theorem R1(l:Addr)(items:Array a_)(n:Nat)(B:Option Addr)(sl:Array (Option a_)) :
  Meets (WQ.«enumerate.__new__» ⟨[.type "enumerate",.ref l],[]⟩) (fun _ R s=>s.heap.get? l=some { cls:=.type "tuple",dict:=B,data:=.seq items n,slots:=sl } /\
   R (.ok (.ret (.ref (s.heap.push { cls:=.type "tuple_iterator",data:=.fields #[.ref l,.int 0 0] }).objs.size)))
    { s with heap:=(s.heap.push { cls:=.type "tuple_iterator",data:=.fields #[.ref l,.int 0 0] }).push { cls:=.type "enumerate",data:=.fields #[.none,.bool false,.ref s.heap.objs.size,Xa 0,.none,.none] } }):=
 .of_wp fun prog w A R s h=>by
  obtain⟨hp,g,d,tk,os⟩:=s;obtain⟨hl,h⟩:=h;have L:=sub_enumerate;have hL:Heap.IsTuple (YI ⟨hp,g,d,tk,os⟩) l items:=⟨_,hl,rfl,n,rfl⟩
  wp_walk using VH hl
  refine wpAny_stack_any fun st=>u_ ?_;split
  .rename_i c _ _ _ _ _;cases(c==Value.type "enumerate")
   .wp_walk using VH hl,U_ hL
    exact⟨_,rfl,h⟩
   .wp_walk using VH hl,U_ hL
    exact⟨_,rfl,h⟩
  .wp_walk using VH hl,U_ hL
   exact⟨_,rfl,h⟩
section
variable{prog:E_}{w:S_}{A:Uc}{E:a_->f_->Prop}{s:f_}
theorem R3{l:Addr}{items:Array a_}{Q:a_->f_->Prop}(hL:s.heap.IsTuple l items)(h:∀h',IsEnum h' (s.heap.objs.size+1) s.heap.objs.size 0 .none->h'.IsTupleIter s.heap.objs.size l 0->h'.objs.size=s.heap.objs.size+2 ->(∀b o,s.heap.get? b=some o->h'.get? b=some o)->Q (.ref (s.heap.objs.size+1)) { s with heap:=h' }):C_ (G_ prog w) A (call (.type "enumerate") [.ref l]) Q E s:=by
 obtain⟨⟨c,B,dt,sl⟩,hl,hc,n,hd⟩:=hL;replace hc:c=.type "tuple" := hc;replace hd:dt=.seq items n:=hd;subst hc hd;refine callType_new F.called_enumerate (by decide) (F.typeCall_enumerate_1 _) (F.newCall_enumerate_1 _) (fun obj=>F.args_object_init_2 obj _) F.entry_enumerate_new
  (R1 l items n B sl) ⟨hl,?_⟩
 have hz:(s.heap.push { cls:=.type "tuple_iterator",data:=.fields #[.ref l,.int 0 0] }).objs.size=s.heap.objs.size+1:=UD ..;show _/\_;rw[hz];have he:IsEnum ((s.heap.push { cls:=.type "tuple_iterator",data:=.fields #[.ref l,.int 0 0] }).push
   { cls:=.type "enumerate",data:=.fields #[.none,.bool false,.ref s.heap.objs.size,Xa 0,.none,.none] }) (s.heap.objs.size+1) s.heap.objs.size 0 .none:=by
  have:=r_ (s.heap.push { cls:=.type "tuple_iterator",data:=.fields #[.ref l,.int 0 0] })
   (o:={ cls:=.type "enumerate",data:=.fields #[.none,.bool false,.ref s.heap.objs.size,Xa 0,.none,.none] }) rfl
  rw[hz]at this;exact this
 refine⟨⟨_,he,rfl⟩,h _ he ⟨_,c_ _ (r_ _ rfl),rfl,rfl⟩ (by rw[UD,hz]) fun b o x=>c_ _ (c_ _ x)⟩
end
theorem Er{X:Cx}{pz:List (Addr×Obj)}{σ:L2.St}{H:Hp}{s:f_}{h':Heap}{ch:List Addr}{T:Addr}{o:HO}{t':Nat}(I:Inv X pz σ H s)(L:∀b∈ch,cX X pz H b)(k:∀b ob,b∉ch->s.heap.get? b=some ob->h'.get? b=some ob)(hT:s.heap.objs.size<=T)(new:bF X.prog X.w (aB H T o) h' T o):Inv X pz σ (aB H T o) { s with heap:=h',toks:=t' }:=by
 have U:H T=none:=I.hok.fresh hT;have trk:∀b u,H b=some u->b∉ch:=fun b u e hb=>by rw[(L b hb).1]at e;cases e
 have M:∀b ob,s.heap.get? b=some ob->b≠T:=fun b ob e=>M_ (F_ (w_ e) hT);have B:∀b u,H b=some u->aB H T o b=some u:=fun b u e=>by rw[bf (kM e U)];exact e
 refine I.step (g':=s.gens) (d':=s.drawn) (ch:=ch) (fun b hb=>?_) (fun b ob _ _ hc e _=>k b ob hc e) (fun b ob _ _ hc e _=>⟨ob.slots,k b ob hc e⟩) (fun b ob hc e n=>by rw[bf (M b ob e)];exact n)
  (fun b ob hc e=>⟨ob,k b ob hc e⟩) (fun b xs e=>B b _ e) (fun b ob u e=>B b _ e) (fun b ps e=>⟨#[],by rw[B b _ e];simp⟩) (fun m hm=>?_) (fun b u e=>?_) I.bare
 .obtain⟨z0,z1,z2,z3,z4,z5⟩:=L b hb;exact⟨z3,z1,z4,z5⟩
 .obtain⟨ob,es,ep,ho,r⟩:=hm;exact⟨ob,es,ep,k _ ob (fun hb=>(L _ hb).2.1 rfl) ho,r⟩
 .by_cases hb:b=T
  .subst hb;rw[bB]at e;cases e;exact new
  .rw[bf hb]at e;refine(I.hok b u e).stay (fun c v hc q=>k c v ?_ q) (fun c q=>B c _ q) fun c xs q=>B c _ q;rcases hc with z|z
   .rw[z];exact trk b u e
   .exact trk c _ z
def mn(sq:Hp->List V->Prop):It:=⟨fun i H=>∃xs x,sq H xs/\xs[i]? = some x,fun i H x H'=>∃p v,H p=none/\x=.ref p/\H'=aB H p (.tup [.int i,v])/\∀xs,sq H xs->xs[i]? = some v,fun i H=>∃xs,sq H xs/\xs.length=i⟩
theorem L5{P:E_}{w:S_}{H:Hp}{h:Heap}{T:Addr}{i:Nat}{tk:Tok}{x:a_}{v:V}(hT:h.get? T=some { cls:=.type "tuple",data:=.seq #[.int i tk,x] })(r:L2.ar v x):bF P w H h T (.tup [.int i,v]):=⟨by show 2<=sizeLine;decide,[.int i tk,x],.cons ⟨tk,rfl⟩ (.cons r .nil),⟨_,hT,rfl,0,rfl⟩,_,hT,rfl⟩
def eh(K:W.Frag)(t:Bool)(a:Addr)(H:Hp)(xs:List V):Prop:=match t with
|false=>bh K H a xs
|true=>bU K H a xs
def jY(t:Bool)(a u:Addr)(i:Nat)(h:Heap):Prop:=match t with
|false=>h.IsListIter u a i
|true=>h.IsTupleIter u a i
def kP(t:Bool)(a:Addr)(xs:Array a_)(h:Heap):Prop:=match t with
|false=>h.IsList a xs
|true=>h.IsTuple a xs
theorem mW{t:Bool}{a u:Addr}{i:Nat}{h:Heap}(e:jY t a u i h):∃o,h.get? u=some o/\∀v,o.data≠.cell v:=by cases t <;> (obtain⟨o,ho,hc,hd⟩:=e;exact⟨o,ho,fun v z=>by rw[hd]at z;cases z⟩)
theorem m7{t:Bool}{a u:Addr}{i:Nat}{h h':Heap}(e:jY t a u i h)(k:∀o,h.get? u=some o->h'.get? u=some o):jY t a u i h':=by cases t <;> (obtain⟨o,ho,r⟩:=e;exact⟨o,k o ho,r⟩)
theorem OR{t:Bool}{a:Addr}{xs:Array a_}{h h':Heap}(e:kP t a xs h)(k:∀o,h.get? a=some o->h'.get? a=some o):kP t a xs h':=by cases t <;> (obtain⟨o,ho,r⟩:=e;exact⟨o,k o ho,r⟩)
section
variable{X:Cx}{pz:List (Addr×Obj)}{σ:L2.St}{H:Hp}{s:f_}{t:Bool}{a u:Addr}{xs ys:List V}{i:Nat}
theorem qE(I:Inv X pz σ H s)(hq:eh X.K t a H xs):∃its:List a_,al xs its/\kP t a its.toArray s.heap:=by cases t with
|false=>obtain⟨its,rv,p,hz⟩:=I.list hq;exact⟨its,rv,p.isList⟩
|true=>obtain⟨its,rv,p,hz⟩:=I.tuple hq;exact⟨its,rv,p⟩
theorem mq(I:Inv X pz σ H s)(hc:X.calm=true)(hq:eh X.K t a H xs)(B:a≠u)(hi:jY t a u i s.heap):∃(its:List a_)(St:Nat->Heap->Prop),al xs its/\XQ X.prog X.w X.A.in1 u [u,a] its.toArray.size (fun i v=>its.toArray[i]? = some v) St/\St i s.heap/\∀j h',St j h'->jY t a u j h':=by obtain⟨its,rv,p⟩:=qE I hq;have hh:X.A.in1.handled=none:=I.ok.hd hc;cases t with
|false=>exact⟨its,_,rv,Draws.list hh u a B its.toArray,⟨hi,p⟩,fun j h' st=>st.1⟩
|true=>exact⟨its,_,rv,JT hh u a B its.toArray,⟨hi,p⟩,fun j h' st=>st.1⟩
theorem wF(I:Inv X pz σ H s)(h1:eh X.K t a H xs)(h2:eh X.K t a H ys):xs=ys:=by cases t with
|false=>exact I.list_inj h1 h2
|true=>exact I.tuple_inj h1 h2
theorem nh(I:Inv X pz σ H s)(h1:eh X.K t a H xs):a<s.heap.objs.size:=by obtain⟨its,rv,p⟩:=qE I h1;cases t <;> (obtain⟨o,ho,_⟩:=p;exact w_ ho)
end
theorem Gz{P:E_}{w:S_}{K:W.Frag}{elts:List Expr}{k:Nat}{pos:Pos}{t:Bool}(a it e:Addr)(L:e≠it)(M:a≠it)(BT:e≠a):Turn P w K (.Tuple elts k pos) (mn (eh K t a)) [e,it] e (fun i h=>(∃old,IsEnum h e it i old)/\jY t a it i h) where
 mem:=by simp
 obj:=fun i h st b hb=>by
  obtain⟨⟨old,he⟩,hi⟩:=st;rcases n_.mp hb with rfl|hb
  .exact⟨_,he,fun v z=>by have z':Data.fields _=Data.cell v:=z;cases z'⟩
  .rw[y_.mp hb];exact mW hi
 keep:=fun i h h' st kk=>by obtain⟨⟨old,he⟩,hi⟩:=st;exact⟨⟨old,kk e (by simp) _ he⟩,m7 hi fun o q=>kk it (by simp) o q⟩
 item:=by
  intro X hP hw hK hc i pz s σ H E I hf st hg;subst hP hw hK;obtain⟨xs,x,hq,hx⟩:=hg;obtain⟨⟨old,he⟩,hi⟩:=st;obtain⟨its,St,rv,D1,d1,f1⟩:=mq I hc hq M hi;obtain⟨o1,dl,_⟩:=mW hi;have hlt:i<its.toArray.size:=by have:=(k_.mp hx).1;rw[l_,<-rv.length];exact this
  refine wpAny_pyNext_enum_itemD D1 he d1 hlt L (by simp[L,BT]) fun y h' tk hP ho ad hT hsz hk=>?_;refine⟨_,rfl,wpAny_letOwnedTupleGo_enum ho fun U Z B=>?_⟩;obtain⟨u,hu,ru⟩:=rv.get hx;have hy:y=u:=by
   have:its[i]? = some y:=by simpa using hP
   rw[hu]at this;exact(H_ this).symm
  subst hy;have ac:s.heap.objs.size≠e:=UO (w_ he);have Y:U.get? s.heap.objs.size=some { cls:=.type "tuple",data:=.seq #[.int i tk,y] }:=(B.2 _ ac).trans hT;refine⟨.ref s.heap.objs.size,aB H s.heap.objs.size (.tup [.int i,x]),Er (s:=s) (h':=U) (t':=tk+1) (ch:=[e,it]) I hf (fun b ob hb q=>?_) (s_ _) (L5 Y ru),rfl,⟨_,x,I.hok.fresh (s_ _),rfl,rfl,fun ys hy=>by rw[wF I hy hq];exact hx⟩,⟨⟨_,by simpa using Z⟩,m7 (f1 _ _ ad) fun o q=>(B.2 _ (UX L)).trans q⟩,fun b hb=>?_⟩
  .have hbe:b≠e:=fun z=>hb (by simp[z]);exact(B.2 b hbe).trans (hk b ob hbe (fun z=>hb (by simp[z])) q)
  .rw[bf ?_]
   .exact(hf b hb).1
   .rcases n_.mp hb with rfl|hb
    .exact M_ (w_ he)
    .rw[y_.mp hb];exact M_ (w_ dl)
 done:=by
  intro X hP hw hK hc i pz s σ H E I hf st hg;subst hP hw hK;obtain⟨xs,hq,hx⟩:=hg;obtain⟨⟨old,he⟩,hi⟩:=st;obtain⟨its,St,rv,D1,d1,f1⟩:=mq I hc hq M hi;obtain⟨f0,f1,f2,f3,f4,f5⟩:=hf it (by simp);have hn:its.toArray.size=i:=by rw[l_,<-rv.length];exact hx
  exact wpAny_pyNext_enum_endD D1 he (by rw[hn];exact d1) fun h' eb=>⟨rfl,I.turned (t':=s.toks) (fun b o hb q=>eb b o hb q) f0 f1 f3 f4 f5⟩
 self:=fun _ _ _ _ _ st h=>let⟨⟨_,he⟩,_⟩:=st;WU he h
end
def kO:D->Option String
|.non=>some "NoneType"
|.bl _=>some "bool"
|.int _=>some "int"
|.str _=>some "str"
|.tup _=>some "tuple"
|.lst _=>some "list"
|.dic _=>some "dict"
|.obj _ _=>none
def fq(t T:String):Bool:=t==T || (t == "bool" && T == "int")
def gm(T:String)(d:D):Option D:=(kO d).map fun t=>.bl (fq t T)
def Iq(K:W.Frag)(x:V)(H:Hp)(t:String):Prop:=match x with
|.non=>t = "NoneType"
|.bl _=>t = "bool"
|.int _=>t = "int"
|.str _=>t = "str"
|.ref p=>(t = "list"/\∃xs,bh K H p xs)\/(t = "tuple"/\∃xs,bU K H p xs)\/(t = "dict"/\∃kvs,Rd H p (.dK kvs))
|_=>False
theorem Ls{K:W.Frag}{G:GH}{H:Hp}{v:V}{d:D}{t:String}(gk:aU K G H)(h:RB K G H v d)(e:kO d=some t):Iq K v H t:=by cases d with
|non=>cases e;rw[h.non gk];rfl
|bl b=>cases e;rw[h.bl gk];rfl
|int i=>cases e;rw[h.int gk];rfl
|str x=>cases e;rw[h.str gk];rfl
|tup ds=>cases e;obtain⟨a,xs,rfl,s,r⟩:=h.tup gk;exact .inr (.inl ⟨rfl,xs,s⟩)
|lst ds=>cases e;obtain⟨a,xs,rfl,s,r⟩:=h.lst gk;exact .inl ⟨rfl,xs,s⟩
|dic ds=>cases e;obtain⟨a,xs,rfl,s,r⟩:=h.dic gk;exact .inr (.inr ⟨rfl,xs,s⟩)
|obj _ _=>cases e
variable{p2:Pos}
theorem Nh:dA X (.builtin "isinstance") (fun xs H Q=>∃x t T b,xs=[x,.ty T]/\Iq X.K x H t/\W.kitOne X.K (.type t) (.type T)=some b/\Q (.bl b) H):=by
 intro pz s σ H xs us Q I r h;obtain⟨x,t,T,b,rfl,ty,e,q⟩:=h;obtain⟨u,w',rfl,rx,ry⟩:=Cv r;cases ry;have fin:∀tk,EP X pz σ Q (.bool b) { s with toks:=tk }:=fun tk=>⟨.bl b,H,I.tok tk,rfl,q⟩
 cases x with
|non=>cases rx;cases(show t = "NoneType" from ty);exact W.kia_one W.kitx_none I.kIn True.intro e (fun z=>nomatch z) fin
|bl y=>cases rx;cases(show t = "bool" from ty);exact W.kia_one W.kitx_bool I.kIn True.intro e (fun z=>nomatch z) fin
|int i=>obtain⟨t,rfl⟩:=rx;cases ty;exact W.kia_one W.kitx_int I.kIn True.intro e (fun z=>nomatch z) fin
|str i=>obtain⟨t,rfl⟩:=rx;cases ty;exact W.kia_one W.kitx_str I.kIn True.intro e (fun z=>nomatch z) fin
|ref p=>
  cases rx;rcases ty with⟨rfl,xs,hq⟩|⟨rfl,xs,hq⟩|⟨rfl,kvs,hq⟩
  .obtain⟨its,_,pl,_⟩:=I.list hq;obtain⟨o,ho,hc,_⟩:=pl.isList;exact W.kia_one W.kitx_list I.kIn ⟨o,ho,hc⟩ e (fun z=>nomatch z) fin
  .obtain⟨its,_,pl,_⟩:=I.tuple hq;obtain⟨o,ho,hc,_⟩:=pl;exact W.kia_one W.kitx_tuple I.kIn ⟨o,ho,hc⟩ e (fun z=>nomatch z) fin
  .obtain⟨_,_,vs,_,pp⟩:=(show bF X.prog X.w H s.heap p (.dK kvs)from hq.ok I.hok)
   obtain⟨o,es,ep,h1,h2,_⟩:=pp;exact W.kia_one W.kitx_dict I.kIn ⟨o,h1,h2.1⟩ e (fun z=>nomatch z) fin
|_=>exact(show False from ty).elim
theorem n4(x:Str)(T:String)(hv:VS x=some (.type T))(hk:∀(d:D)(t:String),kO d=some t->W.kitOne X.K (.type t) (.type T)=some (fq t T))(hg:Gl X "isinstance")(hm:X.mg "isinstance" = none)(L:Gl X x)(M:X.mg x=none)(he:SB X g m e f)(hn:x≠"__name__" := by decide)(hd:(x==("__debug__" : Str))=false:=by decide)(B:i_ [e,.Name x p2] X.env=(false,eval e X.env)::i_ [.Name x p2] X.env:=by rfl)(U:i_ [.Name x p2] X.env=(false,eval (.Name x p2) X.env)::i_ [] X.env:=by rfl)(hpl:(backTo pos (i_ [.Name x p2] X.env)).any (·.1)=false:=by rfl):SE X g m (.Call (.Name "isinstance" p) [e,.Name x p2] [] pos) (f1 f (gm T)):=by
 refine PE.imp (nc Nh hg hm (by first|exact YR|rfl) (ff he (ff (L6 (v:=.ty T) L M hv rfl hn hd) iN U) B) (by decide) (by decide) B hpl) fun σ H Q ⟨r,G,si,q⟩=>⟨r,G,si,ba (bg q) fun d q1 v G1 H1 w1 r1=>?_⟩
 obtain⟨d',e',q2⟩:=ck q1;unfold gm at e';cases et:kO d with
|none=>rw[et]at e';cases e'
|some t=>rw[et]at e';cases e';exact⟨v,t,T,_,rfl,Ls w1.ok r1 et,hk d t et,q2 _ G1 H1 w1 (.scl (.bl _))⟩
theorem yi{d:D}{t:String}(h:kO d=some t){P:String->Prop}(h1:P "NoneType")(h2:P "bool")(h3:P "int")(h4:P "str")(h5:P "tuple")(h6:P "list")(h7:P "dict"):P t:=by cases d <;> cases h <;> assumption
theorem MG(K:W.Frag)(d:D)(t:String)(h:kO d=some t):W.kitOne K (.type t) (.type "int")=some (fq t "int"):=yi (P:=fun t=>W.kitOne K (.type t) (.type "int")=some (fq t "int")) h (by kernel_rfl) (by kernel_rfl) (by kernel_rfl) (by kernel_rfl) (by kernel_rfl) (by kernel_rfl) (by kernel_rfl)
theorem NB(K:W.Frag)(d:D)(t:String)(h:kO d=some t):W.kitOne K (.type t) (.type "bool")=some (fq t "bool"):=yi (P:=fun t=>W.kitOne K (.type t) (.type "bool")=some (fq t "bool")) h (by kernel_rfl) (by kernel_rfl) (by kernel_rfl) (by kernel_rfl) (by kernel_rfl) (by kernel_rfl) (by kernel_rfl)
theorem vX(K:W.Frag)(d:D)(t:String)(h:kO d=some t):W.kitOne K (.type t) (.type "str")=some (fq t "str"):=yi (P:=fun t=>W.kitOne K (.type t) (.type "str")=some (fq t "str")) h (by kernel_rfl) (by kernel_rfl) (by kernel_rfl) (by kernel_rfl) (by kernel_rfl) (by kernel_rfl) (by kernel_rfl)
variable{pos2:Pos}
def dQ(lo:Int)(n:Nat):List V:=(t_ n).map fun(i:Nat)=>V.int (lo+(i:Int))
theorem Kg{K:W.Frag}{G:GH}(lo:Int)(n:Nat):bx K G (dQ lo n) (cD lo n):=by
 unfold dQ cD
 induction(t_ n)with
|nil=>exact .nil
|cons i l ih=>exact .cons (.scl (.int _)) ih
theorem Ay:∀{xs:List V}{us:List a_},xs.length=us.length->(∀(j:Nat) v u,xs[j]? = some v->us[j]? = some u->L2.ar v u)->al xs us
|[],[],_,_=>.nil
|v::xs,u::us,hl,h=>.cons (h 0 v u rfl rfl) (Ay (by simpa using hl) fun j a b e1 e2=>h (j+1) a b (by simpa using e1) (by simpa using e2))
|[],_::_,hl,_=>by simp at hl
|_::_,[],hl,_=>by simp at hl
theorem NW{lo:Int}{n:Nat}{acc:Array a_}(h:ItemsOf (fun i v=>∃t,v=.int (lo+i*1) t) acc n):al (dQ lo n) acc.toList:=by
 refine Ay (by simp[dQ,h.1]) fun j v u e1 e2=>?_;have hj:j<n:=by have:=(k_.mp e1).1;simpa[dQ]using this
 unfold dQ at e1;rw[D_,U4 hj]at e1;cases e1;obtain⟨t,rfl⟩:=h.2 j u (by rw[<-US];exact e2);exact⟨t,by simp⟩
theorem O6:dA X (.type "range") (fun xs H Q=>∃j,xs=[.int j]/\∀p,H p=none->Q (.ref p) (aB H p (.rng 0 j))):=by intro pz s σ H xs us Q I r h;obtain⟨j,rfl,q⟩:=h;obtain⟨u,rfl,t,rfl⟩:=d6 r;refine call_range_1 ⟨.ref s.heap.objs.size,_,I.laid (o:=.rng 0 j) (fun b o e=>c_ _ e) (s_ _) ⟨_,_,_,r_ _ rfl⟩,rfl,q _ (I.hok.fresh (s_ _))⟩
theorem Rk(hc:X.calm=true):dA X (.type "list") (fun xs H Q=>∃p lo hi,xs=[.ref p]/\H p=some (.rng lo hi)/\(-(2^62)<=lo/\lo<2^62/\-(2^62)<=hi/\hi<2^62)/\(hi-lo).toNat<=sizeLine/\∀l,H l=none->Q (.ref l) (aB H l (.lst (dQ lo (hi-lo).toNat)))):=by
 intro pz s σ H xs us Q I r h;obtain⟨p,lo,hi,rfl,hp,⟨h1,h2,h3,h4⟩,hz,q⟩:=h;obtain⟨u,rfl,rx⟩:=d6 r;cases rx;obtain⟨t,u,v,ho⟩:=(show bF X.prog X.w H s.heap p (.rng lo hi)from I.hok p _ hp)
 have e2:W5 lo hi 1=(((hi-lo).toNat:Nat):Int):=by rw[rangeSize_one];split <;> omega
 refine call_list_range (I.ok.hd hc) (r:=p) (a:=lo) (b:=hi) (c:=1) ho (small_one h1 h2 h3 h4) e2 (by rw[N_]at hz;omega) fun h' tk acc c' kp hS B=>?_;refine⟨.ref s.heap.objs.size,_,I.laid (t':=tk) kp (s_ _) (show bF X.prog X.w _ h' _ (.lst (dQ lo (hi-lo).toNat))from⟨by unfold dQ;rw[j_,Yk];exact hz,acc.toList,c',NW B,by rw[Xz];exact hS⟩),rfl,q _ (I.hok.fresh (s_ _))⟩
def ki:List D->Option D
|[.int j]=>if-(2^62)<=j/\j<2^62/\j.toNat<=sizeLine then some (.lst (cD 0 j.toNat))else none
|_=>none
theorem CJ{H:Hp}{p l:Addr}{o:HO}(h:aB H p o l=none):H l=none/\l≠p:=by
 by_cases e:l=p
 .subst e;rw[bB]at h;cases h
 .rw[bf e]at h;exact⟨h,e⟩
theorem qR(hc:X.calm=true)(L:Gl X "list")(M:X.mg "list" = none)(hg:Gl X "range")(hm:X.mg "range" = none)(ha:gw X g m [a] fl)(hs:i_ [a] X.env=(false,eval a X.env)::i_ [] X.env:=by rfl)(B:i_ [.Call (.Name "range" p2) [a] [] pos2] X.env=(false,eval (.Call (.Name "range" p2) [a] [] pos2) X.env)::i_ [] X.env:=by rfl):SO X g m (.Call (.Name "list" p) [.Call (.Name "range" p2) [a] [] pos2] [] pos) (fC fl ki):=by
 refine PE.imp (kJ (Rk hc) L M rfl (ff (kJ O6 hg hm Y3 ha (by decide) (by decide) hs rfl) iN B) (by decide) (by decide) B rfl) fun σ H Q ⟨r,G,si,q⟩=>⟨r,G,si,ba (bg q) fun ds q1 vs G1 H1 w1 rs=>?_⟩
 obtain⟨d,e,q2⟩:=ck q1;unfold ki at e;split at e
 .split at e
  .rename_i j hj;cases e;cases rs with
  |cons r1 t=>cases t;refine⟨j,by rw[r1.int w1.ok],fun p hp=>⟨p,0,j,rfl,bB,⟨by decide,by decide,hj.1,hj.2.1⟩,by simpa using hj.2.2,fun l hl=>?_⟩⟩;obtain⟨hl1,hl2⟩:=CJ hl;have w2:=Grow.new w1.ok hp (.rng 0 j);have w3:=Grow.new w2.ok hl (.lst (dQ 0 (j-0).toNat));refine q2 l G1 _ (w1.trans (w2.trans w3)) (w1.back hl1) ⟨w1.ok.isN hl1,.lst bB ?_⟩;rw[show j-0=j by omega];exact Kg 0 _
  .cases e
 .cases e
def nR(K:W.Frag)(r:V->List V->Hp->VK->Prop)(k:D->List D->Option D):Prop:=∀(G:GH)(H:Hp)(v:V)(d:D)(vs:List V)(ds:List D)(d':D)(Q:VK),aU K G H->RB K G H v d->Paired (RB K G H) vs ds->k d ds=some d' ->(∀v' G' H',Grow K G H G' H'->RG K G' v' d'->Q v' H')->r v vs H Q
def sS(T:String):D->Bool
|.lst _=>T == "list"
|.tup _=>T == "tuple"
|.dic _=>T == "dict"
|.str _=>T == "str"
|.int _=>T == "int"
|_=>false
theorem Lu{K:W.Frag}{G:GH}{H:Hp}{v:V}{d:D}{T:String}(gk:aU K G H)(h:RB K G H v d)(t:sS T d=true):nJ K T v H:=by cases d with
|lst ds=>obtain⟨a,xs,rfl,s,r⟩:=h.lst gk;exact .inl ⟨UT t,xs,s⟩
|tup ds=>
  have e:T = "tuple" := UT t;rcases h with h|⟨a,rfl,o⟩
  .cases h with
  |scl s=>cases s
  |ref q=>cases gk _ _ q with
   |tup r s=>exact .inr (.inl ⟨e,.inr ⟨_,r⟩⟩)
  |kc k=>cases k with
   |tup r s z=>exact .inr (.inl ⟨e,.inl z⟩)
  .cases o.ob
|dic ds=>obtain⟨a,xs,rfl,s,r⟩:=h.dic gk;exact .inr (.inr (.inl ⟨UT t,.inl ⟨xs,s⟩⟩))
|str x=>rw[h.str gk];exact UT t
|int x=>rw[h.int gk];exact UT t
|_=>cases t
def fM(T:String)(fo:FE)(fl:am->Res (List D))(k:D->List D->Option D):FE:=fun r=>(fo r).bind fun d=>if sS T d=true then(fl r).bind fun ds=>cP (k d ds)else .stuck
section
variable{o:Expr}{fo:FE}{apos cpos:Pos}{ro:Bool}{x name:Str}{T id:String}{R:V->List V->Hp->VK->Prop}{k:D->List D->Option D}
theorem cm(pa:XZ T)(slot:Slot T name id)(Z:typeOf (.builtin id)=pure (.type "method_descriptor"))(ac:hU X id R)(hk:nR X.K R k)(ho:SB X g m o fo)(ha:gw X g m (e::es) fl)(L:Uo o name X.env (eval o X.env)=eval o X.env:=by rfl)(U:((backTo cpos (i_ (e::es) X.env)).all (fun x=>! x.1)&&(Wk cpos (Vz [] X.env)).all (fun x=>x.1.isSome)&&decide ((e::es).length+([]:List Xh).length+(if ([]:List Xh).isEmpty then 0 else 1)<30))=true:=by rfl)(M:(apos.endLine==cpos.line)=true:=by rfl)(Y:i_ (e::es) X.env=(false,eval e X.env)::i_ es X.env:=by rfl)(B:(backTo cpos (i_ es X.env)).any (·.1)=false:=by rfl):SE X g m (.Call (.Attribute o name apos) (e::es) [] cpos) (fM T fo fl k):=by
 refine PE.imp (tU pa slot Z ac ho ha L U M Y B) fun σ H Q ⟨r,G,si,q⟩=>⟨r,G,si,ba (bg q) fun d q1 v G1 H1 w1 r1=>?_⟩
 by_cases ht:sS T d=true
 .rw[if_pos ht]at q1;refine⟨Lu w1.ok r1 ht,r,G1,si.grow w1,fm (bg q1) w1 fun ds q2 vs G2 H2 w2 rs=>?_⟩;obtain⟨d',e',q3⟩:=ck q2;exact hk G2 H2 v d vs ds d' Q w2.ok (r1.mono w2) rs e' fun v' G' H' w' z=>q3 v' G' H' ((w1.trans w2).trans w') z
 .rw[if_neg ht]at q1;exact q1.elim
def jD(x:V):List V->Option Nat
|[]=>none
|y::xs=>if gZ y x=true then some 0 else(jD x xs).map (· + 1)
def gI(x:D):List D->Option Nat
|[]=>none
|y::xs=>if eT y x=true then some 0 else(gI x xs).map (· + 1)
theorem xK(x:D):∀ds:List D,jD (e8 x) (ds.map e8)=gI x ds
|[]=>rfl
|y::ds=>by show(if gZ (e8 y) (e8 x)=true then some 0 else(jD (e8 x) (ds.map e8)).map (· + 1))=if eT y x=true then some 0 else(gI x ds).map (· + 1);rw[xK x ds];rfl
theorem Eo{x:V}{xs:List V}{us:List a_}{j:Nat}(h0:al xs us)(f:xs.all fO=true)(h:jD x xs=some j):∃hj:j<us.length,dy x us[j]=true/\∀i (hi:i<us.length),i<j->dy x us[i]=false:=by induction h0 generalizing j with
|nil=>cases h
|@cons y u xs us r t ih=>
  rw[Vq,P_]at f;unfold jD at h;by_cases hy:gZ y x=true
  .rw[if_pos hy]at h;cases h;exact⟨Nat.zero_lt_succ _,by show dy x u=true;rw[qq r f.1];exact hy,fun i _ hlt=>absurd hlt (Nat.not_lt_zero _)⟩
  .rw[if_neg hy]at h;cases e:jD x xs with
  |none=>rw[e]at h;cases h
  |some z=>rw[e]at h;cases h;obtain⟨a,b,c⟩:=ih f.2 e;refine⟨Nat.succ_lt_succ a,b,fun i hi hlt=>?_⟩;cases i with
   |zero=>show dy x u=false;rw[qq r f.1];simpa using hy
   |succ i=>exact c i (Xm hi) (Xm hlt)
def DC(K:W.Frag):V->List V->Hp->VK->Prop:=fun x vs H Q=>∃p xs y j,x=.ref p/\vs=[y]/\bh K H p xs/\fO y=true/\xs.all fO=true/\jD y xs=some j/\Q (.int j) H
theorem FB:hU X "list.index" (DC X.K):=by
 intro pz s σ H x vs v us Q I rx rv h;obtain⟨p,xs,y,j,rfl,rfl,hq,fy,fx,e,q⟩:=h;cases rx;obtain⟨u,rfl,ru⟩:=d6 rv;obtain⟨its,r,pl,hz⟩:=I.list hq;obtain⟨o,n,ho,hc,hd,hs⟩:=pl;obtain⟨a,b,c⟩:=Eo r fx e;have hl:=r.length;obtain⟨ocls,odict,odata,oslots⟩:=o;simp only at hc hd hs;subst hc hd hs;refine VD PySem.F.slot_list_index ⟨_,ho,rfl⟩ PySem.F.entry_list_index (PySem.F.args_list_index_2 _ _)
  (SeqAt.list_indexAt p its.toArray n none oslots u (dy y) j (by simpa using a) (by rw[N_]at hz;omega) (by simpa using b) (fun i hi hlt=>by simpa using c i (by simpa using hi) hlt)) ⟨ho,fun w hw=>m9 ru fy r fx w (by simpa using hw),⟨.int j,H,I.tok _,⟨_,rfl⟩,q⟩⟩
def J4:D->List D->Option D
|.lst ds,[x]=>if cv x=true/\ds.all cv=true then(gI x ds).map fun j=>.int j else none
|.tup ds,[x]=>if cv x=true/\ds.all cv=true then(gI x ds).map fun j=>.int j else none
|_,_=>none
theorem PR{K:W.Frag}{G:GH}{H:Hp}{ds:List D}{xs:List V}{x d':D}{v:V}(gk:aU K G H)(rs:bx K G xs ds)(rx:RB K G H v x)(e:(if cv x=true/\ds.all cv=true then(gI x ds).map fun j=>D.int j else none)=some d'):∃j:Nat,d'=.int j/\fO v=true/\xs.all fO=true/\jD v xs=some j:=by
 by_cases hc:cv x=true/\ds.all cv=true
 .rw[if_pos hc]at e;obtain⟨e1,f1⟩:=RB.flat rx gk hc.1;obtain⟨e3,f3⟩:=BW rs gk hc.2;cases ef:gI x ds with
 |none=>rw[ef]at e;cases e
 |some j=>rw[ef]at e;cases e;exact⟨j,rfl,f1,f3,by rw[e1,e3,xK];exact ef⟩
 .rw[if_neg hc]at e;cases e
def oy(d:D)(ds:List D):Option D:=match d with
|.lst _=>J4 d ds
|_=>none
theorem FR{K:W.Frag}:nR K (DC K) oy:=by intro G H v d vs ds d' Q gk rv rs e q;cases d with
|lst zs=>cases ds with
 |nil=>cases e
 |cons x t=>cases t with
  |nil=>cases rs with
   |cons r1 rt=>cases rt;obtain⟨a,xs,rfl,s,r⟩:=rv.lst gk;obtain⟨j,rfl,h1,h2,h3⟩:=PR gk r r1 e;exact⟨a,xs,_,j,rfl,rfl,s,h1,h2,h3,q _ G H (Grow.refl gk) (.scl (.int _))⟩
  |cons _ _=>cases e
|_=>cases e
def kr(xs:List V):Bool:=xs.all fun x=>match x with|.int _=>true|_=>false
theorem QQ{xs:List V}(h:kr xs=true):xs.all fO=true:=by unfold kr at h;rw[Uj]at h ⊢;intro x hx;have:=h x hx;cases x <;> first|rfl|exact absurd this g_
theorem FA{k:Int}{t:Tok}:∀{xs:List V}{us:List a_},al xs us->kr xs=true->∀u∈us,Yv u (.int k t) (dy (.int k) u)
|_,_,.nil,_=>fun u hu=>by cases hu
|y::xs,u::us,.cons r rt,f=>fun u' hu=>by unfold kr at f;rw[Vq,P_]at f;cases y with
 |int i=>
   obtain⟨t',rfl⟩:=r;rcases n_.mp hu with rfl|hu
   .exact MeetsSeq.EqGives.int i k t' t
   .exact FA rt f.2 u' hu
 |_=>exact absurd f.1 g_
def B9:V->List V->Hp->VK->Prop:=fun x vs H Q=>∃l xs k j,x=.ref l/\vs=[.int k]/\H l=some (.lst xs)/\kr xs=true/\jD (.int k) xs=some j/\Q .non (aB H l (.lst (xs.eraseIdx j)))
theorem FC:hU X "list.remove" B9:=by
 intro pz s σ H x vs v us Q I rx rv h;obtain⟨l,xs,k,j,rfl,rfl,hH,hi,e,q⟩:=h;cases rx;obtain⟨u,rfl,t,rfl⟩:=d6 rv;obtain⟨hz,its,n,r,hl,eo⟩:=I.lstM hH;obtain⟨a,b,c⟩:=Eo r (QQ hi) e;have B:∀y,y∈its.toArray->Yv y (.int k t) (dy (.int k) y):=fun y hy=>FA r hi y (by simpa using hy);have hsz:its.toArray.size<=sizeLine:=by rw[l_];omega
 refine VD PySem.F.slot_list_remove ⟨_,eo,rfl⟩ PySem.F.entry_list_remove (PySem.F.args_list_remove_2 _ _) (MeetsSeq.list_remove l its.toArray n (.int k t) (dy (.int k)) B j (by simpa using a) (by simpa using b) (fun i hi hlt=>by simpa using c i (by simpa using hi) hlt) hsz) ⟨eo,?_⟩;refine⟨.non,_,I.lset (its':=its.eraseIdx j) hH eo ?_ ?_ ?_,rfl,q⟩
 .apply Yw.mp;simp[Array.toList_eraseIdxIfInBounds]
 .exact al.eraseIdx j r
 .have:=List.length_eraseIdx_le xs j;omega
def isInt:D->Bool
|.int _=>true
|_=>false
theorem J7{K:W.Frag}{G:GH}{H:Hp}{xs:List V}{ds:List D}(h:bx K G xs ds)(gk:aU K G H)(hf:ds.all isInt=true):kr xs=true/\xs=ds.map e8:=by induction h with
|nil=>exact⟨rfl,rfl⟩
|@cons x d xs ds r t ih=>rw[Vq,P_]at hf;obtain⟨h1,h2⟩:=ih hf.2;cases d with
 |int i=>have e:=r.int gk;subst e;refine⟨?_,by rw[L_,<-h2];rfl⟩;show kr _=true;unfold kr at h1 ⊢;rw[Vq,h1];rfl
 |_=>exact absurd hf.1 g_
def remD:D->List D->Option D
|.lst ds,[.int k]=>if ds.all isInt=true then(gI (.int k) ds).map fun j=>.lst (ds.eraseIdx j)else none
|_,_=>none
theorem C5{K:W.Frag}:hJ K B9 remD:=by
 intro G H a d vs ds d' Q gk ow rs e q;unfold remD at e;split at e
 .split at e
  .rename_i zs k hall;cases ef:gI (.int k) zs with
  |none=>rw[ef]at e;cases e
  |some j=>rw[ef]at e;cases e;cases ow.ob with
   |lst r s=>cases rs with
    |cons r1 t=>cases t;obtain⟨h1,h2⟩:=J7 s gk hall;refine⟨a,_,k,j,rfl,by rw[r1.int gk],r,h1,?_,q _ (.lst bB (Paired.er j s))⟩;rw[h2];exact(xK (.int k) zs).trans ef
  .cases e
 .cases e
def n9(kvs more:List (aG×D)):List (aG×D):=more.foldl (fun acc kv=>cL acc kv.1 kv.2) kvs
theorem Mp{K:W.Frag}{G:GH}{more:List (aG×V)}{B:List (aG×D)}{ps:List (aG×V)}{kvs:List (aG×D)}(hm:eu K G more B)(h:eu K G ps kvs):eu K G (ku ps more) (n9 kvs B):=by induction hm generalizing ps kvs with
|nil=>exact h
|@cons p q m md r t ih=>have e:p.1=q.1:=r.1;show eu K G (ku (ca ps p.1 p.2) _) (n9 (cL kvs q.1 q.2) _);rw[e];exact ih (Cm h r.2)
def DE:V->List V->Hp->VK->Prop:=fun x vs H Q=>∃d o kvs more,x=.ref d/\vs=[.ref o]/\d≠o/\H d=some (.dK kvs)/\Rd H o (.dK more)/\kvs.length+more.length<=sizeLine/\Q .non (aB H d (.dK (ku kvs more)))
theorem PK:hU X "dict.update" DE:=by
 intro pz s σ H x vs v us Q I rx rv h;obtain⟨d,o,kvs,more,rfl,rfl,hne,hd,ho,hz,q⟩:=h;cases rx;obtain⟨u,rfl,ru⟩:=d6 rv;cases ru;obtain⟨z1,U,Y,r1,L⟩:=(show bF X.prog X.w H s.heap d (.dK kvs)from I.hok d _ hd)
 obtain⟨z2,M,ac,r2,Z⟩:=(show bF X.prog X.w H s.heap o (.dK more)from ho.ok I.hok)
 have l1:=Paired.length r1;have l2:=Paired.length r2;refine call_meetsIn PySem.F.slot_dict_update L.typeIs PySem.F.entry_dict_update (PySem.F.args_dict_update_2 _ _) (meets_dict_update (d9 X.prog X.w) d o hne M) ⟨Y,ac,L,Z,by omega,fun h' B ad hs=>?_⟩;have hlen:(ku kvs more).length<=sizeLine:=Ue (Hz more kvs) hz;refine⟨.non,_,I.write (t':=s.toks) (x:=d) (e:=d) (by rw[hd];exact trivial) (.inl rfl) (fun b u hb hu=>(hs.2 b hb).trans hu) (let⟨ob,_,_,e,_⟩:=B;⟨ob,e⟩) (show bF X.prog X.w _ h' d (.dK (ku kvs more))from⟨hlen,U,_,KV.merge r2 r1,B⟩),rfl,q⟩
def updD:D->List D->Option D
|.dic kvs,[.dic more]=>if kvs.length+more.length<=sizeLine then some (.dic (n9 kvs more))else none
|_,_=>none
theorem Lx{K:W.Frag}:hJ K DE updD:=by
 intro G H a d vs ds d' Q gk ow rs e q;unfold updD at e;split at e
 .split at e
  .rename_i kvs more hl;cases e;cases ow.ob with
  |dic r s=>cases rs with
   |cons r1 t=>
     cases t;have hb:∃b ps,_=V.ref b/\Rd H b (.dK ps)/\eu K G ps more:=r1.dic gk;obtain⟨b,ps,rfl,hb,rb⟩:=hb;have B:a≠b:=by
      rintro rfl
      cases r1 with
     |scl s=>cases s
     |ref z=>rw[ow.un]at z;cases z
     |kc k=>cases k
     have l1:=Paired.length s;have l2:=Paired.length rb;exact⟨a,b,_,ps,rfl,rfl,B,r,hb,by omega,q _ (.dic bB (Mp rb s))⟩
  .cases e
 .cases e
def Jo:V->List V->Hp->VK->Prop:=fun x vs H Q=>∃d kvs,x=.ref d/\vs=[]/\Rd H d (.dK kvs)/\∀p,H p=none->Q (.ref p) (aB H p (.ext fun h=>h.IsValuesView p d))
theorem PL:hU X "dict.values" Jo:=by
 intro pz s σ H x vs v us Q I rx rv h;obtain⟨d,kvs,rfl,rfl,hd,q⟩:=h;cases rx;cases rv;obtain⟨z1,M,L,r1,B⟩:=(show bF X.prog X.w H s.heap d (.dK kvs)from hd.ok I.hok)
 refine call_meetsIn PySem.F.slot_dict_values B.typeIs PySem.F.entry_dict_values (PySem.F.args_dict_values_1 _) (meets_dict_values (d9 X.prog X.w) d M) ⟨⟨L,B⟩,?_⟩;refine⟨.ref s.heap.objs.size,_,I.laid (t':=s.toks) (o:=.ext fun h=>h.IsValuesView s.heap.objs.size d) (fun b ob e=>c_ _ e) (s_ _) ?_,rfl,q _ (I.hok.fresh (s_ _))⟩;refine⟨⟨_,r_ _ rfl,rfl,rfl⟩,⟨_,r_ _ rfl⟩,fun h1 h2 hv hk=>?_⟩;obtain⟨ob,e,c⟩:=hv;exact⟨ob,hk ob e,c⟩
theorem RO(hc:X.calm=true):dA X (.type "list") (fun xs H Q=>∃p d kvs,xs=[.ref p]/\H p=some (.ext fun h=>h.IsValuesView p d)/\Rd H d (.dK kvs)/\∀l,H l=none->Q (.ref l) (aB H l (.lst (kvs.map (·.2))))):=by
 intro pz s σ H xs us Q I r h;obtain⟨p,d,kvs,rfl,hp,hd,q⟩:=h;obtain⟨u,rfl,rx⟩:=d6 r;cases rx;obtain⟨hv,_,_⟩:=(show bF X.prog X.w H s.heap p (.ext fun h=>h.IsValuesView p d)from I.hok p _ hp)
 obtain⟨z1,ac,U,r1,Y⟩:=(show bF X.prog X.w H s.heap d (.dK kvs)from hd.ok I.hok)
 obtain⟨ep,M⟩:=Y.dictAt;have l1:=Paired.length r1;refine W.kdl_call (W.kdl_values (knd:=d9 X.prog X.w) (kvs:=U) (ep:=ep)) (I.ok.hd hc) ⟨hv,M⟩ (by omega) fun h' tk acc c' kp hS B=>?_;have L:al (kvs.map (·.2)) acc.toList:=by refine Ay (by have h1:=B.1;have h2:acc.toList.length=acc.size:=Vs;rw[j_];omega) fun j v u e1 e2=>?_;obtain⟨k,hk⟩:=B.2 j u (by rw[<-US];exact e2);rw[D_]at e1;cases e3:kvs[j]? with
 |none=>rw[e3]at e1;cases e1
 |some kv=>rw[e3]at e1;cases e1;obtain⟨Z,e4,e5⟩:=Paired.get r1 hk;rw[e3]at e4;cases e4;exact e5.2
 refine⟨.ref s.heap.objs.size,_,I.laid (t':=tk) kp (s_ _) (show bF X.prog X.w _ h' _ (.lst (kvs.map (·.2)))from⟨by rw[j_];exact z1,acc.toList,c',L,by rw[Xz];exact hS⟩),rfl,q _ (I.hok.fresh (s_ _))⟩
def uB:D->Option D
|.dic kvs=>some (.lst (kvs.map (·.2)))
|_=>none
theorem Dc{K:W.Frag}{G:GH}:∀{ps:List (aG×V)}{kvs:List (aG×D)},eu K G ps kvs->bx K G (ps.map (·.2)) (kvs.map (·.2))
|_,_,.nil=>.nil
|_,_,.cons r t=>.cons r.2 (Dc t)
theorem JQ(hc:X.calm=true)(hg:Gl X "list")(hm:X.mg "list" = none)(ho:SB X g m o fo)(L:Uo o "values" X.env (eval o X.env)=eval o X.env:=by rfl)(B:(apos.endLine==cpos.line)=true:=by rfl)(M:i_ [.Call (.Attribute o "values" apos) [] [] cpos] X.env=(false,eval (.Call (.Attribute o "values" apos) [] [] cpos) X.env)::i_ [] X.env:=by rfl):SO X g m (.Call (.Name "list" pos') [.Call (.Attribute o "values" apos) [] [] cpos] [] pos) (f1 fo uB):=by
 refine PE.imp (kJ (RO hc) hg hm rfl (ff (vE PySem.F.plainAttrs_dict PySem.F.slot_dict_values PySem.F.type_dict_values PL ho L B) iN M) (by decide) (by decide) M rfl) fun σ H Q ⟨r,G,si,q⟩=>⟨r,G,si,ba (bg q) fun d q1 v G1 H1 w1 r1=>?_⟩
 obtain⟨d',e,q2⟩:=ck q1;cases d with
|dic kvs=>
  cases e;obtain⟨a,ps,rfl,hs,rs⟩:=r1.dic w1.ok;refine⟨.inr (.inr (.inl ⟨rfl,.inl ⟨ps,hs⟩⟩)),a,ps,rfl,rfl,hs,fun p hp=>⟨p,a,ps,rfl,bB,?_,fun l hl=>?_⟩⟩
  .exact Rd.mono hs fun a o e=>vI hp _ _ e
  .obtain⟨hl1,hl2⟩:=CJ hl;have w2:=Grow.new w1.ok hp (.ext fun h=>h.IsValuesView p a);have w3:=Grow.new w2.ok hl (.lst (ps.map (·.2)));exact q2 l G1 _ (w1.trans (w2.trans w3)) (w1.back hl1) ⟨w1.ok.isN hl1,.lst bB (Dc rs)⟩
|_=>cases e
end
def cg:Nat->List D->List D
|_,[]=>[]
|i,d::ds=>.tup [.int i,d]::cg (i+1) ds
theorem oH:∀(i:Nat)(ds:List D),(cg i ds).length=ds.length
|_,[]=>rfl
|i,d::ds=>congrArg (· + 1) (oH (i+1) ds)
theorem xG:∀(i j:Nat)(ds:List D),(cg i ds)[j]? = (ds[j]?).map fun d=>D.tup [.int ((i+j:Nat):Int),d]
|_,_,[]=>by simp[cg]
|i,0,d::ds=>by simp[cg]
|i,j+1,d::ds=>by show(cg (i+1) ds)[j]? = _;rw[xG (i+1) j ds];simp only[Wb];rw[show i+1+j=i+(j+1)by omega]
theorem Eh{K:W.Frag}{ds:List D}{G0:GH}{sq:Hp->List V->Prop}(h:∀G H,aR G0 G->aU K G H->∃xs,sq H xs/\bx K G xs ds):Yields K (mn sq) (cg 0 ds) G0:=by
 refine⟨fun G H i w gk hi=>?_,fun G H i x H' d w gk y e=>?_,fun G H w gk=>?_⟩
 .obtain⟨xs,s,r⟩:=h G H w gk;rw[oH]at hi;have hl:=Paired.length r;exact⟨xs,xs[i],s,m_ (by omega)⟩
 .obtain⟨xs,s,r⟩:=h G H w gk;obtain⟨p,v,hp,rfl,rfl,hv⟩:=y;rw[xG]at e;cases ed:ds[i]? with
 |none=>rw[ed]at e;cases e
 |some d0=>rw[ed]at e;simp only[VG,WO,Xn]at e;subst e;obtain⟨v',e1,rv⟩:=Paired.get r ed;have:=hv xs s;rw[e1]at this;cases this;exact⟨_,Grow.newF gk hp (.tup (.inl bB) (.cons (.scl (.int _)) (.cons rv .nil))),.ref gD⟩
 .obtain⟨xs,s,r⟩:=h G H w gk;rw[oH];exact⟨xs,s,Paired.length r⟩
def gY(f:FE):FI:=fun r=>(f r).bind fun d=>(cP (bz d)).bind fun ds=>.ok (cg 0 ds)
section
variable{elts:List Expr}{kk:Nat}
theorem DZ{te:TE}(hg:Gl X "enumerate")(hm:X.mg "enumerate" = none)(he:PE X e te)(hs:i_ [e] X.env=(false,eval e X.env)::i_ [] X.env:=by rfl):PI X (.Tuple elts kk pos2) (.Call (.Name "enumerate" p) [e] [] pos) (fun σ H R=>te σ H fun x H1=>(∃a,x=.ref a/\(∃xs,bh X.K H1 a xs)/\R (mn fun H xs=>bh X.K H a xs) H1)\/∃a,x=.ref a/\(∃xs,bU X.K H1 a xs)/\R (mn fun H xs=>bU X.K H a xs) H1):=by
 intro pz s σ H R I h;refine Call_ (lu I hg hm boot_enumerate (UL (aO (ff he iN hs pos pz s σ H (fun vs H1=>match vs with
 |[x]=>(∃a,x=.ref a/\(∃xs,bh X.K H1 a xs)/\R (mn fun H xs=>bh X.K H a xs) H1)\/∃a,x=.ref a/\(∃xs,bU X.K H1 a xs)/\R (mn fun H xs=>bU X.K H a xs) H1
 |_=>False) I h) fun us s1 ⟨vs,H1,I1,r1,q1⟩=>?_) hs rfl))
 .cases r1 with
 |nil=>exact q1.elim
 |@cons x u xs us rx rt=>cases rt with
 |cons _ _=>exact q1.elim
 |nil=>
  have fin:∀{h':Heap},h'.objs.size=s1.heap.objs.size+2->(∀b o,s1.heap.get? b=some o->h'.get? b=some o)->∀b∈[s1.heap.objs.size+1,s1.heap.objs.size],cX X pz H1 b:=fun hz kp b hb=>by
   have B:s1.heap.objs.size<=b:=by
    rcases n_.mp hb with rfl|hb
    .exact WP _
    .rw[y_.mp hb];exact s_ _
   exact I1.fpOk B (I1.hok.fresh B)
  rcases q1 with⟨a,rfl,⟨xs,hq⟩,q⟩|⟨a,rfl,⟨xs,hq⟩,q⟩
  .cases rx;obtain⟨its,rv,pl,hz⟩:=I1.list hq;refine call_enumerate_list pl.isList fun h' he hi hsz kp=>WU he ?_;exact⟨_,[s1.heap.objs.size+1,s1.heap.objs.size],_,_,H1,rfl,I1.kept (t':=s1.toks) kp,Gz (t:=false) a _ _ (UO (U6 _)) (M_ (nh (t:=false) I1 hq)) (UO (U0 (nh (t:=false) I1 hq))),⟨⟨_,he⟩,hi⟩,fin hsz kp,q⟩
  .cases rx;obtain⟨its,rv,pl,hz⟩:=I1.tuple hq;refine R3 (show s1.heap.IsTuple a its.toArray from pl) fun h' he hi hsz kp=>WU he ?_;exact⟨_,[s1.heap.objs.size+1,s1.heap.objs.size],_,_,H1,rfl,I1.kept (t':=s1.toks) kp,Gz (t:=true) a _ _ (UO (U6 _)) (M_ (nh (t:=true) I1 hq)) (UO (U0 (nh (t:=true) I1 hq))),⟨⟨_,he⟩,hi⟩,fin hsz kp,q⟩
theorem CL(hg:Gl X "enumerate")(hm:X.mg "enumerate" = none)(he:SE X g m e f)(hs:i_ [e] X.env=(false,eval e X.env)::i_ [] X.env:=by rfl):iC X g m (.Tuple elts kk pos2) (.Call (.Name "enumerate" p) [e] [] pos) (gY f):=by
 refine PI.imp (DZ hg hm he hs) fun σ H R ⟨r,G,si,q⟩=>⟨r,G,si,ba (bg q) fun d q v G' H' w rv=>?_⟩
 obtain⟨ds,e,q⟩:=ck (bg q);cases d with
|lst ds'=>cases e;obtain⟨a,xs,rfl,s,rs⟩:=rv.lst w.ok;refine .inl ⟨a,rfl,⟨xs,s⟩,q _ G' H' w (Eh fun G H le gk=>?_)⟩;obtain⟨b,ys,e,s',r'⟩:=(rv.mono le).lst gk;cases e;exact⟨ys,s',r'⟩
|tup ds'=>cases e;obtain⟨a,xs,rfl,s,rs⟩:=rv.tup w.ok;refine .inr ⟨a,rfl,⟨xs,s⟩,q _ G' H' w (Eh fun G H le gk=>?_)⟩;obtain⟨b,ys,e,s',r'⟩:=(rv.mono le).tup gk;cases e;exact⟨ys,s',r'⟩
|_=>cases e
end
theorem D4:∀a b:List Int,HT.bP a b=i6 a b
|[],[]=>rfl
|[],_::_=>rfl
|_::_,[]=>rfl
|x::xs,y::ys=>by rw[HT.di,i6,D4 xs ys]
inductive TupI(h:Heap):a_->List Int->Prop where
 |mk {a:Addr} {items:Array a_} {ns:List Int}:X7 h a items->VO items.toList ns->TupI h (.ref a) ns
theorem QR:∀(xs ys:List Int),((t_ (min xs.length ys.length)).all (fun j=>decide (xs.getD j 0=ys.getD j 0))&&xs.length==ys.length)=decide (xs=ys):=by
 intro xs ys;rw[Ud,P_,Uj,beq_iff_eq,decide_eq_true_iff];constructor
 .rintro⟨h1,h2⟩
  refine W8 h2 fun i a b=>?_;have:=h1 i (A_.mpr (by omega));simp only[decide_eq_true_eq]at this;simpa[z_,a,b]using this
 .rintro rfl
  exact⟨fun i _=>by simp,rfl⟩
theorem M3{A:Uc}{s:f_}{p q:a_}{k l:List Int}(hp:TupI s.heap p k)(hq:TupI s.heap q l)(hu:A.units<Vj):XT A s p q (decide (k=l)):=by cases hp with
|@mk a ia _ ha ia'=>cases hq with
 |@mk b ib _ hb ib'=>
   by_cases e:a=b
   .subst e;obtain⟨o,h1,h2,n,h3⟩:=ha;obtain⟨o',B,M,n',L⟩:=hb;rw[h1]at B;cases B;rw[h3]at L;cases L;have:k=l:=by have z1:=ia';have z2:=ib';exact(ZE z1).symm.trans (ZE z2)
    subst this;rw[decide_eq_true rfl];exact YL _
   .have l1:=ia'.length;have l2:=ib'.length;rw[Vs]at l1 l2;have key:=SeqAt.RcAt.tuples (A:=A) (s:=s) (e:=fun j=>decide (k.getD j 0=l.getD j 0)) (show s.heap.IsTuple a ia from ha) (show s.heap.IsTuple b ib from hb) hu (fun j h1 h2=>by
     obtain⟨t,e1⟩:=Xx ia' j ia[j] (by rw[US];simp[h1]);obtain⟨t',e2⟩:=Xx ib' j ib[j] (by rw[US];simp[h2]);rw[e1,e2];have:=WE (A:=A.in1) (s:=s) (k.getD j 0) t (l.getD j 0) t';have e:(k.getD j 0==l.getD j 0)=decide (k.getD j 0=l.getD j 0):=by rw[Ud];simp
     rw[e]at this;exact this)
    rw[l1,l2,QR]at key;exact SeqAt.EqAt.of_refs e key
inductive TupsI(h:Heap):List a_->List (List Int)->Prop where
 |nil:TupsI h [] []
 |cons {p:a_} {k:List Int} {ps:List a_} {ks:List (List Int)}:TupI h p k->TupsI h ps ks->TupsI h (p::ps) (k::ks)
theorem TupsI.length{h:Heap}:∀{ps:List a_}{ks:List (List Int)},TupsI h ps ks->ps.length=ks.length
|_,_,.nil=>rfl
|_,_,.cons _ t=>congrArg (· + 1) t.length
variable{s:f_}
section
variable{prog:E_}{A:Uc}
theorem JL{fin:Bool}{Q:Bool->f_->Prop}(hu:A.units<Vj){ps qs:List a_}{ks ls:List (List Int)}{i:Nat}(h1:TupsI s.heap ps ks)(h2:TupsI s.heap qs ls)(h:Q (gW fin ks ls) s):W.KatLex prog w A false fin Q (ps.zip qs) i s:=by induction h1 generalizing qs ls i with
|nil=>cases h2 <;> exact W.kat_nil h
|@cons p k ps ks hp tp ih=>cases h2 with
 |nil=>exact W.kat_nil h
 |@cons q l qs ls hq tq=>
   refine W.kat_cons (M3 hp hq hu prog w _ _ ?_);by_cases e:k=l
   .rw[decide_eq_true e];have h':Q (gW fin ks ls) s:=by unfold gW at h;rw[if_pos e]at h;exact h
    exact W.kat_yes (ih tq h')
   .rw[decide_eq_false e];have h':Q (i6 k l) s:=by unfold gW at h;rw[if_neg e]at h;exact h
    refine W.kat_no ?_;rw[Y2];refine W.kat_one _ _ ?_;cases hp with
   |mk ha ia=>cases hq with
    |mk hb ib=>refine HT.gj ha hb ia ib hu ?_;rw[D4];exact h'
inductive TupR(h:Heap):a_->List (List Int)->Prop where
 |mk {a:Addr} {items:List a_} {ks:List (List Int)}:X7 h a items.toArray->TupsI h items ks->ks≠[]->TupR h (.ref a) ks
theorem Na{p q:a_}{ks ls:List (List Int)}{Q:Bool->f_->Prop}{E:a_->f_->Prop}(hp:TupR s.heap p ks)(hq:TupR s.heap q ls)(hu:A.units<Vj)(h:Q (d4 ks ls) s):C_ (G_ prog w) A (keyLt' (tuples' false) p q) Q E s:=by cases hp with
|@mk _ items _ ha ta hna=>cases hq with
 |@mk _ items_1 _ hb tb hnb=>
   obtain⟨o,h1,h2,n,h3⟩:=ha;obtain⟨o',B,M,n',L⟩:=hb;refine W.kat_lt h1 h3 B L ?_;have e:decide (items.toArray.size<items_1.toArray.size)=decide (ks.length<ls.length):=by rw[l_,l_,ta.length,tb.length]
   rw[e];exact JL hu (by simpa using ta) (by simpa using tb) h
end
def f6(ns:List Int):List Int:=ns.foldl X3 []
theorem QL(ns:List Int):Xw (fun i=>ns.getD i 0) ns.length=f6 ns:=by unfold Xw f6;congr 1;refine W8 (by simp) fun i h1 h2=>?_;simp[z_,h2]
def il:List D->Option (List Int)
|[]=>some []
|.int i::ds=>(il ds).map (i::·)
|_=>none
theorem EK{K:W.Frag}{G:GH}{H:Hp}(gk:aU K G H){ds:List D}{xs:List V}{ns:List Int}(h:bx K G xs ds)(e:il ds=some ns):xs=ns.map V.int:=by induction h generalizing ns with
|nil=>cases e;rfl
|@cons x d xs ds r t ih=>cases d with
 |int i=>have e':(il ds).map (i::·)=some ns:=e;cases q:il ds with
  |none=>rw[q]at e';cases e'
  |some ms=>rw[q]at e';cases e';rw[r.int gk,ih q];rfl
 |_=>cases e
theorem O7(hc:X.calm=true):dA X (.type "set") (fun xs H Q=>∃p ns,xs=[.ref p]/\(bh X.K H p (ns.map V.int)\/bU X.K H p (ns.map V.int))/\ns.length+1<Vv/\∀l,H l=none->Q (.ref l) (aB H l (.set (fun k=>(f6 ns).any (· == k)) (f6 ns).length))):=by
 intro pz s σ H xs us Q I r h;obtain⟨p,ns,rfl,hq,hb,q⟩:=h;obtain⟨u,rfl,rx⟩:=d6 r;cases rx;have fin:∀(its:List a_)(h':Heap)(tk:Nat),its.length=ns.length->h'.SetOf (Zu X.prog X.w) s.heap.objs.size (fun k=>(Xw (fun i=>ns.getD i 0) its.toArray.size).any (· == k)) (Xw (fun i=>ns.getD i 0) its.toArray.size).length ->(∀b o,b<s.heap.objs.size->s.heap.get? b=some o->h'.get? b=some o)->EP X pz σ Q (.ref s.heap.objs.size) { s with heap:=h',toks:=tk }:=fun its h' tk hl hS kp=>by rw[show its.toArray.size=ns.length by rw[l_];exact hl,QL]at hS;exact⟨.ref s.heap.objs.size,_,I.laid (t':=tk) (fun b o e=>kp b o (w_ e) e) (s_ _) (show bF X.prog X.w _ h' _ (.set _ _)from hS),rfl,q _ (I.hok.fresh (s_ _))⟩
 rcases hq with hq|hq
 .obtain⟨its,r',pl,hz⟩:=I.list hq;have hl:=r'.length;rw[j_]at hl;exact call_set_list (I.ok.hd hc) pl.isList (by simpa using yQ r') (by rw[l_];omega) fun h' tk hS kp=>fin its h' tk hl.symm hS kp
 .obtain⟨its,r',pl,hz⟩:=I.tuple hq;have hl:=r'.length;rw[j_]at hl;exact QU (I.ok.hd hc) (show s.heap.IsTuple p its.toArray from pl) (by simpa using yQ r') (by rw[l_];omega) fun h' tk he=>fin its h' tk hl.symm he.1 he.2
theorem O5:dA X (.builtin "len") (fun xs H Q=>∃p S n,xs=[.ref p]/\H p=some (.set S n)/\Q (.int n) H):=by
 intro pz s σ H xs us Q I r h;obtain⟨p,S,n,rfl,hp,q⟩:=h;obtain⟨u,rfl,rx⟩:=d6 r;cases rx;obtain⟨o,es,ep,t,ho,B,hd,_,_,hb,hf,hn⟩:=(show bF X.prog X.w H s.heap p (.set S n)from I.hok p _ hp)
 refine call_len_set ho B hd hf ?_ ⟨.int n,H,I.tok _,⟨_,by rw[hn]⟩,q⟩;have h4:(es.size:Int)<4096:=by unfold Vv at hb;omega
 exact Int.lt_of_lt_of_le h4 (by decide)
def uH:D->Option D
|.lst ds=>(il ds).bind fun ns=>if ns.length+1<Vv then some (.int (f6 ns).length)else none
|.tup ds=>(il ds).bind fun ns=>if ns.length+1<Vv then some (.int (f6 ns).length)else none
|_=>none
theorem Oa(hc:X.calm=true)(hg:Gl X "len")(hm:X.mg "len" = none)(Z:Gl X "set")(Y:X.mg "set" = none)(ha:SB X g m a f)(hs:i_ [a] X.env=(false,eval a X.env)::i_ [] X.env:=by rfl)(M:i_ [.Call (.Name "set" p2) [a] [] pos2] X.env=(false,eval (.Call (.Name "set" p2) [a] [] pos2) X.env)::i_ [] X.env:=by rfl):SE X g m (.Call (.Name "len" p) [.Call (.Name "set" p2) [a] [] pos2] [] pos) (f1 f uH):=by
 refine PE.imp (nc O5 hg hm PySem.boot_len (ff (kJ (O7 hc) Z Y (by first|exact PyProof.Rows.boot_set|rfl) (ff ha iN hs) (by decide) (by decide) hs rfl) iN M) (by decide) (by decide) M rfl) fun σ H Q ⟨r,G,si,q⟩=>⟨r,G,si,ba (bg q) fun d q1 v G1 H1 w1 r1=>?_⟩
 obtain⟨d',e,q2⟩:=ck q1;have L:∀{ds:List D}{xs:List V}{b:Addr},bx X.K G1 xs ds->v=.ref b->(bh X.K H1 b xs\/bU X.K H1 b xs)->(il ds).bind (fun ns=>if ns.length+1<Vv then some (D.int (f6 ns).length)else none)=some d' ->∃p ns,[v]=[V.ref p]/\(bh X.K H1 p (ns.map V.int)\/bU X.K H1 p (ns.map V.int))/\ns.length+1<Vv/\∀l,H1 l=none->∃p S n,[V.ref l]=[V.ref p]/\aB H1 l (.set (fun k=>(f6 ns).any (· == k)) (f6 ns).length) p=some (.set S n)/\Q (.int n) (aB H1 l (.set (fun k=>(f6 ns).any (· == k)) (f6 ns).length)):=fun{ds xs b} rs ev hs he=>by cases ea:il ds with
 |none=>rw[ea]at he;cases he
 |some ns=>
   rw[ea]at he;have B:(if ns.length+1<Vv then some (D.int (f6 ns).length)else none)=some d':=he;by_cases hl:ns.length+1<Vv
   .rw[if_pos hl]at B;cases B;have ex:=EK w1.ok rs ea;subst ex;exact⟨b,ns,by rw[ev],hs,hl,fun l U=>⟨l,_,_,rfl,bB,q2 _ G1 _ (w1.trans (Grow.new w1.ok U _)) (.scl (.int _))⟩⟩
   .rw[if_neg hl]at B;cases B
 cases d with
|lst ds=>obtain⟨b,xs,ev,hs,rs⟩:=r1.lst w1.ok;exact L rs ev (.inl hs) e
|tup ds=>obtain⟨b,xs,ev,hs,rs⟩:=r1.tup w1.ok;exact L rs ev (.inr hs) e
|_=>cases e
def p0(K:W.Frag)(H:Hp)(x:V)(k:List Int):Prop:=∃b,x=.ref b/\bU K H b (k.map V.int)
def nO(K:W.Frag)(H:Hp)(x:V)(ks:List (List Int)):Prop:=∃b xs,x=.ref b/\bU K H b xs/\Paired (p0 K H) xs ks/\ks≠[]
def kb{α:Type}(d:α)(ys:List α)(kss:List (List (List Int))):List α:=(jc ys.length fun i j=>d4 (kss.getD i []) (kss.getD j [])).map fun i=>ys.getD i d
theorem bF.isS{P:E_}{w:S_}{H:Hp}{h:Heap}{a:Addr}{o:HO}(x:bF P w H h a o):h.get? a≠none:=by
 have s:∀{u:Obj},h.get? a=some u->h.get? a≠none:=fun e z=>by rw[z]at e;cases e
 cases o with
|lst xs=>obtain⟨_,_,_,_,e⟩:=x;exact s e
|tup xs=>obtain⟨_,_,_,⟨_,e,_⟩,_⟩:=x;exact s e
|dK kvs=>obtain⟨_,_,_,_,o,_,_,e,_⟩:=x;exact s e
|dT kvs=>obtain⟨_,_,_,_,o,_,_,e,_⟩:=x;exact s e
|set S n=>obtain⟨o,_,_,_,e,_⟩:=x;exact s e
|ins C dx fs=>obtain⟨_,_,_,e,_⟩:=x;exact s e
|own y=>obtain⟨_,e⟩:=x;exact s e
|xd fs=>obtain⟨_,⟨_,_,_,e,_⟩,_⟩:=x;exact s e
|rng lo hi=>obtain⟨_,_,_,e⟩:=x;exact s e
|frz ob u=>obtain⟨e,_⟩:=x;exact s e
|tbl ps=>exact s (show h.get? a=some _ from x)
|met f y=>exact s (show h.get? a=some _ from x)
|ext φ=>obtain⟨_,⟨_,e⟩,_⟩:=x;exact s e
variable{H:Hp}
section
variable{pz:List (Addr×Obj)}{σ:L2.St}
theorem TupI.stay{h h':Heap}{L:Addr}{mm:Str->Option a_}(hL:h.Ns L mm)(k:∀b o,b≠L->h.get? b=some o->h'.get? b=some o){p:a_}{ns:List Int}(x:TupI h p ns):TupI h' p ns:=by cases x with
|mk ht hi=>
  obtain⟨o,h1,h2,n,h3⟩:=ht;refine .mk ⟨o,k _ _ ?_ h1,h2,n,h3⟩ hi
  rintro rfl
  obtain⟨o',es,ep,e,d,_⟩:=hL;rw[h1]at e;cases e;rw[h3]at d;cases d
theorem TupsI.stay{h h':Heap}{L:Addr}{mm:Str->Option a_}(hL:h.Ns L mm)(k:∀b o,b≠L->h.get? b=some o->h'.get? b=some o):∀{ps:List a_}{ks:List (List Int)},TupsI h ps ks->TupsI h' ps ks
|_,_,.nil=>.nil
|_,_,.cons x t=>.cons (x.stay hL k) (t.stay hL k)
theorem TupR.stay{h h':Heap}{L:Addr}{mm:Str->Option a_}(hL:h.Ns L mm)(k:∀b o,b≠L->h.get? b=some o->h'.get? b=some o){p:a_}{ks:List (List Int)}(x:TupR h p ks):TupR h' p ks:=by cases x with
|mk ht hi hn=>
  obtain⟨o,h1,h2,n,h3⟩:=ht;refine .mk ⟨o,k _ _ ?_ h1,h2,n,h3⟩ (hi.stay hL k) hn
  rintro rfl
  obtain⟨o',es,ep,e,d,_⟩:=hL;rw[h1]at e;cases e;rw[h3]at d;cases d
theorem M4(I:Inv X pz σ H s){x:V}{k:List Int}{u:a_}(h:p0 X.K H x k)(r:L2.ar x u):TupI s.heap u k:=by obtain⟨b,rfl,hq⟩:=h;cases r;obtain⟨its,rv,pl,_⟩:=I.tuple hq;exact .mk pl (by simpa using yQ rv)
theorem Og(I:Inv X pz σ H s){xs:List V}{ks:List (List Int)}{us:List a_}(h:Paired (p0 X.K H) xs ks)(v:al xs us):TupsI s.heap us ks:=by induction h generalizing us with
|nil=>cases v;exact .nil
|cons h _ ih=>cases v with
 |cons r q=>exact .cons (M4 I h r) (ih q)
theorem M5(I:Inv X pz σ H s){x:V}{ks:List (List Int)}{u:a_}(h:nO X.K H x ks)(r:L2.ar x u):TupR s.heap u ks:=by obtain⟨b,xs,rfl,hq,hp,hn⟩:=h;cases r;obtain⟨its,rv,pl,_⟩:=I.tuple hq;exact .mk pl (Og I hp rv) hn
theorem Fz{ys:List V}{us:List a_}(r:al ys us):∀(ix:List Nat),(∀i∈ix,i<ys.length)->al (ix.map fun i=>ys.getD i .non) (ix.map fun i=>us.getD i Value.none)
|[],_=>.nil
|i::ix,h=>by
  refine .cons ?_ (Fz r ix fun j hj=>h j (h_ _ hj));have hi:=h i e_;obtain⟨u,h1,h2⟩:=r.get (i:=i) (x:=ys[i]) (m_ hi);have e1:ys.getD i .non=ys[i]:=by simp[z_,hi]
  have e2:us.getD i Value.none=u:=by rw[z_,h1];rfl
  show L2.ar (ys.getD i .non) (us.getD i Value.none);rw[e1,e2];exact h2
theorem Inv.laidN{D:Addr}{ys:List V}{its:List a_}{c:Nat}{h':Heap}(I:Inv X pz σ H s)(hD:s.heap.get? D=none)(Z:D≠X.env.locals)(k:∀b o,b≠X.env.locals->s.heap.get? b=some o->h'.get? b=some o)(M:∀m,s.heap.Ns X.env.locals m->h'.Ns X.env.locals m)(ho:h'.get? D=some { cls:=.type "list",data:=.seq its.toArray c })(rv:al ys its)(hz:ys.length<=sizeLine)(t':Nat):Inv X pz σ (aB H D (.lst ys)) { s with heap:=h',toks:=t' }:=by
 have Y:H D=none:=by cases q:H D with
 |none=>rfl
 |some u=>exact absurd hD (bF.isS (I.hok D u q))
 have neD:∀b o,s.heap.get? b=some o->b≠D:=fun b o e z=>by rw[z,hD]at e;cases e
 have B:∀b u,H b=some u->aB H D (.lst ys) b=some u:=fun b u e=>by rw[bf (kM e Y)];exact e
 have L:∀b u,H b=some u->b≠X.env.locals:=fun b u e z=>by rw[z,I.free]at e;cases e
 refine I.step (g':=s.gens) (d':=s.drawn) (ch:=[]) (fun b hb=>absurd hb (by simp)) (fun b ob hL _ _ e _=>k b ob hL e) (fun b ob hL _ _ e _=>⟨ob.slots,k b ob hL e⟩) (fun b ob _ e n=>by rw[bf (neD b ob e)];exact n)
  (fun b ob _ e=>?_) (fun b xs e=>B b _ e) (fun b ob u e=>B b _ e) (fun b ps e=>⟨#[],by rw[B b _ e];simp⟩) M (fun b u e=>?_) I.bare
 .by_cases hb:b=X.env.locals
  .subst hb;obtain⟨m,hn,_⟩:=I.loc;obtain⟨o,_,_,U,_⟩:=M m hn;exact⟨o,U⟩
  .exact⟨ob,k b ob hb e⟩
 .by_cases hb:b=D
  .subst hb;rw[bB]at e;cases e;exact⟨hz,its,c,rv,ho⟩
  .rw[bf hb]at e;refine(I.hok b u e).stay (fun cc v hc q=>k cc v ?_ q) (fun cc q=>B cc _ q) fun cc xs q=>B cc _ q;rcases hc with z|z
   .rw[z];exact L b u e
   .exact L cc _ z
theorem DQ{h:Heap}{L:Addr}{m m':Str->Option a_}(a:h.Ns L m)(b:h.Ns L m'):m=m':=by obtain⟨o,es,ep,e,d,_,f⟩:=a;obtain⟨o',M,B,e',d',_,f'⟩:=b;rw[e]at e';cases e';rw[d]at d';cases d';funext x;rw[<-f,<-f']
theorem Et{h:Heap}:∀{us:List a_}{kss:List (List (List Int))},Paired (fun u ks=>TupR h u ks) us kss->∃fs,W.KatTups h us fs/\fs.length=us.length/\∀f∈fs,∃b o,f=Value.ref b/\h.get? b=some o/\o.cls=.type "tuple"
|_,_,.nil=>⟨[],W.KatTups.nil,rfl,fun f hf=>nomatch hf⟩
|_,_,.cons x t=>by obtain⟨fs,h1,h2,h3⟩:=Et t;cases x with
 |@mk a items ks ht hi hn=>cases hi with
  |nil=>exact absurd rfl hn
  |@cons p k ps ks hp _=>
    obtain⟨o,e1,e2,n,e3⟩:=ht;refine⟨p::fs,W.KatTups.cons e1 e2 e3 (by simp) h1,by simp[h2],fun f hf=>?_⟩;rcases n_.mp hf with rfl|hf
    .cases hp with
    |mk hb _=>obtain⟨ob,q1,q2,_⟩:=hb;exact⟨_,ob,rfl,q1,q2⟩
    .exact h3 f hf
theorem Of(I:Inv X pz σ H s){ys:List V}{kss:List (List (List Int))}{us:List a_}(h:Paired (nO X.K H) ys kss)(v:al ys us):Paired (fun u ks=>TupR s.heap u ks) us kss:=by induction h generalizing us with
|nil=>cases v;exact .nil
|cons h _ ih=>cases v with
 |cons r q=>exact .cons (M5 I h r) (ih q)
theorem xV{n:Nat}{c:Nat->Nat->Bool}{i:Nat}(h:i∈jc n c):i<n:=A_.mp ((yU n c).mem_iff.mp h)
theorem QI{k:Nat}(hr:Room k X.A):dA X (.builtin "sorted") (fun xs H Q=>∃p ys kss,xs=[.ref p]/\bh X.K H p ys/\Paired (nO X.K H) ys kss/\ys.length<64/\∀l,H l=none->Q (.ref l) (aB H l (.lst (kb .non ys kss)))):=by
 intro pz s σ H xs us Q I r h;obtain⟨p,ys,kss,rfl,hq,hk,dl,q⟩:=h;obtain⟨u,rfl,rx⟩:=d6 r;cases rx;obtain⟨its,rv,pl,hz⟩:=I.list hq;have hl:=rv.length;have ad:=Paired.length hk;by_cases h2:its.length<2
 .refine Ri pl.isList h2 fun h' c D kp hD ho=>?_;have hs:s.heap.get? D=none:=Xv hD;refine⟨.ref D,_,Inv.laidN I hs (UO (F_ I.lt hD)) (fun b o _ e=>kp b o e) (fun m ⟨o,es,ep,e,z⟩=>⟨o,es,ep,kp _ _ e,z⟩) ho rv (by omega) s.toks,rfl,?_⟩;have e:kb V.non ys kss=ys:=by unfold kb jc;rw[if_pos (by omega)];refine W8 (by simp) fun i a b=>?_;simp[z_,b]
  have:=q D (I.hok.fresh hD);rw[e]at this;exact this
 .obtain⟨mF,F⟩:=I.fr;have Z:=Of I hk rv;refine W.kat_sorted F (EB (g:=X.base) (h:=s.heap) (L:=X.env.locals)) pl.isList (by omega) (by omega) fun D e1 h' F' N' hlt=>?_;have U:s.heap.get? D=none:=by cases z:s.heap.get? D with
  |none=>rfl
  |some o=>have zn:=(N' _ (e_)).2;exact absurd (hlt (D,o) (zj zn.1 zn.2 z)) (UM _)
  have B:∀{h2:Heap}{oD:Obj},Fr X.base X.env.locals h2 mF->News X.base X.env.locals h2 ((D,oD)::mU X.base s.heap X.env.locals)->∀b o,b≠X.env.locals->s.heap.get? b=some o->h2.get? b=some o:=fun{h2 oD} F2 N2 b o hb e=>by cases z:X.base.get? b with
  |some o'=>have:=I.bk b o' z;rw[e]at this;cases this;exact F2.keep b o z
  |none=>exact(N2 (b,o) (h_ _ (zj hb z e))).1
  have k1:=B F' N';have M:Paired (fun u ks=>TupR h' u ks) its kss:=Paired.mono (fun _ _ x=>x.stay F.ns k1) Z;obtain⟨fs,t1,t2,t3⟩:=Et M;refine W.kat_kind (T:=.type "tuple") t1 (by omega) (fun v hv=>?_) (by decide) ?_
  .obtain⟨b,o,rfl,e1,e2⟩:=t3 v hv;rw[<-e2];exact(W.Looks.ld e1).andThen .now
  have hn:0<its.length:=by omega
  refine O1 (n:=its.length) (c:=fun i j=>d4 (kss.getD i []) (kss.getD j [])) (fun i j C hi hj hC=>?_) (Fg hn) ?_
  .have gi:∀i,i<its.length->TupR h' (its.getD i Value.none) (kss.getD i []):=fun i hi=>by
    have Y:i<kss.length:=by omega
    obtain⟨a,ha,hx⟩:=Paired.get M (m_ Y);rw[z_,ha,z_,m_ Y];exact hx
   exact Na (gi i hi) (gi j hj) (by have:=hr.un;show X.A.units+1+1<Vj;omega) hC
  .refine W.KasFin.intro F' N' (.head fun q hq z=>?_) fun h3 c F3 N3=>?_
   .have:=hlt q hq;rw[z]at this;exact UM _ this
   .have oD:=(N3 _ e_)
    have ac:∀i∈jc ys.length (fun i j=>d4 (kss.getD i []) (kss.getD j [])),i<ys.length:=fun i hi=>xV hi;have e0:(on (fun i j=>d4 (kss.getD i []) (kss.getD j [])) (W.kas_sort its.length)).toList=jc ys.length (fun i j=>d4 (kss.getD i []) (kss.getD j [])):=by unfold jc;rw[if_neg (by omega),hl]
    rw[e0]at oD;refine⟨.ref D,_,Inv.laidN (t':=_) (its:=(jc ys.length fun i j=>d4 (kss.getD i []) (kss.getD j [])).map fun i=>its.getD i Value.none) I U oD.2.1 (B F3 N3) (fun m hm=>by rw[DQ hm F.ns];exact F3.ns) oD.1 (Fz rv _ ac) ?_,rfl,q D ?_⟩
    .have:=(yU ys.length fun i j=>d4 (kss.getD i []) (kss.getD j [])).length_eq;rw[j_,this,Yk];omega
    .cases z:H D with
    |none=>rfl
    |some u=>exact absurd U (bF.isS (I.hok D u z))
end
def kt:D->Option (List Int)
|.tup ds=>il ds
|_=>none
def jd:List D->Option (List (List Int))
|[]=>some []
|d::ds=>(kt d).bind fun k=>(jd ds).map (k::·)
def ql:D->Option (List (List Int))
|.tup (d::ds)=>jd (d::ds)
|_=>none
def ky:List D->Option (List (List (List Int)))
|[]=>some []
|d::ds=>(ql d).bind fun k=>(ky ds).map (k::·)
def qh:List D->Option D
|[.lst ds]=>(ky ds).bind fun kss=>if ds.length<64 then some (.lst (kb .non ds kss))else none
|_=>none
section
variable{G:GH}
theorem Lp(gk:aU K G H){v:V}{d:D}{k:List Int}(r:RG K G v d)(e:kt d=some k):p0 K H v k:=by cases d with
|tup ds=>obtain⟨a,xs,rfl,s,rs⟩:=r.tup gk;have:=EK gk rs e;subst this;exact⟨a,rfl,s⟩
|_=>cases e
theorem M1(gk:aU K G H){ds:List D}{xs:List V}{ks:List (List Int)}(h:bx K G xs ds)(e:jd ds=some ks):Paired (p0 K H) xs ks:=by induction h generalizing ks with
|nil=>cases e;exact .nil
|@cons x d xs ds r t ih=>have e':(kt d).bind (fun k=>(jd ds).map (k::·))=some ks:=e;cases e1:kt d with
 |none=>rw[e1]at e';cases e'
 |some k=>rw[e1]at e';cases e2:jd ds with
  |none=>rw[e2]at e';cases e'
  |some ks'=>rw[e2]at e';cases e';exact .cons (Lp gk r e1) (ih e2)
theorem Oh{d:D}{ds:List D}{ks:List (List Int)}(e:jd (d::ds)=some ks):ks≠[]:=by have e':(kt d).bind (fun k=>(jd ds).map (k::·))=some ks:=e;cases e1:kt d with
|none=>rw[e1]at e';cases e'
|some k=>rw[e1]at e';cases e2:jd ds with
 |none=>rw[e2]at e';cases e'
 |some ks'=>rw[e2]at e';cases e';simp
theorem Lq(gk:aU K G H){v:V}{d:D}{ks:List (List Int)}(r:RG K G v d)(e:ql d=some ks):nO K H v ks:=by cases d with
|tup ds=>cases ds with
 |nil=>cases e
 |cons d ds=>obtain⟨a,xs,rfl,s,rs⟩:=r.tup gk;exact⟨a,xs,rfl,s,M1 gk rs e,Oh e⟩
|_=>cases e
theorem M2(gk:aU K G H){ds:List D}{xs:List V}{ks:List (List (List Int))}(h:bx K G xs ds)(e:ky ds=some ks):Paired (nO K H) xs ks:=by induction h generalizing ks with
|nil=>cases e;exact .nil
|@cons x d xs ds r t ih=>have e':(ql d).bind (fun k=>(ky ds).map (k::·))=some ks:=e;cases e1:ql d with
 |none=>rw[e1]at e';cases e'
 |some k=>rw[e1]at e';cases e2:ky ds with
  |none=>rw[e2]at e';cases e'
  |some ks'=>rw[e2]at e';cases e';exact .cons (Lq gk r e1) (ih e2)
theorem E9{xs:List V}{ds:List D}(r:bx K G xs ds):∀(ix:List Nat),(∀i∈ix,i<ds.length)->bx K G (ix.map fun i=>xs.getD i .non) (ix.map fun i=>ds.getD i .non)
|[],_=>.nil
|i::ix,h=>by refine .cons ?_ (E9 r ix fun j hj=>h j (h_ _ hj));have hi:=h i e_;obtain⟨u,h1,h2⟩:=Paired.get r (m_ hi);show RG K G (xs.getD i .non) (ds.getD i .non);rw[z_,h1,z_,m_ hi];exact h2
end
section
variable{k:Nat}
theorem OQ(hr:Room k X.A)(hg:Gl X "sorted")(hm:X.mg "sorted" = none)(ha:gw X g m [a] fl)(hs:i_ [a] X.env=(false,eval a X.env)::i_ [] X.env:=by rfl):SO X g m (.Call (.Name "sorted" p) [a] [] pos) (fC fl qh):=by
 refine Cf (R:=fun xs H Q=>∃p ys kss,xs=[.ref p]/\bh X.K H p ys/\Paired (nO X.K H) ys kss/\ys.length<64/\∀l,H l=none->Q (.ref l) (aB H l (.lst (kb .non ys kss)))) ?_ (nc (QI hr) hg hm (by first|exact Zl|rfl) ha (by decide) (by decide) hs rfl);intro G H vs ds d Q gk rs e q;unfold qh at e;split at e
 .rename_i zs;cases ek:ky zs with
 |none=>rw[ek]at e;cases e
 |some kss=>
   rw[ek]at e;have e':(if zs.length<64 then some (D.lst (kb .non zs kss))else none)=some d:=e;by_cases L:zs.length<64
   .rw[if_pos L]at e';cases e';cases rs with
   |cons r1 t=>cases t;obtain⟨b,xs,rfl,s,r⟩:=r1.lst gk;have hl:=Paired.length r;refine⟨b,xs,kss,rfl,s,M2 gk r ek,by omega,fun l B=>q l G _ (Grow.new gk B _) B ⟨gk.isN B,.lst bB ?_⟩⟩;unfold kb;rw[hl];exact E9 r _ fun i hi=>xV hi
   .rw[if_neg L]at e';cases e'
 .cases e
end
end DL
namespace DL
open PySem PyProof.Rows PySem.SeqAt PySem.MeetsSeq PySem.MeetsSeq2 PySem.MeetsSeq3 L2
section
open PySem.AutoSeq1 (wpAny_loadPart')
end
end DL
namespace DL
open PySem PyProof.Rows L2
end DL
namespace DL
open PySem PySem.Spec PyProof.Rows L2
section
variable{X:Cx}{pz:List (Addr×Obj)}{σ:L2.St}{H:Hp}{s:f_}
theorem Inv.keptN{h':Heap}(I:Inv X pz σ H s)(k:∀b o,b≠X.env.locals->s.heap.get? b=some o->h'.get? b=some o)(L:∀m,s.heap.Ns X.env.locals m->h'.Ns X.env.locals m)(t':Nat):Inv X pz σ H { s with heap:=h',toks:=t' }:=by
 have B:∀b u,H b=some u->b≠X.env.locals:=fun b u e z=>by rw[z,I.free]at e;cases e
 refine I.step (g':=s.gens) (d':=s.drawn) (ch:=[]) (fun b hb=>absurd hb (by simp)) (fun b ob hL _ _ e _=>k b ob hL e) (fun b ob hL _ _ e _=>⟨ob.slots,k b ob hL e⟩) (fun b ob _ e n=>n)
  (fun b ob _ e=>?_) (fun b xs e=>e) (fun b ob u e=>e) (fun b ps e=>⟨#[],by rw[e];simp⟩) L (fun b u e=>?_) I.bare
 .by_cases hb:b=X.env.locals
  .subst hb;obtain⟨m,hn,_⟩:=I.loc;obtain⟨o,_,_,M,_⟩:=L m hn;exact⟨o,M⟩
  .exact⟨ob,k b ob hb e⟩
 .refine(I.hok b u e).stay (fun cc v hc q=>k cc v ?_ q) (fun cc q=>q) fun cc xs q=>q;rcases hc with z|z
  .rw[z];exact B b u e
  .exact B cc _ z
theorem Inv.keptF{h':Heap}{mF:Str->Option a_}(I:Inv X pz σ H s)(F:Fr X.base X.env.locals s.heap mF)(F':Fr X.base X.env.locals h' mF)(N':News X.base X.env.locals h' (mU X.base s.heap X.env.locals))(t':Nat):Inv X pz σ H { s with heap:=h',toks:=t' }:=by refine Inv.keptN I (fun b o hb e=>?_) (fun m hm=>by rw[DQ hm F.ns];exact F'.ns) t';cases z:X.base.get? b with
|some o'=>have:=I.bk b o' z;rw[e]at this;cases this;exact F'.keep b o z
|none=>exact(N' (b,o) (zj hb z e)).1
theorem Nj(hc:X.calm=true):dA X (.builtin "min") (fun xs H Q=>∃i j:Int,xs=[.int i,.int j]/\Q (.int (if j<i then j else i)) H):=by intro pz s σ H xs us Q I r h;obtain⟨i,j,rfl,q⟩:=h;cases r with
|cons r1 r=>cases r with
 |cons r2 r=>cases r;obtain⟨t,rfl⟩:=r1;obtain⟨u,rfl⟩:=r2;obtain⟨mF,F⟩:=I.fr;exact min_two_N (I.ok.hd hc) F (EB (g:=X.base) (h:=s.heap) (L:=X.env.locals)) fun h' tk F' N'=>⟨.int (if j<i then j else i),_,Inv.keptF I F F' N' tk,⟨_,rfl⟩,q⟩
end
def minD:List D->Option D
|[.int i,.int j]=>some (.int (if j<i then j else i))
|_=>none
theorem JN{K:W.Frag}:kZ K (fun xs H Q=>∃i j:Int,xs=[.int i,.int j]/\Q (.int (if j<i then j else i)) H) minD:=by
 intro G H vs ds d Q gk rs e q;unfold minD at e;split at e
 .cases e;cases rs with
 |cons r1 t=>cases t with
  |cons r2 t=>cases t;exact⟨_,_,by rw[r1.int gk,r2.int gk],q _ G H (Grow.refl gk) (.scl (.int _))⟩
 .cases e
section
variable{X:Cx}{g:GE}{m:List Md}{e a b:Expr}{es:List Expr}{fl:am->Res (List D)}{fa fb:FE}{pos p:Pos}
theorem Ix(hc:X.calm=true)(hg:Gl X "min")(hm:X.mg "min" = none)(ha:gw X g m (e::es) fl)(he:i_ (e::es) X.env=(false,eval e X.env)::i_ es X.env:=by rfl)(hpl:(backTo pos (i_ es X.env)).any (·.1)=false:=by rfl):SE X g m (.Call (.Name "min" p) (e::es) [] pos) (fC fl minD):=gR JN (nc (Nj hc) hg hm PyProof.Rows.boot_min ha (by decide) (by decide) he hpl)
end
end DL
namespace DL
open PySem PyProof.Rows L2
section
open PySem.AutoSeq1 (wpAny_loadPart')
end
end DL
namespace DL
open PySem PyProof.Rows PySem.W
section
variable{n:Nat}{c:Nat->Nat->Bool}(as:∀i j,c i j=true->c j i=false)(tr:∀i j k,c j i=false->c k j=false->c k i=false)
include tr in
include as tr in
include tr in
include as tr in
include as tr in
include as tr in
include as tr in
include as tr in
include as tr in
include as tr in
include as tr in
include as tr in
end
end DL
section
namespace DL
end DL
end
namespace DL
open PySem PySem.Spec PyProof.Rows L2
variable{X:Cx}{pz:List (Addr×Obj)}{σ:L2.St}{H:Hp}{s:f_}
theorem Pk(bs:List Bool):((t_ bs.length).all fun i=>bs.getD i true)=bs.all id:=by
 rw[Ud,Uj,Uj];constructor
 .intro h b hb;obtain⟨i,hi,rfl⟩:=List.getElem_of_mem hb;have:=h i (A_.mpr hi);simpa[z_,hi]using this
 .intro h i hi;have hi:=A_.mp hi;have:=h bs[i] (Yx _);simpa[z_,hi]using this
theorem Qz(hc:X.calm=true)(I:Inv X pz σ H s){p:Addr}{bs:List Bool}(hq:bh X.K H p (bs.map V.bl)){A:Uc}(hA:A.handled=none){E:a_->f_->Prop}{Q:a_->f_->Prop}(h:∀I fp wr n P St tr it s₂,it=Value.ref I->Walks X.prog X.w A I fp wr n P St->St 0 s₂.heap->TruthOf X.prog X.w A P tr->n=bs.length->(∀i,tr i=bs.getD i true) ->(∀(h':Heap)(tk:Nat),(∀(b:Addr)(o:Obj),¬b∈wr->s₂.heap.get? b=some o->h'.get? b=some o)->Inv X pz σ H { heap:=h',gens:=s₂.gens,drawn:=s₂.drawn,toks:=tk,os:=s₂.os })->Q it s₂):C_ (G_ X.prog X.w) A (Y1 (.ref p)) Q E s:=by
 obtain⟨its,rv,pl,hz⟩:=I.list hq;have hl:=rv.length;rw[j_]at hl;refine PySem.Flt.iter_list_ pl.isList fun s₂ e2 hi hlt hne=>?_;refine h s.heap.objs.size [s.heap.objs.size,p] [s.heap.objs.size] its.toArray.size _ _ (fun i=>bs.getD i true) _ s₂ rfl (Walks.list hA _ p hne its.toArray) hi ?_ (by rw[l_,hl]) (fun i=>rfl) fun h' tk k=>?_
 .intro i v s' Q' E' hv hq';have B:its[i]? = some v:=by simpa using hv
  have hi:i<its.length:=(k_.mp B).1;have M:i<(bs.map V.bl).length:=by rw[j_];omega
  obtain⟨u,h1,h3⟩:=rv.get (i:=i) (x:=(bs.map V.bl)[i]) (m_ M);rw[B]at h1;cases h1;rw[List.getElem_map]at h3;have U:v=Value.bool bs[i]:=h3;subst U;have e:bs.getD i true=bs[i]:=by
   have hb:i<bs.length:=by omega
   simp[z_,hb]
  have L:Q' (bs.getD i true) s':=hq';rw[e]at L;exact u_ L
 .subst e2;have ne:∀b o,s.heap.get? b=some o->¬ b∈[s.heap.objs.size]:=fun b o e z=>by have:=y_.mp z;subst this;exact absurd (w_ e) (UM _)
  exact Inv.keptN I (fun b o _ e=>k b o (ne b o e) (c_ _ e)) (fun m ⟨o,es,ep,e,z⟩=>⟨o,es,ep,k _ _ (ne _ _ e) (c_ _ e),z⟩) tk
theorem NO(hc:X.calm=true):dA X (.builtin "all") (fun xs H Q=>∃(p:Addr)(bs:List Bool),xs=[.ref p]/\bh X.K H p (bs.map V.bl)/\Q (.bl (bs.all id)) H):=by intro pz s σ H xs us Q I r h;obtain⟨p,bs,rfl,hq,q⟩:=h;obtain⟨u,rfl,rx⟩:=d6 r;cases rx;refine call_all_walk (Qz hc I hq (show X.A.in1.handled=none from I.ok.hd hc) fun J fp wr n P St tr it s₂ e1 e2 e3 e4 e5 e6 e7=>⟨J,fp,wr,n,P,St,tr,e1,e2,e3,e4,fun h' tk k=>?_⟩);have et:tr=fun i=>bs.getD i true:=funext e6;rw[e5,et,Pk];exact⟨.bl (bs.all id),H,e7 h' tk k,rfl,q⟩
def jy:List D->Option (List Bool)
|[]=>some []
|.bl b::ds=>(jy ds).map (b::·)
|_=>none
theorem K5{K:W.Frag}{G:GH}{H:Hp}(gk:aU K G H){ds:List D}{xs:List V}{bs:List Bool}(h:bx K G xs ds)(e:jy ds=some bs):xs=bs.map V.bl:=by induction h generalizing bs with
|nil=>cases e;rfl
|@cons x d xs ds r t ih=>cases d with
 |bl b=>have e':(jy ds).map (b::·)=some bs:=e;cases e1:jy ds with
  |none=>rw[e1]at e';cases e'
  |some bs'=>rw[e1]at e';cases e';rw[ih e1,L_,(RG.rb (H:=H) r).bl gk]
 |_=>cases e
def allD:List D->Option D
|[.lst ds]=>(jy ds).map fun bs=>.bl (bs.all id)
|_=>none
theorem J9{K:W.Frag}:kZ K (fun xs H Q=>∃(p:Addr)(bs:List Bool),xs=[.ref p]/\bh K H p (bs.map V.bl)/\Q (.bl (bs.all id)) H) allD:=by
 intro G H vs ds d Q gk rs e q;unfold allD at e;split at e
 .rename_i zs;cases ek:jy zs with
 |none=>rw[ek]at e;cases e
 |some bs=>rw[ek]at e;cases e;cases rs with
  |cons r1 t=>cases t;obtain⟨b,xs,rfl,s,r⟩:=r1.lst gk;have ex:=K5 gk r ek;subst ex;exact⟨b,bs,rfl,s,q _ G H (Grow.refl gk) (.scl (.bl _))⟩
 .cases e
variable{g:GE}{m:List Md}{e:Expr}{es:List Expr}{fl:am->Res (List D)}{pos p:Pos}
theorem Iw(hc:X.calm=true)(hg:Gl X "all")(hm:X.mg "all" = none)(ha:gw X g m (e::es) fl)(he:i_ (e::es) X.env=(false,eval e X.env)::i_ es X.env:=by rfl)(hpl:(backTo pos (i_ es X.env)).any (·.1)=false:=by rfl):SE X g m (.Call (.Name "all" p) (e::es) [] pos) (fC fl allD):=gR J9 (nc (NO hc) hg hm PyProof.Rows.boot_all ha (by decide) (by decide) he hpl)
def j7(h0 H:Hp):Prop:=∀a o,h0 a=some o->H a=some o
structure YieldsB(K:W.Frag)(h0:Hp)(J:It)(ds:List D)(G0:GH):Prop where
 go:∀G H (i:Nat),aR G0 G->aU K G H->j7 h0 H->i<ds.length->J.go i H
 yld:∀G H (i:Nat) x H' d,aR G0 G->aU K G H->j7 h0 H->J.yld i H x H'->ds[i]? = some d->∃G',Grow K G H G' H'/\RG K G' x d
 stop:∀G H,aR G0 G->aU K G H->j7 h0 H->J.stop ds.length H
theorem Yields.toH{K:W.Frag}{h0:Hp}{J:It}{ds:List D}{G0:GH}(y:Yields K J ds G0):YieldsB K h0 J ds G0:=⟨fun G H i w gk _ hi=>y.go G H i w gk hi,fun G H i x H' d w gk _ q e=>y.yld G H i x H' d w gk q e,fun G H w gk _=>y.stop G H w gk⟩
def Sr(X:Cx)(g:GE)(m:List Md)(f:FI):TI:=fun σ H R=>∃r G,SI X g m r G σ H/\fin (f r) (fun ds=>∀J G' H',Grow X.K G H G' H'->YieldsB X.K g.h0 J ds G'->R J H') (XW X σ G H)
def mf(X:Cx)(g:GE)(m:List Md)(tg iter:Expr)(f:FI):Prop:=PI X tg iter (Sr X g m f)
def Su(X:Cx)(g:GE)(m:List Md)(f:FE):TE:=fun σ H Q=>∃r G,SI X g m r G σ H/\fin (f r) (fun d=>∀v G' H',Grow X.K G H G' H'->Bw X.K g.h0 G' H' v d->Q v H') (XW X σ G H)
def Bz(X:Cx)(g:GE)(m:List Md)(e:Expr)(f:FE):Prop:=PE X e (Su X g m f)
variable{m' mb:List Md}{a iter:Expr}{f:FE}{pos2:Pos}{ro:Bool}{sts:List Stmt}{s1:FS}{elts:List Expr}{kk:Nat}
section
variable{tg:Expr}
theorem sR(i:Nat){x:Str}(hm:m[i]? = some .bw:=by rfl)(hN:X.N[i]? = some x:=by rfl)(hv:dz X.env.scope x:=by first|exact Or.inl rfl|exact Or.inr (Or.inl rfl)|exact Or.inr (Or.inr rfl))(hd:(x==("__debug__" : Str))=false:=by decide)(B:(x==("__classdict__" : Str))=false:=by decide):Bz X g m (.Name x pos) fun r=>eS r i:=by refine PE.imp (dM hN hv hd B) fun σ H Q ⟨r,G,si,q⟩=>?_;obtain⟨d,e,k⟩:=xJ q;obtain⟨v,e1,e2⟩:=si.bw i d e hm;exact⟨v,e1,k _ G H (Grow.refl si.gok) e2⟩
theorem DV{K:W.Frag}{h0:Hp}{G0 G:GH}{H0 H:Hp}{a:Addr}{ds:List D}(o:Own K G0 H0 a (.lst ds))(h:h0 a≠none)(o0:j7 h0 H0)(le:aR G0 G)(o1:j7 h0 H):∃xs,bh K H a xs/\bx K G xs ds:=by cases e:h0 a with
|none=>exact absurd e h
|some u=>have h1:=o0 a u e;have h2:=o1 a u e;cases o.ob with
 |lst r s=>rw[h1]at r;cases r;exact⟨_,bh.of h2,bx.mono s le⟩
theorem Ly{K:W.Frag}{h0:Hp}{ds:List D}{G0:GH}{a:Addr}(h:∀G H,aR G0 G->aU K G H->j7 h0 H->∃xs,bh K H a xs/\bx K G xs ds):YieldsB K h0 (qb K a) ds G0:=by
 refine⟨fun G H i w gk o hi=>?_,fun G H i x H' d w gk o y e=>?_,fun G H w gk o=>?_⟩
 .obtain⟨xs,s,r⟩:=h G H w gk o;have hl:=Paired.length r;exact⟨xs,xs[i],s,m_ (by omega)⟩
 .obtain⟨xs,s,r⟩:=h G H w gk o;obtain⟨rfl,y⟩:=y;obtain⟨v,e1,rv⟩:=Paired.get r e;have:=y xs s;rw[e1]at this;cases this;exact⟨G,Grow.refl gk,rv⟩
 .obtain⟨xs,s,r⟩:=h G H w gk o;exact⟨xs,s,Wc (Paired.length r)⟩
theorem SI.oldIn{r:am}{G:GH}{st:L2.St}{H:Hp}(s:SI X g m r G st H):j7 g.h0 H:=s.old
theorem CM(h:Bz X g m e f):mf X g m tg e (aL bz f):=by
 refine PI.imp (vF h) fun σ H R ⟨r,G,si,q⟩=>⟨r,G,si,ba (bg q) fun d q v G' H' w rv=>?_⟩
 obtain⟨ds,e,q⟩:=ck q;cases d with
|lst ds'=>
  cases e;rcases rv with rv|⟨a,rfl,o,ho⟩
  .obtain⟨a,xs,rfl,s,rs⟩:=rv.lst w.ok;exact .inl ⟨a,rfl,⟨xs,s⟩,q _ G' H' w (wJ rv).toH⟩
  .cases o.ob with
  |lst r s=>exact .inl ⟨a,rfl,⟨_,bh.of r⟩,q _ G' H' w (Ly fun G2 H2 le _ o2=>DV o ho (si.grow w).oldIn le o2)⟩
|tup ds'=>
  cases e;rcases rv with rv|⟨a,rfl,o,ho⟩
  .obtain⟨a,xs,rfl,s,rs⟩:=rv.tup w.ok;exact .inr ⟨a,rfl,⟨xs,s⟩,q _ G' H' w (vJ rv).toH⟩
  .cases o.ob
|_=>cases e
theorem wI{K:W.Frag}{h0:Hp}{ds:List D}{G0:GH}{sq:Hp->List V->Prop}(h:∀G H,aR G0 G->aU K G H->j7 h0 H->∃xs,sq H xs/\bx K G xs ds):YieldsB K h0 (mn sq) (cg 0 ds) G0:=by
 refine⟨fun G H i w gk o hi=>?_,fun G H i x H' d w gk o y e=>?_,fun G H w gk o=>?_⟩
 .obtain⟨xs,s,r⟩:=h G H w gk o;rw[oH]at hi;have hl:=Paired.length r;exact⟨xs,xs[i],s,m_ (by omega)⟩
 .obtain⟨xs,s,r⟩:=h G H w gk o;obtain⟨p,v,hp,rfl,rfl,hv⟩:=y;rw[xG]at e;cases ed:ds[i]? with
 |none=>rw[ed]at e;cases e
 |some d0=>rw[ed]at e;simp only[VG,WO,Xn]at e;subst e;obtain⟨v',e1,rv⟩:=Paired.get r ed;have:=hv xs s;rw[e1]at this;cases this;exact⟨_,Grow.newF gk hp (.tup (.inl bB) (.cons (.scl (.int _)) (.cons rv .nil))),.ref gD⟩
 .obtain⟨xs,s,r⟩:=h G H w gk o;rw[oH];exact⟨xs,s,Paired.length r⟩
theorem Dj(hg:Gl X "enumerate")(hm:X.mg "enumerate" = none)(he:Bz X g m e f)(hs:i_ [e] X.env=(false,eval e X.env)::i_ [] X.env:=by rfl):mf X g m (.Tuple elts kk pos2) (.Call (.Name "enumerate" p) [e] [] pos) (gY f):=by
 refine PI.imp (DZ hg hm he hs) fun σ H R ⟨r,G,si,q⟩=>⟨r,G,si,ba (bg q) fun d q v G' H' w rv=>?_⟩
 obtain⟨ds,e,q⟩:=ck (bg q);cases d with
|lst ds'=>
  cases e;rcases rv with rv|⟨a,rfl,o,ho⟩
  .obtain⟨a,xs,rfl,s,rs⟩:=rv.lst w.ok;refine .inl ⟨a,rfl,⟨xs,s⟩,q _ G' H' w (wI fun G H le gk _=>?_)⟩;obtain⟨b,ys,e,s',r'⟩:=(rv.mono le).lst gk;cases e;exact⟨ys,s',r'⟩
  .cases o.ob with
  |lst r s=>exact .inl ⟨a,rfl,⟨_,bh.of r⟩,q _ G' H' w (wI fun G2 H2 le _ o2=>DV o ho (si.grow w).oldIn le o2)⟩
|tup ds'=>
  cases e;rcases rv with rv|⟨a,rfl,o,ho⟩
  .obtain⟨a,xs,rfl,s,rs⟩:=rv.tup w.ok;refine .inr ⟨a,rfl,⟨xs,s⟩,q _ G' H' w (wI fun G H le gk _=>?_)⟩;obtain⟨b,ys,e,s',r'⟩:=(rv.mono le).tup gk;cases e;exact⟨ys,s',r'⟩
  .cases o.ob
|_=>cases e
theorem qz(hp:WA (G_ X.prog X.w) X.A X.env X.xe)(hc:X.calm=true){ft:FT}{fi:FI}(hi:mf X g m tg iter fi)(hg:SG X g m tg ft m)(hb:fG X g ro m m sts s1 m)(hs:∀x,Ut iter X.env x=pure x:=by intro _;rfl):SS X g ro mb m (.For tg iter sts [] pos) (cZ m fi ft s1) m:=by
 refine⟨rfl,PS.imp (qF hp hc hi hg.2 hb.2 hs) fun D σ H ⟨r,G,si,q⟩=>⟨r,G,si,ba (gC si rfl q) fun ds q J G0 H0 w0 Y=>?_⟩⟩;refine⟨fun i n σ H=>∃r G,SI X g m r G σ H/\aR G0 G/\i<=ds.length/\n=ds.length-i/\cj X g ro m mb G D (aD ft s1 (ds.drop i) r),⟨ds.length,r,G0,si.grow w0,aR.refl G0,Uf _,rfl,cj.gle q w0.ge⟩,?_⟩
 rintro i n σ1 H1 ⟨r1,G1,si1,le1,hi,rfl,q1⟩
 by_cases hlt:i<ds.length
 .have hd:ds.drop i=ds[i]::ds.drop (i+1):=Uz hlt;rw[hd]at q1;unfold aD at q1;refine .inr ⟨Y.go G1 H1 i le1 si1.gok si1.oldIn hlt,fun σ' H'=>∃r G,SI X g m r G σ' H'/\aR G0 G/\cj X g ro m mb G D (aD ft s1 (ds.drop (i+1)) r),fun σ' H' ⟨r',G',si',M,q'⟩=>⟨ds.length-(i+1),by omega,r',G',si',M,hlt,rfl,q'⟩,fun x H' y=>?_⟩;obtain⟨G',w',rv⟩:=Y.yld G1 H1 i x H' ds[i] le1 si1.gok si1.oldIn y (m_ hlt);have M:aR G0 G':=le1.trans w'.ge;cases U:ft ds[i] r1 with
 |none=>simp only[U]at q1;exact q1.elim
 |some r2=>simp only[U]at q1;refine⟨r1,G',ds[i],si1.grow w',rv,r2,U,fun σ2 Z=>⟨r2,G',Z,?_⟩⟩;cases eb:s1 r2 with
  |nx r'=>simp only[eb]at q1;exact fun σ3 G3 H3 B L=>⟨r',G3,L,M.trans B,cj.gle q1 (aR.trans w'.ge B)⟩
  |ct r'=>simp only[eb]at q1;exact fun σ3 G3 H3 B L=>⟨r',G3,L,M.trans B,cj.gle q1 (aR.trans w'.ge B)⟩
  |bk r'=>simp only[eb]at q1;exact fun σ3 G3 H3 B L=>q1 σ3 G3 H3 (aR.trans w'.ge B) L
  |rt d=>simp only[eb]at q1;exact q1
  |exc x r'=>simp only[eb]at q1;exact fun pz e s' σ3 G3 H3 B=>q1 pz e s' σ3 G3 H3 (aR.trans w'.ge B)
  |stuck=>simp only[eb]at q1;exact q1
 .have e:i=ds.length:=by omega
  subst e;rw[VW]at q1;exact .inl ⟨Y.stop G1 H1 le1 si1.gok si1.oldIn,q1 σ1 G1 H1 (aR.refl _) si1⟩
end
section
open HT (sIx)
section
variable{prog:E_}{w:S_}{A:Uc}{E:a_->f_->Prop}{s:f_}
theorem RM{t sl:Addr}{items:Array a_}{vl vu:a_}{lo hi:Option Int}{Q:a_->f_->Prop}(ht:X7 s.heap t items)(hs:s.heap.IsSliceOf sl vl vu .none)(pl:Xc vl lo)(pu:Xc vu hi)(hw:sIx items.size 0 lo=0/\sIx items.size items.size hi=items.size)(h:Q (.ref t) s):C_ (G_ prog w) A (Xd (.ref t) (.ref sl)) Q E s:=by
 obtain⟨os,M,B,U⟩:=id hs;have L:s.TypeIs (.ref sl) "slice" := ⟨os,M,B⟩
 unfold Xd
 try with_reducible refine Vo ?_
 first|refine b_ (u_ ?_)|skip
 refine b_ (Yd ht.typeIs (by decide) (b_ (UK (name:=UH "__getitem__") ht.typeIs Ul (U7 Ul ht.typeIs Yl ?_ (Yo _ _)))));show C_ _ _ (WG (.ref t) >>= _) _ _ s;refine b_ (Zd ht (b_ (Ye L ?_)));rw[if_pos (by decide)];refine b_ (HT.bO hs pl pu ?_);rw[hw.1,hw.2];show C_ _ _ (if (((0:Nat):Int)==0&&(1:Int)==1&&(items.size-0)==items.size)=true then _ else _) _ _ s;rw[if_pos (by simp)];show C_ _ _ (WJ (.ref t) >>= _) _ _ s;unfold WJ;refine b_ (b_ (Ye ht.typeIs (u_ ?_)));rw[if_pos (by decide)];refine b_ (X2 ?_);show C_ _ _ (ret (.ref t)) _ _ s;exact u_ ⟨_,rfl,u_ h⟩
end
def Bc(K:W.Frag):V->Option Int->Option Int->Hp->VK->Prop:=fun x lo hi H Q=>∃a xs,x=.ref a/\bU K H a xs/\(sIx xs.length 0 lo=0/\sIx xs.length xs.length hi=xs.length)/\Q (.ref a) H
theorem Oc{X:Cx}:i8 X (Bc X.K):=by
 intro pz s σ H x v vl vu lo hi sl Q I rx hs pl pu h;obtain⟨a,xs,rfl,hx,hw,q⟩:=h;cases rx;obtain⟨its,r,ht,hz⟩:=I.tuple hx;have hlen:its.toArray.size=xs.length:=by rw[l_];exact r.length.symm
 exact⟨"tuple",_,Ul.lookup,ht.typeIs,RM ht hs pl pu (by rw[hlen];exact hw) ⟨.ref a,H,I,rfl,q⟩⟩
def sV(d:D)(lo hi:Option Int):Option D:=match d with
|.tup ds=>some (.tup (cW ds lo hi))
|.lst ds=>some (.lst (cW ds lo hi))
|_=>none
def fF(fa:FE)(fl fh:FP):FE:=fun r=>(fa r).bind fun d=>(fl r).bind fun lo=>(fh r).bind fun hi=>cP (sV d lo hi)
section
variable{X:Cx}{g:GE}{m:List Md}{e:Expr}{f fa:FE}{pos p2:Pos}
theorem MU{R:V->Option Int->Option Int->Hp->Prop}{fl fh:FP}{r:am}{G:GH}{σ:L2.St}{H:Hp}{q:D->Prop}(si:SI X g m r G σ H)(h:fin (fF fa fl fh r) q (XW X σ G H))(hk:∀d lo hi v G2 H2 d',Grow X.K G H G2 H2->RB X.K G2 H2 v d->sV d lo hi=some d'->q d'->R v lo hi H2):tB X g m fa σ H fun x H1=>tP X g m fl σ H1 fun l H2=>tP X g m fh σ H2 fun u H3=>R x l u H3:=by refine⟨r,G,si,ba (bg h) fun d h1 v G1 H1 w1 r1=>⟨r,G1,si.grow w1,fm (bg h1) w1 fun lo h2 G2 H2 w2=>⟨r,G2,(si.grow w1).grow w2,?_⟩⟩⟩;refine fm (bg h2) (w1.trans w2) fun hi h3 G3 H3 w3=>?_;obtain⟨d',e,h4⟩:=ck h3;exact hk d lo hi v G3 H3 d' ((w1.trans w2).trans w3) ((r1.mono w2).mono w3) e h4
theorem Pb{α:Type}{ds:List α}{lo hi:Option Int}(h:sIx ds.length 0 lo=0/\sIx ds.length ds.length hi=ds.length):cW ds lo hi=ds:=by unfold cW;rw[h.1,h.2];simp
theorem qg{lo hi:Option Expr}{fl fh:FP}(he:SB X g m e f)(hl:nP X g m lo fl)(hu:nP X g m hi fh):SE X g m (.Subscript e (.Slice lo hi none p2) pos) (fF f fl fh):=by refine PE.imp (EE (i8.or Oc (i8.or MW LL)) he hl hu) fun σ H Q ⟨r,G,si,q⟩=>?_;refine MU si q fun d lo hi v G2 H2 d' w r1 e q2=>?_;cases d with
|tup ds=>
  cases e;rcases r1 with r1|⟨a',_,oo⟩
  .obtain⟨a,xs,rfl,s,r⟩:=r1.tup w.ok;by_cases hw:sIx ds.length 0 lo=0/\sIx ds.length ds.length hi=ds.length
   .refine .inl ⟨a,xs,rfl,s,by rw[Paired.length r];exact hw,?_⟩;rw[Pb hw]at q2;exact q2 _ G2 H2 w r1
   .rw[<-Paired.length r]at hw;refine .inr (.inr ⟨a,xs,rfl,s,hw,fun p hp=>?_⟩);exact q2 _ _ _ (w.trans (Grow.newF w.ok hp (.tup (.inl bB) (B5 r lo hi)))) (.ref gD)
  .cases oo.ob
|lst ds=>cases e;obtain⟨a,xs,rfl,s,r⟩:=r1.lst w.ok;exact .inr (.inl ⟨a,xs,rfl,s,fun p hp=>q2 _ _ _ (w.trans (Grow.newF w.ok hp (.lst (.inl bB) (B5 r lo hi)))) (.ref gD)⟩)
|_=>cases e
end
end
section
open AutoSeq1 (wpAny_loadPart')
structure ZA(zp ti to u1 u2:Addr)(f1 f2:List Addr):Prop where
 a1:ti≠zp
 a2:to≠zp
 a3:u1≠zp
 a4:u2≠zp
 a5:to≠u1
 a6:to≠u2
 a7:u1≠u2
 a8:ti≠to/\ti≠u1/\ti≠u2
 b1:zp∉f1/\to∉f1/\u2∉f1
 b2:zp∉f2/\to∉f2/\u1∉f2
theorem _root_.PySem.Draws.at'{prog:E_}{w:S_}{A:Uc}{it:Addr}{fp:List Addr}{n:Nat}{P:Nat->a_->Prop}{St:Nat->Heap->Prop}(D:XQ prog w A it fp n P St){i:Nat}{h h':Heap}{c:Addr}(st:St i h)(e:ZI c h h')(hc:c∉fp):St i h':=D.frame i h h' st fun b hb o q=>e b o (by rintro rfl;exact hc hb) q
section
variable{prog:E_}{w:S_}{A:Uc}{E:a_->f_->Prop}{s:f_}{zp ti to u1 u2:Addr}{f1 f2:List Addr}{n1 n2:Nat}{P1 P2:Nat->a_->Prop}{St1 St2:Nat->Heap->Prop}{p q:a_}
theorem Qd{i:Nat}{Q:a_->f_->Prop}(Z:ZA zp ti to u1 u2 f1 f2)(D1:XQ prog w A u1 f1 n1 P1 St1)(D2:XQ prog w A u2 f2 n2 P2 St2)(hz:WK s.heap zp ti to .none)(hi:Vr s.heap ti (.ref u1) (.ref u2))(ho:Vr s.heap to p q)(s1:St1 i s.heap)(s2:St2 i s.heap)(l1:i<n1)(l2:i<n2)(hQ:∀x y h' tk,P1 i x->P2 i y->WK h' zp ti to (Xa s.heap.objs.size)->Vr h' to x y->St1 (i+1) h'->St2 (i+1) h'->Vr h' s.heap.objs.size x y->h'.objs.size=s.heap.objs.size+1 ->(∀c o,c≠zp->c≠to->c≠u1->c≠u2->s.heap.get? c=some o->h'.get? c=some o)->Q (.ref s.heap.objs.size) { s with heap:=h',toks:=tk }):C_ (G_ prog w) A (WQ.«zip.__next__» ⟨[.ref zp],[]⟩) (fun fin s'=>∃v,fin=.done (.ret v)/\Q v s') E s:=by
 show C_ _ _ (Zc (.ref zp) 2 >>= _) _ _ _;refine b_ (UA hz rfl (x:=.bool false) rfl ?_);show C_ _ _ (Zc (.ref zp) 3 >>= _) _ _ _;refine b_ (UA hz rfl (x:=.ref ti) rfl (b_ (Va hi rfl ?_)));show C_ _ _ (UF (.ref zp) >>= _) _ _ _;refine b_ ?_;unfold UF;refine b_ (UA hz rfl (x:=.none) rfl (u_ ?_));simp only[if_true];refine b_ (X2 (b_ (UA hz rfl (x:=.ref to) rfl (b_ (Vb hz (by simp) fun g1 U k1=>?_)))));replace U:WK g1 zp ti to .ellipsis:=U;refine b_ ?_;simp only[Yy,YS,Wq,Ze];refine b_ (b_ (W2 ?_));show C_ _ _ (Um (.ref u1) >>= _) _ _ _;refine b_ (D1.item i _ _ _ l1 (D1.at' s1 k1.extBut Z.b1.1) fun x g2 t2 px st1 k2=>u_ ?_);have ho2:Vr g2 to p q:=k2.extBut _ _ Z.a5 (k1.extBut _ _ Z.a2 ho);refine b_ (Va ho2 rfl (b_ (Wl ho2 fun g3 Y k3=>?_)));replace Y:Vr g3 to x q:=Y;refine b_ (YJ (u_ ?_));refine b_ (b_ (W2 ?_));show C_ _ _ (Um (.ref u2) >>= _) _ _ _;refine b_ (D2.item i _ _ _ l2 (D2.at' (D2.at' (D2.at' s2 k1.extBut Z.b2.1) k2.extBut Z.b2.2.2) k3.extBut Z.b2.2.1) fun y g4 t4 py st2 k4=>u_ ?_);have Cl:Vr g4 to x q:=k4.extBut _ _ Z.a6 Y;refine b_ (Va Cl rfl (b_ (Wl Cl fun g5 L k5=>?_)));replace L:Vr g5 to x y:=L;refine b_ (YJ (u_ (u_ ?_)));refine b_ (Va L rfl (b_ (wpAny_newTuple ?_)));have hsz:g5.objs.size=s.heap.objs.size:=by rw[k5.1,k4.1,k3.1,k2.1,k1.1]
 have dl:WK g5 zp ti to .ellipsis:=k5.extBut _ _ Z.a2.symm (k4.extBut _ _ Z.a4.symm (k3.extBut _ _ Z.a2.symm (k2.extBut _ _ Z.a3.symm U)));have Id:St1 (i+1) g5:=D1.at' (D1.at' (D1.at' st1 k3.extBut Z.b1.2.1) k4.extBut Z.b1.2.2) k5.extBut Z.b1.2.1;have IO:St2 (i+1) g5:=D2.at' st2 k5.extBut Z.b2.2.1;have M:zp<g5.objs.size:=w_ dl;show C_ _ _ (V1 (.ref zp) (.ref g5.objs.size) >>= _) _ _ _;refine b_ ?_;unfold V1;have KK:WK (g5.push { cls:=.type "tuple",data:=.seq #[x,y] }) zp ti to .ellipsis:=c_ _ dl;refine b_ (Vb KK (by simp) fun g7 ac k7=>?_);replace ac:WK g7 zp ti to (Xa g5.objs.size):=ac;refine Vb ac (by simp) fun g8 B k8=>?_;replace B:WK g8 zp ti to (Xa g5.objs.size):=B;have up:∀c o,c≠zp->g5.get? c=some o->g8.get? c=some o:=fun c o c1 e=>k8.extBut _ _ c1 (k7.extBut _ _ c1 (c_ _ e));have BT:Vr g8 g5.objs.size x y:=k8.extBut _ _ (UO M) (k7.extBut _ _ (UO M) (r_ _ rfl));have ad:g8.objs.size=g5.objs.size+1:=by rw[k8.1,k7.1,UD]
 rw[hsz]at B BT ad;refine u_ ⟨_,rfl,?_⟩;show Q (.ref g5.objs.size) _;rw[hsz];refine hQ x y g8 _ px py B (up _ _ Z.a2 L) (D1.frame _ _ _ Id fun b hb o e=>up b o (by rintro rfl;exact Z.b1.1 hb) e) (D2.frame _ _ _ IO fun b hb o e=>up b o (by rintro rfl;exact Z.b2.1 hb) e) BT ad fun c o c1 c2 c3 c4 e=>up c o c1 ?_;exact k5.extBut _ _ c2 (k4.extBut _ _ c4 (k3.extBut _ _ c2 (k2.extBut _ _ c3 (k1.extBut _ _ c1 e))))
theorem Oj{i:Nat}{Q:Fin->f_->Prop}(Z:ZA zp ti to u1 u2 f1 f2)(D1:XQ prog w A u1 f1 n1 P1 St1)(D2:XQ prog w A u2 f2 n2 P2 St2)(hz:WK s.heap zp ti to .none)(hi:Vr s.heap ti (.ref u1) (.ref u2))(ho:Vr s.heap to p q)(s1:St1 i s.heap)(s2:St2 i s.heap)(L:i=n1\/(i<n1/\i=n2))(hE:∀h' e tk,(∀c o,c≠zp->c≠to->c≠u1->c≠u2->s.heap.get? c=some o->h'.get? c=some o)->(∃o,h'.get? e=some o/\o.cls=.type "StopIteration")->E (.ref e) { s with heap:=h',toks:=tk }):C_ (G_ prog w) A (WQ.«zip.__next__» ⟨[.ref zp],[]⟩) Q E s:=by
 show C_ _ _ (Zc (.ref zp) 2 >>= _) _ _ _;refine b_ (UA hz rfl (x:=.bool false) rfl ?_);show C_ _ _ (Zc (.ref zp) 3 >>= _) _ _ _;refine b_ (UA hz rfl (x:=.ref ti) rfl (b_ (Va hi rfl ?_)));show C_ _ _ (UF (.ref zp) >>= _) _ _ _;refine b_ ?_;unfold UF;refine b_ (UA hz rfl (x:=.none) rfl (u_ ?_));simp only[if_true];refine b_ (X2 (b_ (UA hz rfl (x:=.ref to) rfl (b_ (Vb hz (by simp) fun g1 U k1=>?_)))));replace U:WK g1 zp ti to .ellipsis:=U;refine b_ ?_;simp only[Yy,YS,Wq,Ze];refine b_ (b_ (W2 ?_));show C_ _ _ (Um (.ref u1) >>= _) _ _ _;rcases L with L|⟨hlt,L⟩
 .subst L;refine b_ (D1.done _ _ _ (D1.at' s1 k1.extBut Z.b1.1) fun g2 e k2 he=>?_);obtain⟨oe,B,M⟩:=he;have ac:WK g2 zp ti to .ellipsis:=k2 _ _ Z.a3.symm U;have Y:e≠zp:=fun x=>by subst x;rw[ac]at B;cases B;simp at M
  exact Vb ac (by simp) fun g3 _ k3=>hE g3 e _ (fun c o c1 _ c3 _ x=>k3.extBut _ _ c1 (k2 _ _ c3 (k1.extBut _ _ c1 x))) ⟨oe,k3.extBut _ _ Y B,M⟩
 .subst L;refine b_ (D1.item _ _ _ _ hlt (D1.at' s1 k1.extBut Z.b1.1) fun x g2 t2 px st1 k2=>u_ ?_);have ho2:Vr g2 to p q:=k2.extBut _ _ Z.a5 (k1.extBut _ _ Z.a2 ho);refine b_ (Va ho2 rfl (b_ (Wl ho2 fun g3 dl k3=>?_)));refine b_ (YJ (u_ ?_));refine b_ (b_ (W2 ?_));show C_ _ _ (Um (.ref u2) >>= _) _ _ _;refine b_ (D2.done _ _ _ (D2.at' (D2.at' (D2.at' s2 k1.extBut Z.b2.1) k2.extBut Z.b2.2.2) k3.extBut Z.b2.2.1) fun g4 e k4 he=>?_);obtain⟨oe,B,M⟩:=he;have ad:WK g4 zp ti to .ellipsis:=k4 _ _ Z.a4.symm (k3.extBut _ _ Z.a2.symm (k2.extBut _ _ Z.a3.symm U));have Y:e≠zp:=fun x=>by subst x;rw[ad]at B;cases B;simp at M
  exact Vb ad (by simp) fun g5 _ k5=>hE g5 e _ (fun c o c1 c2 c3 c4 x=>k5.extBut _ _ c1 (k4 _ _ c4 (k3.extBut _ _ c2 (k2.extBut _ _ c3 (k1.extBut _ _ c1 x))))) ⟨oe,k5.extBut _ _ Y B,M⟩
theorem Q8{i:Nat}{Q:Option a_->f_->Prop}(Z:ZA zp ti to u1 u2 f1 f2)(D1:XQ prog w A.in1 u1 f1 n1 P1 St1)(D2:XQ prog w A.in1 u2 f2 n2 P2 St2)(hz:WK s.heap zp ti to .none)(hi:Vr s.heap ti (.ref u1) (.ref u2))(ho:Vr s.heap to p q)(s1:St1 i s.heap)(s2:St2 i s.heap)(l1:i<n1)(l2:i<n2)(hQ:∀x y h' tk,P1 i x->P2 i y->WK h' zp ti to (Xa s.heap.objs.size)->Vr h' to x y->St1 (i+1) h'->St2 (i+1) h'->Vr h' s.heap.objs.size x y->h'.objs.size=s.heap.objs.size+1 ->(∀c o,c≠zp->c≠to->c≠u1->c≠u2->s.heap.get? c=some o->h'.get? c=some o)->Q (some (.ref s.heap.objs.size)) { s with heap:=h',toks:=tk }):C_ (G_ prog w) A (Yp (.ref zp)) Q E s:=by
 have hT:s.TypeIs (.ref zp) "zip" := ⟨_,hz,rfl⟩
 unfold Yp;exact b_ (wpAny_attempt (UK (name:=UH "__next__") hT F.slot_zip_next (U7 F.slot_zip_next hT F.entry_zip_next
   (Qd Z D1 D2 hz hi ho s1 s2 l1 l2 fun x y h' tk b1 b2 b3 b4 b5 b6 b7 b8 b9=>u_ (hQ x y h' tk b1 b2 b3 b4 b5 b6 b7 b8 b9)) (F.args_zip_next_1 _))))
theorem RT{i:Nat}{Q:Option a_->f_->Prop}(Z:ZA zp ti to u1 u2 f1 f2)(D1:XQ prog w A.in1 u1 f1 n1 P1 St1)(D2:XQ prog w A.in1 u2 f2 n2 P2 St2)(hz:WK s.heap zp ti to .none)(hi:Vr s.heap ti (.ref u1) (.ref u2))(ho:Vr s.heap to p q)(s1:St1 i s.heap)(s2:St2 i s.heap)(B:i=n1\/(i<n1/\i=n2))(hQ:∀h' tk,(∀c o,c≠zp->c≠to->c≠u1->c≠u2->s.heap.get? c=some o->h'.get? c=some o)->Q none { s with heap:=h',toks:=tk }):C_ (G_ prog w) A (Yp (.ref zp)) Q E s:=by
 have hT:s.TypeIs (.ref zp) "zip" := ⟨_,hz,rfl⟩
 unfold Yp;refine b_ (wpAny_attempt (UK (name:=UH "__next__") hT F.slot_zip_next (U7 F.slot_zip_next hT F.entry_zip_next (Oj Z D1 D2 hz hi ho s1 s2 B fun h' e tk hk he=>?_) (F.args_zip_next_1 _))));obtain⟨o,ho,hc⟩:=he;exact b_ (wpAny_isInstance (T := "StopIteration") (b:=true) ⟨o,ho,hc⟩ isSubtype_stop (u_ (hQ _ _ hk)))
end
abbrev iw(c:String)(l:Addr):Obj:={ cls:=.type c,data:=.fields #[.ref l,.int 0 0] }
abbrev rG(h:Heap)(c1 c2:String)(l1 l2:Addr):Heap:=(h.push (iw c1 l1)).push (iw c2 l2)
abbrev rF(h:Heap)(c1 c2:String)(l1 l2:Addr):Heap:=(rG h c1 c2 l1 l2).push { cls:=.type "tuple",data:=.seq #[.ref h.objs.size,.ref (h.push (iw c1 l1)).objs.size] }
abbrev m4(h:Heap)(c1 c2:String)(l1 l2:Addr):Heap:=(rF h c1 c2 l1 l2).push { cls:=.type "tuple",data:=.seq #[.none,.none] }
abbrev kz(h:Heap)(c1 c2:String)(l1 l2:Addr):Heap:=(m4 h c1 c2 l1 l2).push { cls:=.type "zip",data:=.fields #[.none,.bool false,.bool false,.ref (rG h c1 c2 l1 l2).objs.size,.ref (rF h c1 c2 l1 l2).objs.size] }
abbrev jW(t:Bool):String:=match t with
|false => "list_iterator"
|true => "tuple_iterator"
theorem BL{prog:E_}{w:S_}{A:Uc}{E:a_->f_->Prop}{s:f_}{t:Bool}{l:Addr}{xs:Array a_}{Q:a_->f_->Prop}(e:kP t l xs s.heap)(h:Q (.ref s.heap.objs.size) { s with heap:=s.heap.push (iw (jW t) l) }):C_ (G_ prog w) A (Y1 (.ref l)) Q E s:=by cases t with
|false=>exact Yi e h
|true=>exact U_ e h
theorem OM(t1 t2:Bool)(l1 l2:Addr)(xs ys:Array a_):Meets (WQ.«zip.__new__» ⟨[.type "zip",.ref l1,.ref l2],[]⟩) (fun _ R s=>kP t1 l1 xs s.heap/\kP t2 l2 ys s.heap /\R (.ok (.ret (.ref (m4 s.heap (jW t1) (jW t2) l1 l2).objs.size))) { s with heap:=kz s.heap (jW t1) (jW t2) l1 l2 }):=
 .of_wp fun prog w A R s h=>by
  obtain⟨hp,gg,dd,tk,os⟩:=s;obtain⟨q1,q2,h⟩:=h;have B:=sub_zip;have e1:kP t1 l1 xs (YI ⟨hp,gg,dd,tk,os⟩):=q1;have e2:kP t2 l2 ys (YI ⟨hp.push (iw (jW t1) l1),gg,dd,tk,os⟩):=OR q2 fun o=>c_ _
  wp_walk using BL e1,BL e2
  exact⟨_,rfl,h⟩
section
variable{prog:E_}{w:S_}{A:Uc}{E:a_->f_->Prop}{s:f_}
def p8(s:f_)(c1 c2:String)(l1 l2:Addr)(Q:a_->f_->Prop):Prop:=∀h',WK h' (s.heap.objs.size+4) (s.heap.objs.size+2) (s.heap.objs.size+3) .none->Vr h' (s.heap.objs.size+2) (.ref s.heap.objs.size) (.ref (s.heap.objs.size+1)) ->Vr h' (s.heap.objs.size+3) .none .none->h'.get? s.heap.objs.size=some (iw c1 l1)->h'.get? (s.heap.objs.size+1)=some (iw c2 l2) ->(∀c o,s.heap.get? c=some o->h'.get? c=some o)->Q (.ref (s.heap.objs.size+4)) { s with heap:=h' }
theorem Mo{c1 c2:String}{l1 l2:Addr}{Q:a_->f_->Prop}(h:p8 s c1 c2 l1 l2 Q):(∃o,(kz s.heap c1 c2 l1 l2).get? (m4 s.heap c1 c2 l1 l2).objs.size=some o/\o.cls=.type "zip")/\Q (.ref (m4 s.heap c1 c2 l1 l2).objs.size) { s with heap:=kz s.heap c1 c2 l1 l2 }:=by
 have z1:(s.heap.push (iw c1 l1)).objs.size=s.heap.objs.size+1:=UD ..;have z2:(rG s.heap c1 c2 l1 l2).objs.size=s.heap.objs.size+2:=by rw[UD,z1]
 have z3:(rF s.heap c1 c2 l1 l2).objs.size=s.heap.objs.size+3:=by rw[UD,z2]
 have z4:(m4 s.heap c1 c2 l1 l2).objs.size=s.heap.objs.size+4:=by rw[UD,z3]
 have g5:(kz s.heap c1 c2 l1 l2).get? (m4 s.heap c1 c2 l1 l2).objs.size=some _:=r_ _ rfl;have g4:(kz s.heap c1 c2 l1 l2).get? (rF s.heap c1 c2 l1 l2).objs.size=some _:=c_ _ (r_ _ rfl);have g3:(kz s.heap c1 c2 l1 l2).get? (rG s.heap c1 c2 l1 l2).objs.size=some _:=c_ _ (c_ _ (r_ _ rfl));have g2:(kz s.heap c1 c2 l1 l2).get? (s.heap.push (iw c1 l1)).objs.size=some (iw c2 l2):=c_ _ (c_ _ (c_ _ (r_ _ rfl)));have g1:(kz s.heap c1 c2 l1 l2).get? s.heap.objs.size=some (iw c1 l1):=c_ _ (c_ _ (c_ _ (c_ _ (r_ _ rfl))));rw[z2,z3,z4]at g5;rw[z1,z2]at g3;rw[z3]at g4;rw[z1]at g2;rw[z4];exact⟨⟨_,g5,rfl⟩,h _ g5 g3 g4 g1 g2 fun c o x=>c_ _ (c_ _ (c_ _ (c_ _ (c_ _ x))))⟩
end
end
theorem Dl{t:Bool}{a u:Addr}{h:Heap}(e:h.get? u=some (iw (jW t) a)):jY t a u 0 h:=by cases t <;> exact⟨_,e,rfl,rfl⟩
variable{i:Nat}
section
variable{t:Bool}{a u:Addr}{xs ys:List V}
theorem O0{h':Heap}{ch:List Addr}{t':Nat}(I:Inv X pz σ H s)(B:∀b∈ch,cX X pz H b)(k:∀b ob,b∉ch->s.heap.get? b=some ob->h'.get? b=some ob):Inv X pz σ H { s with heap:=h',toks:=t' }:=by
 have trk:∀b u,H b=some u->b∉ch:=fun b u e hb=>by rw[(B b hb).1]at e;cases e
 refine I.step (g':=s.gens) (d':=s.drawn) (ch:=ch) (fun b hb=>?_) (fun b ob _ _ hc e _=>k b ob hc e) (fun b ob _ _ hc e _=>⟨ob.slots,k b ob hc e⟩) (fun b ob hc e n=>n)
  (fun b ob hc e=>⟨ob,k b ob hc e⟩) (fun b xs e=>e) (fun b ob u e=>e) (fun b ps e=>⟨#[],by rw[e];simp⟩) (fun m hm=>?_) (fun b u e=>?_) I.bare
 .obtain⟨z0,z1,z2,z3,z4,z5⟩:=B b hb;exact⟨z3,z1,z4,z5⟩
 .obtain⟨ob,es,ep,ho,r⟩:=hm;exact⟨ob,es,ep,k _ ob (fun hb=>(B _ hb).2.1 rfl) ho,r⟩
 .refine(I.hok b u e).stay (fun c v hc q=>k c v ?_ q) (fun c q=>q) fun c xs q=>q;rcases hc with z|z
  .rw[z];exact trk b u e
  .exact trk c _ z
end
def tm(sq1 sq2:Hp->List V->Prop):It:=⟨fun i H=>∃xs ys x y,sq1 H xs/\sq2 H ys/\xs[i]? = some x/\ys[i]? = some y,fun i H x H'=>∃p v u,H p=none/\x=.ref p/\H'=aB H p (.tup [v,u])/\(∀xs,sq1 H xs->xs[i]? = some v)/\∀ys,sq2 H ys->ys[i]? = some u,fun i H=>∃xs ys,sq1 H xs/\sq2 H ys/\min xs.length ys.length=i⟩
theorem Ow{P:E_}{w:S_}{H:Hp}{h:Heap}{T:Addr}{x y:a_}{v u:V}(hT:h.get? T=some { cls:=.type "tuple",data:=.seq #[x,y] })(r1:L2.ar v x)(r2:L2.ar u y):bF P w H h T (.tup [v,u]):=⟨by show 2<=sizeLine;decide,[x,y],.cons r1 (.cons r2 .nil),⟨_,hT,rfl,0,rfl⟩,_,hT,rfl⟩
theorem Oi{P:E_}{w:S_}{K:W.Frag}{elts:List Expr}{k:Nat}{pos:Pos}{t1 t2:Bool}(a b zp ti to u1 u2:Addr)(Z:ZA zp ti to u1 u2 [u1,a] [u2,b])(h1:a≠u1)(h2:b≠u2):Turn P w K (.Tuple elts k pos) (tm (eh K t1 a) (eh K t2 b)) [zp,ti,to,u1,u2] zp (fun i h=>WK h zp ti to .none/\Vr h ti (.ref u1) (.ref u2)/\(∃p q,Vr h to p q)/\jY t1 a u1 i h/\jY t2 b u2 i h) where
 mem:=by simp
 obj:=fun i h st c hc=>by
  obtain⟨hz,hi,⟨p,q,ho⟩,s1,s2⟩:=st;simp only[n_,J_,or_false]at hc;rcases hc with rfl|rfl|rfl|rfl|rfl
  .exact⟨_,hz,fun v z=>by have z':Data.fields _=Data.cell v:=z;cases z'⟩
  .exact⟨_,hi,fun v z=>by have z':Data.seq _ _=Data.cell v:=z;cases z'⟩
  .exact⟨_,ho,fun v z=>by have z':Data.seq _ _=Data.cell v:=z;cases z'⟩
  .exact mW s1
  .exact mW s2
 keep:=fun i h h' st kk=>by obtain⟨hz,hi,⟨p,q,ho⟩,s1,s2⟩:=st;exact⟨kk zp (by simp) _ hz,kk ti (by simp) _ hi,⟨p,q,kk to (by simp) _ ho⟩,m7 s1 fun o e=>kk u1 (by simp) o e,m7 s2 fun o e=>kk u2 (by simp) o e⟩
 item:=by
  intro X hP hw hK hc i pz s σ H E I hf st hg;subst hP hw hK;obtain⟨xs,ys,x,y,q1,q2,hx,hy⟩:=hg;obtain⟨hz,hi,⟨p,q,ho⟩,s1,s2⟩:=st;obtain⟨L,St1,U,D1,d1,f1⟩:=mq I hc q1 h1 s1;obtain⟨M,St2,Y,D2,d2,f2⟩:=mq I hc q2 h2 s2;have l1:i<L.toArray.size:=by have:=(k_.mp hx).1;rw[l_,<-U.length];exact this
  have l2:i<M.toArray.size:=by have:=(k_.mp hy).1;rw[l_,<-Y.length];exact this
  refine Q8 Z D1 D2 hz hi ho d1 d2 l1 l2 fun vx vy h' tk px py IO ad Id dl hT hsz hk=>⟨_,rfl,wpAny_letOwnedTupleGo_zip IO fun ac Cl B=>?_⟩
  obtain⟨wx,e1,r1⟩:=U.get hx;obtain⟨wy,e2,r2⟩:=Y.get hy;have ex:vx=wx:=by
   have:L[i]? = some vx:=by simpa using px
   rw[e1]at this;exact(H_ this).symm
  have ey:vy=wy:=by
   have:M[i]? = some vy:=by simpa using py
   rw[e2]at this;exact(H_ this).symm
  subst ex ey;have nT:∀c o,s.heap.get? c=some o->s.heap.objs.size≠c:=fun c o e=>UO (w_ e);have BT:ac.get? s.heap.objs.size=some { cls:=.type "tuple",data:=.seq #[vx,vy] }:=(B.2 _ (nT _ _ hz)).trans hT;obtain⟨o1,KK,_⟩:=mW s1;obtain⟨o2,ho2,_⟩:=mW s2;refine⟨.ref s.heap.objs.size,aB H s.heap.objs.size (.tup [x,y]),Er (s:=s) (h':=ac) (t':=tk) (ch:=[zp,to,u1,u2]) I (fun c hc=>hf c ?_) (fun c ob hb e=>?_) (s_ _) (Ow BT r1 r2),rfl,⟨_,x,y,I.hok.fresh (s_ _),rfl,rfl,fun zs hz=>by rw[wF I hz q1];exact hx,fun zs hz=>by rw[wF I hz q2];exact hy⟩,⟨Cl,?_,⟨vx,vy,?_⟩,?_,?_⟩,fun c hc=>?_⟩
  .simp only[n_,J_,or_false]at hc ⊢;rcases hc with rfl|rfl|rfl|rfl <;> simp
  .simp only[n_,J_,or_false,not_or]at hb;exact(B.2 c hb.1).trans (hk c ob hb.1 hb.2.1 hb.2.2.1 hb.2.2.2 e)
  .exact(B.2 _ Z.a1).trans (hk _ _ Z.a1 Z.a8.1 Z.a8.2.1 Z.a8.2.2 hi)
  .exact(B.2 _ Z.a2).trans ad
  .exact m7 (f1 _ _ Id) fun o e=>(B.2 _ Z.a3).trans e
  .exact m7 (f2 _ _ dl) fun o e=>(B.2 _ Z.a4).trans e
  .rw[bf ?_]
   .exact(hf c hc).1
   .simp only[n_,J_,or_false]at hc;rcases hc with rfl|rfl|rfl|rfl|rfl
    .exact(nT _ _ hz).symm
    .exact(nT _ _ hi).symm
    .exact(nT _ _ ho).symm
    .exact(nT _ _ KK).symm
    .exact(nT _ _ ho2).symm
 done:=by
  intro X hP hw hK hc i pz s σ H E I hf st hg;subst hP hw hK;obtain⟨xs,ys,q1,q2,hm⟩:=hg;obtain⟨hz,hi,⟨p,q,ho⟩,s1,s2⟩:=st;obtain⟨L,St1,U,D1,d1,f1⟩:=mq I hc q1 h1 s1;obtain⟨M,St2,Y,D2,d2,f2⟩:=mq I hc q2 h2 s2;have l1:=U.length;have l2:=Y.length;refine RT Z D1 D2 hz hi ho d1 d2 ?_ fun h' tk hk=>⟨rfl,O0 (h':=h') (t':=tk) (ch:=[zp,to,u1,u2]) I (fun c hc=>hf c ?_) fun c ob hb e=>?_⟩
  .rw[l_,l_];omega
  .simp only[n_,J_,or_false]at hc ⊢;rcases hc with rfl|rfl|rfl|rfl <;> simp
  .simp only[n_,J_,or_false,not_or]at hb;exact hk c ob hb.1 hb.2.1 hb.2.2.1 hb.2.2.2 e
 self:=fun _ _ _ _ _ st h=>Yz st.1 h
def gq(fa fb:FE):FI:=fun r=>(fa r).bind fun d=>(fb r).bind fun e=>(cP (bz d)).bind fun ds=>(cP (bz e)).bind fun es=>.ok (VV (fun a b=>D.tup [a,b]) ds es)
theorem Ol{α β γ:Type}(f:α->β->γ):∀(l:List α)(r:List β)(i:Nat),(VV f l r)[i]? = (match l[i]?,r[i]? with|some a,some b=>some (f a b)|_,_=>none):=fun l r i=>by rw[Xt];cases l[i]? <;> cases r[i]? <;> rfl
theorem LA{K:W.Frag}{ds es:List D}{G0:GH}{sq1 sq2:Hp->List V->Prop}(h1:∀G H,aR G0 G->aU K G H->∃xs,sq1 H xs/\bx K G xs ds)(h2:∀G H,aR G0 G->aU K G H->∃xs,sq2 H xs/\bx K G xs es):Yields K (tm sq1 sq2) (VV (fun a b=>D.tup [a,b]) ds es) G0:=by
 refine⟨fun G H i w gk hi=>?_,fun G H i x H' d w gk y e=>?_,fun G H w gk=>?_⟩
 .obtain⟨xs,s1,r1⟩:=h1 G H w gk;obtain⟨ys,s2,r2⟩:=h2 G H w gk;rw[Wu]at hi;have l1:=Paired.length r1;have l2:=Paired.length r2;exact⟨xs,ys,xs[i]'(by omega),ys[i]'(by omega),s1,s2,m_ _,m_ _⟩
 .obtain⟨xs,s1,r1⟩:=h1 G H w gk;obtain⟨ys,s2,r2⟩:=h2 G H w gk;obtain⟨p,v,u,hp,rfl,rfl,hv,hu⟩:=y;rw[Ol]at e;cases e1:ds[i]? with
 |none=>rw[e1]at e;cases e
 |some d1=>cases e2:es[i]? with
  |none=>rw[e1,e2]at e;cases e
  |some d2=>rw[e1,e2]at e;cases e;obtain⟨v',z1,rv⟩:=Paired.get r1 e1;obtain⟨u',z2,ru⟩:=Paired.get r2 e2;have a1:=hv xs s1;have a2:=hu ys s2;rw[z1]at a1;cases a1;rw[z2]at a2;cases a2;exact⟨_,Grow.newF gk hp (.tup (.inl bB) (.cons rv (.cons ru .nil))),.ref gD⟩
 .obtain⟨xs,s1,r1⟩:=h1 G H w gk;obtain⟨ys,s2,r2⟩:=h2 G H w gk;refine⟨xs,ys,s1,s2,?_⟩;rw[Wu,Paired.length r1,Paired.length r2]
variable{fa fb:FE}
section
variable{e1 e2:Expr}
theorem K7{pz:List (Addr×Obj)}{σ:L2.St}{H:Hp}{s:f_}{t1 t2:Bool}{a b:Addr}{xs ys:List V}{E:a_->f_->Prop}{Q:a_->f_->Prop}(I:Inv X pz σ H s)(q1:eh X.K t1 a H xs)(q2:eh X.K t2 b H ys)(h:p8 s (jW t1) (jW t2) a b Q):C_ (G_ X.prog X.w) X.A (call (.type "zip") [.ref a,.ref b]) Q E s:=by obtain⟨B,_,p1⟩:=qE I q1;obtain⟨L,_,p2⟩:=qE I q2;exact callType_new F.called_zip (by decide) (F.typeCall_zip_2 _ _) (F.newCall_zip_2 _ _) (fun obj=>F.args_object_init_3 obj _ _) F.entry_zip_new (OM t1 t2 a b B.toArray L.toArray) ⟨p1,p2,Mo h⟩
theorem jj{x y:Nat}(h:x≠y):(show Addr from x)≠(show Addr from y):=h
theorem mY{x u a:Nat}(h1:x≠u)(h2:x≠a):(show Addr from x)∉[(show Addr from u),(show Addr from a)]:=fun h=>by
 rcases n_.mp h with h|h
 .exact h1 h
 .exact h2 (y_.mp h)
theorem LB{a b k:Nat}(la:a<k)(lb:b<k):ZA (show Addr from k+4) (show Addr from k+2) (show Addr from k+3) (show Addr from k) (show Addr from k+1) [(show Addr from k),(show Addr from a)] [(show Addr from k+1),(show Addr from b)]:=⟨jj (by omega),jj (by omega),jj (by omega),jj (by omega),jj (by omega),jj (by omega),jj (by omega),⟨jj (by omega),jj (by omega),jj (by omega)⟩,⟨mY (by omega) (by omega),mY (by omega) (by omega),mY (by omega) (by omega)⟩,⟨mY (by omega) (by omega),mY (by omega) (by omega),mY (by omega) (by omega)⟩⟩
theorem J0{c k:Nat}(h:c=k+4\/c=k+2\/c=k+3\/c=k\/c=k+1):k<=c:=by omega
theorem KN{ta tb:TE}(hg:Gl X "zip")(hm:X.mg "zip" = none)(ha:PE X e1 ta)(hb:PE X e2 tb)(hs:i_ [e1,e2] X.env=(false,eval e1 X.env)::i_ [e2] X.env:=by rfl)(M:i_ [e2] X.env=(false,eval e2 X.env)::i_ [] X.env:=by rfl)(hpl:(backTo pos (i_ [e2] X.env)).any (·.1)=false:=by rfl):PI X (.Tuple elts kk pos2) (.Call (.Name "zip" p) [e1,e2] [] pos) (fun σ H R=>ta σ H fun x H1=>tb σ H1 fun y H2=>∃(t1 t2:Bool)(a b:Addr),x=.ref a/\y=.ref b/\(∃xs,eh X.K t1 a H2 xs)/\(∃ys,eh X.K t2 b H2 ys)/\R (tm (eh X.K t1 a) (eh X.K t2 b)) H2):=by
 intro pz s σ H R I h;refine Call_ (lu I hg hm boot_zip (UL (aO (ff ha (ff hb iN M) hs pos pz s σ H (fun vs H2=>match vs with
 |[x,y]=>∃(t1 t2:Bool)(a b:Addr),x=.ref a/\y=.ref b/\(∃xs,eh X.K t1 a H2 xs)/\(∃ys,eh X.K t2 b H2 ys)/\R (tm (eh X.K t1 a) (eh X.K t2 b)) H2
 |_=>False) I h) fun us s1 ⟨vs,H1,I1,r1,q1⟩=>?_) hs hpl))
 cases r1 with
|nil=>exact q1.elim
|@cons x u xs us rx rt=>cases rt with
|nil=>exact q1.elim
|@cons y u' xs' us' ry L=>cases L with
|cons _ _=>exact q1.elim
|nil=>
 obtain⟨t1,t2,a,b,rfl,rfl,⟨zs,z1⟩,⟨ws,z2⟩,q⟩:=q1;cases rx;cases ry;have la:=nh I1 z1;have lb:=nh I1 z2;refine K7 I1 z1 z2 fun h' hz hi ho o1 o2 kp=>Yz hz ?_;refine⟨_,[s1.heap.objs.size+4,s1.heap.objs.size+2,s1.heap.objs.size+3,s1.heap.objs.size,s1.heap.objs.size+1],_,_,H1,rfl,I1.kept (t':=s1.toks) kp,Oi (t1:=t1) (t2:=t2) a b _ _ _ _ _ (LB la lb) (M_ la) (M_ (U0 lb)),⟨hz,hi,⟨_,_,ho⟩,Dl o1,Dl o2⟩,fun c hc=>?_,q⟩;have B:s1.heap.objs.size<=c:=by simp only[n_,J_,or_false]at hc;exact J0 hc
 exact I1.fpOk B (I1.hok.fresh B)
theorem tM(hg:Gl X "zip")(hm:X.mg "zip" = none)(ha:SE X g m e1 fa)(hb:SE X g m e2 fb)(hs:i_ [e1,e2] X.env=(false,eval e1 X.env)::i_ [e2] X.env:=by rfl)(L:i_ [e2] X.env=(false,eval e2 X.env)::i_ [] X.env:=by rfl)(hpl:(backTo pos (i_ [e2] X.env)).any (·.1)=false:=by rfl):iC X g m (.Tuple elts kk pos2) (.Call (.Name "zip" p) [e1,e2] [] pos) (gq fa fb):=by
 refine PI.imp (KN hg hm ha hb hs L hpl) fun σ H R ⟨r,G,si,q⟩=>⟨r,G,si,ba (bg q) fun d q v G1 H1 w1 rv=>⟨r,G1,si.grow w1,?_⟩⟩
 refine fm (bg q) w1 fun e q u G2 H2 w2 ru=>?_;obtain⟨ds,ed,q⟩:=ck (bg q);obtain⟨es,ee,q⟩:=ck (bg q);have B:=rv.mono w2.ge;have one:∀{v:V}{d:D}{ds:List D},RG X.K G2 v d->bz d=some ds->∃(t:Bool)(a:Addr),v=.ref a/\(∃xs,eh X.K t a H2 xs)/\∀G H,aR G2 G->aU X.K G H->∃xs,eh X.K t a H xs/\bx X.K G xs ds:=by intro v d ds rv ed;cases d with
 |lst ds'=>cases ed;obtain⟨a,xs,rfl,s,rs⟩:=rv.lst w2.ok;refine⟨false,a,rfl,⟨xs,s⟩,fun G H le gk=>?_⟩;obtain⟨b,ys,e,s',r'⟩:=(rv.mono le).lst gk;cases e;exact⟨ys,s',r'⟩
 |tup ds'=>cases ed;obtain⟨a,xs,rfl,s,rs⟩:=rv.tup w2.ok;refine⟨true,a,rfl,⟨xs,s⟩,fun G H le gk=>?_⟩;obtain⟨b,ys,e,s',r'⟩:=(rv.mono le).tup gk;cases e;exact⟨ys,s',r'⟩
 |_=>cases ed
 obtain⟨t1,a,rfl,x1,y1⟩:=one B ed;obtain⟨t2,b,rfl,x2,y2⟩:=one ru ee;exact⟨t1,t2,a,b,rfl,rfl,x1,x2,q _ G2 H2 (w1.trans w2) (LA y1 y2)⟩
end
def BC:Nat:=2^2000
def BF(i j:Int):Prop:=i.natAbs<BC/\j.natAbs<BC
def BE(_i j:Int):Prop:=0<j/\j.natAbs<BC
instance decMulW(i j:Int):Decidable (BF i j):=by unfold BF;infer_instance
instance decDivW(i j:Int):Decidable (BE i j):=by unfold BE;infer_instance
variable{b c:Expr}{apos cpos:Pos}
section
variable{o:Expr}{fc fo:FE}
theorem DO{x:Str}{i:Int}(hg:Gl X x)(hk:∃t,X.mg x=some (.int i t))(hd:(x==("__debug__" : Str))=false:=by decide):SE X g m (.Name x pos) fun _=>.ok (.int i):=by obtain⟨t,hm⟩:=hk;exact C7 (v:=.int i) hg hm ⟨t,rfl⟩ (.int i) hd
theorem AS{K:W.Frag}{h:Heap}{mg:Str->Option a_}{x:Str}(KX:K.In h)(G:h.Ns Ub mg){i:Int}{t:Tok}(z:W.nsIn K Ub x=some (some (.int i t))):∃t,mg x=some (.int i t):=⟨t,W.mg_of KX G z⟩
theorem BI{K:W.Frag}{h:Heap}{mg:Str->Option a_}{x:Str}(KX:K.In h)(G:h.Ns Ub mg){a:Addr}{i j:Int}{t u:Tok}{n:Nat}{sl:Array (Option a_)}(z:W.nsIn K Ub x=some (some (.ref a)))(l:K.lookup a=some ⟨.type "tuple",none,.seq #[.int i t,.int j u] n,sl⟩):∃a,mg x=some (.ref a)/\KC K a (.tup [.int i,.int j]):=by refine⟨a,W.mg_of KX G z,.tup (xs:=[.int i,.int j]) (.inr ⟨_,_,_,l,rfl,rfl,?_,.cons ⟨_,rfl⟩ (.cons ⟨_,rfl⟩ .nil)⟩) (.cons (.int _) (.cons (.int _) .nil)) ⟨_,l,rfl,rfl⟩⟩;show 2<=sizeLine;rw[N_];decide
end
variable{m1:List Md}
section
variable{tg:Expr}{p:FQ}{pos':Pos}
def iV:D->D->Option D
|.lst ds,.int k=>if-(2^62)<=k/\k<2^62/\ds.length*k.toNat<=sizeLine then some (.lst ((q_ k.toNat ds).flatten))else none
|_,_=>none
theorem Ce{K:W.Frag}{G:GH}{xs:List V}{ds:List D}(r:bx K G xs ds):∀n:Nat,bx K G (q_ n xs).flatten (q_ n ds).flatten
|0=>.nil
|n+1=>by rw[Us,Us,UB,UB];exact DL.Paired.app r (Ce r n)
theorem Jg(ha:SO X g m a fa)(hb:SB X g m b fb):SO X g m (.BinOp a .Mult b pos) (f2 fa fb iV):=by
 refine PE.imp (Ck Kv ha hb) fun σ H Q ⟨r,G,si,q⟩=>⟨r,G,si,ba (bg q) fun d1 q1 p1 G1 H1 w1 B o1=>⟨r,G1,si.grow w1,fm (bg q1) w1 fun d2 q2 v2 G2 H2 w2 r2=>?_⟩⟩
 obtain⟨d,e,q3⟩:=ck q2;have o2:=o1.mono w2;unfold iV at e;split at e
 .split at e
  .rename_i ds k hk;cases e;cases o2.ob with
  |@lst xs _ hx rs=>have hl:=Paired.length rs;refine⟨p1,k,xs,rfl,r2.int w2.ok,hx,by omega,by omega,by rw[hl];exact hk.2.2,fun p hp=>?_⟩;have w3:=Grow.new w2.ok hp (.lst (q_ k.toNat xs).flatten);refine q3 p G2 _ ((w1.trans w2).trans w3) ?_ ⟨w2.ok.isN hp,.lst bB (Ce rs _)⟩;cases e:H p with
   |none=>rfl
   |some o=>rw[(w1.trans w2).he _ _ e]at hp;cases hp
  .cases e
 .cases e
end
def cY(g:GE)(H:Hp)(fp:List Addr)(i:Nat)(p:Addr):GE:=⟨g.gh,fun b=>if b∈fp then H b else g.h0 b,fun j=>if j=i then some (some (V.ref p),none)else g.hd j⟩
theorem Nu{g:GE}{H H':Hp}{fp:List Addr}{i:Nat}{p:Addr}(h:∀b∈fp,H' b=H b):cY g H' fp i p=cY g H fp i p:=by
 unfold cY;congr 1;funext b;by_cases hb:b∈fp
 .rw[if_pos hb,if_pos hb,h b hb]
 .rw[if_neg hb,if_neg hb]
variable{r r':am}{G G':GH}{σ':L2.St}{H':Hp}
section
variable{w:List (List D)}
abbrev Sy:=am->List (List D)->Option (am×List (List D))
variable{st:Stmt}{f1 f2:Sy}{tg:Expr}
end
def nV:List D->Option D
|[.bl b]=>some (.int (if b then 1 else 0))
|_=>none
theorem O3{X:Cx}:dA X (.type "int") (fun xs H Q=>∃b:Bool,xs=[.bl b]/\Q (.int (if b then 1 else 0)) H):=by intro pz s σ H xs us Q I r h;obtain⟨b,rfl,q⟩:=h;obtain⟨u,rfl,rx⟩:=d6 r;cases rx;exact call_int_bool ⟨.int (if b then 1 else 0),H,I.tok _,⟨_,rfl⟩,q⟩
theorem ME{K:W.Frag}:kZ K (fun xs H Q=>∃b:Bool,xs=[.bl b]/\Q (.int (if b then 1 else 0)) H) nV:=by
 intro G H vs ds d Q gk rs e q;unfold nV at e;split at e
 .cases e;cases rs with
 |cons r1 t=>cases t;exact⟨_,by rw[r1.bl gk],q _ G H (Grow.refl gk) (.scl (.int _))⟩
 .cases e
theorem Ko{X:Cx}{g:GE}{m:List Md}{e:Expr}{es:List Expr}{fl:am->Res (List D)}{pos p:Pos}(hg:Gl X "int")(hm:X.mg "int" = none)(ha:gw X g m (e::es) fl)(he:i_ (e::es) X.env=(false,eval e X.env)::i_ es X.env:=by rfl)(hpl:(backTo pos (i_ es X.env)).any (·.1)=false:=by rfl):SE X g m (.Call (.Name "int" p) (e::es) [] pos) (fC fl nV):=gR ME (kJ O3 hg hm rfl ha (by decide) (by decide) he hpl)
abbrev FW:=am->Res D
section
variable{ms:List Md}{q:FQ}{st:Stmt}{sts1:List Stmt}{F:List D->Res D}{k:Nat}{ps:List Str}{p1 p2 p3 p4:Pos}{x y:Str}{d1:D}{ds:List D}
abbrev F3:=am->D->List D->Option am
end
end DL
section
namespace DL
section
open PySem PyProof.Rows PySem.W PySem.Calls
variable{prog:E_}{w:S_}{A:Uc}{E:a_->f_->Prop}{s:f_}{l:Addr}{vs:List a_}{ns:List Int}
end
open PySem PySem.Spec PyProof.Rows L2
end DL
end
section
namespace DL
section
open PySem PyProof.Rows
variable{prog:E_}{w:S_}{A:Uc}{R:Y4->f_->Prop}{I S:Addr}{fp wr:List Addr}{n:Nat}{P:Nat->a_->Prop}{St:Nat->Heap->Prop}{TP:Heap->Prop}{bt:Nat->Nat->Bool}
end
end DL
end
namespace DL
open PySem PySem.Spec PyProof.Rows L2
end DL
namespace DL
open PySem PySem.Spec PyProof.Rows L2 PySem.W PySem.Calls
def nQ(f:FS):Prop:=∀r r',f r≠.nx r'
theorem DP{m:List Md}{f:FE}:nQ (retF m f):=by intro r r' h;unfold retF onE at h;cases e:f r with
|ok d=>rw[e]at h;cases h
|exc x=>rw[e]at h;cases h
|stuck=>rw[e]at h;cases h
theorem EA{s1 s2:FS}(h:nQ s1):nQ (seqF s1 s2):=by intro r r' e;unfold seqF at e;cases e1:s1 r with
|nx r1=>exact h r r1 e1
|rt d=>rw[e1]at e;cases e
|bk _=>rw[e1]at e;cases e
|ct _=>rw[e1]at e;cases e
|exc _ _=>rw[e1]at e;cases e
|stuck=>rw[e1]at e;cases e
theorem oJ{s1 s2:FS}(h:nQ s2):nQ (seqF s1 s2):=by intro r r' e;unfold seqF at e;cases e1:s1 r with
|nx r1=>rw[e1]at e;exact h r1 r' e
|rt d=>rw[e1]at e;cases e
|bk _=>rw[e1]at e;cases e
|ct _=>rw[e1]at e;cases e
|exc _ _=>rw[e1]at e;cases e
|stuck=>rw[e1]at e;cases e
section
variable{X:Cx}{g:GE}{ro:Bool}{m m1 m2 mb:List Md}{sts:List Stmt}{f:FS}
theorem Ea(h:fG X g ro mb m sts f m1)(hn:nQ f)(hl:m2.length=m.length):fG X g ro mb m sts f m2:=by
 have ha:eB m2=eB m1:=by have e:m2.length=m1.length:=hl.trans h.1.symm;unfold eB;rw[V6,V6,e]
 refine⟨hl,bW.imp h.2 fun D σ H ⟨r,G,si,q⟩=>⟨r,G,si,?_⟩⟩;cases e:f r with
|nx r'=>exact absurd e (hn r r')
|bk r'=>rw[e]at q;exact q
|ct r'=>rw[e]at q;exact q
|rt d=>rw[e]at q;exact q
|exc x r'=>rw[e]at q;unfold cj at q ⊢;rw[ha]at q;exact q
|stuck=>rw[e]at q;exact q
end
theorem XN.uniq{K:W.Frag}{nm:Str}{C c:Addr}(h:XN K nm C)(k:(K.all fun e=>match e.2.data with|.cls cd=>cd.name != nm || e.1==c|_=>true)=true):C=c:=by
 obtain⟨o,cd,h1,h2,h3⟩:=h;have hm:(C,o)∈(K:List (Addr×Obj)):=by
  have key:∀l:List (Addr×Obj),l.lookup C=some o->(C,o)∈l:=by
   intro l
   induction l with
  |nil=>intro h;cases h
  |cons q l ih=>
    intro h;rw[Up]at h;split at h
    .rename_i hb;have:=UT hb;cases h;rw[this];exact e_
    .exact h_ _ (ih h)
  exact key K h1
 have:=Uj.mp k _ hm;simp only[h2]at this;rw[h3]at this;simpa using this
end DL
namespace DL
open PySem PySem.Spec PyProof.Rows L2
theorem gy.get{K:W.Frag}{G:GH}{fs:List (Str×V)}{ds:List (Str×D)}{d:D}{f:Str}(h:gy K G fs ds)(l:ds.lookup f=some d):∃v,fs.lookup f=some v/\RG K G v d:=by induction h with
|nil=>cases l
|@cons p q fs ds r _ ih=>
  obtain⟨a,v⟩:=p;obtain⟨b,d'⟩:=q;obtain⟨r1,r2⟩:=r;have r1:a=b:=r1;subst r1;rw[Up]at l ⊢;split at l
  .cases l;exact⟨v,rfl,r2⟩
  .exact ih l
theorem RB.ins{K:W.Frag}{G:GH}{H:Hp}{v:V}{k:Str}{nm:Str}{ds:List (Str×D)}(gk:aU K G H)(h:RB K G H v (.obj 2 ((k,.str nm)::ds))):∃a C dx fs,v=.ref a/\H a=some (.ins C dx fs)/\XN K nm C/\gy K G fs ds/\RG K G v (.obj 2 ((k,.str nm)::ds)):=by
 rcases h with h|⟨a,rfl,h⟩
 .cases h with
 |scl s=>cases s
 |@ref a _ e=>have e':=e;cases gk _ _ e with
  |ins r n f=>exact⟨_,_,_,_,rfl,r,n,f,.ref e'⟩
 |kc k=>cases k
 .cases h.ob
def bX(K:W.Frag)(f:Str)(hit:Str->Bool):Prop:=∀nm C,hit nm=true->XN K nm C->Cls K C/\eZ K C f
def bQ(hit:Str->Bool)(f:Str):D->Option D
|.obj 2 ((_,.str nm)::ds)=>if hit nm=true then ds.lookup f else none
|_=>none
variable{X:Cx}{g:GE}{m:List Md}{e:Expr}{es:List Expr}{fl:am->Res (List D)}{fe:FE}{f nm:Str}{C:Addr}{p pos:Pos}
section
variable{ro:Bool}{mb:List Md}{a o:Expr}{fo:FE}{x mt:Str}{p2 np apos:Pos}{hit:Str->Bool}
theorem gK(hx:bX X.K f hit)(he:SB X g m e fe)(hb:Uo e f X.env (eval e X.env)=eval e X.env:=by rfl):SE X g m (.Attribute e f pos) (f1 fe (bQ hit f)):=by
 refine PE.imp (mT he hb) fun σ H Q ⟨r,G,si,q⟩=>⟨r,G,si,ba (bg q) fun d q1 v G1 H1 w1 r1=>?_⟩
 obtain⟨d',e',q2⟩:=ck q1;unfold bQ at e';split at e'
 .rename_i k nm ds;split at e'
  .rename_i hh;obtain⟨a,C,dx,fs,rfl,ha,xn,rf,_⟩:=RB.ins w1.ok r1;obtain⟨cl,na⟩:=hx nm C hh xn;obtain⟨v',l,rv⟩:=rf.get e';exact⟨a,C,dx,fs,v',rfl,ha,cl,na,l,q2 v' G1 H1 w1 rv⟩
  .cases e'
 .cases e'
end
structure MethAt(K:W.Frag)(nm mt qual:Str)(st:Stmt):Prop where
 ex:∃C f fd,(∀C',XN K nm C'->C'=C)/\Cls K C/\Meth K C mt f/\Fun K mt qual st f fd
def mL(f:Str)(v:D):List (Str×D)->List (Str×D)
|[]=>[(f,v)]
|(g,x)::r=>if g=f then(g,v)::r else(g,x)::mL f v r
theorem gy.put{K:W.Frag}{G:GH}{f:Str}{y:V}{d:D}(r:RG K G y d){fs:List (Str×V)}{ds:List (Str×D)}(h:gy K G fs ds):gy K G (L2.putF f y fs) (mL f d ds):=by induction h with
|nil=>exact .cons ⟨rfl,r⟩ .nil
|@cons p q fs ds r0 t ih=>
  obtain⟨a,v⟩:=p;obtain⟨b,d'⟩:=q;have r1:a=b:=r0.1;subst r1;show gy K G (if a=f then(a,y)::fs else(a,v)::L2.putF f y fs) (if a=f then(a,d)::ds else(a,d')::mL f d ds);by_cases z:a=f
  .rw[if_pos z,if_pos z];exact .cons ⟨rfl,r⟩ t
  .rw[if_neg z,if_neg z];exact .cons r0 ih
theorem gy.mono{K:W.Frag}{G G':GH}{fs:List (Str×V)}{ds:List (Str×D)}(h:gy K G fs ds)(ge:∀a d,G a=some d->G' a=some d):gy K G' fs ds:=Paired.mono (fun _ _ r=>⟨r.1,r.2.mono ge⟩) h
theorem gy.len{K:W.Frag}{G:GH}{fs:List (Str×V)}{ds:List (Str×D)}(h:gy K G fs ds):fs.length=ds.length:=by induction h with
|nil=>rfl
|cons _ _ ih=>rw[x_,x_,ih]
section
variable{r:am}{G G':GH}{σ:L2.St}{H H':Hp}{x dx:Addr}{fs fs':List (Str×V)}
theorem SI.ins(s:SI X g m r G σ H)(e:H x=some (.ins C dx fs))(hg:g.h0 x=none)(hG:G x=none):SI X g m r G σ (aB H x (.ins C dx fs')):=by
 have ne:∀b d,G b=some d->b≠x:=fun b d h z=>by subst z;rw[hG]at h;cases h
 have own:∀{b:Addr}{d:D},Own X.K G H b d->b≠x:=fun{b d} o z=>by subst z;cases o.ob with
 |lst r _=>rw[e]at r;cases r
 |dic r _=>rw[e]at r;cases r
 have ow:∀{b:Addr}{d:D},Own X.K G H b d->Own X.K G (aB H x (.ins C dx fs')) b d:=fun{b d} o=>⟨o.un,o.ob.mono (fun _ _ z=>z) fun u hu=>by rw[bf (own o)];exact hu⟩
 refine⟨fun b d h=>(s.gok b d h).mono (fun _ _ z=>z) fun u hu=>by rw[bf (ne b d h)];exact hu,fun b u h=>?_,s.ge,s.gf,s.lm,s.lr,s.sh,fun i d h1 h2=>?_,fun i d h1 h2=>?_,s.dis,s.lk⟩
 .rw[bf (fun z=>by subst z;rw[hg]at h;cases h)];exact s.old b u h
 .obtain⟨a,q1,q2,q3⟩:=s.ow i d h1 h2;exact⟨a,q1,ow q2,q3⟩
 .obtain⟨v,q1,q2⟩:=s.bw i d h1 h2;refine⟨v,q1,?_⟩;rcases q2 with q2|⟨a,rfl,q2,q3⟩
  .exact .inl q2
  .exact .inr ⟨a,rfl,ow q2,q3⟩
end
abbrev FN:=am->List (Str×D)->Res (List (Str×D))
structure NI(X:Cx)(g:GE)(m:List Md)(x C dx:Addr)(r:am)(ds:List (Str×D))(G:GH)(σ:L2.St)(H:Hp):Prop where
 si:SI X g m r G σ H
 me:σ[0]? = some (some (V.ref x))
 ob:∃fs,H x=some (.ins C dx fs)/\gy X.K G fs ds
 od:H dx=some (.own x)
 gx:G x=none
 hx:g.h0 x=none
 hd:g.h0 dx=none
def Bk(X:Cx)(g:GE)(m:List Md)(x C dx:Addr)(r:am)(G:GH)(σ:L2.St)(E:Ends):Res (List (Str×D))->Prop
|.ok ds=>∀G' H',aR G G'->NI X g m x C dx r ds G' σ H'->E.nx σ H'
|_=>False
def tN(X:Cx)(g:GE)(m:List Md)(C:Addr)(f:FN):TS:=fun D σ H=>∃r ds G x dx,NI X g m x C dx r ds G σ H/\Bk X g m x C dx r G σ D (f r ds)
def p5(X:Cx)(g:GE)(m:List Md)(C:Addr)(st:List Stmt)(f:FN):Prop:=bW X st (tN X g m C f)
def Io{α:Type}(x:Res α)(k:α->Res (List (Str×D))):Res (List (Str×D)):=match x with
|.ok a=>k a
|_=>.stuck
section
variable{x0:Str}{pos':Pos}{sts:List Stmt}{s2:FN}
theorem Jb:p5 X g m C [] fun _ ds=>.ok ds:=bW.imp kF fun D σ H ⟨r,ds,G,x,dx,ni,q⟩=>q G H (aR.refl G) ni
def jZ(f:Str)(fe:FE)(s2:FN):FN:=fun r ds=>Io (fe r) fun d=>if ds.length<900 then s2 r (mL f d ds)else .stuck
theorem LU{α:Type}{x:Res α}{k:α->Res (List (Str×DL.D))}{D:Ends}{r:am}{a dx:Addr}{G:GH}{σ:L2.St}{Z:DL.D->Prop}(h:Bk X g m a C dx r G σ D (Io x k)):fin x (fun y=>Bk X g m a C dx r G σ D (k y)) Z:=by cases x with
|ok a=>exact h
|exc e=>exact(show False from h).elim
|stuck=>exact h
theorem vD(cl:Cls X.K C)(na:eZ X.K C f)(hN:X.N[0]? = some x0)(hv:dz X.env.scope x0)(he:SE X g m e fe)(h2:p5 X g m C sts s2)(hd:(x0==("__debug__" : Str))=false:=by decide)(L:(x0==("__classdict__" : Str))=false:=by decide)(hs:Uw e (some (.Attribute (.Name x0 p) f pos')) pos.line X.env=pure false:=by rfl):p5 X g m C (.Assign [.Attribute (.Name x0 p) f pos'] e pos::sts) (jZ f fe s2):=by
 refine bW.imp (jL (og (dM hN hv hd L) he hs) h2) fun D σ H ⟨r,ds,G,x,dx,ni,q⟩=>⟨r,G,ni.si,ba (LU q) fun d q1 v G1 H1 w1 r1=>?_⟩
 split at q1
 .rename_i hl;obtain⟨fs,hx,rf⟩:=ni.ob;have B:=w1.he _ _ hx;refine⟨_,ni.me,x,C,dx,fs,rfl,B,cl,na,by rw[rf.len];omega,r,mL f d ds,G1,x,dx,⟨(ni.si.grow w1).ins B ni.hx ?_,ni.me,⟨_,bB,(rf.mono w1.ge).put r1⟩,?_,?_,ni.hx,ni.hd⟩,?_⟩
  .rw[w1.gf x (by rw[hx];simp)];exact ni.gx
  .rw[bf (fun z=>by have h1:=w1.he _ _ ni.od;rw[z,B]at h1;cases h1)];exact w1.he _ _ ni.od
  .rw[w1.gf x (by rw[hx];simp)];exact ni.gx
  .cases ez:s2 r (mL f d ds)with
  |ok zs=>rw[ez]at q1;exact fun G' H' le n'=>q1 G' H' (aR.trans w1.ge le) n'
  |exc e=>rw[ez]at q1;exact q1
  |stuck=>rw[ez]at q1;exact q1
 .exact(show False from q1).elim
end
abbrev qc:=List D->Res (List (Str×D))
def lS(K:W.Frag)(C:Addr)(nm:Str)(ms:List Md)(F:qc):Sp:=fun vs H Q _=>∃G H1 x dx us ds,H=aB (aB H1 dx (.own x)) x (.ins C dx [])/\H1 x=none/\H1 dx=none/\dx≠x/\vs=.ref x::us/\aU K G H1/\ArgsOk K G H1 ms us ds /\fin (F ds) (fun fd=>∀G' H',Grow K G H1 G' H'->G' x=some (iD nm fd)->Q .non H') fun _=>False
structure CalleeN(P:E_)(w:S_)(K:W.Frag)(mg:Str->Option a_)(base:Heap)(x nm:Str)(ps:List Str)(dv:List a_)(k:Nat)(ms:List Md)(F:qc):Prop where
 ex:∃C f fd,mg x=some (.ref C)/\Mk K C f/\fK K fd ps dv/\FnOk P w K mg base cO k f fd ps (lS K C nm ms F)
def kY(nm:Str)(fl:am->Res (List D))(dds:List D)(F:qc):FE:=fun r=>(fl r).bind fun ds=>match F (ds++dds)with
|.ok fd=>.ok (iD nm fd)
|_=>.stuck
section
variable{ms ms':List Md}{x:Str}{ps:List Str}{k:Nat}{F:qc}{dvs:List V}{dv:List a_}{dds:List D}
theorem make_core{C:Addr}{vs:List V}{zs:List D}{G:GH}{H:Hp}{Q:VK}(gk:aU X.K G H)(rs:ArgsOk X.K G H ms vs zs)(B:Paired Scl dvs dds)(q:fin (match F (zs++dds)with|.ok fd=>Res.ok (iD nm fd)|_=>.stuck) (fun d=>∀v G' H',Grow X.K G H G' H'->RG X.K G' v d->Q v H') fun _=>False):∀a dx,H a=none->H dx=none->dx≠a->lS X.K C nm (ms++q_ dds.length .sh) F (.ref a::(vs++dvs)) (aB (aB H dx (.own a)) a (.ins C dx [])) (fun v H2=>v=.non/\Q (.ref a) H2) E0:=by intro a dx h1 h2 h3;refine⟨G,H,a,dx,vs++dvs,zs++dds,rfl,h1,h2,h3,rfl,gk,rs.app B,?_⟩;cases ez:F (zs++dds)with
|ok fd=>rw[ez]at q;exact fun G' H' w hg=>⟨rfl,q _ G' H' w (.ref hg)⟩
|exc e=>rw[ez]at q;exact(show False from q).elim
|stuck=>rw[ez]at q;exact(show False from q).elim
theorem vK(c:CalleeN X.prog X.w X.K X.mg X.base x nm ps dv k ms' F)(hr:Room (k+1) X.A)(ha:gG X g m (e::es) ms fl)(L:ms'=ms++q_ dds.length .sh:=by rfl)(hg:Gl X x:=by rfl)(hd:al dvs dv:=by exact .nil)(M:Paired Scl dvs dds:=by exact .nil)(B:(x==("__debug__" : Str))=false:=by decide)(he:i_ (e::es) X.env=(false,eval e X.env)::i_ es X.env:=by rfl)(hpl:(backTo pos (i_ es X.env)).any (·.1)=false:=by rfl):SE X g m (.Call (.Name x p) (e::es) [] pos) (kY nm fl dds F):=by
 subst L;obtain⟨C,f,fd,h1,h2,h3,h4⟩:=c.ex;refine PE.imp (L8 h2 h4 hr hg h1 h3 hd ji ha B he hpl) fun σ H Q ⟨r,G,si,q⟩=>⟨r,G,si,?_⟩
 unfold kY at q;cases ez:fl r with
|ok zs=>rw[ez,bind_ok]at q;intro vs G' H' w' rs;refine make_core w'.ok rs M (ba (yk q ?_) fun d k v G2 H2 w2 rv=>k v G2 H2 (w'.trans w2) rv);intro e he;split at he <;> cases he
|exc x=>rw[ez]at q;exact q
|stuck=>rw[ez]at q;exact q
end
section
variable{P:E_}{w:S_}{K:W.Frag}{mg:Str->Option a_}{base:Heap}
structure MakeAt(K:W.Frag)(mg:Str->Option a_)(x nm qual:Str)(st:Stmt):Prop where
 ex:∃C f fd,mg x=some (.ref C)/\XN K nm C/\Cls K C/\Mk K C f/\Fun K "__init__" qual st f fd
theorem EU{X:Cx}{N:List Str}{ms:List Md}{us:List V}{ds:List D}{G:GH}{H:Hp}{x C dx:Addr}(gk:aU X.K G H)(rs:ArgsOk X.K G H ms us ds)(hn:ms.length+1<=N.length)(h1:H x=none)(h2:H dx=none)(h3:dx≠x):NI X ⟨G,H,fun _=>none⟩ (eI N.length (.sh::ms)) x C dx (none::(ds.map some++q_ (N.length-(ds.length+1)) none)) [] G (L2.aJ N (.ref x::us)) (aB (aB H dx (.own x)) x (.ins C dx [])):=by
 have s0:=re (X:=X) (N:=N) (ms:=.sh::ms) (vs:=.non::us) (ds:=.non::ds) gk (.sh (.scl .non) rs) (by simpa using hn);have e1:(L2.aJ N (.ref x::us)).length=(L2.aJ N (.non::us)).length:=by unfold L2.aJ;simp
 have B:∀i:Nat,i≠0->(L2.aJ N (.ref x::us))[i]? = (L2.aJ N (.non::us))[i]?:=fun i hi=>by
  obtain⟨j,rfl⟩:∃j,i=j+1:=⟨i-1,by omega⟩
  unfold L2.aJ;simp
 have er:∀i d,(none::(ds.map some++q_ (N.length-(ds.length+1)) none):am)[i]? = some (some d)->i≠0/\(aE N.length (.non::ds))[i]? = some (some d):=fun i d h=>by cases i with
 |zero=>simp at h
 |succ j=>refine⟨by omega,?_⟩;unfold aE;simpa using h
 have w:Grow X.K G H G (aB (aB H dx (.own x)) x (.ins C dx [])):=by
  have hx:aB H dx (.own x) x=none:=by rw[bf h3.symm];exact h1
  have he:∀b o,H b=some o->aB (aB H dx (.own x)) x (.ins C dx []) b=some o:=fun b o hb=>by rw[bf (fun z=>by rw[z,h1]at hb;cases hb),bf (fun z=>by rw[z,h2]at hb;cases hb)];exact hb
  exact⟨fun b d hb=>(gk b d hb).mono (fun _ _ z=>z) (fun u hu=>he b u hu),he,fun _ _ z=>z,fun _ _=>rfl⟩
 have s1:SI X ⟨G,H,fun _=>none⟩ (eI N.length (.sh::ms)) (none::(ds.map some++q_ (N.length-(ds.length+1)) none)) G (L2.aJ N (.ref x::us)) H:=by
  refine⟨s0.gok,s0.old,s0.ge,s0.gf,by rw[e1];exact s0.lm,?_,fun i d h hm=>?_,fun i d h hm=>?_,fun i d h hm=>?_,fun i j a d e hij hi hj=>?_,fun i o h=>(nomatch h)⟩
  .rw[e1,<-s0.lr];unfold aE;simp
  .obtain⟨z,q⟩:=er i d h;rw[B i z];exact s0.sh i d q hm
  .obtain⟨z,q⟩:=er i d h;rw[B i z];exact s0.ow i d q hm
  .obtain⟨z,q⟩:=er i d h;rw[B i z];exact s0.bw i d q hm
  .obtain⟨z,q⟩:=er i d hi;obtain⟨z',q'⟩:=er j e hj;rw[B i z,B j z'];exact s0.dis i j a d e hij q q'
 refine⟨s1.grow w,?_,⟨[],bB,.nil⟩,by rw[bf h3,bB],gk.isN h1,h1,h2⟩;unfold L2.aJ;simp
theorem Lj{x qual nm:Str}{st:Stmt}{f C:Addr}{fd:UE}{N ps:List Str}{k:Nat}{ms:List Md}{fn:FN}(F:Fun K "__init__" qual st f fd)(xn:XN K nm C)(S:FnScope N ps (aa st))(L:ms.length+1=ps.length)(B:∀(cdv:a_)(A:Uc)(outer:List Env)(s:f_)(H:Hp)(g:GE)(E:XK),Room k (A.deeper (VB qual (aa st) s.heap.objs.size f cdv)) ->p5 (cr cO P w K mg base N qual (aa st) f cdv A outer s H E).nox g (eI N.length (.sh::ms)) C (ap st) fn):FnOk P w K mg base cO (k+1) f fd ps (lS K C nm ms fun ds=>fn (none::(ds.map some++q_ (N.length-(ds.length+1)) none)) []):=by
 refine F.ok S (fun vs H Q E ⟨G,H1,a,dx,us,ds,_,_,_,_,hv,gk,rs,q⟩=>by rw[hv,x_,rs.len.1];exact L) fun cdv A outer s H vs Q E hr h=>?_;obtain⟨G,H1,a,dx,us,ds,rfl,h1,h2,h3,rfl,gk,rs,q⟩:=h;have hpl:ps.length<=N.length:=by have:=congrArg V_ S.pre;rw[Ux]at this;omega
 refine⟨_,B cdv A outer s _ ⟨G,H1,fun _=>none⟩ E hr,_,[],G,a,dx,EU gk rs (by omega) h1 h2 h3,?_⟩;cases ez:fn (none::(ds.map some++q_ (N.length-(ds.length+1)) none)) []with
|ok fd=>simp only[ez]at q;have q':=q;intro G' H' le ni;obtain⟨fs,ho,rf⟩:=ni.ob;have w:=ni.si.grown;refine q' (gset G' a (iD nm fd)) H' ⟨ni.si.gok.gset ni.gx (.ins ho xn rf),w.he,fun b d hb=>iP ni.gx b d (w.ge b d hb),fun b hb=>?_⟩ gD;rw[kB (fun z=>hb (by rw[z];exact h1))];exact w.gf b hb
|exc e=>simp only[ez]at q;exact q
|stuck=>simp only[ez]at q;exact q
theorem Ms{x nm qual:Str}{st:Stmt}{N ps:List Str}{k:Nat}{ms:List Md}{fn:FN}(A:MakeAt K mg x nm qual st)(S:FnScope N ps (aa st))(L:ms.length+1=ps.length)(hb:∀(kV doc pm:a_)(an:Option Addr)(cdv ct:a_)(us:List a_),us.length=ps.length->Wd (W.fnOf "__init__" qual (aC st) (ap st) (aa st) .none kV doc pm an cdv ct) ⟨us,[]⟩=pure (ps.zip us))(B:∀(C:Addr),XN K nm C->∀(f:Addr)(cdv:a_)(A:Uc)(outer:List Env)(s:f_)(H:Hp)(g:GE)(E:XK),Room k (A.deeper (VB qual (aa st) s.heap.objs.size f cdv)) ->p5 (cr cO P w K mg base N qual (aa st) f cdv A outer s H E).nox g (eI N.length (.sh::ms)) C (ap st) fn):CalleeN P w K mg base x nm ps [] (k+1) ms fun ds=>fn (none::(ds.map some++q_ (N.length-(ds.length+1)) none)) []:=by obtain⟨C,f,fd,h1,xn,cl,mk,F⟩:=A.ex;exact⟨C,f,fd,h1,mk,F.binds hb,Lj (x:=x) F xn S L (B C xn f)⟩
end
end DL
namespace DL
open PySem PySem.Spec PyProof.Rows L2 PySem.W PySem.Calls
def lM(K:W.Frag)(nm:Str)(c:Addr):Bool:=K.all fun e=>match e.2.data with
|.cls cd=>cd.name != nm || e.1==c
|_=>true
end DL
namespace DL
open PySem PySem.Spec PyProof.Rows L2
def qN(s:Stmt)(j:Nat):Stmt:=match s with
|.ClassDef _ _ _ b _ _ _ _ _ _ _=>b.getD j s
|_=>s
def iU(K:W.Frag)(C:Addr)(nm:Str):Bool:=match K.lookup C with
|some o=>(match o.data with
 |.cls cd=>cd.name==nm
 |_=>false)
|none=>false
theorem IR{K:W.Frag}{C:Addr}{nm:Str}(h:iU K C nm=true):XN K nm C:=by
 unfold iU at h;split at h
 .rename_i o e;split at h
  .rename_i cd ed;exact⟨o,cd,e,ed,UT h⟩
  .cases h
 .cases h
structure OC(K:W.Frag)(nm:Str)(C:Addr):Prop where
 un:∀C',XN K nm C'->C'=C
 xn:XN K nm C
 cl:Cls K C
theorem Ig{K:W.Frag}{nm:Str}{C:Addr}(x:iU K C nm=true)(u:lM K nm C=true)(a:W.plainGet K C WB=true)(b:W.hasDictIn K C=true)(c:W.plainOver K C=true)(d:W.findIn K (.ref C) "__setattr__" = some (some (.builtin "object.__setattr__"))):OC K nm C:=⟨fun C' h=>XN.uniq h u,IR x,⟨a,b,c,d⟩⟩
theorem pw{K:W.Frag}{f:Str}{hit:Str->Bool}(l:List (Str×Addr))(h:∀q∈l,OC K q.1 q.2/\eZ K q.2 f)(hh:∀nm,hit nm=true->nm∈l.map (·.1)):bX K f hit:=fun nm C hn xn=>by obtain⟨q,hq,rfl⟩:=p_.mp (hh nm hn);obtain⟨o,na⟩:=h q hq;rw[o.un C xn];exact⟨o.cl,na⟩
theorem BK{K:W.Frag}{nm mt qual:Str}{st:Stmt}{C f:Addr}{fd:UE}(o:OC K nm C)(h1:W.findIn K (.ref C) mt=some (some (.ref f)))(h2:W.isFn K (.ref f)=true)(F:Fun K mt qual st f fd):MethAt K nm mt qual st:=⟨C,f,fd,o.un,o.cl,⟨h1,h2,F.kp⟩,F⟩
theorem BJ{K:W.Frag}{mg:Str->Option a_}{x nm qual:Str}{st:Stmt}{C f:Addr}{fd:UE}(o:OC K nm C)(hm:mg x=some (.ref C))(h1:W.makesIn K C=true)(h2:W.findIn K (.ref C) "__init__" = some (some (.ref f)))(h3:W.isFn K (.ref f)=true)(h4:W.keepIn K (.ref C)=true)(F:Fun K "__init__" qual st f fd):MakeAt K mg x nm qual st:=⟨C,f,fd,hm,o.xn,o.cl,⟨h1,h2,h3,h4⟩,F⟩
end DL
namespace DL
open PySem PySem.Spec PyProof.Rows L2 PySem.W
def jb{α:Type}(P:α->Prop):List α->Prop
|[]=>True
|a::l=>P a/\jb P l
theorem jb.mem{α:Type}{P:α->Prop}:∀{l:List α},jb P l->∀q∈l,P q
|[],_,_,hq=>by cases hq
|a::l,h,q,hq=>by
  rcases n_.mp hq with rfl|hq
  .exact h.1
  .exact jb.mem h.2 q hq
end DL
namespace DL
open PySem PySem.Spec PyProof.Rows L2 PySem.W PySem.Calls PySem.Builtin PySem.Builtin.Str
theorem Dn(B:Str):∀ps:List Str,ps.length*B.length<=(Ua B ps).length+B.length
|[]=>by simp
|[x]=>by simp only[Wf,Nat.one_mul];omega
|x::y::r=>by
  have ih:=Dn B (y::r);have e:(Ua B (x::y::r)).length=x.length+B.length+(Ua B (y::r)).length:=by show(x++B++Ua B (y::r)).length=_;rw[UW,UW]
  rw[e,x_,Xi];omega
theorem Ox(x y:Str)(B:Nat)(hy:0<y.length):(partsBetween x (O_ x y 0 x.length B) y.length).length<=x.length+1:=by have h:=Dn y (partsBetween x (O_ x y 0 x.length B) y.length);rw[<-Wg,StrLaws.glued_between_self]at h;generalize(partsBetween x (O_ x y 0 x.length B) y.length).length=k at h;cases k with
|zero=>omega
|succ k=>rw[Xi]at h;have:k*1<=k*y.length:=Nat.mul_le_mul_left k hy;omega
section
variable{prog:E_}{w:S_}{A:Uc}{E:a_->f_->Prop}{s:f_}{x y:Str}{t u:Tok}{Q:a_->f_->Prop}
theorem P7(hy:(y.length==0)=false)(hx:x.length<=sizeLine)(hn:(partsBetween x (O_ x y 0 x.length (x.length+1)) y.length).length<=sizeLine)(q:∀l k,l.map (·.1)=Txt.split x y->Q (.ref s.heap.objs.size) { s with heap:=s.heap.push { cls:=.type "list",data:=.seq (YA l).toArray },toks:=k }):C_ (G_ prog w) A (call (.builtin "str.split") [.str x t,.str y u]) Q E s:=by have T:s.TypeIs (.str x t) "str" := XY _ _ _;cases c:(decide (x.length<y.length) || decide (strKind x<strKind y))with
|true=>exact VD F.slot_str_split T F.entry_str_split (F.args_str_split_2 _ _) (meets_str_split_cannot_occur x y t u c) (q [(x,t)] s.toks (if_pos c).symm)
|false=>have c':=ne_true_of_eq_false c;cases f:(O_ x y 0 x.length (x.length+1)).isEmpty with
 |true=>exact VD F.slot_str_split T F.entry_str_split (F.args_str_split_2 _ _) (meets_str_split_not_found x y t u c hy f) (q [(x,t)] s.toks ((if_neg c').trans (if_pos f)).symm)
 |false=>refine VD F.slot_str_split T F.entry_str_split (F.args_str_split_2 _ _) (meets_str_split_sep x y t u c hy f hx hn) ?_;have:=q (numbered s.toks (partsBetween x (O_ x y 0 x.length (x.length+1)) y.length)) (s.toks+(partsBetween x (O_ x y 0 x.length (x.length+1)) y.length).length) ((numbered_texts _ _).trans ((if_neg c').trans (if_neg (ne_true_of_eq_false f))).symm);rw[<-strsFrom_eq]at this;exact this
end
theorem Qc{its:List a_}:∀{xs:List Str},al (xs.map V.str) its->∃l:List (Str×Tok),YA l=its/\l.map (·.1)=xs:=by induction its with
|nil=>intro xs h;cases xs with
 |nil=>exact⟨[],rfl,rfl⟩
 |cons _ _=>cases h
|cons v its ih=>intro xs h;cases xs with
 |nil=>cases h
 |cons x xs=>cases h with
  |cons r t=>
    obtain⟨k,rfl⟩:=(show ∃k,v=Value.str x k from r)
    obtain⟨l,e1,e2⟩:=ih t;exact⟨(x,k)::l,by rw[<-e1];rfl,by rw[L_,e2]⟩
theorem Fx:∀l:List (Str×Tok),al ((l.map (·.1)).map V.str) (YA l)
|[]=>.nil
|(x,t)::l=>.cons ⟨t,rfl⟩ (Fx l)
def jG:List D->Option (List Str)
|[]=>some []
|.str x::ds=>(jG ds).map (x::·)
|_::_=>none
theorem MZ{K:W.Frag}{G:GH}{H:Hp}(gk:aU K G H){xs:List V}{ds:List D}(r:bx K G xs ds):∀{zs:List Str},jG ds=some zs->xs=zs.map V.str:=by induction r with
|nil=>intro zs h;cases h;rfl
|@cons v d xs ds r _ ih=>intro zs h;cases d with
 |str x=>have h:(jG ds).map (x::·)=some zs:=h;cases e:jG ds with
  |none=>rw[e]at h;cases h
  |some ys=>rw[e]at h;cases h;rw[r.str gk,ih e];rfl
 |_=>cases h
theorem DF{K:W.Frag}{G:GH}:∀xs:List Str,bx K G (xs.map V.str) (xs.map D.str)
|[]=>.nil
|x::xs=>.cons (.scl (.str x)) (DF xs)
def B7:V->List V->Hp->VK->Prop:=fun x vs H Q=>∃a b,x=.str a/\vs=[.str b]/\Q (.bl (Txt.endswith a b)) H
def Ca:V->List V->Hp->VK->Prop:=fun x vs H Q=>∃a b i r,x=.str a/\vs=[.str b]/\O_ a b 0 a.length 1=i::r/\Q (.int (i:Nat)) H
def B8(K:W.Frag):V->List V->Hp->VK->Prop:=fun x vs H Q=>∃a p xs,x=.str a/\vs=[.ref p]/\bh K H p (xs.map V.str)/\X4 a xs=true/\Q (.str (Txt.join a xs)) H
def C3:V->List V->Hp->VK->Prop:=fun x vs H Q=>∃a b,x=.str a/\vs=[.str b]/\0<b.length/\a.length<=10000/\∀p,H p=none->Q (.ref p) (aB H p (.lst ((Txt.split a b).map V.str)))
def kT:D->List D->Option D
|.str a,[.str b]=>some (.bl (Txt.endswith a b))
|_,_=>none
def k6:D->List D->Option D
|.str a,[.str b]=>match O_ a b 0 a.length 1 with
 |i::_=>some (.int (i:Nat))
 |[]=>none
|_,_=>none
def gJ:D->List D->Option D
|.str a,[.lst ds]=>match jG ds with
 |some xs=>if X4 a xs=true then some (.str (Txt.join a xs))else none
 |none=>none
|_,_=>none
def kn:D->List D->Option D
|.str a,[.str b]=>if 0<b.length/\a.length<=10000 then some (.lst ((Txt.split a b).map D.str))else none
|_,_=>none
variable{X:Cx}
theorem Mt:hU X "str.endswith" B7:=by
 intro pz s σ H x vs v us Q I rx rv ⟨a,b,e1,e2,q⟩;subst e1 e2;obtain⟨t,rfl⟩:=(show ∃t,v=Value.str a t from rx)
 obtain⟨u,rfl,ru⟩:=d6 rv;obtain⟨t',rfl⟩:=(show ∃t,u=Value.str b t from ru)
 exact SC.endswith ⟨.bl _,H,I,rfl,q⟩
theorem wA:hU X "str.index" Ca:=by
 intro pz s σ H x vs v us Q I rx rv ⟨a,b,i,r,e1,e2,ho,q⟩;subst e1 e2;obtain⟨t,rfl⟩:=(show ∃t,v=Value.str a t from rx)
 obtain⟨u,rfl,ru⟩:=d6 rv;obtain⟨t',rfl⟩:=(show ∃t,u=Value.str b t from ru)
 exact SC.index ho ⟨.int _,H,I.tok _,⟨_,rfl⟩,q⟩
theorem kE:hU X "str.join" (B8 X.K):=by
 intro pz s σ H x vs v us Q I rx rv ⟨a,p,xs,e1,e2,sq,ok,q⟩;subst e1 e2;obtain⟨t,rfl⟩:=(show ∃t,v=Value.str a t from rx)
 obtain⟨u,rfl,ru⟩:=d6 rv;cases(show u=Value.ref p from ru);obtain⟨its,r,pl,_⟩:=I.list sq;obtain⟨l,rfl,el⟩:=Qc r;exact SC.join pl.isList el ok fun t' k=>⟨.str _,H,I.tok _,⟨_,rfl⟩,q⟩
theorem xA:hU X "str.split" C3:=by
 intro pz s σ H x vs v us Q I rx rv ⟨a,b,e1,e2,hb,ha,q⟩;subst e1 e2;obtain⟨t,rfl⟩:=(show ∃t,v=Value.str a t from rx)
 obtain⟨u,rfl,ru⟩:=d6 rv;obtain⟨t',rfl⟩:=(show ∃t,u=Value.str b t from ru)
 have hp:=Ox a b (a.length+1) hb;refine P7 (by rw[beq_eq_false_iff_ne];omega) (by rw[N_];omega) (by rw[N_];omega) fun l k el=>?_;have hl:((Txt.split a b).map V.str).length<=sizeLine:=by
  rw[j_,N_];unfold Txt.split;split
  .exact(by decide:1<=16777216)
  .split
   .exact(by decide:1<=16777216)
   .omega
 refine⟨.ref s.heap.objs.size,_,I.laid (t':=k) (fun b o e=>c_ _ e) (s_ _) (show bF X.prog X.w _ _ _ (.lst ((Txt.split a b).map V.str))from⟨hl,YA l,0,?_,?_⟩),rfl,q _ (I.hok.fresh (s_ _))⟩
 .rw[<-el];exact Fx l
 .exact r_ _ rfl
theorem Lf{K:W.Frag}:nR K B7 kT:=by
 intro G H v d vs ds d' Q gk rv rs e q;unfold kT at e;split at e
 .cases e;cases rs with
 |cons r1 rt=>cases rt;exact⟨_,_,rv.str gk,by rw[r1.str gk],q _ G H (Grow.refl gk) (.scl (.bl _))⟩
 .cases e
theorem wD{K:W.Frag}:nR K Ca k6:=by
 intro G H v d vs ds d' Q gk rv rs e q;unfold k6 at e;split at e
 .split at e
  .rename_i ho;cases e;cases rs with
  |cons r1 rt=>cases rt;exact⟨_,_,_,_,rv.str gk,by rw[r1.str gk],ho,q _ G H (Grow.refl gk) (.scl (.int _))⟩
  .cases e
 .cases e
theorem kC{K:W.Frag}:nR K (B8 K) gJ:=by
 intro G H v d vs ds d' Q gk rv rs e q;unfold gJ at e;split at e
 .split at e
  .rename_i xs hx;split at e
   .rename_i hj;cases e;cases rs with
   |cons r1 rt=>cases rt;obtain⟨p,ys,rfl,sq,ry⟩:=r1.lst gk;have:=MZ gk ry hx;subst this;exact⟨_,p,xs,rv.str gk,rfl,sq,hj,q _ G H (Grow.refl gk) (.scl (.str _))⟩
   .cases e
  .cases e
 .cases e
theorem wY{K:W.Frag}:nR K C3 kn:=by
 intro G H v d vs ds d' Q gk rv rs e q;unfold kn at e;split at e
 .split at e
  .rename_i h;cases e;cases rs with
  |cons r1 rt=>cases rt;refine⟨_,_,rv.str gk,by rw[r1.str gk],h.1,h.2,fun p hp=>?_⟩;exact q _ _ _ (Grow.newF gk hp (OB.lst (.inl bB) (DF _))) (.ref gD)
  .cases e
 .cases e
variable{g:GE}{m:List Md}{fa:FE}{pos:Pos}
section
variable{a b:Expr}{fb:FE}
def uI(x:Str)(n:Int):Str:=if n<1 then WB else if (n==1 || x.length==0)=true then x else⟨(q_ n.toNat x.cps).foldl (·++·) #[]⟩
def nZ:D->D->Option D
|.str x,.int n=>if x.length<=100/\0<=n/\n<=100 then some (.str (uI x n))else none
|_,_=>none
theorem E8(c:Array Nat):∀(k:Nat)(acc:Array Nat),((q_ k c).foldl (·++·) acc).size=acc.size+k*c.size
|0,acc=>by simp
|k+1,acc=>by rw[Us,V5,E8 c k,Array.size_append,Xi];omega
theorem L1:bo X (Vu .Mult) (fun a b H Q=>∃(x:Str)(n:Int),a=.str x/\b=.int n/\x.length<=100/\0<=n/\n<=100/\Q (.str (uI x n)) H):=by
 intro pz s σ H x y v u Q I rx ry ⟨x',n,ex,en,h1,h2,h3,q⟩;subst ex en;obtain⟨t,rfl⟩:=(show ∃t,v=Value.str x' t from rx)
 obtain⟨t',rfl⟩:=(show ∃t,u=Value.int n t from ry)
 have hm:x'.length*n.toNat<=100*100:=Nat.mul_le_mul h1 (by omega);refine P.mul_str (by rw[decide_eq_false (by omega),decide_eq_false (by omega)];rfl) (fun z _=>?_) (fun _ _=>?_) ?_
 .have hn0:(0:Int)<n:=by omega
  have B:(x'.length:Int)*n<=100*100:=by
   have:((x'.length*n.toNat:Nat):Int)=(x'.length:Int)*n:=by rw[YT,XH h2]
   omega
  have:=(Int.le_ediv_iff_mul_le (a:=(x'.length:Int)) (b:=2^63-1) hn0).mpr (by omega);omega
 .unfold tooLong;rw[decide_eq_false (by rw[N_];omega)]
 .unfold uI at q;by_cases c1:n<1
  .rw[if_pos c1]at q ⊢;exact⟨by decide,.str _,H,I.tok _,⟨_,rfl⟩,q⟩
  .rw[if_neg c1]at q ⊢;by_cases c2:(n==1 || x'.length==0)=true
   .rw[if_pos c2]at q ⊢;exact⟨.str _,H,I,⟨_,rfl⟩,q⟩
   .rw[if_neg c2]at q ⊢;refine⟨?_,.str _,H,I.tok _,⟨_,rfl⟩,q⟩;show((q_ n.toNat x'.cps).foldl (·++·) #[]).size<=sizeLine;rw[E8,N_];have:n.toNat*x'.cps.size=x'.length*n.toNat:=Yh _ _;simp only[Array.size_empty];omega
theorem Kr(ha:SB X g m a fa)(hb:SB X g m b fb):SE X g m (.BinOp a .Mult b pos) (f2 fa fb nZ):=by
 refine lf L1 (fun G H v1 v2 d1 d2 d Q gk r1 r2 e q=>?_) ha hb;unfold nZ at e;split at e
 .split at e
  .rename_i x n h;cases e;exact⟨x,n,r1.str gk,r2.int gk,h.1,h.2.1,h.2.2,q _ G H (Grow.refl gk) (.scl (.str _))⟩
  .cases e
 .cases e
end
def pE(d:D)(lo hi:Option Int):Option D:=match d with
|.str a=>if a.length<=10000 then some (.str (Txt.slice a lo hi))else none
|_=>none
def gX(fa:FE)(fl fh:FP):FE:=fun r=>(fa r).bind fun d=>(fl r).bind fun lo=>(fh r).bind fun hi=>cP (pE d lo hi)
section
variable{e:Expr}{f:FE}{p2:Pos}
theorem LK:i8 X (fun x lo hi H Q=>∃a,x=.str a/\a.length<=10000/\Q (.str (Txt.slice a lo hi)) H):=by
 intro pz s σ H x v vl vu lo hi sl Q I rx hs pl pu ⟨a,ex,ha,q⟩;subst ex;obtain⟨t,rfl⟩:=(show ∃t,v=Value.str a t from rx)
 refine⟨"str",_,F.slot_str_getitem.lookup,XY _ _ _,?_⟩;have hl:∀l u,(Txt.slice a l u).length<=sizeLine:=fun l u=>Ue (Txt.slice_le a l u) (by rw[N_];omega);cases pl with
|none=>cases pu with
 |none=>exact Vw (l:=none) (u:=none) (st:=none) hs rfl (Ws ⟨hl none none,fun t' k=>⟨.str _,H,I.tok _,⟨_,rfl⟩,q⟩⟩)
 |int j tj=>exact Vw (l:=none) (u:=some (j,tj)) (st:=none) hs rfl (Ws ⟨hl none (some j),fun t' k=>⟨.str _,H,I.tok _,⟨_,rfl⟩,q⟩⟩)
|int i ti=>cases pu with
 |none=>exact Vw (l:=some (i,ti)) (u:=none) (st:=none) hs rfl (Ws ⟨hl (some i) none,fun t' k=>⟨.str _,H,I.tok _,⟨_,rfl⟩,q⟩⟩)
 |int j tj=>exact Vw (l:=some (i,ti)) (u:=some (j,tj)) (st:=none) hs rfl (Ws ⟨hl (some i) (some j),fun t' k=>⟨.str _,H,I.tok _,⟨_,rfl⟩,q⟩⟩)
theorem uG{lo hi:Option Expr}{fl fh:FP}(he:SB X g m e f)(hl:nP X g m lo fl)(hu:nP X g m hi fh):SE X g m (.Subscript e (.Slice lo hi none p2) pos) (gX f fl fh):=by
 refine PE.imp (EE LK he hl hu) fun σ H Q ⟨r,G,si,q⟩=>⟨r,G,si,ba (bg q) fun d h1 v G1 H1 w1 r1=>⟨r,G1,si.grow w1,fm (bg h1) w1 fun lo h2 G2 H2 w2=>⟨r,G2,(si.grow w1).grow w2,?_⟩⟩⟩
 refine fm (bg h2) (w1.trans w2) fun hi h3 G3 H3 w3=>?_;obtain⟨d',e,h4⟩:=ck h3;have r3:=(r1.mono w2).mono w3;unfold pE at e;split at e
 .split at e
  .cases e;exact⟨_,r3.str w3.ok,by assumption,h4 _ G3 H3 ((w1.trans w2).trans w3) (.scl (.str _))⟩
  .cases e
 .cases e
end
theorem lB{X:Cx}{g:GE}{m:List Md}{pos:Pos}{x v:Str}(hg:Gl X x)(hk:∃t,X.mg x=some (.str v t))(hd:(x==("__debug__" : Str))=false:=by decide):SE X g m (.Name x pos) fun _=>.ok (.str v):=by obtain⟨t,hm⟩:=hk;exact C7 (v:=.str v) hg hm ⟨t,rfl⟩ (.str v) hd
theorem Ii{K:W.Frag}{h:Heap}{mg:Str->Option a_}{x:Str}(KX:K.In h)(G:h.Ns Ub mg){v:Str}{t:Tok}(z:W.nsIn K Ub x=some (some (.str v t))):∃t,mg x=some (.str v t):=⟨t,W.mg_of KX G z⟩
end DL
namespace DL
open PySem PySem.Spec PyProof.Rows L2
abbrev DW:=D×List D
structure DkR(K:W.Frag)(G:GH)(H:Hp)(C a dx pl:Addr)(w:DW):Prop where
 ob:∃kv,H a=some (.ins C dx [("kept",kv),("past",V.ref pl)])/\RG K G kv w.1
 od:H dx=some (.own a)
 ls:∃xs,H pl=some (.lst xs)/\bx K G xs w.2
 un:∀b∈[a,dx,pl],G b=none
variable{K:W.Frag}{G G':GH}{H H':Hp}{C a dx pl:Addr}{w:DW}
theorem DkR.isS(h:DkR K G H C a dx pl w):∀b∈[a,dx,pl],H b≠none:=fun b hb=>by obtain⟨kv,e1,_⟩:=h.ob;obtain⟨xs,e2,_⟩:=h.ls;have e3:=h.od;simp only[n_,J_,or_false]at hb;rcases hb with rfl|rfl|rfl <;> simp[e1,e2,e3]
theorem DkR.mono(h:DkR K G H C a dx pl w)(ge:aR G G')(he:∀b∈[a,dx,pl],H' b=H b)(un:∀b∈[a,dx,pl],G' b=none):DkR K G' H' C a dx pl w:=by obtain⟨kv,e1,r1⟩:=h.ob;obtain⟨xs,e2,r2⟩:=h.ls;exact⟨⟨kv,(he a (by simp)).trans e1,r1.mono ge⟩,(he dx (by simp)).trans h.od,⟨xs,(he pl (by simp)).trans e2,r2.mono ge⟩,un⟩
theorem DkR.ne(h:DkR K G H C a dx pl w):a≠dx/\a≠pl/\dx≠pl:=by obtain⟨kv,e1,_⟩:=h.ob;obtain⟨xs,e2,_⟩:=h.ls;have e3:=h.od;refine⟨fun z=>?_,fun z=>?_,fun z=>?_⟩ <;> subst z <;> simp_all
def hG(g:GE)(G:GH)(H:Hp)(fp:List Addr)(i:Nat)(p:Addr):GE:=⟨G,fun b=>if b∈fp then H b else g.h0 b,fun j=>if j=i then some (some (V.ref p),none)else g.hd j⟩
def Nb(g:GE)(m:List Md)(i:Nat):Prop:=∀j,j≠i->m[j]? = some .bw->∃v,g.hd j=some (v,none)
theorem tY{g:GE}{m:List Md}{i:Nat}(h:∀j,j≠i->m[j]?≠some .bw):Nb g m i:=fun j hj hm=>absurd hm (h j hj)
structure SD(X:Cx)(g:GE)(i:Nat)(C a dx pl:Addr)(m:List Md)(r:am)(w:DW)(G:GH)(σ:L2.St)(H:Hp):Prop where
 ob:DkR X.K G H C a dx pl w
 h0:∀b∈[a,dx,pl],g.h0 b=none
 si:SI X (cY g H [a,dx,pl] i a) m r G σ H
 mi:m[i]? = some .bw
def fR(X:Cx)(g:GE)(i:Nat)(C:Addr)(kd:D):Prop:=∀m r G σ H,SI X g m r G σ H->m[i]? = some .bw->∃a dx kv fs,σ[i]? = some (some (V.ref a))/\H a=some (.ins C dx fs)/\fs.lookup ("kept" : Str)=some kv/\RG X.K G kv kd
variable{X:Cx}{g:GE}{i:Nat}{m m':List Md}{r r':am}{w':DW}{σ σ':L2.St}
theorem SD.toH(s:SD X g i C a dx pl m r w G σ H):SI X (hG g G H [a,dx,pl] i a) m r G σ H:=⟨s.si.gok,s.si.old,fun _ _ e=>e,fun _ _=>rfl,s.si.lm,s.si.lr,s.si.sh,s.si.ow,s.si.bw,s.si.dis,s.si.lk⟩
theorem SD.me(s:SD X g i C a dx pl m r w G σ H):σ[i]? = some (some (V.ref a)):=(s.si.lk i (some (V.ref a),none) (by show(if i=i then _ else _)=_;rw[if_pos rfl]) s.mi).1
theorem SD.kept(s:SD X g i C a dx pl m r w G σ H):fR X (hG g G H [a,dx,pl] i a) i C w.1:=by intro m1 r1 G1 σ1 H1 si1 hm;obtain⟨kv,e1,B⟩:=s.ob.ob;refine⟨a,dx,kv,[("kept",kv),("past",V.ref pl)],(si1.lk i (some (V.ref a),none) (by show(if i=i then _ else _)=_;rw[if_pos rfl]) hm).1,si1.old a _ ?_,by simp[Up],B.mono si1.ge⟩;show(if a∈[a,dx,pl]then H a else g.h0 a)=_;rw[if_pos (by simp)];exact e1
theorem SD.held(s:SD X g i C a dx pl m r w G σ H)(w1:Grow X.K G (hG g G H [a,dx,pl] i a).h0 G' H'):DkR X.K G' H' C a dx pl w:=by
 have h:∀b∈[a,dx,pl],(hG g G H [a,dx,pl] i a).h0 b=H b:=fun b hb=>by show(if b∈[a,dx,pl]then H b else g.h0 b)=_;rw[if_pos hb]
 refine s.ob.mono w1.ge (fun b hb=>?_) fun b hb=>?_
 .cases e:H b with
 |none=>exact absurd e (s.ob.isS b hb)
 |some o=>exact w1.he b o (by rw[h b hb];exact e)
 .rw[w1.gf b (by rw[h b hb];exact s.ob.isS b hb)];exact s.ob.un b hb
theorem SD.after(s:SD X g i C a dx pl m r w G σ H)(si':SI X (hG g G H [a,dx,pl] i a) m' r' G' σ' H')(hm:m'[i]? = some .bw):SD X g i C a dx pl m' r' w G' σ' H':=by
 have d:=s.held si'.grown;have he:∀b∈[a,dx,pl],H' b=H b:=fun b hb=>by cases e:H b with
 |none=>exact absurd e (s.ob.isS b hb)
 |some o=>exact si'.old b o (by show(if b∈[a,dx,pl]then H b else g.h0 b)=_;rw[if_pos hb];exact e)
 refine⟨d,s.h0,?_,hm⟩;rw[Nu he];exact⟨si'.gok,si'.old,fun b d e=>si'.ge b d (s.si.ge b d e),fun b hb=>(si'.gf b hb).trans (s.si.gf b hb),si'.lm,si'.lr,si'.sh,si'.ow,si'.bw,si'.dis,si'.lk⟩
theorem SD.chg(s:SD X g i C a dx pl m r w G σ H)(hb:Nb g m i)(he:∀b,b∉[a,dx,pl]->H' b=H b)(d:DkR X.K G H' C a dx pl w'):SD X g i C a dx pl m r w' G σ H':=by
 have out:∀b o,G b=some o->b∉[a,dx,pl]:=fun b o e z=>by rw[s.ob.un b z]at e;cases e
 have L:∀b∈[a,dx,pl],(cY g H [a,dx,pl] i a).h0 b≠none:=fun b hb=>by show(if b∈[a,dx,pl]then H b else g.h0 b)≠_;rw[if_pos hb];exact s.ob.isS b hb
 have ho:∀b,b∉[a,dx,pl]->(cY g H' [a,dx,pl] i a).h0 b=g.h0 b:=fun b hb=>by show(if b∈[a,dx,pl]then H' b else g.h0 b)=_;rw[if_neg hb]
 have B:∀b,b∉[a,dx,pl]->(cY g H [a,dx,pl] i a).h0 b=g.h0 b:=fun b hb=>by show(if b∈[a,dx,pl]then H b else g.h0 b)=_;rw[if_neg hb]
 refine⟨d,s.h0,⟨fun b o e=>(s.si.gok b o e).mono (fun _ _ z=>z) fun u hu=>by rw[he b (out b o e)];exact hu,fun b o e=>?_,s.si.ge,fun b e=>?_,s.si.lm,s.si.lr,s.si.sh,fun j d h1 h2=>?_,fun j d h1 h2=>?_,s.si.dis,s.si.lk⟩,s.mi⟩
 .by_cases z:b∈[a,dx,pl]
  .have:(cY g H' [a,dx,pl] i a).h0 b=H' b:=by show(if b∈[a,dx,pl]then H' b else g.h0 b)=_;rw[if_pos z]
   rw[this]at e;exact e
  .rw[ho b z]at e;rw[he b z];exact s.si.old b o (by rw[B b z];exact e)
 .by_cases z:b∈[a,dx,pl]
  .exact s.si.gf b (L b z)
  .rw[ho b z]at e;exact s.si.gf b (by rw[B b z];exact e)
 .obtain⟨c,q1,q2,q3⟩:=s.si.ow j d h1 h2;have z:c∉[a,dx,pl]:=fun z=>L c z q3;exact⟨c,q1,⟨q2.un,q2.ob.mono (fun _ _ z=>z) fun u hu=>by rw[he c z];exact hu⟩,by rw[ho c z,<-B c z];exact q3⟩
 .by_cases hji:j=i
  .subst hji;have l:=(s.si.lk j (some (V.ref a),none) (by show(if j=j then _ else _)=_;rw[if_pos rfl]) s.mi).2 d h1;cases l
  .obtain⟨v,ev⟩:=hb j hji h2;have l:=(s.si.lk j (v,none) (by show(if j=i then _ else _)=_;rw[if_neg hji];exact ev) h2).2 d h1;cases l
inductive OutD where
 |nx (r:am) (w:DW)|rt (d:D) (w:DW)|stuck
abbrev cu:=am->DW->OutD
def kR(X:Cx)(g:GE)(i:Nat)(C a dx pl:Addr)(m':List Md)(G:GH)(D:Ends):OutD->Prop
|.nx r' w'=>∀σ' G' H',aR G G'->SD X g i C a dx pl m' r' w' G' σ' H'->D.nx σ' H'
|.rt d w'=>∀v G' H',aR G G'->Grow X.K g.gh g.h0 G' H'->DkR X.K G' H' C a dx pl w'->RG X.K G' v d->D.rt v H'
|.stuck=>False
def tD(X:Cx)(g:GE)(i:Nat)(C:Addr)(m m':List Md)(f:cu):TS:=fun D σ H=>∃a dx pl r w G,SD X g i C a dx pl m r w G σ H/\kR X g i C a dx pl m' G D (f r w)
def iA(X:Cx)(g:GE)(i:Nat)(C:Addr)(m:List Md)(st:Stmt)(f:cu)(m':List Md):Prop:=PS X st (tD X g i C m m' f)
def eU(X:Cx)(g:GE)(i:Nat)(C:Addr)(m:List Md)(st:List Stmt)(f:cu)(m':List Md):Prop:=bW X st (tD X g i C m m' f)
variable{m1 mb:List Md}{sts:List Stmt}{e:Expr}{pos pos' p:Pos}
section
variable{st:Stmt}{sts':List Stmt}{c:Expr}{x:Str}{f1 f2:cu}
theorem kR.gle{D:Ends}{o:OutD}(h:kR X g i C a dx pl m' G D o)(le:aR G G'):kR X g i C a dx pl m' G' D o:=by cases o with
|nx r w=>exact fun σ1 G1 H1 l s=>h σ1 G1 H1 (le.trans l) s
|rt d w=>exact fun v G1 H1 l=>h v G1 H1 (le.trans l)
|stuck=>exact h
theorem qB{kd:D}(k:fR X g i C kd)(hm:m[i]? = some .bw)(cl:Cls X.K C)(na:eZ X.K C "kept")(hN:X.N[i]? = some x)(hv:dz X.env.scope x)(hd:(x==("__debug__" : Str))=false:=by decide)(B:(x==("__classdict__" : Str))=false:=by decide)(hb:Uo (.Name x p) "kept" X.env (eval (.Name x p) X.env)=eval (.Name x p) X.env:=by rfl):SE X g m (.Attribute (.Name x p) "kept" pos) fun _=>.ok kd:=PE.imp (mT (dM hN hv hd B) hb) fun σ H Q ⟨r,G,si,q⟩=>by obtain⟨a,dx,kv,fs,e1,e2,e3,rg⟩:=k m r G σ H si hm;exact⟨_,e1,a,C,dx,fs,kv,rfl,e2,cl,na,e3,q kv G H (Grow.refl si.gok) rg⟩
def bI(f:D->FS):cu:=fun r w=>match f w.1 r with
|.nx r'=>.nx r' w
|.rt d=>.rt d w
|_=>.stuck
theorem ic{f:D->FS}(h:∀g' kd,fR X g' i C kd->SS X g' false mb m st (f kd) m')(hm:m'[i]? = some .bw):iA X g i C m st (bI f) m':=by
 have hA:PS X st (fun D σ H=>∃g' kd,fR X g' i C kd/\tS X g' false m m' mb (f kd) D σ H):=fun pz s σ H D I ⟨g',kd,k,q⟩=>(h g' kd k).2 pz s σ H D I q;refine PS.imp hA fun D σ H ⟨a,dx,pl,r,w,G,s,q⟩=>⟨_,w.1,s.kept,r,G,s.toH,?_⟩
 unfold bI at q;cases e:f w.1 r with
|nx r1=>rw[e]at q;exact fun σ' G' H' le si'=>q σ' G' H' le (s.after si' hm)
|rt d=>
  rw[e]at q;intro v G' H' wg rv;have dk:=s.held wg;refine q v G' H' wg.ge ⟨wg.ok,fun b o hb=>?_,fun b d hb=>wg.ge b d (s.si.ge b d hb),fun b hb=>?_⟩ dk rv
  .have z:b∉[a,dx,pl]:=fun z=>by rw[s.h0 b z]at hb;cases hb
   exact wg.he b o (by show(if b∈[a,dx,pl]then H b else g.h0 b)=_;rw[if_neg z];exact hb)
  .have z:b∉[a,dx,pl]:=fun z=>hb (s.h0 b z);have h0:(hG g G H [a,dx,pl] i a).h0 b≠none:=by show(if b∈[a,dx,pl]then H b else g.h0 b)≠_;rw[if_neg z];exact hb
   exact(wg.gf b h0).trans (s.si.gf b h0)
|bk r1=>rw[e]at q;exact q.elim
|ct r1=>rw[e]at q;exact q.elim
|exc y r1=>rw[e]at q;exact q.elim
|stuck=>rw[e]at q;exact q.elim
def bc(f1 f2:cu):cu:=fun r w=>match f1 r w with
|.nx r' w'=>f2 r' w'
|o=>o
def iH:cu:=fun r w=>.nx r w
theorem j8:eU X g i C m [] iH m:=bW.imp kF fun D σ H ⟨a,dx,pl,r,w,G,s,q⟩=>q σ G H (aR.refl G) s
theorem d7(h1:iA X g i C m st f1 m1)(h2:eU X g i C m1 sts f2 m'):eU X g i C m (st::sts) (bc f1 f2) m':=by
 refine bW.imp (jL h1 h2) fun D σ H ⟨a,dx,pl,r,w,G,s,q⟩=>⟨a,dx,pl,r,w,G,s,?_⟩
 unfold bc at q;cases e:f1 r w with
|nx r' w'=>rw[e]at q;exact fun σ' G' H' le s'=>⟨a,dx,pl,r',w',G',s',q.gle le⟩
|rt d w'=>rw[e]at q;exact q
|stuck=>rw[e]at q;exact q
def l0{α:Type}(x:Res α)(k:α->OutD):OutD:=match x with
|.ok a=>k a
|_=>.stuck
theorem oz{α:Type}{x:Res α}{k:α->OutD}{D:Ends}{Z:DL.D->Prop}(h:kR X g i C a dx pl m' G D (l0 x k)):fin x (fun y=>kR X g i C a dx pl m' G D (k y)) Z:=by cases x with
|ok a=>exact h
|exc e=>exact(show False from h).elim
|stuck=>exact h
def l6(p:D->FQ)(f1 f2:cu):cu:=fun r w=>l0 (p w.1 r) fun c=>if c=true then f1 r w else f2 r w
theorem pX{q:D->FQ}(hc:∀g' kd,fR X g' i C kd->SQ X g' m c (q kd))(h1:eU X g i C m sts f1 m')(h2:eU X g i C m sts' f2 m'):iA X g i C m (.If c sts sts' pos) (l6 q f1 f2) m':=by
 have hA:PT X c (fun σ H Q=>∃g' kd,fR X g' i C kd/\tQ X g' m (q kd) σ H Q):=fun pz s σ H Q I ⟨g',kd,k,z⟩=>hc g' kd k pz s σ H Q I z;refine PS.imp (qj hA h1 h2) fun D σ H ⟨a,dx,pl,r,w,G,s,z⟩=>⟨_,w.1,s.kept,r,G,s.toH,ba (oz z) fun c z G' H' wg=>?_⟩
 have s':=s.after (s.toH.grow wg) s.mi;cases c with
|true=>rw[if_pos rfl]at z;show(if true=true then _ else _);rw[if_pos rfl];exact⟨a,dx,pl,r,w,G',s',z.gle wg.ge⟩
|false=>rw[if_neg g_]at z;show(if false=true then _ else _);rw[if_neg g_];exact⟨a,dx,pl,r,w,G',s',z.gle wg.ge⟩
def pF(fe:D->FE):cu:=fun r w=>l0 (fe w.1 r) fun d=>.nx r (d,w.2)
theorem Jq{fe:D->FE}(hb:Nb g m i)(cl:Cls X.K C)(na:eZ X.K C "kept")(hN:X.N[i]? = some x)(hv:dz X.env.scope x)(he:∀g' kd,fR X g' i C kd->SE X g' m e (fe kd))(hd:(x==("__debug__" : Str))=false:=by decide)(B:(x==("__classdict__" : Str))=false:=by decide)(hs:Uw e (some (.Attribute (.Name x p) "kept" pos')) pos.line X.env=pure false:=by rfl):iA X g i C m (.Assign [.Attribute (.Name x p) "kept" pos'] e pos) (pF fe) m:=by
 have hA:PE X e (fun σ H Q=>∃g' kd,fR X g' i C kd/\tE X g' m (fe kd) σ H Q):=fun pz s σ H Q I ⟨g',kd,k,z⟩=>he g' kd k pz s σ H Q I z;refine PS.imp (og (dM hN hv hd B) hA hs) fun D σ H ⟨a,dx,pl,r,w,G,s,z⟩=>⟨_,w.1,s.kept,r,G,s.toH,ba (oz z) fun d z v G' H' wg rv=>?_⟩
 have s':=s.after (s.toH.grow wg) s.mi;obtain⟨kv,e1,r1⟩:=s'.ob.ob;obtain⟨L,M,U⟩:=s'.ob.ne;refine⟨_,s'.me,a,C,dx,_,rfl,e1,cl,na,by show 2<1000;decide,z σ G' _ wg.ge (s'.chg hb (fun b hb=>bf fun z=>hb (by simp[z])) ⟨⟨v,bB,rv⟩,by rw[bf (UX L)];exact s'.ob.od,?_,s'.ob.un⟩)⟩;obtain⟨xs,e2,r2⟩:=s'.ob.ls;exact⟨xs,by rw[bf (UX M)];exact e2,r2⟩
end
theorem vY{kv v:V}:Up ("past" : Str) [(("kept" : Str),kv),(("past" : Str),v)]=some v:=by rw[Up,show(("past" : Str)==("kept" : Str))=false by decide];simp[Up]
theorem Mn{kv v:V}:Up ("kept" : Str) [(("kept" : Str),kv),(("past" : Str),v)]=some kv:=by simp[Up]
def jA(H:Hp)(fp:List Addr):Hp:=fun b=>if b∈fp then none else H b
variable{j:Nat}{ms:List Md}{es:List Expr}{p1 p2 p3 apos cpos:Pos}{y mt:Str}
section
variable{p4:Pos}{x:Str}
def tz:cu:=fun r w=>if w.2.length<sizeLine then .nx r (w.1,w.2++[w.1])else .stuck
theorem Si(hb:Nb g m i)(cl:Cls X.K C)(nk:eZ X.K C "kept")(np:eZ X.K C "past")(hN:X.N[i]? = some x)(hv:dz X.env.scope x)(hd:(x==("__debug__" : Str))=false:=by decide)(U:(x==("__classdict__" : Str))=false:=by decide)(b1:Uo (.Name x p1) "past" X.env (eval (.Name x p1) X.env)=eval (.Name x p1) X.env:=by rfl)(b2:Uo (.Name x p3) "kept" X.env (eval (.Name x p3) X.env)=eval (.Name x p3) X.env:=by rfl)(L:Uo (.Attribute (.Name x p1) "past" p2) "append" X.env (eval (.Attribute (.Name x p1) "past" p2) X.env)=eval (.Attribute (.Name x p1) "past" p2) X.env:=by rfl)(Z:((backTo cpos (i_ [.Attribute (.Name x p3) "kept" p4] X.env)).all (fun x=>! x.1)&&(Wk cpos (Vz [] X.env)).all (fun x=>x.1.isSome)&&decide ([Expr.Attribute (.Name x p3) "kept" p4].length+([]:List Xh).length+(if ([]:List Xh).isEmpty then 0 else 1)<30))=true:=by rfl)(M:(apos.endLine==cpos.line)=true:=by rfl)(Y:i_ [.Attribute (.Name x p3) "kept" p4] X.env=(false,eval (.Attribute (.Name x p3) "kept" p4) X.env)::i_ [] X.env:=by rfl)(B:(backTo cpos (i_ [] X.env)).any (·.1)=false:=by rfl)(hs:Uw (.Call (.Attribute (.Attribute (.Name x p1) "past" p2) "append" apos) [.Attribute (.Name x p3) "kept" p4] [] cpos) none pos.line X.env=pure false:=by rfl):iA X g i C m (.Expr (.Call (.Attribute (.Attribute (.Name x p1) "past" p2) "append" apos) [.Attribute (.Name x p3) "kept" p4] [] cpos) pos) tz m:=by
 refine PS.imp (qT (tU PySem.F.plainAttrs_list PySem.F.slot_list_append PySem.F.type_list_append iR (mT (dM hN hv hd U) b1) (ff (mT (dM hN hv hd U) b2) iN Y) L Z M Y B) hs) fun D σ H ⟨a,dx,pl,r,w,G,s,q⟩=>?_;obtain⟨kv,e1,r1⟩:=s.ob.ob;obtain⟨xs,e2,r2⟩:=s.ob.ls;obtain⟨dl,ad,ac⟩:=s.ob.ne;unfold tz at q;split at q
 .rename_i hl;have hx:=Paired.length r2;refine⟨_,s.me,a,C,dx,_,V.ref pl,rfl,e1,cl,np,vY,.inl ⟨rfl,_,bh.of e2⟩,_,s.me,a,C,dx,_,kv,rfl,e1,cl,nk,Mn,pl,xs,kv,rfl,rfl,e2,by omega,?_⟩;refine q σ G _ (aR.refl G) (s.chg hb (fun b hb=>bf fun z=>hb (by simp[z])) ⟨⟨kv,by rw[bf ad];exact e1,r1⟩,by rw[bf ac];exact s.ob.od,⟨_,bB,Paired.snoc r2 r1⟩,s.ob.un⟩)
 .exact q.elim
def mG:cu:=fun r w=>if w.2.isEmpty=true then .stuck else .nx r w
theorem Ke{sts:List Stmt}(cl:Cls X.K C)(np:eZ X.K C "past")(hN:X.N[i]? = some x)(hv:dz X.env.scope x)(hd:(x==("__debug__" : Str))=false:=by decide)(B:(x==("__classdict__" : Str))=false:=by decide)(b1:Uo (.Name x p1) "past" X.env (eval (.Name x p1) X.env)=eval (.Name x p1) X.env:=by rfl)(he:∀whole,isTrue (.Attribute (.Name x p1) "past" p2) X.env whole=(do let v <-whole;Ww (Expr.Attribute (.Name x p1) "past" p2).pos;VT [v] (Zx v)):=by intro _;rfl):iA X g i C m (.If (.UnaryOp .Not (.Attribute (.Name x p1) "past" p2) p3) sts [] pos) mG m:=by
 have hF:bW X sts (fun _ _ _=>False):=fun pz s σ H D I q=>q.elim;refine PS.imp (qj (vA (xE (mT (dM hN hv hd B) b1) he)) hF kF) fun D σ H ⟨a,dx,pl,r,w,G,s,q⟩=>?_;obtain⟨kv,e1,r1⟩:=s.ob.ob;obtain⟨xs,e2,r2⟩:=s.ob.ls;unfold mG at q;split at q
 .exact q.elim
 .rename_i hl;have hx:xs.isEmpty=false:=by have:=Paired.length r2;cases xs with
  |nil=>exact absurd (by rw[List.isEmpty_iff];exact List.length_eq_zero_iff.mp this.symm) hl
  |cons _ _=>rfl
  refine⟨_,s.me,a,C,dx,_,V.ref pl,rfl,e1,cl,np,vY,! xs.isEmpty,.inl ⟨xs,bh.of e2,rfl⟩,?_⟩;show(if (!!xs.isEmpty)=true then _ else _);rw[hx,if_neg (by decide)];exact q σ G H (aR.refl G) s
def mK:cu:=fun r w=>match w.2.getLast? with
|some d=>.nx r (d,w.2.dropLast)
|none=>.stuck
theorem FV{α β:Type}{F:α->β->Prop}{l:List α}{r:List β}{b:β}(h:Paired F l r)(e:r.getLast? = some b):∃a,l[l.length-1]? = some a/\F a b:=by rw[List.getLast?_eq_getElem?]at e;obtain⟨a,e1,f1⟩:=DL.Paired.get h e;exact⟨a,by rw[Paired.length h];exact e1,f1⟩
theorem JR(hb:Nb g m i)(cl:Cls X.K C)(nk:eZ X.K C "kept")(np:eZ X.K C "past")(hN:X.N[i]? = some x)(hv:dz X.env.scope x)(hd:(x==("__debug__" : Str))=false:=by decide)(M:(x==("__classdict__" : Str))=false:=by decide)(b1:Uo (.Name x p1) "past" X.env (eval (.Name x p1) X.env)=eval (.Name x p1) X.env:=by rfl)(B:Uo (.Attribute (.Name x p1) "past" p2) "pop" X.env (eval (.Attribute (.Name x p1) "past" p2) X.env)=eval (.Attribute (.Name x p1) "past" p2) X.env:=by rfl)(L:(apos.endLine==cpos.line)=true:=by rfl)(hs:Uw (.Call (.Attribute (.Attribute (.Name x p1) "past" p2) "pop" apos) [] [] cpos) (some (.Attribute (.Name x p) "kept" pos')) pos.line X.env=pure false:=by rfl):iA X g i C m (.Assign [.Attribute (.Name x p) "kept" pos'] (.Call (.Attribute (.Attribute (.Name x p1) "past" p2) "pop" apos) [] [] cpos) pos) mK m:=by
 refine PS.imp (og (dM hN hv hd M) (vE PySem.F.plainAttrs_list PySem.F.slot_list_pop PySem.F.type_list_pop CP (mT (dM hN hv hd M) b1) B L) hs) fun D σ H ⟨a,dx,pl,r,w,G,s,q⟩=>?_;obtain⟨kv,e1,r1⟩:=s.ob.ob;obtain⟨xs,e2,r2⟩:=s.ob.ls;obtain⟨Y,U,Z⟩:=s.ob.ne;unfold mK at q;split at q
 .rename_i d hd';obtain⟨y,ey,ry⟩:=FV r2 hd';refine⟨_,s.me,a,C,dx,_,V.ref pl,rfl,e1,cl,np,vY,.inl ⟨rfl,_,bh.of e2⟩,pl,xs,y,rfl,rfl,e2,ey,?_⟩;refine⟨_,s.me,a,C,dx,_,rfl,by rw[bf U];exact e1,cl,nk,by show 2<1000;decide,?_⟩;have hdl:bx X.K G xs.dropLast w.2.dropLast:=by rw[VM,VM,Paired.length r2];exact Paired.tk _ r2
  refine q σ G _ (aR.refl G) (s.chg hb (fun b hb=>?_) ⟨⟨y,bB,ry⟩,by rw[bf (UX Y),bf Z];exact s.ob.od,⟨_,by rw[bf (UX U),bB],hdl⟩,s.ob.un⟩);rw[bf fun z=>hb (by simp[z]),bf fun z=>hb (by simp[z])]
 .exact q.elim
abbrev gH:=DW->List D->Option (D×DW)
def A8(K:W.Frag)(C:Addr)(ms:List Md)(F:gH):Sp:=fun vs H Q _=>∃G a dx pl w us ds,vs=.ref a::us/\aU K G H/\DkR K G H C a dx pl w/\ArgsOk K G H ms us ds /\∃d w',F w ds=some (d,w')/\∀v G' H',Grow K G (jA H [a,dx,pl]) G' H'->DkR K G' H' C a dx pl w'->RG K G' v d->Q v H'
theorem SD.call(s:SD X g i C a dx pl m r w G σ H)(hb:Nb g m i)(wg:Grow X.K G (jA H [a,dx,pl]) G' H')(d:DkR X.K G' H' C a dx pl w'):SD X g i C a dx pl m r w' G' σ H':=by
 have lh:∀b,b∉[a,dx,pl]->jA H [a,dx,pl] b=H b:=fun b z=>if_neg z;have L:∀b∈[a,dx,pl],(cY g H [a,dx,pl] i a).h0 b≠none:=fun b hb=>by show(if b∈[a,dx,pl]then H b else g.h0 b)≠_;rw[if_pos hb];exact s.ob.isS b hb
 have ho:∀b,b∉[a,dx,pl]->(cY g H' [a,dx,pl] i a).h0 b=g.h0 b:=fun b hb=>by show(if b∈[a,dx,pl]then H' b else g.h0 b)=_;rw[if_neg hb]
 have B:∀b,b∉[a,dx,pl]->(cY g H [a,dx,pl] i a).h0 b=g.h0 b:=fun b hb=>by show(if b∈[a,dx,pl]then H b else g.h0 b)=_;rw[if_neg hb]
 have M:∀b,b∉[a,dx,pl]->g.h0 b≠none->jA H [a,dx,pl] b≠none:=fun b z h=>by rw[lh b z];cases e:g.h0 b with
 |none=>exact absurd e h
 |some o=>rw[s.si.old b o (by rw[B b z];exact e)];simp
 refine⟨d,s.h0,⟨wg.ok,fun b o e=>?_,fun b d e=>wg.ge b d (s.si.ge b d e),fun b e=>?_,s.si.lm,s.si.lr,fun j d h1 h2=>?_,fun j d h1 h2=>?_,fun j d h1 h2=>?_,s.si.dis,s.si.lk⟩,s.mi⟩
 .by_cases z:b∈[a,dx,pl]
  .have:(cY g H' [a,dx,pl] i a).h0 b=H' b:=by show(if b∈[a,dx,pl]then H' b else g.h0 b)=_;rw[if_pos z]
   rw[this]at e;exact e
  .rw[ho b z]at e;exact wg.he b o (by rw[lh b z];exact s.si.old b o (by rw[B b z];exact e))
 .by_cases z:b∈[a,dx,pl]
  .rw[d.un b z];have h1:=s.si.gf b (L b z);rw[s.ob.un b z]at h1;exact h1
  .rw[ho b z]at e;exact(wg.gf b (M b z e)).trans (s.si.gf b (by rw[B b z];exact e))
 .obtain⟨v,q1,q2⟩:=s.si.sh j d h1 h2;exact⟨v,q1,q2.mono wg.ge⟩
 .obtain⟨c,q1,q2,q3⟩:=s.si.ow j d h1 h2;have z:c∉[a,dx,pl]:=fun z=>L c z q3;have hc:jA H [a,dx,pl] c≠none:=by rw[lh c z];exact q2.ob.isS
  exact⟨c,q1,⟨by rw[wg.gf c hc];exact q2.un,q2.ob.mono wg.ge fun u hu=>wg.he c u (by rw[lh c z];exact hu)⟩,by rw[ho c z,<-B c z];exact q3⟩
 .by_cases hji:j=i
  .subst hji;have l:=(s.si.lk j (some (V.ref a),none) (by show(if j=j then _ else _)=_;rw[if_pos rfl]) s.mi).2 d h1;cases l
  .obtain⟨v,ev⟩:=hb j hji h2;have l:=(s.si.lk j (v,none) (by show(if j=i then _ else _)=_;rw[if_neg hji];exact ev) h2).2 d h1;cases l
end
theorem SD.grown(s:SD X g i C a dx pl m r w G σ H):Grow X.K g.gh g.h0 G H:=by have out:∀b,g.h0 b≠none->b∉[a,dx,pl]:=fun b h z=>h (s.h0 b z);have ho:∀b,g.h0 b≠none->(cY g H [a,dx,pl] i a).h0 b=g.h0 b:=fun b h=>if_neg (out b h);exact⟨s.si.gok,fun b o e=>s.si.old b o (by rw[ho b (by rw[e];simp)];exact e),s.si.ge,fun b h=>s.si.gf b (by rw[ho b h];exact h)⟩
theorem Od{N:List Str}{ms:List Md}{us:List V}{ds:List D}(gk:aU X.K G H)(dk:DkR X.K G H C a dx pl w)(rs:ArgsOk X.K G H ms us ds)(hn:ms.length+1<=N.length):SD X ⟨G,jA H [a,dx,pl],fun _=>none⟩ 0 C a dx pl (eI N.length (.bw::ms)) (none::(ds.map some++q_ (N.length-(ds.length+1)) none)) w G (L2.aJ N (.ref a::us)) H:=by
 have s0:=re (X:=X) (N:=N) (ms:=.bw::ms) (vs:=.non::us) (ds:=.non::ds) gk (.bw (.inl (.scl .non)) rs) (by simpa using hn);have e1:(L2.aJ N (.ref a::us)).length=(L2.aJ N (.non::us)).length:=by unfold L2.aJ;simp
 have B:∀i:Nat,i≠0->(L2.aJ N (.ref a::us))[i]? = (L2.aJ N (.non::us))[i]?:=fun i hi=>by
  obtain⟨j,rfl⟩:∃j,i=j+1:=⟨i-1,by omega⟩
  unfold L2.aJ;simp
 have er:∀i d,(none::(ds.map some++q_ (N.length-(ds.length+1)) none):am)[i]? = some (some d)->i≠0/\(aE N.length (.non::ds))[i]? = some (some d):=fun i d h=>by cases i with
 |zero=>simp at h
 |succ j=>refine⟨by omega,?_⟩;unfold aE;simpa using h
 have eg:cY ⟨G,jA H [a,dx,pl],fun _=>none⟩ H [a,dx,pl] 0 a=⟨G,H,fun j=>if j=0 then some (some (V.ref a),none)else none⟩:=by
  unfold cY jA;congr 1;funext b;by_cases z:b∈[a,dx,pl]
  .rw[if_pos z]
  .rw[if_neg z];exact if_neg z
 refine⟨dk,fun b hb=>if_pos hb,?_,by unfold eI;simp⟩;rw[eg];refine⟨s0.gok,s0.old,s0.ge,s0.gf,by rw[e1];exact s0.lm,?_,fun i d h hm=>?_,fun i d h hm=>?_,fun i d h hm=>?_,fun i j c d e hij hi hj=>?_,fun i o h hm=>?_⟩
 .rw[e1,<-s0.lr];unfold aE;simp
 .obtain⟨z,q⟩:=er i d h;rw[B i z];exact s0.sh i d q hm
 .obtain⟨z,q⟩:=er i d h;rw[B i z];exact s0.ow i d q hm
 .obtain⟨z,q⟩:=er i d h;rw[B i z];exact s0.bw i d q hm
 .obtain⟨z,q⟩:=er i d hi;obtain⟨z',q'⟩:=er j e hj;rw[B i z,B j z'];exact s0.dis i j c d e hij q q'
 .have h:(if i=0 then some (some (V.ref a),none)else none)=some o:=h;split at h
  .rename_i hi;subst hi;cases h;exact⟨by unfold L2.aJ;simp,fun d h=>by simp at h⟩
  .cases h
def dX:OutD->Option (D×DW)
|.nx _ w=>some (.non,w)
|.rt d w=>some (d,w)
|.stuck=>none
def bS(n:Nat)(ds:List D):am:=none::(ds.map some++q_ (n-(ds.length+1)) none)
variable{P:E_}{mg:Str->Option a_}{base:Heap}
section
variable{w:S_}
theorem Dx{x qual:Str}{st:Stmt}{f:Addr}{fd:UE}{N ps:List Str}{k:Nat}{ms:List Md}{fs:cu}{m':List Md}(F:Fun K x qual st f fd)(S:FnScope N ps (aa st))(L:ms.length+1=ps.length)(B:∀(cdv:a_)(A:Uc)(outer:List Env)(s:f_)(H:Hp)(g:GE)(E:XK),Room k (A.deeper (VB qual (aa st) s.heap.objs.size f cdv)) ->eU (cr cO P w K mg base N qual (aa st) f cdv A outer s H E).nox g 0 C (eI N.length (.bw::ms)) (ap st) fs m'):FnOk P w K mg base cO (k+1) f fd ps (A8 K C ms fun z ds=>dX (fs (bS N.length ds) z)):=by
 refine F.ok S (fun vs H Q E ⟨G,a,dx,pl,z,us,ds,hv,gk,dk,rs,q⟩=>by rw[hv,x_,rs.len.1];exact L) fun cdv A outer s H vs Q E hr h=>?_;obtain⟨G,a,dx,pl,z,us,ds,rfl,gk,dk,rs,d,z',e,q⟩:=h;have hpl:ps.length<=N.length:=by have:=congrArg V_ S.pre;rw[Ux]at this;omega
 replace e:dX (fs (bS N.length ds) z)=some (d,z'):=e;refine⟨_,B cdv A outer s H ⟨G,jA H [a,dx,pl],fun _=>none⟩ E hr,a,dx,pl,bS N.length ds,z,G,Od gk dk rs (by omega),?_⟩;cases ez:fs (bS N.length ds) z with
|nx r' w'=>rw[ez]at e;cases e;exact fun σ' G' H' le s'=>q .non G' H' s'.grown s'.ob (.scl .non)
|rt d' w'=>rw[ez]at e;cases e;exact fun v G' H' le wg M rv=>q v G' H' wg M rv
|stuck=>rw[ez]at e;cases e
structure CalleeT(P:E_)(w:S_)(K:W.Frag)(mg:Str->Option a_)(base:Heap)(mt:Str)(ps:List Str)(k:Nat)(C:Addr)(ms:List Md)(F:gH):Prop where
 ex:Cls K C/\∃f fd,Meth K C mt f/\fK K fd ps []/\FnOk P w K mg base cO k f fd ps (A8 K C ms F)
structure CalleeO(P:E_)(w:S_)(K:W.Frag)(mg:Str->Option a_)(base:Heap)(x:Str)(ps:List Str)(k:Nat)(C:Addr)(ms:List Md)(F:gH):Prop where
 ex:∃f fd,mg x=some (.ref f)/\W.keepIn K (.ref f)=true/\fK K fd ps []/\FnOk P w K mg base cO k f fd ps (A8 K C ms F)
theorem Ez{nm mt qual:Str}{st:Stmt}{N ps:List Str}{k:Nat}{ms:List Md}{fs:cu}{m':List Md}(A:MethAt K nm mt qual st)(xn:XN K nm C)(S:FnScope N ps (aa st))(L:ms.length+1=ps.length)(hb:∀(kV doc pm:a_)(an:Option Addr)(cdv ct:a_)(us:List a_),us.length=ps.length->Wd (W.fnOf mt qual (aC st) (ap st) (aa st) .none kV doc pm an cdv ct) ⟨us,[]⟩=pure (ps.zip us))(B:∀(f:Addr)(cdv:a_)(A:Uc)(outer:List Env)(s:f_)(H:Hp)(g:GE)(E:XK),Room k (A.deeper (VB qual (aa st) s.heap.objs.size f cdv)) ->eU (cr cO P w K mg base N qual (aa st) f cdv A outer s H E).nox g 0 C (eI N.length (.bw::ms)) (ap st) fs m'):CalleeT P w K mg base mt ps (k+1) C ms fun z ds=>dX (fs (bS N.length ds) z):=by obtain⟨C',f,fd,hC,cl,me,F⟩:=A.ex;have:=hC C xn;subst this;exact⟨cl,f,fd,me,F.binds hb,Dx F S L (B f)⟩
theorem Mq{x:Str}{st:Stmt}{N ps:List Str}{k:Nat}{ms:List Md}{fs:cu}{m':List Md}(A:DefAt K mg x st)(S:FnScope N ps (aa st))(L:ms.length+1=ps.length)(hb:∀(kV doc pm:a_)(an:Option Addr)(cdv ct:a_)(us:List a_),us.length=ps.length->Wd (W.fnOf x x (aC st) (ap st) (aa st) .none kV doc pm an cdv ct) ⟨us,[]⟩=pure (ps.zip us))(B:∀(f:Addr)(cdv:a_)(A:Uc)(outer:List Env)(s:f_)(H:Hp)(g:GE)(E:XK),Room k (A.deeper (VB x (aa st) s.heap.objs.size f cdv)) ->eU (cr cO P w K mg base N x (aa st) f cdv A outer s H E).nox g 0 C (eI N.length (.bw::ms)) (ap st) fs m'):CalleeO P w K mg base x ps (k+1) C ms fun z ds=>dX (fs (bS N.length ds) z):=by obtain⟨f,fd,h1,F⟩:=A.ex;exact⟨f,fd,h1,F.kp,F.binds hb,Dx F S L (B f)⟩
end
variable{fn:Str}{ps:List Str}{F:gH}
section
variable{k:Nat}{x:Str}
theorem BQ{kv v:V}(h1:(mt==("kept" : Str))=false)(h2:(mt==("past" : Str))=false):Up mt [(("kept" : Str),kv),(("past" : Str),v)]=none:=by rw[Up,h1];simp only[Up,h2]
theorem SD.setv(s:SD X g i C a dx pl m r w G σ H)(hij:j≠i){v:V}{d:D}(rv:RG X.K G v d):SD X g i C a dx pl (m.set j .sh) (r.set j (some d)) w G (σ.set j (some v)) H:=⟨s.ob,s.h0,s.si.set j rv,by rw[d_ hij];exact s.mi⟩
def qp(F:gH):cu:=fun r w=>match F w []with
|some (_,w')=>.nx r w'
|none=>.stuck
theorem Lc{pl:Sem Bool}(c:CalleeT X.prog X.w X.K X.mg X.base mt ps k C [] F)(hr:Room k X.A)(hb:Nb g m i)(hN:X.N[i]? = some x)(hv:dz X.env.scope x)(hd:(x==("__debug__" : Str))=false:=by decide)(B:(x==("__classdict__" : Str))=false:=by decide)(n1:(mt==("kept" : Str))=false:=by decide)(n2:(mt==("past" : Str))=false:=by decide)(ht:eval (.Call (.Attribute (.Name x p) mt apos) [] [] cpos) X.env=(do
   let ov <-eval (.Name x p) X.env
   Ww apos.atName
   let(f,first) <-VT [ov] (W6 ov mt pl)
   Yb cpos f first (backTo cpos (i_ [] X.env)) (Wk cpos (Vz [] X.env))):=by rfl)(hs:Uw (.Call (.Attribute (.Name x p) mt apos) [] [] cpos) none pos.line X.env=pure false:=by rfl):iA X g i C m (.Expr (.Call (.Attribute (.Name x p) mt apos) [] [] cpos) pos) (qp F) m:=by obtain⟨cl,f,fd,me,bd,fo⟩:=c.ex;refine PS.imp (qT (OE (pl:=pl) (dvs:=[]) (ds:=[]) (dM hN hv hd B) cl me fo hr bd .nil ji ht) hs) fun D σ H ⟨a,dx,pl,r,w,G,s,q⟩=>?_;obtain⟨kv,e1,r1⟩:=s.ob.ob;unfold qp at q;cases ef:F w []with
|none=>rw[ef]at q;exact q.elim
|some z=>obtain⟨d,w'⟩:=z;rw[ef]at q;refine⟨_,s.me,a,dx,_,rfl,e1,BQ n1 n2,G,a,dx,pl,w,[],[],rfl,s.si.gok,s.ob,.nil,d,w',ef,fun v G' H' wg dk rv=>q σ G' H' wg.ge (s.call hb wg dk)⟩
def uZ(j:Nat)(fl:D->am->Res (List D))(F:gH):cu:=fun r w=>l0 (fl w.1 r) fun ds=>match F w ds with
|some (d,w')=>.nx (r.set j (some d)) w'
|none=>.stuck
theorem Ld{pl:Sem Bool}(j:Nat){fl:D->am->Res (List D)}(c:CalleeT X.prog X.w X.K X.mg X.base mt ps k C ms F)(hr:Room k X.A)(hij:j≠i)(hb:Nb g m i)(hN:X.N[i]? = some x)(hv:dz X.env.scope x)(U:X.N.Nodup)(M:X.N[j]? = some y)(hy:fW X.env.scope y)(ha:∀g' kd,fR X g' i C kd->gG X g' m (e::es) ms (fl kd))(hd:(x==("__debug__" : Str))=false:=by decide)(B:(x==("__classdict__" : Str))=false:=by decide)(n1:(mt==("kept" : Str))=false:=by decide)(n2:(mt==("past" : Str))=false:=by decide)(L:i_ (e::es) X.env=(false,eval e X.env)::i_ es X.env:=by rfl)(hpl:(backTo cpos (i_ es X.env)).any (·.1)=false:=by rfl)(ht:eval (.Call (.Attribute (.Name x p) mt apos) (e::es) [] cpos) X.env=(do
   let ov <-eval (.Name x p) X.env
   Ww apos.atName
   let(f,first) <-VT [ov] (W6 ov mt pl)
   Yb cpos f first (backTo cpos (i_ (e::es) X.env)) (Wk cpos (Vz [] X.env))):=by rfl)(hs:Uw (.Call (.Attribute (.Name x p) mt apos) (e::es) [] cpos) (some (.Name y pos')) pos.line X.env=pure false:=by rfl)(hf:X.fn y=true\/X.env.scope.names.lookup y=some .local:=by first|exact .inl rfl|exact .inr rfl|assumption):iA X g i C m (.Assign [.Name y pos'] (.Call (.Attribute (.Name x p) mt apos) (e::es) [] cpos) pos) (uZ j fl F) (m.set j .sh):=by obtain⟨cl,f,fd,me,bd,fo⟩:=c.ex;have hA:PA X (e::es) (fun σ H Q=>∃g' kd,fR X g' i C kd/\pC X g' m ms (fl kd) σ H Q):=fun pos pz s σ H Q I ⟨g',kd,k,z⟩=>ha g' kd k pos pz s σ H Q I z;refine PS.imp (mO U M hy (L9 (pl:=pl) (dvs:=[]) (ds:=[]) (dM hN hv hd B) cl me fo hr bd .nil ji hA L hpl ht) hs hf) fun D σ H ⟨a,dx,pl,r,w,G,s,q⟩=>?_;obtain⟨kv,e1,r1⟩:=s.ob.ob;refine⟨_,s.me,a,dx,_,rfl,e1,BQ n1 n2,_,w.1,s.kept,r,G,s.toH,ba (oz q) fun ds q us G1 H1 w1 rs=>?_⟩;have s1:=s.after (s.toH.grow w1) s.mi;cases ef:F w ds with
|none=>rw[ef]at q;exact q.elim
|some z=>obtain⟨d,w'⟩:=z;rw[ef]at q;refine⟨G1,a,dx,pl,w,us,ds,by simp,w1.ok,s1.ob,rs,d,w',ef,fun v G' H' wg dk rv=>q _ G' H' (aR.trans w1.ge wg.ge) ((s1.call hb wg dk).setv hij rv)⟩
def n8(fl:D->am->Res (List D))(F:gH):cu:=fun r w=>l0 (fl w.1 r) fun ds=>match F w ds with
|some (.bl true,w')=>.nx r w'
|some (.bl false,w')=>.rt (.bl false) w'
|_=>.stuck
end
variable{pn px:Pos}
section
variable{k:Nat}{iter:Expr}{rpos:Pos}{x:Str}{s1:cu}
theorem Dt{fl:D->am->Res (List D)}{kk:Nat}(c:CalleeO X.prog X.w X.K X.mg X.base fn ps k C ms F)(hr:Room k X.A)(hb:Nb g m i)(hN:X.N[i]? = some x)(hv:dz X.env.scope x)(ha:∀g' kd,fR X g' i C kd->gG X g' m (e::es) ms (fl kd))(hg:Gl X fn:=by rfl)(hd:(x==("__debug__" : Str))=false:=by decide)(L:(x==("__classdict__" : Str))=false:=by decide)(M:(fn==("__debug__" : Str))=false:=by decide)(B:i_ (.Name x px::e::es) X.env=(false,eval (.Name x px) X.env)::i_ (e::es) X.env:=by rfl)(hpl:(backTo cpos (i_ (e::es) X.env)).any (·.1)=false:=by rfl)(he:∀whole,isTrue (.Call (.Name fn pn) (.Name x px::e::es) [] cpos) X.env whole=(do let v <-whole;Ww (Expr.Call (.Name fn pn) (.Name x px::e::es) [] cpos).pos;VT [v] (Zx v)):=by intro _;rfl):iA X g i C m (.If (.UnaryOp .Not (.Call (.Name fn pn) (.Name x px::e::es) [] cpos) p3) [.Return (some (.Constant (.bool false) kk p2)) rpos] [] pos) (n8 fl F) m:=by obtain⟨f,fd,h1,kp,bd,fo⟩:=c.ex;have hA:PA X (e::es) (fun σ H Q=>∃g' kd,fR X g' i C kd/\pC X g' m ms (fl kd) σ H Q):=fun pos pz s σ H Q I ⟨g',kd,k,z⟩=>ha g' kd k pos pz s σ H Q I z;refine PS.imp (qj (vA (xE (qS (dvs:=[]) (ds:=[]) fo hr hg h1 kp bd .nil ji (ff (dM hN hv hd L) hA B) M B hpl) he)) (jL (vG Ci) kF) kF) fun D σ H ⟨a,dx,pl,r,w,G,s,q⟩=>?_;refine⟨_,s.me,_,w.1,s.kept,r,G,s.toH,ba (oz q) fun ds q us G1 H1 w1 rs=>?_⟩;have sa:=s.after (s.toH.grow w1) s.mi;cases ef:F w ds with
|none=>rw[ef]at q;exact q.elim
|some z=>
  obtain⟨d,w'⟩:=z;rw[ef]at q;refine⟨G1,a,dx,pl,w,us,ds,by simp,w1.ok,sa.ob,rs,d,w',ef,fun v G' H' wg dk rv=>?_⟩;have sc:=sa.call hb wg dk;split at q
  .rename_i e1;cases e1;have:=RG.bl wg.ok rv;subst this;refine⟨true,rfl,?_⟩;show(if (! true)=true then _ else _);rw[if_neg (by decide)];exact q σ G' H' (aR.trans w1.ge wg.ge) sc
  .rename_i e1;cases e1;have:=RG.bl wg.ok rv;subst this;refine⟨false,rfl,?_⟩;show(if (! false)=true then _ else _);rw[if_pos (by decide)];exact q (.bl false) G' H' (aR.trans w1.ge wg.ge) sc.grown sc.ob (.scl (.bl false))
  .exact q.elim
def gp(j:Nat)(body:cu):List D->cu
|[],r,w=>.nx r w
|d::ds,r,w=>match body (r.set j (some d)) w with
 |.nx r' w'=>gp j body ds r' w'
 |o=>o
def tW(fi:FI)(j:Nat)(body:cu):cu:=fun r w=>l0 (fi r) fun ds=>gp j body ds r w
theorem Sj(j:Nat)(hp:WA (G_ X.prog X.w) X.A X.env X.xe)(hc:X.calm=true){fi:FI}(hi:∀g',iC X g' m (.Name y p1) iter fi)(hm:m[j]? = some .sh)(hN:X.N.Nodup)(Z:X.N[j]? = some y)(hy:fW X.env.scope y)(hij:j≠i)(hb:eU X g i C m sts s1 m)(hf:X.fn y=true\/X.env.scope.names.lookup y=some .local:=by first|exact .inl rfl|exact .inr rfl|assumption)(hs:∀x,Ut iter X.env x=pure x:=by intro _;rfl):iA X g i C m (.For (.Name y p1) iter sts [] pos) (tW fi j s1) m:=by
 have ac:m.set j .sh=m:=by obtain⟨hlt,e⟩:=k_.mp hm;rw[<-e];exact List.set_getElem_self hlt
 have U:PI X (.Name y p1) iter (fun σ H R=>∃g',tI X g' m fi σ H R):=fun pz s σ H R I ⟨g',q⟩=>hi g' pz s σ H R I q;refine PS.imp (qF hp hc U (DY hN Z hy hf) hb hs) fun D σ H ⟨a,dx,pl,r,w,G,s,q⟩=>⟨_,r,G,s.toH,ba (oz q) fun ds q J G0 H0 w0 Y=>?_⟩
 refine⟨fun n z σ' H'=>∃r' w' G',SD X g i C a dx pl m r' w' G' σ' H'/\aR G0 G'/\n<=ds.length/\z=ds.length-n/\kR X g i C a dx pl m G' D (gp j s1 (ds.drop n) r' w'),⟨ds.length,r,w,G0,s.after (s.toH.grow w0) s.mi,aR.refl G0,Uf _,rfl,q.gle w0.ge⟩,?_⟩
 rintro n z σ1 H1 ⟨r1,w1,G1,sd1,le1,hn,rfl,q1⟩
 by_cases hlt:n<ds.length
 .have hd:ds.drop n=ds[n]::ds.drop (n+1):=Uz hlt;rw[hd]at q1;unfold gp at q1;refine .inr ⟨Y.go G1 H1 n le1 sd1.si.gok hlt,fun σ' H'=>∃r' w' G',SD X g i C a dx pl m r' w' G' σ' H'/\aR G0 G'/\kR X g i C a dx pl m G' D (gp j s1 (ds.drop (n+1)) r' w'),fun σ' H' ⟨r',w',G',sd',L,q'⟩=>⟨ds.length-(n+1),by omega,r',w',G',sd',L,hlt,rfl,q'⟩,fun x H' y=>?_⟩;obtain⟨G',w',rv⟩:=Y.yld G1 H1 n x H' ds[n] le1 sd1.si.gok y (m_ hlt);have L:aR G0 G':=le1.trans w'.ge;have M:=(sd1.after (sd1.toH.grow w') sd1.mi).setv hij rv;rw[ac]at M;refine⟨a,dx,pl,r1.set j (some ds[n]),w1,G',M,?_⟩;cases eb:s1 (r1.set j (some ds[n])) w1 with
 |nx r' w2=>simp only[eb]at q1;exact fun σ3 G3 H3 B ad=>⟨r',w2,G3,ad,L.trans B,q1.gle (aR.trans w'.ge B)⟩
 |rt d w2=>simp only[eb]at q1;exact fun v G3 H3 B wg dk rv=>q1 v G3 H3 (aR.trans w'.ge B) wg dk rv
 |stuck=>simp only[eb]at q1;exact q1
 .have e:n=ds.length:=by omega
  subst e;rw[VW]at q1;exact .inl ⟨Y.stop G1 H1 le1 sd1.si.gok,q1 σ1 G1 H1 (aR.refl _) sd1⟩
end
theorem aU.own{K:W.Frag}{G:GH}{H:Hp}{b x:Addr}(gk:aU K G H)(e:H b=some (.own x)):G b=none:=by cases h:G b with
|none=>rfl
|some d=>
  exfalso;have rd:∀{u:HO},Rd H b u->u=.own x\/∃o u',(HO.own x:HO)=.frz o u':=fun r=>by
   rcases r with r|⟨o,r⟩
   .rw[e]at r;cases r;exact .inl rfl
   .rw[e]at r;cases r
  cases gk b d h with
 |lst r _=>rcases rd r with z|⟨_,_,z⟩ <;> cases z
 |tup r _=>rcases rd r with z|⟨_,_,z⟩ <;> cases z
 |dic r _=>rw[e]at r;cases r
 |exc r _ _=>rw[e]at r;cases r
 |fld r _=>rw[e]at r;cases r
 |ins r _ _=>rw[e]at r;cases r
def Ij(X:Cx)(g:GE)(m:List Md)(C:Addr)(kd:D):TS:=fun D σ H=>∃r G x dx,NI X g m x C dx r [] G σ H/\∀G' H' pl,aR G G'->Grow X.K g.gh g.h0 G' H'->g.h0 pl=none->DkR X.K G' H' C x dx pl (kd,[])->D.nx σ H'
section
variable{fe:FE}{x0:Str}{p' p2' pos2 lpos:Pos}{kd:D}
theorem Kd(cl:Cls X.K C)(nk:eZ X.K C "kept")(np:eZ X.K C "past")(hN:X.N[0]? = some x0)(hv:dz X.env.scope x0)(he:∀r,∃f:FE,SE X g m e f/\f r=.ok kd)(hl:SO X g m (.List [] lpos) fun _=>.ok (.lst []))(hd:(x0==("__debug__" : Str))=false:=by decide)(Y:(x0==("__classdict__" : Str))=false:=by decide)(hs:Uw e (some (.Attribute (.Name x0 p) "kept" p')) pos.line X.env=pure false:=by rfl)(Cl:Uw (.List [] lpos) (some (.Attribute (.Name x0 p2) "past" p2')) pos2.line X.env=pure false:=by rfl):bW X [.Assign [.Attribute (.Name x0 p) "kept" p'] e pos,.Assign [.Attribute (.Name x0 p2) "past" p2'] (.List [] lpos) pos2] (Ij X g m C kd):=by
 have hA:PE X e (fun σ H Q=>∃f:FE,SE X g m e f/\tE X g m f σ H Q):=fun pz s σ H Q I ⟨f,h,q⟩=>h pz s σ H Q I q;refine bW.imp (jL (og (dM hN hv hd Y) hA hs) (jL (og (dM hN hv hd Y) hl Cl) kF)) fun D σ H ⟨r,G,x,dx,ni,q⟩=>?_;obtain⟨f,hf,ef⟩:=he r;refine⟨f,hf,r,G,ni.si,?_⟩;rw[ef];intro v G1 H1 w1 r1;obtain⟨fs,hx,rf⟩:=ni.ob;cases rf;have U:=w1.he _ _ hx;have Z:G1 x=none:=by rw[w1.gf x (by rw[hx];simp)];exact ni.gx
 have B:=w1.he _ _ ni.od;have ad:dx≠x:=fun z=>by rw[z,U]at B;cases B
 refine⟨_,ni.me,x,C,dx,[],rfl,U,cl,nk,by show 0<1000;decide,?_⟩;have L:SI X g m r G1 σ (aB H1 x (.ins C dx (L2.putF ("kept" : Str) v []))):=(ni.si.grow w1).ins U ni.hx Z;refine⟨r,G1,L,fun b G3 H3 w3 hn ow=>?_⟩;have dl:H3 x=some (.ins C dx [(("kept" : Str),v)]):=w3.he _ _ bB;refine⟨_,ni.me,x,C,dx,_,rfl,dl,cl,np,by show 1<1000;decide,?_⟩;have hb:b≠x:=fun z=>by rw[z,bB]at hn;cases hn
 have ep:L2.putF ("past" : Str) (V.ref b) [(("kept" : Str),v)]=[(("kept" : Str),v),(("past" : Str),V.ref b)]:=by show(if ("kept" : Str)=("past" : Str)then _ else _)=_;rw[if_neg (by decide)];rfl
 have ac:G3 x=none:=by rw[w3.gf x (by rw[bB];simp)];exact Z
 have BT:SI X g m r G3 σ (aB H3 x (.ins C dx (L2.putF ("past" : Str) (V.ref b) [(("kept" : Str),v)]))):=(L.grow w3).ins dl ni.hx ac;have M:H3 dx=some (.own x):=w3.he _ _ (by rw[bf ad];exact B);obtain⟨xs,eb,rb⟩:∃xs,H3 b=some (.lst xs)/\bx X.K G3 xs []:=by cases ow.ob with
 |lst r s=>exact⟨_,r,s⟩
 refine q G3 _ b (aR.trans w1.ge w3.ge) BT.grown ?_ ⟨⟨v,by rw[bB,ep],r1.mono w3.ge⟩,by rw[bf ad];exact M,⟨xs,by rw[bf hb];exact eb,rb⟩,fun c hc=>?_⟩
 .cases e0:g.h0 b with
 |none=>rfl
 |some o=>rw[L.old b o e0]at hn;cases hn
 .simp only[n_,J_,or_false]at hc;rcases hc with rfl|rfl|rfl
  .exact ac
  .exact(L.grow w3).gok.own M
  .exact ow.un
end
def A7(K:W.Frag)(C:Addr)(kd:D):Sp:=fun vs H Q _=>∃G H1 x dx,H=aB (aB H1 dx (.own x)) x (.ins C dx [])/\H1 x=none/\H1 dx=none/\dx≠x/\vs=[.ref x]/\aU K G H1 /\∀G' H' pl,Grow K G H1 G' H'->H1 pl=none->DkR K G' H' C x dx pl (kd,[])->Q .non H'
structure CalleeI(P:E_)(w:S_)(K:W.Frag)(mg:Str->Option a_)(base:Heap)(x:Str)(ps:List Str)(k:Nat)(C:Addr)(kd:D):Prop where
 ex:∃f fd,mg x=some (.ref C)/\Mk K C f/\fK K fd ps []/\FnOk P w K mg base cO k f fd ps (A7 K C kd)
section
variable{w:S_}
theorem Mr{x nm qual:Str}{st:Stmt}{N ps:List Str}{k:Nat}{kd:D}(A:MakeAt K mg x nm qual st)(hC:∀C',XN K nm C'->C'=C)(S:FnScope N ps (aa st))(M:1=ps.length)(hb:∀(kV doc pm:a_)(an:Option Addr)(cdv ct:a_)(us:List a_),us.length=ps.length->Wd (W.fnOf "__init__" qual (aC st) (ap st) (aa st) .none kV doc pm an cdv ct) ⟨us,[]⟩=pure (ps.zip us))(B:∀(f:Addr)(cdv:a_)(A:Uc)(outer:List Env)(s:f_)(H:Hp)(g:GE)(E:XK),Room k (A.deeper (VB qual (aa st) s.heap.objs.size f cdv)) ->bW (cr cO P w K mg base N qual (aa st) f cdv A outer s H E).nox (ap st) (Ij (cr cO P w K mg base N qual (aa st) f cdv A outer s H E).nox g (eI N.length [.sh]) C kd)):CalleeI P w K mg base x ps (k+1) C kd:=by
 obtain⟨C',f,fd,h1,xn,cl,mk,F⟩:=A.ex;have:=hC C' xn;subst this;refine⟨f,fd,h1,mk,F.binds hb,F.ok S (fun vs H Q E ⟨G,H1,a,dx,_,_,_,_,hv,_⟩=>by rw[hv];exact M) fun cdv A outer s H vs Q E hr h=>?_⟩;obtain⟨G,H1,a,dx,rfl,Y,U,L,rfl,gk,q⟩:=h;have hpl:ps.length<=N.length:=by have:=congrArg V_ S.pre;rw[Ux]at this;omega
 refine⟨_,B f cdv A outer s _ ⟨G,H1,fun _=>none⟩ E hr,_,G,a,dx,EU (ms:=[]) (us:=[]) (ds:=[]) gk .nil (by simp;omega) Y U L,?_⟩;exact fun G' H' pl le wg hp dk=>q G' H' pl wg hp dk
end
section
variable{k:Nat}{x:Str}{kd:D}
theorem SI.toD(s:SI X g m r G σ H)(wg:Grow X.K G H G' H')(dk:DkR X.K G' H' C a dx pl w)(hn:∀b∈[a,dx,pl],H b=none)(hi:i<m.length):SD X g i C a dx pl (m.set i .bw) (r.set i none) w G' (σ.set i (some (V.ref a))) H':=by
 have s1:=s.grow wg;have L:∀b,H b≠none->b∉[a,dx,pl]:=fun b h z=>h (hn b z);have ad:∀b∈[a,dx,pl],g.h0 b=none:=fun b hb=>by cases e:g.h0 b with
 |none=>rfl
 |some o=>have:=s.old b o e;rw[hn b hb]at this;cases this
 have gn:∀b∈[a,dx,pl],g.gh b=none:=fun b hb=>by cases e:g.gh b with
 |none=>rfl
 |some d=>have:=s.ge b d e;rw[s.gok.isN (hn b hb)]at this;cases this
 have ho:∀b,b∉[a,dx,pl]->(cY g H' [a,dx,pl] i a).h0 b=g.h0 b:=fun b hb=>if_neg hb;have ac:∀b,b∈[a,dx,pl]->(cY g H' [a,dx,pl] i a).h0 b=H' b:=fun b hb=>if_pos hb;have ne:∀{j:Nat}{x:Md},i≠j->(m.set i .bw)[j]? = some x->m[j]? = some x:=fun h e=>by rw[d_ h]at e;exact e
 have U:i<r.length:=by rw[s.lr,<-s.lm];exact hi
 have Y:i<σ.length:=by rw[<-s.lm];exact hi
 have B:∀{j:Nat}{d:D},(r.set i none)[j]? = some (some d)->i≠j/\r[j]? = some (some d):=fun{j d} h=>by
  by_cases z:i=j
  .subst z;rw[o_ U]at h;cases h
  .rw[d_ z]at h;exact⟨z,h⟩
 refine⟨dk,ad,⟨wg.ok,fun b o e=>?_,s1.ge,fun b e=>?_,by simpa using s.lm,by simpa using s.lr,fun j d h1 h2=>?_,fun j d h1 h2=>?_,fun j d h1 h2=>?_,fun j l b d e Z h1 h2 m1 m2 z1 z2=>?_,fun j o hj hm=>?_⟩,by rw[o_ hi]⟩
 .by_cases z:b∈[a,dx,pl]
  .rw[ac b z]at e;exact e
  .rw[ho b z]at e;exact s1.old b o e
 .by_cases z:b∈[a,dx,pl]
  .rw[dk.un b z];exact(gn b z).symm
  .rw[ho b z]at e;exact s1.gf b e
 .obtain⟨hij,h1⟩:=B h1;rw[d_ hij];exact s1.sh j d h1 (ne hij h2)
 .obtain⟨hij,h1⟩:=B h1;obtain⟨b,q1,q2,q3⟩:=s.ow j d h1 (ne hij h2);have z:=L b q2.ob.isS;rw[d_ hij];exact⟨b,q1,q2.mono wg,by rw[ho b z];exact q3⟩
 .obtain⟨hij,h1⟩:=B h1;obtain⟨v,q1,q2⟩:=s.bw j d h1 (ne hij h2);rw[d_ hij];refine⟨v,q1,?_⟩;rcases q2 with q2|⟨b,rfl,q2,q3⟩
  .exact .inl (q2.mono wg.ge)
  .exact .inr ⟨b,rfl,q2.mono wg,by rw[ho b (L b q2.ob.isS)];exact q3⟩
 .obtain⟨hij,h1⟩:=B h1;obtain⟨M,h2⟩:=B h2;rw[d_ hij]at z1;rw[d_ M]at z2;exact s.dis j l b d e Z h1 h2 (ne hij m1) (ne M m2) z1 z2
 .by_cases hij:i=j
  .subst hij;have hj:(if i=i then some (some (V.ref a),none)else g.hd i)=some o:=hj;rw[if_pos rfl]at hj;cases hj;exact⟨by rw[o_ Y],fun d h=>absurd rfl (B h).1⟩
  .have hj:(if j=i then some (some (V.ref a),none)else g.hd j)=some o:=hj;rw[if_neg (UX hij)]at hj;obtain⟨l1,l2⟩:=s.lk j o hj (ne hij hm);exact⟨by rw[d_ hij];exact l1,fun d h=>l2 d (B h).2⟩
end
variable{i':Nat}{a' dx' pl':Addr}{G0:GH}{H0:Hp}
section
variable{k:Nat}
theorem SD.swap(s:SD X (hG g G0 H0 [a',dx',pl'] i' a') i C a dx pl m r w G σ H)(d:DkR X.K G0 H0 C a' dx' pl' w')(h0:∀b∈[a',dx',pl'],g.h0 b=none)(hi:i≠i')(hm:m[i']? = some .bw):SD X (hG g G H [a,dx,pl] i a) i' C a' dx' pl' m r w' G σ H:=by
 have e2:∀b∈[a',dx',pl'],(hG g G0 H0 [a',dx',pl'] i' a').h0 b=H0 b:=fun b hb=>if_pos hb;have B:∀b∈[a',dx',pl'],b∉[a,dx,pl]:=fun b hb z=>by have:=s.h0 b z;rw[e2 b hb]at this;exact d.isS b hb this
 have hh:∀b∈[a',dx',pl'],(cY (hG g G0 H0 [a',dx',pl'] i' a') H [a,dx,pl] i a).h0 b=H0 b:=fun b hb=>(if_neg (B b hb)).trans (e2 b hb);have old:∀b∈[a',dx',pl'],H b=H0 b:=fun b hb=>by cases e:H0 b with
 |none=>exact absurd e (d.isS b hb)
 |some o=>exact s.si.old b o (by rw[hh b hb];exact e)
 have un:∀b∈[a',dx',pl'],G b=none:=fun b hb=>(s.si.gf b (by rw[hh b hb];exact d.isS b hb)).trans (d.un b hb);have eg:cY (hG g G H [a,dx,pl] i a) H [a',dx',pl'] i' a'=⟨G,(cY (hG g G0 H0 [a',dx',pl'] i' a') H [a,dx,pl] i a).h0,(cY (hG g G0 H0 [a',dx',pl'] i' a') H [a,dx,pl] i a).hd⟩:=by
  have e1:(cY (hG g G H [a,dx,pl] i a) H [a',dx',pl'] i' a').h0=(cY (hG g G0 H0 [a',dx',pl'] i' a') H [a,dx,pl] i a).h0:=by
   funext b;show(if b∈[a',dx',pl']then H b else if b∈[a,dx,pl]then H b else g.h0 b)=(if b∈[a,dx,pl]then H b else if b∈[a',dx',pl']then H0 b else g.h0 b)
   by_cases z:b∈[a',dx',pl']
   .rw[if_pos z,if_neg (B b z),if_pos z];exact old b z
   .rw[if_neg z,if_neg z]
  have e3:(cY (hG g G H [a,dx,pl] i a) H [a',dx',pl'] i' a').hd=(cY (hG g G0 H0 [a',dx',pl'] i' a') H [a,dx,pl] i a).hd:=by
   funext j;show(if j=i' then some (some (V.ref a'),none)else if j=i then some (some (V.ref a),none)else g.hd j)=(if j=i then some (some (V.ref a),none)else if j=i' then some (some (V.ref a'),none)else g.hd j)
   by_cases z:j=i'
   .rw[if_pos z,if_neg (by rw[z];exact UX hi),if_pos z]
   .rw[if_neg z,if_neg z]
  rw[<-e1,<-e3];rfl
 refine⟨d.mono s.si.ge old un,fun b hb=>?_,?_,hm⟩
 .show(if b∈[a,dx,pl]then H b else g.h0 b)=none;rw[if_neg (B b hb)];exact h0 b hb
 .rw[eg];exact⟨s.si.gok,s.si.old,fun _ _ e=>e,fun _ _=>rfl,s.si.lm,s.si.lr,s.si.sh,s.si.ow,s.si.bw,s.si.dis,s.si.lk⟩
def p6(X:Cx)(g:GE)(i':Nat)(C:Addr)(w':DW):Prop:=∃g0 G0 H0 a' dx' pl',g=hG g0 G0 H0 [a',dx',pl'] i' a'/\DkR X.K G0 H0 C a' dx' pl' w'/\∀b∈[a',dx',pl'],g0.h0 b=none
theorem p6.nb(o:p6 X g i' C w')(h:∀j,j≠i->j≠i'->m[j]?≠some .bw):Nb g m i:=fun j hj hm=>by
 obtain⟨g0,G0,H0,a',dx',pl',rfl,_,_⟩:=o;by_cases z:j=i'
 .exact⟨some (V.ref a'),by show(if j=i' then _ else _)=_;rw[if_pos z]⟩
 .exact absurd hm (h j hj z)
end
theorem Dh{K:W.Frag}{g:GE}{G G1:GH}{H H1:Hp}{fp:List Addr}{i:Nat}{a:Addr}(g1:Grow K g.gh g.h0 G H)(wg:Grow K G (hG g G H fp i a).h0 G1 H1):Grow K g.gh g.h0 G1 H1:=by
 have out:∀b,(hG g G H fp i a).h0 b=H b\/(hG g G H fp i a).h0 b=g.h0 b:=fun b=>by
  show(if b∈fp then H b else g.h0 b)=_\/(if b∈fp then H b else g.h0 b)=_;by_cases z:b∈fp
  .rw[if_pos z];exact .inl rfl
  .rw[if_neg z];exact .inr rfl
 refine⟨wg.ok,fun b o e=>wg.he b o ?_,fun b d e=>wg.ge b d (g1.ge b d e),fun b h=>?_⟩
 .rcases out b with z|z
  .rw[z];exact g1.he b o e
  .rw[z];exact e
 .have h':(hG g G H fp i a).h0 b≠none:=by
   rcases out b with z|z
   .rw[z];cases e:g.h0 b with
   |none=>exact absurd e h
   |some o=>rw[g1.he b o e];simp
   .rw[z];exact h
  exact(wg.gf b h').trans (g1.gf b h)
inductive OutL where
 |nx (r:am) (w w':DW)|rt (d:D)|stuck
abbrev FL:=am->DW->DW->OutL
structure SL(X:Cx)(g:GE)(i i':Nat)(C a dx pl a' dx' pl':Addr)(m:List Md)(r:am)(w w':DW)(G0:GH)(H0:Hp)(G:GH)(σ:L2.St)(H:Hp):Prop where
 sd:SD X (hG g G0 H0 [a',dx',pl'] i' a') i C a dx pl m r w G σ H
 dk:DkR X.K G0 H0 C a' dx' pl' w'
 h0:∀b∈[a',dx',pl'],g.h0 b=none
 gr:Grow X.K g.gh g.h0 G0 H0
 mi:m[i']? = some .bw
def Bm(X:Cx)(g:GE)(i i':Nat)(C a dx pl a' dx' pl':Addr)(m':List Md)(D:Ends):OutL->Prop
|.nx r w w'=>∀σ' G0 H0 G' H',SL X g i i' C a dx pl a' dx' pl' m' r w w' G0 H0 G' σ' H'->D.nx σ' H'
|.rt d=>∀v G' H',Grow X.K g.gh g.h0 G' H'->RG X.K G' v d->D.rt v H'
|.stuck=>False
def lP(X:Cx)(g:GE)(i i':Nat)(C:Addr)(m m':List Md)(f:FL):TS:=fun D σ H=>∃a dx pl a' dx' pl' r w w' G0 H0 G,SL X g i i' C a dx pl a' dx' pl' m r w w' G0 H0 G σ H/\Bm X g i i' C a dx pl a' dx' pl' m' D (f r w w')
section
variable{k:Nat}{st st1 st2:Stmt}{f1 f2:FL}
theorem SL.oth(s:SL X g i i' C a dx pl a' dx' pl' m r w w' G0 H0 G σ H):p6 X (hG g G0 H0 [a',dx',pl'] i' a') i' C w':=⟨g,G0,H0,a',dx',pl',rfl,s.dk,s.h0⟩
theorem SL.grow(s:SL X g i i' C a dx pl a' dx' pl' m r w w' G0 H0 G σ H)(wg:Grow X.K G0 (hG g G0 H0 [a',dx',pl'] i' a').h0 G' H'):Grow X.K g.gh g.h0 G' H':=by have out:∀b,g.h0 b≠none->(hG g G0 H0 [a',dx',pl'] i' a').h0 b=g.h0 b:=fun b h=>if_neg fun z=>h (s.h0 b z);refine⟨wg.ok,fun b o e=>wg.he b o (by rw[out b (by rw[e];simp)];exact e),fun b d e=>wg.ge b d (s.gr.ge b d e),fun b h=>(wg.gf b (by rw[out b h];exact h)).trans (s.gr.gf b h)⟩
def gt(f:DW->cu):FL:=fun r w w'=>match f w' r w with
|.nx r' w1=>.nx r' w1 w'
|.rt d _=>.rt d
|.stuck=>.stuck
theorem t5{f:DW->cu}(h:∀g' w',p6 X g' i' C w'->iA X g' i C m st (f w') m')(hm:m'[i']? = some .bw):PS X st (lP X g i i' C m m' (gt f)):=by
 have hA:PS X st (fun D σ H=>∃g' w',p6 X g' i' C w'/\tD X g' i C m m' (f w') D σ H):=fun pz s σ H D I ⟨g',w',o,q⟩=>h g' w' o pz s σ H D I q;refine PS.imp hA fun D σ H ⟨a,dx,pl,a',dx',pl',r,w,w',G0,H0,G,s,q⟩=>⟨_,w',s.oth,a,dx,pl,r,w,G,s.sd,?_⟩
 unfold gt at q;cases e:f w' r w with
|nx r1 w1=>rw[e]at q;exact fun σ' G' H' le s'=>q σ' G0 H0 G' H' ⟨s',s.dk,s.h0,s.gr,hm⟩
|rt d w1=>rw[e]at q;exact fun v G' H' le wg dk rv=>q v G' H' (s.grow wg) rv
|stuck=>rw[e]at q;exact q
def dP(f1 f2:FL):FL:=fun r w w'=>match f1 r w w' with
|.nx r1 w1 w2=>f2 r1 w1 w2
|o=>o
theorem qu(h1:PS X st (lP X g i i' C m m1 f1))(h2:bW X sts (lP X g i i' C m1 m' f2)):bW X (st::sts) (lP X g i i' C m m' (dP f1 f2)):=by
 refine bW.imp (jL h1 h2) fun D σ H ⟨a,dx,pl,a',dx',pl',r,w,w',G0,H0,G,s,q⟩=>⟨a,dx,pl,a',dx',pl',r,w,w',G0,H0,G,s,?_⟩
 unfold dP at q;cases e:f1 r w w' with
|nx r1 w1 w2=>rw[e]at q;exact fun σ' G1 H1 G' H' s'=>⟨a,dx,pl,a',dx',pl',r1,w1,w2,G1,H1,G',s',q⟩
|rt d=>rw[e]at q;exact q
|stuck=>rw[e]at q;exact q
def Cy:FL:=fun r w w'=>.nx r w w'
theorem IY:bW X [] (lP X g i i' C m m Cy):=bW.imp kF fun D σ H ⟨a,dx,pl,a',dx',pl',r,w,w',G0,H0,G,s,q⟩=>q σ G0 H0 G H s
variable{x:Str}{px2 pn2 cpos2 bpos:Pos}{e2:Expr}{es2:List Expr}{fl fl2:D->am->Res (List D)}
def sX{α:Type}(x:Res α)(k:α->OutL):OutL:=match x with
|.ok a=>k a
|_=>.stuck
theorem DS{α:Type}{x:Res α}{k:α->OutL}{D:Ends}{Z:DL.D->Prop}(h:Bm X g i i' C a dx pl a' dx' pl' m' D (sX x k)):fin x (fun y=>Bm X g i i' C a dx pl a' dx' pl' m' D (k y)) Z:=by cases x with
|ok a=>exact h
|exc e=>exact(show False from h).elim
|stuck=>exact h
def t6(fl fl2:D->am->Res (List D))(F:gH):FL:=fun r _ w'=>sX (fl w'.1 r) fun ds=>match F w' ds with
|some (.bl true,w1)=>sX (fl2 w1.1 r) fun ds2=>(match F w1 ds2 with
 |some (.bl b,_)=>.rt (.bl b)
 |_=>.stuck)
|some (.bl false,_)=>.rt (.bl false)
|_=>.stuck
theorem JJ(hi:i≠i')(c:CalleeO X.prog X.w X.K X.mg X.base fn ps k C ms F)(hr:Room k X.A)(hb:∀j,j≠i->j≠i'->m[j]?≠some .bw)(hN:X.N[i']? = some x)(hv:dz X.env.scope x)(ha:∀g' kd,fR X g' i' C kd->gG X g' m (e::es) ms (fl kd))(Cl:∀g' kd,fR X g' i' C kd->gG X g' m (e2::es2) ms (fl2 kd))(hg:Gl X fn:=by rfl)(hd:(x==("__debug__" : Str))=false:=by decide)(M:(x==("__classdict__" : Str))=false:=by decide)(Y:(fn==("__debug__" : Str))=false:=by decide)(U:i_ (.Name x px::e::es) X.env=(false,eval (.Name x px) X.env)::i_ (e::es) X.env:=by rfl)(hpl:(backTo cpos (i_ (e::es) X.env)).any (·.1)=false:=by rfl)(B:i_ (.Name x px2::e2::es2) X.env=(false,eval (.Name x px2) X.env)::i_ (e2::es2) X.env:=by rfl)(Z:(backTo cpos2 (i_ (e2::es2) X.env)).any (·.1)=false:=by rfl):PS X (.Return (some (.BoolOp .And [.Call (.Name fn pn) (.Name x px::e::es) [] cpos,.Call (.Name fn pn2) (.Name x px2::e2::es2) [] cpos2] bpos)) pos) (lP X g i i' C m m (t6 fl fl2 F)):=by
 obtain⟨f,fd,h1,kp,bd,fo⟩:=c.ex;have hA:PA X (e::es) (fun σ H Q=>∃g' kd,fR X g' i' C kd/\pC X g' m ms (fl kd) σ H Q):=fun pos pz s σ H Q I ⟨g',kd,k,z⟩=>ha g' kd k pos pz s σ H Q I z;have Id:PA X (e2::es2) (fun σ H Q=>∃g' kd,fR X g' i' C kd/\pC X g' m ms (fl2 kd) σ H Q):=fun pos pz s σ H Q I ⟨g',kd,k,z⟩=>Cl g' kd k pos pz s σ H Q I z;refine PS.imp (vG (CV (qS (dvs:=[]) (ds:=[]) fo hr hg h1 kp bd .nil ji (ff (dM hN hv hd M) hA U) Y U hpl) (CW (qS (dvs:=[]) (ds:=[]) fo hr hg h1 kp bd .nil ji (ff (dM hN hv hd M) Id B) Y B Z)))) fun D σ H ⟨a,dx,pl,a',dx',pl',r,w,w',G0,H0,G,s,q⟩=>?_;have t:=s.sd.swap s.dk s.h0 hi s.mi;have nb:Nb (hG g G H [a,dx,pl] i a) m i':=fun j hj hm=>by
  by_cases z:j=i
  .exact⟨some (V.ref a),by show(if j=i then _ else _)=_;rw[if_pos z]⟩
  .exact absurd hm (hb j z hj)
 have g1:Grow X.K g.gh g.h0 G H:=s.grow s.sd.grown;have back:∀{G1:GH}{H1:Hp}{w1:DW},SD X (hG g G H [a,dx,pl] i a) i' C a' dx' pl' m r w1 G1 σ H1->Grow X.K g.gh g.h0 G1 H1:=fun t1=>Dh g1 t1.grown;refine⟨_,t.me,_,w'.1,t.kept,r,G,t.toH,ba (DS q) fun ds q us G1 H1 w1 rs=>?_⟩;have ta:=t.after (t.toH.grow w1) t.mi;cases ef:F w' ds with
|none=>rw[ef]at q;exact q.elim
|some z=>
  obtain⟨d,w2⟩:=z;rw[ef]at q;refine⟨G1,a',dx',pl',w',us,ds,by simp,w1.ok,ta.ob,rs,d,w2,ef,fun v G2 H2 wg dk rv=>?_⟩;have tc:=ta.call nb wg dk;split at q
  .rename_i e1;cases e1;have:=RG.bl wg.ok rv;subst this;refine⟨true,rfl,?_⟩;show(if true=true then _ else _);rw[if_pos rfl];refine⟨_,tc.me,_,w2.1,tc.kept,r,G2,tc.toH,ba (DS q) fun ds2 q dl G3 H3 w3 rs3=>?_⟩;have td:=tc.after (tc.toH.grow w3) tc.mi;cases L:F w2 ds2 with
  |none=>rw[L]at q;exact q.elim
  |some z2=>
    obtain⟨d2,w4⟩:=z2;rw[L]at q;refine⟨G3,a',dx',pl',w2,dl,ds2,by simp,w3.ok,td.ob,rs3,d2,w4,L,fun v2 G4 H4 BT ac ad=>?_⟩;have te:=td.call nb BT ac;split at q
    .rename_i e3;cases e3;exact q v2 G4 H4 (back te) ad
    .exact q.elim
  .rename_i e1;cases e1;have:=RG.bl wg.ok rv;subst this;refine⟨false,rfl,?_⟩;show(if false=true then _ else _);rw[if_neg g_];exact q (.bl false) G2 H2 (back tc) (.scl (.bl false))
  .exact q.elim
def jX(i i':Nat)(kd:D)(f:FL):FS:=fun r=>match f ((r.set i none).set i' none) (kd,[]) (kd,[])with
|.rt d=>.rt d
|_=>.stuck
theorem MH{xc y y':Str}{pc U pos' pos2 L B:Pos}{kd:D}{f:FL}(hi:i≠i')(hlt:i<m.length)(M:i'<m.length)(c:CalleeI X.prog X.w X.K X.mg X.base xc ps k C kd)(hr:Room (k+1) X.A)(Y:X.N.Nodup)(hN:X.N[i]? = some y)(dl:X.N[i']? = some y')(hy:fW X.env.scope y)(LE:fW X.env.scope y')(hg:Gl X xc:=by rfl)(h:bW X sts (lP X g i i' C ((m.set i .bw).set i' .bw) m' f))(Z:(xc==("__debug__" : Str))=false:=by decide)(hs:Uw (.Call (.Name xc pc) [] [] cpos) (some (.Name y pos')) pos.line X.env=pure false:=by rfl)(Id:Uw (.Call (.Name xc U) [] [] B) (some (.Name y' L)) pos2.line X.env=pure false:=by rfl)(hf:X.fn y=true\/X.env.scope.names.lookup y=some .local:=by first|exact .inl rfl|exact .inr rfl|assumption)(KK:X.fn y'=true\/X.env.scope.names.lookup y'=some .local:=by first|exact .inl rfl|exact .inr rfl|assumption):bW X (.Assign [.Name y pos'] (.Call (.Name xc pc) [] [] cpos) pos::.Assign [.Name y' L] (.Call (.Name xc U) [] [] B) pos2::sts) (tS X g false m m' [] (jX i i' kd f)):=by
 obtain⟨fa,fd,h1,mk,bd,fo⟩:=c.ex;refine bW.imp (jL (mO Y hN hy (ED (dvs:=[]) (ds:=[]) mk fo hr hg h1 bd .nil ji Z) hs hf) (jL (mO Y dl LE (ED (dvs:=[]) (ds:=[]) mk fo hr hg h1 bd .nil ji Z) Id KK) h)) fun D σ H ⟨r,G,si,q⟩=>?_;intro x dx hx IO hne;refine⟨G,H,x,dx,rfl,hx,IO,hne,rfl,si.gok,fun G1 H1 pl w1 hp dk=>⟨rfl,?_⟩⟩;have s1:=si.toD (i:=i) w1 dk (fun b hb=>by simp only[n_,J_,or_false]at hb;rcases hb with rfl|rfl|rfl <;> assumption) hlt;intro x' dx' Cl ad ac;refine⟨G1,H1,x',dx',rfl,Cl,ad,ac,rfl,s1.si.gok,fun G2 H2 pl' w2 LT BT=>⟨rfl,?_⟩⟩;have s2:=s1.toH.toD (i:=i') w2 BT (fun b hb=>by simp only[n_,J_,or_false]at hb;rcases hb with rfl|rfl|rfl <;> assumption) (by rw[VJ];exact M);have s3:=s2.swap s1.ob s1.h0 (UX hi) (by rw[d_ (UX hi)];exact s1.mi);refine⟨x,dx,pl,x',dx',pl',(r.set i none).set i' none,(kd,[]),(kd,[]),G2,H2,G2,⟨?_,s2.ob,fun b hb=>?_,?_,by rw[o_ (by rw[VJ];exact M)]⟩,?_⟩
 .exact s3
 .exact s2.h0 b hb |> fun z=>by
   have z:(if b∈[x,dx,pl]then H1 b else g.h0 b)=none:=z;by_cases hb':b∈[x,dx,pl]
   .exact s1.h0 b hb'
   .rw[if_neg hb']at z;exact z
 .exact Dh s1.grown s2.grown
 .unfold jX at q;cases e:f ((r.set i none).set i' none) (kd,[]) (kd,[])with
 |nx _ _ _=>rw[e]at q;exact q.elim
 |rt d=>rw[e]at q;exact fun v G' H' wg rv=>q v G' H' wg rv
 |stuck=>rw[e]at q;exact q.elim
end
def ke:List D->Option D
|[.int i]=>if i.natAbs<2^1000 then some (.str (toString i))else none
|_=>none
theorem MY{K:W.Frag}:kZ K (fun xs H Q=>∃i:Int,xs=[.int i]/\i.natAbs.log2<1920/\Q (.str (toString i)) H) ke:=by
 intro G H vs ds d Q gk rs e q;unfold ke at e;split at e
 .split at e
  .rename_i i hi;cases e;cases rs with
  |cons r1 t=>
    cases t;refine⟨i,by rw[r1.int gk],?_,q _ G H (Grow.refl gk) (.scl (.str _))⟩;by_cases z:i.natAbs=0
    .rw[z];decide
    .exact Zz ((Nat.log2_lt z).mpr hi) (by decide)
  .cases e
 .cases e
theorem vL{X:Cx}{g:GE}{m:List Md}{e:Expr}{es:List Expr}{fl:am->Res (List D)}{pos p:Pos}(hg:Gl X "str")(hm:X.mg "str" = none)(ha:gw X g m (e::es) fl)(he:i_ (e::es) X.env=(false,eval e X.env)::i_ es X.env:=by rfl)(hpl:(backTo pos (i_ es X.env)).any (·.1)=false:=by rfl):SE X g m (.Call (.Name "str" p) (e::es) [] pos) (fC fl ke):=gR MY (kJ QV hg hm rfl ha (by decide) (by decide) he hpl)
def l5(d:D):Option D:=(gO d).map fun b=>.bl (! b)
theorem Kp{X:Cx}{g:GE}{m:List Md}{a:Expr}{fa:FE}{pos:Pos}(ha:SB X g m a fa):SE X g m (.UnaryOp .Not a pos) (f1 fa l5):=by intro pz s σ H Q I ⟨r,G,si,q⟩;refine UnaryOp_ (aO (ha pz s σ H (fun x H'=>∃k,j4 X.K x H' k/\Q (.bl (! k)) H') I ⟨r,G,si,ba (bg q) fun d q1 v G1 H1 w1 r1=>?_⟩) fun v s1 ⟨x,H1,I1,r1,q1⟩=>not_of (aO (Da pz s1 σ H1 x v (fun k H'=>Q (.bl (! k)) H') I1 r1 q1) fun c s2 ⟨H2,I2,q2⟩=>⟨.bl (! c),H2,I2,rfl,q2⟩));obtain⟨d',e,q2⟩:=ck q1;unfold l5 at e;cases h:gO d with
|none=>rw[h]at e;cases e
|some b=>rw[h]at e;cases e;exact⟨b,Ee w1.ok r1 h,q2 _ G1 H1 w1 (.scl (.bl _))⟩
structure QAt(P:E_)(w:S_)(K:W.Frag)(mg:Str->Option a_)(x:Str)(tab:List (Str×Str)):Prop where
 ex:∃a f,mg x=some (.ref a)/\(a==U9)=false/\(∀h:Heap,K.In h->h.MapOf (d9 P w) a f) /\∀s,match tab.lookup s with
  |some n=>∃b,mg n=some (.ref b)/\f (.inr s)=some (.ref b)
  |none=>f (.inr s)=none
section
variable{a:Expr}{fa:FE}{fl:am->Res (List D)}{k:Nat}{x:Str}{tab:List (Str×Str)}
def pT(tab:List (Str×Str))(f:FE):FQ:=fun r=>(f r).bind fun d=>match d with
|.str s=>.ok (tab.lookup s).isSome
|_=>.stuck
theorem Cn(q:QAt X.prog X.w X.K X.mg x tab)(ha:SE X g m a fa)(hg:Gl X x:=by rfl)(hm:UU .In (.Name x p)=false:=by rfl)(hd:(x==("__debug__" : Str))=false:=by decide):SQ X g m (.Compare a [.In] [.Name x p] pos) (pT tab fa):=by
 obtain⟨b,f,e1,e2,e3,e4⟩:=q.ex;have ho:bo X (Ug .In) (fun y z H Q=>∃s,y=.str s/\z=.ref b/\Q (.bl (tab.lookup s).isSome) H):=by intro pz s σ H y z v u Q I ry rz h;obtain⟨t,rfl,rfl,q⟩:=h;obtain⟨tk,rfl⟩:=ry;cases(show u=Value.ref b from rz);refine wpAny_in_of (knd:=d9 X.prog X.w) (k:=.inr t) (rB t tk) e2 (e3 _ I.kIn) ⟨.bl (tab.lookup t).isSome,H,I.tok _,?_,q⟩;have:=e4 t;cases h:tab.lookup t with
 |none=>rw[h]at this;rw[show f (.inr t)=none from this];rfl
 |some n=>rw[h]at this;obtain⟨c,_,h2⟩:=this;rw[h2];rfl
 refine PT.imp (DA ho ha (wK (v:=.ref b) hg e1 rfl hd) hm) fun σ H Q ⟨r,G,si,z⟩=>⟨r,G,si,?_⟩
 refine ba (bg z) fun d z v G1 H1 w1 r1=>?_;cases d with
|str s=>exact⟨s,r1.str w1.ok,rfl,_,rfl,z G1 H1 w1⟩
|_=>exact(show False from z).elim
def nN(F:Str->Option (List D->Res D))(fa:FE)(fl:am->Res (List D)):FE:=fun r=>(fa r).bind fun d=>match d with
|.str s=>(match F s with
 |some f=>(fl r).bind fun ds=>nK (f ds)
 |none=>.stuck)
|_=>.stuck
theorem pH{F:Str->Option (List D->Res D)}(q:QAt X.prog X.w X.K X.mg x tab)(hc:∀s f,F s=some f->∃n,tab.lookup s=some n/\Callee X.prog X.w X.K X.mg X.base n ps [] k false ms f)(hr:Room k X.A)(ha:SE X g m a fa)(hA:gG X g m (e::es) ms fl)(hg:Gl X x:=by rfl)(hs:qI a:=by intro _ _;rfl)(hd:(x==("__debug__" : Str))=false:=by decide)(he:i_ (e::es) X.env=(false,eval e X.env)::i_ es X.env:=by rfl)(hpl:(backTo pos (i_ es X.env)).any (·.1)=false:=by rfl)(ht:eval (.Call (.Subscript (.Name x p) a p2) (e::es) [] pos) X.env=(do Yb pos (<-eval (.Subscript (.Name x p) a p2) X.env) [] (backTo pos (i_ (e::es) X.env)) (Wk pos (Vz [] X.env))):=by rfl):SE X g m (.Call (.Subscript (.Name x p) a p2) (e::es) [] pos) (nN F fa fl):=by
 obtain⟨b,f,e1,e2,e3,e4⟩:=q.ex;have hx:iE X (fun y z H Q=>∃s n c,y=.ref b/\z=.str s/\tab.lookup s=some n/\X.mg n=some (.ref c)/\Q (.ref c) H):=by intro value slice pz s σ H y z v u Q I ry rz h hs;obtain⟨t,n,c,rfl,rfl,h1,h2,q⟩:=h;obtain⟨tk,rfl⟩:=rz;cases(show v=Value.ref b from ry);have hm:=e3 _ I.kIn;have:=e4 t;rw[h1]at this;obtain⟨c',h3,h4⟩:=this;rw[h2]at h3;cases h3;exact Y8 hm.typeIs PySem.F.slot_dict_getitem.lookup (Ys (knd:=d9 X.prog X.w) (k:=.inr t) (rB t tk) hm h4 ⟨.ref c,H,I.tok _,rfl,q⟩) hs
 intro pz s σ H Q I ⟨r,G,si,z⟩;rw[ht];unfold nN at z;refine b_ (aO (Cj (pos:=p2) hx (wK (v:=.ref b) (pos:=p) hg e1 rfl hd) ha hs pz s σ H (fun v H1=>∃t n c G1,Grow X.K G H G1 H1/\fa r=.ok (.str t)/\tab.lookup t=some n/\X.mg n=some (.ref c)/\v=.ref c) I ⟨r,G,si,?_⟩) fun u s1 ⟨v,H1,I1,rv,t,n,c,G1,w1,ef,hn,hmn,ev⟩=>?_)
 .cases ed:fa r with
 |ok d=>rw[ed]at z;intro v G1 H1 w1 r1;cases d with
  |str t=>cases hF:F t with
   |none=>simp only[Res.bind,hF]at z;exact z.elim
   |some f'=>obtain⟨n,h1,h2⟩:=hc t f' hF;obtain⟨c,fd,h3,_⟩:=h2.ex;exact⟨t,n,c,rfl,r1.str w1.ok,h1,h3,t,n,c,G1,w1,rfl,h1,h3,rfl⟩
  |_=>exact(show False from z).elim
 |exc y=>rw[ed]at z;exact z
 |stuck=>rw[ed]at z;exact z
 .subst ev;cases(show u=Value.ref c from rv);rw[ef]at z;cases hF:F t with
 |none=>simp only[Res.bind,hF]at z;exact z.elim
 |some f'=>obtain⟨n',h1,h2⟩:=hc t f' hF;rw[hn]at h1;cases h1;obtain⟨c',fd,h3,h4,h5,h6⟩:=h2.ex;rw[hmn]at h3;cases h3;refine W.callWith_K (h₀:=X.base) I1.ok.mod.kin h4 (aO (hA pos pz s1 σ H1 _ I1 ⟨r,G1,si.grow w1,?_⟩) fun us s2 ⟨vs,H2,I2,rr,q2⟩=>⟨I2.kIn,qy (dvs:=[]) (ds:=[]) (E:=E0) h6 hr h5 .nil ji I2 rr q2⟩) he hpl;cases ez:fl r with
  |ok zs=>simp only[Res.bind,hF,ez]at z;intro vs G2 H2 w2 rs;have:=Fm (X:=X) (ro:=false) (dvs:=[]) (dds:=[]) (F:=f') (Q:=Q) w2.ok rs .nil (by rw[UG];exact ba (yk z (CS _)) fun d k v G3 H3 w3 rv=>k v G3 H3 ((w1.trans w2).trans w3) rv);simpa using this
  |exc x=>simp only[Res.bind,hF,ez]at z;exact(show XW X σ G H x from z).grow w1
  |stuck=>simp only[Res.bind,hF,ez]at z;exact z.elim
end
end DL
namespace DL
open PySem PySem.Spec PyProof.Rows L2 PySem.W PySem.Calls
section
variable{X:Cx}{g:GE}{m mb:List Md}{pos pos' p apos cpos:Pos}{ro:Bool}{x y:Str}
def qi(i j:Nat):FS:=fun r=>match r[i]? with
|some (some (.lst ds))=>(match ds.getLast? with
 |some d=>.nx ((r.set i (some (.lst ds.dropLast))).set j (some d))
 |none=>.stuck)
|_=>.stuck
theorem Kq(i j:Nat)(hm:m[i]? = some .ow)(Y:X.N.Nodup)(hN:X.N[i]? = some x:=by rfl)(U:X.N[j]? = some y:=by rfl)(hv:dz X.env.scope x:=by first|exact Or.inl rfl|exact Or.inr (Or.inl rfl)|exact Or.inr (Or.inr rfl))(hy:fW X.env.scope y:=by first|exact Or.inl rfl|exact Or.inr rfl)(hd:(x==("__debug__" : Str))=false:=by decide)(M:(x==("__classdict__" : Str))=false:=by decide)(B:Uo (.Name x p) "pop" X.env (eval (.Name x p) X.env)=eval (.Name x p) X.env:=by rfl)(L:(apos.endLine==cpos.line)=true:=by rfl)(hs:Uw (.Call (.Attribute (.Name x p) "pop" apos) [] [] cpos) (some (.Name y pos')) pos.line X.env=pure false:=by rfl)(hf:X.fn y=true\/X.env.scope.names.lookup y=some .local:=by first|exact .inl rfl|exact .inr rfl|assumption):SS X g ro mb m (.Assign [.Name y pos'] (.Call (.Attribute (.Name x p) "pop" apos) [] [] cpos) pos) (qi i j) (m.set j .sh):=by
 refine⟨by simp,PS.imp (mO Y U hy (vE PySem.F.plainAttrs_list PySem.F.slot_list_pop PySem.F.type_list_pop CP (dM hN hv hd M) B L) hs hf) fun D σ H ⟨r,G,si,q⟩=>?_⟩;unfold qi at q;split at q
 .rename_i ds er;split at q
  .rename_i d hl;obtain⟨a,h1,h2,h3⟩:=si.mut hm er;cases h2.ob with
  |@lst xs _ rr ss=>
    obtain⟨v,ev,rv⟩:=FV ss hl;refine⟨_,h1,.inl ⟨rfl,_,bh.of rr⟩,a,xs,v,rfl,rfl,rr,ev,?_⟩;have hdl:bx X.K G xs.dropLast ds.dropLast:=by rw[VM,VM,Paired.length ss];exact Paired.tk _ ss
    exact q _ G _ (aR.refl G) ((h3 (.lst xs.dropLast) (.lst ds.dropLast) (.lst bB hdl)).set j rv)
  .exact(show False from q).elim
 .exact(show False from q).elim
end
theorem Callee.up{P:E_}{w:S_}{K:W.Frag}{mg:Str->Option a_}{base:Heap}{x:Str}{ps:List Str}{j k:Nat}{ro:Bool}{ms:List Md}{F:List D->Res D}(c:Callee P w K mg base x ps [] j ro ms F)(h:j<=k):Callee P w K mg base x ps [] k ro ms F:=by obtain⟨f,fd,h1,h2,h3,h4⟩:=c.ex;exact⟨f,fd,h1,h2,h3,h4.mono h⟩
theorem Callee.lent2{P:E_}{w:S_}{K:W.Frag}{mg:Str->Option a_}{base:Heap}{x:Str}{ps:List Str}{k:Nat}{ro:Bool}{F:List D->Res D}(c:Callee P w K mg base x ps [] k ro [.bw,.bw] F):Callee P w K mg base x ps [] k ro [.bw,.sh] F:=by obtain⟨f,fd,h1,h2,h3,h4⟩:=c.ex;refine⟨f,fd,h1,h2,h3,h4.imp fun vs H Q E ⟨G,ds,gk,rs,q⟩=>⟨G,ds,gk,?_,q⟩⟩;cases rs with
|bw r1 t=>cases t with
 |sh r2 t=>cases t;exact .bw r1 (.bw r2.rb .nil)
end DL
namespace DL
open PySem PySem.Spec PyProof.Rows L2
abbrev QT:=Str×Tok×Str×Addr
def iX(w:S_)(t:QT):Zs:=⟨hashStr w t.1,.str t.1 t.2.1,.ref t.2.2.2⟩
theorem M6(w:S_)(s:Str):∀ts:List QT,(∃t∈ts,(ts.map fun t=>(t.1,t.2.2.1)).lookup s=some t.2.2.1/\((ts.map (iX w)).find? fun e=>ii (.inr s) e.key).map (·.val)=some (.ref t.2.2.2))\/((ts.map fun t=>(t.1,t.2.2.1)).lookup s=none/\((ts.map (iX w)).find? fun e=>ii (.inr s) e.key).map (·.val)=none):=by
 intro ts
 induction ts with
|nil=>exact .inr ⟨rfl,rfl⟩
|cons t ts ih=>
  rw[L_,U8,L_,T_];have e:ii (.inr s) (iX w t).key=(s==t.1):=by
   show(t.1==s)=(s==t.1)
   rw[Ud,beq_iff_eq,beq_iff_eq];exact eq_comm
  rw[e];cases h:s==t.1 with
 |true=>exact .inl ⟨t,e_,rfl,rfl⟩
 |false=>
   rcases ih with⟨t',h1,h2,h3⟩|ih
   .exact .inl ⟨t',h_ _ h1,h2,h3⟩
   .exact .inr ih
theorem Ih{P:E_}{w:S_}{K:W.Frag}{h:Heap}{mg:Str->Option a_}{x:Str}{a:Addr}{es:Array Zs}{n:Nat}(ts:List QT)(KX:K.In h)(G:h.Ns Ub mg)(z:W.nsIn K Ub x=some (some (.ref a)))(l:K.lookup a=some ⟨.type "dict",none,.dict es n,#[]⟩)(he:es.toList=ts.map (iX w))(hs:(a==U9)=false)(hn:jb (fun t:QT=>W.nsIn K Ub t.2.2.1=some (some (.ref t.2.2.2))) ts):QAt P w K mg x (ts.map fun t=>(t.1,t.2.2.1)):=by
 refine⟨a,findBy ii es,W.mg_of KX G z,hs,fun h' B=>⟨_,es,n,B _ _ l,⟨rfl,rfl,rfl⟩,rfl,fun e hm=>?_,fun _=>rfl⟩,fun s=>?_⟩
 .have hm:e∈es.toList:=Array.mem_toList_iff.mpr hm;rw[he]at hm;obtain⟨t,_,rfl⟩:=p_.mp hm;exact⟨.inr t.1,rB t.1 t.2.1,rfl⟩
 .have q:=M6 w s ts;have ef:findBy ii es (.inr s)=((ts.map (iX w)).find? fun e=>ii (.inr s) e.key).map (·.val):=by unfold findBy;rw[<-he];simp
  rcases q with⟨t,h1,h2,h3⟩|⟨h2,h3⟩
  .rw[h2];exact⟨t.2.2.2,W.mg_of KX G (hn.mem t h1),ef.trans h3⟩
  .rw[h2];exact ef.trans h3
end DL
section
namespace L2
open PySem PySem.Spec PyProof.Rows
theorem c6{sc:VX}{x:Str}(h:(match sc.names.lookup x with|some .local=>true|some .cell=>true|_=>false)=true):fW sc x:=by
 revert h;unfold fW;split <;> intro h
 .exact .inl (by assumption)
 .exact .inr (by assumption)
 .cases h
theorem bR{sc:VX}{x:Str}(h:(match sc.names.lookup x with|some .local=>true|some .cell=>true|some .free=>true|_=>false)=true):dz sc x:=by
 revert h;unfold dz;split <;> intro h
 .exact .inl (by assumption)
 .exact .inr (.inl (by assumption))
 .exact .inr (.inr (by assumption))
 .cases h
theorem be{N P:List Str}{sc:VX}(h:(decide (sc.kind=.function) && ! sc.isCoroutine && ! sc.isGenerator&&decide N.Nodup&&decide (N.take P.length=P)&&(P.all fun x=>match sc.names.lookup x with|some .local=>true|some .cell=>true|_=>false)&&sc.names.all fun y=>decide (y.2≠.free))=true:=by decide+kernel):FnScope N P sc:=by simp only[P_,decide_eq_true_eq,Ym,Uj]at h;obtain⟨⟨⟨⟨⟨⟨a,b⟩,c⟩,d⟩,e⟩,f⟩,k⟩:=h;exact⟨a,b,c,d,e,fun x hx=>c6 (f x hx),k⟩
end L2
namespace DL
open PySem PySem.Spec PyProof.Rows L2
section
variable{X:Cx}{g:GE}{m mb ms:List Md}{e a b:Expr}{es:List Expr}{f fa fb:FE}{x:Str}{p pos pos':Pos}{ro:Bool}{fl:am->Res (List D)}{k:Nat}{ps:List Str}{F:List D->Res D}
theorem bE(h:SE X g m e f):SB X g m e f:=SE.toB h
theorem iB{i:Int}{j:Nat}:SB X g m (.Constant (.int i) j pos) fun _=>.ok (.int i):=bE n0
theorem xB(hu:X.A.units+1<Vj)(ha:SB X g m a fa)(hb:SB X g m b fb)(hs:qI b:=by intro _ _;rfl):SB X g m (.Subscript a b pos) (f2 fa fb aX):=bE (da hu ha hb hs)
theorem bA(i:Nat)(hN:X.N.Nodup)(he:SE X g m e f)(hi:X.N[i]? = some x:=by rfl)(hx:fW X.env.scope x:=by exact c6 rfl)(hs:Uw e (some (.Name x pos')) pos.line X.env=pure false:=by rfl)(hf:X.fn x=true\/X.env.scope.names.lookup x=some .local:=by first|exact .inl rfl|exact .inr rfl|assumption):SS X g ro mb m (.Assign [.Name x pos'] e pos) (ao m i f) (m.set i .sh):=IA i hN hi hx he hs hf
theorem bY(i:Nat)(hN:X.N.Nodup)(hi:X.N[i]? = some x:=by rfl)(hx:fW X.env.scope x:=by exact c6 rfl)(hf:X.fn x=true\/X.env.scope.names.lookup x=some .local:=by first|exact .inl rfl|exact .inr rfl|assumption):SG X g m (.Name x pos) (ay i) (m.set i .sh):=JZ i hN hi hx hf
theorem aS(c:Callee X.prog X.w X.K X.mg X.base x ps [] k false ms F)(ha:gG X g m (e::es) ms fl)(hr:Room k X.A:=by exact Room.mono ‹_› (by decide))(hg:Gl X x:=by rfl)(B:(x==("__debug__" : Str))=false:=by decide)(he:i_ (e::es) X.env=(false,eval e X.env)::i_ es X.env:=by rfl)(hpl:(backTo pos (i_ es X.env)).any (·.1)=false:=by rfl):SE X g m (.Call (.Name x p) (e::es) [] pos) (aI fl [] F):=Ka (dds:=[]) c hr ha (by simp) hg .nil .nil B he hpl
end
theorem bn{P:E_}{w:S_}{K:W.Frag}{mg:Str->Option a_}{base:Heap}{x:Str}{st:Stmt}{N ps:List Str}{k:Nat}{ro:Bool}{ms:List Md}{fs:FS}{m':List Md}(A:DefAt K mg x st)(S:FnScope N ps (aa st))(B:∀(f:Addr)(cdv:a_)(A:Uc)(outer:List Env)(s:f_)(H:Hp)(g:GE)(E:XK),Room k (A.deeper (VB x (aa st) s.heap.objs.size f cdv))->(A.deeper (VB x (aa st) s.heap.objs.size f cdv)).units+1<Vj ->fG (cr cO P w K mg base N x (aa st) f cdv A outer s H E).nox g ro [] (eI N.length ms) (ap st) fs m')(L:ms.length=ps.length:=by rfl)(hb:∀(kV doc pm:a_)(an:Option Addr)(cdv ct:a_)(us:List a_),us.length=ps.length->Wd (W.fnOf x x (aC st) (ap st) (aa st) .none kV doc pm an cdv ct) ⟨us,[]⟩=pure (ps.zip us):=by intro _ _ _ _ _ _ us hl;rcases us with _|⟨_,_|⟨_,_|⟨_,_|⟨_,_|⟨_,_|⟨_,_⟩⟩⟩⟩⟩⟩ <;> first|(exfalso;revert hl;simp;done)|kernel_rfl):Callee P w K mg base x ps [] (k+1) ro ms fun ds=>av ro (fs (aE N.length ds)):=JO A S L hb fun f cdv A outer s H g E hr=>B f cdv A outer s H g E hr (kh hr)
end DL
end
namespace DL
open PySem PySem.Spec PyProof.Rows L2
section
variable{X:Cx}{g:GE}{m mb:List Md}{elt iter tg:Expr}{ifs:List Expr}{fi:FI}{q:FQ}{fe:FE}{scope:VX}{pos pos' spos:Pos}{ro:Bool}{y:Str}
theorem sY{X:Cx}{s0:f_}{H0:Hp}{N':List Str}{scope:VX}{cl:List (Str×Addr)}{C:Addr}{fp:List Addr}(h:N'.Nodup):(cV X s0 H0 N' scope cl C fp).N.Nodup:=h
theorem ir(N':List Str)(cap:List Nat)(hN:X.N.Nodup)(hi:fH X g m tg iter fi)(he:∀{s0 H0 cl C fp g'},SE (cV X s0 H0 N' scope cl C fp) g' (aH 1 cap m) elt fe)(hq:∀{s0 H0 cl C fp g'},jv (cV X s0 H0 N' scope cl C fp) g' (aH 1 cap m) ifs q:=by exact vB)(B:X.calm=true:=by rfl)(sc:ox X.env.scope X.N scope N' 1 cap=true:=by kernel_rfl)(hg:∀s0 H0 cl C fp g',SG (cV X s0 H0 N' scope cl C fp) g' (aH 1 cap m) tg (ay 0) (aH 1 cap m):=by exact fun _ _ _ _ _ _=>bY 0 (sY (by decide+kernel)))(hs:∀x,Ut iter X.env x=pure x:=by intro _;rfl):SO X g m (.ListComp elt [⟨tg,iter,ifs,0⟩] scope pos) (bN 1 cap fi (ay 0) q fe):=CT hN B (yj rfl rfl sc) hi hg (qt (by decide)) (fun _ _ _ _ _ _=>hq) (fun _ _ _ _ _ _=>he) hs
theorem Ip(N':List Str)(cap:List Nat)(hN:X.N.Nodup)(hi:fH X g m tg iter fi)(he:∀{s0 H0 cl C fp g'},SE (cV X s0 H0 N' scope cl C fp) g' (aH 2 cap m) elt fe)(hq:∀{s0 H0 cl C fp g'},jv (cV X s0 H0 N' scope cl C fp) g' (aH 2 cap m) ifs q:=by exact vB)(B:X.calm=true:=by rfl)(sc:ox X.env.scope X.N scope N' 2 cap=true:=by kernel_rfl)(hg:∀s0 H0 cl C fp g',SG (cV X s0 H0 N' scope cl C fp) g' (aH 2 cap m) tg (dq (bD (ay 0) (bD (ay 1) c9))) (aH 2 cap m):=by exact fun _ _ _ _ _ _=>jg rfl (dL (bY 0 (sY (by decide+kernel))) (dL (bY 1 (sY (by decide+kernel))) jf)))(hs:∀x,Ut iter X.env x=pure x:=by intro _;rfl):SO X g m (.ListComp elt [⟨tg,iter,ifs,0⟩] scope pos) (bN 2 cap fi (dq (bD (ay 0) (bD (ay 1) c9))) q fe):=CT hN B (yj rfl rfl sc) hi hg (JW (Ft (qt (by decide)) (Ft (qt (by decide)) Nr))) (fun _ _ _ _ _ _=>hq) (fun _ _ _ _ _ _=>he) hs
theorem sc1(i:Nat)(N':List Str)(cap:List Nat)(hN:X.N.Nodup)(hi:fH X g m tg iter fi)(he:∀{s0 H0 cl C fp g'},SE (cV X s0 H0 N' scope cl C fp) g' (aH 1 cap m) elt fe)(hq:∀{s0 H0 cl C fp g'},jv (cV X s0 H0 N' scope cl C fp) g' (aH 1 cap m) ifs q:=by exact vB)(B:X.calm=true:=by rfl)(hy:X.N[i]? = some y:=by rfl)(L:X.env.scope.names.lookup y=some .local:=by rfl)(sc:ox X.env.scope X.N scope N' 1 cap=true:=by kernel_rfl)(hg:∀s0 H0 cl C fp g',SG (cV X s0 H0 N' scope cl C fp) g' (aH 1 cap m) tg (ay 0) (aH 1 cap m):=by exact fun _ _ _ _ _ _=>bY 0 (sY (by decide+kernel)))(M:Uw (.ListComp elt [⟨tg,iter,ifs,0⟩] scope pos) (some (.Name y pos')) spos.line X.env=pure true:=by rfl)(hs:∀x,Ut iter X.env x=pure x:=by intro _;rfl):SS X g ro mb m (.Assign [.Name y pos'] (.ListComp elt [⟨tg,iter,ifs,0⟩] scope pos) spos) (ao m i (bN 1 cap fi (ay 0) q fe)) (m.set i .ow):=Qi i hN B hy L (yj rfl rfl sc) hi hg (qt (by decide)) (fun _ _ _ _ _ _=>hq) (fun _ _ _ _ _ _=>he) M hs
end
end DL
section
namespace Rg
theorem lC{α:Type}[DecidableEq α]:∀{l m:List α},l.Nodup->(∀x∈l,x∈m)->l.length<=m.length
|[],_,_,_=>Uf _
|a::l,m,hn,hs=>by
  have B:=U2.mp hn;have h1:=lC (l:=l) (m:=m.erase a) B.2 fun x hx=>by
   have L:x≠a:=by rintro rfl;exact B.1 hx
   exact(Wm L).mpr (hs x (h_ _ hx))
  have ha:a∈m:=hs a e_;rw[List.length_erase_of_mem ha]at h1;have:=UR ha;simp only[x_];omega
theorem rK{α:Type}(p:α->Bool)(l:List α):(l.filter p).length+(l.filter fun x=>! p x).length=l.length:=by induction l with
|nil=>rfl
|cons a l ih=>simp only[Uy];cases p a <;> simp <;> omega
theorem sf{α:Type}{p:α->Bool}{l:List α}(h:l.Nodup):(l.filter p).Nodup:=List.Pairwise.filter p h
structure S where
 line:List Nat
 things:List Nat
section
variable(W:Nat->List Nat)(O:Nat->Option Nat)
def cG(row things:List Nat):Nat:=(row.find? fun x=>decide (x∈things)).getD 0
def cQ(s:S)(h:Nat):Nat:=cG (W h) s.things
def pt(s:S)(x:Nat):Nat:=(s.line.find? fun h=>decide (O h=some x)).getD (s.line.headD 0)
def bM(s:S)(h:Nat):Nat:=pt O s (cQ W s h)
def minus(s:S)(C:List Nat):S:=⟨s.line.filter fun h=>decide (h∉C),s.things.filter fun x=>decide (x∉C.map (cQ W s))⟩
def it{α:Type}(f:α->α):Nat->α->α
|0,x=>x
|n+1,x=>it f n (f x)
theorem iM{α:Type}(f:α->α):∀(a b:Nat)(x:α),it f (a+b) x=it f b (it f a x)
|0,b,x=>by rw[Xn];rfl
|a+1,b,x=>by rw[Nat.add_right_comm];exact iM f a b (f x)
theorem iQ{α:Type}(f:α->α)(n:Nat)(x:α):it f (n+1) x=f (it f n x):=iM f n 1 x
theorem uQ{α:Type}(f:α->α){p:Nat}{x:α}(h:it f p x=x):∀k,it f (p*k) x=x
|0=>rfl
|k+1=>by rw[Nat.mul_succ,iM,uQ f h k,h]
structure Ok(s:S):Prop where
 nl:s.line.Nodup
 nt:s.things.Nodup
 le:s.line.length<=s.things.length
 row:∀h∈s.line,∀x∈s.things,x∈W h
 inj:∀h k x,O h=some x->O k=some x->h=k
 own:∀h∈s.line,∀x,O h=some x->x∈s.things
structure Cyc(s:S)(C:List Nat):Prop where
 sub:∀h∈C,h∈s.line
 cl:∀h∈C,bM W O s h∈C
 per:∀h∈C,∃k,it (bM W O s) (k+1) h=h
variable{W O}
theorem NK{row things:List Nat}(h:∃x∈row,x∈things):cG row things∈things:=by unfold cG;cases e:row.find? fun x=>decide (x∈things)with
|none=>obtain⟨x,h1,h2⟩:=h;have:=Uq.mp e x h1;simp[h2]at this
|some x=>have:=V7 e;simpa using this
theorem NM{row things t':List Nat}(hs:∀x∈t',x∈things)(hb:cG row things∈t')(hr:cG row things∈row):cG row t'=cG row things:=by unfold cG at *;cases e:row.find? fun x=>decide (x∈things)with
|none=>rw[e]at hb hr;have:=Uq.mp e _ hr;simp only[decide_eq_true_eq]at this;exact absurd (hs _ hb) this
|some x=>
  rw[e]at hb;simp only[YB]at hb ⊢;obtain⟨hx,as,bs,rfl,h2⟩:=List.find?_eq_some_iff_append.mp e;rw[List.find?_append];have:as.find? (fun y=>decide (y∈t'))=none:=Uq.mpr fun y hy=>by have:=h2 y hy;simp only[Ym,decide_eq_false_iff_not]at this;simp only[decide_eq_true_eq];exact fun z=>this (hs y z)
  rw[this];simp[T_,hb]
theorem NL{row things:List Nat}(h:∃x∈row,x∈things):cG row things∈row:=by unfold cG;cases e:row.find? fun x=>decide (x∈things)with
|none=>obtain⟨x,h1,h2⟩:=h;have:=Uq.mp e x h1;simp[h2]at this
|some x=>exact Vf e
variable{s:S}
theorem Ok.some_thing(k:Ok W O s){h:Nat}(hh:h∈s.line):∃x∈W h,x∈s.things:=by have h1:=UR hh;have h2:0<s.things.length:=F_ h1 k.le;obtain⟨x,hx⟩:=List.exists_mem_of_length_pos h2;exact⟨x,k.row h hh x hx,hx⟩
theorem Ok.tgt_mem(k:Ok W O s){h:Nat}(hh:h∈s.line):cQ W s h∈s.things:=NK (k.some_thing hh)
theorem Ok.tgt_row(k:Ok W O s){h:Nat}(hh:h∈s.line):cQ W s h∈W h:=NL (k.some_thing hh)
theorem C1{x:Nat}(h:s.line≠[]):pt O s x∈s.line:=by unfold pt;cases e:s.line.find? fun h=>decide (O h=some x)with
|none=>cases q:s.line with
 |nil=>exact absurd q h
 |cons a l=>simp[List.headD]
|some y=>exact Vf e
theorem KO(k:Ok W O s){h x:Nat}(hh:h∈s.line)(ho:O h=some x):pt O s x=h:=by unfold pt;cases e:s.line.find? fun h=>decide (O h=some x)with
|none=>have:=Uq.mp e h hh;simp[ho]at this
|some y=>have:=V7 e;simp only[decide_eq_true_eq]at this;exact k.inj y h x this ho
theorem ll{h:Nat}(hl:s.line≠[]):bM W O s h∈s.line:=C1 hl
theorem Cyc.it_mem{C:List Nat}(c:Cyc W O s C){h:Nat}(hh:h∈C):∀n,it (bM W O s) n h∈C:=by
 intro n
 induction n generalizing h with
|zero=>exact hh
|succ n ih=>exact ih (c.cl h hh)
theorem Ma{α:Type}{f:α->α}{x y:α}{a b:Nat}(hx:it f (a+1) x=x)(hy:it f (b+1) y=y)(e:f x=f y):x=y:=by
 have h1:=uQ f hx (b+1);have h2:=uQ f hy (a+1);rw[Yh]at h2;have h3:(a+1)*(b+1)=1+(a*b+a+b):=by rw[Nat.add_mul,Nat.mul_add];omega
 rw[h3,iM]at h1 h2;have e1:it f 1 x=it f 1 y:=e;rw[e1]at h1;rw[<-h1,h2]
theorem Cyc.out{C E:List Nat}(c:Cyc W O s C)(e:Cyc W O s E){h:Nat}(hc:h∈C)(he:h∉E):bM W O s h∉E:=by intro z;obtain⟨k,hk⟩:=c.per h hc;exact he (by rw[<-hk];exact e.it_mem z k)
theorem Ec{C E:List Nat}(c:Cyc W O s C)(e:Cyc W O s E){h k:Nat}(hc:h∈C)(he:k∈E)(q:cQ W s h=cQ W s k):h=k:=by obtain⟨a,ha⟩:=c.per h hc;obtain⟨b,hb⟩:=e.per k he;exact Ma ha hb (by unfold bM;rw[q])
theorem oK(k:Ok W O s){C E:List Nat}(c:Cyc W O s C)(e:Cyc W O s E){h:Nat}(he:h∈E)(hc:h∉C):cQ W (minus W s C) h=cQ W s h:=by have hl:=e.sub h he;refine NM (fun x hx=>(B_.mp hx).1) ?_ (k.tgt_row hl);refine B_.mpr ⟨k.tgt_mem hl,?_⟩;simp only[decide_eq_true_eq];intro z;obtain⟨h',h1,h2⟩:=p_.mp z;have:=Ec c e h1 he h2;rw[this]at h1;exact hc h1
theorem QM{p:Nat->Bool}:∀{l:List Nat}{a:Nat},l.headD 0=a->l≠[]->p a=true->(l.filter p).headD 0=a
|[],_,_,h,_=>absurd rfl h
|b::l,a,e,_,hp=>by have:b=a:=e;subst this;rw[Uy,if_pos hp];rfl
theorem EV(k:Ok W O s){C E:List Nat}(c:Cyc W O s C)(e:Cyc W O s E){h:Nat}(he:h∈E)(hc:h∉C):bM W O (minus W s C) h=bM W O s h:=by unfold bM;rw[oK k c e he hc];have hl:=e.sub h he;have hne:s.line≠[]:=Ur hl;have ho:pt O s (cQ W s h)∉C:=e.out c he hc;have hm:pt O s (cQ W s h)∈s.line:=C1 hne;unfold pt at *;show((s.line.filter fun h=>decide (h∉C)).find? _).getD ((s.line.filter fun h=>decide (h∉C)).headD 0)=_;cases q:s.line.find? fun k=>decide (O k=some (cQ W s h))with
|none=>rw[q]at ho;simp only[W7]at ho ⊢;have:(s.line.filter fun h=>decide (h∉C)).find? (fun k=>decide (O k=some (cQ W s h)))=none:=Uq.mpr fun y hy=>Uq.mp q y (B_.mp hy).1;rw[this];exact QM rfl hne (by simpa using ho)
|some y=>rw[q]at ho;simp only[YB]at ho ⊢;have hy:=V7 q;simp only[decide_eq_true_eq]at hy;have B:=Vf q;cases q2:(s.line.filter fun h=>decide (h∉C)).find? (fun k=>decide (O k=some (cQ W s h)))with
 |none=>have:=Uq.mp q2 y (B_.mpr ⟨B,by simpa using ho⟩);simp[hy]at this
 |some z=>have hz:=V7 q2;simp only[decide_eq_true_eq]at hz;exact k.inj z y _ hz hy
theorem ot(k:Ok W O s){C:List Nat}(c:Cyc W O s C):Ok W O (minus W s C) where
 nl:=sf k.nl
 nt:=sf k.nt
 le:=by
  have h1:=rK (fun h=>decide (h∉C)) s.line;have h2:=rK (fun x=>decide (x∉C.map (cQ W s))) s.things;have h3:(s.things.filter fun x=>! decide (x∉C.map (cQ W s))).length<=((s.line.filter fun h=>! decide (h∉C)).map (cQ W s)).length:=by refine lC (sf k.nt) fun x hx=>?_;obtain⟨_,hx⟩:=B_.mp hx;simp only[decide_not,Bool.not_not,decide_eq_true_eq]at hx;obtain⟨h,h1,h2⟩:=p_.mp hx;exact p_.mpr ⟨h,B_.mpr ⟨c.sub h h1,by simpa using h1⟩,h2⟩
  rw[j_]at h3;have:=k.le;show(s.line.filter _).length<=(s.things.filter _).length;omega
 row:=fun h hh x hx=>k.row h (B_.mp hh).1 x (B_.mp hx).1
 inj:=k.inj
 own:=fun h hh x hx=>by obtain⟨h1,h2⟩:=B_.mp hh;simp only[decide_eq_true_eq]at h2;refine B_.mpr ⟨k.own h h1 x hx,?_⟩;simp only[decide_eq_true_eq];intro z;obtain⟨b,b1,b2⟩:=p_.mp z;have:=c.cl b b1;unfold bM at this;rw[b2,KO k h1 hx]at this;exact h2 this
def less(E C:List Nat):List Nat:=E.filter fun h=>decide (h∉C)
theorem iS{E C:List Nat}{h:Nat}:h∈less E C↔h∈E/\h∉C:=by simp[less,List.mem_filter]
theorem Ev(k:Ok W O s){C E:List Nat}(c:Cyc W O s C)(e:Cyc W O s E):Cyc W O (minus W s C) (less E C):=by
 have stay:∀n h,h∈less E C->it (bM W O (minus W s C)) n h=it (bM W O s) n h:=by
  intro n
  induction n with
 |zero=>intro h _;rfl
 |succ n ih=>intro h hh;obtain⟨h1,h2⟩:=iS.mp hh;show it _ n (bM W O (minus W s C) h)=it _ n (bM W O s h);rw[EV k c e h1 h2];exact ih _ (iS.mpr ⟨e.cl h h1,e.out c h1 h2⟩)
 refine⟨fun h hh=>?_,fun h hh=>?_,fun h hh=>?_⟩
 .obtain⟨h1,h2⟩:=iS.mp hh;exact B_.mpr ⟨e.sub h h1,by simpa using h2⟩
 .obtain⟨h1,h2⟩:=iS.mp hh;rw[EV k c e h1 h2];exact iS.mpr ⟨e.cl h h1,e.out c h1 h2⟩
 .obtain⟨h1,h2⟩:=iS.mp hh;obtain⟨n,hn⟩:=e.per h h1;exact⟨n,by rw[stay _ _ hh];exact hn⟩
theorem oO{p q:Nat->Bool}{l:List Nat}(h:∀x∈l,p x=q x):l.filter p=l.filter q:=by induction l with
|nil=>rfl
|cons a l ih=>rw[Uy,Uy,h a e_,ih fun x hx=>h x (h_ _ hx)]
theorem GQ(k:Ok W O s){C E:List Nat}(c:Cyc W O s C)(e:Cyc W O s E):minus W (minus W s C) (less E C)=minus W s (C++E):=by
 have h1:(minus W (minus W s C) (less E C)).line=(minus W s (C++E)).line:=by show((s.line.filter _).filter _)=s.line.filter _;rw[WL];refine oO fun x _=>?_;by_cases hc:x∈C <;> by_cases he:x∈E <;> simp[iS,hc,he]
 have h2:(minus W (minus W s C) (less E C)).things=(minus W s (C++E)).things:=by
  show((s.things.filter _).filter _)=s.things.filter _;rw[WL];refine oO fun x _=>?_;have key:x∈(less E C).map (cQ W (minus W s C))↔∃h,h∈E/\h∉C/\cQ W s h=x:=by
   rw[p_];constructor
   .rintro⟨h,hh,q⟩
    obtain⟨a,b⟩:=iS.mp hh;exact⟨h,a,b,by rw[<-q,oK k c e a b]⟩
   .rintro⟨h,a,b,q⟩
    exact⟨h,iS.mpr ⟨a,b⟩,by rw[oK k c e a b];exact q⟩
  have B:x∈(C++E).map (cQ W s)↔x∈C.map (cQ W s)\/x∈(less E C).map (cQ W (minus W s C)):=by
   rw[key,Q_,Ui];constructor
   .rintro(z|z)
    .exact .inl z
    .obtain⟨h,a,b⟩:=p_.mp z;by_cases hc:h∈C
     .exact .inl (p_.mpr ⟨h,hc,b⟩)
     .exact .inr ⟨h,a,hc,b⟩
   .rintro(z|⟨h,a,_,b⟩)
    .exact .inl z
    .exact .inr (p_.mpr ⟨h,a,b⟩)
  rw[Ud];simp only[P_,decide_eq_true_eq];rw[B];constructor
  .rintro⟨a,b⟩ (z|z)
   .exact b z
   .exact a z
  .intro z;exact⟨fun q=>z (.inr q),fun q=>z (.inl q)⟩
 cases e1:minus W (minus W s C) (less E C);cases e2:minus W s (C++E);rw[e1,e2]at h1 h2;simp only at h1 h2;rw[h1,h2]
theorem P3(k:Ok W O s){C E:List Nat}(c:Cyc W O s C)(e:Cyc W O s E):minus W (minus W s C) (less E C)=minus W (minus W s E) (less C E):=by
 rw[GQ k c e,GQ k e c];unfold minus;congr 1
 .exact oO fun x _=>by rw[Ud];simp[and_comm]
 .refine oO fun x _=>?_;rw[Ud];simp only[decide_eq_true_eq,Q_,Ui];constructor <;> intro z q <;> exact z q.symm
inductive TTC(W:Nat->List Nat)(O:Nat->Option Nat)(a:Nat->Nat):S->Prop where
 |nil {s:S}:s.line=[]->TTC W O a s
 |step {s:S} (C:List Nat):Cyc W O s C->(∀h∈C,a h=cQ W s h)->TTC W O a (minus W s C)->TTC W O a s
theorem BD{a:Nat->Nat}(t:TTC W O a s):∀(k:Ok W O s){E:List Nat},Cyc W O s E->TTC W O a (minus W s E)/\∀h∈E,a h=cQ W s h:=by induction t with
|nil h0=>intro k E e;refine⟨.nil (by unfold minus;rw[h0];rfl),fun h hh=>?_⟩;have:=e.sub h hh;rw[h0]at this;cases this
|step C c ha t ih=>
  intro k E e;obtain⟨h1,h2⟩:=ih (ot k c) (Ev k c e);refine⟨.step (less C E) (Ev k e c) (fun h hh=>?_) (by rw[<-P3 k c e];exact h1),fun h hh=>?_⟩
  .obtain⟨z1,z2⟩:=iS.mp hh;rw[oK k e c z1 z2];exact ha h z1
  .by_cases hc:h∈C
   .exact ha h hc
   .rw[h2 h (iS.mpr ⟨hh,hc⟩),oK k c e hh hc]
end
end Rg
end
section
namespace Rg
section
variable{W:Nat->List Nat}{O:Nat->Option Nat}{s:S}{a:Nat->Nat}
theorem uK(t:TTC W O a s)(k:Ok W O s):∀h∈s.line,a h∈s.things:=by induction t with
|nil h0=>intro h hh;rw[h0]at hh;cases hh
|step C c ha t ih=>
  intro h hh;by_cases hc:h∈C
  .rw[ha h hc];exact k.tgt_mem hh
  .exact(B_.mp (ih (ot k c) h (B_.mpr ⟨hh,by simpa using hc⟩))).1
theorem IQ(t:TTC W O a s)(k:Ok W O s):∀h∈s.line,∀l∈s.line,a h=a l->h=l:=by induction t with
|nil h0=>intro h hh;rw[h0]at hh;cases hh
|@step s C c ha t ih=>
  intro h hh l hl e;have k':=ot k c;have rest:∀h∈s.line,h∉C->h∈(minus W s C).line:=fun h hh hc=>B_.mpr ⟨hh,by simpa using hc⟩;have B:∀h∈s.line,h∉C->a h∉C.map (cQ W s):=fun h hh hc=>by have:=(B_.mp (uK t k' h (rest h hh hc))).2;simpa using this
  by_cases hc:h∈C
  .by_cases lc:l∈C
   .rw[ha h hc,ha l lc]at e;exact Ec c c hc lc e
   .exact absurd (p_.mpr ⟨h,hc,by rw[<-ha h hc,e]⟩) (B l hl lc)
  .by_cases lc:l∈C
   .exact absurd (p_.mpr ⟨l,lc,by rw[<-ha l lc,e]⟩) (B h hh hc)
   .exact ih k' h (rest h hh hc) l (rest l hl lc) e
theorem CY{f:Nat->Nat}{l:List Nat}(hcl:∀h∈l,f h∈l){x:Nat}(hx:x∈l):∃i j,i<j/\j<=l.length/\it f i x=it f j x:=by
 have mem:∀i,it f i x∈l:=by
  intro i
  induction i with
 |zero=>exact hx
 |succ i ih=>rw[iQ];exact hcl _ ih
 by_cases hn:((t_ (l.length+1)).map fun i=>it f i x).Nodup
 .have:=lC hn (m:=l) fun y hy=>by obtain⟨i,_,rfl⟩:=p_.mp hy;exact mem i
  simp at this;omega
 .apply VZ;intro h;apply hn;rw[VR]at *;rw[WV];refine W3 (R:=fun i j=>i<j) (fun hi hj hij e=>?_) List.pairwise_lt_range;exact h ⟨_,_,hij,by have:=A_.mp hj;omega,e⟩
theorem BO{P:Nat->Prop}:(∃n,P n)->∃n,P n/\∀k,k<n->¬ P k:=by
 rintro⟨n,hn⟩
 induction n using Nat.strongRecOn with
|_ n ih=>
  by_cases h:∃k,k<n/\P k
  .obtain⟨k,h1,h2⟩:=h;exact ih k h1 h2
  .exact⟨n,hn,fun k hk hp=>h ⟨k,hk,hp⟩⟩
theorem vW{α:Type}(f:α->α)(a b:Nat)(x:α):it f a (it f b x)=it f b (it f a x):=by rw[<-iM,<-iM,Yg]
theorem PV{f:Nat->Nat}{l:List Nat}(hcl:∀h∈l,f h∈l)(hne:l≠[]):∃z p,z∈l/\0<p/\p<=l.length/\it f p z=z/\∀i,0<i->i<p->z<it f i z:=by
 have mem:∀x∈l,∀i,it f i x∈l:=by
  intro x hx i
  induction i with
 |zero=>exact hx
 |succ i ih=>rw[iQ];exact hcl _ ih
 obtain⟨x,hx⟩:=Vg l hne;obtain⟨i,j,hij,_,e⟩:=CY hcl hx;obtain⟨z,⟨hz,k,hk⟩,B⟩:=BO (P:=fun z=>z∈l/\∃k,it f (k+1) z=z) ⟨it f i x,mem x hx i,j-i-1,by rw[<-iM,show i+(j-i-1+1)=j by omega];exact e.symm⟩;obtain⟨p,hp,L⟩:=BO (P:=fun p=>it f (p+1) z=z) ⟨k,hk⟩;have ge:∀i,z<=it f i z:=fun i=>by have:=B (it f i z);apply VZ;intro h;exact this (by omega) ⟨mem z hz i,p,by rw[vW,hp]⟩
 have ne:∀i,0<i->i<p+1->it f i z≠z:=fun i h1 h2 q=>L (i-1) (by omega) (by rw[show i-1+1=i by omega];exact q);refine⟨z,p+1,hz,Nat.succ_pos _,?_,hp,fun i h1 h2=>by have:=ge i;have:=ne i h1 h2;omega⟩;obtain⟨i,j,hij,hj,e⟩:=CY hcl hz;apply VZ;intro h;have:it f (p+1-j+i) z=z:=by
  have h1:it f (p+1-j) (it f j z)=z:=by rw[<-iM,show j+(p+1-j)=p+1 by omega];exact hp
  rw[<-e,<-iM]at h1;rw[Yg];exact h1
 exact ne _ (by omega) (by omega) this
def iG(f:Nat->Nat)(n first:Nat):Nat->List Nat->Nat->Option (List Nat)
|0,_,_=>none
|k+1,ring,hand=>if first<hand/\ring.length<n then iG f n first k (ring++[hand]) (f hand)else if hand=first then some ring else none
def j6(f:Nat->Nat)(n first:Nat):Option (List Nat):=iG f n first (n+1) [first] (f first)
def bL(f:Nat->Nat)(x n:Nat):List Nat:=(t_ n).map fun i=>it f i x
theorem q9(f:Nat->Nat)(x n:Nat):bL f x (n+1)=bL f x n++[it f n x]:=by unfold bL;rw[YU,Q_];rfl
theorem oA(f:Nat->Nat)(x n:Nat):(bL f x n).length=n:=by simp[bL]
theorem Qp{f:Nat->Nat}{n first:Nat}:∀{k i:Nat}{r:List Nat},iG f n first k (bL f first i) (it f i first)=some r->∃j,i<=j/\r=bL f first j/\it f j first=first:=by
 intro k
 induction k with
|zero=>intro i r h;cases h
|succ k ih=>
  intro i r h;unfold iG at h;split at h
  .rw[<-q9,<-iQ f]at h;obtain⟨j,h1,h2⟩:=ih h;exact⟨j,by omega,h2⟩
  .split at h
   .rename_i e;cases h;exact⟨i,s_ _,rfl,e⟩
   .cases h
theorem GR{f:Nat->Nat}{n first:Nat}{r:List Nat}(h:j6 f n first=some r):∃j,0<j/\r=bL f first j/\it f j first=first:=by
 have h':iG f n first (n+1) (bL f first 1) (it f 1 first)=some r:=h
 obtain⟨j,h1,h2⟩:=Qp h';exact⟨j,by omega,h2⟩
theorem QX{f:Nat->Nat}{n z p:Nat}(hp:p<=n)(he:it f p z=z)(hg:∀i,0<i->i<p->z<it f i z):∀{k i:Nat},0<i->i<=p->p<k+i->iG f n z k (bL f z i) (it f i z)=some (bL f z p):=by
 intro k
 induction k with
|zero=>intro i h1 h2 h3;omega
|succ k ih=>
  intro i h1 h2 h3;unfold iG;by_cases hi:i=p
  .subst hi;rw[if_neg (by rw[he];omega),if_pos he]
  .rw[if_pos ⟨hg i h1 (by omega),by rw[oA];omega⟩,<-q9,<-iQ f];exact ih (by omega) (by omega) (by omega)
theorem Rq{f:Nat->Nat}{n z p:Nat}(h0:0<p)(hp:p<=n)(he:it f p z=z)(hg:∀i,0<i->i<p->z<it f i z):j6 f n z=some (bL f z p):=by show iG f n z (n+1) (bL f z 1) (it f 1 z)=_;exact QX hp he hg (by omega) h0 (by omega)
def gA(W:Nat->List Nat)(O:Nat->Option Nat)(s:S):List (List Nat):=s.line.filterMap fun h=>j6 (bM W O s) s.line.length h
theorem DH{C:List Nat}(hC:∀h,h∈C->∃r∈gA W O s,h∈r)(B:∀r∈gA W O s,∀h∈r,h∈C):Cyc W O s C:=by
 have one:∀r∈gA W O s,∃x j,x∈s.line/\0<j/\r=bL (bM W O s) x j/\it (bM W O s) j x=x:=fun r hr=>by obtain⟨x,h1,h2⟩:=UI.mp hr;obtain⟨j,h3,h4,h5⟩:=GR h2;exact⟨x,j,h1,h3,h4,h5⟩
 have hm:∀x∈s.line,∀i,it (bM W O s) i x∈s.line:=by
  intro x hx i
  induction i with
 |zero=>exact hx
 |succ i ih=>rw[iQ];exact ll (Ur hx)
 refine⟨fun h hh=>?_,fun h hh=>?_,fun h hh=>?_⟩
 .obtain⟨r,hr,h1⟩:=hC h hh;obtain⟨x,j,hx,hj,rfl,he⟩:=one r hr;obtain⟨i,_,rfl⟩:=p_.mp h1;exact hm x hx i
 .obtain⟨r,hr,h1⟩:=hC h hh;obtain⟨x,j,hx,hj,rfl,he⟩:=one r hr;obtain⟨i,hi,rfl⟩:=p_.mp h1;have hi:=A_.mp hi;refine B _ hr _ ?_;rw[<-iQ (bM W O s)];by_cases q:i+1=j
  .rw[q,he];exact p_.mpr ⟨0,A_.mpr hj,rfl⟩
  .exact p_.mpr ⟨i+1,A_.mpr (by omega),rfl⟩
 .obtain⟨r,hr,h1⟩:=hC h hh;obtain⟨x,j,hx,hj,rfl,he⟩:=one r hr;obtain⟨i,hi,rfl⟩:=p_.mp h1;exact⟨j-1,by rw[show j-1+1=j by omega,vW,he]⟩
theorem QA(hne:s.line≠[]):gA W O s≠[]:=by obtain⟨z,p,h1,h2,h3,h4,h5⟩:=PV (f:=bM W O s) (l:=s.line) (fun h hh=>ll hne) hne;exact Ur (UI.mpr ⟨z,h1,Rq h2 h3 h4 h5⟩)
def dj(W:Nat->List Nat)(O:Nat->Option Nat)(s:S):List Nat:=(gA W O s).flatten
theorem Ep:Cyc W O s (dj W O s):=DH (fun h hh=>Vx.mp hh) (fun r hr h hh=>Vx.mpr ⟨r,hr,hh⟩)
theorem DG{f:Nat->Nat}{n x:Nat}{r:List Nat}(h:j6 f n x=some r):r≠[]:=by obtain⟨j,h1,rfl,_⟩:=GR h;intro z;have:=oA f x j;rw[z]at this;simp at this;omega
theorem Dg(hne:s.line≠[]):dj W O s≠[]:=by have h:=QA (W:=W) (O:=O) hne;cases q:gA W O s with
|nil=>exact absurd q h
|cons r t=>
  have hr:r∈gA W O s:=by rw[q];exact e_
  obtain⟨x,_,h2⟩:=UI.mp hr;unfold dj;rw[q,UB];intro z;exact DG h2 (List.append_eq_nil_iff.mp z).1
theorem OV(hne:s.line≠[]):(minus W s (dj W O s)).line.length<s.line.length:=by have h:=Dg (W:=W) (O:=O) hne;obtain⟨x,hx⟩:=Vg _ h;have B:=(Ep (W:=W) (O:=O) (s:=s)).sub x hx;have:=rK (fun h=>decide (h∉dj W O s)) s.line;have h3:0<(s.line.filter fun h=>! decide (h∉dj W O s)).length:=UR (B_.mpr ⟨B,by simpa using hx⟩);show(s.line.filter _).length<_;omega
def deal(W:Nat->List Nat)(O:Nat->Option Nat):Nat->S->Nat->Nat
|0,_,_=>0
|n+1,s,h=>if h∈dj W O s then cQ W s h else deal W O n (minus W s (dj W O s)) h
theorem Qa{b:Nat->Nat}(t:TTC W O a s):(∀h∈s.line,b h=a h)->TTC W O b s:=by induction t with
|nil h0=>exact fun _=>.nil h0
|@step s C c ha t ih=>exact fun e=>.step C c (fun h hh=>by rw[e h (c.sub h hh)];exact ha h hh) (ih fun h hh=>e h (B_.mp hh).1)
theorem IS:∀(n:Nat)(s:S),s.line.length<n->TTC W O (deal W O n s) s:=by
 intro n
 induction n with
|zero=>intro s h;omega
|succ n ih=>
  intro s h;by_cases hl:s.line=[]
  .exact .nil hl
  .have hlt:=OV (W:=W) (O:=O) hl;refine .step (dj W O s) Ep (fun h hh=>?_) (Qa (ih _ (by omega)) fun h hh=>?_)
   .show(if h∈dj W O s then _ else _)=_;rw[if_pos hh]
   .have:=(B_.mp hh).2;simp only[decide_eq_true_eq]at this;show(if h∈dj W O s then _ else _)=_;rw[if_neg this]
end
end Rg
end
section
namespace Rg
section
variable{W W':Nat->List Nat}{O:Nat->Option Nat}{s:S}{a b:Nat->Nat}
theorem L3{x j:Nat}(hx:x∈s.line)(hj:0<j)(he:it (bM W O s) j x=x):Cyc W O s (bL (bM W O s) x j):=by
 have hm:∀i,it (bM W O s) i x∈s.line:=by
  intro i
  induction i with
 |zero=>exact hx
 |succ i ih=>rw[iQ];exact ll (Ur hx)
 refine⟨fun h hh=>?_,fun h hh=>?_,fun h hh=>?_⟩ <;> obtain⟨i,hi,rfl⟩:=p_.mp hh
 .exact hm i
 .have hi:=A_.mp hi;show bM W O s (it (bM W O s) i x)∈_;rw[<-iQ (bM W O s)];by_cases q:i+1=j
  .rw[q,he];exact p_.mpr ⟨0,A_.mpr hj,rfl⟩
  .exact p_.mpr ⟨i+1,A_.mpr (by omega),rfl⟩
 .exact⟨j-1,by rw[show j-1+1=j by omega,vW,he]⟩
theorem Em{l:List Nat}{h:Nat}(hn:l.Nodup):l.erase h=l.filter fun x=>decide (x≠h):=by induction l with
|nil=>rfl
|cons b l ih=>
  have B:=U2.mp hn;by_cases q:b=h
  .subst q;rw[List.erase_cons_head,Uy,if_neg (by simp)];symm;rw[XI];intro x hx;have:x≠b:=by rintro rfl;exact B.1 hx
   simpa using this
  .rw[XA (by simpa using q),Uy,if_pos (by simpa using q),ih B.2]
theorem vU:∀{C l:List Nat},l.Nodup->C.foldl (fun l h=>l.erase h) l=l.filter fun x=>decide (x∉C)
|[],l,_=>by symm;simp[XI]
|h::C,l,hn=>by rw[V5,vU (by rw[Em hn];exact sf hn),Em hn,WL];refine oO fun x _=>?_;by_cases q:x=h <;> by_cases z:x∈C <;> simp[q,z]
def jx(f:Nat->Nat):Nat->List Nat->Nat->List Nat×Nat
|0,path,here=>(path,here)
|n+1,path,here=>if here∈path then(path,here)else jx f n (path++[here]) (f here)
theorem K3{f:Nat->Nat}{x:Nat}{l:List Nat}(hcl:∀h∈l,f h∈l)(hx:x∈l):∀(n i:Nat),(bL f x i).Nodup->l.length<n+i->∃k,(bL f x k).Nodup/\it f k x∈bL f x k/\jx f n (bL f x i) (it f i x)=(bL f x k,it f k x):=by
 have mem:∀i,it f i x∈l:=by
  intro i
  induction i with
 |zero=>exact hx
 |succ i ih=>rw[iQ];exact hcl _ ih
 intro n
 induction n with
|zero=>
  intro i hn hl;have:=lC hn (m:=l) fun y hy=>by obtain⟨j,_,rfl⟩:=p_.mp hy;exact mem j
  rw[oA]at this;omega
|succ n ih=>
  intro i hn hl;unfold jx;by_cases q:it f i x∈bL f x i
  .rw[if_pos q];exact⟨i,hn,q,rfl⟩
  .rw[if_neg q,<-q9,<-iQ f];refine ih (i+1) ?_ (by omega);rw[q9];refine Vl.mpr ⟨hn,by simp,fun y hy z hz=>?_⟩;rw[List.mem_singleton]at hz;rw[hz]
   rintro rfl
   exact q hy
theorem Ou(f:Nat->Nat)(x:Nat):∀(k i:Nat),i<=k->(bL f x k).drop i=bL f (it f i x) (k-i):=by
 intro k i h;refine WW fun j=>?_;unfold bL;rw[X5,D_,D_];by_cases hj:i+j<k
 .rw[U4 hj,U4 (by omega)];simp only[VG];rw[iM]
 .rw[UC (by simp;omega),UC (by simp;omega)];rfl
theorem Kz{x:Nat}{k:Nat}(hx:x∈s.line)(hn:(bL (bM W O s) x k).Nodup)(hm:it (bM W O s) k x∈bL (bM W O s) x k):Cyc W O s ((bL (bM W O s) x k).drop ((bL (bM W O s) x k).idxOf (it (bM W O s) k x)))/\(bL (bM W O s) x k).drop ((bL (bM W O s) x k).idxOf (it (bM W O s) k x))≠[]:=by
 have hi:=VP hm;generalize hq:(bL (bM W O s) x k).idxOf (it (bM W O s) k x)=i at *;rw[oA]at hi;have e:it (bM W O s) i x=it (bM W O s) k x:=by have h1:=List.getElem_idxOf (VP hm);simp only[hq]at h1;simpa[bL]using h1
 rw[Ou _ _ _ _ (by omega)];have hm':∀i,it (bM W O s) i x∈s.line:=by
  intro i
  induction i with
 |zero=>exact hx
 |succ i ih=>rw[iQ];exact ll (Ur hx)
 refine⟨L3 (hm' i) (by omega) (by rw[<-iM,show i+(k-i)=k by omega,e]),fun z=>?_⟩;have:=oA (bM W O s) (it (bM W O s) i x) (k-i);rw[z]at this;simp at this;omega
end
end Rg
end
section
namespace Rg
end Rg
end
section
namespace Rg
end Rg
end
section
namespace Rg
end Rg
end
section
namespace Rg
end Rg
end
section
namespace Rg
end Rg
end
namespace Law
open PySem PySem.Spec PyProof.Rows L2 DL
abbrev gv(i:Nat):DL.FE:=fun r=>DL.eS r i
abbrev ci(i:Int):DL.FE:=fun _=>.ok (.int i)
abbrev q0:List DL.Md:=[.bw,.bw]
abbrev bq:List DL.Md:=[.bw,.sh]
abbrev bK:List DL.Md:=[.sh,.sh]
abbrev cE:List DL.Md:=[.sh,.bw]
abbrev cK:List DL.Md:=[.sh,.sh,.sh,.sh,.sh,.sh,.sh,.sh,.sh,.sh,.sh,.sh]
abbrev cS:List DL.Md:=[.bw,.sh,.sh,.sh,.sh]
abbrev cR:List DL.Md:=[.bw,.bw,.sh,.sh]
abbrev c5:List DL.Md:=[.bw,.bw,.ow,.sh,.sh]
abbrev c0:List DL.Md:=[.bw,.bw,.bw,.ow,.ow,.ow,.sh,.ow,.sh,.sh]
abbrev dh:List DL.Md:=[.bw,.bw,.sh]
abbrev dg:List DL.Md:=[.bw,.bw,.bw]
abbrev dW:List DL.Md:=[.bw,.bw,.sh,.sh,.sh,.sh,.sh]
abbrev dU:List DL.Md:=[.sh,.bw,.bw,.ow,.sh,.sh]
abbrev dS:List DL.Md:=[.bw,.sh,.sh,.sh,.sh,.sh,.sh,.sh,.sh,.sh,.sh,.sh]
abbrev fA:List DL.Md:=[.bw,.bw,.bw,.sh]
abbrev fw:List DL.Md:=[.sh,.sh,.sh]
abbrev gc:List DL.Md:=[.sh,.sh,.sh,.sh]
abbrev gb:List DL.Md:=[.sh,.bw,.bw,.ow,.sh]
abbrev gV:List DL.Md:=[.bw,.bw,.bw,.sh,.sh,.ow,.sh,.sh,.sh]
abbrev gU:List DL.Md:=[.bw,.bw,.bw,.ow,.ow,.ow,.sh,.sh,.sh,.sh]
abbrev i0:List DL.Md:=[.bw,.bw,.bw,.sh,.sh,.sh,.sh,.sh,.sh]
abbrev iZ:List DL.Md:=[.sh,.bw,.ow,.sh]
abbrev iY:List DL.Md:=[.sh,.sh,.sh,.ow,.sh]
abbrev jV:List DL.Md:=[.bw,.bw,.bw,.bw,.ow,.ow,.sh,.sh]
abbrev jU:List DL.Md:=[.bw,.bw,.bw,.ow,.sh]
abbrev jT:List DL.Md:=[.sh,.sh,.ow,.sh,.sh,.ow,.sh]
abbrev jS:List DL.Md:=[.sh,.sh,.ow,.sh,.sh,.sh,.sh]
abbrev jR:List DL.Md:=[.sh,.sh,.sh,.sh,.sh,.sh,.sh,.sh,.sh,.sh,.ow,.sh]
abbrev lX:List DL.Md:=[.bw,.bw,.sh,.sh,.sh]
abbrev lW:List DL.Md:=[.bw,.ow,.sh,.sh,.sh]
abbrev pP:List DL.Md:=[.bw,.bw,.bw,.bw,.ow,.ow,.sh,.ow]
abbrev pO:List DL.Md:=[.bw,.bw,.bw,.ow,.ow,.ow,.sh,.sh,.sh]
abbrev pN:List DL.Md:=[.bw,.bw,.bw,.bw,.bw,.bw,.sh,.bw,.sh,.sh]
theorem uA{α:Type}(us:List α)(h:us.length=1):∃a0,us=[a0]:=by match us,h with
|[_],_=>exact⟨_,rfl⟩
theorem BP{α:Type}(us:List α)(h:us.length=2):∃a0 a1,us=[a0,a1]:=by match us,h with
|[_,_],_=>exact⟨_,_,rfl⟩
theorem tV{α:Type}(us:List α)(h:us.length=3):∃a0 a1 a2,us=[a0,a1,a2]:=by match us,h with
|[_,_,_],_=>exact⟨_,_,_,rfl⟩
theorem I0{α:Type}(us:List α)(h:us.length=4):∃a0 a1 a2 a3,us=[a0,a1,a2,a3]:=by match us,h with
|[_,_,_,_],_=>exact⟨_,_,_,_,rfl⟩
def bb(i:Nat):Stmt:=PySem.Challenge.pw_ringtrade_k44_rows_of_the_desk.main.body.getD i (.Pass ⟨0,0,0,0⟩)
structure Txt(K:W.Frag)(mg:Str->Option a_):Prop where
 b_len:mg "len" = none
 b_isinstance:mg "isinstance" = none
 b_bool:mg "bool" = none
 b_int:mg "int" = none
 b_enumerate:mg "enumerate" = none
 b_tuple:mg "tuple" = none
 b_list:mg "list" = none
 b_range:mg "range" = none
 b_zip:mg "zip" = none
 b_all:mg "all" = none
 b_str:mg "str" = none
 b_sorted:mg "sorted" = none
 b_set:mg "set" = none
 b_min:mg "min" = none
 k_MOST_HANDS:∃t,mg "MOST_HANDS" = some (.int 7 t)
 k_MOST_THINGS:∃t,mg "MOST_THINGS" = some (.int 8 t)
 k_LETTERS:∃t,mg "LETTERS" = some (.str "ABCDEFGH" t)
 k_FIGURES:∃t,mg "FIGURES" = some (.str "0123456" t)
 k_MOST_HANDS_IN_LOTS:∃t,mg "MOST_HANDS_IN_LOTS" = some (.int 5 t)
 k_NOUGHT:∃a,mg "NOUGHT" = some (.ref a)/\KC K a (.tup [.int 0,.int 1])
 k_ONE:∃a,mg "ONE" = some (.ref a)/\KC K a (.tup [.int 1,.int 1])
def eL:Str->Bool:=fun nm=>(["Kept"]:List Str).contains nm
def gB:Str->Bool:=fun nm=>(["Kept"]:List Str).contains nm
def kG:Str->Bool:=fun nm=>(["Kept"]:List Str).contains nm
def mN:Str->Bool:=fun nm=>(["Desk"]:List Str).contains nm
def mM:Str->Bool:=fun nm=>(["Desk"]:List Str).contains nm
abbrev AN:Stmt:=bb 19
abbrev Ie:List Str:=["rows"]
abbrev AL:List Str:=["rows"]
theorem R9:FnScope Ie AL (aa AN):=be
def sP:FS:=(seqF (cF [Md.bw] (gs (aW (f2 (fC (af (gv 0) ab) lenD) (ci 1) iu)) (aW (f2 (fC (af (gv 0) ab) lenD) (ci 7) jt))) (seqF (fun _=>Out.stuck) au) au) au)
def sQ:List D->Res D:=fun ds=>av false (sP (aE Ie.length ds))
variable{P:E_}{w:S_}{K:W.Frag}{mg:Str->Option a_}{base:Heap}
theorem RF(T:Txt K mg)(A:DefAt K mg "refuse_too_many_rows" AN):Callee P w K mg base "refuse_too_many_rows" AL [] 1 false [Md.bw] sQ:=
 bn (m':=[Md.bw]) A R9 fun f cdv A outer s H g E hr B=>(ai (bu (SW.toQ (ga (jQ (bE (cC (by rfl) T.b_len (aM (ae 0) aN))) iB) (lj (gT (bE (cC (by rfl) T.b_len (aM (ae 0) aN))) (bE (DO (by rfl) T.k_MOST_HANDS)))))) (ai jK
   aw)
   aw)
   aw)
abbrev xZ:Stmt:=bb 14
abbrev F5:List Str:=["value"]
abbrev y9:List Str:=["value"]
theorem QZ:FnScope F5 y9 (aa xZ):=be
def Qf:FS:=(seqF (retF [Md.bw] (de (f1 (gv 0) (gm "int")) (pA (f1 (gv 0) (gm "bool"))))) au)
def rM:List D->Res D:=fun ds=>av false (Qf (aE F5.length ds))
theorem Mx(T:Txt K mg)(A:DefAt K mg "is_whole" xZ):Callee P w K mg base "is_whole" y9 [] 1 false [Md.bw] rM:=
 bn (m':=[Md.bw]) A QZ fun f cdv A outer s H g E hr B=>(ai (aY (k9 (n4 "int" "int" rfl (MG _) (by rfl) T.b_isinstance (by rfl) T.b_int (ae 0)) (lg (Iz (n4 "bool" "bool" rfl (NB _) (by rfl) T.b_isinstance (by rfl) T.b_bool (ae 0))))))
   aw)
abbrev xY:Stmt:=bb 15
abbrev F4:List Str:=["value","bound"]
abbrev rP:List Str:=["value","bound"]
theorem QY:FnScope F4 rP (aa xY):=be
def yW:FS:=(seqF (retF q0 (de (aI (af (gv 0) ab) [] rM) (n5 (ci 0) (gv 0) (gv 1) Bl iu))) au)
def lJ:List D->Res D:=fun ds=>av false (yW (aE F4.length ds))
theorem Mw(T:Txt K mg)(A:DefAt K mg "is_below" xY)(B:Callee P w K mg base "is_whole" y9 [] 1 false [Md.bw] rM):Callee P w K mg base "is_below" rP [] 2 false q0 lJ:=
 bn (m':=q0) A QY fun f cdv A outer s H g E hr L=>(ai (aY (k9 (aS B (ak (ae 0) aK)) (lg (N9 Jk tT Jh Ji iB (ae 0) (ae 1)))))
   aw)
abbrev Ak:Stmt:=bb 16
abbrev Hx:List Str:=["numbers","bound","ahead","place","number"]
abbrev Av:List Str:=["numbers","bound"]
theorem sC:FnScope Hx Av (aa Ak):=be
abbrev AF:FS:=(seqF (cF c5 (gs (du (cn (aI (af (gv 4) (af (gv 1) ab)) [] lJ))) (aW (f2 (gv 4) (gv 2) dF))) (seqF (retF c5 (gv 3)) au) au) (seqF (putF c5 2 (gv 4) (fun _=>Res.ok (D.bl true))) au))
def Ar:FS:=(seqF (ao lX 2 (fun _=>Res.ok (D.dic []))) (seqF (cZ c5 (gY (gv 0)) (dq (bD (ay 3) (bD (ay 4) c9))) AF) (seqF (retF c5 (fC (af (gv 0) ab) lenD)) au)))
def sE:List D->Res D:=fun ds=>av false (Ar (aE Hx.length ds))
theorem Pi(T:Txt K mg)(A:DefAt K mg "first_wrong" Ak)(B:Callee P w K mg base "is_below" rP [] 2 false q0 lJ):Callee P w K mg base "first_wrong" Av [] 3 false q0 sE:=
 bn (m':=c5) A sC fun f cdv A outer s H g E hr L=>(ai (eY 2 sC.nd (by rfl) (c6 rfl) mS)
   (ai (qz I_ rfl (Dj (by rfl) T.b_enumerate (sR 0)) (jg rfl (dL (bY 3 sC.nd) (dL (bY 4 sC.nd) jf))) (ai (bu (SW.toQ (ga (li (iK (bE (aS B (ak (ae 4) (ak (ae 1) aK)))))) (lj (iW L (ae 4) (ae 2))))) (ai (aY (v_ 3))
   aw)
   aw)
   (ai (jB 2 L rfl (by rfl) (bR rfl) (ae 4) pI)
   aw)))
   (ai (aY (cC (by rfl) T.b_len (aM (ae 0) aN)))
   aw)))
abbrev zq:Stmt:=bb 17
abbrev Hf:List Str:=["numbers","bound"]
abbrev zV:List Str:=["numbers","bound"]
theorem RK:FnScope Hf zV (aa zq):=be
def Ac:FS:=(seqF (retF q0 (f2 (aI (af (gv 0) (af (gv 1) ab)) [] sE) (fC (af (gv 0) ab) lenD) eqD)) au)
def rW:List D->Res D:=fun ds=>av false (Ac (aE Hf.length ds))
theorem Oo(T:Txt K mg)(A:DefAt K mg "are_unlike" zq)(B:Callee P w K mg base "first_wrong" Av [] 3 false q0 sE):Callee P w K mg base "are_unlike" zV [] 4 false q0 rW:=
 bn (m':=q0) A RK fun f cdv A outer s H g E hr M=>have L:=hr.units;(ai (aY (eM L (bE (aS B (ak (ae 0) (ak (ae 1) aK)))) (bE (cC (by rfl) T.b_len (aM (ae 0) aN)))))
   aw)
abbrev Az:Stmt:=bb 18
abbrev HP:List Str:=["numbers","bound"]
abbrev sN:List Str:=["numbers","bound"]
theorem R4:FnScope HP sN (aa Az):=be
def AI:FS:=(seqF (retF q0 (de (f2 (fC (af (gv 0) ab) lenD) (gv 1) eqD) (aI (af (gv 0) (af (gv 1) ab)) [] rW))) au)
def nI:List D->Res D:=fun ds=>av false (AI (aE HP.length ds))
theorem Qe(T:Txt K mg)(A:DefAt K mg "has_each_once" Az)(B:Callee P w K mg base "are_unlike" zV [] 4 false q0 rW):Callee P w K mg base "has_each_once" sN [] 5 false q0 nI:=
 bn (m':=q0) A R4 fun f cdv A outer s H g E hr M=>have L:=hr.units;(ai (aY (k9 (eM L (bE (cC (by rfl) T.b_len (aM (ae 0) aN))) (ae 1)) (lg (aS B (ak (ae 0) (ak (ae 1) aK))))))
   aw)
abbrev yI:Stmt:=bb 20
abbrev Gs:List Str:=["rows","things","hand","row"]
abbrev zg:List Str:=["rows"]
theorem o8:FnScope Gs zg (aa yI):=be
abbrev Ht:FS:=(seqF (cF gc (du (cn (aI (af (gv 3) (af (gv 1) ab)) [] nI))) (seqF (fun _=>Out.stuck) au) au) au)
def zL:FS:=(seqF (iI gc (aI (af (gv 0) ab) [] sQ)) (seqF (ao gc 1 (fC (af (f2 (gv 0) (ci 0) aX) ab) lenD)) (seqF (cF gc (gs (aW (f2 (gv 1) (fC (af (gv 0) ab) lenD) iu)) (aW (f2 (gv 1) (ci 8) jt))) (seqF (fun _=>Out.stuck) au) au) (seqF (cZ gc (gY (gv 0)) (dq (bD (ay 2) (bD (ay 3) c9))) Ht) (seqF (retF gc (fC (af (bN 1 [] (aL bz (gv 0)) (ay 0) (fun _=>Res.ok true) (fC (af (gv 0) ab) tupD)) ab) tupD)) au)))))
def so:List D->Res D:=fun ds=>av false (zL (aE Gs.length ds))
theorem NU(T:Txt K mg)(A:DefAt K mg "wishes_of" yI)(B:Callee P w K mg base "refuse_too_many_rows" AL [] 1 false [Md.bw] sQ)(L:Callee P w K mg base "has_each_once" sN [] 5 false q0 nI):Callee P w K mg base "wishes_of" zg [] 6 false [Md.sh] so:=
 bn (m':=gc) A o8 fun f cdv A outer s H g E hr M=>(ai (kl (aS B (ak (ae 0) aK)))
   (ai (bA 1 o8.nd (cC (by rfl) T.b_len (aM (xB M (ae 0) iB) aN)))
   (ai (bu (SW.toQ (ga (jQ (ae 1) (bE (cC (by rfl) T.b_len (aM (ae 0) aN)))) (lj (gT (ae 1) (bE (DO (by rfl) T.k_MOST_THINGS)))))) (ai jK
   aw)
   aw)
   (ai (ij I_ rfl (CL (by rfl) T.b_enumerate (v_ 0)) (jg rfl (dL (bY 2 o8.nd) (dL (bY 3 o8.nd) jf))) (ai (bu (li (iK (bE (aS L (ak (ae 3) (ak (ae 1) aK)))))) (ai jK
   aw)
   aw)
   aw))
   (ai (aY (io (by rfl) T.b_tuple (aM (SO.toB (ir ["row"] [] o8.nd (db (ae 0)) (io (by rfl) T.b_tuple (aM (ae 0) aN)))) aN)))
   aw)))))
abbrev yG:Stmt:=bb 21
abbrev Gq:List Str:=["wishes"]
abbrev pe:List Str:=["wishes"]
theorem Rf:FnScope Gq pe (aa yG):=be
def zJ:FS:=(seqF (retF [Md.bw] (fC (af (f2 (gv 0) (ci 0) aX) ab) lenD)) au)
def jq:List D->Res D:=fun ds=>av false (zJ (aE Gq.length ds))
theorem uM(T:Txt K mg)(A:DefAt K mg "things_in" yG):Callee P w K mg base "things_in" pe [] 1 false [Md.bw] jq:=
 bn (m':=[Md.bw]) A Rf fun f cdv A outer s H g E hr B=>(ai (aY (cC (by rfl) T.b_len (aM (xB B (ae 0) iB) aN)))
   aw)
abbrev xT:Stmt:=bb 24
abbrev Fe:List Str:=["wishes","things","ahead","hand","thing"]
abbrev yr:List Str:=["wishes","things"]
theorem rT:FnScope Fe yr (aa xT):=be
abbrev Gc:FS:=(seqF (cF c5 (aW (f2 (gv 4) (fun _=>Res.ok D.non) i7)) (seqF (cF c5 (gs (du (cn (aI (af (gv 4) (af (aI (af (gv 0) ab) [] jq) ab)) [] lJ))) (aW (f2 (gv 4) (gv 2) dF))) (seqF (fun _=>Out.stuck) au) au) (seqF (putF c5 2 (gv 4) (fun _=>Res.ok (D.bl true))) au)) au) au)
def xO:FS:=(seqF (cF lX (aW (f2 (fC (af (gv 1) ab) lenD) (fC (af (gv 0) ab) lenD) neD)) (seqF (fun _=>Out.stuck) au) au) (seqF (ao lX 2 (fun _=>Res.ok (D.dic []))) (seqF (cZ c5 (gY (gv 1)) (dq (bD (ay 3) (bD (ay 4) c9))) Gc) (seqF (retF c5 (fC (af (gv 1) ab) tupD)) au))))
def rm:List D->Res D:=fun ds=>av false (xO (aE Fe.length ds))
theorem LG(T:Txt K mg)(A:DefAt K mg "owns_of" xT)(B:Callee P w K mg base "things_in" pe [] 1 false [Md.bw] jq)(L:Callee P w K mg base "is_below" rP [] 2 false q0 lJ):Callee P w K mg base "owns_of" yr [] 3 false q0 rm:=
 bn (m':=c5) A rT fun f cdv A outer s H g E hr M=>have U:=hr.units;(ai (bu (Bj U (bE (cC (by rfl) T.b_len (aM (ae 1) aN))) (bE (cC (by rfl) T.b_len (aM (ae 0) aN)))) (ai jK
   aw)
   aw)
   (ai (eY 2 rT.nd (by rfl) (c6 rfl) mS)
   (ai (qz I_ rfl (Dj (by rfl) T.b_enumerate (sR 1)) (jg rfl (dL (bY 3 rT.nd) (dL (bY 4 rT.nd) jf))) (ai (bu (Co (ae 4) (bE eV)) (ai (bu (SW.toQ (ga (li (iK (bE (aS L (ak (ae 4) (ak (bE (aS B (ak (ae 0) aK))) aK)))))) (lj (iW M (ae 4) (ae 2))))) (ai jK
   aw)
   aw)
   (ai (jB 2 M rfl (by rfl) (bR rfl) (ae 4) pI)
   aw))
   aw)
   aw))
   (ai (aY (io (by rfl) T.b_tuple (aM (ae 1) aN)))
   aw))))
abbrev ye:Stmt:=bb 25
abbrev F7:List Str:=["wishes","order"]
abbrev yM:List Str:=["wishes","order"]
theorem Q1:FnScope F7 yM (aa ye):=be
def nj:FS:=(seqF (cF q0 (aW (f2 (gv 1) (fun _=>Res.ok D.non) nL)) (seqF (retF q0 (fC (af (fC (af (gv 0) ab) lenD) ab) ki)) au) au) (seqF (cF q0 (du (cn (aI (af (gv 1) (af (fC (af (gv 0) ab) lenD) ab)) [] nI))) (seqF (fun _=>Out.stuck) au) au) (seqF (retF q0 (fC (af (gv 1) ab) kU)) au)))
def nu:List D->Res D:=fun ds=>av false (nj (aE F7.length ds))
theorem MA(T:Txt K mg)(A:DefAtD K mg "order_of" ye [Value.none])(B:Callee P w K mg base "has_each_once" sN [] 5 false q0 nI):Callee P w K mg base "order_of" yM [] 6 false q0 nu:=by
 refine vZ (ds:=[]) (k:=5) (fs:=nj) (m':=q0) A Q1 rfl 2 rfl (fun _ _ _ _ _ _ _ us hl=>by obtain⟨u0,u1,rfl⟩:=BP us hl;exact⟨_,rfl,rfl⟩) fun f cdv A outer s H g E hr=>?_;have M:=kh hr;have L:=hr.units;exact(ai (bu (lV (ae 1) (bE eV)) (ai (aY (SO.toE (qR rfl (by rfl) T.b_list (by rfl) T.b_range (aM (bE (cC (by rfl) T.b_len (aM (ae 0) aN))) aN))))
   aw)
   aw)
   (ai (bu (li (iK (bE (aS B (ak (ae 1) (ak (bE (cC (by rfl) T.b_len (aM (ae 0) aN))) aK)))))) (ai jK
   aw)
   aw)
   (ai (aY (SO.toE (qv (by rfl) T.b_list (aM (ae 1) aN))))
   aw)))
abbrev yJ:Stmt:=bb 28
abbrev Gu:List Str:=["thing","own","letter"]
abbrev zh:List Str:=["thing","own"]
theorem GX:FnScope Gu zh (aa yJ):=be
def zM:FS:=(seqF (ao dh 2 (f2 (fun _=>Res.ok (D.str "ABCDEFGH")) (gv 0) aX)) (seqF (retF dh (iz (aW (f2 (gv 0) (gv 1) eqD)) (f2 (gv 2) (fun _=>Res.ok (D.str "*")) addA) (gv 2))) au))
def o9:List D->Res D:=fun ds=>av false (zM (aE Gu.length ds))
theorem NV(T:Txt K mg)(A:DefAt K mg "word_text" yJ):Callee P w K mg base "word_text" zh [] 1 false q0 o9:=
 bn (m':=dh) A GX fun f cdv A outer s H g E hr L=>have B:=hr.units;(ai (bA 2 GX.nd (da L (bE (lB (by rfl) T.k_LETTERS)) (ae 0)))
   (ai (aY (mI (cz B (ae 0) (ae 1)) (dc (ae 2) (bE cH)) (v_ 2)))
   aw))
abbrev yf:Stmt:=bb 29
abbrev F8:List Str:=["row","own"]
abbrev yN:List Str:=["row","own"]
theorem GK:FnScope F8 yN (aa yf):=be
def yY:FS:=(seqF (retF q0 (fM "str" (fun _=>Res.ok (D.str " ")) (af (bN 1 [1] (aL bz (gv 0)) (ay 0) (fun _=>Res.ok true) (aI (af (gv 0) (af (gv 1) ab)) [] o9)) ab) gJ)) au)
def oU:List D->Res D:=fun ds=>av false (yY (aE F8.length ds))
theorem MB(T:Txt K mg)(A:DefAt K mg "row_text" yf)(B:Callee P w K mg base "word_text" zh [] 1 false q0 o9):Callee P w K mg base "row_text" yN [] 2 false q0 oU:=
 bn (m':=q0) A GK fun f cdv A outer s H g E hr L=>(ai (aY (cm PySem.F.plainAttrs_str PySem.F.slot_str_join PySem.F.type_str_join kE kC (bE cH) (aM (SO.toB (ir ["thing","own"] [1] GK.nd (db (ae 0)) (aS B (ak (ae 0) (ak (ae 1) aK))))) aN)))
   aw)
abbrev yF:Stmt:=bb 30
abbrev Gp:List Str:=["wishes","owns"]
abbrev sv:List Str:=["wishes","owns"]
theorem GV:FnScope Gp sv (aa yF):=be
def zI:FS:=(seqF (retF bK (fM "str" (fun _=>Res.ok (D.str "; ")) (af (bN 2 [] (gq (gv 0) (gv 1)) (dq (bD (ay 0) (bD (ay 1) c9))) (fun _=>Res.ok true) (aI (af (gv 0) (af (gv 1) ab)) [] oU)) ab) gJ)) au)
def nF:List D->Res D:=fun ds=>av false (zI (aE Gp.length ds))
theorem NS(T:Txt K mg)(A:DefAt K mg "rows_text" yF)(B:Callee P w K mg base "row_text" yN [] 2 false q0 oU):Callee P w K mg base "rows_text" sv [] 3 false bK nF:=
 bn (m':=bK) A GV fun f cdv A outer s H g E hr L=>(ai (aY (cm PySem.F.plainAttrs_str PySem.F.slot_str_join PySem.F.type_str_join kE kC (bE cH) (aM (SO.toB (Ip ["row","own"] [] GV.nd (iC.toC (tM (by rfl) T.b_zip (v_ 0) (v_ 1))) (aS B (ak (ae 0) (ak (ae 1) aK))))) aN)))
   aw)
abbrev zv:Stmt:=bb 31
abbrev Hi:List Str:=["word"]
abbrev o5:List Str:=["word"]
theorem Ry:FnScope Hi o5 (aa zv):=be
def Ae:FS:=(seqF (retF [Md.bw] (fM "str" (gv 0) (af (fun _=>Res.ok (D.str "*")) ab) kT)) au)
def jo:List D->Res D:=fun ds=>av false (Ae (aE Hi.length ds))
theorem uO(T:Txt K mg)(A:DefAt K mg "is_starred" zv):Callee P w K mg base "is_starred" o5 [] 1 false [Md.bw] jo:=
 bn (m':=[Md.bw]) A Ry fun f cdv A outer s H g E hr B=>(ai (aY (cm PySem.F.plainAttrs_str PySem.F.slot_str_endswith PySem.F.type_str_endswith Mt Lf (ae 0) (aM (bE cH) aN)))
   aw)
abbrev yB:Stmt:=bb 32
abbrev Gk:List Str:=["word"]
abbrev pd:List Str:=["word"]
theorem Ru:FnScope Gk pd (aa yB):=be
def zE:FS:=(seqF (retF [Md.sh] (iz (cn (aI (af (gv 0) ab) [] jo)) (gX (gv 0) (fun _=>Res.ok none) (iJ (f1 (ci 1) pS))) (gv 0))) au)
def kK:List D->Res D:=fun ds=>av false (zE (aE Gk.length ds))
theorem MO(T:Txt K mg)(A:DefAt K mg "letter_in" yB)(B:Callee P w K mg base "is_starred" o5 [] 1 false [Md.bw] jo):Callee P w K mg base "letter_in" pd [] 2 false [Md.sh] kK:=
 bn (m':=[Md.sh]) A Ru fun f cdv A outer s H g E hr L=>(ai (aY (mI (iK (bE (aS B (ak (ae 0) aK)))) (uG (ae 0) lw (lx (bE (Iy iB)))) (v_ 0)))
   aw)
abbrev xS:Stmt:=bb 33
abbrev Fc:List Str:=["word","letter"]
abbrev yq:List Str:=["word"]
theorem Gw:FnScope Fc yq (aa xS):=be
def xN:FS:=(seqF (ao bK 1 (aI (af (gv 0) ab) [] kK)) (seqF (retF bK (de (f2 (fC (af (gv 1) ab) lenD) (ci 1) eqD) (f2 (gv 1) (fun _=>Res.ok (D.str "ABCDEFGH")) dF))) au))
def rE:List D->Res D:=fun ds=>av false (xN (aE Fc.length ds))
theorem LF(T:Txt K mg)(A:DefAt K mg "is_word" xS)(B:Callee P w K mg base "letter_in" pd [] 2 false [Md.sh] kK):Callee P w K mg base "is_word" yq [] 3 false [Md.sh] rE:=
 bn (m':=bK) A Gw fun f cdv A outer s H g E hr M=>have L:=hr.units;(ai (bA 1 Gw.nd (aS B (aF (v_ 0) aK)))
   (ai (aY (k9 (eM L (bE (cC (by rfl) T.b_len (aM (ae 1) aN))) iB) (lg (pG M (ae 1) (bE (lB (by rfl) T.k_LETTERS))))))
   aw))
abbrev xR:Stmt:=bb 34
abbrev Fb:List Str:=["words","starred"]
abbrev yp:List Str:=["words"]
theorem yT:FnScope Fb yp (aa xR):=be
def xM:FS:=(seqF (ao bq 1 (bN 1 [] (aL bz (gv 0)) (ay 0) (cn (aI (af (gv 0) ab) [] jo)) (gv 0))) (seqF (retF [.bw,.ow] (de (f2 (fC (af (gv 1) ab) lenD) (ci 2) iu) (fC (af (bN 1 [] (aL bz (gv 0)) (ay 0) (fun _=>Res.ok true) (aI (af (gv 0) ab) [] rE)) ab) allD))) au))
def rD:List D->Res D:=fun ds=>av false (xM (aE Fb.length ds))
theorem LD(T:Txt K mg)(A:DefAt K mg "is_part" xR)(B:Callee P w K mg base "is_starred" o5 [] 1 false [Md.bw] jo)(L:Callee P w K mg base "is_word" yq [] 3 false [Md.sh] rE):Callee P w K mg base "is_part" yp [] 4 false [Md.bw] rD:=
 bn (m':=[.bw,.ow]) A yT fun f cdv A outer s H g E hr M=>(ai (sc1 1 ["word"] [] yT.nd (db (ae 0)) (v_ 0) (hq:=(oh (iK (bE (aS B (ak (ae 0) aK)))))))
   (ai (aY (k9 (Ba (bE (cC (by rfl) T.b_len (aM (ae 1) aN))) iB) (lg (Iw rfl (by rfl) T.b_all (aM (SO.toB (ir ["word"] [] yT.nd (db (ae 0)) (aS L (aF (v_ 0) aK)))) aN)))))
   aw))
abbrev wP:Stmt:=bb 35
abbrev EI:List Str:=["words"]
abbrev wV:List Str:=["words"]
theorem Fv:FnScope EI wV (aa wP):=be
def wS:FS:=(seqF (retF [Md.bw] (bN 1 [] (aL bz (gv 0)) (ay 0) (fun _=>Res.ok true) (fM "str" (fun _=>Res.ok (D.str "ABCDEFGH")) (af (aI (af (gv 0) ab) [] kK) ab) k6))) au)
def oG:List D->Res D:=fun ds=>av false (wS (aE EI.length ds))
theorem KU(T:Txt K mg)(A:DefAt K mg "row_in" wP)(B:Callee P w K mg base "letter_in" pd [] 2 false [Md.sh] kK):Callee P w K mg base "row_in" wV [] 3 false [Md.bw] oG:=
 bn (m':=[Md.bw]) A Fv fun f cdv A outer s H g E hr L=>(ai (aY (SO.toE (ir ["word"] [] Fv.nd (db (ae 0)) (cm PySem.F.plainAttrs_str PySem.F.slot_str_index PySem.F.type_str_index wA wD (bE (lB (by rfl) T.k_LETTERS)) (aM (bE (aS B (aF (v_ 0) aK))) aN)))))
   aw)
abbrev wN:Stmt:=bb 36
abbrev EG:List Str:=["words","word"]
abbrev wT:List Str:=["words"]
theorem FO:FnScope EG wT (aa wN):=be
abbrev oV:FS:=(seqF (cF bq (cn (aI (af (gv 1) ab) [] jo)) (seqF (retF bq (fM "str" (fun _=>Res.ok (D.str "ABCDEFGH")) (af (aI (af (gv 1) ab) [] kK) ab) k6)) au) au) au)
def wR:FS:=(seqF (cZ bq (aL bz (gv 0)) (ay 1) oV) (seqF (retF bq (fun _=>Res.ok D.non)) au))
def oF:List D->Res D:=fun ds=>av false (wR (aE EG.length ds))
theorem KR(T:Txt K mg)(A:DefAt K mg "own_in" wN)(B:Callee P w K mg base "is_starred" o5 [] 1 false [Md.bw] jo)(L:Callee P w K mg base "letter_in" pd [] 2 false [Md.sh] kK):Callee P w K mg base "own_in" wT [] 3 false [Md.bw] oF:=
 bn (m':=bq) A FO fun f cdv A outer s H g E hr M=>(ai (qA I_ rfl (db (ae 0)) (fun _=>(bY 1 FO.nd)) (fun _=>(ai (bu (iK (bE (aS B (ak (ae 1) aK)))) (ai (aY (cm PySem.F.plainAttrs_str PySem.F.slot_str_index PySem.F.type_str_index wA wD (bE (lB (by rfl) T.k_LETTERS)) (aM (bE (aS L (aF (v_ 1) aK))) aN)))
   aw)
   aw)
   aw)))
   (ai (aY eV)
   aw))
abbrev yE:Stmt:=bb 37
abbrev Go:List Str:=["text","parts","at","words","wishes"]
abbrev ze:List Str:=["text"]
theorem lE:FnScope Go ze (aa yE):=be
abbrev Hs:FS:=(seqF (cF cS (du (cn (aI (af (gv 3) ab) [] rD))) (seqF (fun _=>Out.stuck) au) au) au)
def zH:FS:=(seqF (cF cS (du (cn (f1 (gv 0) (gm "str")))) (seqF (fun _=>Out.stuck) au) au) (seqF (ao cS 1 (bN 1 [] (aL bz (fM "str" (gv 0) (af (fun _=>Res.ok (D.str "; ")) ab) kn)) (ay 0) (fun _=>Res.ok true) (fM "str" (gv 0) (af (fun _=>Res.ok (D.str " ")) ab) kn))) (seqF (cZ cS (gY (gv 1)) (dq (bD (ay 2) (bD (ay 3) c9))) Hs) (seqF (ao cS 4 (aI (af (bN 1 [] (aL bz (gv 1)) (ay 0) (fun _=>Res.ok true) (aI (af (gv 0) ab) [] oG)) ab) [] so)) (seqF (retF cS (eO (af (gv 4) (af (aI (af (gv 4) (af (bN 1 [] (aL bz (gv 1)) (ay 0) (fun _=>Res.ok true) (aI (af (gv 0) ab) [] oF)) ab)) [] rm) ab)))) au)))))
def sm:List D->Res D:=fun ds=>av false (zH (aE Go.length ds))
theorem NR(T:Txt K mg)(A:DefAt K mg "rows_read" yE)(M:Callee P w K mg base "is_part" yp [] 4 false [Md.bw] rD)(Y:Callee P w K mg base "row_in" wV [] 3 false [Md.bw] oG)(B:Callee P w K mg base "wishes_of" zg [] 6 false [Md.sh] so)(U:Callee P w K mg base "own_in" wT [] 3 false [Md.bw] oF)(L:Callee P w K mg base "owns_of" yr [] 3 false q0 rm):Callee P w K mg base "rows_read" ze [] 7 false [Md.bw] sm:=
 bn (m':=cS) A lE fun f cdv A outer s H g E hr Z=>(ai (bu (li (iK (bE (n4 "str" "str" rfl (vX _) (by rfl) T.b_isinstance (by rfl) T.b_str (ae 0))))) (ai jK
   aw)
   aw)
   (ai (sc1 1 ["part"] [] lE.nd (db (bE (cm PySem.F.plainAttrs_str PySem.F.slot_str_split PySem.F.type_str_split xA wY (ae 0) (aM (bE cH) aN)))) (cm PySem.F.plainAttrs_str PySem.F.slot_str_split PySem.F.type_str_split xA wY (ae 0) (aM (bE cH) aN)))
   (ai (uE 1 rfl (ij I_ rfl (CL (by rfl) T.b_enumerate (v_ 1)) (jg rfl (dL (bY 2 lE.nd) (dL (bY 3 lE.nd) jf))) (ai (bu (li (iK (bE (aS M (ak (ae 3) aK))))) (ai jK
   aw)
   aw)
   aw)))
   (ai (bA 4 lE.nd (aS B (aF (SO.toE (ir ["words"] [] lE.nd (db (ae 1)) (aS Y (ak (ae 0) aK)))) aK)))
   (ai (aY (fP (bp (v_ 4) (bp (aS L (ak (ae 4) (ak (SO.toB (ir ["words"] [] lE.nd (db (ae 1)) (aS U (ak (ae 0) aK)))) aK))) bJ))))
   aw)))))
abbrev Al:Stmt:=bb 39
abbrev Hy:List Str:=["things"]
abbrev Aw:List Str:=["things"]
theorem HF:FnScope Hy Aw (aa Al):=be
def As:FS:=(seqF (retF [Md.bw] (fM "str" (fun _=>Res.ok (D.str " ")) (af (bN 1 [] (aL bz (gv 0)) (ay 0) (fun _=>Res.ok true) (f2 (fun _=>Res.ok (D.str "ABCDEFGH")) (gv 0) aX)) ab) gJ)) au)
def sF:List D->Res D:=fun ds=>av false (As (aE Hy.length ds))
theorem Pj(T:Txt K mg)(A:DefAt K mg "things_text" Al):Callee P w K mg base "things_text" Aw [] 1 false [Md.bw] sF:=
 bn (m':=[Md.bw]) A HF fun f cdv A outer s H g E hr B=>(ai (aY (cm PySem.F.plainAttrs_str PySem.F.slot_str_join PySem.F.type_str_join kE kC (bE cH) (aM (SO.toB (ir ["thing"] [] HF.nd (db (ae 0)) (da B (bE (lB (by rfl) T.k_LETTERS)) (ae 0)))) aN)))
   aw)
abbrev yA:Stmt:=bb 50
abbrev Gj:List Str:=["row","things"]
abbrev zb:List Str:=["row","things"]
theorem GU:FnScope Gj zb (aa yA):=be
def zD:FS:=(seqF (retF q0 (f2 (bN 1 [1] (aL bz (gv 0)) (ay 0) (aW (f2 (gv 0) (gv 1) dF)) (gv 0)) (ci 0) aX)) au)
def ph:List D->Res D:=fun ds=>av false (zD (aE Gj.length ds))
theorem MN(T:Txt K mg)(A:DefAt K mg "best_left" yA):Callee P w K mg base "best_left" zb [] 1 false q0 ph:=
 bn (m':=q0) A GU fun f cdv A outer s H g E hr B=>(ai (aY (da B (SO.toB (ir ["thing","things"] [1] GU.nd (db (ae 0)) (v_ 0) (hq:=(oh (iW B (ae 0) (ae 1)))))) iB))
   aw)
abbrev zy:Stmt:=bb 51
abbrev Hl:List Str:=["owns","line","thing","hand"]
abbrev zY:List Str:=["owns","line","thing"]
theorem HK:FnScope Hl zY (aa zy):=be
abbrev pi:FS:=(seqF (cF fA (aW (f2 (f2 (gv 0) (gv 3) aX) (gv 2) eqD)) (seqF (retF fA (gv 3)) au) au) au)
def Ag:FS:=(seqF (cZ fA (aL bz (gv 1)) (ay 3) pi) (seqF (retF fA (fun _=>Res.ok D.non)) au))
def rZ:List D->Res D:=fun ds=>av false (Ag (aE Hl.length ds))
theorem Ot(T:Txt K mg)(A:DefAt K mg "owner_left" zy):Callee P w K mg base "owner_left" zY [] 1 false dg rZ:=
 bn (m':=fA) A HK fun f cdv A outer s H g E hr L=>have B:=hr.units;(ai (qA I_ rfl (db (ae 1)) (fun _=>(bY 3 HK.nd)) (fun _=>(ai (bu (cz B (xB L (ae 0) (ae 3)) (ae 2)) (ai (aY (v_ 3))
   aw)
   aw)
   aw)))
   (ai (aY eV)
   aw))
abbrev wM:Stmt:=bb 53
abbrev EF:List Str:=["rings","got","ring","hand","thing"]
abbrev qY:List Str:=["rings"]
theorem oR:FnScope EF qY (aa wM):=be
abbrev FX:FS:=(seqF (putF lW 1 (gv 3) (gv 4)) au)
abbrev FY:FS:=(seqF (cZ lW (aL bz (gv 2)) (dq (bD (ay 3) (bD (ay 4) c9))) FX) au)
def wQ:FS:=(seqF (ao cS 1 (fun _=>Res.ok (D.dic []))) (seqF (cZ lW (aL bz (gv 0)) (ay 2) FY) (seqF (retF cS (gv 1)) au)))
def m5:List D->Res D:=fun ds=>av false (wQ (aE EF.length ds))
theorem BR(T:Txt K mg)(A:DefAt K mg "got_in" wM):Callee P w K mg base "got_in" qY [] 1 false [Md.bw] m5:=
 bn (m':=cS) A oR fun f cdv A outer s H g E hr B=>(ai (eY 1 oR.nd (by rfl) (c6 rfl) mS)
   (ai (qz I_ rfl (CM (sR 0)) (bY 2 oR.nd) (ai (ij I_ rfl (nU (v_ 2)) (jg rfl (dL (bY 3 oR.nd) (dL (bY 4 oR.nd) jf))) (ai (jB 1 B rfl (by rfl) (bR rfl) (ae 3) (v_ 4))
   aw))
   aw))
   (ai (uE 1 rfl (aY (v_ 1)))
   aw)))
abbrev zt:Stmt:=bb 54
abbrev Hg:List Str:=["got"]
abbrev zW:List Str:=["got"]
theorem HI:FnScope Hg zW (aa zt):=be
def Ad:FS:=(seqF (retF [Md.bw] (fC (af (bN 1 [0] (c7 eN (af (fC (af (gv 0) ab) lenD) ab)) (ay 0) (fun _=>Res.ok true) (f2 (gv 1) (gv 0) aX)) ab) tupD)) au)
def rX:List D->Res D:=fun ds=>av false (Ad (aE Hg.length ds))
theorem Op(T:Txt K mg)(A:DefAt K mg "dealing_of" zt):Callee P w K mg base "dealing_of" zW [] 1 false [Md.bw] rX:=
 bn (m':=[Md.bw]) A HI fun f cdv A outer s H g E hr B=>(ai (aY (io (by rfl) T.b_tuple (aM (SO.toB (ir ["hand","got"] [0] HI.nd (iC.toC (oI (by rfl) T.b_range (aM (bE (cC (by rfl) T.b_len (aM (ae 0) aN))) aN))) (da B (ae 1) (ae 0)))) aN)))
   aw)
abbrev AH:Stmt:=bb 96
abbrev HQ:List Str:=["owns","line","thing","owner"]
abbrev AR:List Str:=["owns","line","thing"]
theorem Ic:FnScope HQ AR (aa AH):=be
def AE:FS:=(seqF (ao fA 3 (aI (af (gv 0) (af (gv 1) (af (gv 2) ab))) [] rZ)) (seqF (retF fA (iz (aW (f2 (gv 3) (fun _=>Res.ok D.non) nL)) (f2 (gv 1) (ci 0) aX) (gv 3))) au))
def pv:List D->Res D:=fun ds=>av false (AE (aE HQ.length ds))
theorem Ql(T:Txt K mg)(A:DefAt K mg "hand_pointed_at" AH)(B:Callee P w K mg base "owner_left" zY [] 1 false dg rZ):Callee P w K mg base "hand_pointed_at" AR [] 2 false dg pv:=
 bn (m':=fA) A Ic fun f cdv A outer s H g E hr L=>(ai (bA 3 Ic.nd (aS B (ak (ae 0) (ak (ae 1) (ak (ae 2) aK)))))
   (ai (aY (mI (lV (ae 3) (bE eV)) (da L (ae 1) iB) (v_ 3)))
   aw))
abbrev yD:Stmt:=bb 97
abbrev Gn:List Str:=["first","targets","behind","ring","hand"]
abbrev zd:List Str:=["first","targets","behind"]
theorem sJ:FnScope Gn zd (aa yD):=be
abbrev Ax:FQ:=(dw (aW (f2 (gv 4) (gv 0) jt)) (aW (f2 (fC (af (gv 3) ab) lenD) (fC (af (gv 1) ab) lenD) iu)))
abbrev Hr:FS:=(seqF (cb "list" gb 3 (af (eO (af (gv 4) (af (f2 (gv 1) (gv 4) aX) ab))) ab) appD) (seqF (ao gb 4 (f2 (gv 2) (gv 4) aX)) au))
def zG:FS:=(seqF (ao [.sh,.bw,.bw,.sh,.sh] 3 (fD (af (eO (af (gv 0) (af (f2 (gv 1) (gv 0) aX) ab))) ab))) (seqF (ao gb 4 (f2 (gv 2) (gv 0) aX)) (seqF (eJ gb Ax Hr 64) (seqF (retF gb (iz (aW (f2 (gv 4) (gv 0) eqD)) (fC (af (gv 3) ab) tupD) (fun _=>Res.ok D.non))) au))))
def sk:List D->Res D:=fun ds=>av false (zG (aE Gn.length ds))
theorem NQ(T:Txt K mg)(A:DefAt K mg "ring_from" yD):Callee P w K mg base "ring_from" zd [] 1 false [.sh,.bw,.bw] sk:=
 bn (m':=gb) A sJ fun f cdv A outer s H g E hr B=>have L:=hr.units;(ai (eY 3 sJ.nd (by rfl) (c6 rfl) (fY (bp (fP (bp (v_ 0) (bp (da B (ae 1) (ae 0)) bJ))) bJ)))
   (ai (bA 4 sJ.nd (da B (ae 2) (ae 0)))
   (ai (qV 64 I_ (SW.toQ (qk (gT (ae 4) (ae 0)) (qG (jQ (bE (cC (by rfl) T.b_len (aM (ae 3) aN))) (bE (cC (by rfl) T.b_len (aM (ae 1) aN))))))) (ai (gL 3 rfl PySem.F.plainAttrs_list PySem.F.slot_list_append PySem.F.type_list_append iR jF (by rfl) (bR rfl) (bp (fP (bp (v_ 4) (bp (da B (ae 1) (ae 4)) bJ))) bJ))
   (ai (bA 4 sJ.nd (da B (ae 2) (ae 4)))
   aw)))
   (ai (aY (mI (cz L (ae 4) (ae 0)) (io (by rfl) T.b_tuple (aM (ae 3) aN)) eV))
   aw))))
abbrev Am:Stmt:=bb 98
abbrev HU:List Str:=["wishes","owns","line","things","targets","behind","hand","walks"]
abbrev AD:List Str:=["wishes","owns","line","things"]
theorem nG:FnScope HU AD (aa Am):=be
abbrev HR:FS:=(seqF (putF jV 4 (gv 6) (aI (af (f2 (gv 0) (gv 6) aX) (af (gv 3) ab)) [] ph)) (seqF (putF jV 5 (gv 6) (aI (af (gv 1) (af (gv 2) (af (f2 (gv 4) (gv 6) aX) ab))) [] pv)) au))
def AC:FS:=(seqF (ao [.bw,.bw,.bw,.bw,.sh,.sh,.sh,.sh] 4 (fun _=>Res.ok (D.dic []))) (seqF (ao [.bw,.bw,.bw,.bw,.ow,.sh,.sh,.sh] 5 (fun _=>Res.ok (D.dic []))) (seqF (cZ jV (aL bz (gv 2)) (ay 6) HR) (seqF (ao jV 7 (bN 1 [4,5] (aL bz (gv 2)) (ay 0) (fun _=>Res.ok true) (aI (af (gv 0) (af (gv 1) (af (gv 2) ab))) [] sk))) (seqF (retF pP (fC (af (bN 1 [] (aL bz (gv 7)) (ay 0) (aW (f2 (gv 0) (fun _=>Res.ok D.non) i7)) (gv 0)) ab) qh)) au)))))
def sO:List D->Res D:=fun ds=>av false (AC (aE HU.length ds))
theorem P4(T:Txt K mg)(A:DefAt K mg "rings_of_round" Am)(M:Callee P w K mg base "best_left" zb [] 1 false q0 ph)(B:Callee P w K mg base "hand_pointed_at" AR [] 2 false dg pv)(L:Callee P w K mg base "ring_from" zd [] 1 false [.sh,.bw,.bw] sk):Callee P w K mg base "rings_of_round" AD [] 3 false [.bw,.bw,.bw,.bw] sO:=
 bn (m':=pP) A nG fun f cdv A outer s H g E hr U=>(ai (eY 4 nG.nd (by rfl) (c6 rfl) mS)
   (ai (eY 5 nG.nd (by rfl) (c6 rfl) mS)
   (ai (qz I_ rfl (CM (sR 2)) (bY 6 nG.nd) (ai (jB 4 U rfl (by rfl) (bR rfl) (ae 6) (aS M (ak (xB U (ae 0) (ae 6)) (ak (ae 3) aK))))
   (ai (jB 5 U rfl (by rfl) (bR rfl) (ae 6) (aS B (ak (ae 1) (ak (ae 2) (ak (xB U (ae 4) (ae 6)) aK)))))
   aw)))
   (ai (sc1 7 ["hand","targets","behind"] [4,5] nG.nd (db (ae 2)) (aS L (aF (v_ 0) (ak (ae 1) (ak (ae 2) aK)))))
   (ai (aY (SO.toE (OQ hr (by rfl) T.b_sorted (aM (SO.toB (ir ["ring"] [] nG.nd (db (ae 7)) (v_ 0) (hq:=(oh (Co (ae 0) (bE eV)))))) aN))))
   aw)))))
abbrev wO:Stmt:=bb 99
abbrev EH:List Str:=["wishes","owns","order","line","things","told","rings","got","taken"]
abbrev wU:List Str:=["wishes","owns","order"]
theorem jM:FnScope EH wU (aa wO):=be
abbrev Gb:FQ:=(cn (gv 3))
abbrev FZ:FS:=(seqF (ao gV 6 (aI (af (gv 0) (af (gv 1) (af (gv 3) (af (gv 4) ab)))) [] sO)) (seqF (ao gV 7 (aI (af (gv 6) ab) [] m5)) (seqF (ao gV 8 (f1 (gv 7) uB)) (seqF (ao gV 3 (bN 1 [7] (aL bz (gv 3)) (ay 0) (aW (f2 (gv 0) (gv 1) dZ)) (gv 0))) (seqF (ao [.bw,.bw,.bw,.ow,.sh,.ow,.sh,.sh,.sh] 4 (bN 1 [8] (aL bz (gv 4)) (ay 0) (aW (f2 (gv 0) (gv 1) dZ)) (gv 0))) (seqF (cb "list" pO 5 (af (gv 6) ab) appD) au))))))
def qW:FS:=(seqF (ao i0 3 (aI (af (gv 0) (af (gv 2) ab)) [] nu)) (seqF (ao i0 4 (fC (af (aI (af (gv 0) ab) [] jq) ab) ki)) (seqF (ao i0 5 (fD ab)) (seqF (eJ gV Gb FZ 64) (seqF (retF i0 (gv 5)) au)))))
def qX:List D->Res D:=fun ds=>av false (qW (aE EH.length ds))
theorem KS(T:Txt K mg)(A:DefAtD K mg "rounds" wO [Value.none])(M:Callee P w K mg base "order_of" yM [] 6 false q0 nu)(L:Callee P w K mg base "things_in" pe [] 1 false [Md.bw] jq)(B:Callee P w K mg base "rings_of_round" AD [] 3 false [.bw,.bw,.bw,.bw] sO)(U:Callee P w K mg base "got_in" qY [] 1 false [Md.bw] m5):Callee P w K mg base "rounds" wU [] 7 false dg qX:=by
 refine vZ (ds:=[]) (k:=6) (fs:=qW) (m':=i0) A jM rfl 3 rfl (fun _ _ _ _ _ _ _ us hl=>by obtain⟨u0,u1,u2,rfl⟩:=tV us hl;exact⟨_,rfl,rfl⟩) fun f cdv A outer s H g E hr=>?_;have Y:=kh hr;have Z:=hr.units;exact(ai (bA 3 jM.nd (aS M (ak (ae 0) (ak (ae 2) aK))))
   (ai (bA 4 jM.nd (SO.toE (qR rfl (by rfl) T.b_list (by rfl) T.b_range (aM (bE (aS L (ak (ae 0) aK))) aN))))
   (ai (eY 5 jM.nd (by rfl) (c6 rfl) (fY bJ))
   (ai (qV 64 I_ (iK (ae 3)) (rJ (m':=[.bw,.bw,.bw,.sh,.ow,.ow,.sh,.sh,.sh]) 4 (rJ (m':=pO) 3 (ai (bA 6 jM.nd (aS B (ak (ae 0) (ak (ae 1) (ak (ae 3) (ak (ae 4) aK))))))
   (ai (bA 7 jM.nd (aS U (ak (ae 6) aK)))
   (ai (bA 8 jM.nd (SO.toE (JQ rfl (by rfl) T.b_list (ae 7))))
   (ai (sc1 3 ["hand","got"] [7] jM.nd (db (ae 3)) (v_ 0) (hq:=(oh (uL Y (ae 0) (ae 1)))))
   (ai (sc1 4 ["thing","taken"] [8] jM.nd (db (ae 4)) (v_ 0) (hq:=(oh (uL Y (ae 0) (ae 1)))))
   (ai (gL 5 rfl PySem.F.plainAttrs_list PySem.F.slot_list_append PySem.F.type_list_append iR jF (by rfl) (bR rfl) (bp (v_ 6) bJ))
   aw)))))) rfl) rfl))
   (ai (uE 5 rfl (aY (v_ 5)))
   aw)))))
abbrev xX:Stmt:=bb 100
abbrev F1:List Str:=["wishes","owns","order","got","rings"]
abbrev y0:List Str:=["wishes","owns","order"]
theorem zo:FnScope F1 y0 (aa xX):=be
abbrev G9:FS:=(seqF (cb "dict" jU 3 (af (aI (af (gv 4) ab) [] m5) ab) updD) au)
def rL:FS:=(seqF (ao [.bw,.bw,.bw,.sh,.sh] 3 (fun _=>Res.ok (D.dic []))) (seqF (cZ jU (aL bz (aI (af (gv 0) (af (gv 1) (af (gv 2) ab))) [] qX)) (ay 4) G9) (seqF (retF jU (aI (af (gv 3) ab) [] rX)) au)))
def nr:List D->Res D:=fun ds=>av false (rL (aE F1.length ds))
theorem Mv(T:Txt K mg)(A:DefAtD K mg "by_rings" xX [Value.none])(M:Callee P w K mg base "rounds" wU [] 7 false dg qX)(L:Callee P w K mg base "got_in" qY [] 1 false [Md.bw] m5)(B:Callee P w K mg base "dealing_of" zW [] 1 false [Md.bw] rX):Callee P w K mg base "by_rings" y0 [] 8 false dg nr:=by
 refine vZ (ds:=[]) (k:=7) (fs:=rL) (m':=jU) A zo rfl 3 rfl (fun _ _ _ _ _ _ _ us hl=>by obtain⟨u0,u1,u2,rfl⟩:=tV us hl;exact⟨_,rfl,rfl⟩) fun f cdv A outer s H g E hr=>?_;have Y:=kh hr;have U:=hr.units;exact(ai (eY 3 zo.nd (by rfl) (c6 rfl) mS)
   (ai (ij I_ rfl (nU (aS M (ak (ae 0) (ak (ae 1) (ak (ae 2) aK))))) (bY 4 zo.nd) (ai (gL 3 rfl PySem.F.plainAttrs_dict PySem.F.slot_dict_update PySem.F.type_dict_update PK Lx (by rfl) (bR rfl) (bp (aS L (ak (ae 4) aK)) bJ))
   aw))
   (ai (aY (aS B (ak (ae 3) aK)))
   aw)))
abbrev AA:Stmt:=bb 80
abbrev HL:List Str:=["fits"]
abbrev jp:List Str:=["fits"]
theorem R5:FnScope HL jp (aa AA):=be
def sM:FS:=(seqF (cF [Md.bw] (du (cn (gv 0))) (seqF (fun _=>Out.stuck) au) au) au)
def fg:List D->Res D:=fun ds=>av false (sM (aE HL.length ds))
theorem kS(T:Txt K mg)(A:DefAt K mg "refuse_unless" AA):Callee P w K mg base "refuse_unless" jp [] 1 false [Md.bw] fg:=
 bn (m':=[Md.bw]) A R5 fun f cdv A outer s H g E hr B=>(ai (bu (li (iK (ae 0))) (ai jK
   aw)
   aw)
   aw)
abbrev yh:Stmt:=bb 81
abbrev Ga:List Str:=["line"]
abbrev rR:List Str:=["line"]
theorem Q2:FnScope Ga rR (aa yh):=be
def yZ:FS:=(seqF (iI [Md.bw] (aI (af (f1 (gv 0) (gm "str")) ab) [] fg)) (seqF (retF [Md.bw] (fM "str" (gv 0) (af (fun _=>Res.ok (D.str " ")) ab) kn)) au))
def jn:List D->Res D:=fun ds=>av false (yZ (aE Ga.length ds))
theorem LS(T:Txt K mg)(A:DefAt K mg "words_in" yh)(B:Callee P w K mg base "refuse_unless" jp [] 1 false [Md.bw] fg):Callee P w K mg base "words_in" rR [] 2 false [Md.bw] jn:=
 bn (m':=[Md.bw]) A Q2 fun f cdv A outer s H g E hr L=>(ai (kl (aS B (ak (bE (n4 "str" "str" rfl (vX _) (by rfl) T.b_isinstance (by rfl) T.b_str (ae 0))) aK)))
   (ai (aY (cm PySem.F.plainAttrs_str PySem.F.slot_str_split PySem.F.type_str_split xA wY (ae 0) (aM (bE cH) aN)))
   aw))
abbrev xU:Stmt:=bb 82
abbrev Ff:List Str:=["words"]
abbrev yt:List Str:=["words"]
theorem Qs:FnScope Ff yt (aa xU):=be
def xP:FS:=(seqF (iI [Md.bw] (aI (af (gv 0) ab) [] fg)) (seqF (retF [Md.bw] (fM "str" (fun _=>Res.ok (D.str " ")) (af (gv 0) ab) gJ)) au))
def rn:List D->Res D:=fun ds=>av false (xP (aE Ff.length ds))
theorem LH(T:Txt K mg)(A:DefAt K mg "text_in" xU)(B:Callee P w K mg base "refuse_unless" jp [] 1 false [Md.bw] fg):Callee P w K mg base "text_in" yt [] 2 false [Md.bw] rn:=
 bn (m':=[Md.bw]) A Qs fun f cdv A outer s H g E hr L=>(ai (kl (aS B (ak (ae 0) aK)))
   (ai (aY (cm PySem.F.plainAttrs_str PySem.F.slot_str_join PySem.F.type_str_join kE kC (bE cH) (aM (ae 0) aN)))
   aw))
abbrev yC:Stmt:=bb 83
abbrev Gm:List Str:=["word","signs"]
abbrev zc:List Str:=["word","signs"]
theorem Rv:FnScope Gm zc (aa yC):=be
def zF:FS:=(seqF (iI q0 (aI (af (de (f2 (fC (af (gv 0) ab) lenD) (ci 1) eqD) (f2 (gv 0) (gv 1) dF)) ab) [] fg)) (seqF (retF q0 (fM "str" (gv 1) (af (gv 0) ab) k6)) au))
def lI:List D->Res D:=fun ds=>av false (zF (aE Gm.length ds))
theorem NP(T:Txt K mg)(A:DefAt K mg "number_in" yC)(B:Callee P w K mg base "refuse_unless" jp [] 1 false [Md.bw] fg):Callee P w K mg base "number_in" zc [] 2 false q0 lI:=
 bn (m':=q0) A Rv fun f cdv A outer s H g E hr M=>have L:=hr.units;(ai (kl (aS B (ak (bE (k9 (eM L (bE (cC (by rfl) T.b_len (aM (ae 0) aN))) iB) (lg (pG M (ae 0) (ae 1))))) aK)))
   (ai (aY (cm PySem.F.plainAttrs_str PySem.F.slot_str_index PySem.F.type_str_index wA wD (ae 1) (aM (ae 0) aN)))
   aw))
abbrev zx:Stmt:=bb 84
abbrev Hk:List Str:=["words","signs"]
abbrev o6:List Str:=["words","signs"]
theorem HJ:FnScope Hk o6 (aa zx):=be
def Af:FS:=(seqF (iI bK (aI (af (f2 (fC (af (gv 0) ab) lenD) (fC (af (gv 1) ab) lenD) eqD) ab) [] fg)) (seqF (retF bK (bN 2 [] (gq (gv 0) (gv 1)) (dq (bD (ay 0) (bD (ay 1) c9))) (fun _=>Res.ok true) (aI (af (gv 0) (af (gv 1) ab)) [] lI))) au))
def kN:List D->Res D:=fun ds=>av false (Af (aE Hk.length ds))
theorem Os(T:Txt K mg)(A:DefAt K mg "numbers_in" zx)(B:Callee P w K mg base "refuse_unless" jp [] 1 false [Md.bw] fg)(L:Callee P w K mg base "number_in" zc [] 2 false q0 lI):Callee P w K mg base "numbers_in" o6 [] 3 false bK kN:=
 bn (m':=bK) A HJ fun f cdv A outer s H g E hr U=>have M:=hr.units;(ai (kl (aS B (ak (bE (eM M (bE (cC (by rfl) T.b_len (aM (ae 0) aN))) (bE (cC (by rfl) T.b_len (aM (ae 1) aN))))) aK)))
   (ai (aY (SO.toE (Ip ["word","told"] [] HJ.nd (iC.toC (tM (by rfl) T.b_zip (v_ 0) (v_ 1))) (aS L (ak (ae 0) (ak (ae 1) aK))))))
   aw))
abbrev yH:Stmt:=bb 85
abbrev Gr:List Str:=["words","signs","numbers"]
abbrev zf:List Str:=["words","signs"]
theorem GW:FnScope Gr zf (aa yH):=be
def zK:FS:=(seqF (ao fw 2 (aI (af (gv 0) (af (gv 1) ab)) [] kN)) (seqF (iI fw (aI (af (f2 (f1 (gv 2) uH) (fC (af (gv 2) ab) lenD) eqD) ab) [] fg)) (seqF (retF fw (gv 2)) au)))
def sn:List D->Res D:=fun ds=>av false (zK (aE Gr.length ds))
theorem NT(T:Txt K mg)(A:DefAt K mg "unlike_in" yH)(L:Callee P w K mg base "numbers_in" o6 [] 3 false bK kN)(B:Callee P w K mg base "refuse_unless" jp [] 1 false [Md.bw] fg):Callee P w K mg base "unlike_in" zf [] 4 false bK sn:=
 bn (m':=fw) A GW fun f cdv A outer s H g E hr U=>have M:=hr.units;(ai (bA 2 GW.nd (aS L (aF (v_ 0) (aF (v_ 1) aK))))
   (ai (kl (aS B (ak (bE (eM M (bE (Oa rfl (by rfl) T.b_len (by rfl) T.b_set (ae 2))) (bE (cC (by rfl) T.b_len (aM (ae 2) aN))))) aK)))
   (ai (aY (v_ 2))
   aw)))
abbrev zu:Stmt:=bb 86
abbrev Hh:List Str:=["wishes"]
abbrev o4:List Str:=["wishes"]
theorem Rx:FnScope Hh o4 (aa zu):=be
def GY:FS:=(seqF (retF [Md.bw] (gX (fun _=>Res.ok (D.str "0123456")) (fun _=>Res.ok none) (iJ (fC (af (gv 0) ab) lenD)))) au)
def kL:List D->Res D:=fun ds=>av false (GY (aE Hh.length ds))
theorem uN(T:Txt K mg)(A:DefAt K mg "figures_of" zu):Callee P w K mg base "figures_of" o4 [] 1 false [Md.bw] kL:=
 bn (m':=[Md.bw]) A Rx fun f cdv A outer s H g E hr B=>(ai (aY (uG (bE (lB (by rfl) T.k_FIGURES)) lw (lx (bE (cC (by rfl) T.b_len (aM (ae 0) aN))))))
   aw)
abbrev zw:Stmt:=bb 87
abbrev Hj:List Str:=["wishes"]
abbrev zX:List Str:=["wishes"]
theorem Rz:FnScope Hj zX (aa zw):=be
def GZ:FS:=(seqF (retF [Md.bw] (gX (fun _=>Res.ok (D.str "ABCDEFGH")) (fun _=>Res.ok none) (iJ (aI (af (gv 0) ab) [] jq)))) au)
def rY:List D->Res D:=fun ds=>av false (GZ (aE Hj.length ds))
theorem Oq(T:Txt K mg)(A:DefAt K mg "letters_of" zw)(B:Callee P w K mg base "things_in" pe [] 1 false [Md.bw] jq):Callee P w K mg base "letters_of" zX [] 2 false [Md.bw] rY:=
 bn (m':=[Md.bw]) A Rz fun f cdv A outer s H g E hr L=>(ai (aY (uG (bE (lB (by rfl) T.k_LETTERS)) lw (lx (bE (aS B (ak (ae 0) aK))))))
   aw)
abbrev xQ:Stmt:=bb 88
abbrev Fa:List Str:=["words","wishes"]
abbrev yo:List Str:=["words","wishes"]
theorem Qq:FnScope Fa yo (aa xQ):=be
def xL:FS:=(seqF (retF cE (f2 (aI (af (gv 0) (af (fD (af (aI (af (gv 1) ab) [] kL) ab)) ab)) [] kN) (ci 0) aX)) au)
def rC:List D->Res D:=fun ds=>av false (xL (aE Fa.length ds))
theorem LC(T:Txt K mg)(A:DefAt K mg "hand_in" xQ)(B:Callee P w K mg base "figures_of" o4 [] 1 false [Md.bw] kL)(L:Callee P w K mg base "numbers_in" o6 [] 3 false bK kN):Callee P w K mg base "hand_in" yo [] 4 false cE rC:=
 bn (m':=cE) A Qq fun f cdv A outer s H g E hr M=>(ai (aY (da M (bE (aS L (aF (v_ 0) (aF (SO.toE (fY (bp (aS B (ak (ae 1) aK)) bJ))) aK)))) iB))
   aw)
abbrev AB:Stmt:=bb 89
abbrev HZ:List Str:=["words","wishes"]
abbrev AQ:List Str:=["words","wishes"]
theorem R8:FnScope HZ AQ (aa AB):=be
def AO:FS:=(seqF (retF cE (aI (af (gv 0) (af (fD (af (aI (af (gv 1) ab) [] kL) (af (aI (af (gv 1) ab) [] rY) ab))) ab)) [] kN)) au)
def sL:List D->Res D:=fun ds=>av false (AO (aE HZ.length ds))
theorem Q6(T:Txt K mg)(A:DefAt K mg "hand_and_thing_in" AB)(L:Callee P w K mg base "letters_of" zX [] 2 false [Md.bw] rY)(B:Callee P w K mg base "figures_of" o4 [] 1 false [Md.bw] kL)(M:Callee P w K mg base "numbers_in" o6 [] 3 false bK kN):Callee P w K mg base "hand_and_thing_in" AQ [] 4 false cE sL:=
 bn (m':=cE) A R8 fun f cdv A outer s H g E hr U=>(ai (aY (aS M (aF (v_ 0) (aF (SO.toE (fY (bp (aS B (ak (ae 1) aK)) (bp (aS L (ak (ae 1) aK)) bJ)))) aK))))
   aw)
abbrev yd:Stmt:=bb 90
abbrev F6:List Str:=["words","wishes"]
abbrev yL:List Str:=["words","wishes"]
theorem Q0:FnScope F6 yL (aa yd):=be
def yX:FS:=(seqF (retF cE (aI (af (gv 0) (af (f2 (fD (af (aI (af (gv 1) ab) [] kL) ab)) (fC (af (gv 1) ab) lenD) iV) ab)) [] sn)) au)
def rN:List D->Res D:=fun ds=>av false (yX (aE F6.length ds))
theorem Mz(T:Txt K mg)(A:DefAt K mg "order_in" yd)(B:Callee P w K mg base "figures_of" o4 [] 1 false [Md.bw] kL)(L:Callee P w K mg base "unlike_in" zf [] 4 false bK sn):Callee P w K mg base "order_in" yL [] 5 false cE rN:=
 bn (m':=cE) A Q0 fun f cdv A outer s H g E hr M=>(ai (aY (aS L (aF (v_ 0) (aF (SO.toE (Jg (fY (bp (aS B (ak (ae 1) aK)) bJ)) (bE (cC (by rfl) T.b_len (aM (ae 1) aN))))) aK))))
   aw)
abbrev lq:Stmt:=qN (bb 108) 0
abbrev Fd:List Str:=["self","wishes","owns","order"]
abbrev oN:List Str:=["self","wishes","owns","order"]
theorem Qr:FnScope Fd oN (aa lq):=be
def Fu:FN:=(jZ "wishes" (gv 1) (jZ "owns" (gv 2) (jZ "order" (gv 3) (fun _ ds=>Res.ok ds))))
def kH:qc:=fun ds=>Fu (none::(ds.map some++q_ (Fd.length-(ds.length+1)) none)) []
theorem tR(T:Txt K mg)(A:MakeAt K mg "Kept" "Kept" "Kept.__init__" lq)(L:bX K "order" kG)(M:bX K "owns" gB)(B:bX K "wishes" eL):CalleeN P w K mg base "Kept" "Kept" oN [] 1 fw kH:=by refine Ms (k:=0) (fn:=Fu) A Qr rfl (fun _ _ _ _ _ _ us hl=>by obtain⟨u0,u1,u2,u3,rfl⟩:=I0 us hl;kernel_rfl) fun C xn f cdv A outer s H g E hr=>?_;have Y:=kh hr;have U:=hr.units;exact(vD (B "Kept" C rfl xn).1 (B "Kept" C rfl xn).2 rfl (bR rfl) (v_ 1) (vD (M "Kept" C rfl xn).1 (M "Kept" C rfl xn).2 rfl (bR rfl) (v_ 2) (vD (L "Kept" C rfl xn).1 (L "Kept" C rfl xn).2 rfl (bR rfl) (v_ 3) Jb)))
abbrev z7:Stmt:=bb 109
abbrev HC:List Str:=["text","read"]
abbrev pj:List Str:=["text"]
theorem HN:FnScope HC pj (aa z7):=be
def Ao:FS:=(seqF (ao bq 1 (aI (af (gv 0) ab) [] sm)) (seqF (retF bq (kY "Kept" (af (f2 (gv 1) (ci 0) aX) (af (f2 (gv 1) (ci 1) aX) (af (fun _=>Res.ok D.non) ab))) [] kH)) au))
def jN:List D->Res D:=fun ds=>av false (Ao (aE HC.length ds))
theorem Px(T:Txt K mg)(A:DefAt K mg "kept_of_text" z7)(B:Callee P w K mg base "rows_read" ze [] 7 false [Md.bw] sm)(L:CalleeN P w K mg base "Kept" "Kept" oN [] 1 fw kH):Callee P w K mg base "kept_of_text" pj [] 8 false [Md.bw] jN:=
 bn (m':=bq) A HN fun f cdv A outer s H g E hr M=>(ai (bA 1 HN.nd (aS B (ak (ae 0) aK)))
   (ai (aY (vK (dds:=[]) L (hr.mono (by decide)) (aF (da M (ae 1) iB) (aF (da M (ae 1) iB) (aF eV aK)))))
   aw))
abbrev zS:Stmt:=bb 110
abbrev He:List Str:=["kept","words"]
abbrev oZ:List Str:=["kept","words"]
theorem RJ:FnScope He oZ (aa zS):=be
def Ab:FS:=(seqF (retF q0 (aI (af (aI (af (gv 1) ab) [] rn) ab) [] jN)) au)
def nz:List D->Res D:=fun ds=>av false (Ab (aE He.length ds))
theorem On(T:Txt K mg)(A:DefAt K mg "after_rows" zS)(L:Callee P w K mg base "text_in" yt [] 2 false [Md.bw] rn)(B:Callee P w K mg base "kept_of_text" pj [] 8 false [Md.bw] jN):Callee P w K mg base "after_rows" oZ [] 9 false q0 nz:=
 bn (m':=q0) A RJ fun f cdv A outer s H g E hr M=>(ai (aY (aS B (ak (bE (aS L (ak (ae 1) aK))) aK)))
   aw)
abbrev yg:Stmt:=bb 111
abbrev F9:List Str:=["kept","hand","own","owns"]
abbrev rQ:List Str:=["kept","hand","own"]
theorem GL:FnScope F9 rQ (aa yg):=be
def oS:FS:=(seqF (ao cR 3 (bN 1 [2] (aL bz (f1 (gv 0) (bQ gB "owns"))) (ay 0) (fun _=>Res.ok true) (iz (aW (f2 (gv 0) (gv 1) eqD)) (fun _=>Res.ok D.non) (gv 0)))) (seqF (putF [.bw,.bw,.sh,.ow] 3 (gv 1) (gv 2)) (seqF (retF [.bw,.bw,.sh,.ow] (kY "Kept" (af (f1 (gv 0) (bQ eL "wishes")) (af (fC (af (gv 3) ab) tupD) (af (f1 (gv 0) (bQ kG "order")) ab))) [] kH)) au)))
def lK:List D->Res D:=fun ds=>av false (oS (aE F9.length ds))
theorem LR(T:Txt K mg)(A:DefAt K mg "with_own" yg)(L:CalleeN P w K mg base "Kept" "Kept" oN [] 1 fw kH)(U:bX K "owns" gB)(M:bX K "order" kG)(B:bX K "wishes" eL):Callee P w K mg base "with_own" rQ [] 3 false dh lK:=
 bn (m':=[.bw,.bw,.sh,.ow]) A GL fun f cdv A outer s H g E hr Z=>have Y:=hr.units;(ai (sc1 3 ["other","own"] [2] GL.nd (db (bE (gK U (ae 0)))) (mI (cz Y (ae 0) (ae 1)) eV (v_ 0)))
   (ai (jB 3 Z rfl (by rfl) (bR rfl) (ae 1) (v_ 2))
   (ai (aY (vK (dds:=[]) L (hr.mono (by decide)) (aF (gK B (ae 0)) (aF (io (by rfl) T.b_tuple (aM (ae 3) aN)) (aF (gK M (ae 0)) aK)))))
   aw)))
abbrev yz:Stmt:=bb 112
abbrev Gi:List Str:=["kept","words","numbers"]
abbrev su:List Str:=["kept","words"]
theorem GT:FnScope Gi su (aa yz):=be
def zC:FS:=(seqF (ao [.bw,.sh,.sh] 2 (aI (af (gv 1) (af (f1 (gv 0) (bQ eL "wishes")) ab)) [] sL)) (seqF (retF [.bw,.sh,.sh] (aI (af (gv 0) (af (f2 (gv 2) (ci 0) aX) (af (f2 (gv 2) (ci 1) aX) ab))) [] lK)) au))
def nE:List D->Res D:=fun ds=>av false (zC (aE Gi.length ds))
theorem MM(T:Txt K mg)(A:DefAt K mg "after_own" yz)(B:Callee P w K mg base "hand_and_thing_in" AQ [] 4 false cE sL)(L:Callee P w K mg base "with_own" rQ [] 3 false dh lK)(M:bX K "wishes" eL):Callee P w K mg base "after_own" su [] 5 false bq nE:=
 bn (m':=[.bw,.sh,.sh]) A GT fun f cdv A outer s H g E hr U=>(ai (bA 2 GT.nd (aS B (aF (v_ 1) (ak (bE (gK M (ae 0))) aK))))
   (ai (aY (aS L (ak (ae 0) (ak (xB U (ae 2) iB) (aF (da U (ae 2) iB) aK)))))
   aw))
abbrev zR:Stmt:=bb 113
abbrev Hd:List Str:=["kept","words"]
abbrev se:List Str:=["kept","words"]
theorem RI:FnScope Hd se (aa zR):=be
def Aa:FS:=(seqF (retF bq (aI (af (gv 0) (af (aI (af (gv 1) (af (f1 (gv 0) (bQ eL "wishes")) ab)) [] rC) (af (fun _=>Res.ok D.non) ab))) [] lK)) au)
def ny:List D->Res D:=fun ds=>av false (Aa (aE Hd.length ds))
theorem OU(T:Txt K mg)(A:DefAt K mg "after_none" zR)(M:Callee P w K mg base "hand_in" yo [] 4 false cE rC)(B:Callee P w K mg base "with_own" rQ [] 3 false dh lK)(L:bX K "wishes" eL):Callee P w K mg base "after_none" se [] 5 false bq ny:=
 bn (m':=bq) A RI fun f cdv A outer s H g E hr U=>(ai (aY (aS B (ak (ae 0) (ak (bE (aS M (aF (v_ 1) (ak (bE (gK L (ae 0))) aK)))) (aF eV aK)))))
   aw)
abbrev Ai:Stmt:=bb 114
abbrev Hv:List Str:=["kept","words"]
abbrev sH:List Str:=["kept","words"]
theorem RX:FnScope Hv sH (aa Ai):=be
def Ap:FS:=(seqF (retF bq (kY "Kept" (af (f1 (gv 0) (bQ eL "wishes")) (af (f1 (gv 0) (bQ gB "owns")) (af (aI (af (gv 1) (af (f1 (gv 0) (bQ eL "wishes")) ab)) [] rN) ab))) [] kH)) au)
def nv:List D->Res D:=fun ds=>av false (Ap (aE Hv.length ds))
theorem Pg(T:Txt K mg)(A:DefAt K mg "after_order" Ai)(L:Callee P w K mg base "order_in" yL [] 5 false cE rN)(M:CalleeN P w K mg base "Kept" "Kept" oN [] 1 fw kH)(B:bX K "wishes" eL)(U:bX K "owns" gB):Callee P w K mg base "after_order" sH [] 6 false bq nv:=
 bn (m':=bq) A RX fun f cdv A outer s H g E hr Y=>(ai (aY (vK (dds:=[]) M (hr.mono (by decide)) (aF (gK B (ae 0)) (aF (gK U (ae 0)) (aF (aS L (aF (v_ 1) (ak (bE (gK B (ae 0))) aK))) aK)))))
   aw)
abbrev Aj:Stmt:=bb 117
abbrev Hw:List Str:=["kept","words"]
abbrev pr:List Str:=["kept","words"]
theorem RN:FnScope Hw pr (aa Aj):=be
def Aq:FS:=(seqF (iI q0 (aI (af (f1 (gv 1) l5) ab) [] fg)) (seqF (retF q0 (aI (af (aI (af (f1 (gv 0) (bQ eL "wishes")) (af (f1 (gv 0) (bQ gB "owns")) (af (f1 (gv 0) (bQ kG "order")) ab))) [] nr) ab) [] sF)) au))
def lF:List D->Res D:=fun ds=>av false (Aq (aE Hw.length ds))
theorem Ph(T:Txt K mg)(A:DefAt K mg "answer_deal" Aj)(B:Callee P w K mg base "refuse_unless" jp [] 1 false [Md.bw] fg)(M:Callee P w K mg base "by_rings" y0 [] 8 false dg nr)(L:Callee P w K mg base "things_text" Aw [] 1 false [Md.bw] sF)(Y:bX K "order" kG)(Z:bX K "owns" gB)(U:bX K "wishes" eL):Callee P w K mg base "answer_deal" pr [] 9 false q0 lF:=
 bn (m':=q0) A RN fun f cdv A outer s H g E hr ac=>(ai (kl (aS B (ak (bE (Kp (ae 1))) aK)))
   (ai (aY (aS L (ak (bE (aS M (ak (bE (gK U (ae 0))) (ak (bE (gK Z (ae 0))) (ak (bE (gK Y (ae 0))) aK))))) aK)))
   aw))
abbrev yv:Stmt:=bb 126
abbrev Ge:List Str:=["_law_script","_law_k","_law_cell_here","_law_stirred"]
abbrev zO:List Str:=["_law_script","_law_k"]
theorem sI:FnScope Ge zO (aa yv):=be
def sy:FS:=(seqF (ao cR 2 (ci 0)) (seqF (cF cR (aW (f2 (gv 1) (fC (af (gv 0) ab) lenD) iu)) (seqF (ao cR 2 (f2 (f2 (gv 0) (gv 1) aX) (f2 (ci 10) (ci 60) fB) aV)) au) au) (seqF (cF cR (dw (aW (f2 (fC (af (gv 0) ab) lenD) (ci 0) jt)) (aW (f2 (f2 (f2 (gv 0) (ci 0) aX) (ci 2) aV) (ci 0) eqD))) (seqF (retF cR (gv 2)) au) au) (seqF (ao cR 3 (f2 (f2 (f2 (f2 (f2 (f2 (f2 (gv 2) (f2 (f2 (ci 7) (gv 1) bi) (gv 1) bi) addA) (f2 (ci 13) (gv 1) bi) addA) (ci 5) addA) (ci 48271) bi) (ci 2147483647) aV) (ci 69621) bi) (ci 1000000007) aV)) (seqF (retF cR (f2 (f2 (f2 (f2 (f2 (gv 3) (ci 1) addA) (ci 40692) bi) (ci 2147483629) aV) (ci 39373) bi) (ci 999999937) aV)) au)))))
def sg:List D->Res D:=fun ds=>av false (sy (aE Ge.length ds))
theorem MJ(T:Txt K mg)(A:DefAt K mg "_law_cell" yv):Callee P w K mg base "_law_cell" zO [] 1 false q0 sg:=
 bn (m':=cR) A sI fun f cdv A outer s H g E hr B=>have L:=hr.units;(ai (bA 2 sI.nd n0)
   (ai (bu (jQ (ae 1) (bE (cC (by rfl) T.b_len (aM (ae 0) aN)))) (ai (bA 2 sI.nd (dH (xB B (ae 0) (ae 1)) (bE (Cg iB iB))))
   aw)
   aw)
   (ai (bu (SW.toQ (qk (gT (bE (cC (by rfl) T.b_len (aM (ae 0) aN))) iB) (qG (cz L (bE (dH (xB B (ae 0) iB) iB)) iB)))) (ai (aY (v_ 2))
   aw)
   aw)
   (ai (bA 3 sI.nd (dH (bE (fZ (bE (dH (bE (fZ (bE (dc (bE (dc (bE (dc (ae 2) (bE (fZ (bE (fZ iB (ae 1))) (ae 1))))) (bE (fZ iB (ae 1))))) iB)) iB)) iB)) iB)) iB))
   (ai (aY (dH (bE (fZ (bE (dH (bE (fZ (bE (dc (ae 3) iB)) iB)) iB)) iB)) iB))
   aw)))))
abbrev yy:Stmt:=bb 127
abbrev Gh:List Str:=["_law_script","_law_k","_law_cell_here","_law_wide_here","_law_turn","_law_place","_law_stirred"]
abbrev sr:List Str:=["_law_script","_law_k"]
theorem lD:FnScope Gh sr (aa yy):=be
abbrev Hq:FS:=(seqF (ao dW 5 (f2 (f2 (f2 (f2 (ci 7919) (gv 4) bi) (gv 4) bi) (f2 (ci 13) (gv 1) bi) addA) (ci 5) addA)) (seqF (ao dW 6 (f2 (f2 (f2 (f2 (f2 (gv 2) (gv 5) addA) (ci 48271) bi) (ci 2147483647) aV) (ci 69621) bi) (ci 1000000007) aV)) (seqF (ao dW 3 (f2 (f2 (gv 3) (ci 999999937) bi) (f2 (f2 (f2 (f2 (f2 (gv 6) (ci 1) addA) (ci 40692) bi) (ci 2147483629) aV) (ci 39373) bi) (ci 999999937) aV) addA)) au)))
def sA:FS:=(seqF (cF dW (aW (f2 (f2 (f2 (gv 0) (ci 0) aX) (ci 2) aV) (ci 0) eqD)) (seqF (retF dW (aI (af (gv 0) (af (gv 1) ab)) [] sg)) au) au) (seqF (ao dW 2 (f2 (f2 (gv 0) (gv 1) aX) (f2 (ci 10) (ci 60) fB) aV)) (seqF (ao dW 3 (ci 0)) (seqF (cZ dW (c7 eN (af (ci 7) ab)) (ay 4) Hq) (seqF (retF dW (gv 3)) au)))))
def nB:List D->Res D:=fun ds=>av false (sA (aE Gh.length ds))
theorem ML(T:Txt K mg)(A:DefAt K mg "_law_wide" yy)(B:Callee P w K mg base "_law_cell" zO [] 1 false q0 sg):Callee P w K mg base "_law_wide" sr [] 2 false q0 nB:=
 bn (m':=dW) A lD fun f cdv A outer s H g E hr L=>have M:=hr.units;(ai (bu (cz M (bE (dH (xB L (ae 0) iB) iB)) iB) (ai (aY (aS B (ak (ae 0) (ak (ae 1) aK))))
   aw)
   aw)
   (ai (bA 2 lD.nd (dH (xB L (ae 0) (ae 1)) (bE (Cg iB iB))))
   (ai (bA 3 lD.nd n0)
   (ai (ij I_ rfl (oI (by rfl) T.b_range (aM iB aN)) (bY 4 lD.nd) (ai (bA 5 lD.nd (dc (bE (dc (bE (fZ (bE (fZ iB (ae 4))) (ae 4))) (bE (fZ iB (ae 1))))) iB))
   (ai (bA 6 lD.nd (dH (bE (fZ (bE (dH (bE (fZ (bE (dc (ae 2) (ae 5))) iB)) iB)) iB)) iB))
   (ai (bA 3 lD.nd (dc (bE (fZ (ae 3) iB)) (bE (dH (bE (fZ (bE (dH (bE (fZ (bE (dc (ae 6) iB)) iB)) iB)) iB)) iB))))
   aw))))
   (ai (aY (v_ 3))
   aw)))))
abbrev xW:Stmt:=bb 128
abbrev F0:List Str:=["_law_cell_here","_law_m","_law_row_here","_law_thing"]
abbrev rO:List Str:=["_law_cell_here","_law_m"]
theorem sw:FnScope F0 rO (aa xW):=be
abbrev G6:FS:=(seqF (cb "list" iZ 2 (af (f2 (gv 0) (f2 (gv 3) (ci 1) addA) aV) (af (gv 3) ab)) insD) (seqF (ao iZ 0 (f2 (gv 0) (f2 (gv 3) (ci 1) addA) fN)) au))
def yK:FS:=(seqF (ao [.sh,.bw,.sh,.sh] 2 (fD ab)) (seqF (cZ iZ (c7 eN (af (gv 1) ab)) (ay 3) G6) (seqF (retF iZ (fC (af (gv 2) ab) tupD)) au)))
def nq:List D->Res D:=fun ds=>av false (yK (aE F0.length ds))
theorem CA(T:Txt K mg)(A:DefAt K mg "_law_row" xW):Callee P w K mg base "_law_row" rO [] 1 false cE nq:=
 bn (m':=iZ) A sw fun f cdv A outer s H g E hr B=>(ai (eY 2 sw.nd (by rfl) (c6 rfl) (fY bJ))
   (ai (ij I_ rfl (oI (by rfl) T.b_range (aM (ae 1) aN)) (bY 3 sw.nd) (ai (gL 2 rfl PySem.F.plainAttrs_list PySem.F.slot_list_insert PySem.F.type_list_insert PJ J6 (by rfl) (bR rfl) (bp (dH (ae 0) (bE (dc (ae 3) iB))) (bp (v_ 3) bJ)))
   (ai (bA 0 sw.nd (km (ae 0) (bE (dc (ae 3) iB))))
   aw)))
   (ai (aY (io (by rfl) T.b_tuple (aM (ae 2) aN)))
   aw)))
abbrev yw:Stmt:=bb 129
abbrev Gf:List Str:=["_law_cell_here","_law_n","_law_m","_law_owns_here","_law_hand","_law_thing"]
abbrev za:List Str:=["_law_cell_here","_law_n","_law_m"]
theorem o7:FnScope Gf za (aa yw):=be
abbrev Au:FS:=(seqF (ao dU 5 (f2 (gv 0) (f2 (gv 2) (ci 1) addA) aV)) (seqF (ao dU 0 (f2 (gv 0) (f2 (gv 2) (ci 1) addA) fN)) (seqF (cF dU (gs (aW (f2 (gv 5) (gv 2) eqD)) (aW (f2 (gv 5) (gv 3) dF))) (seqF (cb "list" dU 3 (af (fun _=>Res.ok D.non) ab) appD) au) (seqF (cb "list" dU 3 (af (gv 5) ab) appD) au)) au)))
def zA:FS:=(seqF (ao [.sh,.bw,.bw,.sh,.sh,.sh] 3 (fD ab)) (seqF (cZ dU (c7 eN (af (gv 1) ab)) (ay 4) Au) (seqF (retF dU (fC (af (gv 3) ab) tupD)) au)))
def sj:List D->Res D:=fun ds=>av false (zA (aE Gf.length ds))
theorem MK(T:Txt K mg)(A:DefAt K mg "_law_owns" yw):Callee P w K mg base "_law_owns" za [] 1 false [.sh,.bw,.bw] sj:=
 bn (m':=dU) A o7 fun f cdv A outer s H g E hr L=>have B:=hr.units;(ai (eY 3 o7.nd (by rfl) (c6 rfl) (fY bJ))
   (ai (ij I_ rfl (oI (by rfl) T.b_range (aM (ae 1) aN)) (bY 4 o7.nd) (ai (bA 5 o7.nd (dH (ae 0) (bE (dc (ae 2) iB))))
   (ai (bA 0 o7.nd (km (ae 0) (bE (dc (ae 2) iB))))
   (ai (bu (SW.toQ (ga (cz B (ae 5) (ae 2)) (lj (iW L (ae 5) (ae 3))))) (ai (gL 3 rfl PySem.F.plainAttrs_list PySem.F.slot_list_append PySem.F.type_list_append iR jF (by rfl) (bR rfl) (bp eV bJ))
   aw)
   (ai (gL 3 rfl PySem.F.plainAttrs_list PySem.F.slot_list_append PySem.F.type_list_append iR jF (by rfl) (bR rfl) (bp (v_ 5) bJ))
   aw))
   aw))))
   (ai (aY (io (by rfl) T.b_tuple (aM (ae 3) aN)))
   aw)))
abbrev yu:Stmt:=bb 130
abbrev Gd:List Str:=["_law_row_here","_law_left","_law_thing"]
abbrev zN:List Str:=["_law_row_here","_law_left"]
theorem GS:FnScope Gd zN (aa yu):=be
abbrev pq:FS:=(seqF (cF dh (aW (f2 (gv 2) (gv 1) dF)) (seqF (retF dh (gv 2)) au) au) au)
def zz:FS:=(seqF (cZ dh (aL bz (gv 0)) (ay 2) pq) (seqF (retF dh (fun _=>Res.ok D.non)) au))
def pf:List D->Res D:=fun ds=>av false (zz (aE Gd.length ds))
theorem MI(T:Txt K mg)(A:DefAt K mg "_law_best" yu):Callee P w K mg base "_law_best" zN [] 1 false q0 pf:=
 bn (m':=dh) A GS fun f cdv A outer s H g E hr B=>(ai (qA I_ rfl (db (ae 0)) (fun _=>(bY 2 GS.nd)) (fun _=>(ai (bu (iW B (ae 2) (ae 1)) (ai (aY (v_ 2))
   aw)
   aw)
   aw)))
   (ai (aY eV)
   aw))
abbrev AG:Stmt:=bb 131
abbrev HS:List Str:=["_law_wishes","_law_owns_here","_law_order_here","_law_things","_law_line","_law_got","_law_here","_law_path","_law_thing","_law_hand"]
abbrev sK:List Str:=["_law_wishes","_law_owns_here","_law_order_here"]
theorem iq:FnScope HS sK (aa AG):=be
abbrev AJ:FQ:=(aW (f2 (gv 6) (gv 7) dZ))
abbrev AK:FQ:=(aW (f2 (fC (af (gv 4) ab) lenD) (ci 0) jt))
abbrev Ia:FS:=(seqF (cF pN (aW (f2 (f2 (gv 1) (gv 9) aX) (gv 8) eqD)) (seqF (ao pN 6 (gv 9)) au) au) au)
abbrev Ib:FS:=(seqF (cb "list" c0 7 (af (gv 6) ab) appD) (seqF (ao c0 8 (aI (af (f2 (gv 0) (gv 6) aX) (af (gv 3) ab)) [] pf)) (seqF (ao c0 6 (f2 (gv 4) (ci 0) aX)) (seqF (cZ c0 (aL bz (gv 4)) (ay 9) Ia) au))))
abbrev HW:FS:=(seqF (putF c0 5 (gv 9) (aI (af (f2 (gv 0) (gv 9) aX) (af (gv 3) ab)) [] pf)) au)
abbrev HX:FS:=(seqF (cb "list" c0 4 (af (gv 9) ab) remD) (seqF (cb "list" c0 3 (af (f2 (gv 5) (gv 9) aX) ab) remD) au))
abbrev HY:FS:=(seqF (ao gU 6 (f2 (gv 4) (ci 0) aX)) (seqF (ao gU 7 (fD ab)) (seqF (eJ c0 AJ Ib 64) (seqF (cZ c0 (aL bz (fF (gv 7) (iJ (fM "list" (gv 7) (af (gv 6) ab) oy)) (fun _=>Res.ok none))) (ay 9) HW) (seqF (cZ c0 (aL bz (fF (gv 7) (iJ (fM "list" (gv 7) (af (gv 6) ab) oy)) (fun _=>Res.ok none))) (ay 9) HX) au)))))
def AM:FS:=(seqF (ao [.bw,.bw,.bw,.sh,.sh,.sh,.sh,.sh,.sh,.sh] 3 (fC (af (fC (af (f2 (gv 0) (ci 0) aX) ab) lenD) ab) ki)) (seqF (ao [.bw,.bw,.bw,.ow,.sh,.sh,.sh,.sh,.sh,.sh] 4 (fC (af (gv 2) ab) kU)) (seqF (ao [.bw,.bw,.bw,.ow,.ow,.sh,.sh,.sh,.sh,.sh] 5 (bN 1 [] (aL bz (gv 4)) (ay 0) (fun _=>Res.ok true) (fun _=>Res.ok D.non))) (seqF (eJ gU AK HY 64) (seqF (retF gU (fC (af (gv 5) ab) tupD)) au)))))
def nH:List D->Res D:=fun ds=>av false (AM (aE HS.length ds))
theorem Q7(T:Txt K mg)(A:DefAt K mg "_law_rings_dealt" AG)(B:Callee P w K mg base "_law_best" zN [] 1 false q0 pf):Callee P w K mg base "_law_rings_dealt" sK [] 2 false dg nH:=
 bn (m':=gU) A iq fun f cdv A outer s H g E hr L=>have M:=hr.units;(ai (eY 3 iq.nd (by rfl) (c6 rfl) (qR rfl (by rfl) T.b_list (by rfl) T.b_range (aM (bE (cC (by rfl) T.b_len (aM (xB L (ae 0) iB) aN))) aN)))
   (ai (eY 4 iq.nd (by rfl) (c6 rfl) (qv (by rfl) T.b_list (aM (ae 2) aN)))
   (ai (sc1 5 ["_law_hand"] [] iq.nd (db (ae 4)) eV)
   (ai (qV 64 I_ (gT (bE (cC (by rfl) T.b_len (aM (ae 4) aN))) iB) (rJ (m':=c0) 7 (ai (bA 6 iq.nd (da L (ae 4) iB))
   (ai (eY 7 iq.nd (by rfl) (c6 rfl) (fY bJ))
   (ai (qV 64 I_ (uL L (ae 6) (ae 7)) (ai (gL 7 rfl PySem.F.plainAttrs_list PySem.F.slot_list_append PySem.F.type_list_append iR jF (by rfl) (bR rfl) (bp (v_ 6) bJ))
   (ai (bA 8 iq.nd (aS B (ak (xB L (ae 0) (ae 6)) (ak (ae 3) aK))))
   (ai (bA 6 iq.nd (da L (ae 4) iB))
   (ai (qA I_ rfl (db (ae 4)) (fun _=>(bY 9 iq.nd)) (fun _=>(ai (bu (cz M (xB L (ae 1) (ae 9)) (ae 8)) (ai (bA 6 iq.nd (v_ 9))
   aw)
   aw)
   aw)))
   aw)))))
   (ai (ij I_ rfl (nU (qg (ae 7) (lx (bE (cm PySem.F.plainAttrs_list PySem.F.slot_list_index PySem.F.type_list_index FB FR (ae 7) (aM (ae 6) aN)))) lw)) (bY 9 iq.nd) (ai (jB 5 L rfl (by rfl) (bR rfl) (ae 9) (aS B (ak (xB L (ae 0) (ae 9)) (ak (ae 3) aK))))
   aw))
   (ai (ij I_ rfl (nU (qg (ae 7) (lx (bE (cm PySem.F.plainAttrs_list PySem.F.slot_list_index PySem.F.type_list_index FB FR (ae 7) (aM (ae 6) aN)))) lw)) (bY 9 iq.nd) (ai (gL 4 rfl PySem.F.plainAttrs_list PySem.F.slot_list_remove PySem.F.type_list_remove FC C5 (by rfl) (bR rfl) (bp (v_ 9) bJ))
   (ai (gL 3 rfl PySem.F.plainAttrs_list PySem.F.slot_list_remove PySem.F.type_list_remove FC C5 (by rfl) (bR rfl) (bp (da L (ae 5) (ae 9)) bJ))
   aw)))
   aw))))) rfl))
   (ai (aY (io (by rfl) T.b_tuple (aM (ae 5) aN)))
   aw)))))
abbrev yx:Stmt:=bb 132
abbrev Gg:List Str:=["_law_wishes","_law_owns_here","_law_parts","_law_row_here","_law_own","_law_words","_law_thing"]
abbrev pb:List Str:=["_law_wishes","_law_owns_here"]
theorem nA:FnScope Gg pb (aa yx):=be
abbrev Hn:FS:=(seqF (cb "list" jT 5 (af (f2 (f2 (fun _=>Res.ok (D.str "ABCDEFGH")) (gv 6) aX) (f2 (fun _=>Res.ok (D.str "*")) (fC (af (f2 (gv 6) (gv 4) eqD) ab) nV) nZ) addA) ab) appD) au)
abbrev Ho:FS:=(seqF (ao jS 5 (fD ab)) (seqF (cZ jT (aL bz (gv 3)) (ay 6) Hn) (seqF (cb "list" jT 2 (af (fM "str" (fun _=>Res.ok (D.str " ")) (af (gv 5) ab) gJ) ab) appD) au)))
def zB:FS:=(seqF (ao [.sh,.sh,.sh,.sh,.sh,.sh,.sh] 2 (fD ab)) (seqF (cZ jS (gq (gv 0) (gv 1)) (dq (bD (ay 3) (bD (ay 4) c9))) Ho) (seqF (retF jS (fM "str" (fun _=>Res.ok (D.str "; ")) (af (gv 2) ab) gJ)) au)))
def lH:List D->Res D:=fun ds=>av false (zB (aE Gg.length ds))
theorem CU(T:Txt K mg)(A:DefAt K mg "_law_text" yx):Callee P w K mg base "_law_text" pb [] 1 false bK lH:=
 bn (m':=jS) A nA fun f cdv A outer s H g E hr L=>have B:=hr.units;(ai (eY 2 nA.nd (by rfl) (c6 rfl) (fY bJ))
   (ai (ij I_ rfl (tM (by rfl) T.b_zip (v_ 0) (v_ 1)) (jg rfl (dL (bY 3 nA.nd) (dL (bY 4 nA.nd) jf))) (rJ (m':=jT) 5 (ai (eY 5 nA.nd (by rfl) (c6 rfl) (fY bJ))
   (ai (ij I_ rfl (nU (v_ 3)) (bY 6 nA.nd) (ai (gL 5 rfl PySem.F.plainAttrs_list PySem.F.slot_list_append PySem.F.type_list_append iR jF (by rfl) (bR rfl) (bp (dc (xB L (bE cH) (ae 6)) (bE (Kr (bE cH) (bE (Ko (by rfl) T.b_int (aM (bE (eM B (ae 6) (ae 4))) aN)))))) bJ))
   aw))
   (ai (gL 2 rfl PySem.F.plainAttrs_list PySem.F.slot_list_append PySem.F.type_list_append iR jF (by rfl) (bR rfl) (bp (cm PySem.F.plainAttrs_str PySem.F.slot_str_join PySem.F.type_str_join kE kC (bE cH) (aM (ae 5) aN)) bJ))
   aw))) rfl))
   (ai (aY (cm PySem.F.plainAttrs_str PySem.F.slot_str_join PySem.F.type_str_join kE kC (bE cH) (aM (ae 2) aN)))
   aw)))
abbrev zQ:Stmt:=bb 133
abbrev Hc:List Str:=["_law_cell_here","_law_n","_law_m","_law_rows","_law_hand"]
abbrev zU:List Str:=["_law_cell_here"]
theorem lG:FnScope Hc zU (aa zQ):=be
abbrev HA:FS:=(seqF (cb "list" iY 3 (af (aI (af (f2 (gv 0) (ci 40320) aV) (af (gv 2) ab)) [] nq) ab) appD) (seqF (ao iY 0 (f2 (gv 0) (ci 40320) fN)) au))
def z9:FS:=(seqF (ao cS 1 (f2 (ci 1) (f2 (gv 0) (ci 7) aV) addA)) (seqF (ao cS 2 (f2 (gv 1) (f2 (f2 (gv 0) (ci 7) fN) (f2 (ci 9) (gv 1) lR) aV) addA)) (seqF (ao cS 0 (f2 (gv 0) (ci 56) fN)) (seqF (ao [.sh,.sh,.sh,.sh,.sh] 3 (fD ab)) (seqF (cZ iY (c7 eN (af (gv 1) ab)) (ay 4) HA) (seqF (retF iY (eO (af (fC (af (gv 3) ab) tupD) (af (aI (af (gv 0) (af (gv 1) (af (gv 2) ab))) [] sj) ab)))) au))))))
def rV:List D->Res D:=fun ds=>av false (z9 (aE Hc.length ds))
theorem OT(T:Txt K mg)(A:DefAt K mg "_law_small" zQ)(L:Callee P w K mg base "_law_row" rO [] 1 false cE nq)(B:Callee P w K mg base "_law_owns" za [] 1 false [.sh,.bw,.bw] sj):Callee P w K mg base "_law_small" zU [] 2 false [Md.bw] rV:=
 bn (m':=iY) A lG fun f cdv A outer s H g E hr M=>(ai (bA 1 lG.nd (dc iB (bE (dH (ae 0) iB))))
   (ai (bA 2 lG.nd (dc (ae 1) (bE (dH (bE (km (ae 0) iB)) (bE (IB iB (ae 1)))))))
   (ai (bA 0 lG.nd (km (ae 0) iB))
   (ai (eY 3 lG.nd (by rfl) (c6 rfl) (fY bJ))
   (ai (ij I_ rfl (oI (by rfl) T.b_range (aM (ae 1) aN)) (bY 4 lG.nd) (ai (gL 3 rfl PySem.F.plainAttrs_list PySem.F.slot_list_append PySem.F.type_list_append iR jF (by rfl) (bR rfl) (bp (aS L (aF (dH (ae 0) iB) (ak (ae 2) aK))) bJ))
   (ai (bA 0 lG.nd (km (ae 0) iB))
   aw)))
   (ai (aY (fP (bp (io (by rfl) T.b_tuple (aM (ae 3) aN)) (bp (aS B (aF (v_ 0) (ak (ae 1) (ak (ae 2) aK)))) bJ))))
   aw))))))
abbrev Ah:Stmt:=bb 134
abbrev Hu:List Str:=["_law_cell_here","_law_state","_law_wishes","_law_owns_here","_law_order_here","_law_n","_law_m","_law_way","_law_hand","_law_thing","_law_made","_law_row_here"]
abbrev sG:List Str:=["_law_cell_here","_law_state"]
theorem fT:FnScope Hu sG (aa Ah):=be
def sD:FS:=(seqF (gu dS (gv 1) (dq (bD (ay 2) (bD (ay 3) (bD (ay 4) c9))))) (seqF (ao dS 5 (fC (af (gv 2) ab) lenD)) (seqF (ao dS 6 (fC (af (f2 (gv 2) (ci 0) aX) ab) lenD)) (seqF (ao dS 7 (f2 (gv 0) (ci 5) aV)) (seqF (ao dS 0 (f2 (gv 0) (ci 5) fN)) (seqF (cF cK (gs (aW (f2 (gv 7) (ci 0) eqD)) (dw (aW (f2 (gv 7) (ci 4) eqD)) (aW (f2 (gv 5) (ci 1) eqD)))) (seqF (gu cK (aI (af (gv 0) ab) [] rV) (dq (bD (ay 2) (bD (ay 3) c9)))) (seqF (retF cK (eO (af (f2 (fun _=>Res.ok (D.str "rows ")) (aI (af (gv 2) (af (gv 3) ab)) [] lH) addA) (af (eO (af (gv 2) (af (gv 3) (af (fun _=>Res.ok D.non) ab)))) ab)))) au)) au) (seqF (ao cK 8 (f2 (gv 0) (gv 5) aV)) (seqF (cF cK (gs (aW (f2 (gv 7) (ci 1) eqD)) (aW (f2 (gv 7) (ci 4) eqD))) (seqF (ao cK 9 (f2 (f2 (gv 0) (gv 5) fN) (gv 6) aV)) (seqF (ao cK 10 (bN 1 [9] (aL bz (gv 3)) (ay 0) (fun _=>Res.ok true) (iz (aW (f2 (gv 0) (gv 1) eqD)) (fun _=>Res.ok D.non) (gv 0)))) (seqF (putF jR 10 (gv 8) (gv 9)) (seqF (retF jR (eO (af (f2 (f2 (f2 (fun _=>Res.ok (D.str "own ")) (fC (af (gv 8) ab) ke) addA) (fun _=>Res.ok (D.str " ")) addA) (f2 (fun _=>Res.ok (D.str "ABCDEFGH")) (gv 9) aX) addA) (af (eO (af (gv 2) (af (fC (af (gv 10) ab) tupD) (af (gv 4) ab)))) ab)))) au)))) au) (seqF (cF cK (aW (f2 (gv 7) (ci 2) eqD)) (seqF (ao cK 10 (fC (af (gv 3) ab) kU)) (seqF (putF jR 10 (gv 8) (fun _=>Res.ok D.non)) (seqF (retF jR (eO (af (f2 (fun _=>Res.ok (D.str "none ")) (fC (af (gv 8) ab) ke) addA) (af (eO (af (gv 2) (af (fC (af (gv 10) ab) tupD) (af (gv 4) ab)))) ab)))) au))) au) (seqF (ao cK 11 (aI (af (gv 0) (af (gv 5) ab)) [] nq)) (seqF (retF cK (eO (af (fM "str" (fun _=>Res.ok (D.str " ")) (af (f2 (fD (af (fun _=>Res.ok (D.str "order")) ab)) (bN 1 [] (aL bz (gv 11)) (ay 0) (fun _=>Res.ok true) (fC (af (gv 0) ab) ke)) addA) ab) gJ) (af (eO (af (gv 2) (af (gv 3) (af (gv 11) ab)))) ab)))) au)))))))))))
def pk:List D->Res D:=fun ds=>av false (sD (aE Hu.length ds))
theorem Om(T:Txt K mg)(A:DefAt K mg "_law_change" Ah)(L:Callee P w K mg base "_law_small" zU [] 2 false [Md.bw] rV)(M:Callee P w K mg base "_law_text" pb [] 1 false bK lH)(U:Callee P w K mg base "_law_row" rO [] 1 false cE nq):Callee P w K mg base "_law_change" sG [] 3 false bq pk:=
 bn (m':=cK) A fT fun f cdv A outer s H g E hr Y=>have B:=hr.units;(ai (uC (v_ 1) (jg rfl (dL (bY 2 fT.nd) (dL (bY 3 fT.nd) (dL (bY 4 fT.nd) jf)))))
   (ai (bA 5 fT.nd (cC (by rfl) T.b_len (aM (ae 2) aN)))
   (ai (bA 6 fT.nd (cC (by rfl) T.b_len (aM (xB Y (ae 2) iB) aN)))
   (ai (bA 7 fT.nd (dH (ae 0) iB))
   (ai (bA 0 fT.nd (km (ae 0) iB))
   (ai (bu (SW.toQ (ga (cz B (ae 7) iB) (lj (SW.toQ (qk (cz B (ae 7) iB) (qG (cz B (ae 5) iB))))))) (ai (uC (aS L (ak (ae 0) aK)) (jg rfl (dL (bY 2 fT.nd) (dL (bY 3 fT.nd) jf))))
   (ai (aY (fP (bp (dc (bE cH) (bE (aS M (aF (v_ 2) (aF (v_ 3) aK))))) (bp (fP (bp (v_ 2) (bp (v_ 3) (bp eV bJ)))) bJ))))
   aw))
   aw)
   (ai (bA 8 fT.nd (dH (ae 0) (ae 5)))
   (ai (bu (SW.toQ (ga (cz B (ae 7) iB) (lj (cz B (ae 7) iB)))) (Ea (m2:=cK) (ai (bA 9 fT.nd (dH (bE (km (ae 0) (ae 5))) (ae 6)))
   (ai (sc1 10 ["_law_one","_law_thing"] [9] fT.nd (db (ae 3)) (mI (cz B (ae 0) (ae 1)) eV (v_ 0)))
   (ai (jB 10 Y rfl (by rfl) (bR rfl) (ae 8) (v_ 9))
   (ai (aY (fP (bp (dc (bE (dc (bE (dc (bE cH) (bE (vL (by rfl) T.b_str (aM (ae 8) aN))))) (bE cH))) (xB Y (bE cH) (ae 9))) (bp (fP (bp (v_ 2) (bp (io (by rfl) T.b_tuple (aM (ae 10) aN)) (bp (v_ 4) bJ)))) bJ))))
   aw)))) (oJ (oJ (oJ (EA DP)))) rfl)
   aw)
   (ai (bu (cz B (ae 7) iB) (Ea (m2:=cK) (ai (eY 10 fT.nd (by rfl) (c6 rfl) (qv (by rfl) T.b_list (aM (ae 3) aN)))
   (ai (jB 10 Y rfl (by rfl) (bR rfl) (ae 8) eV)
   (ai (aY (fP (bp (dc (bE cH) (bE (vL (by rfl) T.b_str (aM (ae 8) aN)))) (bp (fP (bp (v_ 2) (bp (io (by rfl) T.b_tuple (aM (ae 10) aN)) (bp (v_ 4) bJ)))) bJ))))
   aw))) (oJ (oJ (EA DP))) rfl)
   aw)
   (ai (bA 11 fT.nd (aS U (aF (v_ 0) (ak (ae 5) aK))))
   (ai (aY (fP (bp (cm PySem.F.plainAttrs_str PySem.F.slot_str_join PySem.F.type_str_join kE kC (bE cH) (aM (bE (dc (SO.toB (fY (bp cH bJ))) (SO.toB (ir ["_law_one"] [] fT.nd (db (ae 11)) (vL (by rfl) T.b_str (aM (ae 0) aN)))))) aN)) (bp (fP (bp (v_ 2) (bp (v_ 3) (bp (v_ 11) bJ)))) bJ))))
   aw)))))))))))
abbrev zP:Stmt:=bb 135
abbrev Hb:List Str:=["_law_state"]
abbrev r6:List Str:=["_law_state"]
theorem RH:FnScope Hb r6 (aa zP):=be
def z8:FS:=(seqF (cF [Md.bw] (aW (f2 (f2 (gv 0) (ci 2) aX) (fun _=>Res.ok D.non) nL)) (seqF (retF [Md.bw] (fC (af (fC (af (f2 (gv 0) (ci 0) aX) ab) lenD) ab) ki)) au) au) (seqF (retF [Md.bw] (fC (af (f2 (gv 0) (ci 2) aX) ab) kU)) au))
def oY:List D->Res D:=fun ds=>av false (z8 (aE Hb.length ds))
theorem OS(T:Txt K mg)(A:DefAt K mg "_law_order" zP):Callee P w K mg base "_law_order" r6 [] 1 false [Md.bw] oY:=
 bn (m':=[Md.bw]) A RH fun f cdv A outer s H g E hr B=>(ai (bu (lV (xB B (ae 0) iB) (bE eV)) (ai (aY (SO.toE (qR rfl (by rfl) T.b_list (by rfl) T.b_range (aM (bE (cC (by rfl) T.b_len (aM (xB B (ae 0) iB) aN))) aN))))
   aw)
   aw)
   (ai (aY (SO.toE (qv (by rfl) T.b_list (aM (xB B (ae 0) iB) aN))))
   aw))
abbrev zZ:Stmt:=bb 137
abbrev HB:List Str:=["_law_things"]
abbrev sB:List Str:=["_law_things"]
theorem HM:FnScope HB sB (aa zZ):=be
def An:FS:=(seqF (retF [Md.bw] (fM "str" (fun _=>Res.ok (D.str " ")) (af (bN 1 [] (aL bz (gv 0)) (ay 0) (fun _=>Res.ok true) (f2 (fun _=>Res.ok (D.str "ABCDEFGH")) (gv 0) aX)) ab) gJ)) au)
def nw:List D->Res D:=fun ds=>av false (An (aE HB.length ds))
theorem Pv(T:Txt K mg)(A:DefAt K mg "_law_letters" zZ):Callee P w K mg base "_law_letters" sB [] 1 false [Md.bw] nw:=
 bn (m':=[Md.bw]) A HM fun f cdv A outer s H g E hr B=>(ai (aY (cm PySem.F.plainAttrs_str PySem.F.slot_str_join PySem.F.type_str_join kE kC (bE cH) (aM (SO.toB (ir ["_law_thing"] [] HM.nd (db (ae 0)) (da B (bE cH) (ae 0)))) aN)))
   aw)
abbrev ka:Stmt:=qN (bb 124) 2
abbrev jE:List Str:=["self"]
theorem MR:FnScope jE jE (aa ka):=be
def CB:cu:=bc mG (bc mK iH)
def qx:gH:=fun z ds=>dX (CB (bS jE.length ds) z)
variable{C:Addr}
theorem MD(xn:XN K "Desk" C)(A:MethAt K "Desk" "undo" "Desk.undo" ka)(L:bX K "kept" mN)(B:bX K "past" mM):CalleeT P w K mg base "undo" jE 1 C [] qx:=by
 refine Ez (k:=0) (fs:=CB) (m':=[Md.bw]) A xn MR rfl (fun _ _ _ _ _ _ us hl=>by obtain⟨u0,rfl⟩:=uA us hl;kernel_rfl) fun f cdv A outer s H g E hr=>?_;have hk:=L "Desk" C rfl xn;have hp:=B "Desk" C rfl xn;have nb:Nb g [Md.bw] 0:=tY fun j hj=>by rcases j with _|j <;> simp at hj ⊢
 exact d7 (Ke hk.1 hp.2 rfl (bR rfl)) (d7 (JR nb hk.1 hk.2 hp.2 rfl (bR rfl)) j8)
abbrev j9:Stmt:=qN (bb 124) 1
abbrev CD:List Str:=["self","line","words","first","changed"]
abbrev uW:List Str:=["self","line"]
theorem qJ:FnScope CD uW (aa j9):=be
abbrev gP:List (Str×Str):=[("rings","answer_rings"),("asks","answer_asks"),("deal","answer_deal"),("by","answer_by"),("of","answer_of"),("lot","answer_lot"),("eat","answer_eat")]
abbrev gQ:List (Str×Str):=[("rows","after_rows"),("own","after_own"),("none","after_none"),("order","after_order")]
def wB:Str->Option (List D->Res D):=fun s=>if s = "deal" then some lF else none
def qH:Str->Option (List D->Res D):=fun s=>if s = "rows" then some nz else if s = "own" then some nE else if s = "none" then some ny else if s = "order" then some nv else none
abbrev im:List Md:=[.bw,.sh,.sh,.sh,.sh]
def lp:cu:=bc (bI fun _=>ao im 2 (aI (af (gv 1) ab) [] jn))
 (bc (bI fun _=>ao im 3 (f2 (gv 2) (ci 0) aX))
 (bc (l6 (fun _=>pT gP (gv 3)) (bc (bI fun kd=>retF im (nN wB (gv 3) (af (fun _=>.ok kd) (af (fF (gv 2) (iJ (ci 1)) (fun _=>Res.ok none)) ab)))) iH) iH)
 (bc (l6 (fun _=>pT gQ (gv 3))
  (bc (bI fun kd=>ao im 4 (nN qH (gv 3) (af (fun _=>.ok kd) (af (fF (gv 2) (iJ (ci 1)) (fun _=>Res.ok none)) ab)))) (bc tz (bc (pF fun _=>(gv 4)) iH)))
  (bc (bI fun _=>iI im (aI (af (f2 (gv 2) (fD (af (fun _=>Res.ok (D.str "undo")) ab)) eqD) ab) [] fg)) (bc (qp qx) iH)))
 (bc (bI fun kd=>retF im (aI (af (f1 (fun _=>.ok kd) (bQ eL "wishes")) (af (f1 (fun _=>.ok kd) (bQ gB "owns")) ab)) [] nF)) iH))))
def ik:gH:=fun z ds=>dX (lp (bS CD.length ds) z)
theorem MC(T:Txt K mg)(xn:XN K "Desk" C)(A:MethAt K "Desk" "tell" "Desk.tell" j9)(Id:bX K "kept" mN)(Cl:bX K "past" mM)(BT:bX K "owns" gB)(dl:bX K "wishes" eL)(q1:QAt P w K mg "QUESTIONS" gP)(q2:QAt P w K mg "CHANGES" gQ)(IO:CalleeT P w K mg base "undo" jE 1 C [] qx)(ad:Callee P w K mg base "words_in" rR [] 2 false [Md.bw] jn)(L:Callee P w K mg base "answer_deal" pr [] 9 false q0 lF)(B:Callee P w K mg base "refuse_unless" jp [] 1 false [Md.bw] fg)(Z:Callee P w K mg base "rows_text" sv [] 3 false bK nF)(Y:Callee P w K mg base "after_rows" oZ [] 9 false q0 nz)(ac:Callee P w K mg base "after_own" su [] 5 false bq nE)(U:Callee P w K mg base "after_none" se [] 5 false bq ny)(M:Callee P w K mg base "after_order" sH [] 6 false bq nv):CalleeT P w K mg base "tell" uW 10 C [.sh] ik:=by
 refine Ez (k:=9) (fs:=lp) (m':=im) A xn qJ rfl (fun _ _ _ _ _ _ us hl=>by obtain⟨u0,u1,rfl⟩:=BP us hl;kernel_rfl) fun f cdv A outer s H g E hr=>?_;have LE:=kh hr;have KK:=hr.units;have hk:=Id "Desk" C rfl xn;have hp:=Cl "Desk" C rfl xn;have nb:Nb g im 0:=tY fun j hj=>by rcases j with _|_|_|_|_|j <;> simp[im]at hj ⊢
 have h1:∀s f,wB s=some f->∃n,gP.lookup s=some n/\Callee P w K mg base n pr [] 9 false bq f:=fun s f h=>by
  unfold wB at h;split at h
  .rename_i e;subst e;cases h;exact⟨_,rfl,L.lent2⟩
  .cases h
 have h2:∀s f,qH s=some f->∃n,gQ.lookup s=some n/\Callee P w K mg base n oZ [] 9 false bq f:=fun s f h=>by
  unfold qH at h;split at h
  .rename_i e;subst e;cases h;exact⟨_,rfl,Y.lent2⟩
  split at h
  .rename_i e;subst e;cases h;exact⟨_,rfl,ac.up (by decide)⟩
  split at h
  .rename_i e;subst e;cases h;exact⟨_,rfl,U.up (by decide)⟩
  split at h
  .rename_i e;subst e;cases h;exact⟨_,rfl,M.up (by decide)⟩
  .cases h
 refine d7 (ic (mb:=[]) (fun g' kd k=>bA 2 qJ.nd (aS ad (ak (ae 1) aK))) rfl) ?_;refine d7 (ic (mb:=[]) (fun g' kd k=>bA 3 qJ.nd (da LE (ae 2) iB)) rfl) ?_;refine d7 (pX (fun g' kd k=>Cn q1 (v_ 3)) (d7 (ic (mb:=[]) (fun g' kd k=>aY (pH q1 h1 hr (v_ 3) (ak (bE (qB k rfl hk.1 hk.2 rfl (bR rfl))) (aF (qg (ae 2) (lx iB) lw) aK)))) rfl) j8) j8) ?_;refine d7 (pX (fun g' kd k=>Cn q2 (v_ 3)) (d7 (ic (mb:=[]) (fun g' kd k=>bA 4 qJ.nd (pH q2 h2 hr (v_ 3) (ak (bE (qB k rfl hk.1 hk.2 rfl (bR rfl))) (aF (qg (ae 2) (lx iB) lw) aK)))) rfl) (d7 (Si nb hk.1 hk.2 hp.2 rfl (bR rfl)) (d7 (Jq nb hk.1 hk.2 rfl (bR rfl) fun g' kd k=>v_ 4) j8)))
  (d7 (ic (mb:=[]) (fun g' kd k=>kl (aS B (ak (bE (eM KK (ae 2) (SO.toB (fY (bp cH bJ))))) aK))) rfl) (d7 (Lc IO (hr.mono (by decide)) nb rfl (bR rfl)) j8))) ?_
 exact d7 (ic (mb:=[]) (fun g' kd k=>aY (aS Z (aF (gK dl (bE (qB k rfl hk.1 hk.2 rfl (bR rfl)))) (aF (gK BT (bE (qB k rfl hk.1 hk.2 rfl (bR rfl)))) aK)))) rfl) j8
abbrev sx:Stmt:=bb 136
abbrev Ha:List Str:=["_law_desk","_law_line","_law_due","_law_heard_here"]
abbrev zT:List Str:=["_law_desk","_law_line","_law_due"]
theorem HG:FnScope Ha zT (aa sx):=be
abbrev qQ:List Md:=[.bw,.sh,.sh,.sh]
def oX:cu:=bc (uZ 3 (fun _=>af (gv 1) ab) ik) (bc (bI fun _=>retF qQ (de (f1 (gv 3) (gm "str")) (f2 (gv 3) (gv 2) eqD))) iH)
def iT:gH:=fun z ds=>dX (oX (bS Ha.length ds) z)
theorem RE(T:Txt K mg)(A:DefAt K mg "_law_heard" sx)(B:CalleeT P w K mg base "tell" uW 10 C [.sh] ik):CalleeO P w K mg base "_law_heard" zT 11 C [.sh,.sh] iT:=by
 refine Mq (k:=10) (fs:=oX) (m':=qQ) A HG rfl (fun _ _ _ _ _ _ us hl=>by obtain⟨u0,u1,u2,rfl⟩:=tV us hl;kernel_rfl) fun f cdv A outer s H g E hr=>?_;have M:=kh hr;have L:=hr.units;have nb:Nb g qQ 0:=tY fun j hj=>by rcases j with _|_|_|_|j <;> simp[qQ]at hj ⊢
 refine d7 (Ld 3 B hr (by decide) nb rfl (bR rfl) HG.nd rfl (c6 rfl) fun g' kd k=>aF (v_ 1) aK) ?_;exact d7 (ic (mb:=[]) (fun g' kd k=>aY (k9 (n4 "str" "str" rfl (vX _) (by rfl) T.b_isinstance (by rfl) T.b_str (ae 3)) (lg (eM L (ae 3) (ae 2))))) rfl) j8
abbrev kj:Stmt:=qN (bb 124) 0
theorem Qj:FnScope jE jE (aa kj):=be
theorem Pw{C:Addr}{kd:D}(xn:XN K "Desk" C)(hC:∀C',XN K "Desk" C'->C'=C)(A:MakeAt K mg "Desk" "Desk" "Desk.__init__" kj)(M:bX K "kept" mN)(L:bX K "past" mM)(h:jN [.str "A*"]=.ok kd)(B:Callee P w K mg base "kept_of_text" pj [] 8 false [Md.bw] jN):CalleeI P w K mg base "Desk" jE 9 C kd:=by refine Mr (k:=8) A hC Qj rfl (fun _ _ _ _ _ _ us hl=>by obtain⟨u0,rfl⟩:=uA us hl;kernel_rfl) fun f cdv A outer s H g E hr=>?_;have hk:=M "Desk" C rfl xn;have hp:=L "Desk" C rfl xn;refine Kd hk.1 hk.2 hp.2 rfl (bR rfl) (fun r=>⟨_,aS B (ak (bE cH) aK),?_⟩) (fY bJ);show nK (jN [.str "A*"])=_;rw[h];rfl
abbrev qo:Stmt:=bb 138
abbrev BH:List Str:=["_law_script","_law_desk","_law_other","_law_state","_law_ahead","_law_k","_law_cell_here","_law_line","_law_dealt"]
abbrev tw:List Str:=["_law_script"]
theorem iO:FnScope BH tw (aa qo):=be
abbrev CO:List Md:=[.sh,.bw,.bw,.sh,.sh,.sh,.sh,.sh,.sh]
abbrev jh:List Md:=[.sh,.bw,.bw,.sh,.ow,.sh,.sh,.sh,.sh]
def B3:FS:=cF jh (dw (aW (f2 (f2 (gv 6) (ci 6) aV) (ci 5) eqD)) (aW (f2 (fC (af (gv 4) ab) lenD) (ci 0) jt))) (seqF (qi 4 3) (seqF (ao jh 7 (fun _=>Res.ok (D.str "undo"))) au))
 (seqF (cb "list" jh 4 (af (gv 3) ab) appD) (seqF (gu jh (aI (af (f2 (gv 6) (ci 6) fN) (af (gv 3) ab)) [] pk) (dq (bD (ay 7) (bD (ay 3) c9)))) au))
def mH:cu:=bc (bI fun _=>ao jh 6 (aI (af (gv 0) (af (gv 5) ab)) [] nB))
 (bc (bI fun _=>B3)
 (bc (n8 (fun _=>af (gv 7) (af (aI (af (f2 (gv 3) (ci 0) aX) (af (f2 (gv 3) (ci 1) aX) ab)) [] lH) ab)) iT)
 (bc (bI fun _=>ao jh 8 (aI (af (f2 (gv 3) (ci 0) aX) (af (f2 (gv 3) (ci 1) aX) (af (aI (af (gv 3) ab) [] oY) ab))) [] nH))
 (bc (n8 (fun _=>af (fun _=>Res.ok (D.str "deal")) (af (aI (af (gv 8) ab) [] nw) ab)) iT) iH))))
def qw(kd:D):FS:=jX 1 2 kd
 (dP (gt fun _=>bI fun _=>ao CO 3 (eO (af (eO (af (eO (af (ci 0) ab)) ab)) (af (eO (af (ci 0) ab)) (af (fun _=>Res.ok D.non) ab)))))
 (dP (gt fun _=>bI fun _=>ao CO 4 (fD ab))
 (dP (gt fun _=>tW (c7 f8 (af (ci 1) (af (fC (af (fC (af (gv 0) ab) lenD) (af (ci 63) ab)) minD) ab))) 5 mH)
 (dP (t6 (fun _=>af (fun _=>Res.ok (D.str "deal")) (af (fun _=>Res.ok (D.str "A")) ab)) (fun _=>af (fun _=>Res.ok (D.str "own 0 A")) (af (fun _=>Res.ok (D.str "A*")) ab)) iT) Cy))))
def CC(kd:D):List D->Res D:=fun ds=>av false (qw kd (aE BH.length ds))
theorem My{C:Addr}{kd:D}(T:Txt K mg){fa:Addr}{fd:UE}(A:Fun K "law" "law" qo fa fd)(L:CalleeO P w K mg base "_law_heard" zT 11 C [.sh,.sh] iT)(dl:CalleeI P w K mg base "Desk" jE 9 C kd)(ac:Callee P w K mg base "_law_wide" sr [] 2 false q0 nB)(U:Callee P w K mg base "_law_change" sG [] 3 false bq pk)(Z:Callee P w K mg base "_law_text" pb [] 1 false bK lH)(Y:Callee P w K mg base "_law_order" r6 [] 1 false [Md.bw] oY)(B:Callee P w K mg base "_law_rings_dealt" sK [] 2 false dg nH)(M:Callee P w K mg base "_law_letters" sB [] 1 false [Md.bw] nw):FnOk P w K mg base cO 12 fa fd tw (jr K false [Md.sh] (CC kd)):=by
 refine CI (k:=11) (fs:=qw kd) (m':=jh) A iO rfl fun cdv A outer s H g E hr=>⟨rfl,?_⟩
 have ad:=kh hr;have BT:=hr.units;have nb:∀(j:Nat),j≠1->j≠2->jh[j]?≠some .bw:=fun j h1 h2=>by rcases j with _|_|_|_|_|_|_|_|_|j <;> simp[jh]at h1 h2 ⊢
 refine MH (by decide) (by decide) (by decide) dl (hr.mono (by decide)) iO.nd rfl rfl (c6 rfl) (c6 rfl) rfl ?_;refine qu (t5 (fun g' w' o=>ic (mb:=[]) (fun g' kd k=>bA 3 iO.nd (fP (bp (fP (bp (fP (bp n0 bJ)) bJ)) (bp (fP (bp n0 bJ)) (bp eV bJ))))) rfl) rfl) ?_;refine qu (t5 (fun g' w' o=>ic (mb:=[]) (fun g' kd k=>eY 4 iO.nd (by rfl) (c6 rfl) (fY bJ)) rfl) rfl) ?_;refine qu (t5 (fun g' w' o=>Sj 5 I_ rfl (fun g'=>Nw (by rfl) T.b_range (aM iB (aM (bE (Ix rfl (by rfl) T.b_min (aM (bE (cC (by rfl) T.b_len (aM (ae 0) aN))) (aM iB aN)))) aN))) rfl iO.nd rfl (c6 rfl) (by decide) ?_) rfl) ?_
 .refine d7 (ic (mb:=[]) (fun g' kd k=>bA 6 iO.nd (aS ac (ak (ae 0) (ak (ae 5) aK)))) rfl) ?_;refine d7 (ic (mb:=[]) (fun g' kd k=>bu (SW.toQ (qk (cz BT (bE (dH (ae 6) iB)) iB) (qG (gT (bE (cC (by rfl) T.b_len (aM (ae 4) aN))) iB)))) (ai (Kq 4 3 rfl iO.nd) (ai (bA 7 iO.nd cH) aw))
   (ai (gL 4 rfl PySem.F.plainAttrs_list PySem.F.slot_list_append PySem.F.type_list_append iR jF (by rfl) (bR rfl) (bp (v_ 3) bJ)) (ai (uC (aS U (ak (bE (km (ae 6) iB)) (aF (v_ 3) aK))) (jg rfl (dL (bY 7 iO.nd) (dL (bY 3 iO.nd) jf)))) aw))) rfl) ?_
  refine d7 (Dt L hr (o.nb nb) rfl (bR rfl) fun g' kd k=>aF (v_ 7) (aF (aS Z (aF (da ad (ae 3) iB) (aF (da ad (ae 3) iB) aK))) aK)) ?_;refine d7 (ic (mb:=[]) (fun g' kd k=>bA 8 iO.nd (aS B (ak (bE (da ad (ae 3) iB)) (ak (bE (da ad (ae 3) iB)) (ak (bE (aS Y (ak (ae 3) aK))) aK))))) rfl) ?_;exact d7 (Dt L hr (o.nb nb) rfl (bR rfl) fun g' kd k=>aF cH (aF (aS M (ak (ae 8) aK)) aK)) j8
 .exact qu (JJ (by decide) L hr nb rfl (bR rfl) (fun g' kd k=>aF cH (aF cH aK)) (fun g' kd k=>aF cH (aF cH aK))) IY
end Law
namespace Law
open PySem L2 DL
abbrev nD(k:Nat):D:=.int (k:Int)
abbrev LN(l:List Nat):D:=.lst (l.map nD)
abbrev TN(l:List Nat):D:=.tup (l.map nD)
def oD:Option Nat->D
|none=>.non
|some k=>nD k
abbrev WD(rows:List (List Nat)):D:=.tup (rows.map TN)
abbrev OD(owns:List (Option Nat)):D:=.tup (owns.map oD)
theorem lQ{ds:List D}(h:ds.length<=1000):sz ds=some ds:=IF (Ue h (by rw[N_];decide))
@[simp] theorem addA_int(a b:Int):addA (.int a) (.int b)=some (.int (a+b)):=rfl
theorem D9{a b:Int}(h:gz a b):bi (.int a) (.int b)=some (.int (a*b)):=by rw[bi,intsC_int,if_pos h]
theorem D8{a b:Int}(h:0<b):aV (.int a) (.int b)=some (.int (a%b)):=by rw[aV,intsC_int,if_pos h]
theorem En{a b:Int}(h:hZ a b):fN (.int a) (.int b)=some (.int (a/b)):=by rw[fN,intsC_int,if_pos h]
theorem aq{s1 s2:FS}{r r':am}(h:s1 r=.nx r'):seqF s1 s2 r=s2 r':=by unfold seqF;rw[h]
theorem aQ{s1 s2:FS}{r:am}{d:D}(h:s1 r=.rt d):seqF s1 s2 r=.rt d:=by unfold seqF;rw[h]
theorem a9{m:List Md}{i:Nat}{f:FE}{r:am}{d:D}(h:f r=.ok d):ao m i f r=.nx (r.set i (some d)):=by unfold ao;rw[h];rfl
theorem aZ{m:List Md}{f:FE}{r:am}{d:D}(h:f r=.ok d):retF m f r=.rt d:=by unfold retF;rw[h];rfl
theorem mz{m:List Md}{p:FQ}{s1 s2:FS}{r:am}{b:Bool}(h:p r=.ok b):cF m p s1 s2 r=if b=true then s1 r else s2 r:=by unfold cF;rw[h];rfl
theorem cM{m:List Md}{p:FQ}{s1 s2:FS}{r:am}(h:p r=.ok true):cF m p s1 s2 r=s1 r:=by rw[mz h,if_pos rfl]
theorem bG{m:List Md}{p:FQ}{s1 s2:FS}{r:am}(h:p r=.ok false):cF m p s1 s2 r=s2 r:=by rw[mz h,if_neg g_]
theorem mw{p:FQ}{f f':FE}{r:am}(h:p r=.ok true):iz p f f' r=f r:=by unfold iz;rw[h];rfl
theorem mv{p:FQ}{f f':FE}{r:am}(h:p r=.ok false):iz p f f' r=f' r:=by unfold iz;rw[h];rfl
theorem fQ{fl:am->Res (List D)}{r:am}{ds:List D}(h:fl r=.ok ds)(hl:ds.length<=1000):eO fl r=.ok (.tup ds):=by unfold eO;rw[h,bind_ok,lQ hl];rfl
theorem gM{fl:am->Res (List D)}{r:am}{ds:List D}(h:fl r=.ok ds)(hl:ds.length<=1000):fD fl r=.ok (.lst ds):=by unfold fD;rw[h,bind_ok,lQ hl];rfl
theorem jJ{ds:List D}{d:D}(h:ds.length<=1000):appD (.lst ds) [d]=some (.lst (ds++[d])):=by show(if ds.length<sizeLine then some (D.lst (ds++[d]))else none)=_;rw[if_pos (by rw[N_];omega)]
theorem aT{fl:am->Res (List D)}{dds zs:List D}{F:List D->Res D}{r:am}{d:D}(h1:fl r=.ok zs)(h2:F (zs++dds)=.ok d):aI fl dds F r=.ok d:=by unfold aI;rw[h1,bind_ok,h2];rfl
theorem dC{f:FE}{k:D->Option D}{r:am}{a d:D}(h1:f r=.ok a)(h2:k a=some d):f1 f k r=.ok d:=by unfold f1;rw[h1,bind_ok,h2];rfl
theorem ax{f f':FE}{k:D->D->Option D}{r:am}{a b d:D}(h1:f r=.ok a)(h2:f' r=.ok b)(h3:k a b=some d):f2 f f' k r=.ok d:=by unfold f2;rw[h1,bind_ok,h2,bind_ok,h3];rfl
theorem bm{fl:am->Res (List D)}{k:List D->Option D}{r:am}{ds:List D}{d:D}(h1:fl r=.ok ds)(h2:k ds=some d):fC fl k r=.ok d:=by unfold fC;rw[h1,bind_ok,h2];rfl
theorem ag{f:FE}{fl:am->Res (List D)}{r:am}{d:D}{ds:List D}(h1:f r=.ok d)(h2:fl r=.ok ds):af f fl r=.ok (d::ds):=by unfold af;rw[h1,bind_ok,h2];rfl
theorem aj{r:am}:ab r=.ok []:=rfl
theorem bZ{f:FE}{r:am}{b:Bool}(h:f r=.ok (.bl b)):aW f r=.ok b:=by unfold aW;rw[h];rfl
theorem ip{f:FE}{r:am}{d:D}{b:Bool}(h:f r=.ok d)(h2:gO d=some b):cn f r=.ok b:=by unfold cn;rw[h,bind_ok,h2];rfl
theorem lv{p:FQ}{r:am}{b:Bool}(h:p r=.ok b):du p r=.ok (! b):=by unfold du;rw[h];rfl
theorem k0{p q:FQ}{r:am}(h:p r=.ok true):dw p q r=q r:=by unfold dw;rw[h];rfl
theorem qf{p q:FQ}{r:am}(h:p r=.ok false):dw p q r=.ok false:=by unfold dw;rw[h];rfl
theorem lY{p q:FQ}{r:am}(h:p r=.ok true):gs p q r=.ok true:=by unfold gs;rw[h];rfl
theorem dY{p q:FQ}{r:am}(h:p r=.ok false):gs p q r=q r:=by unfold gs;rw[h];rfl
theorem mP{f f':FE}{r:am}(h:f r=.ok (.bl true)):de f f' r=f' r:=by unfold de;rw[h];rfl
theorem dE{m:List Md}{fi:FI}{ft:FT}{b:FS}{r:am}{ds:List D}(h:fi r=.ok ds):cZ m fi ft b r=aD ft b ds r:=by unfold cZ;rw[h];rfl
theorem eG{f:FE}{r:am}{d:D}{ds:List D}(h:f r=.ok d)(h2:bz d=some ds):aL bz f r=.ok ds:=by unfold aL;rw[h,bind_ok,h2];rfl
theorem d8{ft:FT}{b:FS}{r:am}:aD ft b [] r=.nx r:=by unfold aD;rfl
theorem dJ{ft:FT}{b:FS}{r r1 r':am}{d:D}{ds:List D}(h1:ft d r=some r1)(h2:b r1=.nx r'):aD ft b (d::ds) r=aD ft b ds r':=by
 conv=>lhs;unfold aD
 simp only[h1,h2]
theorem uV{ft:FT}{b:FS}{r r1:am}{d v:D}{ds:List D}(h1:ft d r=some r1)(h2:b r1=.rt v):aD ft b (d::ds) r=.rt v:=by
 conv=>lhs;unfold aD
 simp only[h1,h2]
theorem qL{m:List Md}{p:FQ}{b:FS}{n:Nat}{r:am}(h:p r=.ok false):eJ m p b (n+1) r=.nx r:=by unfold eJ;rw[h];rfl
theorem qM{m:List Md}{p:FQ}{b:FS}{n:Nat}{r r':am}(h:p r=.ok true)(h2:b r=.nx r'):eJ m p b (n+1) r=eJ m p b n r':=by
 conv=>lhs;unfold eJ
 rw[h,onE_ok,if_pos rfl,h2]
theorem gN{T:String}{m:List Md}{i:Nat}{fl:am->Res (List D)}{mk:D->List D->Option D}{r:am}{d d':D}{ds:List D}(h1:r[i]? = some (some d))(h2:sT T d=true)(h3:fl r=.ok ds)(h4:mk d ds=some d'):cb T m i fl mk r=.nx (r.set i (some d')):=by unfold cb;rw[h1];simp only[h2,if_true,h3,onE_ok,h4]
theorem jk{m:List Md}{i:Nat}{fk fv:FE}{r:am}{d k v d':D}(h1:r[i]? = some (some d))(h2:fv r=.ok v)(h3:fk r=.ok k)(h4:dN d k v=some d'):DL.putF m i fk fv r=.nx (r.set i (some d')):=by unfold DL.putF;rw[h2,onE_ok];simp only[h1,h3,onE_ok,h4]
theorem La{fa fb fc:FE}{k k':D->D->Option D}{r:am}{x y w d:D}(h1:fa r=.ok x)(h2:fb r=.ok y)(h3:k x y=some (.bl true))(h4:fc r=.ok w)(h5:k' y w=some d):n5 fa fb fc k k' r=.ok d:=by unfold n5;rw[h1,bind_ok,h2,bind_ok,h3,opt_some,bind_ok];show(fc r).bind _=_;rw[h4,bind_ok,h5];rfl
theorem Pa{ft:FT}{q:FQ}{fe:FE}{r0:am}:fX ft q fe r0 []=.ok []:=by unfold fX;rfl
theorem Fo{ft:FT}{q:FQ}{fe:FE}{r0:am}{α:Type}(e:α->D)(keep:α->Bool)(g:α->D):∀(l:List α),(∀a∈l,∃r1,ft (e a) r0=some r1/\q r1=.ok (keep a)/\(keep a=true->fe r1=.ok (g a)))->fX ft q fe r0 (l.map e)=.ok ((l.filter keep).map g)
|[],_=>Pa
|a::l,h=>by
  obtain⟨r1,h1,h2,h3⟩:=h a e_;have ih:=Fo (ft:=ft) (q:=q) (fe:=fe) (r0:=r0) e keep g l fun b hb=>h b (h_ _ hb);rw[L_]
  conv=>lhs;unfold fX
  rw[h1,opt_some,bind_ok,h2,bind_ok];cases k:keep a with
 |true=>rw[if_pos rfl,h3 k,bind_ok,ih,bind_ok,Uy,if_pos k];rfl
 |false=>rw[if_neg g_,ih,Uy,if_neg (by rw[k];exact g_)]
theorem dD{nl:Nat}{cap:List Nat}{fi:FI}{ft:FT}{q:FQ}{fe:FE}{r:am}{α:Type}{l:List α}(e:α->D)(keep:α->Bool)(g:α->D)(h1:fi r=.ok (l.map e))(hl:l.length<=1000)(h:∀a∈l,∃r1,ft (e a) (bv nl cap r)=some r1/\q r1=.ok (keep a)/\(keep a=true->fe r1=.ok (g a))):bN nl cap fi ft q fe r=.ok (.lst ((l.filter keep).map g)):=by unfold bN;rw[h1,bind_ok,lQ (by simpa using hl),opt_some,bind_ok,Fo e keep g l h,noXL_ok,bind_ok]
theorem IZ(k:Nat):Bl (.int 0) (nD k)=some (.bl true):=by show some (D.bl (decide ((0:Int)<=(k:Int))))=_;rw[decide_eq_true (VE k)]
theorem mE(a b:Nat):iu (nD a) (nD b)=some (.bl (decide (a<b))):=by show some (D.bl (decide ((a:Int)<(b:Int))))=_;simp only[ZF]
theorem my(a b:Nat):jt (nD a) (nD b)=some (.bl (decide (b<a))):=by show some (D.bl (decide ((b:Int)<(a:Int))))=_;simp only[ZF]
theorem je(a b:Nat):eqD (nD a) (nD b)=some (.bl (decide (a=b))):=by
 unfold eqD;rw[eqB_int];show some (D.bl ((a:Int)==(b:Int)))=_;have:((a:Int)==(b:Int))=decide (a=b):=by rw[Ud,beq_iff_eq,decide_eq_true_iff];exact V4
 rw[this]
theorem bj{B:FS}{n:Nat}{ds:List D}{d:D}(h:B (aE n ds)=.rt d):av false (B (aE n ds))=.ok d:=by rw[h];rfl
abbrev kI(k:Nat):aG:=Sum.inl (k:Int)
theorem uP(kvs:List (Nat×D))(k:Nat):cU (kvs.map fun p=>(kI p.1,p.2)) (kI k)=decide (k∈kvs.map (·.1)):=by
 unfold cU;rw[Wy,Ud,Wh,decide_eq_true_iff,p_];constructor
 .rintro⟨p,h1,h2⟩
  refine⟨p,h1,?_⟩;simp only[Vt,decide_eq_true_eq]at h2;have:((p.1:Nat):Int)=(k:Int):=YF h2;exact Int.ofNat.inj this
 .rintro⟨p,h1,rfl⟩
  exact⟨p,h1,by simp⟩
theorem E3(kvs:List (Nat×D))(k:Nat)(d:D)(h:k∉kvs.map (·.1)):cL (kvs.map fun p=>(kI p.1,p.2)) (kI k) d=(kvs++[(k,d)]).map fun p=>(kI p.1,p.2):=by unfold cL;have e:((kvs.map fun p=>(kI p.1,p.2)).any fun kv=>decide (kv.1=kI k))=decide (k∈kvs.map (·.1)):=uP kvs k;rw[e,decide_eq_false h,if_neg g_,Q_];rfl
@[simp] theorem e_skip(r:am):au r=.nx r:=rfl
@[simp] theorem e_tupL(ds:List D):tupD [.lst ds]=some (.tup ds):=rfl
@[simp] theorem e_valsD(kvs:List (aG×D)):uB (.dic kvs)=some (.lst (kvs.map (·.2))):=rfl
theorem ig{ds:List D}{i:Nat}{d:D}(h:ds[i]? = some d):aX (.tup ds) (nD i)=some d:=by have hl:i<ds.length:=(k_.mp h).1;show fV ds (i:Int)=some d;unfold fV gl;rw[if_pos (VE i),if_pos (by omega)];simpa using h
theorem mC{ds:List D}{i:Nat}{d:D}(h:ds[i]? = some d):aX (.lst ds) (nD i)=some d:=by have hl:i<ds.length:=(k_.mp h).1;show fV ds (i:Int)=some d;unfold fV gl;rw[if_pos (VE i),if_pos (by omega)];simpa using h
@[simp] theorem ixA_L0(d:D)(ds:List D):aX (.lst (d::ds)) (.int 0)=some d:=mC (i:=0) rfl
@[simp] theorem ixA_T0(d:D)(ds:List D):aX (.tup (d::ds)) (.int 0)=some d:=ig (i:=0) rfl
theorem BM{kvs:List (aG×D)}{k:Nat}{d:D}(h:bH kvs (kI k)=some d):aX (.dic kvs) (nD k)=some d:=h
theorem pZ(l:List Nat)(k:Nat):(l.map nD).any (fun y=>eT y (nD k))=decide (k∈l):=by
 rw[Wy,Ud,Wh,decide_eq_true_iff];constructor
 .rintro⟨x,h1,h2⟩
  have:(((x:Nat):Int)==(k:Int))=true:=h2;have:=V4.mp (UT this);subst this;exact h1
 .intro h;exact⟨k,h,by show(((k:Nat):Int)==(k:Int))=true;simp⟩
theorem tJ(l:List Nat):(l.map nD).all cv=true:=by rw[Uj];intro x hx;obtain⟨k,_,rfl⟩:=p_.mp hx;rfl
theorem B1(l:List Nat)(k:Nat):dF (nD k) (LN l)=some (.bl (decide (k∈l))):=by show(if cv (nD k)=true/\(l.map nD).all cv=true then some ((l.map nD).any fun y=>eT y (nD k))else none).map D.bl=_;rw[if_pos ⟨rfl,tJ l⟩,pZ];rfl
theorem CQ(l:List Nat)(k:Nat):dZ (nD k) (LN l)=some (.bl (! decide (k∈l))):=by show(if cv (nD k)=true/\(l.map nD).all cv=true then some ((l.map nD).any fun y=>eT y (nD k))else none).map (fun b=>D.bl (! b))=_;rw[if_pos ⟨rfl,tJ l⟩,pZ];rfl
theorem Rs(k:Nat):rM [nD k]=.ok (.bl true):=rfl
theorem Hm(k b:Nat):lJ [nD k,nD b]=.ok (.bl (decide (k<b))):=by refine bj (B:=yW) (n:=2) ?_;unfold yW;refine aQ (aZ ?_);rw[mP (aT (ag (d:=nD k) rfl aj) (Rs k))];exact La rfl rfl (IZ k) rfl (mE k b)
theorem jm{α:Type}(f:α->D)(l:List α):lenD [.tup (l.map f)]=some (nD l.length):=by show some (D.int ((l.map f).length:Int))=_;rw[j_]
theorem fU{α:Type}(f:α->D)(l:List α):lenD [.lst (l.map f)]=some (nD l.length):=by show some (D.int ((l.map f).length:Int))=_;rw[j_]
theorem Eu{α:Type}(f:α->aG×D)(l:List α):lenD [.dic (l.map f)]=some (nD l.length):=by show some (D.int ((l.map f).length:Int))=_;rw[j_]
theorem m6(n:Nat):eqD (nD n) (nD n)=some (.bl true):=by have e:=je n n;rw[decide_eq_true rfl]at e;exact e
theorem C6(n:Nat):cD 0 n=(t_ n).map nD:=by unfold cD;refine U5 fun i _=>?_;show D.int (0+(i:Int))=D.int (i:Int);rw[Int.zero_add]
theorem NG(j:Int):ki [.int j]=if-(2^62)<=j/\j<2^62/\j.toNat<=sizeLine then some (.lst (cD 0 j.toNat))else none:=rfl
theorem qP{n:Nat}(h:n<=1000):ki [nD n]=some (LN (t_ n)):=by
 have hs:(n:Int).toNat<=sizeLine:=by rw[UY,N_];omega
 rw[NG,if_pos ⟨by omega,by omega,hs⟩,UY,C6]
theorem Nc(j:Int):eN [.int j]=if-(2^62)<=j/\j<2^62 then some (cD 0 j.toNat)else none:=rfl
theorem oi{n:Nat}(h:n<=1000):eN [nD n]=some ((t_ n).map nD):=by rw[Nc,if_pos ⟨by omega,by omega⟩,UY,C6]
theorem mV{fl:am->Res (List D)}{k:List D->Option (List D)}{r:am}{ds es:List D}(h1:fl r=.ok ds)(h2:k ds=some es):c7 k fl r=.ok es:=by unfold c7;rw[h1,bind_ok,h2];rfl
theorem GN{p:Nat->Bool}:∀(l:List Nat),l.find? p=(l.filter p).head?
|[]=>rfl
|a::l=>by rw[T_,Uy];cases h:p a with
 |true=>simp
 |false=>simpa using GN l
theorem tH(o:Option Nat)(x:Nat):eqD (oD o) (nD x)=some (.bl (decide (o=some x))):=by cases o with
|none=>unfold eqD oD;rw[eqB_non_int];simp
|some k=>show eqD (nD k) (nD x)=_;rw[je];simp
def own(owns:List (Option Nat))(h:Nat):Option Nat:=(owns[h]?).join
theorem Df{owns:List (Option Nat)}{h:Nat}(hh:h<owns.length):(owns.map oD)[h]? = some (oD (own owns h)):=by rw[D_,m_ hh];unfold own;rw[m_ hh];rfl
theorem Gv{row:List Nat}{rest:List (List Nat)}:jq [WD (row::rest)]=.ok (nD row.length):=by refine bj (B:=zJ) (n:=1) ?_;unfold zJ;exact aQ (aZ (bm (ag (ax (a:=WD (row::rest)) (b:=.int 0) rfl rfl (ixA_T0 _ _)) aj) (jm _ _)))
theorem NX{row things:List Nat}(h:∃x∈row,x∈things)(hl:row.length<=1000):ph [TN row,LN things]=.ok (nD (Rg.cG row things)):=by
 refine bj (B:=zD) (n:=2) ?_;unfold zD;have hc:(bN 1 [1] (aL bz (gv 0)) (ay 0) (aW (f2 (gv 0) (gv 1) dF)) (gv 0)) [some (TN row),some (LN things)]=.ok (LN (row.filter fun x=>decide (x∈things))):=by
  refine dD nD (fun x=>decide (x∈things)) nD (l:=row) rfl hl fun a _=>⟨[some (nD a),some (LN things)],rfl,?_,fun _=>rfl⟩
  exact bZ (ax (a:=nD a) (b:=LN things) rfl rfl (B1 _ _))
 have hb:∃t,(row.filter fun x=>decide (x∈things))=Rg.cG row things::t:=by unfold Rg.cG;rw[GN];cases e:row.filter fun x=>decide (x∈things)with
 |nil=>obtain⟨x,h1,h2⟩:=h;have:x∈row.filter fun x=>decide (x∈things):=B_.mpr ⟨h1,by simpa using h2⟩;rw[e]at this;cases this
 |cons a t=>exact⟨t,rfl⟩
 obtain⟨t,ht⟩:=hb;rw[ht]at hc;exact aQ (aZ (ax hc (b:=.int 0) rfl (ixA_L0 _ _)))
abbrev dI(pre:List Nat):D:=.dic ((pre.map fun k=>(k,D.bl true)).map fun p=>(kI p.1,p.2))
theorem Dy(b:Nat)(L:D):∀(B pre:List Nat)(x y:Option D),(pre++B).Nodup->(∀k∈B,k<b)->(pre++B).length<=1000 ->∃x' y',aD (dq (bD (ay 3) (bD (ay 4) c9))) AF (cg pre.length (B.map nD)) [some L,some (nD b),some (dI pre),x,y]=.nx [some L,some (nD b),some (dI (pre++B)),x',y']
|[],pre,x,y,_,_,_=>⟨x,y,by rw[UG];exact d8⟩
|k::B,pre,x,y,hn,hb,hl=>by
  have hk:k∉pre:=fun z=>(Vl.mp hn).2.2 k z k e_ rfl;obtain⟨x',y',ih⟩:=Dy b L B (pre++[k]) (some (nD pre.length)) (some (nD k)) (by simpa using hn) (fun j hj=>hb j (h_ _ hj)) (by simpa using hl);refine⟨x',y',?_⟩;rw[show(pre++[k]).length=pre.length+1 by simp]at ih;rw[show pre++k::B=(pre++[k])++B by simp,<-ih];show aD _ _ (.tup [.int ((pre.length:Nat):Int),nD k]::cg (pre.length+1) (B.map nD)) _=_;refine dJ (r1:=[some L,some (nD b),some (dI pre),some (nD pre.length),some (nD k)]) rfl ?_;have c2:dF (nD k) (dI pre)=some (.bl false):=by
   show(some (cU _ (kI k))).map D.bl=_;rw[uP,K_];have:decide (k∈pre.map ((fun p:Nat×D=>p.1)∘fun k=>(k,D.bl true)))=false:=by rw[decide_eq_false_iff_not];simpa[Vm]using hk
   rw[this];rfl
  have c3:dN (dI pre) (nD k) (.bl true)=some (dI (pre++[k])):=by show(if _ then some (D.dic (cL _ (kI k) (.bl true)))else none)=_;rw[if_pos (by rw[j_,j_,N_];simp at hl;omega),E3 _ _ _ (by rw[K_];simpa[Vm]using hk)];simp
  have c1:decide (k<b)=true:=decide_eq_true (hb k e_);unfold AF;have M:(gs (du (cn (aI (af (gv 4) (af (gv 1) ab)) [] lJ))) (aW (f2 (gv 4) (gv 2) dF))) [some L,some (nD b),some (dI pre),some (nD pre.length),some (nD k)]=.ok false:=by have h0:=Hm k b;rw[c1]at h0;rw[dY (lv (ip (b:=true) (aT (ag (d:=nD k) rfl (ag (d:=nD b) rfl aj)) h0) rfl))];exact bZ (ax (a:=nD k) (b:=dI pre) rfl rfl c2)
  refine(aq (mz M)).trans ?_;exact aq (jk (d:=dI pre) (k:=nD k) rfl rfl rfl c3)
theorem RY{l:List Nat}{b:Nat}(hn:l.Nodup)(hb:∀k∈l,k<b)(hl:l.length<=1000):sE [LN l,nD b]=.ok (nD l.length):=by obtain⟨x',y',h⟩:=Dy b (LN l) l [] none none hn hb hl;refine bj (B:=Ar) (n:=5) ?_;unfold Ar;refine(aq (r':=[some (LN l),some (nD b),some (dI []),none,none]) rfl).trans ?_;refine(aq ((dE (ds:=cg 0 (l.map nD)) rfl).trans h)).trans ?_;exact aQ (aZ (bm (ag (d:=LN l) rfl aj) (fU _ _)))
theorem Qo{l:List Nat}{n:Nat}(hn:l.Nodup)(hb:∀k∈l,k<n)(h8:l.length<=1000):rW [LN l,nD n]=.ok (.bl true):=by refine bj (B:=Ac) (n:=2) ?_;unfold Ac;exact aQ (aZ (ax (a:=nD l.length) (b:=nD l.length) (aT (ag (d:=LN l) rfl (ag (d:=nD n) rfl aj)) (RY hn hb h8)) (bm (ag (d:=LN l) rfl aj) (fU _ _)) (m6 _)))
theorem DK{l:List Nat}{n:Nat}(hn:l.Nodup)(hb:∀k∈l,k<n)(hl:l.length=n)(h8:n<=1000):nI [LN l,nD n]=.ok (.bl true):=by refine bj (B:=AI) (n:=2) ?_;unfold AI;subst hl;refine aQ (aZ ?_);rw[mP (ax (a:=nD l.length) (b:=nD l.length) (bm (ag (d:=LN l) rfl aj) (fU _ _)) rfl (m6 _))];exact aT (ag (d:=LN l) rfl (ag (d:=nD l.length) rfl aj)) (Qo hn hb h8)
theorem RW{rows:List (List Nat)}(h:rows.length<=1000):nu [WD rows,.non]=.ok (LN (t_ rows.length)):=by refine bj (B:=nj) (n:=2) ?_;unfold nj;refine aQ ((mz (b:=true) rfl).trans ?_);rw[if_pos rfl];exact aQ (aZ (bm (ds:=[nD rows.length]) (ag (bm (ag (d:=WD rows) rfl aj) (jm _ _)) aj) (qP h)))
theorem Po{rows:List (List Nat)}{l:List Nat}(hn:l.Nodup)(hb:∀k∈l,k<rows.length)(hl:l.length=rows.length)(h8:rows.length<=1000):nu [WD rows,LN l]=.ok (LN l):=by refine bj (B:=nj) (n:=2) ?_;unfold nj;refine(aq (r':=[some (WD rows),some (LN l)]) ((mz (b:=false) rfl).trans rfl)).trans ?_;refine(aq (r':=[some (WD rows),some (LN l)]) ((mz (b:=false) (lv (b:=true) (ip (aT (ag (d:=LN l) rfl (ag (bm (ag (d:=WD rows) rfl aj) (jm _ _)) aj)) (DK hn hb hl h8)) rfl))).trans rfl)).trans ?_;exact aQ (aZ (bm (ag (d:=LN l) rfl aj) rfl))
theorem Di(owns:List (Option Nat))(line:List Nat)(x:Nat):∀(l:List Nat)(y:Option D),(∀h∈l,h<owns.length) ->(match l.find? (fun h=>decide (own owns h=some x))with
  |some h=>aD (ay 3) pi (l.map nD) [some (OD owns),some (LN line),some (nD x),y]=.rt (nD h)
  |none=>∃y',aD (ay 3) pi (l.map nD) [some (OD owns),some (LN line),some (nD x),y]=.nx [some (OD owns),some (LN line),some (nD x),y'])
|[],y,_=>⟨y,d8⟩
|h::l,y,hl=>by have c:(aW (f2 (f2 (gv 0) (gv 3) aX) (gv 2) eqD)) [some (OD owns),some (LN line),some (nD x),some (nD h)]=.ok (decide (own owns h=some x)):=bZ (ax (ax (a:=OD owns) (b:=nD h) rfl rfl (ig (Df (hl h e_)))) (b:=nD x) rfl (tH _ _));rw[T_];cases e:decide (own owns h=some x)with
 |true=>rw[e]at c;refine uV (r1:=[some (OD owns),some (LN line),some (nD x),some (nD h)]) rfl ?_;exact aQ ((cM c).trans (aQ (aZ (d:=nD h) rfl)))
 |false=>rw[e]at c;have ih:=Di owns line x l (some (nD h)) fun k hk=>hl k (h_ _ hk);have st:aD (ay 3) pi ((h::l).map nD) [some (OD owns),some (LN line),some (nD x),y]=aD (ay 3) pi (l.map nD) [some (OD owns),some (LN line),some (nD x),some (nD h)]:=dJ (r1:=[some (OD owns),some (LN line),some (nD x),some (nD h)]) rfl ((aq (bG c)).trans rfl);rw[st];exact ih
theorem Pp{owns:List (Option Nat)}{line:List Nat}{x:Nat}(hl:∀h∈line,h<owns.length):rZ [OD owns,LN line,nD x]=.ok (oD (line.find? fun h=>decide (own owns h=some x))):=by refine bj (B:=Ag) (n:=4) ?_;unfold Ag;have h:=Di owns line x line none hl;cases e:line.find? fun h=>decide (own owns h=some x)with
|some k=>rw[e]at h;exact aQ ((dE (ds:=line.map nD) rfl).trans h)
|none=>rw[e]at h;obtain⟨y',h⟩:=h;exact(aq ((dE (ds:=line.map nD) rfl).trans h)).trans (aQ (aZ (d:=.non) rfl))
theorem IV(o:Option Nat):nL (oD o) .non=some (.bl (decide (o=none))):=by cases o <;> rfl
theorem Qm{owns:List (Option Nat)}{line:List Nat}{x:Nat}(hl:∀h∈line,h<owns.length)(hne:line≠[]):pv [OD owns,LN line,nD x]=.ok (nD ((line.find? fun h=>decide (own owns h=some x)).getD (line.headD 0))):=by refine bj (B:=AE) (n:=4) ?_;unfold AE;refine(aq (a9 (aT (ag (d:=OD owns) rfl (ag (d:=LN line) rfl (ag (d:=nD x) rfl aj))) (Pp hl)))).trans ?_;refine aQ (aZ ?_);have c:=bZ (ax (f:=gv 3) (f':=fun _=>Res.ok D.non) (r:=[some (OD owns),some (LN line),some (nD x),some (oD (line.find? fun h=>decide (own owns h=some x)))]) rfl rfl (IV (line.find? fun h=>decide (own owns h=some x))));cases e:line.find? fun h=>decide (own owns h=some x)with
|some k=>rw[e,decide_eq_false (by simp)]at c;exact(mv c).trans rfl
|none=>rw[e,decide_eq_true rfl]at c;refine(mw c).trans ?_;cases line with
 |nil=>exact absurd rfl hne
 |cons a l=>exact ax (a:=LN (a::l)) (b:=.int 0) rfl rfl (ixA_L0 _ _)
abbrev KD(kvs:List (Nat×Nat)):D:=.dic (kvs.map fun p=>(kI p.1,nD p.2))
abbrev FD(l:List Nat)(f:Nat->Nat):List (Nat×Nat):=l.map fun h=>(h,f h)
theorem uR{a b:Nat}(h:kI a=kI b):a=b:=V4.mp (YF h)
theorem yl:∀{kvs:List (Nat×Nat)}{h:Nat}{f:Nat->Nat},(∀p∈kvs,p.2=f p.1)->h∈kvs.map (·.1)->bH (kvs.map fun p=>(kI p.1,nD p.2)) (kI h)=some (nD (f h))
|[],_,_,_,hh=>by cases hh
|p::kvs,h,f,hf,hh=>by
  by_cases e:p.1=h
  .have:=hf p e_;subst e;simp[bH,T_,this]
  .have hne:¬ kI p.1=kI h:=fun z=>e (uR z);have B:h∈kvs.map (·.1):=by
    rcases n_.mp hh with z|z
    .exact absurd z.symm e
    .exact z
   have ih:=yl (f:=f) (fun q hq=>hf q (h_ _ hq)) B;have e1:bH ((p::kvs).map fun p=>(kI p.1,nD p.2)) (kI h)=bH (kvs.map fun p=>(kI p.1,nD p.2)) (kI h):=by simp only[bH,L_,T_];rw[decide_eq_false hne]
   rw[e1];exact ih
theorem vR(l:List Nat)(f:Nat->Nat):(FD l f).map (·.1)=l:=by simp[FD,Vm]
theorem n6{l:List Nat}{f:Nat->Nat}{h:Nat}(hh:h∈l):aX (KD (FD l f)) (nD h)=some (nD (f h)):=BM (yl (f:=f) (fun p hp=>by obtain⟨x,_,rfl⟩:=p_.mp hp;rfl) (by rw[vR];exact hh))
def putN(kvs:List (Nat×Nat))(k v:Nat):List (Nat×Nat):=if k∈kvs.map (·.1)then kvs.map fun p=>if p.1=k then(p.1,v)else p else kvs++[(k,v)]
theorem pU(kvs:List (Nat×Nat))(k:Nat):((kvs.map fun p=>(kI p.1,nD p.2)).any fun kv=>decide (kv.1=kI k))=decide (k∈kvs.map (·.1)):=by
 rw[Wy,Ud,Wh,decide_eq_true_iff,p_];constructor
 .rintro⟨p,h1,h2⟩
  simp only[Vt,decide_eq_true_eq]at h2;exact⟨p,h1,uR h2⟩
 .rintro⟨p,h1,rfl⟩
  exact⟨p,h1,by simp⟩
theorem C2(kvs:List (Nat×Nat))(k v:Nat):cL (kvs.map fun p=>(kI p.1,nD p.2)) (kI k) (nD v)=(putN kvs k v).map fun p=>(kI p.1,nD p.2):=by
 unfold cL putN;rw[pU];by_cases h:k∈kvs.map (·.1)
 .rw[decide_eq_true h,if_pos rfl,if_pos h,K_,K_];refine U5 fun p _=>?_;simp only[Vt];by_cases e:p.1=k
  .rw[if_pos (by rw[e]),if_pos e]
  .rw[if_neg (fun z=>e (uR z)),if_neg e]
 .rw[decide_eq_false h,if_neg g_,if_neg h,Q_];rfl
theorem Pl(kvs:List (Nat×Nat))(k v j:Nat):j∈(putN kvs k v).map (·.1)↔j∈kvs.map (·.1)\/j=k:=by
 unfold putN;by_cases h:k∈kvs.map (·.1)
 .rw[if_pos h,K_];have:((fun p:Nat×Nat=>p.1)∘fun p=>if p.1=k then(p.1,v)else p)=fun p=>p.1:=by funext p;simp only[Vt];split <;> rfl
  rw[this];constructor
  .exact .inl
  .rintro(z|rfl)
   .exact z
   .exact h
 .rw[if_neg h];simp
theorem OJ{kvs:List (Nat×Nat)}{k v:Nat}{f:Nat->Nat}(h:∀p∈kvs,p.2=f p.1)(hv:v=f k):∀p∈putN kvs k v,p.2=f p.1:=by
 intro p hp;unfold putN at hp;split at hp
 .obtain⟨q,h1,rfl⟩:=p_.mp hp;split
  .rename_i e;simp only;rw[e];exact hv
  .exact h q h1
 .rcases Ui.mp hp with z|z
  .exact h p z
  .rw[y_.mp z];exact hv
theorem vH{kvs:List (Nat×Nat)}{k v:Nat}(hl:kvs.length<=1000):dN (KD kvs) (nD k) (nD v)=some (KD (putN kvs k v)):=by show(if (kvs.map fun p=>(kI p.1,nD p.2)).length<sizeLine then some (D.dic (cL _ (kI k) (nD v)))else none)=_;rw[if_pos (by rw[j_,N_];omega),C2]
structure GI(t:Nat->Nat)(kvs:List (Nat×Nat))(L:List Nat):Prop where
 nd:(kvs.map (·.1)).Nodup
 val:∀p∈kvs,p.2=t p.1
 key:∀h,h∈kvs.map (·.1)↔h∈L
theorem Mf{kvs:List (Nat×Nat)}{k v:Nat}(h:(kvs.map (·.1)).Nodup):((putN kvs k v).map (·.1)).Nodup:=by
 unfold putN;split
 .rw[K_];have:((fun p:Nat×Nat=>p.1)∘fun p=>if p.1=k then(p.1,v)else p)=fun p=>p.1:=by funext p;simp only[Vt];split <;> rfl
  rw[this];exact h
 .rename_i hk;rw[Q_];refine Vl.mpr ⟨h,by simp,fun a ha b hb=>?_⟩;simp at hb
  rintro rfl
  exact hk (hb▸ha)
theorem GI.put{t:Nat->Nat}{kvs:List (Nat×Nat)}{L:List Nat}(g:GI t kvs L)(k:Nat):GI t (putN kvs k (t k)) (L++[k]):=⟨Mf g.nd,OJ g.val rfl,fun h=>by rw[Pl,g.key];simp⟩
theorem GI.len{t:Nat->Nat}{kvs:List (Nat×Nat)}{L line:List Nat}(g:GI t kvs L)(hs:∀h∈L,h∈line):kvs.length<=line.length:=by have:=Rg.lC (m:=line) g.nd fun h hh=>hs h ((g.key h).mp hh);simpa using this
theorem GI.congr{t t':Nat->Nat}{kvs:List (Nat×Nat)}{L:List Nat}(g:GI t kvs L)(h:∀x∈L,t' x=t x):GI t' kvs L:=⟨g.nd,fun p hp=>by rw[g.val p hp,h p.1 ((g.key _).mp (p_.mpr ⟨p,hp,rfl⟩))],g.key⟩
theorem GI.mem{t:Nat->Nat}{kvs:List (Nat×Nat)}{L M:List Nat}(g:GI t kvs L)(h:∀x,x∈L↔x∈M):GI t kvs M:=⟨g.nd,g.val,fun x=>(g.key x).trans (h x)⟩
theorem fj{α:Type}(l:List α):l.filter (fun _=>true)=l:=List.filter_eq_self.mpr fun _ _=>rfl
theorem GI.full{t:Nat->Nat}{kvs:List (Nat×Nat)}{L:List Nat}{n:Nat}(g:GI t kvs L)(h:∀x,x∈L↔x<n):kvs.length=n:=by have h1:=g.len (line:=t_ n) fun x hx=>A_.mpr ((h x).mp hx);have h2:=Rg.lC (l:=t_ n) (m:=kvs.map (·.1)) Vy fun x hx=>(g.key x).mpr ((h x).mpr (A_.mp hx));simp at h1 h2;omega
def Wr(rows:List (List Nat))(h:Nat):List Nat:=(rows[h]?).getD []
theorem vC{rows:List (List Nat)}{h:Nat}(hh:h<rows.length):(rows.map TN)[h]? = some (TN (Wr rows h)):=by rw[D_];unfold Wr;rw[m_ hh];rfl
theorem E4{kvs:List (Nat×Nat)}{k v:Nat}(h:k∉kvs.map (·.1)):putN kvs k v=kvs++[(k,v)]:=by unfold putN;rw[if_neg h]
theorem RU{a:Nat->Nat}{kvs:List (Nat×Nat)}{L:List Nat}{n:Nat}(g:GI a kvs L)(h:∀x,x∈L↔x<n)(h8:n<=60):rX [KD kvs]=.ok (TN ((t_ n).map a)):=by have hl:=g.full h;refine bj (B:=Ad) (n:=1) ?_;unfold Ad;refine aQ (aZ (bm (ag (dD (l:=t_ n) nD (fun _=>true) (fun h=>nD (a h)) (mV (ds:=[nD n]) (ag (bm (ag (d:=KD kvs) rfl aj) (by rw[Eu,hl])) aj) (oi (by omega))) (by simp;omega) fun x hx=>⟨[some (nD x),some (KD kvs)],rfl,rfl,fun _=>ax (a:=KD kvs) (b:=nD x) rfl rfl (BM (yl g.val ((g.key x).mpr ((h x).mpr (A_.mp hx)))))⟩) aj) ?_));rw[fj,e_tupL];show some (D.tup _)=some (D.tup _);rw[K_];rfl
abbrev d5(t:Nat->Nat)(h:Nat):D:=.tup [nD h,nD (t h)]
abbrev eF(t:Nat->Nat)(ring:List Nat):D:=.tup (ring.map (d5 t))
def jI(t:Nat->Nat):Option (List Nat)->D
|some ring=>eF t ring
|none=>.non
section
variable{t f:Nat->Nat}{line:List Nat}{first:Nat}(hcl:∀h∈line,f h∈line)(hn:line.length<=60)
include hcl hn
theorem M9:∀(j:Nat)(ring:List Nat)(hand:Nat),hand∈line->ring.length<=line.length->line.length<j+ring.length ->∃L B,eJ gb Ax Hr j [some (nD first),some (KD (FD line t)),some (KD (FD line f)),some (.lst (ring.map (d5 t))),some (nD hand)]=.nx [some (nD first),some (KD (FD line t)),some (KD (FD line f)),some (.lst (L.map (d5 t))),some (nD B)] /\∀k,line.length<k+ring.length->Rg.iG f line.length first k ring hand=if B=first then some L else none:=by
 intro j
 induction j with
|zero=>intro ring hand _ h1 h2;omega
|succ j ih=>
  intro ring hand hh h1 h2;have c1:(aW (f2 (gv 4) (gv 0) jt)) [some (nD first),some (KD (FD line t)),some (KD (FD line f)),some (.lst (ring.map (d5 t))),some (nD hand)]=.ok (decide (first<hand)):=bZ (ax (a:=nD hand) (b:=nD first) rfl rfl (my _ _));have c2:(aW (f2 (fC (af (gv 3) ab) lenD) (fC (af (gv 1) ab) lenD) iu)) [some (nD first),some (KD (FD line t)),some (KD (FD line f)),some (.lst (ring.map (d5 t))),some (nD hand)]=.ok (decide (ring.length<line.length)):=by refine bZ (ax (a:=nD ring.length) (b:=nD line.length) (bm (ag rfl aj) (fU _ _)) (bm (ag (d:=KD (FD line t)) rfl aj) ?_) (mE _ _));rw[Eu,j_]
  by_cases hc:first<hand/\ring.length<line.length
  .have cq:Ax [some (nD first),some (KD (FD line t)),some (KD (FD line f)),some (.lst (ring.map (d5 t))),some (nD hand)]=.ok true:=by rw[decide_eq_true hc.1]at c1;rw[decide_eq_true hc.2]at c2;exact(k0 c1).trans c2
   obtain⟨L,B,i1,i2⟩:=ih (ring++[hand]) (f hand) (hcl hand hh) (by simp;omega) (by simp;omega);refine⟨L,B,?_,fun k hk=>?_⟩
   .rw[qM cq (r':=[some (nD first),some (KD (FD line t)),some (KD (FD line f)),some (.lst ((ring++[hand]).map (d5 t))),some (nD (f hand))]) ?_]
    .exact i1
    .refine(aq (gN (d:=.lst (ring.map (d5 t))) (ds:=[d5 t hand]) rfl rfl (ag (fQ (ag (d:=nD hand) rfl (ag (ax (a:=KD (FD line t)) (b:=nD hand) rfl rfl (n6 hh)) aj)) (by simp)) aj) (jJ (by simp;omega)))).trans ?_;refine(aq (a9 (d:=nD (f hand)) (ax (a:=KD (FD line f)) (b:=nD hand) rfl rfl (n6 hh)))).trans ?_;show Out.nx [_,_,_,some (D.lst (ring.map (d5 t)++[d5 t hand])),_]=_;rw[Q_];rfl
   .cases k with
   |zero=>omega
   |succ k=>unfold Rg.iG;rw[if_pos hc];exact i2 k (by simp;omega)
  .refine⟨ring,hand,qL ?_,fun k hk=>?_⟩
   .by_cases hc1:first<hand
    .rw[decide_eq_true hc1]at c1;rw[decide_eq_false (fun z=>hc ⟨hc1,z⟩)]at c2;exact(k0 c1).trans c2
    .rw[decide_eq_false hc1]at c1;exact qf c1
   .cases k with
   |zero=>omega
   |succ k=>unfold Rg.iG;rw[if_neg hc]
theorem N5(hf:first∈line):sk [nD first,KD (FD line t),KD (FD line f)]=.ok (jI t (Rg.j6 f line.length first)):=by
 refine bj (B:=zG) (n:=5) ?_;unfold zG;have U:=UR hf;obtain⟨M,L,h1,h2⟩:=M9 (t:=t) (first:=first) hcl hn 64 [first] (f first) (hcl first hf) (by show 1<=_;omega) (by simp;omega);refine(aq (a9 (d:=.lst ([first].map (d5 t))) (gM (ag (fQ (ag (d:=nD first) rfl (ag (ax (a:=KD (FD line t)) (b:=nD first) rfl rfl (n6 hf)) aj)) (by simp)) aj) (by simp)))).trans ?_;refine(aq (a9 (d:=nD (f first)) (ax (a:=KD (FD line f)) (b:=nD first) rfl rfl (n6 hf)))).trans ?_;refine(aq h1).trans ?_;have hr:Rg.j6 f line.length first=if L=first then some M else none:=h2 _ (by simp;omega)
 rw[hr];have c:=bZ (ax (f:=gv 4) (f':=gv 0) (r:=[some (nD first),some (KD (FD line t)),some (KD (FD line f)),some (.lst (M.map (d5 t))),some (nD L)]) (a:=nD L) (b:=nD first) rfl rfl (je L first));by_cases e:L=first
 .rw[decide_eq_true e]at c;rw[if_pos e];exact aQ (aZ ((mw c).trans (bm (ag (d:=.lst (M.map (d5 t))) rfl aj) rfl)))
 .rw[decide_eq_false e]at c;rw[if_neg e];exact aQ (aZ ((mv c).trans rfl))
end
structure Snd(rows:List (List Nat))(owns:List (Option Nat))(s:Rg.S):Prop where
 ok:Rg.Ok (Wr rows) (own owns) s
 inr:∀h∈s.line,h<rows.length
 ino:∀h∈s.line,h<owns.length
 wid:∀h∈s.line,(Wr rows h).length<=1000
 nl:s.line.length<=60
 nt:s.things.length<=60
variable{rows:List (List Nat)}{owns:List (Option Nat)}
section
variable{s:Rg.S}
theorem Snd.tg(S:Snd rows owns s){h:Nat}(hh:h∈s.line):ph [TN (Wr rows h),LN s.things]=.ok (nD (Rg.cQ (Wr rows) s h)):=NX (S.ok.some_thing hh) (S.wid h hh)
theorem Snd.pts(S:Snd rows owns s){x h:Nat}(hh:h∈s.line):pv [OD owns,LN s.line,nD x]=.ok (nD (Rg.pt (own owns) s x)):=Qm S.ino (Ur hh)
abbrev tS(rows:List (List Nat))(s:Rg.S):Nat->Nat:=Rg.cQ (Wr rows) s
abbrev fS(rows:List (List Nat))(owns:List (Option Nat))(s:Rg.S):Nat->Nat:=Rg.bM (Wr rows) (own owns) s
theorem DI(S:Snd rows owns s):∀(B pre:List Nat)(y:Option D),pre++B=s.line ->
  ∃y',aD (ay 6) HR (B.map nD) [some (WD rows),some (OD owns),some (LN s.line),some (LN s.things),some (KD (FD pre (tS rows s))),some (KD (FD pre (fS rows owns s))),y,none]
   = .nx [some (WD rows),some (OD owns),some (LN s.line),some (LN s.things),some (KD (FD s.line (tS rows s))),some (KD (FD s.line (fS rows owns s))),y',none]
|[],pre,y,e=>⟨y,by rw[UG]at e;rw[e];exact d8⟩
|h::B,pre,y,e=>by
  obtain⟨y',ih⟩:=DI S B (pre++[h]) (some (nD h)) (by simpa using e);have hh:h∈s.line:=by rw[<-e];simp
  have hn:=S.ok.nl;rw[<-e]at hn;have hk:h∉pre:=fun z=>(Vl.mp hn).2.2 h z h e_ rfl;have hpl:pre.length<=1000:=by have:=S.nl;rw[<-e]at this;simp at this;omega
  refine⟨y',?_⟩;rw[<-ih];refine dJ (r1:=[some (WD rows),some (OD owns),some (LN s.line),some (LN s.things),some (KD (FD pre (tS rows s))),some (KD (FD pre (fS rows owns s))),some (nD h),none]) rfl ?_;have c1:dN (KD (FD pre (tS rows s))) (nD h) (nD (tS rows s h))=some (KD (FD (pre++[h]) (tS rows s))):=by rw[vH (by simpa using hpl),E4 (by rw[vR];exact hk)];unfold FD;rw[Q_];rfl
  have c2:dN (KD (FD pre (fS rows owns s))) (nD h) (nD (fS rows owns s h))=some (KD (FD (pre++[h]) (fS rows owns s))):=by rw[vH (by simpa using hpl),E4 (by rw[vR];exact hk)];unfold FD;rw[Q_];rfl
  refine(aq (jk (d:=KD (FD pre (tS rows s))) (k:=nD h) (v:=nD (tS rows s h)) rfl (aT (ag (ax (a:=WD rows) (b:=nD h) rfl rfl (ig (vC (S.inr h hh)))) (ag (d:=LN s.things) rfl aj)) (S.tg hh)) rfl c1)).trans ?_;refine(aq (jk (d:=KD (FD pre (fS rows owns s))) (k:=nD h) (v:=nD (fS rows owns s h)) rfl (aT (ag (d:=OD owns) rfl (ag (d:=LN s.line) rfl (ag (ax (a:=KD (FD (pre++[h]) (tS rows s))) (b:=nD h) rfl rfl (n6 (by simp))) aj))) (S.pts hh)) rfl c2)).trans ?_;rfl
theorem vT{α:Type}(t:Nat->Nat)(f:α->Option (List Nat)):∀(l:List α),(((l.map f).filter Zm).map (jI t))=(l.filterMap f).map (eF t)
|[]=>rfl
|a::l=>by rw[L_,Uy,V0];cases e:f a with
 |none=>simpa using vT t f l
 |some r=>simpa[jI]using vT t f l
theorem QN(t:Nat->Nat)(h:Nat):kt (d5 t h)=some [(h:Int),(t h:Int)]:=rfl
theorem EZ(t:Nat->Nat):∀(ring:List Nat),jd (ring.map (d5 t))=some (ring.map fun h:Nat=>[(h:Int),(t h:Int)])
|[]=>rfl
|h::ring=>by show(kt (d5 t h)).bind _=_;rw[QN,EZ t ring];rfl
theorem FH(t:Nat->Nat):∀(rs:List (List Nat)),(∀r∈rs,r≠[])->∃kss,ky (rs.map (eF t))=some kss
|[],_=>⟨[],rfl⟩
|r::rs,h=>by obtain⟨kss,e⟩:=FH t rs fun x hx=>h x (h_ _ hx);have hr:=h r e_;cases r with
 |nil=>exact absurd rfl hr
 |cons a r=>refine⟨((a::r).map fun h:Nat=>[(h:Int),(t h:Int)])::kss,?_⟩;show(jd ((a::r).map (d5 t))).bind _=_;rw[EZ,e];rfl
theorem Qu(t:Nat->Nat)(rs:List (List Nat))(h:∀r∈rs,r≠[])(hl:rs.length<64):∃B:List (List Nat),B.Perm rs/\qh [.lst (rs.map (eF t))]=some (.lst (B.map (eF t))):=by
 obtain⟨kss,e⟩:=FH t rs h;refine⟨(jc (rs.map (eF t)).length fun i j=>d4 (kss.getD i []) (kss.getD j [])).map fun i=>rs.getD i [],?_,?_⟩
 .have:=(yU (rs.map (eF t)).length fun i j=>d4 (kss.getD i []) (kss.getD j [])).map fun i=>rs.getD i [];refine this.trans ?_;rw[j_];have e2:(t_ rs.length).map (fun i=>rs.getD i [])=rs:=by
   refine WW fun i=>?_;rw[D_];by_cases hi:i<rs.length
   .rw[U4 hi];simp[m_ hi]
   .rw[UC (by simp;omega),UC (by omega)];rfl
  rw[e2]
 .show(ky (rs.map (eF t))).bind _=_;rw[e];show(if _ then _ else _)=_;rw[if_pos (by rw[j_];exact hl)];unfold kb;rw[K_];congr 2;refine U5 fun i hi=>?_;have hi:=xV hi;rw[j_]at hi;simp[List.getD,m_ hi]
theorem Pm{W:Nat->List Nat}{O:Nat->Option Nat}:∀r∈Rg.gA W O s,r≠[]:=by intro r hr;obtain⟨x,_,h2⟩:=UI.mp hr;exact Rg.DG h2
theorem Nz(t:Nat->Nat)(o:Option (List Nat)):i7 (jI t o) .non=some (.bl o.isSome):=by cases o <;> rfl
theorem Pr(S:Snd rows owns s):∃rs:List (List Nat),rs.Perm (Rg.gA (Wr rows) (own owns) s)/\sO [WD rows,OD owns,LN s.line,LN s.things]=.ok (.lst (rs.map (eF (tS rows s)))):=by
 obtain⟨y',L⟩:=DI S s.line [] none rfl;have hcl:∀h∈s.line,fS rows owns s h∈s.line:=fun h hh=>Rg.ll (Ur hh);have hlen:(Rg.gA (Wr rows) (own owns) s).length<=s.line.length:=List.length_filterMap_le _ _;obtain⟨M,hp,hs⟩:=Qu (tS rows s) (Rg.gA (Wr rows) (own owns) s) Pm (by have:=S.nl;omega);refine⟨M,hp,bj (B:=AC) (n:=8) ?_⟩;unfold AC;refine(aq (r':=[some (WD rows),some (OD owns),some (LN s.line),some (LN s.things),some (KD (FD [] (tS rows s))),none,none,none]) rfl).trans ?_;refine(aq (r':=[some (WD rows),some (OD owns),some (LN s.line),some (LN s.things),some (KD (FD [] (tS rows s))),some (KD (FD [] (fS rows owns s))),none,none]) rfl).trans ?_;refine(aq ((dE (ds:=s.line.map nD) rfl).trans L)).trans ?_;refine(aq (a9 (dD (l:=s.line) nD (fun _=>true) (fun h=>jI (tS rows s) (Rg.j6 (fS rows owns s) s.line.length h)) rfl (by have:=S.nl;omega) fun h hh=>⟨[some (nD h),some (KD (FD s.line (tS rows s))),some (KD (FD s.line (fS rows owns s)))],rfl,rfl,fun _=>aT (ag (d:=nD h) rfl (ag (d:=KD (FD s.line (tS rows s))) rfl (ag (d:=KD (FD s.line (fS rows owns s))) rfl aj))) (N5 hcl S.nl hh)⟩))).trans ?_;rw[fj];refine aQ (aZ (bm (ag (dD (l:=s.line.map (Rg.j6 (fS rows owns s) s.line.length)) (jI (tS rows s)) Zm (jI (tS rows s)) ?_ (by have:=S.nl;simp;omega) fun o _=>⟨[some (jI (tS rows s) o)],rfl,bZ (ax (a:=jI (tS rows s) o) (b:=.non) rfl rfl (Nz _ _)),fun _=>rfl⟩) aj) ?_))
 .rw[K_];rfl
 .rw[vT];exact hs
theorem BZ{t:Nat->Nat}{line:List Nat}(hl:line.length<=60)(rg d:D):∀(ring L:List Nat)(kvs:List (Nat×Nat))(x y:Option D),GI t kvs L->(∀h∈L++ring,h∈line) ->∃B x' y',GI t B (L++ring)/\aD (dq (bD (ay 3) (bD (ay 4) c9))) FX (ring.map (d5 t)) [some rg,some (KD kvs),some d,x,y]=.nx [some rg,some (KD B),some d,x',y']
|[],L,kvs,x,y,g,hs=>⟨kvs,x,y,by rw[UG];exact g,d8⟩
|h::ring,L,kvs,x,y,g,hs=>by obtain⟨B,x',y',g',ih⟩:=BZ hl rg d ring (L++[h]) (putN kvs h (t h)) (some (nD h)) (some (nD (t h))) (g.put h) (by simpa using hs);refine⟨B,x',y',by simpa using g',?_⟩;rw[<-ih];have hk:=g.len (line:=line) fun x hx=>hs x (Vi _ hx);exact dJ (r1:=[some rg,some (KD kvs),some d,some (nD h),some (nD (t h))]) rfl (aq (jk (d:=KD kvs) (k:=nD h) (v:=nD (t h)) rfl rfl rfl (vH (by omega))))
theorem CK{t:Nat->Nat}{line:List Nat}(hl:line.length<=60)(rg:D):∀(rs:List (List Nat))(L:List Nat)(kvs:List (Nat×Nat))(z x y:Option D),GI t kvs L->(∀h∈L++rs.flatten,h∈line) ->∃B z' x' y',GI t B (L++rs.flatten)/\aD (ay 2) FY (rs.map (eF t)) [some rg,some (KD kvs),z,x,y]=.nx [some rg,some (KD B),z',x',y']
|[],L,kvs,z,x,y,g,hs=>⟨kvs,z,x,y,by simpa using g,d8⟩
|r::rs,L,kvs,z,x,y,g,hs=>by
  obtain⟨M,x1,y1,g1,h1⟩:=BZ hl rg (eF t r) r L kvs x y g fun h hh=>hs h (by
   rw[UB];rcases Ui.mp hh with q|q
   .exact Vi _ q
   .exact Uh _ (Vi _ q))
  obtain⟨B,z',x',y',g',ih⟩:=CK hl rg rs (L++r) M (some (eF t r)) x1 y1 g1 (by rw[UP];simpa using hs);refine⟨B,z',x',y',by rw[UP]at g';simpa using g',?_⟩;rw[<-ih];exact dJ (r1:=[some rg,some (KD kvs),some (eF t r),x,y]) rfl (aq ((dE (ds:=r.map (d5 t)) rfl).trans h1))
theorem DJ{t:Nat->Nat}{line:List Nat}{rs:List (List Nat)}(hl:line.length<=60)(hs:∀h∈rs.flatten,h∈line):∃kvs,GI t kvs rs.flatten/\m5 [.lst (rs.map (eF t))]=.ok (KD kvs):=by obtain⟨L,z',x',y',g',h⟩:=CK hl (.lst (rs.map (eF t))) rs [] [] none none none ⟨by simp,fun _ hp=>(nomatch hp),fun h=>by simp⟩ (by simpa using hs);refine⟨L,by simpa using g',bj (B:=wQ) (n:=5) ?_⟩;unfold wQ;refine(aq (r':=[some (.lst (rs.map (eF t))),some (KD []),none,none,none]) rfl).trans ?_;refine(aq ((dE (ds:=rs.map (eF t)) rfl).trans h)).trans ?_;exact aQ (aZ (d:=KD L) rfl)
end
inductive Ch(rows:List (List Nat))(owns:List (Option Nat)):Rg.S->List (List (List Nat)×Rg.S)->Prop where
 |nil {s:Rg.S}:s.line=[]->Ch rows owns s []
 |cons {s:Rg.S} {rs:List (List Nat)} {l:List (List (List Nat)×Rg.S)}:rs.Perm (Rg.gA (Wr rows) (own owns) s)->Ch rows owns (Rg.minus (Wr rows) s rs.flatten) l->Ch rows owns s ((rs,s)::l)
abbrev h9(rows:List (List Nat))(p:List (List Nat)×Rg.S):D:=.lst (p.1.map (eF (tS rows p.2)))
theorem E2{s:Rg.S}{rs:List (List Nat)}(hp:rs.Perm (Rg.gA (Wr rows) (own owns) s)):Rg.Cyc (Wr rows) (own owns) s rs.flatten:=Rg.DH (fun h hh=>by obtain⟨r,h1,h2⟩:=Vx.mp hh;exact⟨r,hp.mem_iff.mp h1,h2⟩) (fun r hr h hh=>Vx.mpr ⟨r,hp.mem_iff.mpr hr,hh⟩)
theorem Snd.minus{s:Rg.S}(S:Snd rows owns s){C:List Nat}(c:Rg.Cyc (Wr rows) (own owns) s C):Snd rows owns (Rg.minus (Wr rows) s C) where
 ok:=Rg.ot S.ok c
 inr:=fun h hh=>S.inr h (B_.mp hh).1
 ino:=fun h hh=>S.ino h (B_.mp hh).1
 wid:=fun h hh=>S.wid h (B_.mp hh).1
 nl:=Ue (Xu _ _) S.nl
 nt:=Ue (Xu _ _) S.nt
theorem Ey{s:Rg.S}{C:List Nat}(c:Rg.Cyc (Wr rows) (own owns) s C)(hne:C≠[]):(Rg.minus (Wr rows) s C).line.length<s.line.length:=by obtain⟨x,hx⟩:=Vg _ hne;have:=Rg.rK (fun h=>decide (h∉C)) s.line;have h3:0<(s.line.filter fun h=>! decide (h∉C)).length:=UR (B_.mpr ⟨c.sub x hx,by simpa using hx⟩);show(s.line.filter _).length<_;omega
theorem Rp{s:Rg.S}{rs:List (List Nat)}(hp:rs.Perm (Rg.gA (Wr rows) (own owns) s))(hne:s.line≠[]):rs.flatten≠[]:=by obtain⟨x,hx⟩:=Vg _ (Rg.Dg (W:=Wr rows) (O:=own owns) hne);obtain⟨r,h1,h2⟩:=Vx.mp hx;exact Ur (Vx.mpr ⟨r,hp.mem_iff.mpr h1,h2⟩)
theorem Je{kvs:List (Nat×Nat)}{L:List Nat}{t:Nat->Nat}(g:GI t kvs L)(h:Nat):dZ (nD h) (KD kvs)=some (.bl (decide (h∉L))):=by
 show(some (cU _ (kI h))).map (fun b=>D.bl (! b))=_;have e:cU (kvs.map fun p=>(kI p.1,nD p.2)) (kI h)=decide (h∈kvs.map (·.1)):=pU kvs h;rw[e];have:decide (h∈kvs.map (·.1))=decide (h∈L):=by rw[decide_eq_decide];exact g.key h
 rw[this];show some (D.bl (! decide (h∈L)))=_;rw[decide_not]
theorem GI.vals{kvs:List (Nat×Nat)}{L:List Nat}{t:Nat->Nat}(g:GI t kvs L)(x:Nat):x∈kvs.map (·.2)↔x∈L.map t:=by
 constructor
 .intro hx;obtain⟨p,h1,rfl⟩:=p_.mp hx;exact p_.mpr ⟨p.1,(g.key _).mp (p_.mpr ⟨p,h1,rfl⟩),(g.val p h1).symm⟩
 .intro hx;obtain⟨h,h1,rfl⟩:=p_.mp hx;obtain⟨p,h2,rfl⟩:=p_.mp ((g.key h).mpr h1);exact p_.mpr ⟨p,h2,g.val p h2⟩
theorem Jf{kvs:List (Nat×Nat)}{L:List Nat}{t:Nat->Nat}(g:GI t kvs L)(x:Nat):dZ (nD x) (LN (kvs.map (·.2)))=some (.bl (decide (x∉L.map t))):=by rw[CQ,decide_not];congr 3;rw[decide_eq_decide];exact g.vals x
theorem M7(od:D):∀(j:Nat)(s:Rg.S)(told:List D)(x y z:Option D),Snd rows owns s->s.line.length<j->told.length+s.line.length<=60 ->
  ∃(s':Rg.S)(l:List (List (List Nat)×Rg.S))(x' y' z':Option D),Ch rows owns s l/\l.length<=s.line.length /\
   eJ gV Gb FZ j [some (WD rows),some (OD owns),some od,some (LN s.line),some (LN s.things),some (.lst told),x,y,z]
    = .nx [some (WD rows),some (OD owns),some od,some (LN s'.line),some (LN s'.things),some (.lst (told++l.map (h9 rows))),x',y',z']:=by
 intro j
 induction j with
|zero=>intro s told x y z _ h;omega
|succ j ih=>
  intro s told x y z S hj ht;by_cases hne:s.line=[]
  .refine⟨s,[],x,y,z,.nil hne,Uf _,?_⟩;rw[UV,UG];refine qL (ip (d:=LN s.line) rfl ?_);rw[hne];rfl
  .obtain⟨rs,hp,hr⟩:=Pr S;have c:=E2 hp;obtain⟨kvs,g,hg⟩:=DJ (t:=tS rows s) S.nl c.sub;have hlt:=Ey c (Rp hp hne);obtain⟨s',l,x',y',z',h1,h2,h3⟩:=ih (Rg.minus (Wr rows) s rs.flatten) (told++[h9 rows (rs,s)]) (some (h9 rows (rs,s))) (some (KD kvs)) (some (LN (kvs.map (·.2)))) (S.minus c) (by omega) (by simp;omega);refine⟨s',(rs,s)::l,x',y',z',.cons hp h1,by simp;omega,?_⟩;rw[UP]at h3;rw[L_];refine XB (qM (ip (b:=true) (d:=LN s.line) rfl ?_) ?_) h3
   .cases q:s.line with
   |nil=>exact absurd q hne
   |cons a t=>rfl
   .refine(aq (a9 (aT (ag (d:=WD rows) rfl (ag (d:=OD owns) rfl (ag (d:=LN s.line) rfl (ag (d:=LN s.things) rfl aj)))) hr))).trans ?_;refine(aq (a9 (aT (ag (d:=.lst (rs.map (eF (tS rows s)))) rfl aj) hg))).trans ?_;refine(aq (a9 (d:=LN (kvs.map (·.2))) (dC (a:=KD kvs) rfl ?_))).trans ?_
    .rw[e_valsD,K_];show some (D.lst _)=some (D.lst ((kvs.map (·.2)).map nD));rw[K_];rfl
    refine(aq (a9 (dD (l:=s.line) nD (fun h=>decide (h∉rs.flatten)) nD rfl (by have:=S.nl;omega) fun h hh=>⟨[some (nD h),some (KD kvs)],rfl,bZ (ax (a:=nD h) (b:=KD kvs) rfl rfl (Je g h)),fun _=>rfl⟩))).trans ?_;refine(aq (a9 (dD (l:=s.things) nD (fun x=>decide (x∉rs.flatten.map (tS rows s))) nD rfl (by have:=S.nt;omega) fun h hh=>⟨[some (nD h),some (LN (kvs.map (·.2)))],rfl,bZ (ax (a:=nD h) (b:=LN (kvs.map (·.2))) rfl rfl (Jf g h)),fun _=>rfl⟩))).trans ?_;refine(aq (gN (d:=.lst told) (ds:=[h9 rows (rs,s)]) rfl rfl (ag (d:=h9 rows (rs,s)) rfl aj) (jJ (by omega)))).trans ?_;rfl
def cT:Option (List Nat)->D
|none=>.non
|some l=>LN l
def s0(rows:List (List Nat))(o:Option (List Nat)):Rg.S:=⟨o.getD (t_ rows.length),t_ (rows.headD []).length⟩
theorem QH{o:Option (List Nat)}(ho:∀l,o=some l->l.Nodup/\(∀k∈l,k<rows.length)/\l.length=rows.length)(h8:rows.length<=60):nu [WD rows,cT o]=.ok (LN (s0 rows o).line):=by cases o with
|none=>exact RW (by omega)
|some l=>obtain⟨h1,h2,h3⟩:=ho l rfl;exact Po h1 h2 h3 (by omega)
theorem Qn{o:Option (List Nat)}(ho:∀l,o=some l->l.Nodup/\(∀k∈l,k<rows.length)/\l.length=rows.length)(hr:rows≠[])(h8:rows.length<=60)(S:Snd rows owns (s0 rows o)):∃l,Ch rows owns (s0 rows o) l/\l.length<=60/\qX [WD rows,OD owns,cT o]=.ok (.lst (l.map (h9 rows))):=by obtain⟨s',l,x',y',z',h1,h2,h3⟩:=M7 (rows:=rows) (owns:=owns) (cT o) 64 (s0 rows o) [] none none none S (by have:=S.nl;omega) (by have:=S.nl;simp;omega);refine⟨l,h1,by have:=S.nl;omega,bj (B:=qW) (n:=9) ?_⟩;unfold qW;cases rows with
|nil=>exact absurd rfl hr
|cons row rest=>refine(aq (a9 (aT (ag (d:=WD (row::rest)) rfl (ag (d:=cT o) rfl aj)) (QH ho h8)))).trans ?_;refine(aq (a9 (d:=LN (s0 (row::rest) o).things) (bm (ag (aT (ag (d:=WD (row::rest)) rfl aj) Gv) aj) (qP (by have:=S.nt;unfold s0 at this;simp at this;omega))))).trans ?_;refine(aq (a9 (d:=.lst []) (gM aj (by simp)))).trans ?_;refine(aq h3).trans ?_;exact aQ (aZ (d:=.lst (l.map (h9 (row::rest)))) rfl)
theorem D7:∀(more kvs:List (Nat×Nat)),n9 (kvs.map fun p=>(kI p.1,nD p.2)) (more.map fun p=>(kI p.1,nD p.2))=(more.foldl (fun acc p=>putN acc p.1 p.2) kvs).map fun p=>(kI p.1,nD p.2)
|[],kvs=>rfl
|p::more,kvs=>by have ih:=D7 more (putN kvs p.1 p.2);rw[V5,<-ih,<-C2];rfl
theorem Ex{t:Nat->Nat}:∀(more kvs:List (Nat×Nat))(L:List Nat),GI t kvs L->(∀p∈more,p.2=t p.1)->GI t (more.foldl (fun acc p=>putN acc p.1 p.2) kvs) (L++more.map (·.1))
|[],kvs,L,g,_=>by simpa using g
|p::more,kvs,L,g,h=>by have:=Ex more (putN kvs p.1 p.2) (L++[p.1]) (by rw[h p e_];exact g.put p.1) fun q hq=>h q (h_ _ hq);rw[UP]at this;exact this
theorem Dz{a:Nat->Nat}{line:List Nat}(hl:line.length<=60)(od:D):∀(l:List (List (List Nat)×Rg.S))(L:List Nat)(kvs:List (Nat×Nat))(z:Option D),GI a kvs L->(∀h∈L,h∈line) ->(∀p∈l,∀h∈p.1.flatten,a h=tS rows p.2 h/\h∈line) ->∃B z',GI a B (L++l.flatMap fun p=>p.1.flatten)/\aD (ay 4) G9 (l.map (h9 rows)) [some (WD rows),some (OD owns),some od,some (KD kvs),z]=.nx [some (WD rows),some (OD owns),some od,some (KD B),z']
|[],L,kvs,z,g,_,_=>⟨kvs,z,by simpa using g,d8⟩
|p::l,L,kvs,z,g,hL,hp=>by
  have h0:=hp p e_;obtain⟨more,g1,hg⟩:=DJ (t:=tS rows p.2) (rs:=p.1) hl fun h hh=>(h0 h hh).2;have g2:=g1.congr (t':=a) fun x hx=>(h0 x hx).1;have g3:=(Ex more kvs L g g2.val).mem (M:=L++p.1.flatten) fun x=>by rw[Ui,Ui,g2.key]
  obtain⟨B,z',g',ih⟩:=Dz hl od l (L++p.1.flatten) _ (some (h9 rows p)) g3 (fun h hh=>by
   rcases Ui.mp hh with q|q
   .exact hL h q
   .exact(h0 h q).2) fun q hq=>hp q (h_ _ hq)
  refine⟨B,z',by rw[UP]at g';simpa using g',?_⟩;rw[<-ih];refine dJ (r1:=[some (WD rows),some (OD owns),some od,some (KD kvs),some (h9 rows p)]) rfl (aq (gN (d:=KD kvs) (ds:=[KD more]) rfl rfl (ag (aT (ag (d:=h9 rows p) rfl aj) hg) aj) ?_));have l1:=g.len hL;have l2:=g1.len (line:=line) fun h hh=>(h0 h hh).2;show(if _ then some (D.dic (n9 _ _))else none)=_;rw[if_pos (by rw[j_,j_,N_];omega),D7]
theorem K9{a:Nat->Nat}{s:Rg.S}{l:List (List (List Nat)×Rg.S)}(c:Ch rows owns s l):Rg.Ok (Wr rows) (own owns) s->Rg.TTC (Wr rows) (own owns) a s->(∀p∈l,∀h∈p.1.flatten,a h=tS rows p.2 h/\h∈s.line)/\∀h∈s.line,∃p∈l,h∈p.1.flatten:=by induction c with
|nil h0=>exact fun _ _=>⟨fun _ hp=>(nomatch hp),fun h hh=>by rw[h0]at hh;cases hh⟩
|@cons s rs l hp c ih=>
  intro k t;have cy:=E2 hp;obtain⟨t1,t2⟩:=Rg.BD t k cy;obtain⟨i1,i2⟩:=ih (Rg.ot k cy) t1;refine⟨fun p B h hh=>?_,fun h hh=>?_⟩
  .rcases n_.mp B with rfl|q
   .exact⟨t2 h hh,cy.sub h hh⟩
   .exact⟨(i1 p q h hh).1,(B_.mp (i1 p q h hh).2).1⟩
  .by_cases hc:h∈rs.flatten
   .exact⟨(rs,s),e_,hc⟩
   .obtain⟨p,h1,h2⟩:=i2 h (B_.mpr ⟨hh,by simpa using hc⟩);exact⟨p,h_ _ h1,h2⟩
theorem Rr{o:Option (List Nat)}{a:Nat->Nat}(ho:∀l,o=some l->l.Nodup/\(∀k∈l,k<rows.length)/\l.length=rows.length)(hr:rows≠[])(h8:rows.length<=60)(S:Snd rows owns (s0 rows o))(hall:∀h,h<rows.length->h∈(s0 rows o).line)(t:Rg.TTC (Wr rows) (own owns) a (s0 rows o)):nr [WD rows,OD owns,cT o]=.ok (TN ((t_ rows.length).map a)):=by
 obtain⟨l,hc,hl,U⟩:=Qn ho hr h8 S;obtain⟨c1,c2⟩:=K9 hc S.ok t;obtain⟨M,z',g,L⟩:=Dz (rows:=rows) (owns:=owns) (a:=a) S.nl (cT o) l [] [] none ⟨by simp,fun _ hp=>(nomatch hp),fun h=>by simp⟩ (fun _ hh=>(nomatch hh)) c1;refine bj (B:=rL) (n:=5) ?_;unfold rL;refine(aq (r':=[some (WD rows),some (OD owns),some (cT o),some (KD []),none]) rfl).trans ?_;refine(aq ((dE (ds:=l.map (h9 rows)) (eG (aT (ag (d:=WD rows) rfl (ag (d:=OD owns) rfl (ag (d:=cT o) rfl aj))) U) rfl)).trans L)).trans ?_;refine aQ (aZ (aT (ag (d:=KD M) rfl aj) (RU g (n:=rows.length) (fun x=>?_) h8)));rw[Xp,List.mem_flatMap];constructor
 .rintro⟨p,h1,h2⟩
  exact S.inr x (c1 p h1 x h2).2
 .intro hx;obtain⟨p,h1,h2⟩:=c2 x (hall x hx);exact⟨p,h1,h2⟩
theorem jH{a b:Nat}(h:0<b):aV (nD a) (nD b)=some (nD (a%b)):=by rw[D8 (by omega:(0:Int)<(b:Int))];show some (D.int _)=some (D.int _);rw[Int.natCast_emod]
theorem lA{a b:Nat}(h:0<b)(h2:b<1000):fN (nD a) (nD b)=some (nD (a/b)):=by rw[En (⟨by omega,by omega⟩:hZ (a:Int) (b:Int))];show some (D.int _)=some (D.int _);rw[YC]
theorem lz(a b:Nat):addA (nD a) (nD b)=some (nD (a+b)):=by rw[addA_int];show some (D.int _)=some (D.int _);rw[YV]
section
variable{f f':FE}{r:am}
theorem ie{b:Int}(h:∃i:Int,f r=.ok (.int i))(h':f' r=.ok (.int b))(hb:0<b):∃c:Nat,f2 f f' aV r=.ok (nD c):=by obtain⟨i,hi⟩:=h;refine⟨(i%b).toNat,ax hi h' ?_⟩;rw[D8 hb];show some (D.int _)=some (D.int _);rw[XH (Int.emod_nonneg _ (by omega))]
theorem tf(h:∃c:Nat,f r=.ok (nD c)):∃i:Int,f r=.ok (.int i):=let⟨c,e⟩:=h;⟨c,e⟩
theorem iL{b:Int}(h:∃i:Int,f r=.ok (.int i))(h':f' r=.ok (.int b))(hb : -(2^64)<b/\b<2^64):∃i:Int,f2 f f' bi r=.ok (.int i):=by obtain⟨i,hi⟩:=h;exact⟨i*b,ax hi h' (D9 (.inr hb))⟩
theorem mr(h:∃i:Int,f r=.ok (.int i))(h':∃i:Int,f' r=.ok (.int i)):∃i:Int,f2 f f' addA r=.ok (.int i):=by obtain⟨i,hi⟩:=h;obtain⟨j,hj⟩:=h';exact⟨i+j,ax hi hj rfl⟩
end
theorem BV{m:List Md}{i:Nat}{f:FE}{s2:FS}{r:am}(h:∃c:Nat,f r=.ok (nD c))(k:∀c:Nat,∃d:Nat,s2 (r.set i (some (nD c)))=.rt (nD d)):∃d:Nat,seqF (ao m i f) s2 r=.rt (nD d):=by obtain⟨c,hc⟩:=h;obtain⟨d,hd⟩:=k c;exact⟨d,(aq (a9 hc)).trans hd⟩
abbrev IN(ns:List Int):D:=.lst (ns.map .int)
theorem NY(ns:List Int)(k:Nat)(hk:k<=1000):∃c:Nat,sg [IN ns,nD k]=.ok (nD c):=by
 suffices h:∃c:Nat,sy (aE 4 [IN ns,nD k])=.rt (nD c)by obtain⟨c,hc⟩:=h;exact⟨c,bj (B:=sy) (n:=4) hc⟩
 unfold sy;have st:seqF (ao cR 2 (ci 0))=seqF (ao cR 2 (fun _=>Res.ok (nD 0))):=rfl;rw[st];refine BV ⟨0,rfl⟩ fun c1=>?_;show ∃d:Nat,seqF _ _ [some (IN ns),some (nD k),some (nD c1),none]=_;have key:∃c2:Nat,(cF cR (aW (f2 (gv 1) (fC (af (gv 0) ab) lenD) iu)) (seqF (ao cR 2 (f2 (f2 (gv 0) (gv 1) aX) (f2 (ci 10) (ci 60) fB) aV)) au) au) [some (IN ns),some (nD k),some (nD c1),none]=.nx [some (IN ns),some (nD k),some (nD c2),none]:=by
  have t:=bZ (ax (f:=gv 1) (r:=[some (IN ns),some (nD k),some (nD c1),none]) (a:=nD k) rfl (bm (ag (f:=gv 0) (d:=IN ns) rfl aj) (fU _ _)) (mE k ns.length));by_cases hlt:k<ns.length
  .rw[decide_eq_true hlt]at t;have hx:(ns.map D.int)[k]? = some (.int ns[k]):=by rw[D_,m_ hlt];rfl
   have hp:fB (.int 10) (.int 60)=some (.int (10^60)):=by show jz fJ _ _ _=_;rw[intsC_int,if_pos (by unfold fJ;decide)];rfl
   obtain⟨c2,h2⟩:=ie (f:=f2 (gv 0) (gv 1) aX) (f':=f2 (ci 10) (ci 60) fB) (r:=[some (IN ns),some (nD k),some (nD c1),none]) ⟨ns[k],ax (a:=IN ns) (b:=nD k) rfl rfl (mC hx)⟩ (ax rfl rfl hp) (by decide);exact⟨c2,(cM t).trans ((aq (a9 h2)).trans rfl)⟩
  .rw[decide_eq_false hlt]at t;exact⟨c1,(bG t).trans rfl⟩
 obtain⟨c2,h2⟩:=key;rw[aq h2];have kq:∃b,(dw (aW (f2 (fC (af (gv 0) ab) lenD) (ci 0) jt)) (aW (f2 (f2 (f2 (gv 0) (ci 0) aX) (ci 2) aV) (ci 0) eqD))) [some (IN ns),some (nD k),some (nD c2),none]=.ok b:=by have t:=bZ (ax (f:=fC (af (gv 0) ab) lenD) (f':=fun _=>Res.ok (D.int 0)) (r:=[some (IN ns),some (nD k),some (nD c2),none]) (b:=nD 0) (bm (ag (d:=IN ns) rfl aj) (fU _ _)) rfl (my ns.length 0));cases ns with
 |nil=>exact⟨false,qf t⟩
 |cons a ns=>rw[decide_eq_true (by simp)]at t;obtain⟨c3,h3⟩:=ie (f:=f2 (gv 0) (ci 0) aX) (f':=fun _=>Res.ok (D.int 2)) (r:=[some (IN (a::ns)),some (nD k),some (nD c2),none]) ⟨a,ax (a:=IN (a::ns)) (b:=.int 0) rfl rfl (ixA_L0 _ _)⟩ rfl (by decide);exact⟨_,(k0 t).trans (bZ (ax h3 (b:=nD 0) rfl (je c3 0)))⟩
 obtain⟨b,hb⟩:=kq;cases b with
|true=>exact⟨c2,aQ ((cM hb).trans (aQ (aZ (d:=nD c2) rfl)))⟩
|false=>rw[aq ((bG (s2:=au) hb).trans (e_skip _))];refine BV (ie (iL (tf (ie (iL (mr (mr (mr ⟨(c2:Int),rfl⟩ (iL (b:=(k:Int)) (iL (b:=(k:Int)) ⟨7,rfl⟩ rfl (by omega)) rfl (by omega))) (iL (b:=(k:Int)) ⟨13,rfl⟩ rfl (by omega))) ⟨5,rfl⟩) rfl (by decide)) rfl (by decide))) rfl (by decide)) rfl (by decide)) fun c3=>?_;obtain⟨c4,h4⟩:=ie (f:=(f2 (f2 (f2 (f2 (gv 3) (ci 1) addA) (ci 40692) bi) (ci 2147483629) aV) (ci 39373) bi)) (f':=fun _=>Res.ok (D.int 999999937)) (r:=[some (IN ns),some (nD k),some (nD c2),some (nD c3)]) (iL (tf (ie (iL (mr ⟨(c3:Int),rfl⟩ ⟨1,rfl⟩) rfl (by decide)) rfl (by decide))) rfl (by decide)) rfl (by decide);exact⟨c4,aQ (aZ h4)⟩
theorem Ny{row:List Nat}{i:Int}{x:Nat}:ce (row.map nD) i (nD x)=(ce row i x).map nD:=by unfold ce;rw[j_,Q_,L_,List.map_take,Zn]
theorem OY{row:List Nat}{i:Int}{x:Nat}:(ce row i x).Perm (x::row):=by unfold ce;refine List.perm_middle.trans ?_;rw[List.take_append_drop]
theorem EN(m:Nat):∀(j i c:Nat)(row:List Nat)(x:Option D),row.Perm (t_ i)->i+j<=60 ->∃(c':Nat)(B:List Nat)(x':Option D),B.Perm (t_ (i+j))/\aD (ay 3) G6 ((List.range' i j).map nD) [some (nD c),some (nD m),some (LN row),x]=.nx [some (nD c'),some (nD m),some (LN B),x']
|0,i,c,row,x,hp,_=>⟨c,row,x,hp,d8⟩
|j+1,i,c,row,x,hp,hl=>by
  have hlen:row.length=i:=by rw[hp.length_eq];simp
  obtain⟨c',B,x',h1,h2⟩:=EN m j (i+1) (c/(i+1)) (ce row ((c%(i+1):Nat):Int) i) (some (nD i)) (by refine OY.trans ?_;rw[YU];exact(List.Perm.cons i hp).trans (List.perm_append_singleton i _).symm) (by omega);refine⟨c',B,x',by rw[show i+(j+1)=i+1+j by omega];exact h1,?_⟩;rw[<-h2];have L:c%(i+1)<i+1:=Wi _ (by omega);refine dJ (r1:=[some (nD c),some (nD m),some (LN row),some (nD i)]) rfl ?_;refine(aq (gN (d:=LN row) (ds:=[nD (c%(i+1)),nD i]) (d':=LN (ce row ((c%(i+1):Nat):Int) i)) rfl rfl (ag (ax (a:=nD c) (b:=nD (i+1)) rfl (ax (a:=nD i) (b:=nD 1) rfl rfl (lz i 1)) (jH (by omega))) (ag (d:=nD i) rfl aj)) ?_)).trans ?_
  .show(if _ then some (D.lst (ce _ _ _))else none)=_;rw[if_pos ⟨by rw[j_,N_];omega,by omega,by omega⟩,Ny]
  .exact aq (a9 (d:=nD (c/(i+1))) (ax (a:=nD c) (b:=nD (i+1)) rfl (ax (a:=nD i) (b:=nD 1) rfl rfl (lz i 1)) (lA (by omega) (by omega))))
theorem DN(c m:Nat)(hm:m<=60):∃row:List Nat,row.Perm (t_ m)/\nq [nD c,nD m]=.ok (TN row):=by obtain⟨c',L,x',h1,h2⟩:=EN m m 0 c [] none (by simp) (by omega);rw[Xn]at h1;rw[<-List.range_eq_range']at h2;refine⟨L,h1,bj (B:=yK) (n:=4) ?_⟩;unfold yK;refine(aq (a9 (d:=LN []) (gM aj (by simp)))).trans ?_;refine(aq ((dE (ds:=(t_ m).map nD) (mV (ag (d:=nD m) rfl aj) (oi (by omega)))).trans h2)).trans ?_;exact aQ (aZ (bm (ag (d:=LN L) rfl aj) rfl))
structure Own(owns:List (Option Nat))(m:Nat):Prop where
 lt:∀x,some x∈owns->x<m
 inj:∀h k x,own owns h=some x->own owns k=some x->h=k
theorem oB{owns:List (Option Nat)}{h x:Nat}(e:own owns h=some x):some x∈owns/\h<owns.length:=by unfold own at e;cases q:owns[h]? with
|none=>rw[q]at e;cases e
|some o=>rw[q]at e;have:o=some x:=e;subst this;exact⟨Vk q,(k_.mp q).1⟩
theorem DU{owns:List (Option Nat)}{o:Option Nat}{h:Nat}:own (owns++[o]) h=if h<owns.length then own owns h else if h=owns.length then o else none:=by
 unfold own;by_cases q:h<owns.length
 .rw[if_pos q,R_ q]
 .rw[if_neg q,Uu (by omega)];by_cases z:h=owns.length
  .subst z;simp
  .rw[if_neg z,UC (by simp;omega)];rfl
theorem Own.app_none{owns:List (Option Nat)}{m:Nat}(w:Own owns m):Own (owns++[none]) m where
 lt:=fun x hx=>w.lt x (by simpa using hx)
 inj:=fun h k x h1 h2=>by
  rw[DU]at h1 h2;have f:∀h,(if h<owns.length then own owns h else if h=owns.length then none else none)=some x->own owns h=some x:=by
   intro h e;split at e
   .exact e
   .split at e <;> cases e
  exact w.inj h k x (f h h1) (f k h2)
theorem Own.app_some{owns:List (Option Nat)}{m t:Nat}(w:Own owns m)(ht:t<m)(hn:some t∉owns):Own (owns++[some t]) m where
 lt:=fun x hx=>by
  rcases Ui.mp hx with z|z
  .exact w.lt x z
  .simp at z;omega
 inj:=fun h k x h1 h2=>by
  rw[DU]at h1 h2;split at h1 <;> split at h2
  .exact w.inj h k x h1 h2
  .split at h2
   .cases h2;exact absurd (oB h1).1 hn
   .cases h2
  .split at h1
   .cases h1;exact absurd (oB h2).1 hn
   .cases h1
  .split at h1
   .split at h2
    .omega
    .cases h2
   .cases h1
theorem Bu(l:List (Option Nat))(k:Nat):(l.map oD).any (fun y=>eT y (nD k))=decide (some k∈l):=by
 rw[Wy,Ud,Wh,decide_eq_true_iff];constructor
 .rintro⟨x,h1,h2⟩
  cases x with
 |none=>cases h2
 |some x=>have:(((x:Nat):Int)==(k:Int))=true:=h2;have:=V4.mp (UT this);subst this;exact h1
 .intro h;exact⟨some k,h,by show(((k:Nat):Int)==(k:Int))=true;simp⟩
theorem Jv(l:List (Option Nat)):(l.map oD).all cv=true:=by rw[Uj];intro x hx;obtain⟨k,_,rfl⟩:=p_.mp hx;cases k <;> rfl
theorem IU(l:List (Option Nat))(k:Nat):dF (nD k) (.lst (l.map oD))=some (.bl (decide (some k∈l))):=by show(if cv (nD k)=true/\(l.map oD).all cv=true then some ((l.map oD).any fun y=>eT y (nD k))else none).map D.bl=_;rw[if_pos ⟨rfl,Jv l⟩,Bu];rfl
structure Scene(rows:List (List Nat))(owns:List (Option Nat))(o:Option (List Nat))(n m:Nat):Prop where
 n1:1<=n
 n7:n<=7
 nm:n<=m
 m8:m<=8
 rl:rows.length=n
 rp:∀row∈rows,row.Perm (t_ m)
 ow:Own owns m
 ol:owns.length=n
 op:∀l,o=some l->l.Perm (t_ n)
theorem DT(n m:Nat)(hm:m<=60):∀(l:List Nat)(c:Nat)(owns:List (Option Nat))(x y:Option D),Own owns m->owns.length+l.length<=60 ->∃(c':Nat)(owns':List (Option Nat))(x' y':Option D),Own owns' m/\owns'.length=owns.length+l.length/\aD (ay 4) Au (l.map nD) [some (nD c),some (nD n),some (nD m),some (.lst (owns.map oD)),x,y]=.nx [some (nD c'),some (nD n),some (nD m),some (.lst (owns'.map oD)),x',y']
|[],c,owns,x,y,w,_=>⟨c,owns,x,y,w,rfl,d8⟩
|h::l,c,owns,x,y,w,hl=>by
  have L:c%(m+1)<m+1:=Wi _ (by omega);have step:∃o,Own (owns++[o]) m/\Au [some (nD c),some (nD n),some (nD m),some (.lst (owns.map oD)),some (nD h),y]=.nx [some (nD (c/(m+1))),some (nD n),some (nD m),some (.lst ((owns++[o]).map oD)),some (nD h),some (nD (c%(m+1)))]:=by
   have t1:=bZ (ax (f:=gv 5) (f':=gv 2) (r:=[some (nD (c/(m+1))),some (nD n),some (nD m),some (.lst (owns.map oD)),some (nD h),some (nD (c%(m+1)))]) (a:=nD (c%(m+1))) (b:=nD m) rfl rfl (je (c%(m+1)) m));have t2:=bZ (ax (f:=gv 5) (f':=gv 3) (r:=[some (nD (c/(m+1))),some (nD n),some (nD m),some (.lst (owns.map oD)),some (nD h),some (nD (c%(m+1)))]) (a:=nD (c%(m+1))) (b:=.lst (owns.map oD)) rfl rfl (IU owns (c%(m+1))));have pre:∀s2:FS,seqF (ao dU 5 (f2 (gv 0) (f2 (gv 2) (ci 1) addA) aV)) (seqF (ao dU 0 (f2 (gv 0) (f2 (gv 2) (ci 1) addA) fN)) s2) [some (nD c),some (nD n),some (nD m),some (.lst (owns.map oD)),some (nD h),y]=s2 [some (nD (c/(m+1))),some (nD n),some (nD m),some (.lst (owns.map oD)),some (nD h),some (nD (c%(m+1)))]:=by intro s2;refine(aq (a9 (d:=nD (c%(m+1))) (ax (a:=nD c) (b:=nD (m+1)) rfl (ax (a:=nD m) (b:=nD 1) rfl rfl (lz m 1)) (jH (by omega))))).trans ?_;exact aq (a9 (d:=nD (c/(m+1))) (ax (a:=nD c) (b:=nD (m+1)) rfl (ax (a:=nD m) (b:=nD 1) rfl rfl (lz m 1)) (lA (by omega) (by omega))))
   have B:(owns.map oD).length<=1000:=by rw[j_];omega
   by_cases q:c%(m+1)=m\/some (c%(m+1))∈owns
   .refine⟨none,w.app_none,(pre _).trans ((aq ((cM ?_).trans (aq (gN (d:=.lst (owns.map oD)) (ds:=[.non]) rfl rfl (ag (d:=.non) rfl aj) (jJ B))))).trans ?_)⟩
    .by_cases z:c%(m+1)=m
     .rw[decide_eq_true z]at t1;exact lY t1
     .rw[decide_eq_false z]at t1;rw[decide_eq_true (q.resolve_left z)]at t2;exact(dY t1).trans t2
    .show Out.nx [_,_,_,some (D.lst (owns.map oD++[.non])),_,_]=_;rw[Q_];rfl
   .have z1:¬ c%(m+1)=m:=fun z=>q (.inl z);have z2:some (c%(m+1))∉owns:=fun z=>q (.inr z);rw[decide_eq_false z1]at t1;rw[decide_eq_false z2]at t2;refine⟨some (c%(m+1)),w.app_some (by omega) z2,(pre _).trans ((aq ((bG ((dY t1).trans t2)).trans (aq (gN (d:=.lst (owns.map oD)) (ds:=[nD (c%(m+1))]) rfl rfl (ag (d:=nD (c%(m+1))) rfl aj) (jJ B))))).trans ?_)⟩;show Out.nx [_,_,_,some (D.lst (owns.map oD++[nD (c%(m+1))])),_,_]=_;rw[Q_];rfl
  obtain⟨o,w',hs⟩:=step;obtain⟨c',owns',x',y',h1,h2,h3⟩:=DT n m hm l (c/(m+1)) (owns++[o]) (some (nD h)) (some (nD (c%(m+1)))) w' (by simp at hl ⊢;omega);refine⟨c',owns',x',y',h1,by rw[h2];simp;omega,?_⟩;rw[<-h3];exact dJ (r1:=[some (nD c),some (nD n),some (nD m),some (.lst (owns.map oD)),some (nD h),y]) rfl hs
theorem N1(c n m:Nat)(hn:n<=60)(hm:m<=60):∃owns:List (Option Nat),Own owns m/\owns.length=n/\sj [nD c,nD n,nD m]=.ok (OD owns):=by obtain⟨c',owns',x',y',h1,h2,h3⟩:=DT n m hm (t_ n) c [] none none ⟨fun x hx=>(nomatch hx),fun h k x e=>by unfold own at e;simp at e⟩ (by simp;omega);refine⟨owns',h1,by rw[h2];simp,bj (B:=zA) (n:=6) ?_⟩;unfold zA;refine(aq (a9 (d:=.lst []) (gM aj (by simp)))).trans ?_;refine(aq ((dE (ds:=(t_ n).map nD) (mV (ag (d:=nD n) rfl aj) (oi (by omega)))).trans h3)).trans ?_;exact aQ (aZ (bm (ag (d:=.lst (owns'.map oD)) rfl aj) rfl))
end Law
namespace Law
open PySem PyProof.Rows L2 DL
theorem Jt(a b:Nat):eT (nD a) (nD b)=decide (a=b):=by show(((a:Nat):Int)==(b:Int))=_;rw[Ud,beq_iff_eq,decide_eq_true_iff];exact V4
theorem vS(k:Nat):∀l:List Nat,k∈l->gI (nD k) (l.map nD)=some (l.idxOf k)
|[],h=>by cases h
|a::l,h=>by
  show(if eT (nD a) (nD k)=true then some 0 else(gI (nD k) (l.map nD)).map (· + 1))=_;rw[Jt];by_cases e:a=k
  .rw[if_pos (by simpa using e)];subst e;simp
  .rw[if_neg (by simpa using e),vS k l ((n_.mp h).resolve_left fun z=>e z.symm)];have hf:(a==k)=false:=by simpa using e
   rw[YW,hf];rfl
theorem Dw(k:Nat):∀l:List Nat,(l.map nD).eraseIdx (l.idxOf k)=(l.erase k).map nD
|[]=>rfl
|a::l=>by
  by_cases e:a=k
  .subst e;simp
  .rw[YW,XA (by simpa using e)];have:(a==k)=false:=by simpa using e
   rw[this];show nD a::(l.map nD).eraseIdx (l.idxOf k)=_;rw[Dw k l];rfl
theorem C4{k:Nat}{l:List Nat}(h:k∈l):remD (LN l) [nD k]=some (LN (l.erase k)):=by show(if (l.map nD).all isInt=true then(gI (nD k) (l.map nD)).map fun j=>D.lst ((l.map nD).eraseIdx j)else none)=_;rw[if_pos (by rw[Uj];intro x hx;obtain⟨y,_,rfl⟩:=p_.mp hx;rfl),vS k l h];show some (D.lst _)=some (D.lst _);rw[Dw]
theorem fL{T:String}{fo:FE}{fl:am->Res (List D)}{k:D->List D->Option D}{r:am}{d d':D}{ds:List D}(h1:fo r=.ok d)(ht:sS T d=true)(h2:fl r=.ok ds)(h3:k d ds=some d'):fM T fo fl k r=.ok d':=by unfold fM;rw[h1,bind_ok,if_pos ht,h2,bind_ok,h3];rfl
section
variable{rows:List (List Nat)}{owns:List (Option Nat)}{o:Option (List Nat)}{n m:Nat}
theorem Scene.ne(S:Scene rows owns o n m):rows≠[]:=by
 rintro rfl
 have:=S.rl;have:=S.n1;simp at *;omega
theorem Scene.row(S:Scene rows owns o n m){h:Nat}(hh:h<n):(Wr rows h).Perm (t_ m):=by unfold Wr;rw[m_ (by rw[S.rl];exact hh)];exact S.rp _ (Yx _)
theorem Scene.row0(S:Scene rows owns o n m):(rows.headD []).length=m:=by cases rows with
|nil=>exact absurd rfl S.ne
|cons r t=>rw[List.headD_cons,(S.rp r e_).length_eq];simp
theorem Scene.line_perm(S:Scene rows owns o n m):(s0 rows o).line.Perm (t_ n):=by unfold s0;cases o with
|none=>rw[S.rl];exact Zf _
|some l=>exact S.op l rfl
theorem Scene.mem(S:Scene rows owns o n m){h:Nat}:h∈(s0 rows o).line↔h<n:=by rw[S.line_perm.mem_iff];exact A_
theorem Scene.things(S:Scene rows owns o n m):(s0 rows o).things=t_ m:=by unfold s0;rw[S.row0]
theorem Scene.ok(S:Scene rows owns o n m):Rg.Ok (Wr rows) (own owns) (s0 rows o) where
 nl:=S.line_perm.nodup_iff.mpr Vy
 nt:=by rw[S.things];exact Vy
 le:=by rw[S.things,S.line_perm.length_eq];simp;exact S.nm
 row:=fun h hh x hx=>by rw[S.things]at hx;exact(S.row (S.mem.mp hh)).mem_iff.mpr hx
 inj:=S.ow.inj
 own:=fun h hh x hx=>by rw[S.things];exact A_.mpr (S.ow.lt x (oB hx).1)
theorem Scene.snd(S:Scene rows owns o n m):Snd rows owns (s0 rows o) where
 ok:=S.ok
 inr:=fun h hh=>by rw[S.rl];exact S.mem.mp hh
 ino:=fun h hh=>by rw[S.ol];exact S.mem.mp hh
 wid:=fun h hh=>by have:=(S.row (S.mem.mp hh)).length_eq;have:=S.m8;simp at *;omega
 nl:=by have:=S.line_perm.length_eq;have:=S.n7;simp at *;omega
 nt:=by rw[S.things];have:=S.m8;simp;omega
theorem Scene.ord(S:Scene rows owns o n m):∀l,o=some l->l.Nodup/\(∀k∈l,k<rows.length)/\l.length=rows.length:=by
 intro l hl;have p:=S.op l hl;refine⟨p.nodup_iff.mpr Vy,fun k hk=>?_,?_⟩
 .rw[S.rl];exact A_.mp (p.mem_iff.mp hk)
 .rw[p.length_eq,S.rl];simp
theorem uY{mm:List Md}{f:FE}{ft:FT}{r r':am}{d:D}(h:f r=.ok d)(h2:ft d r=some r'):gu mm f ft r=.nx r':=by unfold gu;rw[h,onE_ok];simp only[h2]
end
theorem Nx{k:Nat}{l:List Nat}(h:k∈l):oy (LN l) [nD k]=some (nD (l.idxOf k)):=by show(if cv (nD k)=true/\(l.map nD).all cv=true then(gI (nD k) (l.map nD)).map fun j=>D.int j else none)=_;rw[if_pos ⟨rfl,tJ l⟩,vS k l h];rfl
theorem MV{l:List Nat}{i:Nat}(h:i<=l.length):A9 (LN l) (some (i:Int)) none=some (LN (l.drop i)):=by show some (D.lst (cW (l.map nD) (some (i:Int)) none))=_;unfold cW;rw[HT.gE,HT.fu,j_,YX h];rw[Xl (by simp)];show some (D.lst _)=some (D.lst ((l.drop i).map nD));rw[Zn]
theorem m3{f:FE}{r:am}{i:Int}(h:f r=.ok (.int i)):iJ f r=.ok (some i):=by unfold iJ;rw[h];rfl
theorem IE{fa:FE}{fl fh:FP}{r:am}{d d':D}{lo hi:Option Int}(h1:fa r=.ok d)(h2:fl r=.ok lo)(h3:fh r=.ok hi)(h4:A9 d lo hi=some d'):Bs fa fl fh r=.ok d':=by unfold Bs;rw[h1,bind_ok,h2,bind_ok,h3,bind_ok,h4];rfl
theorem qC{ds:List D}{i:Nat}{v:D}(h:i<ds.length):dN (.lst ds) (nD i) v=some (.lst (ds.set i v)):=by show(gl ds.length (i:Int)).map _=_;unfold gl;rw[if_pos (VE i),if_pos (by omega)];simp
theorem Dq(row things:List Nat)(B:D):∀(l:List Nat)(y:Option D),(match l.find? (fun h=>decide (h∈things))with
  |some h=>aD (ay 2) pq (l.map nD) [some B,some (LN things),y]=.rt (nD h)
  |none=>∃y',aD (ay 2) pq (l.map nD) [some B,some (LN things),y]=.nx [some B,some (LN things),y'])
|[],y=>⟨y,d8⟩
|h::l,y=>by have c:(aW (f2 (gv 2) (gv 1) dF)) [some B,some (LN things),some (nD h)]=.ok (decide (h∈things)):=bZ (ax (a:=nD h) (b:=LN things) rfl rfl (B1 _ _));rw[T_];cases e:decide (h∈things)with
 |true=>rw[e]at c;refine uV (r1:=[some B,some (LN things),some (nD h)]) rfl ?_;exact aQ ((cM c).trans (aQ (aZ (d:=nD h) rfl)))
 |false=>rw[e]at c;have ih:=Dq row things B l (some (nD h));have st:aD (ay 2) pq ((h::l).map nD) [some B,some (LN things),y]=aD (ay 2) pq (l.map nD) [some B,some (LN things),some (nD h)]:=dJ (r1:=[some B,some (LN things),some (nD h)]) rfl ((aq (bG c)).trans rfl);rw[st];exact ih
theorem FK{row things:List Nat}(h:∃x∈row,x∈things):pf [TN row,LN things]=.ok (nD (Rg.cG row things)):=by refine bj (B:=zz) (n:=3) ?_;unfold zz;have hl:=Dq row things (TN row) row none;unfold Rg.cG;cases e:row.find? fun x=>decide (x∈things)with
|none=>obtain⟨x,h1,h2⟩:=h;have:=Uq.mp e x h1;simp[h2]at this
|some k=>rw[e]at hl;exact aQ ((dE (ds:=row.map nD) rfl).trans hl)
end Law
namespace Law
open PySem PyProof.Rows L2 DL PySem.Builtin PySem.Builtin.Str
def jl(y:List Nat):List (List Nat)->List Nat
|[]=>[]
|[p]=>p
|p::q::r=>p++(y++jl y (q::r))
theorem CF{c:Nat}:∀{p q r s:List Nat},c∉p->c∉q->p++c::r=q++c::s->p=q/\r=s
|[],[],r,s,_,_,h=>⟨rfl,(W4 h).2⟩
|[],b::q,r,s,_,hq,h=>absurd (W4 h).1 (fun e=>hq (by rw[e];exact e_))
|a::p,[],r,s,hp,_,h=>absurd (W4 h).1 (fun e=>hp (by rw[<-e];exact e_))
|a::p,b::q,r,s,hp,hq,h=>by obtain⟨h1,h2⟩:=W4 h;obtain⟨e1,e2⟩:=CF (fun z=>hp (h_ _ z)) (fun z=>hq (h_ _ z)) h2;exact⟨by rw[h1,e1],e2⟩
theorem CN{c:Nat}{cs:List Nat}:∀{ps qs:List (List Nat)},ps≠[]->qs≠[]->(∀p∈ps,c∉p)->(∀q∈qs,c∉q)->jl (c::cs) ps=jl (c::cs) qs->ps=qs
|[],_,h,_,_,_,_=>absurd rfl h
|_::_,[],_,h,_,_,_=>absurd rfl h
|[p],[q],_,_,_,_,h=>by rw[show p=q from h]
|[p],q::q'::s,_,_,hp,_,h=>by have h:p=q++(c::cs++jl (c::cs) (q'::s)):=h;exact absurd (by rw[h];simp) (hp p e_)
|p::p'::r,[q],_,_,_,hq,h=>by have h:p++(c::cs++jl (c::cs) (p'::r))=q:=h;exact absurd (by rw[<-h];simp) (hq q e_)
|p::p'::r,q::q'::s,_,_,hp,hq,h=>by have h:p++c::(cs++jl (c::cs) (p'::r))=q++c::(cs++jl (c::cs) (q'::s)):=h;obtain⟨e1,e2⟩:=CF (hp p e_) (hq q e_) h;have e3:=List.append_cancel_left e2;rw[e1,CN (by simp) (by simp) (fun z hz=>hp z (h_ _ hz)) (fun z hz=>hq z (h_ _ hz)) e3]
theorem BN{c:Nat}{cs:List Nat}(B:c∉cs):∀{ps:List (List Nat)},(∀p∈ps,c∉p)->∀k,(jl (c::cs) ps)[k]? = some c->((jl (c::cs) ps).drop k).take (c::cs).length=c::cs
|[],_,k,h=>by simp[jl]at h
|[p],hp,k,h=>absurd (Vk h) (hp p e_)
|p::q::r,hp,k,h=>by
  have e:jl (c::cs) (p::q::r)=p++((c::cs)++jl (c::cs) (q::r)):=rfl;rw[e]at h ⊢;by_cases h1:k<p.length
  .rw[R_ h1]at h;exact absurd (Vk h) (hp p e_)
  .obtain⟨j,rfl⟩:∃j,k=p.length+j:=⟨k-p.length,by omega⟩
   rw[Uu (by omega),W9]at h;rw[<-Zg,Zh];by_cases h2:j<(c::cs).length
   .rw[R_ h2]at h;cases j with
   |zero=>rw[List.drop_zero,List.take_left]
   |succ j=>rw[Wb]at h;exact absurd (Vk h) B
   .obtain⟨i,rfl⟩:∃i,j=(c::cs).length+i:=⟨j-(c::cs).length,by omega⟩
    rw[Uu (by omega),W9]at h;rw[<-Zg,Zh];exact BN B (fun z hz=>hp z (h_ _ hz)) i h
theorem mX(y:Str):∀ps:List Str,(Ua y ps).cps.toList=jl y.cps.toList (ps.map fun p=>p.cps.toList)
|[]=>rfl
|[p]=>rfl
|p::q::r=>by
  have ih:=mX y (q::r);show(p++y++Ua y (q::r)).cps.toList=p.cps.toList++(y.cps.toList++jl y.cps.toList ((q::r).map fun p=>p.cps.toList))
  rw[<-ih];simp only[Str.cps_append,XJ,UP]
theorem NA(x:Str):1<=V2 x:=by
 unfold V2;split
 .exact s_ _
 .split <;> decide
section
variable{c:Nat}{x y:Str}
theorem EY{a b:Nat}(hA:∀k,x.cps.toList[k]? = some c->V9 x y x.length k)(hn:∀k,a<=k->k<b->¬ V9 x y x.length k):c∉(strSub x a b).cps.toList:=by
 intro hm;rw[StrLaws.strSub_toList]at hm;obtain⟨j,hj⟩:=Wn hm;have hlt:j<b-a:=by have h1:=(k_.mp hj).1;simp at h1;omega
 rw[WZ hlt,X5]at hj;exact hn (a+j) (by omega) (by omega) (hA _ hj)
theorem Fs(hA:∀k,x.cps.toList[k]? = some c->V9 x y x.length k):∀(B:List Nat)(a f:Nat),StrLaws.ChainG x y x.length a B f->(∀k,f<=k->¬ V9 x y x.length k)->∀p∈StrLaws.partsFrom x y.length a B,c∉p.cps.toList
|[],a,f,h,hn,p,hp=>by have h:f=a:=h;subst h;rw[y_.mp hp];exact EY hA fun k h1 _=>hn k h1
|d::r,a,f,h,hn,p,hp=>by
  rcases n_.mp hp with e|e
  .rw[e];exact EY hA h.2.2.1
  .exact Fs hA r _ f h.2.2.2 hn p e
theorem Gy(hk:V2 y=1)(B:1<=y.length)(hA:∀k,x.cps.toList[k]? = some c->V9 x y x.length k):∀q∈Txt.split x y,c∉q.cps.toList:=by
 have all:(∀k,¬ V9 x y x.length k)->c∉x.cps.toList:=fun h z=>by obtain⟨j,hj⟩:=Wn z;exact h j (hA j hj)
 obtain⟨f,g1,g2⟩:=StrLaws.occ_tight x y B;unfold Txt.split;split
 .rename_i h;intro q hq;rw[y_.mp hq];refine all fun k L=>?_;have:=L.1;have k1:=NA x;simp only[YQ,decide_eq_true_eq]at h;omega
 .split
  .rename_i h;intro q hq;rw[y_.mp hq];rw[List.isEmpty_iff.mp h]at g1;have g1:f=0:=g1;exact all fun k=>g2 k (by omega)
  .rw[W_];exact Fs hA _ 0 f g1 g2
theorem wX(x y:Str):Txt.split x y≠[]:=by
 unfold Txt.split;split
 .simp
 .split
  .simp
  .rw[W_];obtain⟨p,r,e⟩:=StrLaws.partsFrom_ne x y.length 0 (O_ x y 0 x.length (x.length+1));rw[e];simp
theorem yV{cs:List Nat}(hy:y.cps.toList=c::cs)(hk:V2 y=1)(B:c∉cs){ps:List Str}(hne:ps≠[])(hf:∀p∈ps,c∉p.cps.toList):Txt.split (Ua y ps) y=ps:=by
 have hl:y.length=(c::cs).length:=by rw[<-hy];simp[XV]
 have hA:∀k,(Ua y ps).cps.toList[k]? = some c->V9 (Ua y ps) y (Ua y ps).length k:=by
  intro k h;rw[mX,hy]at h;have h2:=BN B (fun p hp=>by obtain⟨q,hq,rfl⟩:=p_.mp hp;exact hf q hq) k h;rw[<-hy,<-mX]at h2;refine⟨?_,?_⟩
  .have h3:=congrArg V_ h2;have h4:(Ua y ps).cps.toList.length=(Ua y ps).length:=by simp[XV]
   rw[Ux,VU,h4,hy,x_]at h3;rw[hl,x_];omega
  .rw[YD,hl,<-hy];rw[h2];exact beq_self_eq_true _
 have free:=Gy hk (by rw[hl,x_];omega) hA;have ne:=wX (Ua y ps) y;have e:(Ua y (Txt.split (Ua y ps) y)).cps.toList=(Ua y ps).cps.toList:=by rw[WM]
 rw[mX y (Txt.split (Ua y ps) y),mX y ps,hy]at e;have e2:=CN (by simpa using ne) (by simpa using hne) (fun p hp=>by obtain⟨q,hq,rfl⟩:=p_.mp hp;exact free q hq) (fun p hp=>by obtain⟨q,hq,rfl⟩:=p_.mp hp;exact hf q hq) e;exact(List.map_inj_right fun a b h=>Str.ext' (Yw.mp h)).mp e2
end
end Law
namespace Law
open PySem PyProof.Rows L2 DL
abbrev az(x:Nat):Str:=⟨#[65+x]⟩
def word(x:Nat)(o:Option Nat):Str:=if o=some x then az x++"*" else az x
theorem l9{p:Nat->Prop}(h0:p 0)(h1:p 1)(h2:p 2)(h3:p 3)(h4:p 4)(h5:p 5)(h6:p 6)(h7:p 7){x:Nat}(h:x<8):p x:=by match x,h with
|0,_=>exact h0
|1,_=>exact h1
|2,_=>exact h2
|3,_=>exact h3
|4,_=>exact h4
|5,_=>exact h5
|6,_=>exact h6
|7,_=>exact h7
theorem om{x:Nat}(h:x<8):aX (.str "ABCDEFGH") (nD x)=some (.str (az x)):=l9 (p:=fun x=>aX (.str "ABCDEFGH") (nD x)=some (.str (az x))) (by kernel_rfl) (by kernel_rfl) (by kernel_rfl) (by kernel_rfl) (by kernel_rfl) (by kernel_rfl) (by kernel_rfl) (by kernel_rfl) h
theorem ES{x:Nat}(h:x<8):k6 (.str "ABCDEFGH") [.str (az x)]=some (nD x):=l9 (p:=fun x=>k6 (.str "ABCDEFGH") [.str (az x)]=some (nD x)) (by kernel_rfl) (by kernel_rfl) (by kernel_rfl) (by kernel_rfl) (by kernel_rfl) (by kernel_rfl) (by kernel_rfl) (by kernel_rfl) h
theorem J3{x:Nat}(h:x<8):dF (.str (az x)) (.str "ABCDEFGH")=some (.bl true):=l9 (p:=fun x=>dF (.str (az x)) (.str "ABCDEFGH")=some (.bl true)) (by kernel_rfl) (by kernel_rfl) (by kernel_rfl) (by kernel_rfl) (by kernel_rfl) (by kernel_rfl) (by kernel_rfl) (by kernel_rfl) h
theorem No{x:Nat}(h:x<8):kT (.str (az x)) [.str "*"]=some (.bl false):=l9 (p:=fun x=>kT (.str (az x)) [.str "*"]=some (.bl false)) (by kernel_rfl) (by kernel_rfl) (by kernel_rfl) (by kernel_rfl) (by kernel_rfl) (by kernel_rfl) (by kernel_rfl) (by kernel_rfl) h
theorem Pe{x:Nat}(h:x<8):kT (.str (az x++"*")) [.str "*"]=some (.bl true):=l9 (p:=fun x=>kT (.str (az x++"*")) [.str "*"]=some (.bl true)) (by kernel_rfl) (by kernel_rfl) (by kernel_rfl) (by kernel_rfl) (by kernel_rfl) (by kernel_rfl) (by kernel_rfl) (by kernel_rfl) h
theorem MX{x:Nat}(h:x<8):pE (.str (az x++"*")) none (some (-1))=some (.str (az x)):=l9 (p:=fun x=>pE (.str (az x++"*")) none (some (-1))=some (.str (az x))) (by kernel_rfl) (by kernel_rfl) (by kernel_rfl) (by kernel_rfl) (by kernel_rfl) (by kernel_rfl) (by kernel_rfl) (by kernel_rfl) h
theorem Mi{x:Nat}(h:x<8):lenD [.str (az x)]=some (nD 1):=l9 (p:=fun x=>lenD [.str (az x)]=some (nD 1)) (by kernel_rfl) (by kernel_rfl) (by kernel_rfl) (by kernel_rfl) (by kernel_rfl) (by kernel_rfl) (by kernel_rfl) (by kernel_rfl) h
theorem wZ(x:Nat)(o:Option Nat):(word x o).length<=2:=by
 unfold word;split
 .rw[UW];exact s_ 2
 .exact WP 1
theorem word_chr{x c:Nat}{o:Option Nat}(h:c∈(word x o).cps.toList):c=42\/65<=c:=by
 unfold word at h;split at h
 .have h:c∈(#[65+x]++("*" : Str).cps).toList:=h;rw[XJ]at h;rcases Ui.mp h with z|z
  .right;have:=y_.mp z;omega
  .left;exact y_.mp z
 .right;have:=y_.mp (show c∈[65+x]from h);omega
theorem ly{a b:Str}(h:a.length+b.length<=1000):addA (.str a) (.str b)=some (.str (a++b)):=by show(if a.length+b.length<=sizeLine then _ else _)=_;rw[if_pos (by rw[N_];omega)]
theorem ET(x:Nat):(az x).length+(("*" : Str)).length<=1000:=by
 have h:(("*" : Str)).length=1:=by decide+kernel
 rw[h];show 1+1<=1000;decide
theorem CG(x:Nat)(o:Option Nat):eqD (nD x) (oD o)=some (.bl (decide (o=some x))):=by cases o with
|none=>rfl
|some y=>rw[show oD (some y)=nD y from rfl,je];congr 2;rw[decide_eq_decide];exact⟨fun h=>by rw[h],fun h=>(H_ h).symm⟩
theorem N8{x:Nat}(o:Option Nat)(h:x<8):o9 [nD x,oD o]=.ok (.str (word x o)):=by
 refine bj (B:=zM) (n:=3) ?_;unfold zM;refine(aq (r':=[some (nD x),some (oD o),some (.str (az x))]) (a9 (ax (a:=.str "ABCDEFGH") (b:=nD x) rfl rfl (om h)))).trans (aQ (aZ ?_));have t:aW (f2 (gv 0) (gv 1) eqD) [some (nD x),some (oD o),some (.str (az x))]=.ok (decide (o=some x)):=bZ (ax (a:=nD x) (b:=oD o) rfl rfl (CG x o));unfold word;by_cases c:o=some x
 .rw[decide_eq_true c]at t;rw[if_pos c,mw t];exact ax (a:=.str (az x)) (b:=.str "*") rfl rfl (ly (ET x))
 .rw[decide_eq_false c]at t;rw[if_neg c,mv t];rfl
theorem zm{x:Nat}(o:Option Nat)(h:x<8):jo [.str (word x o)]=.ok (.bl (decide (o=some x))):=by
 refine bj (B:=Ae) (n:=1) ?_;unfold Ae;refine aQ (aZ (fL (d:=.str (word x o)) (ds:=[.str "*"]) rfl rfl rfl ?_));unfold word;by_cases c:o=some x
 .rw[if_pos c,decide_eq_true c];exact Pe h
 .rw[if_neg c,decide_eq_false c];exact No h
theorem vM{fa:FE}{fl fh:FP}{r:am}{d d':D}{lo hi:Option Int}(h1:fa r=.ok d)(h2:fl r=.ok lo)(h3:fh r=.ok hi)(h4:pE d lo hi=some d'):gX fa fl fh r=.ok d':=by unfold gX;rw[h1,bind_ok,h2,bind_ok,h3,bind_ok,h4];rfl
theorem yS{x:Nat}(o:Option Nat)(h:x<8):kK [.str (word x o)]=.ok (.str (az x)):=by
 refine bj (B:=zE) (n:=1) ?_;unfold zE;refine aQ (aZ ?_);have t:cn (aI (af (gv 0) ab) [] jo) [some (.str (word x o))]=.ok (decide (o=some x)):=ip (d:=.bl (decide (o=some x))) (aT (ag (d:=.str (word x o)) rfl aj) (zm o h)) rfl;by_cases c:o=some x
 .rw[decide_eq_true c]at t;refine(mw t).trans (vM (d:=.str (word x o)) (lo:=none) (hi:=some (-1)) rfl rfl (m3 (i:=-1) rfl) ?_);unfold word;rw[if_pos c];exact MX h
 .rw[decide_eq_false c]at t;refine(mv t).trans ?_;show Res.ok (D.str (word x o))=_;unfold word;rw[if_neg c]
theorem QF{x:Nat}(o:Option Nat)(h:x<8):rE [.str (word x o)]=.ok (.bl true):=by refine bj (B:=xN) (n:=2) ?_;unfold xN;refine(aq (r':=[some (.str (word x o)),some (.str (az x))]) (a9 (aT (ag (d:=.str (word x o)) rfl aj) (yS o h)))).trans (aQ (aZ ?_));rw[mP (ax (a:=nD 1) (b:=nD 1) (bm (ag (d:=.str (az x)) rfl aj) (Mi h)) rfl (m6 1))];exact ax (a:=.str (az x)) (b:=.str "ABCDEFGH") rfl rfl (J3 h)
def br(row:List Nat)(o:Option Nat):Str:=Ua " " (row.map fun x=>word x o)
def cw(rows:List (List Nat))(owns:List (Option Nat)):Str:=Ua "; " ((rows.zip owns).map fun p=>br p.1 p.2)
theorem yO:∀l:List Str,jG (l.map D.str)=some l
|[]=>rfl
|x::l=>by show(jG (l.map D.str)).map (x::·)=_;rw[yO l];rfl
theorem mQ{L:Str}{l:List Str}{B:Nat}(hB:∀y∈l,y.length<=B)(h:l.length*B+l.length*L.length<=16777216):gJ (.str L) [.lst (l.map D.str)]=some (.str (Ua L l)):=by
 show(match jG (l.map D.str)with|some xs=>if X4 L xs=true then some (D.str (Txt.join L xs))else none|none=>none)=_;rw[yO];have:X4 L l=true:=by unfold X4;rw[StrLaws.joinFits hB h];rfl
 simp only[this,if_true];show some (D.str (PySem.Builtin.Str.glued L l))=_;rw[Wg]
theorem rc{row:List Nat}(o:Option Nat)(hl:row.length<=8):(br row o).length<=24:=by
 have h:=VF " " (row.map fun x=>word x o);have h2:=WX (B:=2) (row.map fun x=>word x o) (fun y hy=>by obtain⟨x,_,rfl⟩:=p_.mp hy;exact wZ x o);have h3:((" " : Str)).length=1:=by decide+kernel
 rw[h3,j_]at h;rw[j_]at h2;unfold br;omega
theorem FJ{rows:List (List Nat)}{owns:List (Option Nat)}(hl:∀row∈rows,row.length<=8)(hn:rows.length<=7):(cw rows owns).length<=1000:=by
 have h:=VF "; " ((rows.zip owns).map fun p=>br p.1 p.2);have h2:=WX (B:=24) ((rows.zip owns).map fun p=>br p.1 p.2) (fun y hy=>by obtain⟨p,hp,rfl⟩:=p_.mp hy;exact rc p.2 (hl p.1 (U3 hp).1));have h3:(("; " : Str)).length=2:=by decide+kernel
 have h4:(rows.zip owns).length<=7:=by rw[Xr];exact Ue (YY _ _) hn
 rw[h3,j_]at h;rw[j_]at h2;unfold cw;omega
theorem Rc{row:List Nat}(o:Option Nat)(hb:∀x∈row,x<8)(hl:row.length<=8):oU [TN row,oD o]=.ok (.str (br row o)):=by
 refine bj (B:=yY) (n:=2) ?_;unfold yY;have e:bN 1 [1] (aL bz (gv 0)) (ay 0) (fun _=>Res.ok true) (aI (af (gv 0) (af (gv 1) ab)) [] o9) (aE 2 [TN row,oD o])=.ok (.lst ((row.map fun x=>word x o).map D.str)):=by refine(dD (l:=row) nD (fun _=>true) (fun x=>.str (word x o)) (eG (d:=TN row) rfl rfl) (by omega) fun x hx=>⟨[some (nD x),some (oD o)],rfl,rfl,fun _=>aT (ag (d:=nD x) rfl (ag (d:=oD o) rfl aj)) (N8 o (hb x hx))⟩).trans ?_;rw[fj,K_];rfl
 have h3:((" " : Str)).length=1:=by decide+kernel
 exact aQ (aZ (fL (d:=.str " ") rfl rfl (ag e aj) (mQ (B:=2) (fun y hy=>by obtain⟨x,_,rfl⟩:=p_.mp hy;exact wZ x o) (by rw[h3,j_];omega))))
theorem vQ{fa fb:FE}{r:am}{d e:DL.D}{ds es:List DL.D}(h1:fa r=.ok d)(h2:fb r=.ok e)(h3:bz d=some ds)(h4:bz e=some es):gq fa fb r=.ok (VV (fun a b=>DL.D.tup [a,b]) ds es):=by unfold gq;rw[h1,bind_ok,h2,bind_ok,h3,opt_some,bind_ok,h4,opt_some,bind_ok]
theorem Cw(rows:List (List Nat))(owns:List (Option Nat)):VV (fun a b=>DL.D.tup [a,b]) (rows.map TN) (owns.map oD)=(rows.zip owns).map fun p=>.tup [TN p.1,oD p.2]:=by rw[YE,List.zip,List.map_zipWith]
theorem Rt{rows:List (List Nat)}{owns:List (Option Nat)}(hb:∀row∈rows,∀x∈row,x<8)(hl:∀row∈rows,row.length<=8)(hn:rows.length<=7):nF [WD rows,OD owns]=.ok (.str (cw rows owns)):=by
 refine bj (B:=zI) (n:=2) ?_;unfold zI;have h4:(rows.zip owns).length<=7:=by rw[Xr];exact Ue (YY _ _) hn
 have e:bN 2 [] (gq (gv 0) (gv 1)) (dq (bD (ay 0) (bD (ay 1) c9))) (fun _=>Res.ok true) (aI (af (gv 0) (af (gv 1) ab)) [] oU) (aE 2 [WD rows,OD owns])=.ok (.lst (((rows.zip owns).map fun p=>br p.1 p.2).map D.str)):=by refine(dD (l:=rows.zip owns) (fun p=>.tup [TN p.1,oD p.2]) (fun _=>true) (fun p=>.str (br p.1 p.2)) ((vQ (d:=WD rows) (e:=OD owns) rfl rfl rfl rfl).trans (by rw[Cw])) (by omega) fun p hp=>⟨[some (TN p.1),some (oD p.2)],rfl,rfl,fun _=>aT (ag (d:=TN p.1) rfl (ag (d:=oD p.2) rfl aj)) (Rc p.2 (hb p.1 (U3 hp).1) (hl p.1 (U3 hp).1))⟩).trans ?_;rw[fj,K_];rfl
 have h3:(("; " : Str)).length=2:=by decide+kernel
 exact aQ (aZ (fL (d:=.str "; ") rfl rfl (ag e aj) (mQ (B:=24) (fun y hy=>by obtain⟨p,hp,rfl⟩:=p_.mp hy;exact rc p.2 (hl p.1 (U3 hp).1)) (by rw[h3,j_];omega))))
theorem mem_jl{c:Nat}{y:List Nat}:∀{ps:List (List Nat)},c∈jl y ps->c∈y\/∃p∈ps,c∈p
|[],h=>by cases h
|[p],h=>.inr ⟨p,e_,h⟩
|p::q::r,h=>by
  rcases Ui.mp (show c∈p++(y++jl y (q::r))from h)with z|z
  .exact .inr ⟨p,e_,z⟩
  .rcases Ui.mp z with z|z
   .exact .inl z
   .rcases mem_jl z with z|⟨p',h1,h2⟩
    .exact .inl z
    .exact .inr ⟨p',h_ _ h1,h2⟩
theorem qD:((" " : Str)).cps.toList=[32]:=by kernel_rfl
theorem Kt:(("; " : Str)).cps.toList=[59,32]:=by kernel_rfl
theorem rowS_chr{row:List Nat}{o:Option Nat}{c:Nat}(h:c∈(br row o).cps.toList):c=32\/c=42\/65<=c:=by
 unfold br at h;rw[mX,qD]at h;rcases mem_jl h with z|⟨p,h1,h2⟩
 .exact .inl (y_.mp z)
 .rw[K_]at h1;obtain⟨x,_,rfl⟩:=p_.mp h1;exact .inr (word_chr h2)
abbrev WS(row:List Nat)(o:Option Nat):D:=.lst (row.map fun x=>D.str (word x o))
theorem wE{a b:Str}(h1:0<b.length)(h2:a.length<=10000):kn (.str a) [.str b]=some (.lst ((Txt.split a b).map D.str)):=by show(if 0<b.length/\a.length<=10000 then some (D.lst ((Txt.split a b).map D.str))else none)=_;rw[if_pos ⟨h1,h2⟩]
theorem Q4{row:List Nat}(o:Option Nat)(hne:row≠[])(hl:row.length<=8):kn (.str (br row o)) [.str " "]=some (WS row o):=by
 rw[wE (by decide+kernel) (by have:=rc (row:=row) o hl;omega)];unfold br;rw[yV qD (by decide+kernel) (by simp) (by simpa using hne) (fun p hp=>?_),K_]
 .rfl
 .obtain⟨x,_,rfl⟩:=p_.mp hp;intro z;rcases word_chr z with e|e <;> omega
theorem Qw{rows:List (List Nat)}{owns:List (Option Nat)}(hne:rows.zip owns≠[])(hl:∀row∈rows,row.length<=8)(hn:rows.length<=7):kn (.str (cw rows owns)) [.str "; "]=some (.lst ((rows.zip owns).map fun p=>D.str (br p.1 p.2))):=by
 rw[wE (by decide+kernel) (by have:=FJ (owns:=owns) hl hn;omega)];unfold cw;rw[yV Kt (by decide+kernel) (by simp) (by simpa using hne) (fun p hp=>?_),K_]
 .rfl
 .obtain⟨x,_,rfl⟩:=p_.mp hp;intro z;rcases rowS_chr z with e|e|e <;> omega
variable{o:Option Nat}
section
variable{row:List Nat}
theorem KW{y:Nat}:∀{l:List Nat},l.Nodup->(∀x∈l,x=y)->l.length<2
|[],_,_=>by simp
|[a],_,_=>by simp
|a::b::r,hn,h=>by have h1:=h a e_;have h2:=h b (h_ _ e_);rw[List.nodup_cons]at hn;exact absurd (by rw[h1,<-h2];exact e_) hn.1
theorem QK(hn:row.Nodup):(row.filter fun x=>decide (o=some x)).length<2:=by cases o with
|none=>rw[List.filter_eq_nil_iff.mpr (fun x _=>by simp)];simp
|some y=>refine KW (y:=y) (X6 List.filter_sublist hn) fun x hx=>?_;have:=(B_.mp hx).2;simp at this;exact this.symm
theorem NH{f:FE}{fi:FI}{nl:Nat}{cap:List Nat}{ft:FT}{r:am}{zs:List D}(h1:fi r=.ok zs)(hl:zs.length<=1000)(h2:∀d∈zs,∃r1,ft d (bv nl cap r)=some r1/\f r1=.ok (.bl true)):fC (af (bN nl cap fi ft (fun _=>Res.ok true) f) ab) allD r=.ok (.bl true):=by
 have e:=dD (nl:=nl) (cap:=cap) (fi:=fi) (ft:=ft) (q:=fun _=>Res.ok true) (fe:=f) (r:=r) (l:=zs) id (fun _=>true) (fun _=>.bl true) (by rw[List.map_id];exact h1) hl (fun d hd=>by obtain⟨r1,a,b⟩:=h2 d hd;exact⟨r1,a,rfl,fun _=>b⟩);refine bm (ag e aj) ?_;rw[fj];show(jy _).map (fun bs=>D.bl (bs.all id))=_;have:∀l:List D,jy (l.map fun _=>D.bl true)=some (l.map fun _=>true):=by
  intro l
  induction l with
 |nil=>rfl
 |cons d l ih=>simp[jy,ih]
 rw[this];simp
theorem QE(hn:row.Nodup)(hb:∀x∈row,x<8)(hl:row.length<=8):rD [WS row o]=.ok (.bl true):=by refine bj (B:=xM) (n:=2) ?_;unfold xM;refine(aq (r':=[some (WS row o),some (.lst ((row.filter fun x=>decide (o=some x)).map fun x=>D.str (word x o)))]) (a9 (dD (l:=row) (fun x=>D.str (word x o)) (fun x=>decide (o=some x)) (fun x=>D.str (word x o)) (eG (d:=WS row o) rfl rfl) (by omega) fun x hx=>⟨[some (.str (word x o))],rfl,ip (d:=.bl (decide (o=some x))) (aT (ag (d:=.str (word x o)) rfl aj) (zm o (hb x hx))) rfl,fun _=>rfl⟩))).trans (aQ (aZ ?_));have hf:=QK (row:=row) (o:=o) hn;rw[mP (ax (a:=nD (row.filter fun x=>decide (o=some x)).length) (b:=nD 2) (bm (ag (d:=.lst ((row.filter fun x=>decide (o=some x)).map fun x=>D.str (word x o))) rfl aj) (fU _ _)) rfl (by rw[mE,decide_eq_true hf]))];refine NH (zs:=row.map fun x=>D.str (word x o)) (eG (d:=WS row o) rfl rfl) (by rw[j_];omega) fun d hd=>?_;obtain⟨x,hx,rfl⟩:=p_.mp hd;exact⟨[some (.str (word x o))],rfl,aT (ag (d:=.str (word x o)) rfl aj) (QF o (hb x hx))⟩
theorem Ps(hb:∀x∈row,x<8)(hl:row.length<=8):oG [WS row o]=.ok (LN row):=by refine bj (B:=wS) (n:=1) ?_;unfold wS;refine aQ (aZ ((dD (l:=row) (fun x=>D.str (word x o)) (fun _=>true) nD (eG (d:=WS row o) rfl rfl) (by omega) fun x hx=>⟨[some (.str (word x o))],rfl,rfl,fun _=>?_⟩).trans (by rw[fj])));exact fL (d:=.str "ABCDEFGH") rfl rfl (ag (d:=.str (az x)) (aT (ag (d:=.str (word x o)) rfl aj) (yS o (hb x hx))) aj) (ES (hb x hx))
theorem DR{W:D}:∀(l:List Nat)(x1:Option D),(∀x∈l,x<8) ->(∀y,o=some y->y∈l->aD (ay 1) oV (l.map fun x=>D.str (word x o)) [some W,x1]=.rt (nD y)) /\((∀y,o=some y->y∉l)->∃y1,aD (ay 1) oV (l.map fun x=>D.str (word x o)) [some W,x1]=.nx [some W,y1])
|[],x1,_=>⟨fun y _ h=>(nomatch h),fun _=>⟨x1,d8⟩⟩
|x::l,x1,hb=>by
  have hx:=hb x e_;obtain⟨i1,i2⟩:=DR (W:=W) l (some (.str (word x o))) fun z hz=>hb z (h_ _ hz);have t:cn (aI (af (gv 1) ab) [] jo) [some W,some (.str (word x o))]=.ok (decide (o=some x)):=ip (d:=.bl (decide (o=some x))) (aT (ag (d:=.str (word x o)) rfl aj) (zm o hx)) rfl;by_cases c:o=some x
  .rw[decide_eq_true c]at t;refine⟨fun y ey _=>?_,fun h=>absurd e_ (h x c)⟩;have:y=x:=by rw[c]at ey;exact(H_ ey).symm
   subst this;refine uV (r1:=[some W,some (.str (word y o))]) rfl (aQ ((cM t).trans (aQ (aZ ?_))));exact fL (d:=.str "ABCDEFGH") rfl rfl (ag (d:=.str (az y)) (aT (ag (d:=.str (word y o)) rfl aj) (yS o hx)) aj) (ES hx)
  .rw[decide_eq_false c]at t;have st:aD (ay 1) oV ((x::l).map fun x=>D.str (word x o)) [some W,x1]=aD (ay 1) oV (l.map fun x=>D.str (word x o)) [some W,some (.str (word x o))]:=dJ (r1:=[some W,some (.str (word x o))]) rfl (aq ((bG t).trans (e_skip _)));rw[st];refine⟨fun y ey hy=>i1 y ey ?_,fun h=>i2 fun y ey hy=>h y ey (h_ _ hy)⟩;rcases n_.mp hy with z|z
   .exact absurd (by rw[<-z];exact ey) c
   .exact z
theorem Pq(hb:∀x∈row,x<8)(ho:∀y,o=some y->y∈row):oF [WS row o]=.ok (oD o):=by obtain⟨i1,i2⟩:=DR (o:=o) (W:=WS row o) row none hb;refine bj (B:=wR) (n:=2) ?_;unfold wR;cases o with
|none=>obtain⟨y1,h⟩:=i2 fun y ey=>nomatch ey;exact(aq ((dE (eG (d:=WS row none) rfl rfl)).trans h)).trans (aQ (aZ rfl))
|some y=>exact aQ ((dE (eG (d:=WS row (some y)) rfl rfl)).trans (i1 y rfl (ho y rfl)))
end
structure Txs(rows:List (List Nat))(owns:List (Option Nat))(n m:Nat):Prop where
 n1:1<=n
 n7:n<=7
 nm:n<=m
 m8:m<=8
 rl:rows.length=n
 rp:∀row∈rows,row.Perm (t_ m)
 ow:Own owns m
 ol:owns.length=n
variable{rows:List (List Nat)}{owns:List (Option Nat)}{n m:Nat}
theorem Txs.bd(S:Txs rows owns n m):∀row∈rows,∀x∈row,x<m:=fun row hr x hx=>A_.mp ((S.rp row hr).mem_iff.mp hx)
theorem Txs.b8(S:Txs rows owns n m):∀row∈rows,∀x∈row,x<8:=fun row hr x hx=>F_ (S.bd row hr x hx) S.m8
theorem Txs.len(S:Txs rows owns n m):∀row∈rows,row.length=m:=fun row hr=>by rw[(S.rp row hr).length_eq];simp
theorem Txs.l8(S:Txs rows owns n m):∀row∈rows,row.length<=8:=fun row hr=>by rw[S.len row hr];exact S.m8
theorem Txs.nd(S:Txs rows owns n m):∀row∈rows,row.Nodup:=fun row hr=>(S.rp row hr).nodup_iff.mpr Vy
theorem Txs.zl(S:Txs rows owns n m):(rows.zip owns).length=n:=by rw[Xr,S.rl,S.ol,ZB]
theorem Txs.zr(S:Txs rows owns n m){p:List Nat×Option Nat}(h:p∈rows.zip owns):p.1∈rows/\p.2∈owns:=U3 h
theorem Eg{W:D}:∀(l:List (List Nat))(k:Nat)(x y:Option D),(∀row∈l,row.Nodup/\(∀z∈row,z<m)/\row.length=m)->m<=8->∃x' y',aD (dq (bD (ay 2) (bD (ay 3) c9))) Ht (cg k (l.map LN)) [some W,some (nD m),x,y]=.nx [some W,some (nD m),x',y']
|[],k,x,y,_,_=>⟨x,y,d8⟩
|row::l,k,x,y,h,hm=>by obtain⟨x',y',ih⟩:=Eg (W:=W) l (k+1) (some (nD k)) (some (LN row)) (fun r hr=>h r (h_ _ hr)) hm;obtain⟨h1,h2,h3⟩:=h row e_;refine⟨x',y',?_⟩;rw[<-ih];refine dJ (r1:=[some W,some (nD m),some (nD k),some (LN row)]) rfl (aq ((bG ?_).trans (e_skip _)));exact lv (b:=true) (ip (d:=.bl true) (aT (ag (d:=LN row) rfl (ag (d:=nD m) rfl aj)) (DK h1 h2 h3 (by omega))) rfl)
theorem kA{m:List Md}{f:FE}{r:am}{d:D}(h:f r=.ok d):iI m f r=.nx r:=by unfold iI;rw[h];rfl
theorem Ng{zs:List D}(h1:1<=zs.length)(h7:zs.length<=7):sQ [.lst zs]=.ok .non:=by
 show av false (sP (aE 1 [.lst zs]))=_;have ln:fC (af (gv 0) ab) lenD (aE 1 [.lst zs])=.ok (nD zs.length):=bm (ag (d:=.lst zs) rfl aj) rfl;have:sP (aE 1 [.lst zs])=.nx [some (.lst zs)]:=by unfold sP;refine aq ((bG ?_).trans (e_skip _));refine(dY (bZ (ax (a:=nD zs.length) (b:=nD 1) ln rfl (by rw[mE,decide_eq_false (by omega)])))).trans (bZ (ax (a:=nD zs.length) (b:=nD 7) ln rfl (by rw[my,decide_eq_false (by omega)])))
 rw[this];rfl
theorem Kl(S:Txs rows owns n m):so [.lst (rows.map LN)]=.ok (WD rows):=by
 have hn:=S.rl;have Y:=S.n1;have L:=S.n7;have U:=S.m8;have M:=S.nm;obtain⟨x',y',hl⟩:=Eg (W:=.lst (rows.map LN)) (m:=m) rows 0 none none (fun row hr=>⟨S.nd row hr,S.bd row hr,S.len row hr⟩) S.m8;obtain⟨r0,e0,h0⟩:∃r0,(rows.map LN)[0]? = some (LN r0)/\r0.length=m:=by cases rows with
 |nil=>simp at hn;omega
 |cons r t=>exact⟨r,rfl,S.len r e_⟩
 refine bj (B:=zL) (n:=4) ?_;unfold zL;refine(aq (kA (aT (ag (d:=.lst (rows.map LN)) rfl aj) (Ng (by rw[j_];omega) (by rw[j_];omega))))).trans ?_;refine(aq (r':=[some (.lst (rows.map LN)),some (nD m),none,none]) (a9 (bm (ag (d:=LN r0) (ax (a:=.lst (rows.map LN)) (b:=nD 0) rfl rfl (mC e0)) aj) (by rw[fU,h0])))).trans ?_;refine(aq ((bG ?_).trans (e_skip _))).trans ?_
 .refine(dY (bZ (ax (a:=nD m) (b:=nD n) rfl (bm (ag (d:=.lst (rows.map LN)) rfl aj) (by rw[fU,hn])) (by rw[mE,decide_eq_false (by omega)])))).trans (bZ (ax (a:=nD m) (b:=nD 8) rfl rfl (by rw[my,decide_eq_false (by omega)])))
 refine(aq ((dE (ds:=cg 0 (rows.map LN)) rfl).trans hl)).trans (aQ (aZ ?_));refine bm (ag (d:=.lst (rows.map TN)) ((dD (l:=rows) LN (fun _=>true) TN (eG (d:=.lst (rows.map LN)) rfl rfl) (by omega) fun row hr=>⟨[some (LN row)],rfl,rfl,fun _=>bm (ag (d:=LN row) rfl aj) rfl⟩).trans (by rw[fj])) aj) rfl
theorem Lm(pre:List Nat)(k:Nat):dF (nD k) (dI pre)=some (.bl (decide (k∈pre))):=by
 show(some (cU _ (kI k))).map D.bl=_;rw[uP,K_];have:decide (k∈pre.map ((fun p:Nat×D=>p.1)∘fun k=>(k,D.bl true)))=decide (k∈pre):=by rw[decide_eq_decide];simp[Vm]
 rw[this];rfl
theorem Oe{pre:List Nat}{k:Nat}(hk:k∉pre)(hl:pre.length<=60):dN (dI pre) (nD k) (.bl true)=some (dI (pre++[k])):=by show(if _ then some (D.dic (cL _ (kI k) (.bl true)))else none)=_;rw[if_pos (by rw[j_,j_,N_];omega),E3 _ _ _ (by rw[K_];simpa[Vm]using hk)];simp
theorem xC{W T:D}(hW:jq [W]=.ok (nD m)):∀(l:List (Option Nat))(pre:List Nat)(k:Nat)(x y:Option D),(∀z,some z∈l->z<m/\z∉pre)->(∀(i j:Nat) z,l[i]? = some (some z)->l[j]? = some (some z)->i=j)->pre.length+l.length<=60->∃B x' y',aD (dq (bD (ay 3) (bD (ay 4) c9))) Gc (cg k (l.map oD)) [some W,some T,some (dI pre),x,y]=.nx [some W,some T,some (dI B),x',y']
|[],pre,k,x,y,_,_,_=>⟨pre,x,y,d8⟩
|none::l,pre,k,x,y,h,hi,hl=>by simp only[x_]at hl;obtain⟨B,x',y',ih⟩:=xC (T:=T) hW l pre (k+1) (some (nD k)) (some .non) (fun z hz=>h z (h_ _ hz)) (fun i j z h1 h2=>by have:=hi (i+1) (j+1) z h1 h2;omega) (by omega);refine⟨B,x',y',?_⟩;rw[<-ih];exact dJ (r1:=[some W,some T,some (dI pre),some (nD k),some .non]) rfl (aq ((bG (bZ (ax (a:=.non) (b:=.non) (d:=.bl false) rfl rfl rfl))).trans (e_skip _)))
|some a::l,pre,k,x,y,h,hi,hl=>by
  simp only[x_]at hl;obtain⟨ha,hap⟩:=h a e_;obtain⟨B,x',y',ih⟩:=xC (T:=T) hW l (pre++[a]) (k+1) (some (nD k)) (some (nD a)) (fun z hz=>by
   refine⟨(h z (h_ _ hz)).1,fun hm=>?_⟩;rcases Ui.mp hm with e|e
   .exact(h z (h_ _ hz)).2 e
   .obtain⟨j,hj⟩:=Wn hz;have e:=y_.mp e;subst e;have:=hi 0 (j+1) z rfl hj;omega) (fun i j z h1 h2=>by have:=hi (i+1) (j+1) z h1 h2;omega) (by simp;omega)
  refine⟨B,x',y',?_⟩;rw[<-ih];refine dJ (r1:=[some W,some T,some (dI pre),some (nD k),some (nD a)]) rfl (aq ((cM (bZ (ax (a:=nD a) (b:=.non) (d:=.bl true) rfl rfl rfl))).trans ?_));refine(aq ((bG ?_).trans (e_skip _))).trans (aq (jk (d:=dI pre) (k:=nD a) (v:=.bl true) (d':=dI (pre++[a])) rfl rfl rfl (Oe hap (by omega))));have hb:=Hm a m;rw[decide_eq_true ha]at hb;refine(dY (lv (b:=true) (ip (d:=.bl true) (aT (ag (d:=nD a) rfl (ag (d:=nD m) (aT (ag (d:=W) rfl aj) hW) aj)) hb) rfl))).trans (bZ (ax (a:=nD a) (b:=dI pre) rfl rfl ?_));rw[Lm,decide_eq_false hap]
theorem GJ(S:Txs rows owns n m):jq [WD rows]=.ok (nD m):=by have hn:=S.rl;have B:=S.n1;cases rows with
|nil=>simp at hn;omega
|cons r t=>rw[Gv,S.len r e_]
theorem Kj(S:Txs rows owns n m):rm [WD rows,.lst (owns.map oD)]=.ok (OD owns):=by
 have ho:=S.ol;have M:=S.n7;obtain⟨L,x',y',hl⟩:=xC (T:=.lst (owns.map oD)) (GJ S) owns [] 0 none none (fun z hz=>⟨S.ow.lt z hz,by simp⟩) (fun i j z h1 h2=>S.ow.inj i j z (by unfold own;rw[h1];rfl) (by unfold own;rw[h2];rfl)) (by simp;omega);refine bj (B:=xO) (n:=5) ?_;unfold xO;refine(aq ((bG (bZ (ax (a:=nD n) (b:=nD n) (d:=.bl false) (bm (ag (d:=.lst (owns.map oD)) rfl aj) (by rw[fU,ho])) (bm (ag (d:=WD rows) rfl aj) (by rw[jm,S.rl])) ?_))).trans (e_skip _))).trans ?_
 .show some (D.bl (!(((n:Nat):Int)==((n:Nat):Int))))=_;simp
 refine(aq (r':=[some (WD rows),some (.lst (owns.map oD)),some (dI []),none,none]) rfl).trans ?_;refine(aq ((dE (ds:=cg 0 (owns.map oD)) rfl).trans hl)).trans (aQ (aZ (bm (ag (d:=.lst (owns.map oD)) rfl aj) rfl)))
theorem E6{W P:D}{x4:Option D}(S:Txs rows owns n m):∀(l:List (List Nat×Option Nat))(k:Nat)(x y:Option D),(∀p∈l,p∈rows.zip owns)->∃x' y',aD (dq (bD (ay 2) (bD (ay 3) c9))) Hs (cg k (l.map fun p=>WS p.1 p.2)) [some W,some P,x,y,x4]=.nx [some W,some P,x',y',x4]
|[],k,x,y,_=>⟨x,y,d8⟩
|p::l,k,x,y,h=>by obtain⟨x',y',ih⟩:=E6 (W:=W) (P:=P) (x4:=x4) S l (k+1) (some (nD k)) (some (WS p.1 p.2)) (fun r hr=>h r (h_ _ hr));have hr:=(S.zr (h p e_)).1;refine⟨x',y',?_⟩;rw[<-ih];refine dJ (r1:=[some W,some P,some (nD k),some (WS p.1 p.2),x4]) rfl (aq ((bG ?_).trans (e_skip _)));exact lv (b:=true) (ip (d:=.bl true) (aT (ag (d:=WS p.1 p.2) rfl aj) (QE (S.nd _ hr) (S.b8 _ hr) (S.l8 _ hr))) rfl)
theorem N4(S:Txs rows owns n m):sm [.str (cw rows owns)]=.ok (.tup [WD rows,OD owns]):=by
 have hz:=S.zl;have M:=S.n1;have L:=S.n7;have hm:=Ue S.n1 S.nm;obtain⟨x',y',hl⟩:=E6 (W:=.str (cw rows owns)) (P:=.lst ((rows.zip owns).map fun p=>WS p.1 p.2)) (x4:=none) S (rows.zip owns) 0 none none (fun p hp=>hp);refine bj (B:=zH) (n:=5) ?_;unfold zH;refine(aq ((bG (lv (b:=true) (ip (d:=.bl true) (dC (a:=.str (cw rows owns)) rfl rfl) rfl))).trans (e_skip _))).trans ?_;refine(aq (r':=[some (.str (cw rows owns)),some (.lst ((rows.zip owns).map fun p=>WS p.1 p.2)),none,none,none]) (a9 ((dD (l:=rows.zip owns) (fun p=>D.str (br p.1 p.2)) (fun _=>true) (fun p=>WS p.1 p.2) (eG (d:=.lst ((rows.zip owns).map fun p=>D.str (br p.1 p.2))) (fL (d:=.str (cw rows owns)) rfl rfl (ag (d:=.str "; ") rfl aj) (Qw (by intro z;rw[z]at hz;simp at hz;omega) S.l8 (by rw[S.rl];omega))) rfl) (by omega) fun p hp=>⟨[some (.str (br p.1 p.2))],rfl,rfl,fun _=>fL (d:=.str (br p.1 p.2)) rfl rfl (ag (d:=.str " ") rfl aj) (Q4 p.2 (by intro z;have:=S.len p.1 (S.zr hp).1;rw[z]at this;simp at this;omega) (S.l8 _ (S.zr hp).1))⟩).trans (by rw[fj])))).trans ?_;refine(aq ((dE (ds:=cg 0 ((rows.zip owns).map fun p=>WS p.1 p.2)) rfl).trans hl)).trans ?_;have c1:bN 1 [] (aL bz (gv 1)) (ay 0) (fun _=>Res.ok true) (aI (af (gv 0) ab) [] oG) [some (.str (cw rows owns)),some (.lst ((rows.zip owns).map fun p=>WS p.1 p.2)),x',y',none]=.ok (.lst (rows.map LN)):=by
  refine(dD (l:=rows.zip owns) (fun p=>WS p.1 p.2) (fun _=>true) (fun p=>LN p.1) (eG (d:=.lst ((rows.zip owns).map fun p=>WS p.1 p.2)) rfl rfl) (by omega) fun p hp=>⟨[some (WS p.1 p.2)],rfl,rfl,fun _=>aT (ag (d:=WS p.1 p.2) rfl aj) (Ps (S.b8 _ (S.zr hp).1) (S.l8 _ (S.zr hp).1))⟩).trans ?_;rw[fj];congr 2;have:=List.map_fst_zip (l₁:=rows) (l₂:=owns) (by rw[S.rl,S.ol];exact s_ _)
  conv=>rhs;rw[<-this]
  rw[K_];rfl
 have c2:∀x4:Option D,bN 1 [] (aL bz (gv 1)) (ay 0) (fun _=>Res.ok true) (aI (af (gv 0) ab) [] oF) [some (.str (cw rows owns)),some (.lst ((rows.zip owns).map fun p=>WS p.1 p.2)),x',y',x4]=.ok (.lst (owns.map oD)):=by
  intro x4;refine(dD (l:=rows.zip owns) (fun p=>WS p.1 p.2) (fun _=>true) (fun p=>oD p.2) (eG (d:=.lst ((rows.zip owns).map fun p=>WS p.1 p.2)) rfl rfl) (by omega) fun p hp=>⟨[some (WS p.1 p.2)],rfl,rfl,fun _=>aT (ag (d:=WS p.1 p.2) rfl aj) (Pq (S.b8 _ (S.zr hp).1) fun y ey=>?_)⟩).trans ?_
  .rw[(S.rp _ (S.zr hp).1).mem_iff,A_];exact S.ow.lt y (by rw[<-ey];exact(S.zr hp).2)
  .rw[fj];congr 2;have:=Yt (l₁:=rows) (l₂:=owns) (by rw[S.rl,S.ol];exact s_ _)
   conv=>rhs;rw[<-this]
   rw[K_];rfl
 refine(aq (r':=[some (.str (cw rows owns)),some (.lst ((rows.zip owns).map fun p=>WS p.1 p.2)),x',y',some (WD rows)]) (a9 (aT (ag (d:=.lst (rows.map LN)) c1 aj) (Kl S)))).trans (aQ (aZ ?_));exact fQ (ag (d:=WD rows) rfl (ag (d:=OD owns) (aT (ag (d:=WD rows) rfl (ag (d:=.lst (owns.map oD)) (c2 _) aj)) (Kj S)) aj)) (by simp)
theorem LO:nZ (.str "*") (.int 1)=some (.str "*"):=by kernel_rfl
theorem LM:nZ (.str "*") (.int 0)=some (.str WB):=by kernel_rfl
section
variable{a0 a1 a2 a3:Option D}
theorem D6:∀(l:List Nat)(ws:List Str)(x6:Option D),(∀x∈l,x<8)->ws.length+l.length<=60->∃y6,aD (ay 6) Hn (l.map nD) [a0,a1,a2,a3,some (oD o),some (.lst (ws.map D.str)),x6]=.nx [a0,a1,a2,a3,some (oD o),some (.lst ((ws++l.map fun x=>word x o).map D.str)),y6]
|[],ws,x6,_,_=>⟨x6,by rw[UV,UV,UG];exact d8⟩
|x::l,ws,x6,hb,hl=>by
  simp only[x_]at hl;have hx:=hb x e_;obtain⟨y6,ih⟩:=D6 l (ws++[word x o]) (some (nD x)) (fun z hz=>hb z (h_ _ hz)) (by simp;omega);refine⟨y6,?_⟩;rw[L_,L_,show ws++(word x o::l.map fun x=>word x o)=ws++[word x o]++l.map fun x=>word x o by simp,<-ih];refine dJ (r1:=[a0,a1,a2,a3,some (oD o),some (.lst (ws.map D.str)),some (nD x)]) rfl (aq ?_);refine(gN (d:=.lst (ws.map D.str)) (ds:=[.str (word x o)]) (d':=.lst (ws.map D.str++[.str (word x o)])) rfl rfl (ag ?_ aj) (jJ (by simp;omega))).trans (by rw[Q_];rfl);have e1:f2 (fun _=>Res.ok (D.str "ABCDEFGH")) (gv 6) aX [a0,a1,a2,a3,some (oD o),some (.lst (ws.map D.str)),some (nD x)]=.ok (.str (az x)):=ax (a:=.str "ABCDEFGH") (b:=nD x) rfl rfl (om hx);have e2:fC (af (f2 (gv 6) (gv 4) eqD) ab) nV [a0,a1,a2,a3,some (oD o),some (.lst (ws.map D.str)),some (nD x)]=.ok (.int (if decide (o=some x)=true then 1 else 0)):=bm (ag (d:=.bl (decide (o=some x))) (ax (a:=nD x) (b:=oD o) rfl rfl (CG x o)) aj) rfl;unfold word;by_cases c:o=some x
  .rw[decide_eq_true c,if_pos rfl]at e2;rw[if_pos c];exact ax (a:=.str (az x)) (b:=.str "*") e1 (ax (a:=.str "*") (b:=.int 1) rfl e2 LO) (ly (ET x))
  .rw[decide_eq_false c,if_neg g_]at e2;rw[if_neg c];refine ax (a:=.str (az x)) (b:=.str WB) e1 (ax (a:=.str "*") (b:=.int 0) rfl e2 LM) ?_;rw[ly (by show 1+0<=1000;decide),Str.append_empty]
theorem D5(S:Txs rows owns n m){W O:D}:∀(l:List (List Nat×Option Nat))(ps:List Str)(x3 x4 x5 x6:Option D),(∀p∈l,p∈rows.zip owns)->ps.length+l.length<=60->∃y3 y4 y5 y6,aD (dq (bD (ay 3) (bD (ay 4) c9))) Ho (l.map fun p=>.tup [TN p.1,oD p.2]) [some W,some O,some (.lst (ps.map D.str)),x3,x4,x5,x6]=.nx [some W,some O,some (.lst ((ps++l.map fun p=>br p.1 p.2).map D.str)),y3,y4,y5,y6]
|[],ps,x3,x4,x5,x6,_,_=>⟨x3,x4,x5,x6,by rw[UV,UV,UG];exact d8⟩
|p::l,ps,x3,x4,x5,x6,hp,hl=>by
  simp only[x_]at hl;have hr:=(S.zr (hp p e_)).1;have h8:=S.l8 _ hr;obtain⟨z6,hw⟩:=D6 (a0:=some W) (a1:=some O) (a2:=some (.lst (ps.map D.str))) (a3:=some (TN p.1)) (o:=p.2) p.1 [] x6 (S.b8 _ hr) (by simp;omega);rw[Xp,UV]at hw;obtain⟨y3,y4,y5,y6,ih⟩:=D5 S (W:=W) (O:=O) l (ps++[br p.1 p.2]) (some (TN p.1)) (some (oD p.2)) (some (.lst ((p.1.map fun x=>word x p.2).map D.str))) z6 (fun q hq=>hp q (h_ _ hq)) (by simp;omega);refine⟨y3,y4,y5,y6,?_⟩;rw[L_,L_,show ps++(br p.1 p.2::l.map fun p=>br p.1 p.2)=ps++[br p.1 p.2]++l.map fun p=>br p.1 p.2 by simp,<-ih];refine dJ (r1:=[some W,some O,some (.lst (ps.map D.str)),some (TN p.1),some (oD p.2),x5,x6]) rfl ?_;refine(aq (r':=[some W,some O,some (.lst (ps.map D.str)),some (TN p.1),some (oD p.2),some (.lst []),x6]) (a9 (gM aj (by simp)))).trans ?_;refine(aq ((dE (eG (d:=TN p.1) rfl rfl)).trans hw)).trans (aq ?_);have h3:((" " : Str)).length=1:=by decide+kernel
  refine(gN (d:=.lst (ps.map D.str)) (ds:=[.str (br p.1 p.2)]) (d':=.lst (ps.map D.str++[.str (br p.1 p.2)])) rfl rfl (ag (fL (d:=.str " ") rfl rfl (ag (d:=.lst ((p.1.map fun x=>word x p.2).map D.str)) rfl aj) (mQ (B:=2) (fun y hy=>by obtain⟨x,_,rfl⟩:=p_.mp hy;exact wZ x _) (by rw[h3,j_];omega))) aj) (jJ (by simp;omega))).trans (by rw[Q_];rfl)
theorem FM(S:Txs rows owns n m):lH [WD rows,OD owns]=.ok (.str (cw rows owns)):=by
 have hz:=S.zl;have L:=S.n7;obtain⟨y3,y4,y5,y6,hl⟩:=D5 S (W:=WD rows) (O:=OD owns) (rows.zip owns) [] none none none none (fun p hp=>hp) (by rw[VI];omega);refine bj (B:=zB) (n:=7) ?_;unfold zB;refine(aq (r':=[some (WD rows),some (OD owns),some (.lst []),none,none,none,none]) (a9 (gM aj (by simp)))).trans ?_;refine(aq ((dE ((vQ (d:=WD rows) (e:=OD owns) rfl rfl rfl rfl).trans (by rw[Cw]))).trans hl)).trans (aQ (aZ ?_));have h3:(("; " : Str)).length=2:=by decide+kernel
 exact fL (d:=.str "; ") rfl rfl (ag (d:=.lst (((rows.zip owns).map fun p=>br p.1 p.2).map D.str)) rfl aj) (mQ (B:=24) (fun y hy=>by obtain⟨p,hp,rfl⟩:=p_.mp hy;exact rc p.2 (S.l8 _ (S.zr hp).1)) (by rw[h3,j_];omega))
end
def mD(owns:List (Option Nat))(x:Nat)(l:List Nat)(here:Nat):Nat:=l.foldl (fun acc h=>if own owns h=some x then h else acc) here
theorem GF{owns:List (Option Nat)}{x:Nat}:∀{l:List Nat}{here:Nat},(∀h∈l,own owns h≠some x)->mD owns x l here=here
|[],_,_=>rfl
|a::l,here,h=>by show mD owns x l (if own owns a=some x then a else here)=here;rw[if_neg (h a e_)];exact GF fun k hk=>h k (h_ _ hk)
theorem GG{owns:List (Option Nat)}{x k:Nat}(hk:own owns k=some x)(hu:∀h,own owns h=some x->h=k):∀{l:List Nat}{here:Nat},k∈l\/here=k->mD owns x l here=k
|[],_,h=>by
  rcases h with z|z
  .cases z
  .exact z
|a::l,here,h=>by
  show mD owns x l (if own owns a=some x then a else here)=k;refine GG hk hu ?_;by_cases e:own owns a=some x
  .rw[if_pos e];exact .inr (hu a e)
  .rw[if_neg e];rcases h with z|z
   .rcases n_.mp z with rfl|z
    .exact absurd hk e
    .exact .inl z
   .exact .inr z
section
variable{s:Rg.S}
theorem NC(k:Rg.Ok (Wr rows) (own owns) s)(x:Nat):mD owns x s.line (s.line.headD 0)=Rg.pt (own owns) s x:=by unfold Rg.pt;cases e:s.line.find? fun h=>decide (own owns h=some x)with
|none=>exact GF fun h hh=>by simpa using Uq.mp e h hh
|some h=>have h1:=V7 e;simp only[decide_eq_true_eq]at h1;exact GG h1 (fun j hj=>k.inj j h x hj h1) (.inl (Vf e))
theorem D3(w od th ln g path:Option D)(x:Nat):∀(l:List Nat)(here:Nat)(y:Option D),(∀h∈l,h<owns.length) ->∃y',aD (ay 9) Ia (l.map nD) [w,some (OD owns),od,th,ln,g,some (nD here),path,some (nD x),y]=.nx [w,some (OD owns),od,th,ln,g,some (nD (mD owns x l here)),path,some (nD x),y']
|[],here,y,_=>⟨y,d8⟩
|h::l,here,y,hl=>by
  obtain⟨y',ih⟩:=D3 w od th ln g path x l (if own owns h=some x then h else here) (some (nD h)) fun k hk=>hl k (h_ _ hk);refine⟨y',XB ?_ ih⟩;have c:(aW (f2 (f2 (gv 1) (gv 9) aX) (gv 8) eqD)) [w,some (OD owns),od,th,ln,g,some (nD here),path,some (nD x),some (nD h)]=.ok (decide (own owns h=some x)):=bZ (ax (ax (a:=OD owns) (b:=nD h) rfl rfl (ig (Df (hl h e_)))) (b:=nD x) rfl (tH _ _));refine dJ (r1:=[w,some (OD owns),od,th,ln,g,some (nD here),path,some (nD x),some (nD h)]) rfl ?_;by_cases e:own owns h=some x
  .rw[decide_eq_true e]at c;rw[if_pos e];exact(aq ((cM c).trans (aq (a9 (d:=nD h) rfl)))).trans rfl
  .rw[decide_eq_false e]at c;rw[if_neg e];exact(aq ((bG c).trans (e_skip _))).trans rfl
theorem Mh(S:Snd rows owns s)(od g:Option D):∀(j:Nat)(path:List Nat)(here:Nat)(x y:Option D),here∈s.line->path.length<=s.line.length->path.Nodup->(∀h∈path,h∈s.line)->s.line.length<j+path.length ->
  ∃x' y',eJ c0 AJ Ib j [some (WD rows),some (OD owns),od,some (LN s.things),some (LN s.line),g,some (nD here),some (LN path),x,y]
   = .nx [some (WD rows),some (OD owns),od,some (LN s.things),some (LN s.line),g,some (nD (Rg.jx (fS rows owns s) j path here).2),some (LN (Rg.jx (fS rows owns s) j path here).1),x',y']:=by
 intro j
 induction j with
|zero=>intro path here x y _ h1 _ _ h2;omega
|succ j ih=>
  intro path here x y hh hl hn hs hj;have q:AJ [some (WD rows),some (OD owns),od,some (LN s.things),some (LN s.line),g,some (nD here),some (LN path),x,y]=.ok (! decide (here∈path)):=bZ (ax (a:=nD here) (b:=LN path) rfl rfl (CQ _ _));by_cases c:here∈path
  .rw[decide_eq_true c]at q;refine⟨x,y,(qL q).trans ?_⟩;unfold Rg.jx;rw[if_pos c]
  .rw[decide_eq_false c]at q;have B:(path++[here]).Nodup:=Vl.mpr ⟨hn,by simp,fun a ha b hb=>by rw[y_.mp hb];rintro rfl;exact c ha⟩;have L:∀h∈path++[here],h∈s.line:=fun h M=>by
    rcases Ui.mp M with z|z
    .exact hs h z
    .rw[y_.mp z];exact hh
   obtain⟨y1,hp⟩:=D3 (owns:=owns) (some (WD rows)) od (some (LN s.things)) (some (LN s.line)) g (some (LN (path++[here]))) (tS rows s here) s.line (s.line.headD 0) y S.ino;rw[NC S.ok]at hp;have hf:fS rows owns s here∈s.line:=Rg.ll (Ur hh);obtain⟨x',y',h3⟩:=ih (path++[here]) (fS rows owns s here) (some (nD (tS rows s here))) y1 hf (Rg.lC B L) B L (by simp;omega);refine⟨x',y',(qM q ?_).trans (h3.trans ?_)⟩
   .have hap:appD (LN path) [nD here]=some (LN (path++[here])):=by rw[jJ (by have:=S.nl;simp;omega)];show some (D.lst _)=some (D.lst _);rw[Q_];rfl
    refine(aq (gN (d:=LN path) (ds:=[nD here]) rfl rfl (ag (d:=nD here) rfl aj) hap)).trans ?_;refine(aq (a9 (d:=nD (tS rows s here)) (aT (ag (ax (a:=WD rows) (b:=nD here) rfl rfl (ig (vC (S.inr here hh)))) (ag (d:=LN s.things) rfl aj)) (FK (S.ok.some_thing hh))))).trans ?_;refine(aq (a9 (d:=nD (s.line.headD 0)) (ax (a:=LN s.line) (b:=.int 0) rfl rfl ?_))).trans ?_
    .cases e:s.line with
    |nil=>rw[e]at hh;cases hh
    |cons b t=>exact ixA_L0 _ _
    exact aq ((dE (ds:=s.line.map nD) rfl).trans hp)
   .have e:Rg.jx (fS rows owns s) (j+1) path here=Rg.jx (fS rows owns s) j (path++[here]) (fS rows owns s here):=by
     conv=>lhs;unfold Rg.jx
     rw[if_neg c]
    rw[e]
theorem Do(S:Snd rows owns s){a:Nat->Nat}{n:Nat}(od ln here path B:Option D):∀(C:List Nat)(g:List (Option Nat))(y:Option D),g.length=n->(∀h∈C,h∈s.line/\h<n/\a h=tS rows s h) ->∃(g':List (Option Nat))(y':Option D),g'.length=n/\(∀h,h∈C->g'[h]? = some (some (a h)))/\(∀h,h∉C->g'[h]? = g[h]?) /\aD (ay 9) HW (C.map nD) [some (WD rows),some (OD owns),od,some (LN s.things),ln,some (.lst (g.map oD)),here,path,B,y]=.nx [some (WD rows),some (OD owns),od,some (LN s.things),ln,some (.lst (g'.map oD)),here,path,B,y']
|[],g,y,hg,_=>⟨g,y,hg,fun h hh=>(nomatch hh),fun _ _=>rfl,d8⟩
|h::C,g,y,hg,hC=>by
  obtain⟨h1,h2,h3⟩:=hC h e_;obtain⟨g',y',i1,i2,i3,i4⟩:=Do S (a:=a) (n:=n) od ln here path B C (g.set h (some (a h))) (some (nD h)) (by simpa using hg) fun k hk=>hC k (h_ _ hk);refine⟨g',y',i1,fun k hk=>?_,fun k hk=>?_,XB ?_ i4⟩
  .by_cases z:k∈C
   .exact i2 k z
   .have:k=h:=(n_.mp hk).resolve_right z;subst this;rw[i3 k z,o_ (by omega)]
  .rw[i3 k fun z=>hk (h_ _ z),d_ (by rintro rfl;exact hk e_)]
  .refine dJ (r1:=[some (WD rows),some (OD owns),od,some (LN s.things),ln,some (.lst (g.map oD)),here,path,B,some (nD h)]) rfl ?_;refine(aq (jk (d:=.lst (g.map oD)) (k:=nD h) (v:=nD (tS rows s h)) (d':=.lst ((g.set h (some (a h))).map oD)) rfl (aT (ag (ax (a:=WD rows) (b:=nD h) rfl rfl (ig (vC (S.inr h h1)))) (ag (d:=LN s.things) rfl aj)) (FK (S.ok.some_thing h1))) rfl ?_)).trans rfl;show(gl (g.map oD).length (h:Int)).map (fun j=>D.lst ((g.map oD).set j (nD (tS rows s h))))=_;unfold gl;rw[if_pos (VE h),if_pos (by rw[j_];omega),Wz,h3];rfl
theorem Dp{a:Nat->Nat}(w ow od here path B:Option D)(g:List (Option Nat)):∀(C L T:List Nat)(y:Option D),C.Nodup->(C.map a).Nodup->(∀h∈C,h∈L/\a h∈T/\g[h]? = some (some (a h))) ->∃y',aD (ay 9) HX (C.map nD) [w,ow,od,some (LN T),some (LN L),some (.lst (g.map oD)),here,path,B,y]=.nx [w,ow,od,some (LN ((C.map a).foldl (fun l h=>l.erase h) T)),some (LN (C.foldl (fun l h=>l.erase h) L)),some (.lst (g.map oD)),here,path,B,y']
|[],L,T,y,_,_,_=>⟨y,d8⟩
|h::C,L,T,y,n1,n2,hC=>by
  have U:=U2.mp n1;have M:=U2.mp n2;obtain⟨h1,h2,h3⟩:=hC h e_;obtain⟨y',ih⟩:=Dp (a:=a) w ow od here path B g C (L.erase h) (T.erase (a h)) (some (nD h)) U.2 M.2 fun k hk=>by
   obtain⟨z1,z2,z3⟩:=hC k (h_ _ hk);refine⟨(Wm ?_).mpr z1,(Wm ?_).mpr z2,z3⟩
   .rintro rfl;exact U.1 hk
   .intro q;exact M.1 (by rw[<-q];exact p_.mpr ⟨k,hk,rfl⟩)
  refine⟨y',XB ?_ ih⟩;refine dJ (r1:=[w,ow,od,some (LN T),some (LN L),some (.lst (g.map oD)),here,path,B,some (nD h)]) rfl ?_;refine(aq (gN (d:=LN L) (ds:=[nD h]) rfl rfl (ag (d:=nD h) rfl aj) (C4 h1))).trans ?_;refine(aq (gN (d:=LN T) (ds:=[nD (a h)]) rfl rfl (ag (ax (a:=.lst (g.map oD)) (b:=nD h) (d:=nD (a h)) rfl rfl (mC (by rw[D_,h3];rfl))) aj) (C4 h2))).trans rfl
end
theorem Nf{a:Nat->Nat}{n:Nat}(od:Option D):∀(j:Nat)(s:Rg.S)(g:List (Option Nat))(x1 x2 x3 x4:Option D),Snd rows owns s->Rg.TTC (Wr rows) (own owns) a s->s.line.length<j->(∀h∈s.line,h<n)->g.length=n->(∀h,h<n->h∉s.line->g[h]? = some (some (a h))) ->
  ∃(g':List (Option Nat))(T':List Nat)(y1 y2 y3 y4:Option D),g'.length=n/\(∀h,h<n->g'[h]? = some (some (a h))) /\
   eJ gU AK HY j [some (WD rows),some (OD owns),od,some (LN s.things),some (LN s.line),some (.lst (g.map oD)),x1,x2,x3,x4]
    = .nx [some (WD rows),some (OD owns),od,some (LN T'),some (LN []),some (.lst (g'.map oD)),y1,y2,y3,y4]:=by
 intro j
 induction j with
|zero=>intro s g x1 x2 x3 x4 _ _ h;omega
|succ j ih=>intro s g x1 x2 x3 x4 S t hj B hg hd;have q:AK [some (WD rows),some (OD owns),od,some (LN s.things),some (LN s.line),some (.lst (g.map oD)),x1,x2,x3,x4]=.ok (decide (0<s.line.length)):=bZ (ax (b:=nD 0) (bm (ag (d:=LN s.line) rfl aj) (fU _ _)) rfl (my s.line.length 0));cases hq:s.line with
 |nil=>rw[hq]at q hd;exact⟨g,s.things,x1,x2,x3,x4,hg,fun h hh=>hd h hh (fun z=>(nomatch z)),qL q⟩
 |cons f rest=>
   have hf:f∈s.line:=by rw[hq];exact e_
   rw[decide_eq_true (UR hf)]at q;have hcl:∀h∈s.line,fS rows owns s h∈s.line:=fun h hh=>Rg.ll (Ur hh);obtain⟨k,k1,k2,k3⟩:=Rg.K3 hcl hf 64 0 (by simp[Rg.bL]) (by have:=S.nl;omega);have e0:Rg.bL (fS rows owns s) f 0=[]:=rfl;have e1:Rg.it (fS rows owns s) 0 f=f:=rfl;rw[e0,e1]at k3;obtain⟨c,hne⟩:=Rg.Kz hf k1 k2;obtain⟨x',y',hw⟩:=Mh S od (some (.lst (g.map oD))) 64 [] f x3 x4 hf (Uf _) (by simp) (fun h hh=>(nomatch hh)) (by have:=S.nl;simp;omega);rw[k3]at hw;have M:=VP k2;generalize hC:(Rg.bL (fS rows owns s) f k).drop ((Rg.bL (fS rows owns s) f k).idxOf (Rg.it (fS rows owns s) k f))=C at c hne;have nC:C.Nodup:=by rw[<-hC];exact X6 (List.drop_sublist _ _) k1
   obtain⟨t1,t2⟩:=Rg.BD t S.ok c;have inj:=Rg.IQ t S.ok;have L:(C.map a).Nodup:=by rw[VR,WV];exact W3 (fun ha hb h z=>h (inj _ (c.sub _ ha) _ (c.sub _ hb) z)) nC
   have ea:C.map a=C.map (tS rows s):=U5 t2;obtain⟨g1,w1,i1,i2,i3,i4⟩:=Do S (a:=a) (n:=n) od (some (LN s.line)) (some (nD (Rg.it (fS rows owns s) k f))) (some (LN (Rg.bL (fS rows owns s) f k))) x' C g y' hg fun h hh=>⟨c.sub h hh,B h (c.sub h hh),t2 h hh⟩
   obtain⟨w2,i5⟩:=Dp (a:=a) (some (WD rows)) (some (OD owns)) od (some (nD (Rg.it (fS rows owns s) k f))) (some (LN (Rg.bL (fS rows owns s) f k))) x' g1 C s.line s.things w1 nC L fun h hh=>⟨c.sub h hh,Rg.uK t S.ok h (c.sub h hh),i2 h hh⟩
   rw[Rg.vU S.ok.nl,Rg.vU S.ok.nt,ea]at i5;have hlt:=Ey c hne;obtain⟨g',T',y1,y2,y3,y4,j1,j2,j3⟩:=ih (Rg.minus (Wr rows) s C) g1 (some (nD (Rg.it (fS rows owns s) k f))) (some (LN (Rg.bL (fS rows owns s) f k))) x' w2 (S.minus c) t1 (by omega) (fun h hh=>B h (B_.mp hh).1) i1 fun h hh hn=>by
    by_cases z:h∈C
    .exact i2 h z
    .rw[i3 h z];exact hd h hh fun w=>hn (B_.mpr ⟨w,by simpa using z⟩)
   refine⟨g',T',y1,y2,y3,y4,j1,j2,?_⟩;rw[<-hq];refine(qM q ?_).trans j3;refine(aq (a9 (d:=nD f) (ax (a:=LN s.line) (b:=.int 0) rfl rfl ?_))).trans ?_
   .rw[hq];exact ixA_L0 _ _
   refine(aq (a9 (d:=LN []) (gM aj (by simp)))).trans ?_;refine(aq hw).trans ?_;have sl:∀gg ww:Option D,∀th ln:List Nat,(aL bz (Bs (gv 7) (iJ (fM "list" (gv 7) (af (gv 6) ab) oy)) (fun _=>Res.ok none))) [some (WD rows),some (OD owns),od,some (LN th),some (LN ln),gg,some (nD (Rg.it (fS rows owns s) k f)),some (LN (Rg.bL (fS rows owns s) f k)),x',ww]=.ok (C.map nD):=by intro gg ww th ln;refine eG (d:=LN C) (IE (d:=LN (Rg.bL (fS rows owns s) f k)) rfl (m3 (i:=((Rg.bL (fS rows owns s) f k).idxOf (Rg.it (fS rows owns s) k f):Nat)) (fL (d:=LN (Rg.bL (fS rows owns s) f k)) rfl rfl (ag (d:=nD (Rg.it (fS rows owns s) k f)) rfl aj) (Nx k2))) rfl ?_) rfl;rw[MV (by omega),hC]
   refine(aq ((dE (sl _ _ _ _)).trans i4)).trans ?_;exact aq ((dE (sl _ _ _ _)).trans i5)
section
variable{o:Option (List Nat)}
theorem Scene.dealt(S:Scene rows owns o n m){a:Nat->Nat}(t:Rg.TTC (Wr rows) (own owns) a (s0 rows o)):nH [WD rows,OD owns,LN (s0 rows o).line]=.ok (TN ((t_ n).map a)):=by
 have ac:(s0 rows o).line.length=n:=by rw[S.line_perm.length_eq];simp
 obtain⟨g',T',y1,y2,y3,y4,j1,j2,j3⟩:=Nf (rows:=rows) (owns:=owns) (a:=a) (n:=n) (some (LN (s0 rows o).line)) 64 (s0 rows o) ((s0 rows o).line.map fun _=>none) none none none none S.snd t (by have:=S.n7;omega) (fun h hh=>S.mem.mp hh) (by rw[j_,ac]) (fun h hh hn=>absurd (S.mem.mpr hh) hn);refine bj (B:=AM) (n:=10) ?_;unfold AM;have hr:=S.ne;have h0:=S.row0;have dl:=S.m8;have ad:=S.n7;have Z:=S.things;have hg:g'=(t_ n).map fun h=>some (a h):=by
  refine WW fun h=>?_;by_cases hh:h<n
  .rw[j2 h hh,D_,U4 hh];rfl
  .rw[UC (by omega),UC (by simp;omega)]
 have L:tupD [.lst (g'.map oD)]=some (TN ((t_ n).map a)):=by rw[e_tupL,hg,K_];show some (D.tup _)=some (D.tup _);rw[K_];rfl
 have M:∃r0,aX (WD rows) (.int 0)=some (TN r0)/\lenD [TN r0]=some (nD m):=by cases rows with
 |nil=>exact absurd rfl hr
 |cons r rest=>exact⟨r,ixA_T0 _ _,by rw[jm];have:r.length=m:=h0;rw[this]⟩
 obtain⟨r0,Y,U⟩:=M;rw[Z]at j3;refine(aq (a9 (d:=LN (t_ m)) (bm (ag (d:=nD m) (bm (ag (ax (a:=WD rows) (b:=.int 0) rfl rfl Y) aj) U) aj) (qP (by omega))))).trans ?_;refine(aq (a9 (d:=LN (s0 rows o).line) (bm (ag (d:=LN (s0 rows o).line) rfl aj) rfl))).trans ?_;refine(aq (a9 (dD (l:=(s0 rows o).line) nD (fun _=>true) (fun _=>.non) rfl (by omega) fun h hh=>⟨[some (nD h)],rfl,rfl,fun _=>rfl⟩))).trans ?_;rw[fj];have em:(s0 rows o).line.map (fun _=>D.non)=((s0 rows o).line.map fun _=>(none:Option Nat)).map oD:=by rw[K_];rfl
 rw[em];refine(aq j3).trans ?_;exact aQ (aZ (bm (ag (d:=.lst (g'.map oD)) rfl aj) L))
end
section
variable{f f':FE}{r:am}
theorem uU(h:∃c:Nat,f r=.ok (nD c))(h':∃c:Nat,f' r=.ok (nD c)):∃c:Nat,f2 f f' addA r=.ok (nD c):=by obtain⟨i,hi⟩:=h;obtain⟨j,hj⟩:=h';exact⟨i+j,ax hi hj (lz i j)⟩
theorem qr{b:Nat}(h:∃c:Nat,f r=.ok (nD c))(h':f' r=.ok (nD b))(hb:b<2^64):∃c:Nat,f2 f f' bi r=.ok (nD c):=by obtain⟨i,hi⟩:=h;refine⟨i*b,ax hi h' ?_⟩;rw[D9 (.inr ⟨by omega,by omega⟩)];show some (D.int _)=some (D.int _);rw[YT]
end
theorem Ef{A:D}{k c:Nat}(hk:k<=1000):∀(l:List Nat)(w:Nat)(x4 x5 x6:Option D),(∀t∈l,t<=1000)->∃(w':Nat)(y4 y5 y6:Option D),aD (ay 4) Hq (l.map nD) [some A,some (nD k),some (nD c),some (nD w),x4,x5,x6]=.nx [some A,some (nD k),some (nD c),some (nD w'),y4,y5,y6]
|[],w,x4,x5,x6,_=>⟨w,x4,x5,x6,d8⟩
|t::l,w,x4,x5,x6,hl=>by
  have ht:=hl t e_;obtain⟨p,hp⟩:=uU (f:=f2 (f2 (f2 (ci 7919) (gv 4) bi) (gv 4) bi) (f2 (ci 13) (gv 1) bi) addA) (f':=fun _=>Res.ok (D.int 5)) (r:=[some A,some (nD k),some (nD c),some (nD w),some (nD t),x5,x6]) (uU (qr (b:=t) (qr (b:=t) ⟨7919,rfl⟩ rfl (by omega)) rfl (by omega)) (qr (b:=k) ⟨13,rfl⟩ rfl (by omega))) ⟨5,rfl⟩;obtain⟨q,hq⟩:=ie (f:=f2 (f2 (f2 (f2 (gv 2) (gv 5) addA) (ci 48271) bi) (ci 2147483647) aV) (ci 69621) bi) (f':=fun _=>Res.ok (D.int 1000000007)) (r:=[some A,some (nD k),some (nD c),some (nD w),some (nD t),some (nD p),x6]) (iL (tf (ie (iL (mr ⟨(c:Int),rfl⟩ ⟨(p:Int),rfl⟩) rfl (by decide)) rfl (by decide))) rfl (by decide)) rfl (by decide);obtain⟨v,hv⟩:=uU (f:=f2 (gv 3) (ci 999999937) bi) (f':=f2 (f2 (f2 (f2 (f2 (gv 6) (ci 1) addA) (ci 40692) bi) (ci 2147483629) aV) (ci 39373) bi) (ci 999999937) aV) (r:=[some A,some (nD k),some (nD c),some (nD w),some (nD t),some (nD p),some (nD q)])
   (qr (b:=999999937) ⟨w,rfl⟩ rfl (by decide)) (ie (iL (tf (ie (iL (mr ⟨(q:Int),rfl⟩ ⟨1,rfl⟩) rfl (by decide)) rfl (by decide))) rfl (by decide)) rfl (by decide))
  obtain⟨w',y4,y5,y6,ih⟩:=Ef (A:=A) (c:=c) hk l v (some (nD t)) (some (nD p)) (some (nD q)) fun z hz=>hl z (h_ _ hz);refine⟨w',y4,y5,y6,XB ?_ ih⟩;refine dJ (r1:=[some A,some (nD k),some (nD c),some (nD w),some (nD t),x5,x6]) rfl ?_;exact(aq (a9 hp)).trans ((aq (a9 hq)).trans (aq (a9 hv)))
theorem N7(ns:List Int)(k:Nat)(hk:k<=1000)(hl:k<ns.length):∃c:Nat,nB [IN ns,nD k]=.ok (nD c):=by
 suffices h:∃c:Nat,sA (aE 7 [IN ns,nD k])=.rt (nD c)by obtain⟨c,hc⟩:=h;exact⟨c,bj (B:=sA) (n:=7) hc⟩
 unfold sA;have kq:∃b,(aW (f2 (f2 (f2 (gv 0) (ci 0) aX) (ci 2) aV) (ci 0) eqD)) (aE 7 [IN ns,nD k])=.ok b:=by cases ns with
 |nil=>simp at hl
 |cons a ns=>obtain⟨c3,h3⟩:=ie (f:=f2 (gv 0) (ci 0) aX) (f':=fun _=>Res.ok (D.int 2)) (r:=aE 7 [IN (a::ns),nD k]) ⟨a,ax (a:=IN (a::ns)) (b:=.int 0) rfl rfl (ixA_L0 _ _)⟩ rfl (by decide);exact⟨_,bZ (ax h3 (b:=nD 0) rfl (je c3 0))⟩
 obtain⟨b,hb⟩:=kq;cases b with
|true=>obtain⟨c,hc⟩:=NY ns k hk;exact⟨c,aQ ((cM hb).trans (aQ (aZ (aT (ag (d:=IN ns) rfl (ag (d:=nD k) rfl aj)) hc))))⟩
|false=>
  have hx:(ns.map D.int)[k]? = some (.int ns[k]):=by rw[D_,m_ hl];rfl
  have hp:fB (.int 10) (.int 60)=some (.int (10^60)):=by show jz fJ _ _ _=_;rw[intsC_int,if_pos (by unfold fJ;decide)];rfl
  obtain⟨c2,h2⟩:=ie (f:=f2 (gv 0) (gv 1) aX) (f':=f2 (ci 10) (ci 60) fB) (r:=aE 7 [IN ns,nD k]) ⟨ns[k],ax (a:=IN ns) (b:=nD k) rfl rfl (mC hx)⟩ (ax rfl rfl hp) (by decide);obtain⟨w',y4,y5,y6,h3⟩:=Ef (A:=IN ns) (k:=k) (c:=c2) hk (t_ 7) 0 none none none fun t ht=>by have:=A_.mp ht;omega
  refine⟨w',(aq ((bG hb).trans (e_skip _))).trans ?_⟩;refine(aq (a9 h2)).trans ((aq (a9 (d:=nD 0) rfl)).trans ?_);exact(aq ((dE (ds:=(t_ 7).map nD) (mV (ag (d:=nD 7) rfl aj) (oi (by omega)))).trans h3)).trans (aQ (aZ (d:=nD w') rfl))
theorem Lh{a b:Nat}(h:0<b)(h2:b<1073741824):fN (nD a) (nD b)=some (nD (a/b)):=by rw[En ⟨by omega,by omega⟩];show some (D.int _)=some (D.int _);rw[YC]
theorem Ej{n m:Nat}(hm:m<=60):∀(l:List Nat)(c:Nat)(rows:List (List Nat))(x:Option D),(∀row∈rows,row.Perm (t_ m))->rows.length+l.length<=60->∃(c':Nat)(rows':List (List Nat))(y:Option D),rows'.length=rows.length+l.length/\(∀row∈rows',row.Perm (t_ m)) /\aD (ay 4) HA (l.map nD) [some (nD c),some (nD n),some (nD m),some (.lst (rows.map TN)),x]=.nx [some (nD c'),some (nD n),some (nD m),some (.lst (rows'.map TN)),y]
|[],c,rows,x,hr,_=>⟨c,rows,x,rfl,hr,d8⟩
|t::l,c,rows,x,hr,hl=>by
  rw[x_]at hl;obtain⟨row,h1,h2⟩:=DN (c%40320) m hm;obtain⟨c',rows',y,i1,i2,i3⟩:=Ej (n:=n) hm l (c/40320) (rows++[row]) (some (nD t)) (fun z hz=>by
   rcases Ui.mp hz with e|e
   .exact hr z e
   .rw[y_.mp e];exact h1) (by simp;omega)
  refine⟨c',rows',y,by rw[i1];simp;omega,i2,XB ?_ i3⟩;have e1:f2 (gv 0) (ci 40320) aV [some (nD c),some (nD n),some (nD m),some (.lst (rows.map TN)),some (nD t)]=.ok (nD (c%40320)):=ax (a:=nD c) (b:=nD 40320) rfl rfl (jH (by omega));have e2:∀z,f2 (gv 0) (ci 40320) fN [some (nD c),some (nD n),some (nD m),z,some (nD t)]=.ok (nD (c/40320)):=fun z=>ax (a:=nD c) (b:=nD 40320) rfl rfl (Lh (by omega) (by omega));refine dJ (r1:=[some (nD c),some (nD n),some (nD m),some (.lst (rows.map TN)),some (nD t)]) rfl ?_;refine(aq (gN (d:=.lst (rows.map TN)) (ds:=[TN row]) (d':=.lst ((rows++[row]).map TN)) rfl rfl (ag (aT (ag e1 (ag (d:=nD m) rfl aj)) h2) aj) (by rw[jJ (by simp;omega),Q_];rfl))).trans ?_;exact aq (a9 (e2 _))
theorem Pt(c:Nat):∃(rows:List (List Nat))(owns:List (Option Nat))(n m:Nat),Txs rows owns n m/\rV [nD c]=.ok (.tup [WD rows,OD owns]):=by
 have hn:c%7<7:=Wi _ (by decide);have hq:c/7%(9-(1+c%7))<9-(1+c%7):=Wi _ (by omega);obtain⟨c',rows,y,i1,i2,i3⟩:=Ej (n:=1+c%7) (m:=1+c%7+c/7%(9-(1+c%7))) (by omega) (t_ (1+c%7)) (c/56) [] none (fun _ h=>(nomatch h)) (by simp;omega);obtain⟨owns,o1,o2,o3⟩:=N1 c' (1+c%7) (1+c%7+c/7%(9-(1+c%7))) (by omega) (by omega);have L:rows.length=1+c%7:=by rw[i1];simp
 refine⟨rows,owns,_,_,⟨by omega,by omega,by omega,by omega,L,i2,o1,o2⟩,bj (B:=z9) (n:=5) ?_⟩;unfold z9;have hs:lR (nD 9) (nD (1+c%7))=some (nD (9-(1+c%7))):=by
  have e:((9:Nat):Int)-((1+c%7:Nat):Int)=((9-(1+c%7):Nat):Int):=by omega
  show some (D.int (((9:Nat):Int)-((1+c%7:Nat):Int)))=_;rw[e]
 refine(aq (a9 (d:=nD (1+c%7)) (ax (a:=nD 1) (b:=nD (c%7)) rfl (ax (a:=nD c) (b:=nD 7) rfl rfl (jH (by decide))) (lz _ _)))).trans ?_;refine(aq (a9 (d:=nD (1+c%7+c/7%(9-(1+c%7)))) (ax (a:=nD (1+c%7)) rfl (ax (a:=nD (c/7)) (b:=nD (9-(1+c%7))) (ax (a:=nD c) (b:=nD 7) rfl rfl (lA (by decide) (by decide))) (ax (a:=nD 9) (b:=nD (1+c%7)) rfl rfl hs) (jH (by omega))) (lz _ _)))).trans ?_;refine(aq (a9 (d:=nD (c/56)) (ax (a:=nD c) (b:=nD 56) rfl rfl (lA (by decide) (by decide))))).trans ?_;refine(aq (a9 (d:=.lst []) (gM aj (by simp)))).trans ?_;refine(aq ((dE (ds:=(t_ (1+c%7)).map nD) (mV (ag (d:=nD (1+c%7)) rfl aj) (oi (by omega)))).trans i3)).trans ?_;exact aQ (aZ (fQ (ag (d:=WD rows) (bm (ag (d:=.lst (rows.map TN)) rfl aj) rfl) (ag (d:=OD owns) (aT (ag (d:=nD c') rfl (ag (d:=nD (1+c%7)) rfl (ag (d:=nD (1+c%7+c/7%(9-(1+c%7)))) rfl aj))) o3) aj)) (by simp)))
end Law
namespace Law
open PySem PyProof.Rows L2 DL PySem.Builtin PySem.Builtin.Str
theorem NN(x:Str)(k:Nat)(h:x.cps.toList[k]? = some 32):V9 x " " x.length k:=by
 have hl:((" " : Str)).length=1:=by decide+kernel
 have h1:=(k_.mp h).1;have h2:x.cps.toList.length=x.length:=by simp[XV]
 refine⟨by rw[hl];omega,?_⟩;rw[YD,hl,qD];have:(x.cps.toList.drop k).take 1=[32]:=by rw[Uz h1,List.take_succ_cons,List.take_zero,(k_.mp h).2]
 rw[this];exact beq_self_eq_true _
theorem Q3{x:Str}:∀q∈Txt.split x " ",32∉q.cps.toList:=Gy (by decide+kernel) (by decide+kernel) fun k h=>NN x k h
theorem oP{a:Str}{ws:List Str}(h:ws≠[]):Ua " " (a::ws)=a++" "++Ua " " ws:=by cases ws with
|nil=>exact absurd rfl h
|cons b t=>rfl
theorem Es:∀ws:List Str,(ws.map (·.length)).sum+ws.length<=(Ua " " ws).length+1
|[]=>by simp
|[a]=>by simp[Ua]
|a::b::t=>by
  have ih:=Es (b::t);have hl:((" " : Str)).length=1:=by decide+kernel
  rw[oP (by simp),UW,UW,hl,L_,Zo,x_];omega
theorem JE{ws:List Str}(h:(Ua " " ws).length<=10000):gJ (.str " ") [.lst (ws.map D.str)]=some (.str (Ua " " ws)):=by
 show(match jG (ws.map D.str)with|some xs=>if X4 " " xs=true then some (D.str (Txt.join " " xs))else none|none=>none)=_;rw[yO];have hl:((" " : Str)).length=1:=by decide+kernel
 have:X4 " " ws=true:=by
  unfold X4;have e:(2:Nat)^24=16777216:=by decide
  have:=Es ws;rw[StrLaws.joinTotal,hl];unfold tooLong sizeLine;rw[decide_eq_false (by omega)];rfl
 simp only[this,if_true];show some (D.str (PySem.Builtin.Str.glued " " ws))=_;rw[Wg]
abbrev bV(ws:List Str):D:=.lst (ws.map D.str)
theorem lL{d:D}(h:gO d=some true):fg [d]=.ok .non:=by
 show av false (sM (aE 1 [d]))=_;have:sM (aE 1 [d])=.nx [some d]:=by unfold sM;exact aq ((bG (lv (b:=true) (ip (d:=d) rfl h))).trans (e_skip _))
 rw[this];rfl
theorem ng{ws:List Str}(hne:ws≠[])(hf:∀p∈ws,32∉p.cps.toList)(hl:(Ua " " ws).length<=10000):jn [.str (Ua " " ws)]=.ok (bV ws):=by refine bj (B:=yZ) (n:=1) ?_;unfold yZ;refine(aq (kA (aT (ag (d:=.bl true) (dC (a:=.str (Ua " " ws)) rfl rfl) aj) (lL rfl)))).trans (aQ (aZ (fL (d:=.str (Ua " " ws)) rfl rfl (ag (d:=.str " ") rfl aj) ?_)));rw[wE (by decide+kernel) hl,yV qD (by decide+kernel) (by simp) hne hf]
theorem N6{ws:List Str}(hne:ws≠[])(hl:(Ua " " ws).length<=10000):rn [bV ws]=.ok (.str (Ua " " ws)):=by refine bj (B:=xP) (n:=1) ?_;unfold xP;refine(aq (kA (aT (ag (d:=bV ws) rfl aj) (lL ?_)))).trans (aQ (aZ (fL (d:=.str " ") rfl rfl (ag (d:=bV ws) rfl aj) (JE hl))));cases ws with
|nil=>exact absurd rfl hne
|cons a t=>rfl
abbrev aA(h:Nat):Str:=⟨#[48+h]⟩
def cf(n:Nat):Str:=Txt.slice "0123456" none (some (n:Int))
def fE(m:Nat):Str:=Txt.slice "ABCDEFGH" none (some (m:Int))
theorem Li:((t_ 8).all fun n=>(t_ n).all fun h=>!(O_ (cf n) (aA h) 0 (cf n).length 1).isEmpty&&(O_ (cf n) (aA h) 0 (cf n).length 1).head? == some h)=true:=by kernel_rfl
theorem Ml:((t_ 9).all fun n=>(t_ n).all fun h=>!(O_ (fE n) (az h) 0 (fE n).length 1).isEmpty&&(O_ (fE n) (az h) 0 (fE n).length 1).head? == some h)=true:=by kernel_rfl
theorem EX{h:Nat}(hh:h<7):ke [nD h]=some (.str (aA h)):=by match h,hh with
|0,_=>kernel_rfl
|1,_=>kernel_rfl
|2,_=>kernel_rfl
|3,_=>kernel_rfl
|4,_=>kernel_rfl
|5,_=>kernel_rfl
|6,_=>kernel_rfl
theorem DM{w s:Str}{k:Nat}(h1:w.length=1)(h2:(!(O_ s w 0 s.length 1).isEmpty&&(O_ s w 0 s.length 1).head? == some k)=true):lI [.str w,.str s]=.ok (nD k):=by
 rw[P_]at h2;obtain⟨h3,h4⟩:=h2;refine bj (B:=zF) (n:=2) ?_;unfold zF;have c:de (f2 (fC (af (gv 0) ab) lenD) (ci 1) eqD) (f2 (gv 0) (gv 1) dF) (aE 2 [.str w,.str s])=.ok (.bl true):=by rw[mP (ax (a:=nD 1) (b:=nD 1) (bm (ag (d:=.str w) rfl aj) (by show(if w.length<=sizeLine then some (D.int (w.length:Int))else none)=_;rw[if_pos (by rw[h1,N_];decide),h1])) rfl (m6 1))];refine ax (a:=.str w) (b:=.str s) rfl rfl ?_;show some (D.bl (!(O_ s w 0 s.length 1).isEmpty))=_;rw[h3]
 refine(aq (kA (aT (ag c aj) (lL rfl)))).trans (aQ (aZ (fL (d:=.str s) rfl rfl (ag (d:=.str w) rfl aj) ?_)));show(match O_ s w 0 s.length 1 with|i::_=>some (D.int (i:Nat))|[]=>none)=_;cases e:O_ s w 0 s.length 1 with
|nil=>rw[e]at h4;cases h4
|cons i t=>rw[e]at h4;have h4:=UT h4;cases h4;rfl
theorem wL{n h:Nat}(hn:n<=7)(hh:h<n):lI [.str (aA h),.str (cf n)]=.ok (nD h):=DM rfl (Uj.mp (Uj.mp Li n (A_.mpr (by omega))) h (A_.mpr hh))
theorem MQ{m t:Nat}(hm:m<=8)(ht:t<m):lI [.str (az t),.str (fE m)]=.ok (nD t):=DM rfl (Uj.mp (Uj.mp Ml m (A_.mpr (by omega))) t (A_.mpr ht))
theorem zk{l:List (Str×Str×Nat)}(hl:l.length<=60)(h:∀p∈l,lI [.str p.1,.str p.2.1]=.ok (nD p.2.2)):kN [.lst (l.map fun p=>.str p.1),.lst (l.map fun p=>.str p.2.1)]=.ok (LN (l.map (·.2.2))):=by
 refine bj (B:=Af) (n:=2) ?_;unfold Af;refine(aq (kA (aT (ag (d:=.bl true) (ax (a:=nD l.length) (b:=nD l.length) (bm (ag (d:=.lst (l.map fun p=>.str p.1)) rfl aj) (fU _ _)) (bm (ag (d:=.lst (l.map fun p=>.str p.2.1)) rfl aj) (fU _ _)) (m6 _)) aj) (lL rfl)))).trans (aQ (aZ ?_));have hz:VV (fun a b=>DL.D.tup [a,b]) (l.map fun p=>D.str p.1) (l.map fun p=>D.str p.2.1)=l.map fun p=>.tup [.str p.1,.str p.2.1]:=by
  rw[YE];clear hl h
  induction l with
 |nil=>rfl
 |cons a t ih=>rw[List.zipWith_cons_cons,ih];rfl
 refine(dD (l:=l) (fun p=>.tup [.str p.1,.str p.2.1]) (fun _=>true) (fun p=>nD p.2.2) ((vQ (d:=.lst (l.map fun p=>.str p.1)) (e:=.lst (l.map fun p=>.str p.2.1)) rfl rfl rfl rfl).trans (by rw[hz])) (by omega) fun p hp=>⟨[some (.str p.1),some (.str p.2.1)],rfl,rfl,fun _=>aT (ag (d:=.str p.1) rfl (ag (d:=.str p.2.1) rfl aj)) (h p hp)⟩).trans ?_;rw[fj];show Res.ok (D.lst _)=Res.ok (D.lst ((l.map (·.2.2)).map nD));rw[K_];rfl
section
variable{rows:List (List Nat)}{owns:List (Option Nat)}{n m:Nat}
theorem xF(S:Txs rows owns n m):kL [WD rows]=.ok (.str (cf n)):=by refine bj (B:=GY) (n:=1) ?_;exact aQ (aZ (vM (d:=.str "0123456") (lo:=none) (hi:=some (n:Int)) rfl rfl (m3 (bm (ag (d:=WD rows) rfl aj) (by rw[jm,S.rl]))) rfl))
theorem N0(S:Txs rows owns n m):rY [WD rows]=.ok (.str (fE m)):=by refine bj (B:=GZ) (n:=1) ?_;exact aQ (aZ (vM (d:=.str "ABCDEFGH") (lo:=none) (hi:=some (m:Int)) rfl rfl (m3 (aT (ag (d:=WD rows) rfl aj) (GJ S))) rfl))
theorem NZ(S:Txs rows owns n m){h:Nat}(hh:h<n):rC [bV [aA h],WD rows]=.ok (nD h):=by refine bj (B:=xL) (n:=2) ?_;unfold xL;have e:=zk (l:=[(aA h,cf n,h)]) (by simp) (fun p hp=>by rw[y_.mp hp];exact wL S.n7 hh);exact aQ (aZ (ax (a:=LN [h]) (b:=nD 0) (aT (ag (d:=bV [aA h]) rfl (ag (d:=.lst [.str (cf n)]) (gM (ag (aT (ag (d:=WD rows) rfl aj) (xF S)) aj) (by simp)) aj)) e) rfl (ixA_L0 _ _)))
theorem MP(S:Txs rows owns n m){h t:Nat}(hh:h<n)(ht:t<m):sL [bV [aA h,az t],WD rows]=.ok (LN [h,t]):=by
 refine bj (B:=AO) (n:=2) ?_;unfold AO;have e:=zk (l:=[(aA h,cf n,h),(az t,fE m,t)]) (by simp) (fun p hp=>by
  rcases n_.mp hp with rfl|hp
  .exact wL S.n7 hh
  .rw[y_.mp hp];exact MQ S.m8 ht)
 exact aQ (aZ (aT (ag (d:=bV [aA h,az t]) rfl (ag (d:=.lst [.str (cf n),.str (fE m)]) (gM (ag (aT (ag (d:=WD rows) rfl aj) (xF S)) (ag (aT (ag (d:=WD rows) rfl aj) (N0 S)) aj)) (by simp)) aj)) e))
theorem EJ:∀l:List Nat,il (l.map nD)=some (l.map fun k:Nat=>(k:Int))
|[]=>rfl
|k::l=>by show(il (l.map nD)).map _=_;rw[EJ l];rfl
theorem HV:∀(ns acc:List Int),(acc++ns).Nodup->(ns.foldl X3 acc).length=acc.length+ns.length
|[],acc,_=>rfl
|k::ns,acc,h=>by
  have hk:k∉acc:=fun z=>(Vl.mp h).2.2 k z k e_ rfl;have e:X3 acc k=acc++[k]:=by unfold X3;rw[if_neg (by simpa using hk)]
  rw[V5,e,HV ns (acc++[k]) (by simpa using h)];simp;omega
theorem LI{l:List Nat}(hn:l.Nodup)(hl:l.length<=60):uH (LN l)=some (nD l.length):=by
 show(il (l.map nD)).bind _=_;rw[EJ];show(if _ then some (D.int ((f6 (l.map fun k:Nat=>(k:Int))).length:Int))else none)=_;have B:(l.map fun k:Nat=>(k:Int)).Nodup:=by rw[VR,WV];exact List.Pairwise.imp (fun h z=>h (V4.mp z)) hn
 have e:(f6 (l.map fun k:Nat=>(k:Int))).length=l.length:=by have:=HV (l.map fun k:Nat=>(k:Int)) [] (by simpa using B);unfold f6;rw[this];simp
 rw[if_pos (by rw[j_];unfold Vv;omega),e]
theorem M8(ds:List D)(k:Int):iV (.lst ds) (.int k)=if-(2^62)<=k/\k<2^62/\ds.length*k.toNat<=sizeLine then some (.lst ((q_ k.toNat ds).flatten))else none:=rfl
theorem E7{α:Type}(a:α):∀n:Nat,(q_ n [a]).flatten=q_ n a
|0=>rfl
|n+1=>by rw[Us,UB,E7 a n];rfl
theorem Rb(S:Txs rows owns n m){l:List Nat}(hp:l.Perm (t_ n)):rN [bV (l.map aA),WD rows]=.ok (LN l):=by
 have M:=S.n7;have hl:l.length=n:=by rw[hp.length_eq];simp
 have L:l.Nodup:=hp.nodup_iff.mpr Vy;have e:=zk (l:=l.map fun h=>(aA h,cf n,h)) (by rw[j_];omega) (fun p hq=>by obtain⟨h,hh,rfl⟩:=p_.mp hq;exact wL S.n7 (A_.mp (hp.mem_iff.mp hh)));simp only[K_]at e;have e0:l.map ((fun p:Str×Str×Nat=>p.2.2)∘fun h=>(aA h,cf n,h))=l:=by simp[Vm]
 rw[e0]at e;have er:iV (.lst [.str (cf n)]) (nD n)=some (.lst (l.map ((fun p:Str×Str×Nat=>D.str p.2.1)∘fun h=>(aA h,cf n,h)))):=by rw[M8];rw[if_pos ⟨by omega,by omega,by rw[N_];simp;omega⟩,UY];rw[E7,<-hl,<-V6];rfl
 have hu:sn [bV (l.map aA),.lst (l.map ((fun p:Str×Str×Nat=>D.str p.2.1)∘fun h=>(aA h,cf n,h)))]=.ok (LN l):=by refine bj (B:=zK) (n:=3) ?_;unfold zK;refine(aq (a9 (aT (ag (d:=bV (l.map aA)) rfl (ag (d:=.lst (l.map ((fun p:Str×Str×Nat=>D.str p.2.1)∘fun h=>(aA h,cf n,h)))) rfl aj)) (by rw[show bV (l.map aA)=D.lst (l.map ((fun p:Str×Str×Nat=>D.str p.1)∘fun h=>(aA h,cf n,h)))by rw[bV,K_];rfl];exact e)))).trans ?_;refine(aq (kA (aT (ag (d:=.bl true) (ax (a:=nD l.length) (b:=nD l.length) (dC (a:=LN l) rfl (LI L (by omega))) (bm (ag (d:=LN l) rfl aj) (fU _ _)) (m6 _)) aj) (lL rfl)))).trans (aQ (aZ rfl))
 refine bj (B:=yX) (n:=2) ?_;unfold yX;exact aQ (aZ (aT (ag (d:=bV (l.map aA)) rfl (ag (ax (a:=.lst [.str (cf n)]) (b:=nD n) (gM (ag (aT (ag (d:=WD rows) rfl aj) (xF S)) aj) (by simp)) (bm (ag (d:=WD rows) rfl aj) (by rw[jm,S.rl])) er) aj)) hu))
end
end Law
namespace Law
open PySem PyProof.Rows L2 DL
abbrev kD(rows:List (List Nat))(owns:List (Option Nat))(o:Option (List Nat)):D:=iD "Kept" [("wishes",WD rows),("owns",OD owns),("order",cT o)]
theorem qm{fl:am->Res (List D)}{r:am}{rows:List (List Nat)}{owns:List (Option Nat)}{o:Option (List Nat)}(h:fl r=.ok [WD rows,OD owns,cT o]):kY "Kept" fl [] kH r=.ok (kD rows owns o):=by unfold kY;rw[h];rfl
variable{rows:List (List Nat)}{owns:List (Option Nat)}{o:Option (List Nat)}{n m:Nat}
theorem kQ:bQ eL "wishes" (kD rows owns o)=some (WD rows):=rfl
theorem pV:bQ gB "owns" (kD rows owns o)=some (OD owns):=rfl
theorem Br:bQ kG "order" (kD rows owns o)=some (cT o):=rfl
def ownS(owns:List (Option Nat))(h t:Nat):List (Option Nat):=(owns.map fun x=>if x=some t then none else x).set h (some t)
theorem Eb(fi:FI)(r:am){owns:List (Option Nat)}{t:Nat}{cp:List Nat}(hl:owns.length<=60)(h1:fi r=.ok (owns.map oD))(hc:bv 1 cp r=[none,some (nD t)]):bN 1 cp fi (ay 0) (fun _=>Res.ok true) (iz (aW (f2 (gv 0) (gv 1) eqD)) (fun _=>Res.ok D.non) (gv 0)) r=.ok (.lst ((owns.map fun x=>if x=some t then none else x).map oD)):=by
 refine(dD (l:=owns) oD (fun _=>true) (fun x=>oD (if x=some t then none else x)) h1 (by omega) fun x _=>⟨[some (oD x),some (nD t)],by rw[hc];rfl,rfl,fun _=>?_⟩).trans (by rw[fj,K_];rfl);have c:=bZ (ax (f:=gv 0) (f':=gv 1) (r:=[some (oD x),some (nD t)]) (a:=oD x) (b:=nD t) rfl rfl (tH x t));by_cases e:x=some t
 .rw[decide_eq_true e]at c;rw[if_pos e];exact(mw c).trans rfl
 .rw[decide_eq_false e]at c;rw[if_neg e];exact(mv c).trans rfl
theorem JV(x:Option Nat):eqD (oD x) .non=some (.bl (decide (x=none))):=by cases x <;> rfl
theorem QW{h t:Nat}(hh:h<owns.length)(hl:owns.length<=60):lK [kD rows owns o,nD h,nD t]=.ok (kD rows (ownS owns h t) o):=by
 refine bj (B:=oS) (n:=4) ?_;unfold oS;refine(aq (a9 (Eb (t:=t) _ _ hl (eG (d:=OD owns) (dC (a:=kD rows owns o) rfl pV) rfl) rfl))).trans ?_;refine(aq (jk (d:=.lst ((owns.map fun x=>if x=some t then none else x).map oD)) (k:=nD h) (v:=nD t) (d':=.lst ((ownS owns h t).map oD)) rfl rfl rfl ?_)).trans ?_
 .rw[qC (by simpa using hh)];unfold ownS;rw[Wz];rfl
 .exact aQ (aZ (qm (ag (dC (a:=kD rows owns o) rfl kQ) (ag (bm (ag (d:=.lst ((ownS owns h t).map oD)) rfl aj) rfl) (ag (dC (a:=kD rows owns o) rfl Br) aj)))))
theorem Re{h:Nat}(hh:h<owns.length)(hl:owns.length<=60):lK [kD rows owns o,nD h,.non]=.ok (kD rows (owns.set h none) o):=by
 refine bj (B:=oS) (n:=4) ?_;unfold oS;refine(aq (a9 (d:=.lst (owns.map oD)) ((dD (l:=owns) oD (fun _=>true) oD (eG (d:=OD owns) (dC (a:=kD rows owns o) rfl pV) rfl) (by omega) fun x _=>⟨[some (oD x),some .non],rfl,rfl,fun _=>?_⟩).trans (by rw[fj])))).trans ?_
 .have c:=bZ (ax (f:=gv 0) (f':=gv 1) (r:=[some (oD x),some .non]) (a:=oD x) (b:=.non) rfl rfl (JV x));cases x with
 |none=>exact(mw c).trans rfl
 |some k=>exact(mv c).trans rfl
 refine(aq (jk (d:=.lst (owns.map oD)) (k:=nD h) (v:=.non) (d':=.lst ((owns.set h none).map oD)) rfl rfl rfl ?_)).trans ?_
 .rw[qC (by simpa using hh),Wz];rfl
 .exact aQ (aZ (qm (ag (dC (a:=kD rows owns o) rfl kQ) (ag (bm (ag (d:=.lst ((owns.set h none).map oD)) rfl aj) rfl) (ag (dC (a:=kD rows owns o) rfl Br) aj)))))
theorem Pn(S:Txs rows owns n m){h t:Nat}(hh:h<n)(ht:t<m):nE [kD rows owns o,bV [aA h,az t]]=.ok (kD rows (ownS owns h t) o):=by have L:=S.n7;refine bj (B:=zC) (n:=3) ?_;unfold zC;refine(aq (a9 (aT (ag (d:=bV [aA h,az t]) rfl (ag (dC (a:=kD rows owns o) rfl kQ) aj)) (MP S hh ht)))).trans ?_;exact aQ (aZ (aT (ag (d:=kD rows owns o) rfl (ag (d:=nD h) (ax (a:=LN [h,t]) (b:=nD 0) rfl rfl (ixA_L0 _ _)) (ag (d:=nD t) (ax (a:=LN [h,t]) (b:=nD 1) rfl rfl (mC (i:=1) rfl)) aj))) (QW (by rw[S.ol];exact hh) (by rw[S.ol];omega))))
theorem QB(S:Txs rows owns n m){h:Nat}(hh:h<n):ny [kD rows owns o,bV [aA h]]=.ok (kD rows (owns.set h none) o):=by have L:=S.n7;refine bj (B:=Aa) (n:=2) ?_;unfold Aa;exact aQ (aZ (aT (ag (d:=kD rows owns o) rfl (ag (aT (ag (d:=bV [aA h]) rfl (ag (dC (a:=kD rows owns o) rfl kQ) aj)) (NZ S hh)) (ag (d:=.non) rfl aj))) (Re (by rw[S.ol];exact hh) (by rw[S.ol];omega))))
theorem Q9(S:Txs rows owns n m){l:List Nat}(hp:l.Perm (t_ n)):nv [kD rows owns o,bV (l.map aA)]=.ok (kD rows owns (some l)):=by refine bj (B:=Ap) (n:=2) ?_;unfold Ap;exact aQ (aZ (qm (ag (dC (a:=kD rows owns o) rfl kQ) (ag (dC (a:=kD rows owns o) rfl pV) (ag (d:=LN l) (aT (ag (d:=bV (l.map aA)) rfl (ag (dC (a:=kD rows owns o) rfl kQ) aj)) (Rb S hp)) aj)))))
theorem EO(S:Txs rows owns n m):jN [.str (cw rows owns)]=.ok (kD rows owns none):=by refine bj (B:=Ao) (n:=2) ?_;unfold Ao;refine(aq (a9 (aT (ag (d:=.str (cw rows owns)) rfl aj) (N4 S)))).trans (aQ (aZ (qm (o:=none) ?_)));exact ag (ax (a:=.tup [WD rows,OD owns]) (b:=nD 0) rfl rfl (ig (i:=0) rfl)) (ag (ax (a:=.tup [WD rows,OD owns]) (b:=nD 1) rfl rfl (ig (i:=1) rfl)) (ag (d:=.non) rfl aj))
theorem yR(S:Txs rows owns n m):(cw rows owns).length<=1000:=FJ S.l8 (by rw[S.rl];exact S.n7)
theorem QC(S:Txs rows owns n m){k:D}:nz [k,bV (Txt.split (cw rows owns) " ")]=.ok (kD rows owns none):=by have e:=WM (cw rows owns) " ";have hl:=yR S;refine bj (B:=Ab) (n:=2) ?_;unfold Ab;have ht:=N6 (wX (cw rows owns) " ") (by rw[e];omega);rw[e]at ht;exact aQ (aZ (aT (ag (aT (ag (d:=bV (Txt.split (cw rows owns) " ")) rfl aj) ht) aj) (EO S)))
def lN(l:List Nat):Str:=Ua " " (l.map az)
theorem Ed{l:List Nat}(hl:l.length<=60):gJ (.str " ") [.lst ((l.map az).map D.str)]=some (.str (lN l)):=by
 have h3:((" " : Str)).length=1:=by decide+kernel
 exact mQ (B:=1) (fun y hy=>by obtain⟨x,_,rfl⟩:=p_.mp hy;exact s_ 1) (by rw[h3,j_];omega)
theorem Kk{l:List Nat}(hb:∀x∈l,x<8)(hl:l.length<=60):sF [TN l]=.ok (.str (lN l)):=by
 refine bj (B:=As) (n:=1) ?_;unfold As;have e:bN 1 [] (aL bz (gv 0)) (ay 0) (fun _=>Res.ok true) (f2 (fun _=>Res.ok (D.str "ABCDEFGH")) (gv 0) aX) (aE 1 [TN l])=.ok (.lst ((l.map az).map D.str)):=by refine(dD (l:=l) nD (fun _=>true) (fun x=>.str (az x)) (eG (d:=TN l) rfl rfl) (by omega) fun x hx=>⟨[some (nD x)],rfl,rfl,fun _=>ax (a:=.str "ABCDEFGH") (b:=nD x) rfl rfl (om (hb x hx))⟩).trans ?_;rw[fj,K_];rfl
 exact aQ (aZ (fL (d:=.str " ") rfl rfl (ag e aj) (Ed hl)))
theorem Ki{l:List Nat}(hb:∀x∈l,x<8)(hl:l.length<=60):nw [TN l]=.ok (.str (lN l)):=by
 refine bj (B:=An) (n:=1) ?_;unfold An;have e:bN 1 [] (aL bz (gv 0)) (ay 0) (fun _=>Res.ok true) (f2 (fun _=>Res.ok (D.str "ABCDEFGH")) (gv 0) aX) (aE 1 [TN l])=.ok (.lst ((l.map az).map D.str)):=by refine(dD (l:=l) nD (fun _=>true) (fun x=>.str (az x)) (eG (d:=TN l) rfl rfl) (by omega) fun x hx=>⟨[some (nD x)],rfl,rfl,fun _=>ax (a:=.str "ABCDEFGH") (b:=nD x) rfl rfl (om (hb x hx))⟩).trans ?_;rw[fj,K_];rfl
 exact aQ (aZ (fL (d:=.str " ") rfl rfl (ag e aj) (Ed hl)))
theorem Kh{l:List Nat}(h:nr [WD rows,OD owns,cT o]=.ok (TN l))(hb:∀x∈l,x<8)(hl:l.length<=60):lF [kD rows owns o,.lst []]=.ok (.str (lN l)):=by refine bj (B:=Aq) (n:=2) ?_;unfold Aq;refine(aq (kA (aT (ag (d:=.bl true) (dC (a:=.lst []) rfl rfl) aj) (lL rfl)))).trans ?_;exact aQ (aZ (aT (ag (aT (ag (dC (a:=kD rows owns o) rfl kQ) (ag (dC (a:=kD rows owns o) rfl pV) (ag (dC (a:=kD rows owns o) rfl Br) aj))) h) aj) (Kk hb hl)))
variable{r:am}{w w':DW}{d:D}
section
variable{r':am}{f1' f2':cu}{f:D->FS}{p:D->FQ}
theorem eD(h:f1' r w=.nx r' w'):bc f1' f2' r w=f2' r' w':=by unfold bc;rw[h]
theorem qd(h:f1' r w=.rt d w'):bc f1' f2' r w=.rt d w':=by unfold bc;rw[h]
theorem jC(h:f w.1 r=.nx r'):bI f r w=.nx r' w:=by unfold bI;rw[h]
theorem tF(h:f w.1 r=.rt d):bI f r w=.rt d w:=by unfold bI;rw[h]
theorem pW(h:p w.1 r=.ok true):l6 p f1' f2' r w=f1' r w:=by unfold l6;rw[h];rfl
theorem l7(h:p w.1 r=.ok false):l6 p f1' f2' r w=f2' r w:=by unfold l6;rw[h];rfl
end
theorem oj{tab:List (Str×Str)}{f:FE}{r:am}{s:Str}{b:Bool}(h:f r=.ok (.str s))(e:(tab.lookup s).isSome=b):pT tab f r=.ok b:=by unfold pT;rw[h,bind_ok];show Res.ok _=_;rw[e]
theorem BS{F:Str->Option (List D->Res D)}{fa:FE}{fl:am->Res (List D)}{g:List D->Res D}{r:am}{s:Str}{ds:List D}{d:D}(h1:fa r=.ok (.str s))(h2:F s=some g)(h3:fl r=.ok ds)(h4:g ds=.ok d):nN F fa fl r=.ok d:=by unfold nN;rw[h1,bind_ok];simp only[h2,h3,bind_ok,h4];rfl
theorem Cz{a:D}{ds:List D}:sV (.lst (a::ds)) (some 1) none=some (.lst ds):=by show some (D.lst (cW (a::ds) (some 1) none))=_;unfold cW;have h1:HT.sIx (a::ds).length 0 (some 1)=1:=(HT.gE _ _ 1).trans (by simp);rw[h1,HT.fu];simp
theorem C8{fa:FE}{fl fh:FP}{r:am}{d d':D}{lo hi:Option Int}(h1:fa r=.ok d)(h2:fl r=.ok lo)(h3:fh r=.ok hi)(h4:sV d lo hi=some d'):fF fa fl fh r=.ok d':=by unfold fF;rw[h1,bind_ok,h2,bind_ok,h3,bind_ok,h4];rfl
theorem wH{z z':DW}{ds:List D}{d:D}(h:lp (bS 5 ds) z=.rt d z'):ik z ds=some (d,z'):=by show dX (lp (bS 5 ds) z)=_;rw[h];rfl
section
variable{k:D}{past:List D}{first line:Str}{ws:List Str}
theorem wG(hw:jn [.str line]=.ok (bV (first::ws))){f1':cu}{z:DW}:bc (bI fun _=>ao im 2 (aI (af (gv 1) ab) [] jn)) (bc (bI fun _=>ao im 3 (f2 (gv 2) (ci 0) aX)) f1') (bS 5 [.str line]) z=f1' [none,some (.str line),some (bV (first::ws)),some (.str first),none] z:=by refine(eD (jC (a9 (aT (ag (d:=.str line) rfl aj) hw)))).trans ?_;exact eD (jC (a9 (d:=.str first) (ax (a:=bV (first::ws)) (b:=nD 0) rfl rfl (ixA_L0 _ _))))
theorem Ct(S:Txs rows owns n m){r:am}:bc (bI fun kd=>retF im (aI (af (f1 (fun _=>.ok kd) (bQ eL "wishes")) (af (f1 (fun _=>.ok kd) (bQ gB "owns")) ab)) [] nF)) iH r (kD rows owns o,past)=.rt (.str (cw rows owns)) (kD rows owns o,past):=qd (tF (aZ (aT (ag (dC (a:=kD rows owns o) rfl kQ) (ag (dC (a:=kD rows owns o) rfl pV) aj)) (Rt S.b8 S.l8 (by rw[S.rl];exact S.n7)))))
theorem rh(S:Txs rows owns n m){f:List D->Res D}(hw:jn [.str line]=.ok (bV (first::ws)))(hq:(gP.lookup first).isSome=false)(hc:(gQ.lookup first).isSome=true)(hF:qH first=some f)(hf:f [k,bV ws]=.ok (kD rows owns o))(hp:past.length<=1000):ik (k,past) [.str line]=some (.str (cw rows owns),(kD rows owns o,past++[k])):=by
 refine wH ?_;unfold lp;refine(wG hw).trans ?_;refine(eD (l7 (oj (s:=first) rfl hq))).trans ?_;refine(eD (r':=[none,some (.str line),some (bV (first::ws)),some (.str first),some (kD rows owns o)]) (w':=(kD rows owns o,past++[k])) ((pW (oj (s:=first) rfl hc)).trans ?_)).trans (Ct S);refine(eD (jC (a9 (BS (s:=first) rfl hF (ag (d:=k) rfl (ag (C8 (d:=bV (first::ws)) rfl (m3 (i:=1) rfl) rfl Cz) aj)) hf)))).trans ?_;refine(eD (r':=[none,some (.str line),some (bV (first::ws)),some (.str first),some (kD rows owns o)]) (w':=(k,past++[k])) ?_).trans ?_
 .show(if past.length<sizeLine then _ else _)=_;rw[if_pos (by rw[N_];omega)];rfl
 .exact eD rfl
theorem P8{a:D}(h:lF [k,.lst []]=.ok a):ik (k,past) [.str "deal"]=some (a,(k,past)):=by refine wH ?_;unfold lp;have hw:jn [.str "deal"]=.ok (bV ["deal"]):=ng (ws:=["deal"]) (by simp) (fun p hp=>by rw[y_.mp hp];decide+kernel) (by decide+kernel);refine(wG hw).trans ?_;refine qd ((pW (oj (s := "deal") rfl (by decide+kernel))).trans (qd (tF (aZ ?_))));exact BS (s := "deal") rfl (g:=lF) (if_pos rfl) (ag (d:=k) rfl (ag (C8 (d:=bV ["deal"]) rfl (m3 (i:=1) rfl) rfl Cz) aj)) h
theorem Lg:eqD (bV ["undo"]) (bV ["undo"])=some (.bl true):=by
 have h:∀d∈(["undo"]:List Str).map D.str,bT 59 d:=fun d hd=>by rw[y_.mp hd];unfold bT;decide+kernel
 unfold eqD;rw[Nq rfl (qK.mpr h) (qK.mpr h)];unfold nM;simp[bC,zkr,ZM,PyData.eqvAll]
theorem P9(S:Txs rows owns n m):ik (k,past++[kD rows owns o]) [.str "undo"]=some (.str (cw rows owns),(kD rows owns o,past)):=by
 refine wH ?_;unfold lp;have hw:jn [.str "undo"]=.ok (bV ["undo"]):=ng (ws:=["undo"]) (by simp) (fun p hp=>by rw[y_.mp hp];decide+kernel) (by decide+kernel);refine(wG hw).trans ?_;refine(eD (l7 (oj (s := "undo") rfl (by decide+kernel)))).trans ?_;refine(eD (r':=[none,some (.str "undo"),some (bV ["undo"]),some (.str "undo"),none]) (w':=(kD rows owns o,past)) ((l7 (oj (s := "undo") rfl (by decide+kernel))).trans ?_)).trans (Ct S);refine(eD (jC (kA (aT (ag (d:=.bl true) (ax (a:=bV ["undo"]) (b:=bV ["undo"]) rfl rfl Lg) aj) (lL rfl))))).trans (eD ?_);have hu:qx (k,past++[kD rows owns o]) []=some (.non,(kD rows owns o,past)):=by
  show dX (bc mG (bc mK iH) (bS 1 []) (k,past++[kD rows owns o]))=_;have e1:mG (bS 1 []) (k,past++[kD rows owns o])=.nx (bS 1 []) (k,past++[kD rows owns o]):=by unfold mG;rw[if_neg (by simp)]
  have e2:mK (bS 1 []) (k,past++[kD rows owns o])=.nx (bS 1 []) (kD rows owns o,past):=by unfold mK;simp only[XC,XD]
  rw[eD e1,eD e2];rfl
 unfold qp;rw[hu]
theorem qZ{z z':DW}{s line:Str}(h:ik z [.str line]=some (.str s,z')):iT z [.str line,.str s]=some (.bl true,z'):=by
 show dX (oX (bS 4 [.str line,.str s]) z)=_;have e:oX (bS 4 [.str line,.str s]) z=.rt (.bl true) z':=by
  unfold oX;refine(eD (r':=[none,some (.str line),some (.str s),some (.str s)]) (w':=z') ?_).trans (qd (tF (aZ ?_)))
  .unfold uZ;show(match ik z [.str line]with|some (d,w')=>OutD.nx _ w'|none=>.stuck)=_;rw[h];rfl
  .rw[mP (dC (a:=.str s) rfl rfl)];refine ax (a:=.str s) (b:=.str s) rfl rfl ?_;unfold eqD;rw[eqB_str,beq_self_eq_true];rfl
 rw[e];rfl
end
theorem DX{l:List (Option Nat)}{h:Nat}{a:Option Nat}(hh:h<l.length)(j:Nat):own (l.set h a) j=if j=h then a else own l j:=by
 unfold own;by_cases e:j=h
 .subst e;rw[if_pos rfl,o_ hh];rfl
 .rw[if_neg e,d_ (UX e)]
theorem L4(l:List (Option Nat))(t j:Nat):own (l.map fun x=>if x=some t then none else x) j=if own l j=some t then none else own l j:=by unfold own;rw[D_];cases e:l[j]? with
|none=>rfl
|some x=>cases x <;> rfl
theorem Own.ownS{owns:List (Option Nat)}{m h t:Nat}(w:Own owns m)(hh:h<owns.length)(ht:t<m):Own (ownS owns h t) m where
 lt:=fun x hx=>by
  unfold Law.ownS at hx;rcases WN hx with z|z
  .obtain⟨y,h1,h2⟩:=p_.mp z;split at h2
   .cases h2
   .subst h2;exact w.lt x h1
  .cases z;exact ht
 inj:=fun j k x h1 h2=>by
  unfold Law.ownS at h1 h2;rw[DX (by simpa using hh),L4]at h1 h2;by_cases e1:j=h <;> by_cases e2:k=h
  .rw[e1,e2]
  .rw[if_pos e1]at h1;rw[if_neg e2]at h2;cases h1;split at h2
   .cases h2
   .rename_i z;exact absurd h2 z
  .rw[if_neg e1]at h1;rw[if_pos e2]at h2;cases h2;split at h1
   .cases h1
   .rename_i z;exact absurd h1 z
  .rw[if_neg e1]at h1;rw[if_neg e2]at h2;split at h1
   .cases h1
   .split at h2
    .cases h2
    .exact w.inj j k x h1 h2
theorem Own.lose{owns:List (Option Nat)}{m h:Nat}(w:Own owns m)(hh:h<owns.length):Own (owns.set h none) m where
 lt:=fun x hx=>by
  rcases WN hx with z|z
  .exact w.lt x z
  .cases z
 inj:=fun j k x h1 h2=>by
  rw[DX hh]at h1 h2;split at h1
  .cases h1
  .split at h2
   .cases h2
   .exact w.inj j k x h1 h2
def oT:Option (List Nat)->D
|none=>.non
|some l=>TN l
abbrev df(rows:List (List Nat))(owns:List (Option Nat))(o:Option (List Nat)):D:=.tup [WD rows,OD owns,oT o]
theorem Scene.tx(S:Scene rows owns o n m):Txs rows owns n m:=⟨S.n1,S.n7,S.nm,S.m8,S.rl,S.rp,S.ow,S.ol⟩
def nS(rows:List (List Nat))(owns:List (Option Nat))(o:Option (List Nat))(line:Str)(rows':List (List Nat))(owns':List (Option Nat))(o':Option (List Nat)):Prop:=(∃n m,Scene rows' owns' o' n m)/\∀past:List D,past.length<=1000->ik (kD rows owns o,past) [.str line]=some (.str (cw rows' owns'),(kD rows' owns' o',past++[kD rows owns o]))
theorem xI{h:Nat}:32∉(aA h).cps.toList:=fun z=>by have:=y_.mp (show 32∈[48+h]from z);omega
theorem NE{t:Nat}:32∉(az t).cps.toList:=fun z=>by have:=y_.mp (show 32∈[65+t]from z);omega
theorem Nl{rows':List (List Nat)}{owns':List (Option Nat)}{n' m':Nat}(S:Txs rows' owns' n' m'):nS rows owns o ("rows "++cw rows' owns') rows' owns' none:=by
 refine⟨⟨n',m',S.n1,S.n7,S.nm,S.m8,S.rl,S.rp,S.ow,S.ol,fun l h=>nomatch h⟩,fun past hp=>?_⟩;have e0:("rows " : Str) = "rows"++" " := by kernel_rfl
 have e:=WM (cw rows' owns') " ";have ej:Ua " " ("rows"::Txt.split (cw rows' owns') " ") = "rows "++cw rows' owns':=by rw[oP (wX _ _),e,e0]
 have hl:=yR S;have h5:("rows " : Str).length=5:=by decide+kernel
 have hw:=ng (ws := "rows"::Txt.split (cw rows' owns') " ") (by simp) (fun p hp=>by
  rcases n_.mp hp with e|e
  .rw[e];decide+kernel
  .exact Q3 p e) (by rw[ej,UW,h5];omega)
 rw[ej]at hw;exact rh S hw (by decide+kernel) (by decide+kernel) (f:=nz) (if_pos rfl) (QC S) hp
theorem Ov(h t:Nat):Ua " " ["own",aA h,az t] = "own "++aA h++" "++az t:=by
 have e0:("own " : Str) = "own"++" " := by kernel_rfl
 rw[oP (by simp),oP (by simp),e0];simp only[Str.append_assoc];rfl
theorem Dr(S:Scene rows owns o n m){h t:Nat}(hh:h<n)(ht:t<m):nS rows owns o ("own "++aA h++" "++az t) rows (ownS owns h t) o:=by
 have ho:h<owns.length:=by rw[S.ol];exact hh
 have S':Scene rows (ownS owns h t) o n m:=⟨S.n1,S.n7,S.nm,S.m8,S.rl,S.rp,S.ow.ownS ho ht,by unfold ownS;rw[VJ,j_,S.ol],S.op⟩
 refine⟨⟨n,m,S'⟩,fun past hp=>?_⟩;have hs:(Ua " " ["own",aA h,az t]).length<=10000:=by
  have:=VF " " ["own",aA h,az t];have e1:("own" : Str).length=3:=by decide+kernel
  have e2:(" " : Str).length=1:=by decide+kernel
  simp only[L_,UV,Zo,List.sum_nil,x_,VI,e1,e2]at this;have e3:(aA h).length=1:=rfl;have e4:(az t).length=1:=rfl;omega
 have hw:=ng (ws:=["own",aA h,az t]) (by simp) (fun p hp=>by
  rcases n_.mp hp with e|e
  .rw[e];decide+kernel
  .rcases n_.mp e with e|e
   .rw[e];exact xI
   .rw[y_.mp e];exact NE) hs
 rw[Ov]at hw;exact rh S'.tx hw (by decide+kernel) (by decide+kernel) (f:=nE) ((if_neg (by decide+kernel)).trans (if_pos rfl)) (Pn S.tx hh ht) hp
theorem Nk(S:Scene rows owns o n m){h:Nat}(hh:h<n):nS rows owns o ("none "++aA h) rows (owns.set h none) o:=by
 have ho:h<owns.length:=by rw[S.ol];exact hh
 have S':Scene rows (owns.set h none) o n m:=⟨S.n1,S.n7,S.nm,S.m8,S.rl,S.rp,S.ow.lose ho,by rw[VJ,S.ol],S.op⟩
 refine⟨⟨n,m,S'⟩,fun past hp=>?_⟩;have e0:("none " : Str) = "none"++" " := by kernel_rfl
 have ej:Ua " " ["none",aA h] = "none "++aA h:=by rw[oP (by simp),e0];rfl
 have h5:("none " : Str).length=5:=by decide+kernel
 have hw:=ng (ws:=["none",aA h]) (by simp) (fun p hp=>by
  rcases n_.mp hp with e|e
  .rw[e];decide+kernel
  .rw[y_.mp e];exact xI) (by rw[ej,UW,h5];show 5+1<=10000;decide)
 rw[ej]at hw;exact rh S'.tx hw (by decide+kernel) (by decide+kernel) (f:=ny) ((if_neg (by decide+kernel)).trans ((if_neg (by decide+kernel)).trans (if_pos rfl))) (QB S.tx hh) hp
theorem O9(S:Scene rows owns o n m){l:List Nat}(hp:l.Perm (t_ n)):nS rows owns o (Ua " " ("order"::l.map aA)) rows owns (some l):=by
 have S':Scene rows owns (some l) n m:=⟨S.n1,S.n7,S.nm,S.m8,S.rl,S.rp,S.ow,S.ol,fun l' e=>by cases e;exact hp⟩
 refine⟨⟨n,m,S'⟩,fun past hq=>?_⟩;have hl:l.length=n:=by rw[hp.length_eq];simp
 have L:=S.n7;have hs:(Ua " " ("order"::l.map aA)).length<=10000:=by
  have h:=VF " " ("order"::l.map aA);have h2:=WX (B:=5) ("order"::l.map aA) (fun y hy=>by
   rcases n_.mp hy with e|e
   .rw[e];decide+kernel
   .obtain⟨x,_,rfl⟩:=p_.mp e;show 1<=5;decide)
  have e2:(" " : Str).length=1:=by decide+kernel
  rw[e2,x_,j_]at h;rw[x_,j_]at h2;omega
 have hw:=ng (ws := "order"::l.map aA) (by simp) (fun p hp=>by
  rcases n_.mp hp with e|e
  .rw[e];decide+kernel
  .obtain⟨x,_,rfl⟩:=p_.mp e;exact xI) hs
 exact rh S'.tx hw (by decide+kernel) (by decide+kernel) (f:=nv) ((if_neg (by decide+kernel)).trans ((if_neg (by decide+kernel)).trans ((if_neg (by decide+kernel)).trans (if_pos rfl)))) (Q9 S.tx hp) hq
theorem J8{a b:List D}(h:a.length+b.length<=1000):addA (.lst a) (.lst b)=some (.lst (a++b)):=by show(if a.length+b.length<=sizeLine then _ else _)=_;rw[if_pos (by rw[N_];omega)]
theorem QD(S:Scene rows owns o n m)(c:Nat):∃line rows' owns' o',nS rows owns o line rows' owns' o'/\pk [nD c,df rows owns o]=.ok (.tup [.str line,df rows' owns' o']):=by
 have Id:=S.n1;have ad:=S.n7;have Cl:=S.m8;have BT:=S.nm;have dl:c%5<5:=Wi _ (by decide);have hh:c/5%n<n:=Wi _ (by omega);have ht:c/5/n%m<m:=Wi _ (by omega);have hlen:lenD [WD rows]=some (nD n):=by rw[jm,S.rl]
 obtain⟨r0,ac,Z⟩:∃r0,aX (WD rows) (.int 0)=some (TN r0)/\lenD [TN r0]=some (nD m):=by have hne:=S.ne;have h0:=S.row0;cases rows with
 |nil=>exact absurd rfl hne
 |cons r rest=>exact⟨r,ixA_T0 _ _,by rw[jm];have:r.length=m:=h0;rw[this]⟩
 suffices h:∃line rows' owns' o',nS rows owns o line rows' owns' o'/\sD (aE 12 [nD c,df rows owns o])=.rt (.tup [.str line,df rows' owns' o'])by obtain⟨line,rows',owns',o',h1,h2⟩:=h;exact⟨line,rows',owns',o',h1,bj (B:=sD) (n:=12) h2⟩
 unfold sD;have go:∀s2:FS,(seqF (gu dS (gv 1) (dq (bD (ay 2) (bD (ay 3) (bD (ay 4) c9))))) (seqF (ao dS 5 (fC (af (gv 2) ab) lenD)) (seqF (ao dS 6 (fC (af (f2 (gv 2) (ci 0) aX) ab) lenD)) (seqF (ao dS 7 (f2 (gv 0) (ci 5) aV)) (seqF (ao dS 0 (f2 (gv 0) (ci 5) fN)) s2))))) (aE 12 [nD c,df rows owns o])
   = s2 [some (nD (c/5)),some (df rows owns o),some (WD rows),some (OD owns),some (oT o),some (nD n),some (nD m),some (nD (c%5)),none,none,none,none]:=by intro s2;refine(aq (uY (r':=[some (nD c),some (df rows owns o),some (WD rows),some (OD owns),some (oT o),none,none,none,none,none,none,none]) (d:=df rows owns o) rfl rfl)).trans ?_;refine(aq (a9 (d:=nD n) (bm (ag (d:=WD rows) rfl aj) hlen))).trans ?_;refine(aq (a9 (d:=nD m) (bm (ag (d:=TN r0) (ax (a:=WD rows) (b:=.int 0) rfl rfl ac) aj) Z))).trans ?_;refine(aq (a9 (d:=nD (c%5)) (ax (a:=nD c) (b:=nD 5) rfl rfl (jH (by decide))))).trans ?_;exact aq (a9 (d:=nD (c/5)) (ax (a:=nD c) (b:=nD 5) rfl rfl (lA (by decide) (by decide))))
 rw[go];have L:∀(k:Nat)(x8 x9 M U:Option D),(aW (f2 (gv 7) (fun _=>Res.ok (D.int (k:Int))) eqD)) [some (nD (c/5)),some (df rows owns o),some (WD rows),some (OD owns),some (oT o),some (nD n),some (nD m),some (nD (c%5)),x8,x9,M,U]=.ok (decide (c%5=k)):=fun k x8 x9 M U=>bZ (ax (a:=nD (c%5)) (b:=nD k) rfl rfl (je _ _));have one:(aW (f2 (gv 5) (ci 1) eqD)) [some (nD (c/5)),some (df rows owns o),some (WD rows),some (OD owns),some (oT o),some (nD n),some (nD m),some (nD (c%5)),none,none,none,none]=.ok (decide (n=1)):=bZ (ax (a:=nD n) (b:=nD 1) rfl rfl (je _ _));by_cases q1:c%5=0\/(c%5=4/\n=1)
 .obtain⟨rows',owns',n',m',S',hs⟩:=Pt (c/5);refine⟨_,rows',owns',none,Nl S',aQ ((cM ?_).trans ?_)⟩
  .have w0:=L 0 none none none none;have w4:=L 4 none none none none;by_cases z:c%5=0
   .rw[decide_eq_true z]at w0;exact lY w0
   .obtain⟨z4,z1⟩:=q1.resolve_left z;rw[decide_eq_false z]at w0;rw[decide_eq_true z4]at w4;rw[decide_eq_true z1]at one;exact(dY w0).trans ((k0 w4).trans one)
  .refine(aq (uY (r':=[some (nD (c/5)),some (df rows owns o),some (WD rows'),some (OD owns'),some (oT o),some (nD n),some (nD m),some (nD (c%5)),none,none,none,none]) (aT (ag (d:=nD (c/5)) rfl aj) hs) rfl)).trans ?_;refine aQ (aZ (fQ (ag (ax (a:=.str "rows ") (b:=.str (cw rows' owns')) rfl (aT (ag (d:=WD rows') rfl (ag (d:=OD owns') rfl aj)) (FM S')) ?_) (ag (d:=df rows' owns' none) (fQ (ag (d:=WD rows') rfl (ag (d:=OD owns') rfl (ag (d:=.non) rfl aj))) (by simp)) aj)) (by simp)));have hl:=yR S';have h5:("rows " : Str).length=5:=by decide+kernel
   show(if ("rows " : Str).length+(cw rows' owns').length<=sizeLine then _ else _)=_;rw[if_pos (by rw[h5,N_];omega)]
 .have f1':(gs (aW (f2 (gv 7) (ci 0) eqD)) (dw (aW (f2 (gv 7) (ci 4) eqD)) (aW (f2 (gv 5) (ci 1) eqD)))) [some (nD (c/5)),some (df rows owns o),some (WD rows),some (OD owns),some (oT o),some (nD n),some (nD m),some (nD (c%5)),none,none,none,none]=.ok false:=by
   have w0:=L 0 none none none none;have w4:=L 4 none none none none;rw[decide_eq_false (fun z=>q1 (.inl z))]at w0;refine(dY w0).trans ?_;by_cases z4:c%5=4
   .rw[decide_eq_true z4]at w4;rw[decide_eq_false (fun z=>q1 (.inr ⟨z4,z⟩))]at one;exact(k0 w4).trans one
   .rw[decide_eq_false z4]at w4;exact qf w4
  rw[aq ((bG f1').trans (e_skip _))];rw[aq (a9 (d:=nD (c/5%n)) (ax (a:=nD (c/5)) (b:=nD n) rfl rfl (jH (by omega))))];show ∃line rows' owns' o',_/\seqF _ _ [some (nD (c/5)),some (df rows owns o),some (WD rows),some (OD owns),some (oT o),some (nD n),some (nD m),some (nD (c%5)),some (nD (c/5%n)),none,none,none]=_;have ho:c/5%n<owns.length:=by rw[S.ol];exact hh
  have hol:owns.length<=60:=by rw[S.ol];omega
  have Y:=EX (h:=c/5%n) (by omega);have w1:=L 1 (some (nD (c/5%n))) none none none;have w4:=L 4 (some (nD (c/5%n))) none none none;by_cases q2:c%5=1\/c%5=4
  .refine⟨_,rows,ownS owns (c/5%n) (c/5/n%m),o,Dr S hh ht,aQ ((cM ?_).trans ?_)⟩
   .by_cases z:c%5=1
    .rw[decide_eq_true z]at w1;exact lY w1
    .rw[decide_eq_false z]at w1;rw[decide_eq_true (q2.resolve_left z)]at w4;exact(dY w1).trans w4
   .refine(aq (a9 (d:=nD (c/5/n%m)) (ax (a:=nD (c/5/n)) (b:=nD m) (ax (a:=nD (c/5)) (b:=nD n) rfl rfl (lA (by omega) (by omega))) rfl (jH (by omega))))).trans ?_;refine(aq (a9 (Eb (t:=c/5/n%m) _ _ hol (eG (d:=OD owns) rfl rfl) rfl))).trans ?_;refine(aq (jk (d:=.lst ((owns.map fun x=>if x=some (c/5/n%m)then none else x).map oD)) (k:=nD (c/5%n)) (v:=nD (c/5/n%m)) (d':=.lst ((ownS owns (c/5%n) (c/5/n%m)).map oD)) rfl rfl rfl ?_)).trans ?_
    .rw[qC (by simpa using ho)];unfold ownS;rw[Wz];rfl
    .have e4:("own " : Str).length=4:=by decide+kernel
     have e1:(" " : Str).length=1:=by decide+kernel
     have ef:(aA (c/5%n)).length=1:=rfl;have el:(az (c/5/n%m)).length=1:=rfl;refine aQ (aZ (fQ (ag (ax (a:=.str ("own "++aA (c/5%n)++" ")) (b:=.str (az (c/5/n%m))) (ax (a:=.str ("own "++aA (c/5%n))) (b:=.str " ") (ax (a:=.str "own ") (b:=.str (aA (c/5%n))) rfl (bm (ag (d:=nD (c/5%n)) rfl aj) Y) (ly (by rw[e4,ef];decide))) rfl (ly (by rw[UW,e4,ef,e1];decide)))
      (ax (a:=.str "ABCDEFGH") (b:=nD (c/5/n%m)) rfl rfl (om (by omega))) (ly (by rw[UW,UW,e4,ef,e1,el];decide))) (ag (d:=df rows (ownS owns (c/5%n) (c/5/n%m)) o) (fQ (ag (d:=WD rows) rfl (ag (d:=OD (ownS owns (c/5%n) (c/5/n%m))) (bm (ag (d:=.lst ((ownS owns (c/5%n) (c/5/n%m)).map oD)) rfl aj) rfl) (ag (d:=oT o) rfl aj))) (by simp)) aj)) (by simp)))
  .have q:(gs (aW (f2 (gv 7) (ci 1) eqD)) (aW (f2 (gv 7) (ci 4) eqD))) [some (nD (c/5)),some (df rows owns o),some (WD rows),some (OD owns),some (oT o),some (nD n),some (nD m),some (nD (c%5)),some (nD (c/5%n)),none,none,none]=.ok false:=by rw[decide_eq_false (fun z=>q2 (.inl z))]at w1;rw[decide_eq_false (fun z=>q2 (.inr z))]at w4;exact(dY w1).trans w4
   rw[aq ((bG q).trans (e_skip _))];have w2:=L 2 (some (nD (c/5%n))) none none none;by_cases q3:c%5=2
   .rw[decide_eq_true q3]at w2;refine⟨_,rows,owns.set (c/5%n) none,o,Nk S hh,aQ ((cM w2).trans ?_)⟩;refine(aq (a9 (d:=.lst (owns.map oD)) (bm (ag (d:=OD owns) rfl aj) rfl))).trans ?_;refine(aq (jk (d:=.lst (owns.map oD)) (k:=nD (c/5%n)) (v:=.non) (d':=.lst ((owns.set (c/5%n) none).map oD)) rfl rfl rfl ?_)).trans ?_
    .rw[qC (by simpa using ho),Wz];rfl
    .have e5:("none " : Str).length=5:=by decide+kernel
     have ef:(aA (c/5%n)).length=1:=rfl;refine aQ (aZ (fQ (ag (ax (a:=.str "none ") (b:=.str (aA (c/5%n))) rfl (bm (ag (d:=nD (c/5%n)) rfl aj) Y) (ly (by rw[e5,ef];decide))) (ag (d:=df rows (owns.set (c/5%n) none) o) (fQ (ag (d:=WD rows) rfl (ag (d:=OD (owns.set (c/5%n) none)) (bm (ag (d:=.lst ((owns.set (c/5%n) none).map oD)) rfl aj) rfl) (ag (d:=oT o) rfl aj))) (by simp)) aj)) (by simp)))
   .rw[decide_eq_false q3]at w2;obtain⟨l,hp,hl⟩:=DN (c/5) n (by omega);have IO:l.length=n:=by rw[hp.length_eq];simp
    refine⟨_,rows,owns,some l,O9 S hp,(aq ((bG w2).trans (e_skip _))).trans ?_⟩;refine(aq (a9 (aT (ag (d:=nD (c/5)) rfl (ag (d:=nD n) rfl aj)) hl))).trans ?_;have h3:((" " : Str)).length=1:=by decide+kernel
    have ec:∀r:am,eS r 11=.ok (TN l)->bN 1 [] (aL bz (gv 11)) (ay 0) (fun _=>Res.ok true) (fC (af (gv 0) ab) ke) r=.ok (.lst ((l.map aA).map D.str)):=fun r hr=>by refine(dD (l:=l) nD (fun _=>true) (fun x=>.str (aA x)) (eG (d:=TN l) hr rfl) (by omega) fun x hx=>⟨[some (nD x)],rfl,rfl,fun _=>bm (ag (d:=nD x) rfl aj) (EX (by have:=A_.mp (hp.mem_iff.mp hx);omega))⟩).trans ?_;rw[fj,K_];rfl
    refine aQ (aZ (fQ (ag (fL (d:=.str " ") (d':=.str (Ua " " ("order"::l.map aA))) rfl rfl (ag (ax (a:=.lst [.str "order"]) (b:=.lst ((l.map aA).map D.str)) (gM (ag (d:=.str "order") rfl aj) (by simp)) (ec _ rfl) (J8 (by simp;omega))) aj)
     (mQ (l := "order"::l.map aA) (B:=5) (fun y hy=>by
      rcases n_.mp hy with e|e
      .rw[e];decide+kernel
      .obtain⟨x,_,rfl⟩:=p_.mp e;show 1<=5;decide) (by rw[h3,x_,j_];omega))) (ag (d:=df rows owns (some l)) (fQ (ag (d:=WD rows) rfl (ag (d:=OD owns) rfl (ag (d:=TN l) rfl aj))) (by simp)) aj)) (by simp)))
theorem Scene.rings(S:Scene rows owns o n m){a:Nat->Nat}(t:Rg.TTC (Wr rows) (own owns) a (s0 rows o)):nr [WD rows,OD owns,cT o]=.ok (TN ((t_ n).map a)):=by have:=Rr S.ord S.ne (by rw[S.rl];have:=S.n7;omega) S.snd (fun h hh=>S.mem.mpr (by rw[S.rl]at hh;exact hh)) t;rw[S.rl]at this;exact this
theorem QG(S:Scene rows owns o n m):oY [df rows owns o]=.ok (LN (s0 rows o).line):=by have L:=S.n7;refine bj (B:=z8) (n:=1) ?_;unfold z8;have e2:f2 (gv 0) (ci 2) aX (aE 1 [df rows owns o])=.ok (oT o):=ax (a:=df rows owns o) (b:=nD 2) rfl rfl (ig (i:=2) rfl);unfold s0;cases o with
|none=>exact aQ ((cM (bZ (ax e2 rfl rfl))).trans (aQ (aZ (bm (ag (d:=nD rows.length) (bm (ag (d:=WD rows) (ax (a:=df rows owns none) (b:=nD 0) rfl rfl (ig (i:=0) rfl)) aj) (jm _ _)) aj) (qP (by rw[S.rl];omega))))))
|some l=>exact(aq ((bG (bZ (ax e2 rfl rfl))).trans (e_skip _))).trans (aQ (aZ (bm (ag (d:=TN l) e2 aj) rfl)))
theorem Scene.both(S:Scene rows owns o n m):∃l:List Nat,nH [WD rows,OD owns,LN (s0 rows o).line]=.ok (TN l)/\nw [TN l]=.ok (.str (lN l))/\(∀x∈l,x<m)/\l.length=n/\∀past,ik (kD rows owns o,past) [.str "deal"]=some (.str (lN l),(kD rows owns o,past)):=by
 have t:=Rg.IS (W:=Wr rows) (O:=own owns) ((s0 rows o).line.length+1) (s0 rows o) (by omega);generalize Rg.deal (Wr rows) (own owns) ((s0 rows o).line.length+1) (s0 rows o)=a at t;have B:=S.n7;have L:=S.m8;have hb:∀x∈(t_ n).map a,x<m:=fun x hx=>by obtain⟨h,hh,rfl⟩:=p_.mp hx;have:=Rg.uK t S.ok h (S.mem.mpr (A_.mp hh));rw[S.things]at this;exact A_.mp this
 have hl:((t_ n).map a).length=n:=by simp
 refine⟨(t_ n).map a,S.dealt t,Ki (fun x hx=>by have:=hb x hx;omega) (by omega),hb,hl,fun past=>P8 (Kh (S.rings t) (fun x hx=>by have:=hb x hx;omega) (by omega))⟩
structure Sc where
 rows:List (List Nat)
 owns:List (Option Nat)
 o:Option (List Nat)
 n:Nat
 m:Nat
 ok:Scene rows owns o n m
abbrev Sc.st(s:Sc):D:=df s.rows s.owns s.o
abbrev Sc.kd(s:Sc):D:=kD s.rows s.owns s.o
theorem B0{fl:D->am->Res (List D)}{F:gH}{r:am}{w w':DW}{ds:List D}(h1:fl w.1 r=.ok ds)(h2:F w ds=some (.bl true,w')):n8 fl F r w=.nx r w':=by unfold n8;rw[h1];show(match F w ds with|some (.bl true,w')=>OutD.nx r w'|some (.bl false,w')=>.rt (.bl false) w'|_=>.stuck)=_;rw[h2]
theorem step(ns:List Int)(k:Nat)(hk:k<=1000)(hl:k<ns.length)(s:Sc)(ah:List Sc)(ha:ah.length<=900)(x6 x7 x8:Option D):∃(s':Sc)(B:List Sc)(y6 y7 y8:Option D),B.length<=ah.length+1 /\mH [some (IN ns),none,none,some s.st,some (.lst (ah.map Sc.st)),some (nD k),x6,x7,x8] (s.kd,ah.map Sc.kd)=.nx [some (IN ns),none,none,some s'.st,some (.lst (B.map Sc.st)),some (nD k),y6,y7,y8] (s'.kd,B.map Sc.kd):=by
 obtain⟨c,hc⟩:=N7 ns k hk hl;have first:∀f:cu,bc (bI fun _=>ao jh 6 (aI (af (gv 0) (af (gv 5) ab)) [] nB)) f [some (IN ns),none,none,some s.st,some (.lst (ah.map Sc.st)),some (nD k),x6,x7,x8] (s.kd,ah.map Sc.kd)=f [some (IN ns),none,none,some s.st,some (.lst (ah.map Sc.st)),some (nD k),some (nD c),x7,x8] (s.kd,ah.map Sc.kd):=fun f=>eD (jC (a9 (aT (ag (d:=IN ns) rfl (ag (d:=nD k) rfl aj)) hc)))
 have key:∃(s':Sc)(B:List Sc)(line:Str),B.length<=ah.length+1/\B3 [some (IN ns),none,none,some s.st,some (.lst (ah.map Sc.st)),some (nD k),some (nD c),x7,x8]=.nx [some (IN ns),none,none,some s'.st,some (.lst (B.map Sc.st)),some (nD k),some (nD c),some (.str line),x8] /\ik (s.kd,ah.map Sc.kd) [.str line]=some (.str (cw s'.rows s'.owns),(s'.kd,B.map Sc.kd)):=by
  have t1:=bZ (ax (f:=f2 (gv 6) (ci 6) aV) (f':=fun _=>Res.ok (D.int 5)) (r:=[some (IN ns),none,none,some s.st,some (.lst (ah.map Sc.st)),some (nD k),some (nD c),x7,x8]) (a:=nD (c%6)) (b:=nD 5) (ax (a:=nD c) (b:=nD 6) rfl rfl (jH (by decide))) rfl (je _ _));have t2:=bZ (ax (f:=fC (af (gv 4) ab) lenD) (f':=fun _=>Res.ok (D.int 0)) (r:=[some (IN ns),none,none,some s.st,some (.lst (ah.map Sc.st)),some (nD k),some (nD c),x7,x8]) (b:=nD 0) (bm (ag (d:=.lst (ah.map Sc.st)) rfl aj) (fU _ _)) rfl (my ah.length 0));by_cases q:c%6=5/\0<ah.length
  .rw[decide_eq_true q.1]at t1;rw[decide_eq_true q.2]at t2;obtain⟨B,s',rfl⟩:∃(B:List Sc)(s':Sc),ah=B++[s']:=by
    have hne:ah≠[]:=fun z=>by rw[z]at q;simp at q
    exact⟨ah.dropLast,ah.getLast hne,(List.dropLast_concat_getLast hne).symm⟩
   refine⟨s',B,"undo",by simp;omega,(cM ((k0 t1).trans t2)).trans ?_,?_⟩
   .refine(aq (r':=[some (IN ns),none,none,some s'.st,some (.lst (B.map Sc.st)),some (nD k),some (nD c),x7,x8]) ?_).trans (aq (a9 rfl));unfold qi;simp only[Q_,L_,UV,Wb,List.getElem?_cons_zero,XC,XD];rfl
   .rw[Q_];exact P9 s'.ok.tx
  .obtain⟨line,rows',owns',o',⟨⟨n',m',S'⟩,h1⟩,h2⟩:=QD s.ok (c/6);refine⟨⟨rows',owns',o',n',m',S'⟩,ah++[s],line,by simp,(bG ?_).trans ?_,?_⟩
   .by_cases z:c%6=5
    .rw[decide_eq_true z]at t1;rw[decide_eq_false (fun y=>q ⟨z,y⟩)]at t2;exact(k0 t1).trans t2
    .rw[decide_eq_false z]at t1;exact qf t1
   .refine(aq (gN (d:=.lst (ah.map Sc.st)) (ds:=[s.st]) (d':=.lst ((ah++[s]).map Sc.st)) rfl rfl (ag (d:=s.st) rfl aj) (by rw[jJ (by simp;omega),Q_];rfl))).trans ?_;exact aq (uY (aT (ag (d:=nD (c/6)) (ax (a:=nD c) (b:=nD 6) rfl rfl (lA (by decide) (by decide))) (ag (d:=s.st) rfl aj)) h2) rfl)
   .rw[Q_];exact h1 (ah.map Sc.kd) (by simp;omega)
 obtain⟨s',B,line,U,h1,h2⟩:=key;obtain⟨l,b1,b2,b3,b4,b5⟩:=s'.ok.both;refine⟨s',B,some (nD c),some (.str line),some (TN l),U,?_⟩;unfold mH;refine(first _).trans ?_;refine(eD (jC h1)).trans ?_;have L:∀y6 y7 y8:Option D,f2 (gv 3) (ci 0) aX [some (IN ns),none,none,some s'.st,some (.lst (B.map Sc.st)),some (nD k),y6,y7,y8]=.ok (WD s'.rows):=fun y6 y7 y8=>ax (a:=s'.st) (b:=nD 0) rfl rfl (ig (i:=0) rfl);have M:∀y6 y7 y8:Option D,f2 (gv 3) (ci 1) aX [some (IN ns),none,none,some s'.st,some (.lst (B.map Sc.st)),some (nD k),y6,y7,y8]=.ok (OD s'.owns):=fun y6 y7 y8=>ax (a:=s'.st) (b:=nD 1) rfl rfl (ig (i:=1) rfl);refine(eD (B0 (ag (d:=.str line) rfl (ag (aT (ag (L _ _ _) (ag (M _ _ _) aj)) (FM s'.ok.tx)) aj)) (qZ h2))).trans ?_;refine(eD (jC (a9 (aT (ag (L _ _ _) (ag (M _ _ _) (ag (aT (ag (d:=s'.st) rfl aj) (QG s'.ok)) aj))) b1)))).trans ?_;exact eD (B0 (ag (d:=.str "deal") rfl (ag (aT (ag (d:=TN l) rfl aj) b2) aj)) (qZ (b5 _)))
theorem Cu(ns:List Int):∀(ks:List Nat)(s:Sc)(ah:List Sc)(x5 x6 x7 x8:Option D),(∀k∈ks,k<=1000/\k<ns.length)->ah.length+ks.length<=900->∃r w,gp 5 mH (ks.map nD) [some (IN ns),none,none,some s.st,some (.lst (ah.map Sc.st)),x5,x6,x7,x8] (s.kd,ah.map Sc.kd)=.nx r w
|[],s,ah,x5,x6,x7,x8,_,_=>⟨_,_,rfl⟩
|k::ks,s,ah,x5,x6,x7,x8,h,hl=>by rw[x_]at hl;obtain⟨h1,h2⟩:=h k e_;obtain⟨s',B,y6,y7,y8,e1,e2⟩:=step ns k h1 h2 s ah (by omega) x6 x7 x8;obtain⟨r,w,e3⟩:=Cu ns ks s' B (some (nD k)) y6 y7 y8 (fun z hz=>h z (h_ _ hz)) (by omega);refine⟨r,w,?_⟩;rw[<-e3];show(match mH [some (IN ns),none,none,some s.st,some (.lst (ah.map Sc.st)),some (nD k),x6,x7,x8] (s.kd,ah.map Sc.kd)with|.nx r' w'=>gp 5 mH (ks.map nD) r' w'|o=>o)=_;rw[e2]
theorem JM(a b:Nat):minD [nD a,nD b]=some (nD (min a b)):=by
 show some (D.int (if (b:Int)<(a:Int)then(b:Int)else(a:Int)))=some (D.int ((min a b:Nat):Int));by_cases h:b<a
 .rw[if_pos (by omega),Nat.min_eq_right (by omega)]
 .rw[if_neg (by omega),YX (by omega)]
theorem Nd(i j:Int):f8 [.int i,.int j]=if-(2^62)<=i/\i<2^62/\-(2^62)<=j/\j<2^62 then some (cD i (j-i).toNat)else none:=rfl
theorem Kf{a b:Nat}(ha:a<=1000)(hb:b<=1000):f8 [nD a,nD b]=some (((t_ (b-a)).map fun i=>a+i).map nD):=by
 have e:((b:Int)-(a:Int)).toNat=b-a:=by omega
 rw[Nd,if_pos ⟨by omega,by omega,by omega,by omega⟩,e,K_];unfold cD;refine congrArg some (U5 fun i _=>?_);show D.int ((a:Int)+(i:Int))=D.int ((a+i:Nat):Int);rw[YV]
section
variable{r1:am}{w1 w2:DW}{f1' f2':FL}{f:DW->cu}
theorem tX(h:f1' r w w'=.nx r1 w1 w2):dP f1' f2' r w w'=f2' r1 w1 w2:=by unfold dP;rw[h]
theorem Ja(h:f1' r w w'=.rt d):dP f1' f2' r w w'=.rt d:=by unfold dP;rw[h]
theorem t8(h:f w' r w=.nx r1 w1):gt f r w w'=.nx r1 w1 w':=by unfold gt;rw[h]
end
theorem sc1:Scene [[0]] [some 0] none 1 1:=⟨by decide,by decide,by decide,by decide,rfl,fun row h=>by rw[y_.mp h];exact Zf _,⟨fun x h=>by simp at h;omega,fun h k x h1 h2=>by have:=(oB h1).2;have:=(oB h2).2;simp at *;omega⟩,rfl,fun l h=>nomatch h⟩
def S1:Sc:=⟨_,_,_,_,_,sc1⟩
theorem Ik:cw [[0]] [some 0] = "A*" := by kernel_rfl
theorem IX:jN [.str "A*"]=.ok S1.kd:=by have:=EO sc1.tx;rw[Ik]at this;exact this
theorem Kx:iT (S1.kd,[]) [.str "deal",.str "A"]=some (.bl true,(S1.kd,[])):=by
 obtain⟨l,b1,b2,b3,b4,b5⟩:=sc1.both;obtain⟨x,rfl⟩:=uA l b4;have e:x=0:=by have:=b3 x e_;omega
 subst e;have h:=qZ (b5 []);rw[show lN [0] = "A" by kernel_rfl]at h;exact h
theorem Ky:iT (S1.kd,[]) [.str "own 0 A",.str "A*"]=some (.bl true,(S1.kd,[S1.kd])):=by have h:=(Dr (o:=none) sc1 (h:=0) (t:=0) (by decide) (by decide)).2 [] (by simp);rw[show ownS [some 0] 0 0=[some 0]from rfl,Ik,show("own "++aA 0++" "++az 0:Str) = "own 0 A" by kernel_rfl]at h;exact qZ h
def tt:List D->Res D:=CC S1.kd
theorem main(ns:List Int)(M:ns.length<=63):tt [.lst (ns.map .int)]=.ok (.bl true):=by
 obtain⟨r,w,ht⟩:=Cu ns ((t_ (ns.length-1)).map fun i=>1+i) S1 [] none none none none (fun k hk=>by obtain⟨i,hi,rfl⟩:=p_.mp hk;have:=A_.mp hi;omega) (by simp;omega);refine bj (B:=qw S1.kd) (n:=9) ?_;unfold qw jX;have e:∀f:FL,f (((aE 9 [.lst (ns.map .int)]).set 1 none).set 2 none) (S1.kd,[]) (S1.kd,[])=.rt (.bl true)->(match f (((aE 9 [.lst (ns.map .int)]).set 1 none).set 2 none) (S1.kd,[]) (S1.kd,[])with|.rt d=>Out.rt d|_=>.stuck)=.rt (.bl true):=fun f h=>by rw[h]
 refine e _ ?_;refine(tX (t8 (jC (a9 (d:=S1.st) (fQ (ag (d:=WD [[0]]) (fQ (ag (d:=TN [0]) (fQ (ag (d:=nD 0) rfl aj) (by simp)) aj) (by simp)) (ag (d:=OD [some 0]) (fQ (ag (d:=nD 0) rfl aj) (by simp)) (ag (d:=.non) rfl aj))) (by simp)))))).trans ?_;refine(tX (t8 (jC (a9 (d:=.lst []) (gM aj (by simp)))))).trans ?_;refine(tX (t8 (r1:=r) (w1:=w) ?_)).trans ?_
 .unfold tW;have hm:min ns.length 63=ns.length:=by omega
  have L:c7 f8 (af (ci 1) (af (fC (af (fC (af (gv 0) ab) lenD) (af (ci 63) ab)) minD) ab)) [some (IN ns),none,none,some S1.st,some (.lst []),none,none,none,none]=.ok (((t_ (ns.length-1)).map fun i=>1+i).map nD):=by refine mV (ag (d:=nD 1) rfl (ag (d:=nD ns.length) (bm (ag (d:=nD ns.length) (bm (ag (d:=IN ns) rfl aj) (fU _ _)) (ag (d:=nD 63) rfl aj)) (by rw[JM,hm])) aj)) (Kf (by decide) (by omega))
  show l0 (c7 f8 _ [some (IN ns),none,none,some S1.st,some (.lst []),none,none,none,none]) _=_;rw[L];exact ht
 .refine Ja ?_;unfold t6;show(match iT (S1.kd,[]) [.str "deal",.str "A"]with|some (.bl true,w1)=>sX (Res.ok [D.str "own 0 A",D.str "A*"]) (fun ds2=>(match iT w1 ds2 with|some (.bl b,_)=>OutL.rt (.bl b)|_=>.stuck))|some (.bl false,_)=>.rt (.bl false)|_=>.stuck)=_;rw[Kx];show(match iT (S1.kd,[]) [.str "own 0 A",.str "A*"]with|some (.bl b,_)=>OutL.rt (.bl b)|_=>.stuck)=_;rw[Ky]
end Law
namespace Law
open PySem PySem.Spec PyProof.Rows L2 DL
theorem Sf{base:Heap}{w:S_}{K:W.Frag}{mg:Str->Option a_}{P:E_}(T:Txt K mg){fa:Addr}{fd:UE}(A:Fun K "law" "law" qo fa fd)(SK:Callee P w K mg base "words_in" rR [] 2 false [Md.bw] jn)(ad:Callee P w K mg base "answer_deal" pr [] 9 false q0 lF)(L:Callee P w K mg base "refuse_unless" jp [] 1 false [Md.bw] fg)(SF:Callee P w K mg base "rows_text" sv [] 3 false bK nF)(Cl:Callee P w K mg base "after_rows" oZ [] 9 false q0 nz)(LT:Callee P w K mg base "after_own" su [] 5 false bq nE)(KK:Callee P w K mg base "after_none" se [] 5 false bq ny)(dl:Callee P w K mg base "after_order" sH [] 6 false bq nv)(Z:Callee P w K mg base "kept_of_text" pj [] 8 false [Md.bw] jN)(SH:Callee P w K mg base "_law_wide" sr [] 2 false q0 nB)(ac:Callee P w K mg base "_law_change" sG [] 3 false bq pk)(Sz:Callee P w K mg base "_law_text" pb [] 1 false bK lH)(LE:Callee P w K mg base "_law_order" r6 [] 1 false [Md.bw] oY)(B:Callee P w K mg base "_law_rings_dealt" sK [] 2 false dg nH)(Y:Callee P w K mg base "_law_letters" sB [] 1 false [Md.bw] nw)(U:bX K "kept" mN)(M:bX K "past" mM)(SR:bX K "owns" gB)(SM:bX K "wishes" eL)(SN:MethAt K "Desk" "undo" "Desk.undo" ka)(ST:MethAt K "Desk" "tell" "Desk.tell" j9)(BT:MakeAt K mg "Desk" "Desk" "Desk.__init__" kj)(IO:DefAt K mg "_law_heard" sx)(Id:QAt P w K mg "QUESTIONS" gP)(SJ:QAt P w K mg "CHANGES" gQ):FnOk P w K mg base cO 12 fa fd tw (jr K false [Md.sh] tt):=by
 obtain⟨C,f,SX,h1,xn,r⟩:=BT.ex;have hC:∀C',XN K "Desk" C'->C'=C:=fun C' h=>by obtain⟨C0,_,_,u,_⟩:=SN.ex;rw[u C' h,u C xn]
 have SU:=MD (P:=P) (w:=w) (mg:=mg) (base:=base) xn SN U M;have SV:=MC T xn ST U M SR SM Id SJ SU SK ad L SF Cl LT KK dl;exact My T A (RE T IO SV) (Pw xn hC BT U M IX Z) SH ac Sz LE B Y
end Law
open PySem PySem.W PyProof.Rows
namespace Law
open PySem PySem.Spec PyProof.Rows L2 DL
theorem Sa{K:W.Frag}{h:Heap}{mg:Str->Option a_}(KX:K.In h)(G:h.Ns Ub mg){L B:Addr}{ad:Addr}{Tx TD Tg Tn BT Tu:a_}{To Ty:Option Addr}{Tk:Array (Option a_)}{dl:Addr}{TB Tt Th Tr Cl Tv:a_}{Tz Tw:Option Addr}{Tl:Array (Option a_)}{M:Addr}{SH S2 KK SV Z SX:a_}{SJ LT:Option Addr}{IO:Array (Option a_)}{U:Addr}{SF ST LE SN Y SM:a_}{SZ S0:Option Addr}{Id:Array (Option a_)}(TQ:W.nsIn K Ub "Kept" = some (some (.ref L)))(T3:W.nsIn K Ub "Desk" = some (some (.ref B)))(TL:DL.iU K L (UH "Kept")=true)(TJ:DL.lM K "Kept" L=true)(T4:W.plainGet K L WB=true)(TY:W.hasDictIn K L=true)(T9:W.plainOver K L=true)(T6:W.findIn K (.ref L) "__setattr__" = some (some (.builtin "object.__setattr__")))(TR:DL.iU K B (UH "Desk")=true)(T5:DL.lM K "Desk" B=true)(TU:W.plainGet K B WB=true)(TV:W.hasDictIn K B=true)(TK:W.plainOver K B=true)(T1:W.findIn K (.ref B) "__setattr__" = some (some (.builtin "object.__setattr__")))(Tf:W.findIn K (.ref B) "kept" = some none)(Tb:W.findIn K (.ref L) "order" = some none)(Tm:W.findIn K (.ref L) "owns" = some none)(Td:W.findIn K (.ref B) "past" = some none)(Ta:W.findIn K (.ref L) "wishes" = some none)(TX:W.makesIn K L=true)(TZ:W.findIn K (.ref L) "__init__" = some (some (.ref ad)))(T7:W.isFn K (.ref ad)=true)(TM:W.keepIn K (.ref L)=true)(TF:K.lookup ad=some ⟨Tx,To,.func (W.fnOf "__init__" "Kept.__init__" (L2.aC Law.lq) (L2.ap Law.lq) (L2.aa Law.lq) .none TD Tg Tn Ty BT Tu),Tk⟩)(Tp:W.codeIn K BT "Kept.__init__" = true)(TC:W.keepIn K (.ref ad)=true)(T0:W.makesIn K B=true)(T8:W.findIn K (.ref B) "__init__" = some (some (.ref dl)))(T2:W.isFn K (.ref dl)=true)(TW:W.keepIn K (.ref B)=true)(TH:K.lookup dl=some ⟨TB,Tz,.func (W.fnOf "__init__" "Desk.__init__" (L2.aC Law.kj) (L2.ap Law.kj) (L2.aa Law.kj) .none Tt Th Tr Tw Cl Tv),Tl⟩)(Ts:W.codeIn K Cl "Desk.__init__" = true)(Tq:W.keepIn K (.ref dl)=true)(Tj:W.findIn K (.ref B) "undo" = some (some (.ref M)))(Tc:W.isFn K (.ref M)=true)(S9:K.lookup M=some ⟨SH,SJ,.func (W.fnOf "undo" "Desk.undo" (L2.aC Law.ka) (L2.ap Law.ka) (L2.aa Law.ka) .none S2 KK SV LT Z SX),IO⟩)(SY:W.codeIn K Z "Desk.undo" = true)(Sz:W.keepIn K (.ref M)=true)(Te:W.findIn K (.ref B) "tell" = some (some (.ref U)))(Ti:W.isFn K (.ref U)=true)(S4:K.lookup U=some ⟨SF,SZ,.func (W.fnOf "tell" "Desk.tell" (L2.aC Law.j9) (L2.ap Law.j9) (L2.aa Law.j9) .none ST LE SN S0 Y SM),Id⟩)(SR:W.codeIn K Y "Desk.tell" = true)(SK:W.keepIn K (.ref U)=true):(DL.bX K "kept" Law.mN)/\(DL.bX K "order" Law.kG)/\(DL.bX K "owns" Law.gB)/\(DL.bX K "past" Law.mM)/\(DL.bX K "wishes" Law.eL)/\(DL.MakeAt K mg "Kept" "Kept" "Kept.__init__" Law.lq)/\(DL.MakeAt K mg "Desk" "Desk" "Desk.__init__" Law.kj)/\(DL.MethAt K "Desk" "undo" "Desk.undo" Law.ka)/\(DL.MethAt K "Desk" "tell" "Desk.tell" Law.j9):=by have SU:=DL.Ig TL TJ T4 TY T9 T6;have ac:=DL.Ig TR T5 TU TV TK T1;exact⟨DL.pw [((UH "Desk"),B)] (by intro q hq;simp only[n_,J_,or_false]at hq;rcases hq with rfl <;> first|exact⟨ac,Tf⟩) (fun nm h=>by have h2:=Vd.mp h;simp only[n_,J_,or_false]at h2;rcases h2 with rfl <;> simp),DL.pw [((UH "Kept"),L)] (by intro q hq;simp only[n_,J_,or_false]at hq;rcases hq with rfl <;> first|exact⟨SU,Tb⟩) (fun nm h=>by have h2:=Vd.mp h;simp only[n_,J_,or_false]at h2;rcases h2 with rfl <;> simp),DL.pw [((UH "Kept"),L)] (by intro q hq;simp only[n_,J_,or_false]at hq;rcases hq with rfl <;> first|exact⟨SU,Tm⟩) (fun nm h=>by have h2:=Vd.mp h;simp only[n_,J_,or_false]at h2;rcases h2 with rfl <;> simp),DL.pw [((UH "Desk"),B)] (by intro q hq;simp only[n_,J_,or_false]at hq;rcases hq with rfl <;> first|exact⟨ac,Td⟩) (fun nm h=>by have h2:=Vd.mp h;simp only[n_,J_,or_false]at h2;rcases h2 with rfl <;> simp),DL.pw [((UH "Kept"),L)] (by intro q hq;simp only[n_,J_,or_false]at hq;rcases hq with rfl <;> first|exact⟨SU,Ta⟩) (fun nm h=>by have h2:=Vd.mp h;simp only[n_,J_,or_false]at h2;rcases h2 with rfl <;> simp),DL.BJ SU (W.mg_of KX G TQ) TX TZ T7 TM (L2.dm TF Tp TC),DL.BJ ac (W.mg_of KX G T3) T0 T8 T2 TW (L2.dm TH Ts Tq),DL.BK ac Tj Tc (L2.dm S9 SY Sz),DL.BK ac Te Ti (L2.dm S4 SR SK)⟩
end Law
abbrev P0:=PySem.Challenge.rw_ringtrade_k44_rows_of_the_desk.prog
namespace PySem.W.Fast
def tw275518953612884539:=0
def tw4183067820621921711:=0
def tw12946533865879420950:=0
def tw5422064774874625089:=0
def tw15228755125848779463:=0
def tw8127833188193629303:=0
def tw12669522847828215669:=0
def tw12014555245992669036:=0
def tw14476950829741451009:=0
def tw14185695845022815419:=0
def tw2313091563179347110:=0
def tw11236821809630246565:=0
def tw15608561323301519777:=0
def tw5071804548490802439:=0
def tw16157545937255561327:=0
def tw10282665620392665750:=0
def tw7788893424389572503:=0
def tw744328220162140077:=0
def tw11368443082572668613:=0
def tw10259339052963320792:=0
def tw15715172769533626995:=0
def tw1454877035497597012:=0
def tw18275104017812482284:=0
def tw8116496098762874371:=0
def tw2314479412383677993:=0
def tw5377935501344993402:=0
def tw2337386045180488282:=0
def tw3918659444810085011:=0
def tw13274387786096172904:=0
def tw7775207896937727531:=0
def tw7372814577280408098:=0
def tw2433837233348233172:=0
def tw14429012445071884203:=0
def tw2266809085653580313:=0
def tw17398864944562117338:=0
def tw16797034184013489544:=0
def tw15823100394374885895:=0
def tw15520513383618465750:=0
def tw17045085178524550156:=0
def tw1354800916700331917:=0
def tw9041811320148402961:=0
def tw13603344525104346856:=0
def tw8799755107961670212:=0
def tw3804123317932174603:=0
def tw4166912530164935816:=0
def tw12740746555821672893:=0
def tw2879683808376664587:=0
def tw1450844663786006096:=0
def tw17882468026412952344:=0
def tw7130793184035285052:=0
def tw16346879313656065706:=0
def tw2655421022917190554:=0
def tw8126101640592553416:=0
def tw7920803222423614178:=0
def tw7038291529606143401:=0
def tw17366743613649090723:=0
def tw763234380033758186:=0
def tw16993856993190721604:=0
def tw11810937871303957461:=0
def tw9812553855243501165:=0
def tw16287967277021410938:=0
def tw18342970286205650426:=0
def tw16033778046642849227:=0
def tw15452325657282275998:=0
def tw3700543833871330039:=0
def tw16445257684303841211:=0
def tw9154268797038336303:=0
def tw1739055442515402808:=0
def tw5987964763325000250:=0
def tw8216457822875665707:=0
def tw12885894980479092702:=0
def tw2928542054005525038:=0
def tw16804848575121235436:=0
def tw8018870175107603423:=0
def tw17826375474970937495:=0
def tw6169347842128714085:=0
def tw772867912762147843:=0
def tw10178709711067976522:=0
def tw14947194959032542161:=0
def tw9478990595217053199:=0
def tw16598973474385421645:=0
def tw17041994926401535111:=0
def tw8620575708868132556:=0
def tw3223301575430332069:=0
def tw5395302101212787593:=0
def tw7592019510519772238:=0
def tw15047596176631227069:=0
def tw1597624138320021514:=0
def tw6691765963534959743:=0
def tw6714061734417444063:=0
def tw1495606242466759015:=0
def tw15301876645072058784:=0
def tw15077233386124524703:=0
def tw14500250549136369422:=0
def tw16298286358211707265:=0
def tw16983188577233969288:=0
def tw1381065052435470523:=0
def tw719154044489623336:=0
def tw13325564770163298673:=0
def tw6761351462043092442:=0
def tw14402406766093423032:=0
def tw10048191081718332004:=0
def tw11414459734340879320:=0
def tw15388257656534102985:=0
def tw17767096635032617349:=0
def tw2033894289718039268:=0
def tw9581537828884788923:=0
def tw17877013370212551528:=0
def tw16319658306873416724:=0
def tw10462999700638718241:=0
def tw1463060854718782428:=0
def tw5770512545380874437:=0
def tw14480631003932983467:=0
def tw4647055369592417549:=0
def tw15807395904313426707:=0
def tw2168706312366125542:=0
def tw8012943077749306035:=0
def tw18089308973121101108:=0
def tw3089382398086419161:=0
def tw11439587013173155851:=0
def tw18297927417373707607:=0
def tw16968330017177279498:=0
def tw11129418441963120521:=0
def tw9084621836543025682:=0
def tw3597694180064547424:=0
def tw7057185468159641902:=0
def tw13680239467306815619:=0
def tw5579938229797933363:=0
def tw3218670731329097012:=0
def tw8767836461998650561:=0
def tw13810770677539021205:=0
def tw14157681974825780393:=0
def tw3540887562482972126:=0
def tw4511486491163496437:=0
def tw15774507983265768751:=0
def tw15027601164735601133:=0
def tw14351563347786666653:=0
def tw1289222518941149266:=0
def tw1716483036760357405:=0
def tw3436431763980353823:=0
def tw5428574495076365982:=0
def tw14557913437732536983:=0
def tw8094076624279623381:=0
def tw6862461993531314082:=0
def tw10456476974948615025:=0
def tw737549729630709152:=0
def tw8307130705820940607:=0
def tw14858449981060636184:=0
def tw9791194927384589892:=0
def tw4184423948014079257:=0
def tw9880328201937414340:=0
def tw336617972493834019:=0
def tw7709931584400436101:=0
def tw11039281201203344285:=0
def tw9996321365415092408:=0
def tw7263125491186993233:=0
def tw8794822232924585026:=0
def tw12231362149824254447:=0
def tw627676425039617325:=0
def tw1603247791471884203:=0
def tw688726592054909063:=0
def tw667801351108121212:=0
def tw2162761074929388054:=0
def tw8335970369505405782:=0
def tw16548859472107946537:=0
def tw4859347089376694712:=0
def tw6113974782465293678:=0
def tw9589664076910479605:=0
def tw9150787552100948381:=0
def tw6144177564376063511:=0
def tw12250334602274969745:=0
def tw1998227583231426191:=0
def tw8353357474883372302:=0
def tw15488438156552474749:=0
def tw6235458556651301994:=0
def tw3678852587136746108:=0
def tw15147294663041458721:=0
def tw851185639279824566:=0
def tw16260812712748482239:=0
def tw3053502743545740274:=0
def tw8458672426302698524:=0
def tw5944151162128914842:=0
def tw5433619210927816804:=0
def tw9492202423454100395:=0
def tw668405495312242834:=0
def tw9855373855161247901:=0
def tw11013603643647181013:=0
def tw17982440841729457318:=0
def tw2481995908568957952:=0
def tw2676691537518625223:=0
def tw15514718405991442993:=0
def tw17969743257609197212:=0
def tw2531226375903886275:=0
def tw12877743860165450719:=0
def tw5899449148773543415:=0
def tw17346662845472136398:=0
def tw3891074316322410232:=0
def tw8016134234501037289:=0
def tw3291466869277532384:=0
def tw332838161667834977:=0
def tw17871517220132647546:=0
def tw4013401290731241399:=0
def tw9274748747913910703:=0
def tw9655650555684362171:=0
def tw5835076977698300123:=0
def tw1656155622886459556:=0
def tw6795129127996194206:=0
def tw2801601008048966701:=0
def tw1713166835358076758:=0
def tw5537810460970477756:=0
def tw7555098459780537115:=0
def tw16136293595592285820:=0
def tw322456995667302172:=0
def tw5424665815195042252:=0
def tw1518621402982889472:=0
def tw790296964215687582:=0
def tw12952002474489703674:=0
def tw15897669227721220299:=0
def tw18070488679913332429:=0
def tw3613301104814730669:=0
def tw236896944388481125:=0
def tw14372344708494382869:=0
def tw1015637811226206220:=0
def tw7015636501041818420:=0
def tw10650099900409464305:=0
def tw14963832889499859844:=0
def tw15433051655428066925:=0
def tw9998370763145733838:=0
def tw1552189571014906813:=0
def tw10466001775311842759:=0
def tw2128155955002539035:=0
def tw6622353397910745234:=0
def tw4646198169340778204:=0
def tw12352945533968268769:=0
def tw11828968039785809661:=0
def tw10726486169386938033:=0
def tw1601450364477776116:=0
def tw5025212099825123910:=0
def tw1921142347890843987:=0
def tw4225603798584485938:=0
def tw15435336099267079575:=0
def tw1833564308241646716:=0
def tw17499094750205927205:=0
def tw16083711353149583072:=0
def tw18310542916929394679:=0
def tw14024692118129345582:=0
def tw17145959173678525086:=0
def tw14180315498522018305:=0
def tw10773805529700238464:=0
def tw214574575470428500:=0
def tw6772847530953188674:=0
def tw8660627932720318027:=0
def tw10187963017545663656:=0
def tw17676745869798050187:=0
def tw9061461984319034920:=0
def tw7773711383862179049:=0
def tw11873284200553952419:=0
def tw16922263137433098754:=0
def tw4382828228261223712:=0
def tw18440771523257907193:=0
def tw15574956414473108482:=0
def tw15657283872037640579:=0
def tw10015384756481202336:=0
def tw1454203040969485880:=0
def tw5940661264902528584:=0
def tw1868426015646074031:=0
def tw17507153596158108083:=0
def tw12516889511370617173:=0
def tw16516898426381091126:=0
def tw16065154522349754051:=0
def tw12121122605295300265:=0
def tw8836149203516451770:=0
def tw12866055109270601248:=0
def tw12299515538133725586:=0
def tw4320019005885896747:=0
def tw9132298402154029667:=0
def tw1514172432035087267:=0
def tw11345003219682419834:=0
def tw7626093404587083131:=0
def tw7108821761672301975:=0
def tw5505568276021727529:=0
def tw11116355620639875169:=0
def tw17785642794015555406:=0
def tw5257501369369478721:=0
def tw11862108924380787223:=0
def tw2077368609913005143:=0
def tw7708090284169394093:=0
def tw9265494265292131099:=0
def tw14073529260840000190:=0
def tw6061405420833057731:=0
def tw4711821428852819119:=0
def tw7927706995412776550:=0
def tw921937965866677058:=0
def tw7144154000980607022:=0
def tw3939216302751684320:=0
def tw4422364589630104988:=0
def tw12125913346445625267:=0
def tw16836981055763089847:=0
def tw173523248150471599:=0
def tw6154749521957260888:=0
def tw6930636582630647762:=0
def tw11446788706366295045:=0
def tw14500766230114342747:=0
def tw7965107146417921787:=0
def tw9163626453598344296:=0
def tw18083657819424240353:=0
def tw17667341150789742790:=0
def tw2799979338808569314:=0
def tw1880249203899857306:=0
def tw7554138755228953885:=0
def tw13863346820947351846:=0
def tw18265714585200396506:=0
def tw6089436721567436893:=0
def tw10237580690847282040:=0
def tw5585816600952512298:=0
def tw16222949447140339720:=0
def tw12886162796289344561:=0
def tw7366931312828165786:=0
def tw17989323944514442475:=0
def tw16301827357942628381:=0
def tw5985881742721707128:=0
def tw6878335393089516847:=0
def tw3937847499872539206:=0
def tw7988997385241636255:=0
def tw2179594989146274522:=0
def tw2716424896757710939:=0
def tw6688611963632990180:=0
def tw4480250316084678919:=0
def tw18367236062868902519:=0
def tw12706979565246033461:=0
def tw5542882617456602221:=0
def tw17573826137768920290:=0
def tw17082440035335446347:=0
def tw378090500450031305:=0
def tw17485203905454443787:=0
def tw1786523385018343329:=0
def tw15870607248216727060:=0
def tw7845883556693388375:=0
def tw7673192983730496200:=0
def tw260953124040500899:=0
def tw7022790739541078097:=0
def tw8434380726610133575:=0
def tw11233565701122714756:=0
def tw13362377869092826413:=0
def tw6438634479582308155:=0
def tw10871757955632232586:=0
def tw8253059821598837729:=0
def tw12164807568926943703:=0
def tw8864955925447257601:=0
def tw4631305676201631444:=0
def tw11369754398316087536:=0
def tw15492712832100611378:=0
def tw10635695993842204767:=0
def tw12977577530656283117:=0
def tw13867157992216322874:=0
def tw13750517752513195890:=0
def tw12923510490249570016:=0
def tw5640605421226910411:=0
def tw941357566919235700:=0
def tw2944496727504526550:=0
def tw10606445449107091446:=0
def tw2596199258121290304:=0
def tw11039495019966323813:=0
def tw12637582379822872906:=0
def tw1094994548422246637:=0
def tw12449143257696857670:=0
def tw9236588205431551568:=0
def tw13069611684704710620:=0
def tw6491611613352972205:=0
def tw10663139673376780246:=0
def tw5153524736960071622:=0
def tw14465333157558498674:=0
def tw292979720507810294:=0
def tw1030247118066535073:=0
def tw14537347320964311963:=0
def tw16578642220387258817:=0
def tw2721301285304562267:=0
def tw2777519767672662295:=0
def tw4137012518708019436:=0
def tw14317081201428344419:=0
def tw6386904484881711080:=0
def tw7079056328416875594:=0
def tw15115865202245276083:=0
def tw3879388769425841136:=0
def tw5827291524845122200:=0
def tw7258076256411202475:=0
def tw538980178021763160:=0
def tw2489554487522907211:=0
def tw10240124955122810354:=0
def tw17297226261123720493:=0
def tw16194663843307451446:=0
def tw9531384872191060438:=0
def tw16684296554747926914:=0
def tw11297366551775856062:=0
def tw564636918775708562:=0
def tw6789654100343182566:=0
def tw3388367137161164226:=0
def tw1524646750442126662:=0
def tw5633994672314655364:=0
def tw15406495925754125554:=0
end PySem.W.Fast
set_option maxRecDepth 100000 in
set_option maxHeartbeats 0 in
theorem PySem.Challenge.cw_ringtrade_k44_rows_of_the_desk_holds : PySem.Challenge.rw_ringtrade_k44_rows_of_the_desk.Holds := by
 w_on; o_law; k_head; (case hw=>w_witness2)
 k_fill
 refine DL.Sb (l:=PySem.Challenge.rw_ringtrade_k44_rows_of_the_desk) (k:=12) (x := "_law_script") (F:=Law.tt) rfl rfl ⟨rfl,by decide,by decide,rfl⟩ (fun w h Y=>PySem.W.kIn_of Y) Law.main ?C
 intro w mg fa h KX G hmg
 have T:Law.Txt (L2.aP KX) mg:=by
  dsimp only [L2.aP]
  refine ⟨?ur,?ut,?uu,?uv,?uw,?ux,?uy,?uz,?u0,?u1,?u2,?u3,?u4,?u5,?u6,?u7,?u8,?u9,?va,?vb,?vc⟩
  case ur|ut|uu|uv|uw|ux|uy|uz|u0|u1|u2|u3|u4|u5=>(refine' PySem.W.mg_none_of KX G ?_; k_is)
  case u6=>(refine' DL.AS KX G ?z; case z=>k_is)
  case u7=>(refine' DL.AS KX G ?z; case z=>k_is)
  case u8=>(refine' DL.Ii KX G ?z; case z=>k_is)
  case u9=>(refine' DL.Ii KX G ?z; case z=>k_is)
  case va=>(refine' DL.AS KX G ?z; case z=>k_is)
  case vb=>(refine' DL.BI KX G ?vd ?ve; (case vd=>k_is); (case ve=>k_is))
  case vc=>(refine' DL.BI KX G ?vf ?vg; (case vf=>k_is); (case vg=>k_is))
 obtain ⟨vh,ud,ub,vi,ua,ue,vj,vk,vl⟩:(DL.bX (L2.aP KX) "kept" Law.mN)∧(DL.bX (L2.aP KX) "order" Law.kG)∧(DL.bX (L2.aP KX) "owns" Law.gB)∧(DL.bX (L2.aP KX) "past" Law.mM)∧(DL.bX (L2.aP KX) "wishes" Law.eL)∧(DL.MakeAt (L2.aP KX) mg "Kept" "Kept" "Kept.__init__" Law.lq)∧(DL.MakeAt (L2.aP KX) mg "Desk" "Desk" "Desk.__init__" Law.kj)∧(DL.MethAt (L2.aP KX) "Desk" "undo" "Desk.undo" Law.ka)∧(DL.MethAt (L2.aP KX) "Desk" "tell" "Desk.tell" Law.j9):=by
  dsimp only [L2.aP]
  refine' Law.Sa KX G ?vm ?vn ?vo ?vp ?vq ?vr ?vs ?vt ?vu ?vv ?vw ?vx ?vy ?vz ?v0 ?v1 ?v2 ?v3 ?v4 ?v5 ?v6 ?v7 ?v8 ?v9 ?wa ?wb ?wc ?wd ?we ?wf ?wg ?wh ?wi ?wj ?wk ?wl ?wm ?wn ?wo ?wp ?wq ?wr ?ws
  case vm|vn=>k_is
  case vo|vp|vq|vr|vs=>kernel_rfl
  case vt=>k_is
  case vu|vv|vw|vx|vy=>kernel_rfl
  case vz|v0|v1|v2|v3|v4=>k_is
  case v5=>kernel_rfl
  case v6=>k_is
  case v7=>kernel_rfl
  case v8|v9|wa|wb=>k_is
  case wc=>kernel_rfl
  case wd=>k_is
  case we=>kernel_rfl
  case wf|wg|wh|wi|wj=>k_is
  case wk=>kernel_rfl
  case wl|wm|wn|wo=>k_is
  case wp=>kernel_rfl
  case wq|wr|ws=>k_is
 obtain ⟨wt,wu,wv,ww,wx,wy,wz,uf,w0,w1,w2,w3,ug,w4,w5,w6,w7,w8,w9,xa,xb,xc,uk,xd,xe,xf,xg,uc,xh,xi,xj,xk,xl,uh,xm,xn,xo,xp,xq,xr,xs,xt,xu,xv,xw,xx,xy,ul,xz,x0,x1,um,x2,x3,x4,x5,x6,x7⟩:DL.DefAt (L2.aP KX) mg "refuse_too_many_rows" Law.AN∧DL.DefAt (L2.aP KX) mg "is_whole" Law.xZ∧DL.DefAt (L2.aP KX) mg "is_below" Law.xY∧DL.DefAt (L2.aP KX) mg "first_wrong" Law.Ak∧DL.DefAt (L2.aP KX) mg "are_unlike" Law.zq∧DL.DefAt (L2.aP KX) mg "has_each_once" Law.Az∧DL.DefAt (L2.aP KX) mg "wishes_of" Law.yI∧DL.DefAt (L2.aP KX) mg "things_in" Law.yG∧DL.DefAt (L2.aP KX) mg "owns_of" Law.xT∧DL.DefAt (L2.aP KX) mg "word_text" Law.yJ∧DL.DefAt (L2.aP KX) mg "row_text" Law.yf∧DL.DefAt (L2.aP KX) mg "rows_text" Law.yF∧DL.DefAt (L2.aP KX) mg "is_starred" Law.zv∧DL.DefAt (L2.aP KX) mg "letter_in" Law.yB∧DL.DefAt (L2.aP KX) mg "is_word" Law.xS∧DL.DefAt (L2.aP KX) mg "is_part" Law.xR∧DL.DefAt (L2.aP KX) mg "row_in" Law.wP∧DL.DefAt (L2.aP KX) mg "own_in" Law.wN∧DL.DefAt (L2.aP KX) mg "rows_read" Law.yE∧DL.DefAt (L2.aP KX) mg "things_text" Law.Al∧DL.DefAt (L2.aP KX) mg "best_left" Law.yA∧DL.DefAt (L2.aP KX) mg "owner_left" Law.zy∧DL.DefAt (L2.aP KX) mg "got_in" Law.wM∧DL.DefAt (L2.aP KX) mg "dealing_of" Law.zt∧DL.DefAt (L2.aP KX) mg "hand_pointed_at" Law.AH∧DL.DefAt (L2.aP KX) mg "ring_from" Law.yD∧DL.DefAt (L2.aP KX) mg "rings_of_round" Law.Am∧DL.DefAt (L2.aP KX) mg "refuse_unless" Law.AA∧DL.DefAt (L2.aP KX) mg "words_in" Law.yh∧DL.DefAt (L2.aP KX) mg "text_in" Law.xU∧DL.DefAt (L2.aP KX) mg "number_in" Law.yC∧DL.DefAt (L2.aP KX) mg "numbers_in" Law.zx∧DL.DefAt (L2.aP KX) mg "unlike_in" Law.yH∧DL.DefAt (L2.aP KX) mg "figures_of" Law.zu∧DL.DefAt (L2.aP KX) mg "letters_of" Law.zw∧DL.DefAt (L2.aP KX) mg "hand_in" Law.xQ∧DL.DefAt (L2.aP KX) mg "hand_and_thing_in" Law.AB∧DL.DefAt (L2.aP KX) mg "order_in" Law.yd∧DL.DefAt (L2.aP KX) mg "kept_of_text" Law.z7∧DL.DefAt (L2.aP KX) mg "after_rows" Law.zS∧DL.DefAt (L2.aP KX) mg "with_own" Law.yg∧DL.DefAt (L2.aP KX) mg "after_own" Law.yz∧DL.DefAt (L2.aP KX) mg "after_none" Law.zR∧DL.DefAt (L2.aP KX) mg "after_order" Law.Ai∧DL.DefAt (L2.aP KX) mg "answer_deal" Law.Aj∧DL.DefAt (L2.aP KX) mg "_law_cell" Law.yv∧DL.DefAt (L2.aP KX) mg "_law_wide" Law.yy∧DL.DefAt (L2.aP KX) mg "_law_row" Law.xW∧DL.DefAt (L2.aP KX) mg "_law_owns" Law.yw∧DL.DefAt (L2.aP KX) mg "_law_best" Law.yu∧DL.DefAt (L2.aP KX) mg "_law_rings_dealt" Law.AG∧DL.DefAt (L2.aP KX) mg "_law_text" Law.yx∧DL.DefAt (L2.aP KX) mg "_law_small" Law.zQ∧DL.DefAt (L2.aP KX) mg "_law_change" Law.Ah∧DL.DefAt (L2.aP KX) mg "_law_order" Law.zP∧DL.DefAt (L2.aP KX) mg "_law_letters" Law.zZ∧DL.DefAt (L2.aP KX) mg "law" Law.qo∧DL.DefAt (L2.aP KX) mg "_law_heard" Law.sx:=by
  dsimp only [L2.aP]
  refine ⟨?_,?_,?_,?_,?_,?_,?_,?_,?_,?_,?_,?_,?_,?_,?_,?_,?_,?_,?_,?_,?_,?_,?_,?_,?_,?_,?_,?_,?_,?_,?_,?_,?_,?_,?_,?_,?_,?_,?_,?_,?_,?_,?_,?_,?_,?_,?_,?_,?_,?_,?_,?_,?_,?_,?_,?_,?_,?_⟩ <;> (refine' DL.Sd KX G ?a ?l ?c ?k; (case a | l | c | k=>k_is))
 have x8:DL.DefAtD (L2.aP KX) mg "order_of" Law.ye [Value.none]:=by
  dsimp only [L2.aP]
  refine' DL.tu KX G ?a ?l ?t ?c ?k
  case a|l|t|c|k=>k_is
 have x9:DL.DefAtD (L2.aP KX) mg "rounds" Law.wO [Value.none]:=by
  dsimp only [L2.aP]
  refine' DL.tu KX G ?a ?l ?t ?c ?k
  case a|l|t|c|k=>k_is
 have ya:DL.DefAtD (L2.aP KX) mg "by_rings" Law.xX [Value.none]:=by
  dsimp only [L2.aP]
  refine' DL.tu KX G ?a ?l ?t ?c ?k
  case a|l|t|c|k=>k_is
 have yb:DL.QAt PySem.Challenge.rw_ringtrade_k44_rows_of_the_desk.prog w (L2.aP KX) mg "QUESTIONS" Law.gP:=by
  dsimp only [L2.aP]
  refine' DL.Ih [("rings",?tQ0,"answer_rings",?bQ0),("asks",?tQ1,"answer_asks",?bQ1),("deal",?tQ2,"answer_deal",?bQ2),("by",?tQ3,"answer_by",?bQ3),("of",?tQ4,"answer_of",?bQ4),("lot",?tQ5,"answer_lot",?bQ5),("eat",?tQ6,"answer_eat",?bQ6)] KX G ?z ?l ?e ?s ?n
  case z|l=>k_is
  case e|s=>exact rfl
  (case n=>refine ⟨?_,?_,?_,?_,?_,?_,?_,trivial⟩ <;> (dsimp only; k_is))
 have yc:DL.QAt PySem.Challenge.rw_ringtrade_k44_rows_of_the_desk.prog w (L2.aP KX) mg "CHANGES" Law.gQ:=by
  dsimp only [L2.aP]
  refine' DL.Ih [("rows",?tC0,"after_rows",?bC0),("own",?tC1,"after_own",?bC1),("none",?tC2,"after_none",?bC2),("order",?tC3,"after_order",?bC3)] KX G ?z ?l ?e ?s ?n
  case z|l=>k_is
  case e|s=>exact rfl
  (case n=>refine ⟨?_,?_,?_,?_,trivial⟩ <;> (dsimp only; k_is))
 refine DL.Se hmg x6 (fun _ _ _ _ _ _ us hl=>match us,hl with | [_],_=>rfl) fun f fd Fn base=>?_
 have un:=Law.Mw (P:=P0) (w:=w) (base:=base) T wv (Law.Mx T wu)
 have uo:=Law.Qe (P:=P0) (w:=w) (base:=base) T wy (Law.Oo T wx (Law.Pi T ww un))
 have ui:=Law.MO (P:=P0) (w:=w) (base:=base) T w4 (Law.uO T ug)
 have uj:=Law.Os (P:=P0) (w:=w) (base:=base) T xk (Law.kS T uc) (Law.NP T xj (Law.kS T uc))
 have up:=Law.Px (P:=P0) (w:=w) (base:=base) T xq (Law.NR T w9 (Law.LD T w6 (Law.uO T ug) (Law.LF T w5 ui)) (Law.KU T w7 ui) (Law.NU T wz (Law.RF T wt) uo) (Law.KR T w8 (Law.uO T ug) ui) (Law.LG T w0 (Law.uM T uf) un)) (Law.tR T ue ud ub ua)
 have uq:=Law.LR (P:=P0) (w:=w) (base:=base) T xs (Law.tR T ue ud ub ua) ub ud ua
 exact Law.Sf T Fn (Law.LS T xh (Law.kS T uc)) (Law.Ph T xw (Law.kS T uc) (Law.Mv T ya (Law.KS T x9 (Law.MA T x8 uo) (Law.uM T uf) (Law.P4 T xg (Law.MN T xb) (Law.Ql T xe (Law.Ot T xc)) (Law.NQ T xf)) (Law.BR T uk)) (Law.BR T uk) (Law.Op T xd)) (Law.Pj T xa) ud ub ua) (Law.kS T uc) (Law.NS T w3 (Law.MB T w2 (Law.NV T w1))) (Law.On T xr (Law.LH T xi (Law.kS T uc)) up) (Law.MM T xt (Law.Q6 T xo (Law.Oq T xm (Law.uM T uf)) (Law.uN T uh) uj) uq ua) (Law.OU T xu (Law.LC T xn (Law.uN T uh) uj) uq ua) (Law.Pg T xv (Law.Mz T xp (Law.uN T uh) (Law.NT T xl uj (Law.kS T uc))) (Law.tR T ue ud ub ua) ua ub) up (Law.ML T xy (Law.MJ T xx)) (Law.Om T x3 (Law.OT T x2 (Law.CA T ul) (Law.MK T xz)) (Law.CU T um) (Law.CA T ul)) (Law.CU T um) (Law.OS T x4) (Law.Q7 T x1 (Law.MI T x0)) (Law.Pv T x5) vh vi ub ua vk vl vj x7 yb yc
end
