import PyProof.Rows.All
import Wide.All
import OpenK.AllK
import Wide.FinOn
import Lean
import PyProof.EqAt
import PyProof.EqKinds
import PyProof.TupleCall
import PyProof.Rows.SetFrom
import KE.KSortTup
import PyProof.Draws
import PyProof.EnumMake
import PyProof.ListRange
import PyProof.Rows.EnumRows
import PyProof.SetRoads
import PyProof.Rows.MinMaxN
import PyProof.Rows.MaxTwoN
import PyProof.ZipIter
import PySem.Challenge.RW_ringtrade_k49_whole_hands_and_things_ren
noncomputable section
open List renaming range->a_,getElem?_eq_getElem->b_,mem_cons_self->d_,getElem?_eq_some_iff->e_,mem_cons_of_mem->i_,getElem?_set_ne->j_,mem_filter->l_,length_map->m_,mem_range->n_,size_toArray->o_,getElem?_set_self->p_,mem_map->r_,getElem?_map->t_,map_cons->u_,mem_cons->w_,getD_eq_getElem?_getD->x_,map_map->y_,getElem?_eq_none->z_,mem_singleton->D_,replicate->F_,length_append->L_,getElem?_range->QH,map_congr_left->QI,getElem?_append_left->QJ,find?_cons->QK,map_append->QL,Nodup->QO,filter_cons->QQ,length_range->QR,getElem_mem->QS,nodup_range->QU,mem_append_right->QV,ne_nil_of_mem->QW,append_nil->Q0,nodup_cons->Q1,append_assoc->Q2,find?_eq_none->Q3,length_drop->Q5,sum_cons->Q6,flatten_cons->Ra,mem_filterMap->Rb,mem_append->Rc,length_take->Rf,length_pos_iff->Rh,getElem?_append_right->Rj,length_cons->Rl,exists_mem_of_ne_nil->Rm,nodup_append->Rp,length_filter_le->Rq,length_erase_of_mem->Rs,getElem?_replicate->Rv,ext_getElem?->RA,replicate_succ->RE,drop_eq_getElem_cons->RF,pairwise_cons->RH,mem_flatten->RI,getElem?_take->RJ,mem_append_left->RL,mem_of_getElem?->RN,map_const'->R0,map_nil->R5,length_pos_of_mem->R7,idxOf_lt_length_of_mem->R8,all_cons->R9,all_eq_true->R_,not_mem_nil->Sa,getElem?_drop->Sf,length_replicate->Sh,mem_of_find?_eq_some->Sj,foldl_cons->So,nil_append->Sr,getElem?_of_mem->Su,range_eq_range'->Sw,filterMap_cons->SN,lookup_cons->SX,zipWith->S4,find?_some->S_,any_cons->Tb,length_singleton->Te,mem_of_mem_erase->Tg,take_append_drop->Th,drop_length->Tp,countP_cons->Tq,pairwise_iff_getElem->Tt,length_nil->TC,range_succ->TD,pairwise_map->T0,drop_zero->T1,singleton_append->T4,any_eq_true->T_,mem_erase_of_ne->Ug,mem_of_mem_drop->Ui,count_le_length->Uk,forIn_cons->Uo,length_zipWith->Ur,any_map->Uw,filter_filter->UN,nodup_iff_pairwise_ne->UO,getElem_idxOf->UR,length->US,ext_getElem->Va,take_of_length_le->Vr,pairwise_lt_range->Vu,of_mem_zip->Vx,count_cons->VC,getElem?_zipWith->VF,erase_cons_tail->VN,nodup_nil->VO,perm_cons_erase->VP,range'->VQ,filter_eq_self->VV,nil_perm->V1,zip_cons_cons->V6,count_pos_iff->Wb,count_eq_zero->Wc,take_sublist->Wh,zipIdx_cons->WB,flatMap_def->WG,range'_succ->WH,length_set->WP,zipIdx_nil->WU,countP_map->WV,idxOf_cons->WY,length_zip->WZ,foldl->W9,forIn_nil->Xh,find?_map->Xj,perm_nil->XR,map_take->XY,map_drop->XZ
open PySem renaming Value->c_,wpAny_bind->f_,Shared->k_,starEach->s_,wpAny_pure->E_,wpAny->I_,Program->J_,model->QE,World->QN,compareOp->QY,sizeLine_eq->QZ,Around->Q9,mainGlobals->Ri,wpAny_field->Ro,wpAny_pyIter_tuple->Ru,assignEach->Rx,mem_of_lookup->RD,FuncData->RM,foldedSetIterable->RP,wpAny_callSpecial?_slot->RU,wpAny_newObj_type->RX,wpAny_loadPart'->RZ,binaryOp->Sb,wpAny_seqItems->Sd,wpAny_setField_rec->Se,wpAny_passesOwn->Sm,wpAny_truthy_bool->Ss,sysModules->Sx,wpAny_mono->Sy,behindInMarks->Sz,IsPair->SJ,Scope->SK,cLine->SM,wpAny_call_entry->SU,wpAny_holding->Ta,attributeBase->Tc,wpAny_pyIter_list->Ti,NameKind->Tk,bootBuiltins->To,call_meets->TH,tupleKind_room_in1->TJ,sliceBounds->TR,wpAny_pyIter_enum->TY,Keyword->Ub,Builtin->Uc,wpAny_updateSeq_pair->Uf,assign->Ul,letOwnedTupleGo->Um,callType_new->Uy,swapsWith->UA,PassesOwn->UB,wpAny_Call_Name_kw->UE,wpAny_letOwnedTupleGo_enum->UL,IsZip->UM,keywordEach->UT,wpAny_standAt->UY,wpAny_comprehension_free->U0,wpAny_onRaise->U5,noFill_tuple_add->U8,wpAny_pyNext_enum_itemD->U9,holding->Vi,rawInt->Vj,concat_meets->Vk,callerA->Vp,notedBy->Vq,wpAny_pyNext_enum_endD->Vs,wpAny_execs_nil->Vw,bindArgs->VH,compEnvC->VI,tupleKind->VR,BindsTo->VS,codeAny->VT,valueAt->VU,swapsWithSole->VW,swappedStores->VX,seq_tuple_add->VY,Draws->V0,IsPart->V7,PlainAttrs->V8,wpAny_assign_Name->Wf,codeAny_mono->Wg,getItem->Wi,slot_list_getitem->Wj,backToKw->Wk,relabel->Wm,wpAny_eqBool_int->Wu,pyNext->Wv,DictEntry->Wx,wpAny_pyIter_zip->WE,seqIndex_of->WK,atKey->WL,wpAny_letGo->WN,argBest->W0,builtinsNs->W1,wpAny_Name->W2,bindL->W4,bindC->W5,typeIs_int->W8,call->W_,closureFor->Xc,field->Xd,wpAny_rule->Xe,CmpOp->X2,cellsFrom->X3,Meets->X4,seqItems?->X7,setItem->X9,standAt->X_,cellOf->Ya,sub_zip->Yd
open Bool renaming false_ne_true->g_,eq_iff_iff->N_,and_eq_true->QG,false_eq_true->V9,not_eq_true'->Wn,false_and->W3
open PySem.Heap renaming get?_push_of_some->h_,lt_size->A_,get?_push_size->B_,size_push->Sc,get?_none_of_le->Ue,IsTuple->Ux,SameBut->Vh,get?_update_other->Vm,get?_update_self->VE,IsList->VL,ExtBut->Yi
open Nat renaming le_refl->q_,lt_of_lt_of_le->C_,le_trans->O_,ne_of_lt->QM,zero_le->QX,lt_irrefl->Q_,ne_of_gt->RK,mul_pos->SZ,pow_le_pow_right->Tl,mod_lt->TM,zero_add->TZ,lt_succ_self->T7,dvd_mul_left->T9,dvd_trans->Ud,le_of_eq->Uu,lt_of_le_of_lt->UI,pos_of_ne_zero->UP,lt_succ_of_lt->UV,mul_div_cancel_left->Vd,mod_eq_of_lt->Vg,add_comm->Vo,lt_of_succ_lt_succ->Vt,pow_succ->Vv,div_le_self->Vz,pow_dvd_pow->VB,add_mul->VM,le_of_lt->We,mul_comm->Wl,add_zero->Wo,succ_le_succ->Wz,dvd_antisymm->WF,le_succ->WM,div_add_mod->WW,le_of_dvd->XU,gcd_comm->Ye,log2_lt->Yk,mul_add->Yl,Coprime->Yn
open PySem.PassesOwn renaming never->G_
open Int renaming mul_assoc->H_,natAbs_natCast->P_,mul_comm->QP,mul_left_comm->QT,natCast_mul->Re,toNat_natCast->Ry,gcd->RY,eq_of_mul_eq_mul_right->Sg,gcd_dvd_right->Sv,natCast_nonneg->S9,mul_lt_mul_of_pos_right->Tj,lt_of_mul_lt_mul_right->Tn,ofNat_inj->TB,gcd_dvd_left->T8,add_mul->Uj,toNat_of_nonneg->Us,fdiv_eq_ediv_of_nonneg->UD,natAbs_mul->UQ,mul_ediv_cancel_left->U6,natCast_ediv->Vb,natCast_dvd_natCast->Vc,natCast_add->VA,emod_nonneg->VD,dvd_mul_right->Wp,ofNat_lt->Wq,dvd_trans->XT,le_of_lt->Yf,mul_one->Yh,le_refl->Yj,dvd_gcd->Ym,sub_mul->Yo
open Option.some renaming inj->K_,injEq->Wd
open PySem.F renaming plainAttrs_list->M_,slot_list_append->Q7,type_list_append->Q8,args_tuple_add_2->Tw,entry_tuple_add->TQ,slot_list_index->TU,slot_list_count->TV,slot_tuple_add->TW,slot_list_insert->U1,slot_list_remove->U2,slot_dict_update->U3,slot_dict_values->U4,plainAttrs_dict->U_,type_list_index->Ve,type_list_count->Vf
open PySem.Builtin.SmallTypes renaming nextOf->Q4,ownedTupleIsFree->Rr,ownedTupleHandOut->Tu
open PySem.PyData renaming canLay0->Rk,eqvAll->Rt,depth->Rz,eqv->TK,canLayAll0->UW,depthAll->Vy
open Array renaming length_toList->RC,getElem?_toList->Tf,getD_eq_getD_getElem?->Uz,perm_iff_toList_perm->UJ,toArray_toList->VJ,append_assoc->V4,getD->Xa,toList->X8,ext'->Yq
open PySem.Builtin.Str renaming occurrences->RQ
open PyProof.Rows renaming slot_tuple_getitem->R1,callWith_type1->R4,IntsAre->S2,boot_sorted->Tx,envOfC->T6,AllBare->Ua,seqObj->UZ,subscriptTail_builtinR->Vl,listUpdate_at->VZ,callWith_builtin1->Ww,IsTup->WJ,get?_update_seq->WR,boot_isinstance->WT,assign_Tuple->Xv
open PySem.W renaming kas_desc->R3,kas_asc->R6,kas_place->Td,kas_rev->TX,kas_descPart->Uv,kas_sort->UK,kas_count->Wy,kas_tail3->X6
open PySem.Builtin.Slice renaming slicePlaces->Si,sliceAdjust->Ts,sliceApplied->UG,slicePartIndex->WO,sliceFields->Xu
open Classical renaming byContradiction->Sk
open Option renaming map_some->Sl,getD_none->SV,getD_some->Tr,isSome_map->UU,map_none->WS,isSome->XV,map->Yr
open LawfulBEq renaming eq_of_beq->Sn
open PySem.Builtin.Tuple renaming tupleExact->SD,tupleCompareSizes->Wt,tupleItemsOf->W7
open PySem.Obj renaming mapSeq->SF,data_mapFields->V_
open PySem.Builtin.List renaming listTooLong->SH,listFitsIndex->UH
open Function renaming comp_apply->SR,comp_def->T2
open PySem.Shared renaming heap->SY
open Ne renaming symm->S0
open False renaming elim->S1
open PySem.Builtin.Int renaming intBits->Tv,intTooBig->VG
open List.Nodup renaming mem_erase_iff->Tz
open PySem.Challenge renaming pw_ringtrade_k49_whole_hands_and_things_ren->T3,rw_ringtrade_k49_whole_hands_and_things_ren->T5
open List.Pairwise renaming filter->Uh,map->UX,imp_of_mem->XS
open PySem.Heap.SameBut renaming update->Uq
open PySem.Str renaming ofString->Ut
open PySem.Calls renaming Name_function_global->UC,callWith_builtin->Vn
open PySem.SeqAt.EqAt renaming int_int->UF,int_str->V2,str_int->V3,same->WQ
open PySem.Builtin.Range renaming rangeSize->U7
open PySem.SeqAt renaming EqAt->V5,shaped->Yb
open List.Perm renaming cons_inv->Wa,of_eq->WX
open Eq renaming trans->Ws
open PySem.MeetsSeq renaming EqGives->WA
open PySem.Heap.IsList renaming push->WC
open Sum.inl renaming inj->WI
open Prod renaming ext->W6
open PyProof.Rows.SortSt renaming mk'->Xb
open PySem.Draws renaming list->Xf
open PyProof.Rows.IntsAre renaming int_at->Xg,length->Xi,nums->Yc
open PySem.EqNone renaming eq_none_none->Xk,eq_none_bool->Xl,eq_bool_none->Xm,ne_none_none->Xp,ne_none_bool->Xq,ne_bool_none->Xr,eq_none_int->Xx,eq_none_str->Xy,eq_int_none->Xz,eq_str_none->XD,ne_none_int->XG,ne_none_str->XH,ne_int_none->XI,ne_str_none->XM
open PySem.EqMixed renaming eq_bool_str->Xn,eq_str_bool->Xo,ne_bool_str->Xs,ne_str_bool->Xt,eq_int_str->XB,eq_str_int->XE,ne_int_str->XJ,ne_str_int->XQ
open PySem.Value renaming isStrOf->Xw,isInt->Yg
open List.Sublist renaming append_left->X1
open PyProof.Rows.IsTup renaming new->X5
open PySem.W.WShape renaming has->Yp
set_option Elab.async false
set_option linter.all false
set_option maxRecDepth 100000
set_option maxHeartbeats 4000000
section
namespace L2
open PySem PySem.Spec PyProof.Rows
abbrev aA:=Sum Int Str
def mI:aA->c_->Bool
|.inl k,v=>Yg k v
|.inr x,v=>Xw x v
def zW(w:QN):aA->Int
|.inl k=>hashInt k
|.inr x=>hashStr w x
theorem keyIs_shape:∀{k:aA}{v:c_},mI k v=true->(∃i t,k=Sum.inl i/\v=Value.int i t)\/(∃x t,k=Sum.inr x/\v=Value.str x t)
|.inl i,v,h=>by obtain⟨t,e⟩:=Value.isInt_shape (k:=i) (v:=v) h;exact .inl ⟨i,t,rfl,e⟩
|.inr x,v,h=>by obtain⟨t,e⟩:=Value.isStrOf_shape (x:=x) (v:=v) h;exact .inr ⟨x,t,rfl,e⟩
theorem NX(i:Int)(t:Tok):mI (.inl i) (.int i t)=true:=by simp[mI,Yg]
theorem NF(x:Str)(t:Tok):mI (.inr x) (.str x t)=true:=by simp[mI,Xw]
theorem Ja(a b:Int):decide ((Sum.inl a:aA)=Sum.inl b)=(a==b):=by
 by_cases e:a=b
 .subst e;simp
 .have h:¬ (Sum.inl a:aA)=Sum.inl b:=fun q=>e (WI q);rw[decide_eq_false h];exact(beq_eq_false_iff_ne.mpr e).symm
theorem Jd(a b:Str):decide ((Sum.inr a:aA)=Sum.inr b)=decide (a=b):=by
 by_cases e:a=b
 .subst e;simp
 .have h:¬ (Sum.inr a:aA)=Sum.inr b:=fun q=>e (Sum.inr.inj q);rw[decide_eq_false h,decide_eq_false e]
theorem Jb(a:Int)(b:Str):decide ((Sum.inl a:aA)=Sum.inr b)=false:=decide_eq_false (fun q=>nomatch q)
theorem Jc(a:Str)(b:Int):decide ((Sum.inr a:aA)=Sum.inl b)=false:=decide_eq_false (fun q=>nomatch q)
def en(prog:J_)(w:QN):PySem.KeyKind prog w aA where
 is:=mI
 hash:=zW w
 inj:=fun v a b ha hb=>by
  rcases keyIs_shape ha with⟨i,t,rfl,rfl⟩|⟨x,t,rfl,rfl⟩
  .rcases keyIs_shape hb with⟨j,u,rfl,e⟩|⟨y,u,rfl,e⟩
   .injection e with e1 _;rw[e1]
   .exact nomatch e
  .rcases keyIs_shape hb with⟨j,u,rfl,e⟩|⟨y,u,rfl,e⟩
   .exact nomatch e
   .injection e with e1 _;rw[e1]
 byValue:=fun k v h=>by rcases keyIs_shape h with⟨i,t,rfl,rfl⟩|⟨x,t,rfl,rfl⟩ <;> rfl
 pyHash:=fun hv h=>by
  rcases keyIs_shape hv with⟨i,t,rfl,rfl⟩|⟨x,t,rfl,rfl⟩
  .exact wpAny_pyHash_int h
  .exact wpAny_pyHash_str h
 eqBool:=fun hu hv h=>by
  rcases keyIs_shape hu with⟨i,t,rfl,rfl⟩|⟨x,t,rfl,rfl⟩
  .rcases keyIs_shape hv with⟨j,u,rfl,rfl⟩|⟨y,u,rfl,rfl⟩
   .rw[Ja]at h;exact Wu h
   .rw[Jb]at h;exact V2 i t y u _ _ _ _ h
  .rcases keyIs_shape hv with⟨j,u,rfl,rfl⟩|⟨y,u,rfl,rfl⟩
   .rw[Jc]at h;exact V3 x t j u _ _ _ _ h
   .rw[Jd]at h;exact wpAny_eqBool_str h
 «strs»:=fun k x t v h=>by
  rcases keyIs_shape h with⟨i,u,rfl,e⟩|⟨y,u,rfl,e⟩
  .exact nomatch e
  .injection e with e1 _
   subst e1;cases v <;> rfl
theorem Pg(prog:J_)(w:QN)(i:Int)(t:Tok):(en prog w).is (.inl i) (.int i t)=true:=NX i t
theorem Ph(prog:J_)(w:QN)(x:Str)(t:Tok):(en prog w).is (.inr x) (.str x t)=true:=NF x t
inductive V where
 |non|bl (b:Bool)|int (i:Int)|str (x:Str)|byt (b:Array UInt8)|flt (b:UInt64)|ref (a:Addr)|ty (n:String)
 deriving DecidableEq
def av:V->c_->Prop
|.non,u=>u=Value.none
|.bl b,u=>u=Value.bool b
|.int i,u=>∃t,u=Value.int i t
|.str x,u=>∃t,u=Value.str x t
|.byt b,u=>∃t,u=Value.bytes b t
|.flt b,u=>∃t,u=Value.float b t
|.ref a,u=>u=Value.ref a
|.ty n,u=>u=Value.type n
abbrev aq:List V->List c_->Prop:=Paired av
theorem aq.length{xs:List V}{us:List c_}(r:aq xs us):xs.length=us.length:=Paired.length r
theorem aq.get:∀{xs:List V}{us:List c_}{i:Nat}{x:V},aq xs us->xs[i]? = some x->∃u,us[i]? = some u/\av x u
|_,_,_,_,.nil,e=>by simp at e
|_,_,0,_,.cons r _,e=>by simp at e;subst e;exact⟨_,rfl,r⟩
|_,_,i+1,x,.cons _ t,e=>by obtain⟨u,h1,h2⟩:=aq.get (i:=i) (x:=x) t (by simpa using e);exact⟨u,by simpa using h1,h2⟩
theorem aq.set{x:V}{u:c_}(r:av x u):∀{xs:List V}{us:List c_}(i:Nat),aq xs us->aq (xs.set i x) (us.set i u)
|_,_,_,.nil=>.nil
|_,_,0,.cons _ t=>.cons r t
|_,_,i+1,.cons q t=>.cons q (aq.set r i t)
theorem aq.append{xs ys:List V}{us ws:List c_}(h:aq xs us)(h':aq ys ws):aq (xs++ys) (us++ws):=by induction h with
|nil=>exact h'
|cons r _ ih=>exact .cons r ih
theorem aq.take:∀{xs:List V}{us:List c_}(n:Nat),aq xs us->aq (xs.take n) (us.take n)
|_,_,0,_=>.nil
|_,_,_+1,.nil=>.nil
|_,_,n+1,.cons r t=>.cons r (aq.take n t)
theorem aq.drop:∀{xs:List V}{us:List c_}(n:Nat),aq xs us->aq (xs.drop n) (us.drop n)
|_,_,0,r=>r
|_,_,_+1,.nil=>.nil
|_,_,n+1,.cons _ t=>aq.drop n t
def du:Option V->Option c_->Prop
|some v,some u=>av v u
|none,none=>True
|_,_=>False
def KV{κ:Type}:List (κ×V)->List (κ×c_)->Prop:=Paired fun(p:κ×V)(q:κ×c_)=>p.1=q.1/\av p.2 q.2
def kV:aA->V
|.inl i=>.int i
|.inr x=>.str x
inductive HO where
 |lst (xs:List V)
 |tup (xs:List V)
 |dK (kvs:List (aA×V))|dT (kvs:List (List aA×V))
 |set (S:Int->Bool) (n:Nat)
 |ins (C dx:Addr) (fs:List (Str×V))
 |own (x:Addr)
 |xd (fs:List (Str×V))
 |met (f x:Addr)
 |rng (lo hi:Int)
 |frz (o:Obj) (u:HO)
 |tbl (ps:Array c_)
 |ext (φ:Heap->Prop)
abbrev Hp:=Addr->Option HO
def upd(H:Hp)(a:Addr)(o:HO):Hp:=fun b=>if b=a then some o else H b
theorem ca{H:Hp}{a:Addr}{o:HO}:upd H a o a=some o:=by unfold upd;rw[if_pos rfl]
theorem bn{H:Hp}{a b:Addr}{o:HO}(h:b≠a):upd H a o b=H b:=by unfold upd;rw[if_neg h]
theorem GV{H:Hp}{a b:Addr}{o u:HO}(h:H a=some o)(h':H b=some u)(d:o≠u):a≠b:=by intro e;subst e;rw[h]at h';exact d (K_ h')
theorem k6{H:Hp}{a b:Addr}{o:HO}(h:H a=some o)(h':H b=none):a≠b:=by intro e;subst e;rw[h]at h';cases h'
section
variable(P:J_)(w:QN)
def bG(H:Hp)(h:Heap)(a:Addr):HO->Prop
|.lst xs=>xs.length<=sizeLine/\∃(its:List c_)(n:Nat),aq xs its/\h.get? a=some { cls:=.type "list",data:=.seq its.toArray n }
|.tup xs=>xs.length<=sizeLine/\∃its:List c_,aq xs its/\WJ h a its.toArray/\∃o,h.get? a=some o/\o.dict=none
|.dK kvs=>kvs.length<=sizeLine/\(a==Sx)=false/\∃vs,KV kvs vs/\h.DictOf (en P w) a vs
| .dT kvs=>kvs.length<=sizeLine/\(a == Sx)=false/\∃xs:List (List aA × Addr × c_),
   Paired (fun(p:List aA×V)(q:List aA×Addr×c_)=>p.1=q.1/\H q.2.1=some (.tup (p.1.map kV))/\av p.2 q.2.2) kvs xs /\∃o es ep,h.get? a=some o/\o.ExactDict/\o.data=.dict es ep/\es.toList=xs.map (entryOfKey (VR (en P w)))/\(xs.map (·.1)).Nodup
|.set S n=>h.SetOf (intKind P w) a S n
| .ins C dx fs=>H dx=some (.own a)/\fs.length<=1000/\dx≠a/\h.get? a=some (W.instObj C dx) /\
   ∃mA,h.Ns1 dx mA/\(∀f,du (fs.lookup f) (mA f))/\PySem.Within mA (fs.map (·.1))
|.own _=>∃o,h.get? a=some o
|.xd fs=>∃mA,h.Ns1 a mA/\∀f,du (fs.lookup f) (mA f)
|.rng lo hi=>∃t u v,h.get? a=some { cls:=.type "range",data:=.fields #[.int lo t,.int hi u,.int 1 v] }
|.frz o u=>h.get? a=some o/\bG H h a u
|.tbl ps=>h.get? a=some { cls:=.none,data:=.fields ps }
|.met f x=>h.get? a=some (W.methodObj (.ref f) (.ref x))
|.ext φ=>φ h/\(∃o,h.get? a=some o)/\∀h1 h2:Heap,φ h1->(∀o,h1.get? a=some o->h2.get? a=some o)->φ h2
def cC(H:Hp)(h:Heap):Prop:=∀a o,H a=some o->bG P w H h a o
end
section
variable{P:J_}{w:QN}{H H':Hp}{h h':Heap}{a:Addr}{o:HO}
theorem bG.lt(x:bG P w H h a o):a<h.objs.size:=by cases o with
|lst xs=>obtain⟨_,_,_,_,e⟩:=x;exact A_ e
|tup xs=>obtain⟨_,_,_,p,_⟩:=x;exact p.lt
|dK kvs=>obtain⟨_,_,_,_,o,_,_,e,_⟩:=x;exact A_ e
|dT kvs=>obtain⟨_,_,_,_,o,_,_,e,_⟩:=x;exact A_ e
|set S n=>obtain⟨o,_,_,_,e,_⟩:=x;exact A_ e
|ins C dx fs=>obtain⟨_,_,_,e,_⟩:=x;exact A_ e
|own y=>obtain⟨_,e⟩:=x;exact A_ e
|xd fs=>obtain⟨_,⟨_,_,_,e,_⟩,_⟩:=x;exact A_ e
|rng lo hi=>obtain⟨_,_,_,e⟩:=x;exact A_ e
|frz ob u=>obtain⟨e,_⟩:=x;exact A_ e
|tbl ps=>exact A_ (show h.get? a=some _ from x)
|met f y=>exact A_ (show h.get? a=some _ from x)
|ext φ=>obtain⟨_,⟨_,e⟩,_⟩:=x;exact A_ e
theorem Paired.mapP{α β:Type}{F G:α->β->Prop}{l₁:List α}{l₂:List β}(h:Paired F l₁ l₂)(f:∀a b,F a b->G a b):Paired G l₁ l₂:=by induction h with
|nil=>exact .nil
|cons r _ ih=>exact .cons (f _ _ r) ih
theorem bG.stay(x:bG P w H h a o)(k:∀b u,(b=a\/H b=some (.own a))->h.get? b=some u->h'.get? b=some u)(ho:∀b,H b=some (.own a)->H' b=some (.own a))(ht:∀b xs,H b=some (.tup xs)->H' b=some (.tup xs)):bG P w H' h' a o:=by induction o with
|lst xs=>obtain⟨z,its,n,r,e⟩:=x;exact⟨z,its,n,r,k _ _ (.inl rfl) e⟩
|tup xs=>obtain⟨z,its,r,⟨ob,e,c⟩,ob2,e2,c2⟩:=x;exact⟨z,its,r,⟨ob,k _ _ (.inl rfl) e,c⟩,ob2,k _ _ (.inl rfl) e2,c2⟩
|dK kvs=>obtain⟨z,y,vs,r,ob,es,ep,e,c⟩:=x;exact⟨z,y,vs,r,ob,es,ep,k _ _ (.inl rfl) e,c⟩
|dT kvs=>obtain⟨z,y,xs,r,ob,es,ep,e,c⟩:=x;exact⟨z,y,xs,Paired.mapP r fun p q z=>⟨z.1,ht _ _ z.2.1,z.2.2⟩,ob,es,ep,k _ _ (.inl rfl) e,c⟩
|set S n=>obtain⟨ob,es,ep,t,e,c⟩:=x;exact⟨ob,es,ep,t,k _ _ (.inl rfl) e,c⟩
|ins C dx fs=>obtain⟨d,z,ne,e,mA,⟨od,es,ep,e2,c⟩,r⟩:=x;exact⟨ho _ d,z,ne,k _ _ (.inl rfl) e,mA,⟨od,es,ep,k _ _ (.inr d) e2,c⟩,r⟩
|own y=>obtain⟨ob,e⟩:=x;exact⟨ob,k _ _ (.inl rfl) e⟩
|xd fs=>obtain⟨mA,⟨od,es,ep,e,c⟩,r⟩:=x;exact⟨mA,⟨od,es,ep,k _ _ (.inl rfl) e,c⟩,r⟩
|rng lo hi=>obtain⟨t,u,v,e⟩:=x;exact⟨t,u,v,k _ _ (.inl rfl) e⟩
|frz ob u ih=>obtain⟨e,q⟩:=x;exact⟨k _ _ (.inl rfl) e,ih q⟩
|tbl ps=>have e:h.get? a=some { cls:=.none,data:=.fields ps }:=x;show h'.get? a=some { cls:=.none,data:=.fields ps };exact k a _ (.inl rfl) e
|met f y=>have e:h.get? a=some (W.methodObj (.ref f) (.ref y)):=x;show h'.get? a=some (W.methodObj (.ref f) (.ref y));exact k a _ (.inl rfl) e
|ext φ=>obtain⟨p,⟨o,e⟩,st⟩:=x;exact⟨st _ _ p fun o q=>k _ _ (.inl rfl) q,⟨o,k _ _ (.inl rfl) e⟩,st⟩
theorem cC.lt(x:cC P w H h)(e:H a=some o):a<h.objs.size:=(x a o e).lt
theorem cC.fresh(x:cC P w H h)(e:h.objs.size<=a):H a=none:=by cases q:H a with
|none=>rfl
|some u=>exact absurd (C_ (x.lt q) e) (Q_ _)
theorem cC.kept(x:cC P w H h)(k:∀b u,h.get? b=some u->h'.get? b=some u):cC P w H h':=fun a o e=>(x a o e).stay (fun b u _ q=>k b u q) (fun _ q=>q) fun _ _ q=>q
theorem cC.laid(x:cC P w H h)(k:∀b u,h.get? b=some u->h'.get? b=some u)(hp:h.objs.size<=a)(new:bG P w (upd H a o) h' a o):cC P w (upd H a o) h':=fun b u e=>by
 have hn:=x.fresh hp;by_cases hb:b=a
 .subst hb;rw[ca]at e;cases e;exact new
 .rw[bn hb]at e;exact(x b u e).stay (fun c v _ q=>k c v q) (fun c q=>by rw[bn (k6 q hn)];exact q) fun c xs q=>by rw[bn (k6 q hn)];exact q
end
def Rd(H:Hp)(a:Addr)(u:HO):Prop:=H a=some u\/∃o,H a=some (.frz o u)
theorem Rd.ok{P:J_}{w:QN}{H:Hp}{h:Heap}{a:Addr}{u:HO}(r:Rd H a u)(x:cC P w H h):bG P w H h a u:=by
 rcases r with r|⟨o,r⟩
 .exact x a u r
 .obtain⟨_,q⟩:=x a _ r;exact q
def pA:Option HO->Prop
|some (.lst _)=>True
|some (.dK _)=>True
|some (.dT _)=>True
|some (.set _ _)=>True
|some (.ins _ _ _)=>True
|some (.ext _)=>True
|_=>False
section
variable{P:J_}{w:QN}{H:Hp}{h h':Heap}{x e:Addr}{o':HO}
theorem cC.write(ok:cC P w H h)(mu:pA (H x))(he:e=x\/H e=some (.own x))(k:∀b u,b≠e->h.get? b=some u->h'.get? b=some u)(heo:∃u,h'.get? e=some u)(new:bG P w (upd H x o') h' x o'):cC P w (upd H x o') h':=fun b u q=>by
 have nown:∀c y,H c=some (.own y)->c≠x:=fun c y r z=>by subst z;rw[r]at mu;exact mu
 have ntup:∀c xs,H c=some (.tup xs)->c≠x:=fun c xs r z=>by subst z;rw[r]at mu;exact mu
 by_cases hb:b=x
 .subst hb;rw[ca]at q;cases q;exact new
 .rw[bn hb]at q;by_cases hbe:b=e
  .have q':H b=some (.own x):=by
    rcases he with z|z
    .exact absurd (hbe.trans z) hb
    .rw[hbe];exact z
   rw[q]at q';cases q';obtain⟨v,hv⟩:=heo;exact⟨v,by rw[hbe];exact hv⟩
  .refine(ok b u q).stay (fun c v hc r=>k c v ?_ r) (fun c r=>by rw[bn (nown c b r)];exact r) fun c xs r=>by rw[bn (ntup c xs r)];exact r
   rcases hc with rfl|hc
   .exact hbe
   .rintro rfl
    rcases he with z|z
    .exact nown c b hc z
    .rw[hc]at z;cases z;exact hb rfl
end
structure Un(fs ex:List Addr)(H H':Hp)(h h':Heap):Prop where
 keep:∀b o,h.get? b=some o->H b=none->b∉fs->b∉ex->h'.get? b=some o
 slot:∀b o,h.get? b=some o->H b=none->b∈fs->b∉ex->∃sl,h'.get? b=some { o with slots:=sl }
 free:∀b o,h.get? b=some o->H b=none->b∉ex->H' b=none
 there:∀b o,h.get? b=some o->b∉ex->∃o',h'.get? b=some o'
 tups:∀b xs,H b=some (.tup xs)->H' b=some (.tup xs)
 frzs:∀b o u,H b=some (.frz o u)->H' b=some (.frz o u)
 tbls:∀b ps,H b=some (.tbl ps)->∃more,H' b=some (.tbl (ps++more))
section
variable{fs fs' ex ex':List Addr}{H H1 H2:Hp}{h h1 h2 h':Heap}{a x e:Addr}{o:HO}
theorem Un.any(u:Un fs ex H H1 h h1){b:Addr}{ob:Obj}(q:h.get? b=some ob)(n:H b=none)(hx:b∉ex):∃sl,h1.get? b=some { ob with slots:=sl }:=by
 by_cases hb:b∈fs
 .exact u.slot b ob q n hb hx
 .exact⟨ob.slots,u.keep b ob q n hb hx⟩
theorem Un.trans(a:Un fs ex H H1 h h1)(b:Un fs ex H1 H2 h1 h2):Un fs ex H H2 h h2 where
 keep:=fun c ob q n hc hx=>b.keep c ob (a.keep c ob q n hc hx) (a.free c ob q n hx) hc hx
 slot:=fun c ob q n hc hx=>by obtain⟨sl,e1⟩:=a.slot c ob q n hc hx;obtain⟨sl',e2⟩:=b.slot c _ e1 (a.free c ob q n hx) hc hx;exact⟨sl',e2⟩
 free:=fun c ob q n hx=>by obtain⟨o',e1⟩:=a.there c ob q hx;exact b.free c o' e1 (a.free c ob q n hx) hx
 there:=fun c ob q hx=>by obtain⟨o',e1⟩:=a.there c ob q hx;exact b.there c o' e1 hx
 tups:=fun c xs q=>b.tups c xs (a.tups c xs q)
 frzs:=fun c ob xs q=>b.frzs c ob xs (a.frzs c ob xs q)
 tbls:=fun c ps q=>by obtain⟨m1,e1⟩:=a.tbls c ps q;obtain⟨m2,e2⟩:=b.tbls c _ e1;exact⟨m1++m2,by rw[e2,V4]⟩
theorem Un.kept(k:∀b u,h.get? b=some u->h'.get? b=some u):Un fs ex H H h h':=⟨fun b ob q _ _ _=>k b ob q,fun b ob q _ _ _=>⟨ob.slots,k b ob q⟩,fun _ _ _ n _=>n,fun b ob q _=>⟨ob,k b ob q⟩,fun _ _ q=>q,fun _ _ _ q=>q,fun _ ps q=>⟨#[],by rw[q];simp⟩⟩
theorem Un.refl:Un fs ex H H h h:=Un.kept fun _ _ q=>q
theorem Un.laid(k:∀b u,h.get? b=some u->h'.get? b=some u)(hp:h.objs.size<=a)(hn:H a=none):Un fs ex H (upd H a o) h h' where
 keep:=fun b u q _ _ _=>k b u q
 slot:=fun b u q _ _ _=>⟨u.slots,k b u q⟩
 free:=fun b u q n _=>by rw[bn (QM (C_ (A_ q) hp))];exact n
 there:=fun b u q _=>⟨u,k b u q⟩
 tups:=fun b xs q=>by rw[bn (k6 q hn)];exact q
 frzs:=fun b u xs q=>by rw[bn (k6 q hn)];exact q
 tbls:=fun b ps q=>⟨#[],by rw[bn (k6 q hn),q];simp⟩
theorem Un.write(mu:pA (H x))(he:e=x\/H e=some (.own x))(k:∀b u,b≠e->h.get? b=some u->h'.get? b=some u)(heo:∃u,h'.get? e=some u):Un fs ex H (upd H x o) h h':=by
 have hx:∀b,H b=none->b≠x:=fun b n z=>by subst z;rw[n]at mu;exact mu
 have hb:∀b,H b=none->b≠e:=fun b n z=>by
  subst z;rcases he with r|r
  .exact hx b n r
  .rw[n]at r;cases r
 have hm:∀b u,H b=some u->¬ pA (some u)->b≠x:=fun b u q nm z=>by subst z;rw[q]at mu;exact nm mu
 refine⟨fun b u q n _ _=>k b u (hb b n) q,fun b u q n _ _=>⟨u.slots,k b u (hb b n) q⟩,fun b u q n _=>by rw[bn (hx b n)];exact n,fun b u q _=>?_,fun b xs q=>by rw[bn (hm b _ q fun z=>z)];exact q,fun b u xs q=>by rw[bn (hm b _ q fun z=>z)];exact q,fun b ps q=>⟨#[],by rw[bn (hm b _ q fun z=>z),q];simp⟩⟩;by_cases hbe:b=e
 .subst hbe;exact heo
 .exact⟨u,k b u hbe q⟩
theorem Un.mono(u:Un fs ex H H1 h h1)(hs:∀b∈fs,b∈fs')(hx:∀b∈ex,b∈ex'):Un fs' ex' H H1 h h1:=⟨fun b ob q n hb he=>u.keep b ob q n (fun z=>hb (hs b z)) fun z=>he (hx b z),fun _ _ q n _ he=>u.any q n fun z=>he (hx _ z),fun b ob q n he=>u.free b ob q n fun z=>he (hx b z),fun b ob q he=>u.there b ob q fun z=>he (hx b z),u.tups,u.frzs,u.tbls⟩
end
def trk(h:Heap)(H:Hp):List Addr:=(a_ h.objs.size).filter fun a=>(H a).isSome
def eJ(h:Heap)(H:Hp):Heap:=W.hideAll h (trk h H)
theorem NT(h:Heap)(H:Hp):(eJ h H).objs.size=h.objs.size:=W.hideAll_size _ _
theorem MQ{h:Heap}{H:Hp}{b:Addr}{o:Obj}(e:h.get? b=some o)(n:H b=none):(eJ h H).get? b=some o:=W.hideAll_get _ e fun hm=>by have q:(H b).isSome=true:=(l_.mp hm).2;rw[n]at q;simp at q
theorem Ki{h:Heap}{H:Hp}{b:Addr}{o:Obj}(e:(eJ h H).get? b=some o):h.get? b=some o/\H b=none:=by have e':h.get? b=some o:=W.of_hideAll (trk h H) e;refine⟨e',?_⟩;cases q:H b with
|none=>rfl
|some x=>have hm:b∈trk h H:=l_.mpr ⟨n_.mpr (A_ e'),by simp[q]⟩;have z:(eJ h H).get? b=none:=W.hideAll_none (trk h H) hm;rw[z]at e;cases e
def mR(g h:Heap)(L:Addr):List (Addr×Obj):=(a_ h.objs.size).filterMap fun a=>if a=L\/(g.get? a).isSome=true then none else(h.get? a).map fun o=>(a,o)
theorem m6{g h:Heap}{L a:Addr}{o:Obj}(h1:a≠L)(h2:g.get? a=none)(h3:h.get? a=some o):(a,o)∈mR g h L:=Rb.mpr ⟨a,n_.mpr (A_ h3),by simp[h1,h2,h3]⟩
theorem P3{g h:Heap}{L:Addr}{p:Addr×Obj}(hp:p∈mR g h L):p.1≠L/\g.get? p.1=none/\h.get? p.1=some p.2:=by
 obtain⟨b,_,e⟩:=Rb.mp hp;split at e
 .cases e
 .rename_i hn;cases q:h.get? b with
 |none=>rw[q]at e;simp at e
 |some u=>rw[q]at e;simp only[Sl,Wd]at e;subst e;refine⟨fun z=>hn (.inl z),?_,q⟩;show g.get? b=none;cases r:g.get? b with
  |none=>rfl
  |some v=>exact(hn (.inr (by simp[r]))).elim
def rest(g h:Heap)(L d:Addr):List (Addr×Obj):=(mR g h L).filter fun p=>decide (p.1≠d)
theorem wJ{g h:Heap}{L:Addr}:News g L h (mR g h L):=fun p hp=>let⟨a,b,c⟩:=P3 hp;⟨c,a,b⟩
structure Mod(K:W.Frag)(mg:Str->Option c_)(base:Heap):Prop where
 kin:K.In base
 glob:base.Ns Ri mg
 blt:∃mb,base.Ns W1 mb/\∀x:Str,x≠"__name__"->mb x=To x
 nolimit:base.NoLimit
structure Cx where
 prog:J_
 w:QN
 K:W.Frag
 mg:Str->Option c_
 base:Heap
 A:Q9
 N:List Str
 s₀:k_
 H₀:Hp
 env:Env
 outer:List Env
 stack:List Env
 ex:List Addr
 fn:Str->Bool
 calm:Bool
 pn:List (Addr×Obj)
 xe:c_->k_->Prop
def gF(l:List Env):List Addr:=l.filterMap (·.frame)
abbrev Cx.fs(X:Cx):List Addr:=gF X.outer
def im(sc:SK)(x:Str):Prop:=sc.names.lookup x=some .local\/sc.names.lookup x=some .cell\/sc.names.lookup x=some .free
def i7(sc:SK)(x:Str):Prop:=sc.names.lookup x=some .local\/sc.names.lookup x=some .cell
theorem da{sc:SK}{x:Str}(h:(match sc.names.lookup x with|some .local=>true|some .cell=>true|some .free=>true|_=>false)=true):im sc x:=by
 revert h;unfold im;split<;>intro h
 .exact .inl (by assumption)
 .exact .inr (.inl (by assumption))
 .exact .inr (.inr (by assumption))
 .cases h
def Ah(env:Env)(h:Heap)(m:Str->Option c_)(x:Str)(u:c_):Prop:=(env.kindOf x=some .local/\m x=some u)\/((env.kindOf x=some .cell\/env.kindOf x=some .free)/\∃c,env.cells.lookup x=some c/\h.IsCell c (some u))
structure Cx.Ok(X:Cx):Prop where
 mod:Mod X.K X.mg X.base
 kind:X.env.scope.kind=.function
 glob:X.env.globals=Ri
 blt:X.env.builtins=W1
 above:X.s₀.heap.objs.size<=X.env.locals
 inj:∀x y c,X.env.cells.lookup x=some c->X.env.cells.lookup y=some c->x=y
 has:∀x,(X.env.kindOf x=some .cell\/X.env.kindOf x=some .free)->∃c,X.env.cells.lookup x=some c
 cab:∀x c,X.fn x=true->X.env.cells.lookup x=some c->X.s₀.heap.objs.size<=c
 hd:X.calm=true->X.A.handled=none
 frames:X.A.frames=some X.stack
 stk:X.stack=X.outer\/(X.stack=X.env::X.outer/\X.env.frame=some X.env.locals)
 exf:∀b∈X.ex,b≠X.env.locals/\∀x c,X.env.cells.lookup x=some c->c≠b
 bs:∀b o,X.base.get? b=some o->X.s₀.heap.get? b=some o/\X.H₀ b=none
 bsz:X.base.objs.size<=X.s₀.heap.objs.size
 noex:∀b o,X.base.get? b=some o->b∉X.ex
 exfs:∀b∈X.ex,b∉X.fs
 funs:X.s₀.heap.FunFrames X.base X.outer
 frf:∀b∈X.fs,X.H₀ b=none
structure Inv(X:Cx)(pz:List (Addr×Obj))(σ:List (Option V))(H:Hp)(s:k_):Prop where
 ok:X.Ok
 os:s.os=X.s₀.os
 bare:Ua s.gens
 base:Un X.fs X.ex X.H₀ H X.s₀.heap s.heap
 loc:∃m,s.heap.Ns X.env.locals m/\∀(i:Nat)(x:Str)(v:V),X.N[i]? = some x->σ[i]? = some (some v)->im X.env.scope x->∃u,av v u/\Ah X.env s.heap m x u
 cell:∀x c,X.env.cells.lookup x=some c->∃v,s.heap.IsCell c v
 free:H X.env.locals=none
 freeC:∀x c,X.env.cells.lookup x=some c->H c=none
 pin:∀p∈X.pn++pz,s.heap.get? p.1=some p.2/\H p.1=none/\p.1≠X.env.locals/\p.1∉X.fs/\∀v,p.2.data≠.cell v
 hok:cC X.prog X.w H s.heap
 len:σ.length=X.N.length
section
variable{X:Cx}{pz:List (Addr×Obj)}{σ:List (Option V)}{H H':Hp}{s:k_}{h':Heap}
theorem Cx.Ok.nofr(ok:X.Ok){b:Addr}{o:Obj}(e:X.base.get? b=some o):b∉X.fs:=fun hb=>by have:=(ok.funs.mem hb).1;rw[e]at this;cases this
theorem Inv.bs(I:Inv X pz σ H s):∀b o,X.base.get? b=some o->s.heap.get? b=some o/\H b=none:=fun b o e=>⟨I.base.keep b o (I.ok.bs b o e).1 (I.ok.bs b o e).2 (I.ok.nofr e) (I.ok.noex b o e),I.base.free b o (I.ok.bs b o e).1 (I.ok.bs b o e).2 (I.ok.noex b o e)⟩
theorem Inv.bk(I:Inv X pz σ H s):∀b o,X.base.get? b=some o->s.heap.get? b=some o:=fun b o e=>(I.bs b o e).1
theorem Inv.mod(I:Inv X pz σ H s):Mod X.K X.mg X.base:=I.ok.mod
theorem Inv.kIn(I:Inv X pz σ H s):X.K.In s.heap:=I.ok.mod.kin.keeps I.bk
theorem Inv.nolimit(I:Inv X pz σ H s):s.heap.NoLimit:=I.ok.mod.nolimit.keeps I.bk
theorem Inv.fr(I:Inv X pz σ H s):∃m,Fr X.base X.env.locals s.heap m:=let⟨m,hn,_⟩:=I.loc
 ⟨m,hn,I.bk,O_ I.ok.bsz I.ok.above⟩
theorem Inv.lt(I:Inv X pz σ H s):X.env.locals<s.heap.objs.size:=let⟨_,hn,_⟩:=I.loc;hn.lt
theorem Inv.sz(I:Inv X pz σ H s):X.s₀.heap.objs.size<=s.heap.objs.size:=O_ I.ok.above (We I.lt)
theorem Inv.nofs(I:Inv X pz σ H s){a:Addr}(h:s.heap.objs.size<=a):a∉X.fs:=fun hb=>by obtain⟨_,o,ho,_⟩:=I.ok.funs.mem hb;exact absurd (C_ (A_ ho) (O_ I.sz h)) (Q_ _)
theorem Inv.cne(I:Inv X pz σ H s):∀x c,X.env.cells.lookup x=some c->c≠X.env.locals:=fun x c e z=>by obtain⟨v,o,ho,hd⟩:=I.cell x c e;obtain⟨m,⟨o',es,ep,ho',hd',_⟩,_⟩:=I.loc;rw[z,ho']at ho;cases ho;rw[hd']at hd;cases hd
theorem Inv.funs(I:Inv X pz σ H s):s.heap.FunFrames X.base X.outer:=by
 have all:∀(l:List Env),(∀b∈gF l,b∈X.fs)->X.s₀.heap.FunFrames X.base l->s.heap.FunFrames X.base l:=by
  intro l
  induction l with
 |nil=>intro _ _;trivial
 |cons env r ih=>intro hs hl;obtain⟨hk,⟨L,o,hf,hn,ho,hd⟩,hr⟩:=hl;have hL:L∈X.fs:=hs L (by unfold gF;rw[SN,hf];exact d_);obtain⟨sl,e⟩:=I.base.slot L o ho (I.ok.frf L hL) hL fun z=>I.ok.exfs L z hL;exact⟨hk,⟨L,_,hf,hn,e,hd⟩,ih (fun b hb=>hs b (by unfold gF;rw[SN,hf];exact i_ _ hb)) hr⟩
 exact all X.outer (fun _ hb=>hb) I.ok.funs
theorem Inv.stack(I:Inv X pz σ H s):s.heap.FunFrames X.base X.stack:=by
 rcases I.ok.stk with e|⟨e,hf⟩
 .rw[e];exact I.funs
 .rw[e];obtain⟨m,hn,_⟩:=I.loc;refine .cons (by rw[I.ok.kind];decide) hf hn ?_ I.funs;exact Ue (O_ I.ok.bsz I.ok.above)
theorem Inv.stkSub(I:Inv X pz σ H s):∀b∈gF X.stack,b∈X.env.locals::X.fs:=fun b hb=>by
 rcases I.ok.stk with e|⟨e,hf⟩
 .rw[e]at hb;exact i_ _ hb
 .rw[e]at hb;unfold gF at hb;rw[SN,hf]at hb;exact hb
theorem Inv.stkFree(I:Inv X pz σ H s):∀b∈gF X.stack,H b=none:=fun b hb=>by
 rcases w_.mp (I.stkSub b hb)with e|hb
 .rw[e];exact I.free
 .obtain⟨_,o,ho,_⟩:=I.ok.funs.mem hb;exact I.base.free b o ho (I.ok.frf b hb) fun z=>I.ok.exfs b z hb
theorem Inv.step{g':Array GenState}{t':Nat}{d':Drawn}{ch:List Addr}(I:Inv X pz σ H s)(hch:∀b∈ch,(b∈X.ex\/X.s₀.heap.objs.size<=b)/\b≠X.env.locals/\(∀x c,X.env.cells.lookup x=some c->c≠b)/\∀p∈X.pn++pz,p.1≠b)(keep:∀b o,b≠X.env.locals->b∉X.fs->b∉ch->s.heap.get? b=some o->H b=none->h'.get? b=some o)(slot:∀b o,b≠X.env.locals->b∈X.fs->b∉ch->s.heap.get? b=some o->H b=none->∃sl,h'.get? b=some { o with slots:=sl })(free:∀b o,b∉ch->s.heap.get? b=some o->H b=none->H' b=none)(there:∀b o,b∉ch->s.heap.get? b=some o->∃o',h'.get? b=some o')(tups:∀b xs,H b=some (.tup xs)->H' b=some (.tup xs))(frzs:∀b o u,H b=some (.frz o u)->H' b=some (.frz o u))(tbls:∀b ps,H b=some (.tbl ps)->∃more,H' b=some (.tbl (ps++more)))(ns:∀m,s.heap.Ns X.env.locals m->h'.Ns X.env.locals m)(hok:cC X.prog X.w H' h')(hg:Ua g'):Inv X pz σ H' { s with heap:=h',gens:=g',drawn:=d',toks:=t' }:=by
 have neL:∀b o,X.s₀.heap.get? b=some o->b≠X.env.locals:=fun b o e=>QM (C_ (A_ e) I.ok.above);have neC:∀b o,X.s₀.heap.get? b=some o->b∉X.ex->b∉ch:=fun b o e hx hb=>by
  rcases(hch b hb).1 with z|z
  .exact hx z
  .exact absurd (C_ (A_ e) z) (Q_ _)
 have cellK:∀x c,X.env.cells.lookup x=some c->∀v,s.heap.IsCell c v->h'.IsCell c v:=fun x c e v ⟨o,ho,hd⟩=>by
  have nch:c∉ch:=fun z=>(hch c z).2.2.1 x c e rfl;by_cases hc:c∈X.fs
  .obtain⟨sl,q⟩:=slot c o (I.cne x c e) hc nch ho (I.freeC x c e);exact⟨_,q,hd⟩
  .exact⟨o,keep c o (I.cne x c e) hc nch ho (I.freeC x c e),hd⟩
 refine⟨I.ok,I.os,hg,⟨fun b o e n hb hx=>?_,fun b o e n hb hx=>?_,fun b o e n hx=>?_,fun b o e hx=>?_,fun b xs e=>tups b xs (I.base.tups b xs e),fun b o xs e=>frzs b o xs (I.base.frzs b o xs e),fun b ps e=>?_⟩,?_,fun x c e=>?_,?_,fun x c e=>?_,fun p hp=>?_,hok,I.len⟩
 .exact keep b o (neL b o e) hb (neC b o e hx) (I.base.keep b o e n hb hx) (I.base.free b o e n hx)
 .obtain⟨sl,e1⟩:=I.base.slot b o e n hb hx;obtain⟨sl',e2⟩:=slot b _ (neL b o e) hb (neC b o e hx) e1 (I.base.free b o e n hx);exact⟨sl',e2⟩
 .obtain⟨o',e1⟩:=I.base.there b o e hx;exact free b o' (neC b o e hx) e1 (I.base.free b o e n hx)
 .obtain⟨o',e1⟩:=I.base.there b o e hx;exact there b o' (neC b o e hx) e1
 .obtain⟨m1,e1⟩:=I.base.tbls b ps e;obtain⟨m2,e2⟩:=tbls b _ e1;exact⟨m1++m2,by rw[e2,V4]⟩
 .obtain⟨m,hn,hl⟩:=I.loc;refine⟨m,ns m hn,fun i x v e1 e2 e3=>?_⟩;obtain⟨u,r,l⟩:=hl i x v e1 e2 e3;refine⟨u,r,?_⟩;rcases l with l|⟨k,c,e,z⟩
  .exact .inl l
  .exact .inr ⟨k,c,e,cellK x c e _ z⟩
 .obtain⟨v,z⟩:=I.cell x c e;exact⟨v,cellK x c e v z⟩
 .obtain⟨m,⟨o,_,_,ho,_⟩,_⟩:=I.loc;exact free _ o (fun z=>(hch _ z).2.1 rfl) ho I.free
 .obtain⟨v,o,ho,hd⟩:=I.cell x c e;exact free c o (fun z=>(hch c z).2.2.1 x c e rfl) ho (I.freeC x c e)
 .obtain⟨e,n,ne,nf,d⟩:=I.pin p hp;have nch:p.1∉ch:=fun z=>(hch p.1 z).2.2.2 p hp rfl;exact⟨keep p.1 p.2 ne nf nch e n,free p.1 p.2 nch e n,ne,nf,d⟩
theorem Inv.un{t':Nat}(I:Inv X pz σ H s)(u:Un X.fs [] H H' s.heap h')(hok:cC X.prog X.w H' h'):Inv X pz σ H' { s with heap:=h',toks:=t' }:=by obtain⟨m,⟨o,es,ep,ho,r⟩,_⟩:=id I.loc;obtain⟨sl,hL⟩:=u.any ho I.free (by simp);exact I.step (g':=s.gens) (d':=s.drawn) (ch:=[]) (fun _ z=>nomatch z) (fun b o _ hb _ e n=>u.keep b o e n hb (by simp)) (fun b o _ hb _ e n=>u.slot b o e n hb (by simp)) (fun b o _ e n=>u.free b o e n (by simp)) (fun b o _ e=>u.there b o e (by simp)) u.tups u.frzs u.tbls (fun m' hm=>by obtain⟨o',es',ep',ho',r'⟩:=hm;rw[ho]at ho';cases ho';exact⟨_,es',ep',hL,r'⟩) hok I.bare
theorem Inv.call{g':Array GenState}{t':Nat}{d':Drawn}{ch:List Addr}(I:Inv X pz σ H s)(u:Un (gF X.stack) ch H H' s.heap h')(hok:cC X.prog X.w H' h')(hg:Ua g')(hch:∀b∈ch,(b∈X.ex\/X.s₀.heap.objs.size<=b)/\b≠X.env.locals/\(∀x c,X.env.cells.lookup x=some c->c≠b)/\∀p∈X.pn++pz,p.1≠b):Inv X pz σ H' { s with heap:=h',gens:=g',drawn:=d',toks:=t' }:=by obtain⟨m,⟨o,es,ep,ho,r⟩,_⟩:=id I.loc;obtain⟨sl,hL⟩:=u.any ho I.free fun z=>(hch _ z).2.1 rfl;exact I.step (ch:=ch) hch (fun b o hL hb hc e n=>u.keep b o e n (fun z=>(w_.mp (I.stkSub b z)).elim hL hb) hc) (fun b o _ _ hc e n=>u.any e n hc) (fun b o hc e n=>u.free b o e n hc) (fun b o hc e=>u.there b o e hc) u.tups u.frzs u.tbls (fun m' hm=>by obtain⟨o',es',ep',ho',r'⟩:=hm;rw[ho]at ho';cases ho';exact⟨_,es',ep',hL,r'⟩) hok hg
theorem Inv.turned{t':Nat}{it:Addr}(I:Inv X pz σ H s)(k:∀b o,b≠it->s.heap.get? b=some o->h'.get? b=some o)(hn:H it=none)(hL:it≠X.env.locals)(h1:it∈X.ex\/X.s₀.heap.objs.size<=it)(h2:∀x c,X.env.cells.lookup x=some c->c≠it)(h3:∀p∈X.pn++pz,p.1≠it):Inv X pz σ H { s with heap:=h',toks:=t' }:=by
 have nit:∀b u,H b=some u->b≠it:=fun b u e z=>by rw[z,hn]at e;cases e
 refine I.step (g':=s.gens) (d':=s.drawn) (ch:=[it]) (fun b hb=>?_) (fun b o _ _ hc e _=>k b o (fun z=>hc (by simp[z])) e) (fun b o _ _ hc e _=>⟨o.slots,k b o (fun z=>hc (by simp[z])) e⟩) (fun _ _ _ _ n=>n)
  (fun b o hc e=>⟨o,k b o (fun z=>hc (by simp[z])) e⟩) (fun _ _ e=>e) (fun _ _ _ e=>e) (fun b ps e=>⟨#[],by rw[e];simp⟩) (fun m hm=>?_) (fun b u e=>?_) I.bare
 .have e:b=it:=by simpa using hb
  subst e;exact⟨h1,hL,h2,h3⟩
 .obtain⟨o,es,ep,ho,r⟩:=hm;exact⟨o,es,ep,k _ o (S0 hL) ho,r⟩
 .refine(I.hok b u e).stay (fun c v hc q=>k c v ?_ q) (fun _ q=>q) fun _ _ q=>q;rcases hc with z|z
  .rw[z];exact nit b u e
  .exact nit c _ z
theorem Inv.tok(I:Inv X pz σ H s)(t:Nat):Inv X pz σ H { s with toks:=t }:=I.un (h':=s.heap) (t':=t) Un.refl I.hok
theorem Inv.kept{t':Nat}(I:Inv X pz σ H s)(k:∀b u,s.heap.get? b=some u->h'.get? b=some u):Inv X pz σ H { s with heap:=h',toks:=t' }:=I.un (Un.kept k) (I.hok.kept k)
theorem Inv.laid{a:Addr}{o:HO}{t':Nat}(I:Inv X pz σ H s)(k:∀b u,s.heap.get? b=some u->h'.get? b=some u)(hp:s.heap.objs.size<=a)(new:bG X.prog X.w (upd H a o) h' a o):Inv X pz σ (upd H a o) { s with heap:=h',toks:=t' }:=I.un (Un.laid k hp (I.hok.fresh hp)) (I.hok.laid k hp new)
theorem Inv.write{x e:Addr}{o:HO}{t':Nat}(I:Inv X pz σ H s)(mu:pA (H x))(he:e=x\/H e=some (.own x))(k:∀b u,b≠e->s.heap.get? b=some u->h'.get? b=some u)(heo:∃u,h'.get? e=some u)(new:bG X.prog X.w (upd H x o) h' x o):Inv X pz σ (upd H x o) { s with heap:=h',toks:=t' }:=I.un (Un.write mu he k heo) (I.hok.write mu he k heo new)
theorem Inv.pins_of{pins':List (Addr×Obj)}(I:Inv X pz σ H s)(h:∀p∈pins',s.heap.get? p.1=some p.2/\H p.1=none/\p.1≠X.env.locals/\p.1∉X.fs/\∀v,p.2.data≠.cell v):Inv X pins' σ H s:=⟨I.ok,I.os,I.bare,I.base,I.loc,I.cell,I.free,I.freeC,fun p hp=>(Rc.mp hp).elim (fun z=>I.pin p (RL _ z)) (h p),I.hok,I.len⟩
theorem DK{N:List Str}(hN:N.Nodup){i j:Nat}{x:Str}(a:N[i]? = some x)(b:N[j]? = some x):i=j:=by obtain⟨h1,e1⟩:=e_.mp a;obtain⟨h2,e2⟩:=e_.mp b;exact(List.getElem_inj hN).mp (e1.trans e2.symm)
theorem Ew{M:Model}{A:Q9}{E:c_->k_->Prop}{i:Nat}{x:Str}{v:V}{u:c_}{Q:Unit->k_->Prop}(I:Inv X pz σ H s)(hN:X.N.Nodup)(hi:X.N[i]? = some x)(hx:i7 X.env.scope x)(r:av v u)(h:∀s',Inv X pz (σ.set i (some v)) H s'->(∃a,Vh a s.heap s'.heap/\(a=X.env.locals\/X.env.cells.lookup x=some a))->Q () s')(hf:X.fn x=true\/X.env.scope.names.lookup x=some .local:=by first|exact .inl rfl|exact .inr rfl|assumption):I_ M A (storeName X.env x u) Q E s:=by
 obtain⟨m,hn,hl⟩:=id I.loc;have hcls:(X.env.scope.kind==.class || (X.env.scope.kind==.module&&X.env.locals != X.env.globals))=false:=by rw[I.ok.kind];rfl
 have hiσ:i<σ.length:=by rw[I.len];exact(e_.mp hi).1
 have cne:=I.cne;have tracked:∀{a:Addr}{h':Heap},(∃o,s.heap.get? a=some o/\H a=none)->Vh a s.heap h'->cC X.prog X.w H h':=fun{a h'} ha hs b ob e=>by
  obtain⟨_,_,hfree⟩:=ha;refine(I.hok b ob e).stay (fun c w' hc q=>(hs.2 c ?_).trans q) (fun _ q=>q) fun _ _ q=>q
  rintro rfl
  rcases hc with rfl|hc
  .rw[hfree]at e;cases e
  .rw[hfree]at hc;cases hc
 rcases hx with hk|hk
 .refine wpAny_storeName_local hk hn (fun h' hn' hs=>?_) hcls;obtain⟨oL,_,_,hoL,_⟩:=id hn;refine h _ ⟨I.ok,I.os,I.bare,⟨fun b o e n hb hx=>?_,fun b o e n hb hx=>?_,I.base.free,fun b o e hx=>?_,I.base.tups,I.base.frzs,I.base.tbls⟩,⟨_,hn',fun j y v' e1 e2 e3=>?_⟩,fun y c e=>?_,I.free,I.freeC,fun p hp=>?_,tracked ⟨oL,hoL,I.free⟩ hs,by simpa using I.len⟩ ⟨_,hs,.inl rfl⟩
  .exact(hs.2 b (QM (C_ (A_ e) I.ok.above))).trans (I.base.keep b o e n hb hx)
  .obtain⟨sl,e1⟩:=I.base.slot b o e n hb hx;exact⟨sl,(hs.2 b (QM (C_ (A_ e) I.ok.above))).trans e1⟩
  .obtain⟨o',e1⟩:=I.base.there b o e hx;exact⟨o',(hs.2 b (QM (C_ (A_ e) I.ok.above))).trans e1⟩
  .by_cases hj:j=i
   .subst hj;rw[hi]at e1;cases e1;rw[p_ hiσ]at e2;cases e2;exact⟨u,r,.inl ⟨hk,by simp⟩⟩
   .rw[j_ (S0 hj)]at e2;obtain⟨u',r',q⟩:=hl j y v' e1 e2 e3;refine⟨u',r',?_⟩;rcases q with⟨k,e⟩|⟨k,c,e,z⟩
    .refine .inl ⟨k,?_⟩;have:y≠x:=fun e=>hj (DK hN e1 (e▸hi));simp[this,e]
    .exact .inr ⟨k,c,e,z.sameBut hs (cne y c e)⟩
  .obtain⟨w',z⟩:=I.cell y c e;exact⟨w',z.sameBut hs (cne y c e)⟩
  .obtain⟨e,n,ne,nf,d⟩:=I.pin p hp;exact⟨(hs.2 p.1 ne).trans e,n,ne,nf,d⟩
 .have hfn:X.fn x=true:=by
   rcases hf with z|z
   .exact z
   .rw[z]at hk;cases hk
  obtain⟨c,hc⟩:=I.ok.has x (.inl hk);obtain⟨w',z⟩:=I.cell x c hc;refine wpAny_storeName_cell I.ok.kind hk hc z (fun h' hc' hs=>?_);obtain⟨oc,hoc,hocd⟩:=id z;refine h { s with heap:=h' } ⟨I.ok,I.os,I.bare,⟨fun b o e n hb hx=>?_,fun b o e n hb hx=>?_,I.base.free,fun b o e hx=>?_,I.base.tups,I.base.frzs,I.base.tbls⟩,⟨m,hn.sameBut hs (S0 (cne x c hc)),fun j y v' e1 e2 e3=>?_⟩,fun y c' e=>?_,I.free,I.freeC,fun p hp=>?_,tracked ⟨oc,hoc,I.freeC x c hc⟩ hs,by simpa using I.len⟩ ⟨c,hs,.inr hc⟩
  .exact(hs.2 b (QM (C_ (A_ e) (I.ok.cab x c hfn hc)))).trans (I.base.keep b o e n hb hx)
  .obtain⟨sl,e1⟩:=I.base.slot b o e n hb hx;exact⟨sl,(hs.2 b (QM (C_ (A_ e) (I.ok.cab x c hfn hc)))).trans e1⟩
  .obtain⟨o',e1⟩:=I.base.there b o e hx;exact⟨o',(hs.2 b (QM (C_ (A_ e) (I.ok.cab x c hfn hc)))).trans e1⟩
  .by_cases hj:j=i
   .subst hj;rw[hi]at e1;cases e1;rw[p_ hiσ]at e2;cases e2;exact⟨u,r,.inr ⟨.inl hk,c,hc,hc'⟩⟩
   .rw[j_ (S0 hj)]at e2;obtain⟨u',r',q⟩:=hl j y v' e1 e2 e3;refine⟨u',r',?_⟩;rcases q with q|⟨k,c',e,z'⟩
    .exact .inl q
    .refine .inr ⟨k,c',e,z'.sameBut hs ?_⟩
     rintro rfl
     exact hj (DK hN e1 (I.ok.inj _ _ _ e hc▸hi))
  .by_cases hcc:c'=c
   .subst hcc;exact⟨_,hc'⟩
   .obtain⟨w2,z2⟩:=I.cell y c' e;exact⟨w2,z2.sameBut hs hcc⟩
  .obtain⟨e,n,ne,nf,d⟩:=I.pin p hp;refine⟨(hs.2 p.1 ?_).trans e,n,ne,nf,d⟩;intro q;rw[q,hoc]at e;have q':oc=p.2:=K_ e;exact d w' (by rw[<-q'];exact hocd)
theorem Dw{M:Model}{A:Q9}{E:c_->k_->Prop}{i:Nat}{x:Str}{v:V}{u:c_}{Q:Unit->k_->Prop}(I:Inv X pz σ H s)(hN:X.N.Nodup)(hi:X.N[i]? = some x)(hx:i7 X.env.scope x)(r:av v u)(h:∀s',Inv X pz (σ.set i (some v)) H s'->Q () s')(hf:X.fn x=true\/X.env.scope.names.lookup x=some .local:=by first|exact .inl rfl|exact .inr rfl|assumption):I_ M A (storeName X.env x u) Q E s:=Ew I hN hi hx r (fun s' I' _=>h s' I') hf
theorem Inv.call'{s':k_}{ch:List Addr}(I:Inv X pz σ H s)(ho:s'.os=s.os)(u:Un (gF X.stack) ch H H' s.heap s'.heap)(hok:cC X.prog X.w H' s'.heap)(hg:Ua s'.gens)(hch:∀b∈ch,(b∈X.ex\/X.s₀.heap.objs.size<=b)/\b≠X.env.locals/\(∀x c,X.env.cells.lookup x=some c->c≠b)/\∀p∈X.pn++pz,p.1≠b):Inv X pz σ H' s':=by obtain⟨h',g',d',t',o'⟩:=s';have e:o'=s.os:=ho;subst e;exact I.call (g':=g') (t':=t') (d':=d') u hok hg hch
end
abbrev XK:=c_->Option Addr->Hp->Prop
abbrev St:=List (Option V)
abbrev VK:=V->Hp->Prop
abbrev TE:=St->Hp->VK->Prop
abbrev TT:=St->Hp->(Bool->Hp->Prop)->Prop
abbrev TA:=St->Hp->(List V->Hp->Prop)->Prop
structure Ends where
 nx:St->Hp->Prop
 rt:VK
 bk:St->Hp->Prop:=fun _ _=>False
 ct:St->Hp->Prop:=fun _ _=>False
abbrev TS:=Ends->St->Hp->Prop
def EP(X:Cx)(pz:List (Addr×Obj))(σ:St)(Q:VK)(u:c_)(s':k_):Prop:=∃v H',Inv X pz σ H' s'/\av v u/\Q v H'
def TP(X:Cx)(pz:List (Addr×Obj))(σ:St)(Q:Bool->Hp->Prop)(b:Bool)(s':k_):Prop:=∃H',Inv X pz σ H' s'/\Q b H'
def AP(X:Cx)(pz:List (Addr×Obj))(σ:St)(Q:List V->Hp->Prop)(us:List c_)(s':k_):Prop:=∃vs H',Inv X pz σ H' s'/\aq vs us/\Q vs H'
def SP(X:Cx)(pz:List (Addr×Obj))(D:Ends)(f:Flow)(s':k_):Prop:=match f with
|.next=>∃σ' H',Inv X pz σ' H' s'/\D.nx σ' H'
|.brk=>∃σ' H',Inv X pz σ' H' s'/\D.bk σ' H'
|.cont=>∃σ' H',Inv X pz σ' H' s'/\D.ct σ' H'
|.ret u=>∃v σ' H',Inv X pz σ' H' s'/\av v u/\D.rt v H'
def PE(X:Cx)(e:Expr)(t:TE):Prop:=∀(pz:List (Addr×Obj))(s:k_)(σ:St)(H:Hp)(Q:VK),Inv X pz σ H s->t σ H Q->I_ (QE X.prog X.w) X.A (eval e X.env) (EP X pz σ Q) X.xe s
def PT(X:Cx)(e:Expr)(t:TT):Prop:=∀(pz:List (Addr×Obj))(s:k_)(σ:St)(H:Hp)(Q:Bool->Hp->Prop),Inv X pz σ H s->t σ H Q->I_ (QE X.prog X.w) X.A (isTrue e X.env (eval e X.env)) (TP X pz σ Q) X.xe s
def PW(X:Cx)(e:Expr)(t:TT):Prop:=∀(whole:Sem c_)(pz:List (Addr×Obj))(s:k_)(σ:St)(H:Hp)(Q:Bool->Hp->Prop),Inv X pz σ H s->t σ H Q->I_ (QE X.prog X.w) X.A (isTrue e X.env whole) (TP X pz σ Q) X.xe s
theorem PW.pt{X:Cx}{e:Expr}{t:TT}(h:PW X e t):PT X e t:=h _
def PA(X:Cx)(es:List Expr)(t:TA):Prop:=∀(pos:Pos)(pz:List (Addr×Obj))(s:k_)(σ:St)(H:Hp)(Q:List V->Hp->Prop),Inv X pz σ H s->t σ H Q->I_ (QE X.prog X.w) X.A (spliced (backTo pos (s_ es X.env))) (AP X pz σ Q) X.xe s
def PS(X:Cx)(st:Stmt)(t:TS):Prop:=∀(pz:List (Addr×Obj))(s:k_)(σ:St)(H:Hp)(D:Ends),Inv X pz σ H s->t D σ H->I_ (QE X.prog X.w) X.A (exec st X.env) (SP X pz D) X.xe s
def d7(X:Cx)(st:List Stmt)(t:TS):Prop:=∀(pz:List (Addr×Obj))(s:k_)(σ:St)(H:Hp)(D:Ends),Inv X pz σ H s->t D σ H->I_ (QE X.prog X.w) X.A (execs st X.env) (SP X pz D) X.xe s
theorem aR{α:Type}{t:Sem α}{Q Q':α->k_->Prop}{M:Model}{A:Q9}{E:c_->k_->Prop}{s:k_}(h:I_ M A t Q E s)(hQ:∀a s,Q a s->Q' a s):I_ M A t Q' E s:=Sy h hQ fun _ _ x=>x
section
variable{X:Cx}
def zz(i:Nat):TE:=fun σ H Q=>∃v,σ[i]? = some (some v)/\Q v H
def tC(v:V):TE:=fun _ H Q=>Q v H
theorem mN{i:Nat}{x:Str}{pos:Pos}(hN:X.N[i]? = some x)(hv:im X.env.scope x)(hd:(x==("__debug__" : Str))=false:=by decide)(hcd:(x==("__classdict__" : Str))=false:=by decide):PE X (.Name x pos) (zz i):=by
 intro pz s σ H Q I h;obtain⟨v,e,h⟩:=h;obtain⟨m,hn,hl⟩:=I.loc;obtain⟨u,r,l⟩:=hl i x v hN e hv;have fin:EP X pz σ Q u s:=⟨v,H,I,r,h⟩
 rcases l with⟨hk,hm⟩|⟨hk,c,hc,hcell⟩
 .exact W2 (wpAny_loadName_local I.ok.kind hk hn hm fin) hd
 .rcases hk with hk|hk
  .exact W2 (wpAny_loadName_cell I.ok.kind hk hc hcell fin) hd
  .exact W2 (wpAny_loadName_free I.ok.kind hk hc hcell fin hcd) hd
theorem IL{i j pos}:PE X (.Constant (.int i) j pos) (tC (.int i)):=fun _ _ _ H _ I h=>wpAny_Constant_int ⟨.int i,H,I.tok _,⟨_,rfl⟩,h⟩
theorem Hc{b j pos}:PE X (.Constant (.bool b) j pos) (tC (.bl b)):=fun _ _ _ H _ I h=>Constant_bool ⟨.bl b,H,I,rfl,h⟩
theorem JX{j pos}:PE X (.Constant .none j pos) (tC .non):=fun _ _ _ H _ I h=>Constant_none ⟨.non,H,I,rfl,h⟩
theorem J0{x j pos}:PE X (.Constant (.str x) j pos) (tC (.str x)):=fun _ _ _ H _ I h=>Calls.Constant_str ⟨.str x,H,I.tok _,⟨_,rfl⟩,h⟩
def Gl(X:Cx)(x:Str):Prop:=X.env.kindOf x=some .globalImplicit
theorem Cg{E:c_->k_->Prop}{pz:List (Addr×Obj)}{s:k_}{σ:St}{H:Hp}{x:Str}{u:c_}{pos:Pos}{Q:c_->k_->Prop}(I:Inv X pz σ H s)(hg:Gl X x)(hm:X.mg x=some u)(h:Q u s)(hd:(x==("__debug__" : Str))=false:=by decide):I_ (QE X.prog X.w) X.A (eval (.Name x pos) X.env) Q E s:=UC I.ok.kind hg (Calls.loadGlobal_global (by rw[I.ok.glob];exact I.mod.glob.keeps I.bk) hm h) hd
theorem mQ{E:c_->k_->Prop}{pz:List (Addr×Obj)}{s:k_}{σ:St}{H:Hp}{x:Str}{u:c_}{pos:Pos}{Q:c_->k_->Prop}(I:Inv X pz σ H s)(hg:Gl X x)(hm:X.mg x=none)(hv:To x=some u)(h:Q u s)(hn:x≠"__name__" := by decide)(hd:(x==("__debug__" : Str))=false:=by decide):I_ (QE X.prog X.w) X.A (eval (.Name x pos) X.env) Q E s:=by obtain⟨mb,h1,h2⟩:=I.mod.blt;exact UC I.ok.kind hg (Calls.loadGlobal_builtin (by rw[I.ok.glob];exact I.mod.glob.keeps I.bk) hm (by rw[I.ok.blt];exact h1.keeps I.bk) ((h2 x hn).trans hv) h) hd
theorem Ls{x:Str}{v:V}{u:c_}{pos:Pos}(hg:Gl X x)(hm:X.mg x=some u)(r:av v u)(hd:(x==("__debug__" : Str))=false:=by decide):PE X (.Name x pos) (tC v):=fun _ _ _ H _ I h=>Cg I hg hm ⟨v,H,I,r,h⟩ hd
theorem Lq{x:Str}{v:V}{u:c_}{pos:Pos}(hg:Gl X x)(hm:X.mg x=none)(hv:To x=some u)(r:av v u)(hn:x≠"__name__" := by decide)(hd:(x==("__debug__" : Str))=false:=by decide):PE X (.Name x pos) (tC v):=fun _ _ _ H _ I h=>mQ I hg hm hv ⟨v,H,I,r,h⟩ hn hd
variable{a b:Expr}{ta tb:TE}{pos:Pos}
variable{tA tB':TT}{rest:List Expr}
def zL(t u:TT):TT:=fun σ H Q=>t σ H fun c H1=>if c=true then u σ H1 Q else Q false H1
def Qm(t u:TT):TT:=fun σ H Q=>t σ H fun c H1=>if c=true then Q true H1 else u σ H1 Q
def zE(t:TT):TT:=fun σ H Q=>t σ H fun c H1=>Q (! c) H1
theorem LG(ha:PT X a tA):PW X (.BoolOp .And [a] pos) tA:=by intro wh pz s σ H Q I h;refine isTrue_and (aR (ha pz s σ H Q I h) fun c s1 e=>?_);cases c with
|true=>exact isTrue_and_nil e
|false=>exact e
theorem JO(ha:PT X a tA):PW X (.BoolOp .Or [a] pos) tA:=by intro wh pz s σ H Q I h;refine isTrue_or (aR (ha pz s σ H Q I h) fun c s1 e=>?_);cases c with
|false=>exact isTrue_or_nil e
|true=>exact e
theorem JN(ha:PT X a tA)(hb:PW X (.BoolOp .And (b::rest) pos) tB'):PW X (.BoolOp .And (a::b::rest) pos) (zL tA tB'):=by intro wh pz s σ H Q I h;refine isTrue_and (aR (ha pz s σ H _ I h) fun c s1 ⟨H1,I1,q1⟩=>?_);cases c with
|true=>exact hb wh pz s1 σ H1 Q I1 q1
|false=>exact⟨H1,I1,q1⟩
theorem Ij(ha:PT X a tA)(hb:PW X (.BoolOp .Or (b::rest) pos) tB'):PW X (.BoolOp .Or (a::b::rest) pos) (Qm tA tB'):=by intro wh pz s σ H Q I h;refine isTrue_or (aR (ha pz s σ H _ I h) fun c s1 ⟨H1,I1,q1⟩=>?_);cases c with
|true=>exact⟨H1,I1,q1⟩
|false=>exact hb wh pz s1 σ H1 Q I1 q1
theorem JL(ha:PT X a tA):PT X (.UnaryOp .Not a pos) (zE tA):=by intro pz s σ H Q I h;exact isTrue_not (ha pz s σ H (fun c H1=>Q (! c) H1) I h)
def HI(ta tb:TE):TE:=fun σ H Q=>ta σ H fun x H1=>∃c,x=.bl c/\if c=true then tb σ H1 Q else Q (.bl false) H1
def zD(ta tb:TE):TE:=fun σ H Q=>ta σ H fun x H1=>∃c,x=.bl c/\if c=true then Q (.bl true) H1 else tb σ H1 Q
def HN(ta:TE):TE:=fun σ H Q=>ta σ H fun x H1=>∃c,x=.bl c/\Q (.bl (! c)) H1
theorem JZ{op}{t:TE}(h:PE X a t):PE X (.BoolOp op [a] pos) t:=fun pz s σ H Q I hw=>BoolOp_one (h pz s σ H Q I hw)
theorem IJ(ha:PE X a ta)(hb:PE X (.BoolOp .And (b::rest) pos) tb):PE X (.BoolOp .And (a::b::rest) pos) (HI ta tb):=by intro pz s σ H Q I h;refine BoolOp_and (aR (ha pz s σ H _ I h) fun v s1 ⟨x,H1,I1,r1,q1⟩=>?_);obtain⟨c,rfl,q1⟩:=q1;cases r1;refine Ss ?_;cases c with
|true=>exact hb pz s1 σ H1 Q I1 q1
|false=>exact⟨.bl false,H1,I1,rfl,q1⟩
theorem Ig(ha:PE X a ta)(hb:PE X (.BoolOp .Or (b::rest) pos) tb):PE X (.BoolOp .Or (a::b::rest) pos) (zD ta tb):=by intro pz s σ H Q I h;refine BoolOp_or (aR (ha pz s σ H _ I h) fun v s1 ⟨x,H1,I1,r1,q1⟩=>?_);obtain⟨c,rfl,q1⟩:=q1;cases r1;refine Ss ?_;cases c with
|false=>exact hb pz s1 σ H1 Q I1 q1
|true=>exact⟨.bl true,H1,I1,rfl,q1⟩
theorem JY(ha:PE X a ta):PE X (.UnaryOp .Not a pos) (HN ta):=by intro pz s σ H Q I h;refine UnaryOp_ (aR (ha pz s σ H _ I h) fun v s1 ⟨x,H1,I1,r1,q1⟩=>?_);obtain⟨c,rfl,q1⟩:=q1;cases r1;exact not_of (Ss ⟨.bl (! c),H1,I1,rfl,q1⟩)
def Qo(t:TT)(ta tb:TE):TE:=fun σ H Q=>t σ H fun c H1=>if c=true then ta σ H1 Q else tb σ H1 Q
theorem MB{c:Expr}(hc:PT X c tA)(ha:PE X a ta)(hb:PE X b tb):PE X (.IfExp c a b pos) (Qo tA ta tb):=by intro pz s σ H Q I h;refine wpAny_IfExp (aR (hc pz s σ H _ I h) fun d s1 ⟨H1,I1,q1⟩=>?_);cases d with
|true=>exact ha pz s1 σ H1 Q I1 q1
|false=>exact hb pz s1 σ H1 Q I1 q1
end
def aY(K:W.Frag)(H:Hp)(a:Addr)(xs:List V):Prop:=Rd H a (.lst xs) \/∃(o:Obj)(its:Array c_)(n:Nat),K.lookup a=some o/\o.cls=.type "list"/\o.dict=none/\o.data=.seq its n/\its.size<=sizeLine/\aq xs its.toList
def ce(K:W.Frag)(H:Hp)(a:Addr)(xs:List V):Prop:=Rd H a (.tup xs) \/∃(o:Obj)(its:Array c_)(n:Nat),K.lookup a=some o/\o.cls=.type "tuple"/\o.data=.seq its n/\its.size<=sizeLine/\aq xs its.toList
def Ab:c_->Option V
|.none=>some .non
|.bool b=>some (.bl b)
|.int i _=>some (.int i)
|.str x _=>some (.str x)
|.bytes b _=>some (.byt b)
|.float b _=>some (.flt b)
|.ref a=>some (.ref a)
|.type n=>some (.ty n)
|_=>none
theorem av.abs{x:V}{u:c_}(r:av x u):Ab u=some x:=by cases x with
|non=>cases r;rfl
|bl _=>cases r;rfl
|int _=>obtain⟨t,rfl⟩:=r;rfl
|str _=>obtain⟨t,rfl⟩:=r;rfl
|byt _=>obtain⟨t,rfl⟩:=r;rfl
|flt _=>obtain⟨t,rfl⟩:=r;rfl
|ref _=>cases r;rfl
|ty _=>cases r;rfl
theorem av.inj{x y:V}{u:c_}(r:av x u)(q:av y u):x=y:=K_ (r.abs.symm.trans q.abs)
theorem aq.inj{xs ys:List V}{us:List c_}(h:aq xs us)(h':aq ys us):xs=ys:=by induction h generalizing ys with
|nil=>cases h';rfl
|cons r t ih=>cases h' with
 |cons r' t'=>rw[r.inj r',ih t']
section
variable{X:Cx}{pz:List (Addr×Obj)}{σ:St}{H:Hp}{s:k_}{a:Addr}{xs ys:List V}
theorem aY.of{K:W.Frag}(h:H a=some (.lst xs)):aY K H a xs:=.inl (.inl h)
theorem Inv.list(I:Inv X pz σ H s)(h:aY X.K H a xs):∃its:List c_,aq xs its/\PlainL s.heap a its.toArray/\xs.length<=sizeLine:=by
 rcases h with h|⟨o,its,n,hk,hc,hd,hs,hz,r⟩
 .obtain⟨z,its,n,r,e⟩:=h.ok I.hok;exact⟨its,r,⟨_,n,e,rfl,rfl,rfl⟩,z⟩
 .refine⟨its.toList,r,⟨o,n,I.kIn a o hk,hc,hd,by simpa using hs⟩,?_⟩;have e:=r.length;simp only[RC]at e;omega
theorem Inv.tuple(I:Inv X pz σ H s)(h:ce X.K H a xs):∃its:List c_,aq xs its/\WJ s.heap a its.toArray/\xs.length<=sizeLine:=by
 rcases h with h|⟨o,its,n,hk,hc,hs,hz,r⟩
 .obtain⟨z,its,r,p,_⟩:=h.ok I.hok;exact⟨its,r,p,z⟩
 .refine⟨its.toList,r,⟨o,I.kIn a o hk,hc,n,by simpa using hs⟩,?_⟩;have e:=r.length;simp only[RC]at e;omega
theorem Inv.list_inj(I:Inv X pz σ H s)(h:aY X.K H a xs)(h':aY X.K H a ys):xs=ys:=by
 obtain⟨its,r,⟨o,n,e,_,_,d⟩,_⟩:=I.list h;obtain⟨its',r',⟨o',n',e',_,_,d'⟩,_⟩:=I.list h';rw[e]at e';cases e';rw[d]at d';injection d' with d1 _
 have:its=its':=by simpa using congrArg X8 d1
 subst this;exact r.inj r'
theorem Inv.tuple_inj(I:Inv X pz σ H s)(h:ce X.K H a xs)(h':ce X.K H a ys):xs=ys:=by
 obtain⟨its,r,⟨o,e,_,n,d⟩,_⟩:=I.tuple h;obtain⟨its',r',⟨o',e',_,n',d'⟩,_⟩:=I.tuple h';rw[e]at e';cases e';rw[d]at d';injection d' with d1 _
 have:its=its':=by simpa using congrArg X8 d1
 subst this;exact r.inj r'
end
abbrev Cx.wish(X:Cx)(E:c_->k_->Prop):Cx:={ X with xe:=E }
abbrev Cx.nox(X:Cx):Cx:=X.wish fun _ _=>False
theorem Cx.Ok.wish{X:Cx}(ok:X.Ok)(E:c_->k_->Prop):(X.wish E).Ok:=⟨ok.mod,ok.kind,ok.glob,ok.blt,ok.above,ok.inj,ok.has,ok.cab,ok.hd,ok.frames,ok.stk,ok.exf,ok.bs,ok.bsz,ok.noex,ok.exfs,ok.funs,ok.frf⟩
theorem Cx.Ok.unwish{X:Cx}{E:c_->k_->Prop}(ok:(X.wish E).Ok):X.Ok:=⟨ok.mod,ok.kind,ok.glob,ok.blt,ok.above,ok.inj,ok.has,ok.cab,ok.hd,ok.frames,ok.stk,ok.exf,ok.bs,ok.bsz,ok.noex,ok.exfs,ok.funs,ok.frf⟩
section
variable{X:Cx}{pz:List (Addr×Obj)}{σ:St}{H:Hp}{s:k_}{E:c_->k_->Prop}
theorem Inv.wish(I:Inv X pz σ H s)(E:c_->k_->Prop):Inv (X.wish E) pz σ H s:=⟨I.ok.wish E,I.os,I.bare,I.base,I.loc,I.cell,I.free,I.freeC,I.pin,I.hok,I.len⟩
theorem Inv.unwish(I:Inv (X.wish E) pz σ H s):Inv X pz σ H s:=⟨I.ok.unwish,I.os,I.bare,I.base,I.loc,I.cell,I.free,I.freeC,I.pin,I.hok,I.len⟩
theorem SP.unwish{D:Ends}{f:Flow}{s':k_}(h:SP (X.wish E) pz D f s'):SP X pz D f s':=by cases f with
|next=>obtain⟨σ',H',I,q⟩:=h;exact⟨σ',H',I.unwish,q⟩
|brk=>obtain⟨σ',H',I,q⟩:=h;exact⟨σ',H',I.unwish,q⟩
|cont=>obtain⟨σ',H',I,q⟩:=h;exact⟨σ',H',I.unwish,q⟩
|ret u=>obtain⟨v,σ',H',I,r,q⟩:=h;exact⟨v,σ',H',I.unwish,r,q⟩
theorem d7.nox{st:List Stmt}{t:TS}(h:d7 X.nox st t):d7 X st t:=fun pz s σ H D I hw=>Sy (h pz s σ H D (I.wish _) hw) (fun _ _ q=>q.unwish) fun _ _ z=>S1 z
end
section
variable{X:Cx}{st:Stmt}{rest:List Stmt}{t u:TS}{e:Expr}{te:TE}{pos:Pos}
def HM:TS:=fun D σ H=>D.nx σ H
def zB(t u:TS):TS:=fun D σ H=>t { D with nx:=u D } σ H
theorem LA:d7 X [] HM:=fun _ _ σ H _ I h=>Vw ⟨σ,H,I,h⟩
theorem NC(h1:PS X st t)(h2:d7 X rest u):d7 X (st::rest) (zB t u):=by intro pz s σ H D I h;refine wpAny_execs_cons (aR (h1 pz s σ H { D with nx:=u D } I h) fun f s1 q=>?_);cases f with
|next=>obtain⟨σ',H',I',q⟩:=q;exact h2 pz s1 σ' H' D I' q
|ret v=>exact q
|brk=>exact q
|cont=>exact q
theorem Inv.quiet{pz:List (Addr×Obj)}{σ:St}{H:Hp}{s:k_}(I:Inv X pz σ H s):interactive X.env=false:=by simp[interactive,I.ok.kind]
def HL(te:TE):TS:=fun D σ H=>te σ H fun _ H1=>D.nx σ H1
theorem C4(he:PE X e te)(hs:UA e none pos.line X.env=pure false:=by rfl):PS X (.Expr e pos) (HL te):=by intro pz s σ H D I h;exact wpAny_Expr_any (aR (he pz s σ H _ I h) fun v s1 ⟨x,H1,I1,r1,q1⟩=>⟨σ,H1,I1,q1⟩) I.quiet hs
def zC(te:TE):TS:=fun D σ H=>te σ H D.rt
theorem Bi(he:PE X e te):PS X (.Return (some e) pos) (zC te):=by intro pz s σ H D I h;exact wpAny_Return_some (aR (he pz s σ H _ I h) fun v s1 ⟨x,H1,I1,r1,q1⟩=>⟨x,σ,H1,I1,r1,q1⟩)
def zI(c:TT)(t u:TS):TS:=fun D σ H=>c σ H fun b H1=>if b=true then t D σ H1 else u D σ H1
theorem Ii{c:Expr}{a b:List Stmt}{tc:TT}(hc:PT X c tc)(ha:d7 X a t)(hb:d7 X b u):PS X (.If c a b pos) (zI tc t u):=by intro pz s σ H D I h;refine wpAny_If (aR (hc pz s σ H _ I h) fun d s1 ⟨H1,I1,q1⟩=>?_);cases d with
|true=>exact ha pz s1 σ H1 D I1 q1
|false=>exact hb pz s1 σ H1 D I1 q1
def JC:TS:=fun _ _ _=>False
theorem NA:PS X st JC:=fun _ _ _ _ _ _ h=>h.elim
end
abbrev TG:=V->St->Hp->(St->Hp->Prop)->Prop
abbrev jt:=List V->St->Hp->(St->Hp->Prop)->Prop
def PG(X:Cx)(target:Expr)(t:TG):Prop:=∀(pz:List (Addr×Obj))(s:k_)(σ:St)(H:Hp)(v:V)(u:c_)(Q:St->Hp->Prop),Inv X pz σ H s->av v u->t v σ H Q ->I_ (QE X.prog X.w) X.A (Ul target X.env u) (fun _ s'=>∃σ' H',Inv X pz σ' H' s'/\Q σ' H') X.xe s
def i6(X:Cx)(ts:List Expr)(t:jt):Prop:=∀(pz:List (Addr×Obj))(s:k_)(σ:St)(H:Hp)(vs:List V)(us:List c_)(Q:St->Hp->Prop),Inv X pz σ H s->aq vs us->t vs σ H Q ->I_ (QE X.prog X.w) X.A (assignInOrder ((Rx ts X.env).map (·.2)) us) (fun _ s'=>∃σ' H',Inv X pz σ' H' s'/\Q σ' H') X.xe s
abbrev ki:=V->V->V->Hp->(Hp->Prop)->Prop
def fE(X:Cx)(t:ki):Prop:=∀(pz:List (Addr×Obj))(s:k_)(σ:St)(H:Hp)(o i v:V)(ov iv u:c_)(Q:Hp->Prop),Inv X pz σ H s->av o ov->av i iv->av v u->t o i v H Q ->I_ (QE X.prog X.w) X.A (X9 ov iv u) (fun _ s'=>∃H',Inv X pz σ H' s'/\Q H') X.xe s
section
variable{X:Cx}{pos:Pos}
def AK(i:Nat):TG:=fun v σ H Q=>Q (σ.set i (some v)) H
theorem Lv{i:Nat}{x:Str}(hN:X.N.Nodup)(hi:X.N[i]? = some x)(hx:i7 X.env.scope x)(hf:X.fn x=true\/X.env.scope.names.lookup x=some .local:=by first|exact .inl rfl|exact .inr rfl|assumption):PG X (.Name x pos) (AK i):=by intro pz s σ H v u Q I r h;exact Wf (Dw I hN hi hx r (fun s' I'=>⟨_,H,I',h⟩) hf)
def zZ:jt:=fun vs σ H Q=>vs=[]/\Q σ H
def GJ(t:TG)(u:jt):jt:=fun vs σ H Q=>∃v r,vs=v::r/\t v σ H fun σ' H'=>u r σ' H' Q
theorem Lw:i6 X [] zZ:=by intro pz s σ H vs us Q I r h;obtain⟨e,h⟩:=h;subst e;cases r;exact assignInOrder_nil ⟨σ,H,I,h⟩
theorem Nx{e:Expr}{es:List Expr}{t:TG}{u:jt}(h1:PG X e t)(h2:i6 X es u)(hs:(Rx (e::es) X.env).map (·.2)=Ul e X.env::(Rx es X.env).map (·.2):=by rfl):i6 X (e::es) (GJ t u):=by intro pz s σ H vs us Q I r h;obtain⟨v,vr,e1,h⟩:=h;subst e1;cases r with
|cons r rr=>rw[hs];refine assignInOrder_cons (aR (h1 pz s σ H _ _ _ I r h) fun _ s1 ⟨σ1,H1,I1,q1⟩=>?_);exact h2 pz s1 σ1 H1 _ _ Q I1 rr q1
def zX(K:W.Frag)(n:Nat)(t:jt):TG:=fun v σ H Q=>∃a xs,v=.ref a/\ce K H a xs/\xs.length=n/\t xs σ H Q
theorem J5{es:List Expr}{k:Nat}{t:jt}{n:Nat}(hc:X.calm=true)(h:i6 X es t)(hn:(Rx es X.env).length=n:=by rfl)(hst:(Rx es X.env).findIdx? (·.1)=none:=by rfl):PG X (.Tuple es k pos) (zX X.K n t):=by intro pz s σ H v u Q I r hw;obtain⟨a,xs,e1,hq,hl,hw⟩:=hw;subst e1;cases r;obtain⟨its,rv,ht,hz⟩:=I.tuple hq;refine assign_Tuple_tuple (I.ok.hd hc) ht (by simp[hn,<-hl,rv.length]) hst fun h' hx=>?_;have I1:Inv X pz σ H { s with heap:=h' }:=I.kept (t':=s.toks) fun b o e=>hx b o (QM (A_ e)) e;exact h pz _ σ H xs _ Q I1 (by simpa using rv) hw
def zY(to ti:TE)(t:ki):TG:=fun v σ H Q=>to σ H fun o H1=>ti σ H1 fun i H2=>t o i v H2 fun H3=>Q σ H3
theorem J4{o i:Expr}{to ti:TE}{t:ki}(ho:PE X o to)(hi:PE X i ti)(hs:fE X t)(ha:∀v,Ul (.Subscript o i pos) X.env v=(do
   let ov <-Vi [v] (eval o X.env);let iv <-Vi [v,ov] (eval i X.env)
   X_ pos
   Vi [v,ov,iv] (X9 ov iv v)
   release [v,ov,iv] []):=by intro _;rfl):PG X (.Subscript o i pos) (zY to ti t):=by intro pz s σ H v u Q I r h;rw[ha];refine f_ (Ta (aR (ho pz s σ H _ I h) fun ov s1 ⟨x,H1,I1,r1,q1⟩=>?_));refine f_ (Ta (aR (hi pz s1 σ H1 _ I1 q1) fun iv s2 ⟨y,H2,I2,r2,q2⟩=>?_));refine f_ (UY (f_ (Ta (aR (hs pz s2 σ H2 x y v ov iv u _ I2 r1 r2 r q2) fun _ s3 ⟨H3,I3,q3⟩=>?_))));exact wpAny_release ⟨σ,H3,I3,q3⟩
def o5(te:TE)(g:TG):TS:=fun D σ H=>te σ H fun x H1=>g x σ H1 D.nx
theorem Bh{tg e:Expr}{te:TE}{g:TG}(he:PE X e te)(hg:PG X tg g)(hs:VW [tg] e pos.line X.env=pure false:=by rfl)(hw:VX [tg] e X.env=pure none:=by rfl)(h1:(Rx [tg] X.env).map (·.2)=[Ul tg X.env]:=by rfl):PS X (.Assign [tg] e pos) (o5 te g):=by intro pz s σ H D I h;refine wpAny_Assign_stores (aR (he pz s σ H _ I h) fun v s1 ⟨x,H1,I1,r1,q1⟩=>?_) hs hw;rw[h1];exact aR (hg pz s1 σ H1 x v _ I1 r1 q1) fun _ s2 q=>q
theorem Bj{i:Nat}{x:Str}{e:Expr}{te:TE}{pos':Pos}(hN:X.N.Nodup)(hi:X.N[i]? = some x)(hx:i7 X.env.scope x)(he:PE X e te)(hs:UA e (some (.Name x pos')) pos.line X.env=pure false:=by rfl)(hf:X.fn x=true\/X.env.scope.names.lookup x=some .local:=by first|exact .inl rfl|exact .inr rfl|assumption):PS X (.Assign [.Name x pos'] e pos) (o5 te (AK i)):=by intro pz s σ H D I h;refine wpAny_Assign_Name (aR (he pz s σ H _ I h) fun v s1 ⟨y,H1,I1,r1,q1⟩=>?_) hs;exact Dw I1 hN hi hx r1 (fun s2 I2=>⟨_,H1,I2,q1⟩) hf
end
section
variable{X:Cx}{pos:Pos}
def JD(c:TT)(tb:TS):TS:=fun D σ H=>∃W:Nat->St->Hp->Prop,(∃m,W m σ H)/\∀m σ H,W m σ H ->c σ H fun b H1=>if b=true then ∃N:St->Hp->Prop,(∀σ' H',N σ' H'->∃m',m'<m/\W m' σ' H')/\tb { D with nx:=N,ct:=N,bk:=D.nx } σ H1 else D.nx σ H1
theorem NB{c:Expr}{body:List Stmt}{tc:TT}{tb:TS}(hp:UB (QE X.prog X.w) X.A X.env X.xe)(hc:PT X c tc)(hb:d7 X body tb):PS X (.While c body [] pos) (JD tc tb):=by
 intro pz s σ H D I h;obtain⟨W,⟨m0,w0⟩,turn⟩:=h;refine wpAny_While (codeAny_whileLoop (fun n s'=>∃σ' H',Inv X pz σ' H' s'/\W n σ' H') ?_ m0 ⟨σ,H,I,w0⟩)
 rintro n s1 ⟨σ1,H1,I1,w1⟩
 refine Sm hp (aR (hc pz s1 σ1 H1 _ I1 (turn n σ1 H1 w1)) fun b s2 ⟨H2,I2,q2⟩=>?_);cases b with
|true=>obtain⟨N,hN,q2⟩:=q2;rw[if_pos rfl];refine Sm hp (aR (hb pz s2 σ1 H2 _ I2 q2) fun f s3 q3=>?_);cases f with
 |next=>obtain⟨σ3,H3,I3,n3⟩:=q3;obtain⟨m',hm,w3⟩:=hN σ3 H3 n3;exact⟨m',hm,σ3,H3,I3,w3⟩
 |cont=>obtain⟨σ3,H3,I3,n3⟩:=q3;obtain⟨m',hm,w3⟩:=hN σ3 H3 n3;exact⟨m',hm,σ3,H3,I3,w3⟩
 |brk=>exact q3
 |ret v=>exact q3
|false=>rw[if_neg g_];exact Vw ⟨σ1,H2,I2,q2⟩
end
structure It where
 go:Nat->Hp->Prop
 yld:Nat->Hp->V->Hp->Prop
 stop:Nat->Hp->Prop
def c0(X:Cx)(pz:List (Addr×Obj))(H:Hp)(b:Addr):Prop:=H b=none/\b≠X.env.locals/\b∉X.fs/\(b∈X.ex\/X.s₀.heap.objs.size<=b)/\(∀x c,X.env.cells.lookup x=some c->c≠b)/\∀p∈X.pn++pz,p.1≠b
theorem Inv.fpOk{X:Cx}{pz:List (Addr×Obj)}{σ:St}{H H':Hp}{s:k_}{b:Addr}(I:Inv X pz σ H s)(hb:s.heap.objs.size<=b)(hn:H' b=none):c0 X pz H' b:=by
 refine⟨hn,RK (C_ I.lt hb),I.nofs hb,.inr (O_ I.sz hb),fun x c e z=>?_,fun p hp z=>?_⟩
 .obtain⟨v,q⟩:=I.cell x c e;exact absurd (C_ q.lt (by rw[z];exact hb)) (Q_ _)
 .exact absurd (C_ (A_ (I.pin p hp).1) (by rw[z];exact hb)) (Q_ _)
structure Turn(P:J_)(w:QN)(K:W.Frag)(tg:Expr)(J:It)(fp:List Addr)(it:Addr)(tn:Nat->Heap->Prop):Prop where
 mem:it∈fp
 obj:∀i h,tn i h->∀b∈fp,∃o,h.get? b=some o/\∀v,o.data≠.cell v
 keep:∀i h h',tn i h->(∀b∈fp,∀o,h.get? b=some o->h'.get? b=some o)->tn i h'
 item:∀(X:Cx),X.prog=P->X.w=w->X.K=K->X.calm=true->∀(i:Nat)(pz:List (Addr×Obj))(s:k_)(σ:St)(H:Hp)(E:c_->k_->Prop),Inv X pz σ H s->(∀b∈fp,c0 X pz H b)->tn i s.heap->J.go i H ->I_ (QE P w) X.A (Wv (.ref it)) (fun r s1=>∃u,r=some u /\I_ (QE P w) X.A (Um tg (.ref it) u) (fun _ s2=>∃x H',Inv X pz σ H' s2/\av x u/\J.yld i H x H'/\tn (i+1) s2.heap/\∀b∈fp,H' b=none) E s1) E s
 done:∀(X:Cx),X.prog=P->X.w=w->X.K=K->X.calm=true->∀(i:Nat)(pz:List (Addr×Obj))(s:k_)(σ:St)(H:Hp)(E:c_->k_->Prop),Inv X pz σ H s->(∀b∈fp,c0 X pz H b)->tn i s.heap->J.stop i H ->I_ (QE P w) X.A (Wv (.ref it)) (fun r s1=>r=none/\Inv X pz σ H s1) E s
 self:∀(A:Q9)(i:Nat)(s:k_)(Q:c_->k_->Prop)(E:c_->k_->Prop),tn i s.heap->Q (.ref it) s->I_ (QE P w) A (pyIter (.ref it)) Q E s
abbrev TI:=St->Hp->(It->Hp->Prop)->Prop
def GA(X:Cx)(pz:List (Addr×Obj))(σ:St)(tg:Expr)(R:It->Hp->Prop)(itv:c_)(s2:k_):Prop:=∃(it:Addr)(fp:List Addr)(tn:Nat->Heap->Prop)(J:It)(H':Hp),itv=.ref it/\Inv X pz σ H' s2/\Turn X.prog X.w X.K tg J fp it tn/\tn 0 s2.heap/\(∀b∈fp,c0 X pz H' b)/\R J H'
def PI(X:Cx)(tg iter:Expr)(wi:TI):Prop:=∀(pz:List (Addr×Obj))(s:k_)(σ:St)(H:Hp)(R:It->Hp->Prop),Inv X pz σ H s->wi σ H R ->I_ (QE X.prog X.w) X.A (eval iter X.env) (fun v s1=>I_ (QE X.prog X.w) X.A (pyIter v) (GA X pz σ tg R) X.xe s1) X.xe s
theorem pN{M:Model}{A:Q9}{E:c_->k_->Prop}{s:k_}{tg:Expr}{it:Addr}{u:c_}{o:Obj}{n:String}{vs:Array c_}{Q:Unit->k_->Prop}(ho:s.heap.get? it=some o)(hc:o.cls=.type n)(hd:o.data=.fields vs)(hn : ["enumerate","zip","dict_itemiterator","dict_reverseitemiterator","odict_iterator","itertools.zip_longest","itertools.pairwise"].contains n=false)(hQ:Q () s):I_ M A (Um tg (.ref it) u) Q E s:=by
  unfold Um;cases tg <;> first
    |exact E_ hQ
    |(cases u <;> first
        |exact E_ hQ
        | (refine f_ (wpAny_load ho ?_)
           rw[hc,hd];show I_ M A (if (["enumerate","zip","dict_itemiterator","dict_reverseitemiterator","odict_iterator","itertools.zip_longest","itertools.pairwise"].contains n&&vs[0]? == some (Vj _))=true then _ else _) Q E s;rw[if_neg (by intro h;rw[hn,W3]at h;cases h)];exact E_ hQ))
def pC(K:W.Frag)(a:Addr):It:=⟨fun i H=>∃xs x,aY K H a xs/\xs[i]? = some x,fun i H x H'=>H'=H/\∀xs,aY K H a xs->xs[i]? = some x,fun i H=>∃xs,aY K H a xs/\xs.length<=i⟩
def Ai(K:W.Frag)(a:Addr):It:=⟨fun i H=>∃xs x,ce K H a xs/\xs[i]? = some x,fun i H x H'=>H'=H/\∀xs,ce K H a xs->xs[i]? = some x,fun i H=>∃xs,ce K H a xs/\xs.length<=i⟩
def sU(lo:Int)(n:Nat):It:=⟨fun i _=>i<n,fun i H x H'=>H'=H/\x=.int (lo+i),fun i _=>n<=i⟩
theorem O4{P:J_}{w:QN}{K:W.Frag}{tg:Expr}(a it:Addr):Turn P w K tg (pC K a) [it] it (fun i h=>h.IsListIter it a i) where
 mem:=by simp
 obj:=fun i h st b hb=>by
  have e:b=it:=by simpa using hb
  subst e;obtain⟨o,e,c,d⟩:=st;exact⟨o,e,fun v z=>by rw[d]at z;cases z⟩
 keep:=fun i h h' st k=>st.at fun o e=>k it (by simp) o e
 item:=by intro X hP hw hK hc i pz s σ H E I hf st hg;subst hP hw hK;obtain⟨xs,x,hq,hx⟩:=hg;obtain⟨its,rv,p,hz⟩:=I.list hq;obtain⟨u,hu,ru⟩:=rv.get hx;obtain⟨f0,f1,f2,f3,f4,f5⟩:=hf it (by simp);refine wpAny_pyNext_list_item st p.isList (x:=u) (by simpa using hu) fun h' st' sb=>?_;have I1:Inv X pz σ H { s with heap:=h' }:=I.turned (t':=s.toks) (fun b o hb e=>(sb.2 b hb).trans e) f0 f1 f3 f4 f5;obtain⟨o,e,c,d⟩:=id st';exact⟨u,rfl,pN (s:={ s with heap:=h' }) e c d (by decide) ⟨x,H,I1,ru,⟨rfl,fun ys hy=>by rw[I.list_inj hy hq];exact hx⟩,st',fun b hb=>(hf b hb).1⟩⟩
 done:=by intro X hP hw hK hc i pz s σ H E I hf st hg;subst hP hw hK;obtain⟨xs,hq,hx⟩:=hg;obtain⟨its,rv,p,hz⟩:=I.list hq;obtain⟨f0,f1,f2,f3,f4,f5⟩:=hf it (by simp);have hl:=rv.length;exact wpAny_pyNext_list_end (I.ok.hd hc) st p.isList (by simp;omega) fun h' eb=>⟨rfl,I.turned (t':=s.toks) (fun b o hb e=>eb b o hb e) f0 f1 f3 f4 f5⟩
 self:=fun _ _ _ _ _ st h=>wpAny_pyIter_listiter st h
theorem OI{P:J_}{w:QN}{K:W.Frag}{tg:Expr}(a it:Addr):Turn P w K tg (Ai K a) [it] it (fun i h=>h.IsTupleIter it a i) where
 mem:=by simp
 obj:=fun i h st b hb=>by
  have e:b=it:=by simpa using hb
  subst e;obtain⟨o,e,c,d⟩:=st;exact⟨o,e,fun v z=>by rw[d]at z;cases z⟩
 keep:=fun i h h' st k=>st.at fun o e=>k it (by simp) o e
 item:=by intro X hP hw hK hc i pz s σ H E I hf st hg;subst hP hw hK;obtain⟨xs,x,hq,hx⟩:=hg;obtain⟨its,rv,p,hz⟩:=I.tuple hq;obtain⟨u,hu,ru⟩:=rv.get hx;obtain⟨f0,f1,f2,f3,f4,f5⟩:=hf it (by simp);refine wpAny_pyNext_tuple_item st (show s.heap.IsTuple a its.toArray from p) (x:=u) (by simpa using hu) fun h' st' sb=>?_;have I1:Inv X pz σ H { s with heap:=h' }:=I.turned (t':=s.toks) (fun b o hb e=>(sb.2 b hb).trans e) f0 f1 f3 f4 f5;obtain⟨o,e,c,d⟩:=id st';exact⟨u,rfl,pN (s:={ s with heap:=h' }) e c d (by decide) ⟨x,H,I1,ru,⟨rfl,fun ys hy=>by rw[I.tuple_inj hy hq];exact hx⟩,st',fun b hb=>(hf b hb).1⟩⟩
 done:=by intro X hP hw hK hc i pz s σ H E I hf st hg;subst hP hw hK;obtain⟨xs,hq,hx⟩:=hg;obtain⟨its,rv,p,hz⟩:=I.tuple hq;obtain⟨f0,f1,f2,f3,f4,f5⟩:=hf it (by simp);have hl:=rv.length;exact wpAny_pyNext_tuple_end (I.ok.hd hc) st (show s.heap.IsTuple a its.toArray from p) (by simp;omega) fun h' eb=>⟨rfl,I.turned (t':=s.toks) (fun b o hb e=>eb b o hb e) f0 f1 f3 f4 f5⟩
 self:=fun _ _ _ _ _ st h=>wpAny_pyIter_tupleiter st h
theorem OH{P:J_}{w:QN}{K:W.Frag}{tg:Expr}(it:Addr)(lo:Int)(n:Nat):Turn P w K tg (sU lo n) [it] it (fun i h=>IsRangeIter h it (lo+(i:Nat)*1) ((n:Int)-(i:Nat)) 1) where
 mem:=by simp
 obj:=fun i h st b hb=>by
  have e:b=it:=by simpa using hb
  subst e;exact⟨_,st,fun v z=>by have z':Data.fields _=Data.cell v:=z;cases z'⟩
 keep:=fun i h h' st k=>k it (by simp) _ st
 item:=by intro X hP hw hK hc i pz s σ H E I hf st hg;subst hP hw hK;obtain⟨f0,f1,f2,f3,f4,f5⟩:=hf it (by simp);have W:=Walks.range (prog:=X.prog) (w:=X.w) (I.ok.hd hc) it lo 1 n;refine W.item i s _ _ hg st fun v h' tk hv st' kk=>?_;obtain⟨t,rfl⟩:=hv;have I1:Inv X pz σ H { s with heap:=h',toks:=tk }:=I.turned (fun b o hb e=>kk b o (by simpa using hb) e) f0 f1 f3 f4 f5;refine⟨_,rfl,pN (s:={ s with heap:=h',toks:=tk }) (n := "range_iterator") st' rfl rfl (by decide) ⟨.int (lo+i),H,I1,⟨t,?_⟩,⟨rfl,rfl⟩,st',fun b hb=>(hf b hb).1⟩⟩;rw[Yh]
 done:=by intro X hP hw hK hc i pz s σ H E I hf st hg;subst hP hw hK;obtain⟨f0,f1,f2,f3,f4,f5⟩:=hf it (by simp);exact wpAny_pyNext_range_end (I.ok.hd hc) st (by have:n<=i:=hg;omega) fun h' eb=>⟨rfl,I.turned (t':=s.toks) (fun b o hb e=>eb b o hb e) f0 f1 f3 f4 f5⟩
 self:=fun _ _ _ _ _ st h=>wpAny_pyIter_rangeiter st h
section
variable{X:Cx}{tg:Expr}
theorem Nb{pz:List (Addr×Obj)}{σ:St}{H:Hp}{s:k_}{R:It->Hp->Prop}{E:c_->k_->Prop}{lo hi:Int}{t u v:Tok}{tk:Nat}(I:Inv X pz σ H s)(h1 : -(2^62)<=lo)(h2:lo<2^62)(h3 : -(2^62)<=hi)(h4:hi<2^62)(q:R (sU lo (hi-lo).toNat) H):I_ (QE X.prog X.w) X.A (pyIter (.ref s.heap.objs.size)) (GA X pz σ tg R) E { s with heap:=s.heap.push { cls:=.type "range",data:=.fields #[.int lo t,.int hi u,.int 1 v] },toks:=tk }:=by
 refine wpAny_pyIter_range (IsRange.new ..) (small_one h1 h2 h3 h4) ?_;have I1:Inv X pz σ H { s with heap:=s.heap.push { cls:=.type "range",data:=.fields #[.int lo t,.int hi u,.int 1 v] },toks:=tk }:=I.kept fun b o e=>h_ _ e;refine⟨(s.heap.push { cls:=.type "range",data:=.fields #[.int lo t,.int hi u,.int 1 v] }).objs.size,[(s.heap.push { cls:=.type "range",data:=.fields #[.int lo t,.int hi u,.int 1 v] }).objs.size],_,_,H,rfl,I1.kept (t':=tk) fun b o e=>h_ _ e,OH _ lo (hi-lo).toNat,?_,fun b hb=>?_,q⟩
 .have e1:lo+((0:Nat):Int)*1=lo:=by simp
  have e2:(((hi-lo).toNat:Nat):Int)-((0:Nat):Int)=U7 lo hi 1:=by rw[rangeSize_one];split <;> omega
  show IsRangeIter _ _ (lo+((0:Nat):Int)*1) ((((hi-lo).toNat:Nat):Int)-((0:Nat):Int)) 1;rw[e1,e2];exact B_ _ rfl
 .have e:b=(s.heap.push { cls:=.type "range",data:=.fields #[.int lo t,.int hi u,.int 1 v] }).objs.size:=by simpa using hb
  subst e;exact I1.fpOk (q_ _) (I1.hok.fresh (q_ _))
def GK(ta:TA):TI:=fun σ H R=>ta σ H fun vs H1=>∃j:Int,vs=[.int j]/\-(2^62)<=j/\j<2^62/\R (sU 0 j.toNat) H1
theorem Of{a:Expr}{ta:TA}{p pos:Pos}(hg:Gl X "range")(hm:X.mg "range" = none)(ha:PA X [a] ta)(hs:s_ [a] X.env=[(false,eval a X.env)]:=by rfl):PI X tg (.Call (.Name "range" p) [a] [] pos) (GK ta):=by intro pz s σ H R I h;refine Call_ (mQ I hg hm boot_range (R4 (aR (ha pos pz s σ H _ I h) fun us s1 ⟨vs,H1,I1,r1,q1⟩=>?_) hs rfl));obtain⟨j,e,q1,q2,q⟩:=q1;subst e;cases r1 with
|cons r rr=>cases rr;obtain⟨t,rfl⟩:=r;exact call_range_1 (Nb I1 (by omega) (by omega) q1 q2 (by simpa using q))
def zJ(wi:TI)(g:TG)(tb:TS):TS:=fun D σ H=>wi σ H fun J H1=>∃W:Nat->Nat->St->Hp->Prop,(∃m,W 0 m σ H1)/\∀i m σ H,W i m σ H ->(J.stop i H/\D.nx σ H)\/(J.go i H/\∃N:St->Hp->Prop,(∀σ' H',N σ' H'->∃m',m'<m/\W (i+1) m' σ' H')/\∀x H',J.yld i H x H'->g x σ H' fun σ2 H2=>tb { D with nx:=N,ct:=N,bk:=D.nx } σ2 H2)
def nP(fp:List Addr)(h:Heap):List (Addr×Obj):=fp.filterMap fun b=>(h.get? b).map fun o=>(b,o)
theorem rF{fp:List Addr}{h:Heap}{b:Addr}{o:Obj}(hb:b∈fp)(e:h.get? b=some o):(b,o)∈nP fp h:=Rb.mpr ⟨b,hb,by rw[e];rfl⟩
theorem NP{fp:List Addr}{h:Heap}{p:Addr×Obj}(hp:p∈nP fp h):p.1∈fp/\h.get? p.1=some p.2:=by obtain⟨b,hb,e⟩:=Rb.mp hp;cases q:h.get? b with
|none=>rw[q]at e;cases e
|some o=>rw[q]at e;have e':(b,o)=p:=K_ e;subst e';exact⟨hb,q⟩
theorem Inv.pinned{pz:List (Addr×Obj)}{σ:St}{H:Hp}{s:k_}{fp:List Addr}(I:Inv X pz σ H s)(hf:∀b∈fp,c0 X pz H b)(ho:∀b∈fp,∃o,s.heap.get? b=some o/\∀v,o.data≠.cell v):Inv X (pz++nP fp s.heap) σ H s:=I.pins_of fun p hp=>(Rc.mp hp).elim (fun z=>I.pin p (QV _ z)) fun z=>by obtain⟨hb,e⟩:=NP z;obtain⟨f0,f1,f2,_⟩:=hf p.1 hb;obtain⟨o,e',d⟩:=ho p.1 hb;rw[e]at e';cases e';exact⟨e,f0,f1,f2,d⟩
theorem Inv.unpinned{pz pl:List (Addr×Obj)}{σ:St}{H:Hp}{s:k_}(I:Inv X (pz++pl) σ H s):Inv X pz σ H s:=I.pins_of fun p hp=>I.pin p (QV _ (RL _ hp))
theorem qh{iter:Expr}{body:List Stmt}{wi:TI}{g:TG}{tb:TS}{pos:Pos}(hp:UB (QE X.prog X.w) X.A X.env X.xe)(hc:X.calm=true)(hi:PI X tg iter wi)(hg:PG X tg g)(hb:d7 X body tb)(hs:∀x,RP iter X.env x=pure x:=by intro _;rfl):PS X (.For tg iter body [] pos) (zJ wi g tb):=by
 intro pz s σ H D I h;refine wpAny_For (aR (hi pz s σ H _ I h) fun v s1 h1=>aR h1 fun itv s2 h2=>?_) hs;obtain⟨it,fp,tn,J,H2,e,I2,T,st2,f2,W,⟨m0,w0⟩,turn⟩:=h2;subst e;have stat:∀{H':Hp},(∀b∈fp,H' b=none)->∀b∈fp,c0 X pz H' b:=fun hn b hb=>⟨hn b hb,(f2 b hb).2⟩
 refine codeAny_forLoop_any (fun n s'=>∃i σ' H',Inv X pz σ' H' s'/\tn i s'.heap/\(∀b∈fp,H' b=none)/\W i n σ' H') ?_ m0 ⟨0,σ,H2,I2,st2,fun b hb=>(f2 b hb).1,w0⟩
 rintro n s3 ⟨i,σ3,H3,I3,st3,fr3,w3⟩
 rcases turn i n σ3 H3 w3 with⟨stop,qn⟩|⟨go,N,hN,step⟩
 .refine Sm hp (aR (T.done X rfl rfl rfl hc i pz s3 σ3 H3 X.xe I3 (stat fr3) st3 stop) fun r s4 ⟨hr,I4⟩=>?_);subst hr;exact Vw ⟨σ3,H3,I4,qn⟩
 .refine Sm hp (aR (T.item X rfl rfl rfl hc i pz s3 σ3 H3 X.xe I3 (stat fr3) st3 go) fun r s4 ⟨u,hr,h4⟩=>?_);subst hr;refine Sm hp (aR h4 fun _ s5 ⟨x,H5,I5,r5,y5,st5,fr5⟩=>?_);have I5':=I5.pinned (stat fr5) (T.obj _ _ st5);refine Sm hp (aR (hg _ s5 σ3 H5 x u _ I5' r5 (step x H5 y5)) fun _ s6 ⟨σ6,H6,I6,q6⟩=>?_);refine Sm hp (aR (hb _ s6 σ6 H6 _ I6 q6) fun f s7 q7=>?_);have again:∀{σ7:St}{H7:Hp},Inv X (pz++nP fp s5.heap) σ7 H7 s7->N σ7 H7->∃m,m<n/\∃i σ' H',Inv X pz σ' H' s7/\tn i s7.heap/\(∀b∈fp,H' b=none)/\W i m σ' H':=fun{σ7 H7} I7 n7=>by obtain⟨m',hm,w7⟩:=hN σ7 H7 n7;refine⟨m',hm,i+1,σ7,H7,I7.unpinned,T.keep _ _ _ st5 fun b hb o e=>(I7.pin (b,o) (QV _ (QV _ (rF hb e)))).1,fun b hb=>?_,w7⟩;obtain⟨o,e,d⟩:=T.obj _ _ st5 b hb;exact(I7.pin (b,o) (QV _ (QV _ (rF hb e)))).2.1
  cases f with
 |next=>obtain⟨σ7,H7,I7,n7⟩:=q7;exact again I7 n7
 |cont=>obtain⟨σ7,H7,I7,n7⟩:=q7;exact again I7 n7
 |brk=>obtain⟨σ7,H7,I7,q7⟩:=q7;exact⟨σ7,H7,I7.unpinned,q7⟩
 |ret v=>obtain⟨x7,σ7,H7,I7,r7,q7⟩:=q7;exact⟨x7,σ7,H7,I7.unpinned,r7,q7⟩
end
abbrev R2:=V->V->Hp->VK->Prop
def a9(X:Cx)(f:c_->c_->Sem c_)(r:R2):Prop:=∀(pz:List (Addr×Obj))(s:k_)(σ:St)(H:Hp)(x y:V)(v u:c_)(Q:VK),Inv X pz σ H s->av x v->av y u->r x y H Q ->I_ (QE X.prog X.w) X.A (f v u) (EP X pz σ Q) X.xe s
def Ac(X:Cx)(f:c_->Sem c_)(r:V->Hp->VK->Prop):Prop:=∀(pz:List (Addr×Obj))(s:k_)(σ:St)(H:Hp)(x:V)(v:c_)(Q:VK),Inv X pz σ H s->av x v->r x H Q ->I_ (QE X.prog X.w) X.A (f v) (EP X pz σ Q) X.xe s
def dZ(X:Cx)(f:c_)(r:List V->Hp->VK->Prop):Prop:=∀(pz:List (Addr×Obj))(s:k_)(σ:St)(H:Hp)(xs:List V)(us:List c_)(Q:VK),Inv X pz σ H s->aq xs us->r xs H Q ->I_ (QE X.prog X.w) X.A (call f us) (EP X pz σ Q) X.xe s
def Ad(X:Cx)(r:V->Hp->(Bool->Hp->Prop)->Prop):Prop:=∀(pz:List (Addr×Obj))(s:k_)(σ:St)(H:Hp)(x:V)(v:c_)(Q:Bool->Hp->Prop),Inv X pz σ H s->av x v->r x H Q ->I_ (QE X.prog X.w) X.A (truthy v) (TP X pz σ Q) X.xe s
def o4(r:R2)(ta tb:TE):TE:=fun σ H Q=>ta σ H fun x H1=>tb σ H1 fun y H2=>r x y H2 Q
def Qk(r:V->Hp->VK->Prop)(ta:TE):TE:=fun σ H Q=>ta σ H fun x H1=>r x H1 Q
def rI(C:Int->Int->Prop)(g:Int->Int->V):R2:=fun x y H Q=>∃i j,x=.int i/\y=.int j/\C i j/\Q (g i j) H
def jp(g:Int->Int->V):R2:=fun x y H Q=>∃i j,x=.int i/\y=.int j/\Q (g i j) H
def rU(g:Int->V):V->Hp->VK->Prop:=fun x H Q=>∃i,x=.int i/\Q (g i) H
section
variable{X:Cx}{a b c:Expr}{ta tb tc:TE}{pos:Pos}
theorem ma(ha:PE X a ta)(hb:PE X b tb){pz:List (Addr×Obj)}{s:k_}{σ:St}{H:Hp}{R:V->V->Hp->Prop}(I:Inv X pz σ H s)(h:ta σ H fun x H1=>tb σ H1 fun y H2=>R x y H2){Q:c_->k_->Prop}{f:c_->c_->Sem c_}(hf:∀v u s2 x y H2,Inv X pz σ H2 s2->av x v->av y u->R x y H2->I_ (QE X.prog X.w) X.A (f v u) Q X.xe s2):I_ (QE X.prog X.w) X.A (eval a X.env) (fun v s₁=>I_ (QE X.prog X.w) X.A (eval b X.env) (fun u s₂=>I_ (QE X.prog X.w) X.A (f v u) Q X.xe s₂) X.xe s₁) X.xe s:=by refine aR (ha pz s σ H _ I h) fun v s1 ⟨x,H1,I1,r1,q1⟩=>?_;refine aR (hb pz s1 σ H1 _ I1 q1) fun u s2 ⟨y,H2,I2,r2,q2⟩=>?_;exact hf v u s2 x y H2 I2 r1 r2 q2
theorem Ba{op:Operator}{r:R2}(ho:a9 X (Sb op) r)(ha:PE X a ta)(hb:PE X b tb):PE X (.BinOp a op b pos) (o4 r ta tb):=by intro pz s σ H Q I h;exact wpAny_BinOp (ma ha hb I h fun v u s2 x y H2 I2 rx ry q=>ho pz s2 σ H2 x y v u Q I2 rx ry q)
theorem Ih{op:UnaryOp}{r:V->Hp->VK->Prop}(ho:Ac X (unaryOp op) r)(ha:PE X a ta):PE X (.UnaryOp op a pos) (Qk r ta):=by intro pz s σ H Q I h;exact UnaryOp_ (aR (ha pz s σ H _ I h) fun v s1 ⟨x,H1,I1,r1,q1⟩=>ho pz s1 σ H1 x v Q I1 r1 q1)
theorem nr{f:c_->c_->Sem c_}{C:Int->Int->Prop}{g:Int->Int->Int}(rule:∀(i j:Int)(t u:Tok)(s:k_)(Q:c_->k_->Prop)(E:c_->k_->Prop),C i j->Q (.int (g i j) s.toks) { s with toks:=s.toks+1 }->I_ (QE X.prog X.w) X.A (f (.int i t) (.int j u)) Q E s):a9 X f (rI C fun i j=>.int (g i j)):=by intro pz s σ H x y v u Q I rx ry h;obtain⟨i,j,rfl,rfl,hc,q⟩:=h;obtain⟨t,rfl⟩:=rx;obtain⟨t',rfl⟩:=ry;exact rule i j t t' s _ _ hc ⟨.int (g i j),H,I.tok _,⟨_,rfl⟩,q⟩
theorem pj{f:c_->c_->Sem c_}{g:Int->Int->Int}(rule:∀(i j:Int)(t u:Tok)(s:k_)(Q:c_->k_->Prop)(E:c_->k_->Prop),Q (.int (g i j) s.toks) { s with toks:=s.toks+1 }->I_ (QE X.prog X.w) X.A (f (.int i t) (.int j u)) Q E s):a9 X f (jp fun i j=>.int (g i j)):=by intro pz s σ H x y v u Q I rx ry h;obtain⟨i,j,rfl,rfl,q⟩:=h;obtain⟨t,rfl⟩:=rx;obtain⟨t',rfl⟩:=ry;exact rule i j t t' s _ _ ⟨.int (g i j),H,I.tok _,⟨_,rfl⟩,q⟩
theorem l7{f:c_->c_->Sem c_}{g:Int->Int->Bool}(rule:∀(i j:Int)(t u:Tok)(s:k_)(Q:c_->k_->Prop)(E:c_->k_->Prop),Q (.bool (g i j)) s->I_ (QE X.prog X.w) X.A (f (.int i t) (.int j u)) Q E s):a9 X f (jp fun i j=>.bl (g i j)):=by intro pz s σ H x y v u Q I rx ry h;obtain⟨i,j,rfl,rfl,q⟩:=h;obtain⟨t,rfl⟩:=rx;obtain⟨t',rfl⟩:=ry;exact rule i j t t' s _ _ ⟨.bl (g i j),H,I,rfl,q⟩
def g6(i j:Int):Prop:=0<j/\j<1073741824
def g0(i j:Int):Prop:=0<=j/\j<=1000000/\i.natAbs<2^64
def gx(i j:Int):Prop:=(-(2^64)<i/\i<2^64)\/(-(2^64)<j/\j<2^64)
theorem gx.ok{i j:Int}(h:gx i j):IntMulOk i j:=by
 rcases h with⟨h1,h2⟩|⟨h1,h2⟩
 .exact .of_left (intBits_le_64 h1 h2)
 .exact .of_right (intBits_le_64 h1 h2)
theorem Be:a9 X (Sb .Add) (jp fun i j=>.int (i+j)):=pj fun _ _ _ _ _ _ _ q=>add_int q
theorem II:a9 X (Sb .Sub) (jp fun i j=>.int (i-j)):=pj fun _ _ _ _ _ _ _ q=>sub_int q
theorem IF:a9 X (Sb .Mult) (rI gx fun i j=>.int (i*j)):=nr fun _ _ _ _ _ _ _ hc q=>mul_int q hc.ok
theorem LV:a9 X (Sb .FloorDiv) (rI g6 fun i j=>.int (i/j)):=nr fun i j _ _ _ _ _ hc q=>by have h1:(0:Int)<j:=hc.1;have h2:j<1073741824:=hc.2;exact floordiv_int (by omega) (by rw[UD i (by omega)];exact q) (.inl (PyProof.noPylong_small (by omega)))
theorem IE:a9 X (Sb .Mod) (rI (fun _ j=>0<j) fun i j=>.int (i%j)):=nr fun i j _ _ _ _ _ hc q=>by have h1:(0:Int)<j:=hc;exact mod_int' (by omega) (by rw[Int.fmod_eq_emod_of_nonneg i (by omega)];exact q)
theorem IG:a9 X (Sb .Pow) (rI g0 fun i j=>.int (i^j.toNat)):=nr fun _ _ _ _ _ _ _ hc q=>pow_int_small hc.1 hc.2.1 hc.2.2 q
theorem Qj{f:c_->Sem c_}{g:Int->Int}(rule:∀(i:Int)(t:Tok)(s:k_)(Q:c_->k_->Prop)(E:c_->k_->Prop),Q (.int (g i) s.toks) { s with toks:=s.toks+1 }->I_ (QE X.prog X.w) X.A (f (.int i t)) Q E s):Ac X f (rU fun i=>.int (g i)):=by intro pz s σ H x v Q I rx h;obtain⟨i,rfl,q⟩:=h;obtain⟨t,rfl⟩:=rx;exact rule i t s _ _ ⟨.int (g i),H,I.tok _,⟨_,rfl⟩,q⟩
theorem KQ:Ac X (unaryOp .USub) (rU fun i=>.int (-i)):=Qj fun _ _ _ _ _ q=>neg_int q
end
def jX:V->V->Bool
|.non,.non=>true|.non,.int _=>true|.int _,.non=>true|.non,.bl _=>true|.bl _,.non=>true|.non,.str _=>true|.str _,.non=>true
|.int _,.int _=>true|.bl _,.bl _=>true|.str _,.str _=>true|.byt _,.byt _=>true
|.int _,.str _=>true|.str _,.int _=>true|.bl _,.str _=>true|.str _,.bl _=>true
|_,_=>false
def Gu:R2:=fun x y H Q=>jX x y=true/\Q (.bl (decide (x=y))) H
def Gs:R2:=fun x y H Q=>jX x y=true/\Q (.bl (! decide (x=y))) H
theorem vP{i j:Int}:decide (V.int i=V.int j)=(i==j):=by rw[N_];simp
theorem uA{i j:Bool}:decide (V.bl i=V.bl j)=(i==j):=by rw[N_];simp
theorem vQ{i j:Str}:decide (V.str i=V.str j)=(i==j):=by rw[N_];simp
theorem CK{i j:Array UInt8}:decide (V.byt i=V.byt j)=(i.toList==j.toList):=by rw[N_];cases i;cases j;simp
section
variable{X:Cx}{a b c:Expr}{ta tb tc:TE}{pos:Pos}
theorem cu{pz:List (Addr×Obj)}{σ:St}{H:Hp}{s:k_}{Q:VK}{k k':Bool}(I:Inv X pz σ H s)(q:Q (.bl k) H)(e:k=k'):EP X pz σ Q (.bool k') s:=by subst e;exact⟨.bl k,H,I,rfl,q⟩
theorem AC:a9 X (QY .Eq) Gu:=by intro pz s σ H x y v u Q I rx ry h;obtain⟨hs,q⟩:=h;cases x with
|non=>cases rx;cases y with
 |non=>cases ry;exact Xk (cu I q (by simp))
 |bl j=>cases ry;exact Xl (cu I q (by simp))
 |int j=>obtain⟨t',rfl⟩:=ry;exact Xx (cu I q (by simp))
 |str j=>obtain⟨t',rfl⟩:=ry;exact Xy (cu I q (by simp))
 |_=>exact absurd (show false=true from hs) g_
|bl i=>cases rx;cases y with
 |non=>cases ry;exact Xm (cu I q (by simp))
 |bl j=>cases ry;exact eq_bool (cu I q uA)
 |str j=>obtain⟨t',rfl⟩:=ry;exact Xn (cu I q (by simp))
 |_=>exact absurd (show false=true from hs) g_
|int i=>obtain⟨t,rfl⟩:=rx;cases y with
 |non=>cases ry;exact Xz (cu I q (by simp))
 |int j=>obtain⟨t',rfl⟩:=ry;exact eq_int (cu I q vP)
 |str j=>obtain⟨t',rfl⟩:=ry;exact XB (cu I q (by simp))
 |_=>exact absurd (show false=true from hs) g_
|str i=>obtain⟨t,rfl⟩:=rx;cases y with
 |non=>cases ry;exact XD (cu I q (by simp))
 |bl j=>cases ry;exact Xo (cu I q (by simp))
 |int j=>obtain⟨t',rfl⟩:=ry;exact XE (cu I q (by simp))
 |str j=>obtain⟨t',rfl⟩:=ry;exact eq_str (cu I q vQ)
 |_=>exact absurd (show false=true from hs) g_
|byt i=>obtain⟨t,rfl⟩:=rx;cases y with
 |byt j=>obtain⟨t',rfl⟩:=ry;exact W.eq_bytes (cu I q CK)
 |_=>exact absurd (show false=true from hs) g_
|_=>cases y <;> exact absurd (show false=true from hs) g_
theorem Hb:a9 X (QY .NotEq) Gs:=by intro pz s σ H x y v u Q I rx ry h;obtain⟨hs,q⟩:=h;cases x with
|non=>cases rx;cases y with
 |non=>cases ry;exact Xp (cu I q (by simp))
 |bl j=>cases ry;exact Xq (cu I q (by simp))
 |int j=>obtain⟨t',rfl⟩:=ry;exact XG (cu I q (by simp))
 |str j=>obtain⟨t',rfl⟩:=ry;exact XH (cu I q (by simp))
 |_=>exact absurd (show false=true from hs) g_
|bl i=>cases rx;cases y with
 |non=>cases ry;exact Xr (cu I q (by simp))
 |bl j=>cases ry;exact ne_bool (cu I q (congrArg not uA))
 |str j=>obtain⟨t',rfl⟩:=ry;exact Xs (cu I q (by simp))
 |_=>exact absurd (show false=true from hs) g_
|int i=>obtain⟨t,rfl⟩:=rx;cases y with
 |non=>cases ry;exact XI (cu I q (by simp))
 |int j=>obtain⟨t',rfl⟩:=ry;exact ne_int (cu I q (congrArg not vP))
 |str j=>obtain⟨t',rfl⟩:=ry;exact XJ (cu I q (by simp))
 |_=>exact absurd (show false=true from hs) g_
|str i=>obtain⟨t,rfl⟩:=rx;cases y with
 |non=>cases ry;exact XM (cu I q (by simp))
 |bl j=>cases ry;exact Xt (cu I q (by simp))
 |int j=>obtain⟨t',rfl⟩:=ry;exact XQ (cu I q (by simp))
 |str j=>obtain⟨t',rfl⟩:=ry;exact ne_str (cu I q (congrArg not vQ))
 |_=>exact absurd (show false=true from hs) g_
|byt i=>obtain⟨t,rfl⟩:=rx;cases y with
 |byt j=>obtain⟨t',rfl⟩:=ry;exact W.ne_bytes (cu I q (congrArg not CK))
 |_=>exact absurd (show false=true from hs) g_
|_=>cases y <;> exact absurd (show false=true from hs) g_
theorem tM:a9 X (QY .Lt) (jp fun i j=>.bl (decide (i<j))):=l7 fun _ _ _ _ _ _ _ q=>lt_int q
theorem Ha:a9 X (QY .LtE) (jp fun i j=>.bl (decide (i<=j))):=l7 fun _ _ _ _ _ _ _ q=>le_int q
theorem AD:a9 X (QY .Gt) (jp fun i j=>.bl (decide (j<i))):=l7 fun _ _ _ _ _ _ _ q=>gt_int q
theorem On:a9 X (QY .In) (fun x y H Q=>∃i j,x=.str i/\y=.str j/\Q (.bl (!(RQ j i 0 j.length 1).isEmpty)) H):=by intro pz s σ H x y v u Q I rx ry h;obtain⟨i,j,rfl,rfl,q⟩:=h;obtain⟨t,rfl⟩:=rx;obtain⟨t',rfl⟩:=ry;exact in_str (cu I q rfl)
theorem ID:a9 X (QY .Is) (fun x y H Q=>y=.non/\Q (.bl (decide (x=.non))) H):=by
 intro pz s σ H x y v u Q I rx ry h;obtain⟨rfl,q⟩:=h;cases ry;refine is_none_gen (cu I q ?_);cases x <;> first
  |(cases rx;rfl)
  |(obtain⟨t,rfl⟩:=rx;rfl)
theorem LZ:a9 X (QY .IsNot) (fun x y H Q=>y=.non/\Q (.bl (! decide (x=.non))) H):=by
 intro pz s σ H x y v u Q I rx ry h;obtain⟨rfl,q⟩:=h;cases ry;refine isnot_none_gen (cu I q ?_);cases x <;> first
  |(cases rx;rfl)
  |(obtain⟨t,rfl⟩:=rx;rfl)
theorem a9.or{f:c_->c_->Sem c_}{r r':R2}(h:a9 X f r)(h':a9 X f r'):a9 X f (fun x y H Q=>r x y H Q\/r' x y H Q):=by
 intro pz s σ H x y v u Q I rx ry q;rcases q with q|q
 .exact h pz s σ H x y v u Q I rx ry q
 .exact h' pz s σ H x y v u Q I rx ry q
theorem jF(b:Expr){op:X2}(h:op≠.In:=by decide)(h2:op≠.NotIn:=by decide):Sz op b=false:=by
 have e1:(op==CmpOp.In)=false:=by cases op <;> first|rfl|exact absurd rfl h
 have e2:(op==CmpOp.NotIn)=false:=by cases op <;> first|rfl|exact absurd rfl h2
 cases b <;> simp[Sz,e1,e2]
theorem Lr{op:X2}{r:R2}(ho:a9 X (QY op) r)(ha:PE X a ta)(hb:PE X b tb)(hm:Sz op b=false):PE X (.Compare a [op] [b] pos) (o4 r ta tb):=by intro pz s σ H Q I h;exact wpAny_Compare1 (ma ha hb I h fun v u s2 x y H2 I2 rx ry q=>ho pz s2 σ H2 x y v u Q I2 rx ry q) hm
def HQ(t:TE):TT:=fun σ H Q=>t σ H fun x H'=>∃k,x=.bl k/\Q k H'
theorem LB{op:X2}{r:R2}(ho:a9 X (QY op) r)(ha:PE X a ta)(hb:PE X b tb)(hm:Sz op b=false):PT X (.Compare a [op] [b] pos) (HQ (o4 r ta tb)):=by intro pz s σ H Q I h;refine wpAny_isTrue_Compare1 (aR (ha pz s σ H _ I h) fun v s1 ⟨x,H1,I1,r1,q1⟩=>aR (hb pz s1 σ H1 _ I1 q1) fun u s2 ⟨y,H2,I2,r2,q2⟩=>aR (ho pz s2 σ H2 x y v u _ I2 r1 r2 q2) fun c s3 ⟨z,H3,I3,r3,k,e,q3⟩=>?_) hm;subst e;cases r3;exact Ss ⟨H3,I3,q3⟩
def Bv(r r':R2)(ta tb tc:TE):TE:=fun σ H Q=>ta σ H fun x H1=>tb σ H1 fun y H2=>r x y H2 fun z H3=>∃k,z=.bl k /\(if k=true then tc σ H3 fun w' H4=>r' y w' H4 Q else Q (.bl false) H3)
theorem Mz{op op':X2}{r r':R2}(ho:a9 X (QY op) r)(ho':a9 X (QY op') r')(ha:PE X a ta)(hb:PE X b tb)(hc:PE X c tc)(hm:lastMarks [op,op'] [b,c]=false:=by with_unfolding_all rfl):PE X (.Compare a [op,op'] [b,c] pos) (Bv r r' ta tb tc):=by intro pz s σ H Q I h;refine Compare_chain (aR (ha pz s σ H _ I h) fun v s1 ⟨x,H1,I1,r1,q1⟩=>chain_link (aR (hb pz s1 σ H1 _ I1 q1) fun u s2 ⟨y,H2,I2,r2,q2⟩=>aR (ho pz s2 σ H2 x y v u _ I2 r1 r2 q2) fun d s3 ⟨z,H3,I3,r3,k,e,q3⟩=>?_)) hm;subst e;cases r3;refine Ss ?_;cases k with
|false=>exact ite_ff ⟨.bl false,H3,I3,rfl,q3⟩
|true=>exact ite_tt (chain_last (aR (hc pz s3 σ H3 _ I3 q3) fun w' s4 ⟨z',H4,I4,r4,q4⟩=>ho' pz s4 σ H4 y z' u w' Q I4 r2 r4 q4))
def mf(K:W.Frag)(x:V)(H:Hp)(k:Bool):Prop:=match x with
|.non=>k=false
|.bl b=>k=b
|.int i=>k=(i != 0)
|.str y=>y.length<=sizeLine/\k=((y.length:Int) != 0)
|.byt y=>y.size<=sizeLine/\k=((y.size:Int) != 0)
|.ref p=>(∃xs,aY K H p xs/\k = ! xs.isEmpty)\/(∃xs,ce K H p xs/\k = ! xs.isEmpty)\/∃kvs,Rd H p (.dK kvs)/\k = ! kvs.isEmpty
|_=>False
theorem OU{κ:Type}{kvs:List (κ×V)}{vs:List (κ×c_)}(r:KV kvs vs):(! vs.isEmpty) = ! kvs.isEmpty:=by cases r <;> rfl
theorem Fx{xs:List V}{its:List c_}(r:aq xs its):(! its.toArray.isEmpty) = ! xs.isEmpty:=by cases r <;> simp
theorem mK:(sizeLine:Nat)<2^63:=by rw[QZ];decide
theorem JG:Ad X (fun x H Q=>∃k,mf X.K x H k/\Q k H):=by intro pz s σ H x v Q I rx h;obtain⟨k,e,q⟩:=h;have hl:=mK;have hs:sizeLine=16777216:=QZ;cases x with
|non=>cases rx;have e':k=false:=e;subst e';exact truthy_none ⟨H,I,q⟩
|bl b=>cases rx;have e':k=b:=e;subst e';exact Ss ⟨H,I,q⟩
|int i=>obtain⟨t,rfl⟩:=rx;have e':k=(i != 0):=e;subst e';exact PySem.P.truthy_int ⟨H,I,q⟩
|str y=>obtain⟨t,rfl⟩:=rx;obtain⟨hy,e'⟩:y.length<=sizeLine/\k=((y.length:Int) != 0):=e;subst e';exact PySem.P.truthy_str (by omega) ⟨H,I.tok _,q⟩
|byt y=>obtain⟨t,rfl⟩:=rx;obtain⟨hy,e'⟩:y.size<=sizeLine/\k=((y.size:Int) != 0):=e;subst e';exact W.truthy_bytes (by omega) ⟨H,I.tok _,q⟩
|ref p=>
  cases rx;have e':(∃xs,aY X.K H p xs/\k = ! xs.isEmpty)\/(∃xs,ce X.K H p xs/\k = ! xs.isEmpty)\/∃kvs,Rd H p (.dK kvs)/\k = ! kvs.isEmpty:=e;rcases e' with⟨xs,hx,e'⟩|⟨xs,hx,e'⟩|⟨kvs,hx,e'⟩
  .subst e';obtain⟨its,r,pl,hz⟩:=I.list hx;have hlen:=r.length;exact wpAny_truthy_list pl.isList (by simp only[o_];omega) ⟨H,I.tok _,by rw[Fx r];exact q⟩
  .subst e';obtain⟨its,r,pl,hz⟩:=I.tuple hx;have hlen:=r.length;exact truthy_tuple pl (by simp only[o_];omega) ⟨H,I.tok _,by rw[Fx r];exact q⟩
  .subst e';obtain⟨hz,hS,vs,r,m⟩:kvs.length<=sizeLine/\(p==Sx)=false/\∃vs,KV kvs vs/\s.heap.DictOf (en X.prog X.w) p vs:=hx.ok I.hok;have hlen:kvs.length=vs.length:=Paired.length r;exact wpAny_truthy_dict hS m (by omega) ⟨H,I.tok _,by rw[OU r];exact q⟩
|_=>exact(show False from e).elim
theorem ND(ha:PE X a ta)(he:∀whole,isTrue a X.env whole=(do let v <-whole;X_ a.pos;Vi [v] (truthy v))):PT X a (fun σ H Q=>ta σ H fun x H'=>∃k,mf X.K x H' k/\Q k H'):=by intro pz s σ H Q I h;exact isTrue_plain (aR (ha pz s σ H _ I h) fun v s1 ⟨x,H1,I1,r1,q1⟩=>JG pz s1 σ H1 x v Q I1 r1 q1) (he _)
theorem Fh:a9 X (Sb .Add) (fun x y H Q=>∃i j,x=.str i/\y=.str j/\i.length+j.length<=sizeLine/\Q (.str (i++j)) H):=by intro pz s σ H x y v u Q I rx ry h;obtain⟨i,j,rfl,rfl,hz,q⟩:=h;obtain⟨t,rfl⟩:=rx;obtain⟨t',rfl⟩:=ry;exact add_str (fun t' tk=>⟨.str (i++j),H,I.tok _,⟨_,rfl⟩,q⟩) hz
theorem fG{x:V}{us:List c_}(r:aq [x] us):∃u,us=[u]/\av x u:=by cases r with
|cons r1 r2=>cases r2;exact⟨_,rfl,r1⟩
theorem Bc{x y:V}{us:List c_}(r:aq [x,y] us):∃u w',us=[u,w']/\av x u/\av y w':=by cases r with
|cons r1 r2=>cases r2 with
 |cons r3 r4=>cases r4;exact⟨_,_,rfl,r1,r3⟩
theorem MC:dZ X (.builtin "abs") (fun xs H Q=>∃i,xs=[.int i]/\Q (.int (if i<0 then-i else i)) H):=by intro pz s σ H xs us Q I r h;obtain⟨i,rfl,q⟩:=h;obtain⟨u,rfl,t,rfl⟩:=fG r;exact call_abs_int fun u tk=>⟨.int (if i<0 then-i else i),H,I.tok _,⟨_,rfl⟩,q⟩
def pB(K:W.Frag)(x:V)(H:Hp)(n:Nat):Prop:=match x with
|.str y=>y.length<=sizeLine/\n=y.length
|.byt y=>y.size<=sizeLine/\n=y.size
|.ref p=>(∃xs,aY K H p xs/\n=xs.length)\/∃xs,ce K H p xs/\n=xs.length
|_=>False
theorem ME:dZ X (.builtin "len") (fun xs H Q=>∃x n,xs=[x]/\pB X.K x H n/\Q (.int n) H):=by intro pz s σ H xs us Q I r h;obtain⟨x,n,rfl,e,q⟩:=h;obtain⟨u,rfl,rx⟩:=fG r;have hl:=mK;have hs:sizeLine=16777216:=QZ;cases x with
|str y=>obtain⟨t,rfl⟩:=rx;obtain⟨hy,e'⟩:y.length<=sizeLine/\n=y.length:=e;subst e';exact len_str (by omega) ⟨.int _,H,I.tok _,⟨_,rfl⟩,q⟩
|byt y=>obtain⟨t,rfl⟩:=rx;obtain⟨hy,e'⟩:y.size<=sizeLine/\n=y.size:=e;subst e';exact W.len_bytes (by omega) ⟨.int _,H,I.tok _,⟨_,rfl⟩,q⟩
|ref p=>
  cases rx;have e':(∃xs,aY X.K H p xs/\n=xs.length)\/∃xs,ce X.K H p xs/\n=xs.length:=e;rcases e' with⟨xs,hx,e'⟩|⟨xs,hx,e'⟩
  .subst e';obtain⟨its,r',pl,hz⟩:=I.list hx;have hlen:=r'.length;exact Calls.call_len_list pl.isList (by simp only[o_];omega) ⟨.int xs.length,H,I.tok _,⟨_,by simp only[o_];rw[hlen]⟩,q⟩
  .subst e';obtain⟨its,r',pl,hz⟩:=I.tuple hx;have hlen:=r'.length;exact len_tuple pl (by simp only[o_];omega) ⟨.int xs.length,H,I.tok _,⟨_,by simp only[o_];rw[hlen]⟩,q⟩
|_=>exact(show False from e).elim
end
structure ObjM(h:Heap)(x dx C:Addr)(mA:Str->Option c_):Prop where
 obj:h.get? x=some (W.instObj C dx)
 ns:h.Ns1 dx mA
 ne:dx≠x
theorem du.some_of{v:V}{o:Option c_}(r:du (some v) o):∃u,o=some u/\av v u:=by cases o with
|none=>exact(show False from r).elim
|some u=>exact⟨u,rfl,r⟩
structure Cls(K:W.Frag)(C:Addr):Prop where
 pg:W.plainGet K C Str.empty=true
 hd:W.hasDictIn K C=true
 po:W.plainOver K C=true
 sa:W.findIn K (.ref C) "__setattr__" = some (some (.builtin "object.__setattr__"))
theorem Cls.get{K:W.Frag}{C:Addr}(c:Cls K C)(f:Str):W.plainGet K C f=true:=c.pg
structure Con(K:W.Frag)(C:Addr)(f:Str)(v:V)(u:c_):Prop where
 at_:W.findIn K (.ref C) f=some (some u)
 rel:av v u
 get:W.specialIn K u "__get__" = some none
 cp:W.copiedNames.contains f=false
structure Meth(K:W.Frag)(C:Addr)(m:Str)(f:Addr):Prop where
 at_:W.findIn K (.ref C) m=some (some (.ref f))
 fn:W.isFn K (.ref f)=true
 kp:W.keepIn K (.ref f)=true
section
variable{X:Cx}{pz:List (Addr×Obj)}{σ:St}{H:Hp}{s:k_}{A:Q9}{E:c_->k_->Prop}{Q:c_->k_->Prop}{c:c_}{b:Bool}
inductive TyOf(K:W.Frag)(H:Hp):V->c_->Prop where
 |non:TyOf K H .non (.type "NoneType")
 |bl (x:Bool):TyOf K H (.bl x) (.type "bool")
 |int (i:Int):TyOf K H (.int i) (.type "int")
 |str (x:Str):TyOf K H (.str x) (.type "str")
 |flt (x:UInt64):TyOf K H (.flt x) (.type "float")
 |lst {a:Addr} {xs:List V} (e:H a=some (.lst xs)):TyOf K H (.ref a) (.type "list")
 |frz {a:Addr} {o:Obj} {xs:List V} (e:H a=some (.frz o (.lst xs))):TyOf K H (.ref a) (.type "list")
 |tup {a:Addr} {xs:List V} (e:H a=some (.tup xs)):TyOf K H (.ref a) (.type "tuple")
 |dK {a:Addr} {kvs:List (aA×V)} (e:H a=some (.dK kvs)):TyOf K H (.ref a) (.type "dict")
 |dT {a:Addr} {kvs:List (List aA×V)} (e:H a=some (.dT kvs)):TyOf K H (.ref a) (.type "dict")
 | ins {a C dx:Addr} {fs:List (Str × V)} (e:H a=some (.ins C dx fs)) (cl:Cls K C) (ha:W.findIn K (.ref C) "__class__" = some (some (.builtin "object.__class__")))
   (hn:W.specialIn K (.builtin "object.__class__") "__get__" = some (some (.builtin "getset_descriptor.__get__"))) (htk:W.takesIn K (.builtin "object.__class__")=some true)
   (hm:W.mroIn K C (.type "object")=some true):TyOf K H (.ref a) (.ref C)
end
structure Room(k:Nat)(A:Q9):Prop where
 hd:A.handled=none
 dp:A.depth+3*k+5<recursionLimit
 un:A.units+16*k+200<SM
 gd:A.guards=some []
theorem Room.mono{j k:Nat}{A:Q9}(r:Room k A)(h:j<=k):Room j A:=⟨r.hd,by have:=r.dp;omega,by have:=r.un;omega,r.gd⟩
theorem Room.deeper{k:Nat}{A:Q9}(r:Room (k+1) A)(env:Env):Room k (A.deeper env):=⟨r.hd,by have:=r.dp;show A.depth+1+3*k+5<_;omega,by have:=r.un;show A.units+3+16*k+200<_;omega,r.gd⟩
theorem Room.depth{k:Nat}{A:Q9}(r:Room k A):A.depth<recursionLimit:=by have:=r.dp;omega
theorem Room.units{k:Nat}{A:Q9}(r:Room k A):A.units+64<SM:=by have:=r.un;omega
def zF:TA:=fun _ H Q=>Q [] H
def HK(ta:TE)(tr:TA):TA:=fun σ H Q=>ta σ H fun x H1=>tr σ H1 fun xs H2=>Q (x::xs) H2
section
variable{X:Cx}{e:Expr}{es:List Expr}{te:TE}{t:TA}{pos:Pos}
theorem kF:PA X [] zF:=fun _ _ _ _ H Q I h=>Calls.spliced_nil ⟨[],H,I,.nil,h⟩
theorem iy(ha:PE X e te)(hr:PA X es t)(hs:s_ (e::es) X.env=(false,eval e X.env)::s_ es X.env:=by rfl):PA X (e::es) (HK te t):=by intro pos pz s σ H Q I h;rw[hs];show I_ _ _ (spliced ((false,eval e X.env)::backTo pos (s_ es X.env))) _ _ s;refine Calls.spliced_cons (aR (ha pz s σ H _ I h) fun u s1 ⟨x,H1,I1,r1,q1⟩=>?_);exact aR (hr pos pz s1 σ H1 _ I1 q1) fun us s2 ⟨xs,H2,I2,r2,q2⟩=>⟨x::xs,H2,I2,.cons r1 r2,q2⟩
def zA(t:TA):TE:=fun σ H Q=>t σ H fun xs H1=>xs.length<=sizeLine/\∀p,H1 p=none->Q (.ref p) (upd H1 p (.tup xs))
def zG(t:TA):TE:=fun σ H Q=>t σ H fun xs H1=>xs.length<=sizeLine/\∀p,H1 p=none->Q (.ref p) (upd H1 p (.lst xs))
theorem J2{x1}(h:PA X es t):PE X (.Tuple es x1 pos) (zA t):=by intro pz s σ H Q I hq;refine wpAny_Tuple_spliced (aR (h pos pz s σ H _ I hq) fun us s1 ⟨xs,H1,I1,r,z,q⟩=>⟨by rw[<-r.length];exact z,?_⟩);have hf:H1 s1.heap.objs.size=none:=I1.hok.fresh (q_ _);refine⟨.ref s1.heap.objs.size,upd H1 s1.heap.objs.size (.tup xs),I1.laid (t':=s1.toks) (fun b u e=>h_ _ e) (q_ _) ?_,rfl,q _ hf⟩;exact⟨z,us,r,⟨_,B_ _ rfl,rfl,_,rfl⟩,_,B_ _ rfl,rfl⟩
theorem JW(h:PA X es t):PE X (.List es pos) (zG t):=by intro pz s σ H Q I hq;refine wpAny_List_spliced (aR (h pos pz s σ H _ I hq) fun us s1 ⟨xs,H1,I1,r,z,q⟩=>⟨by rw[<-r.length];exact z,?_⟩);have hf:H1 s1.heap.objs.size=none:=I1.hok.fresh (q_ _);refine⟨.ref s1.heap.objs.size,upd H1 s1.heap.objs.size (.lst xs),I1.laid (t':=s1.toks) (fun b u e=>h_ _ e) (q_ _) ?_,rfl,q _ hf⟩;exact⟨z,us,0,r,B_ _ rfl⟩
end
abbrev Sp:=List V->Hp->VK->XK->Prop
abbrev gZ:=List Env->Hp->k_->XK->c_->k_->Prop
structure Env0(P:J_)(w:QN)(K:W.Frag)(mg:Str->Option c_)(base:Heap)(A:Q9)(outer:List Env)(s:k_)(H:Hp):Prop where
 frames:A.frames=some outer
 mod:Mod K mg base
 bs:∀b o,base.get? b=some o->s.heap.get? b=some o/\H b=none
 bsz:base.objs.size<=s.heap.objs.size
 funs:s.heap.FunFrames base outer
 frf:∀b∈gF outer,H b=none
 hok:cC P w H s.heap
 bare:Ua s.gens
def CE(outer:List Env)(P:J_)(w:QN)(H:Hp)(s:k_)(Q:VK)(u:c_)(s':k_):Prop:=∃v H',s'.os=s.os/\Ua s'.gens/\Un (gF outer) [] H H' s.heap s'.heap/\cC P w H' s'.heap/\av v u/\Q v H'
def CR(CX:gZ)(outer:List Env)(P:J_)(w:QN)(H:Hp)(s:k_)(Q:VK)(E:XK)(r:Result)(s':k_):Prop:=match r with
|.ok (.ret u)=>CE outer P w H s Q u s'
|.ok _=>False
|.error e=>CX outer H s E e s'
structure FnOk(P:J_)(w:QN)(K:W.Frag)(mg:Str->Option c_)(base:Heap)(CX:gZ)(k:Nat)(f:Addr)(fd:RM)(ps:List Str)(sp:Sp):Prop where
 len:∀vs H Q E,sp vs H Q E->vs.length=ps.length
 run:∀(A:Q9)(outer:List Env)(s:k_)(H:Hp)(args:Args)(us:List c_)(vs:List V)(Q:VK)(E:XK),Room k A->Env0 P w K mg base A outer s H->VS s fd args (ps.zip us)->aq vs us->sp vs H Q E ->VT (QE P w) A (.call (.ref f) args) (CR CX outer P w H s Q E) s
theorem FnOk.mono{P:J_}{w:QN}{K:W.Frag}{mg:Str->Option c_}{base:Heap}{CX:gZ}{j k:Nat}{f:Addr}{fd:RM}{ps:List Str}{sp:Sp}(F:FnOk P w K mg base CX j f fd ps sp)(h:j<=k):FnOk P w K mg base CX k f fd ps sp:=⟨F.len,fun A outer s H args us vs Q E hr=>F.run A outer s H args us vs Q E (hr.mono h)⟩
section
variable{X:Cx}{pz:List (Addr×Obj)}{σ:St}{H:Hp}{s s':k_}
theorem Inv.env0(I:Inv X pz σ H s):Env0 X.prog X.w X.K X.mg X.base X.A X.stack s H:=⟨I.ok.frames,I.ok.mod,I.bs,O_ I.ok.bsz I.sz,I.stack,I.stkFree,I.hok,I.bare⟩
theorem Inv.after{Q:VK}{u:c_}(I:Inv X pz σ H s)(h:CE X.stack X.prog X.w H s Q u s'):EP X pz σ Q u s':=by obtain⟨v,H',os,bare,un,hok,r,q⟩:=h;obtain⟨hh,g,d,t,os'⟩:=s';obtain rfl:os'=s.os:=os;exact⟨v,H',I.call (h':=hh) (g':=g) (d':=d) (t':=t) (ch:=[]) un hok bare (fun b z=>absurd z (by simp)),r,q⟩
end
def HJ(sp:Sp)(dvs:List V)(E:XK)(t:TA):TE:=fun σ H Q=>t σ H fun vs H1=>sp (vs++dvs) H1 Q E
def io(K:W.Frag)(fd:RM)(ps:List Str)(ds:List c_):Prop:=∀(s:k_)(us:List c_),K.In s.heap->(us++ds).length=ps.length->VS s fd ⟨us,[]⟩ (ps.zip (us++ds))
theorem io.all{K:W.Frag}{fd:RM}{ps:List Str}(h:∀us:List c_,us.length=ps.length->VH fd ⟨us,[]⟩=pure (ps.zip us)):io K fd ps []:=fun s us _ hl=>by rw[Q0]at hl ⊢;exact .of_eq (h us hl)
def tV(CX:gZ)(X:Cx)(E:XK):Prop:=∀(pz:List (Addr×Obj))(σ:St)(H:Hp)(s:k_)(e:c_)(s':k_),Inv X pz σ H s->CX X.stack H s E e s'->X.xe e s'
section
variable{X:Cx}{CX:gZ}{k:Nat}{f C:Addr}{fd:RM}{ps:List Str}{sp:Sp}{dvs:List V}{ds:List c_}{E:XK}{x m:Str}{p pos apos:Pos}{e o:Expr}{es:List Expr}{ta:TE}{t:TA}
theorem JS{pz:List (Addr×Obj)}{σ:St}{H:Hp}{s:k_}{Q:VK}{us:List c_}{vs:List V}(F:FnOk X.prog X.w X.K X.mg X.base CX k f fd ps sp)(hr:Room k X.A)(hb:io X.K fd ps ds)(hd:aq dvs ds)(hx:tV CX X E)(I:Inv X pz σ H s)(r:aq vs us)(h:sp (vs++dvs) H Q E):I_ (QE X.prog X.w) X.A (call (.ref f) us) (EP X pz σ Q) X.xe s:=by
 have r2:aq (vs++dvs) (us++ds):=r.append hd;have hl:(us++ds).length=ps.length:=by rw[<-r2.length];exact F.len _ _ _ _ h
 refine wpAny_call (Wg (F.run X.A X.stack s H ⟨us,[]⟩ (us++ds) (vs++dvs) Q E hr I.env0 (hb s us I.kIn hl) r2 h) fun r s' hq=>?_);cases r with
|error e=>exact hx pz σ H s e s' I hq
|ok fl=>cases fl with
 |ret u=>exact I.after hq
 |next=>exact S1 hq
 |brk=>exact S1 hq
 |cont=>exact S1 hq
theorem C2(F:FnOk X.prog X.w X.K X.mg X.base CX k f fd ps sp)(hr:Room k X.A)(hg:Gl X x)(hm:X.mg x=some (.ref f))(hk:W.keepIn X.K (.ref f)=true)(hb:io X.K fd ps ds)(hd:aq dvs ds)(hx:tV CX X E)(ha:PA X (e::es) t)(hdb:(x==("__debug__" : Str))=false:=by decide)(he:s_ (e::es) X.env=(false,eval e X.env)::s_ es X.env:=by rfl)(hpl:(backTo pos (s_ es X.env)).any (·.1)=false:=by rfl):PE X (.Call (.Name x p) (e::es) [] pos) (HJ sp dvs E t):=by intro pz s σ H Q I h;refine UE (Cg I hg hm ?_ hdb);refine W.callWith_K (h₀:=X.base) I.ok.mod.kin hk (aR (ha pos pz s σ H _ I h) fun us s1 ⟨vs,H1,I1,r,q⟩=>⟨I1.kIn,?_⟩) he hpl;exact JS F hr hb hd hx I1 r q
structure Mk(K:W.Frag)(C f:Addr):Prop where
 makes:W.makesIn K C=true
 init:W.findIn K (.ref C) "__init__" = some (some (.ref f))
 fn:W.isFn K (.ref f)=true
 kp:W.keepIn K (.ref C)=true
end
section
variable{X:Cx}{CX:gZ}{k:Nat}{f C:Addr}{fd:RM}{ps ks:List Str}{sp:Sp}{E:XK}{x m:Str}{p pos apos kpos:Pos}{e o:Expr}{es:List Expr}{kws:List Ub}{te ta:TE}{t tk:TA}{nm:Option Str}
structure KBinds(K:W.Frag)(fd:RM)(ps ks:List Str)(g:List c_->List c_->List c_)(gV:List V->List V->List V):Prop where
 to:∀(s:k_)(us ws:List c_),K.In s.heap->(g us ws).length=ps.length->VS s fd ⟨us,ks.zip ws⟩ (ps.zip (g us ws))
 rel:∀{vs:List V}{us:List c_}{zs:List V}{ws:List c_},aq vs us->aq zs ws->aq (gV vs zs) (g us ws)
variable{g:List c_->List c_->List c_}{gV:List V->List V->List V}
end
structure FnScope(N P:List Str)(sc:SK):Prop where
 kind:sc.kind=.function
 co:sc.isCoroutine=false
 gen:sc.isGenerator=false
 nd:N.Nodup
 pre:N.take P.length=P
 par:∀x∈P,sc.names.lookup x=some .local\/sc.names.lookup x=some .cell
 nofree:∀y∈sc.names,y.2≠.free
theorem Ef{kindOf:Str->Option Tk}{x:Str}:∀{binds:List (Str×c_)}{m:Str->Option c_},(∀v,(x,v)∉binds)->W4 kindOf binds m x=m x
|[],_,_=>rfl
|(n,v)::r,m,h=>by
  unfold W4;rw[Ef fun w hw=>h w (i_ _ hw)];split
  .have:x≠n:=by rintro rfl;exact h v d_
   simp[this]
  .rfl
theorem Ed{kindOf:Str->Option Tk}{x:Str}:∀{binds:List (Str×c_)}{m:Str->Option c_},(∀v,(x,v)∉binds)->W5 kindOf binds m x=m x
|[],_,_=>rfl
|(n,v)::r,m,h=>by
  unfold W5;rw[Ed fun w hw=>h w (i_ _ hw)];split
  .rfl
  .have:x≠n:=by rintro rfl;exact h v d_
   simp[this]
theorem Ee{kindOf:Str->Option Tk}{x:Str}{v:c_}:∀{P:List Str}{vs:List c_}{i:Nat}{m:Str->Option c_},P.Nodup->P[i]? = some x->vs[i]? = some v->kindOf x=some .local ->W4 kindOf (P.zip vs) m x=some v
|[],_,_,_,_,h,_,_=>by simp at h
|_::_,[],_,_,_,_,h,_=>by simp at h
|p::P,w::vs,0,m,nd,h1,h2,hk=>by simp at h1 h2;subst h1;subst h2;show W4 kindOf ((p,w)::P.zip vs) m p=_;unfold W4;rw[Ef fun v hv=>(Q1.mp nd).1 (Vx hv).1,if_pos hk];simp
|p::P,w::vs,i+1,m,nd,h1,h2,hk=>by show W4 kindOf ((p,w)::P.zip vs) m x=_;unfold W4;exact Ee (i:=i) (Q1.mp nd).2 (by simpa using h1) (by simpa using h2) hk
theorem Ec{kindOf:Str->Option Tk}{x:Str}{v:c_}:∀{P:List Str}{vs:List c_}{i:Nat}{m:Str->Option c_},P.Nodup->P[i]? = some x->vs[i]? = some v->kindOf x≠some .local ->W5 kindOf (P.zip vs) m x=some v
|[],_,_,_,_,h,_,_=>by simp at h
|_::_,[],_,_,_,_,h,_=>by simp at h
|p::P,w::vs,0,m,nd,h1,h2,hk=>by simp at h1 h2;subst h1;subst h2;show W5 kindOf ((p,w)::P.zip vs) m p=_;unfold W5;rw[Ed fun v hv=>(Q1.mp nd).1 (Vx hv).1,if_neg hk];simp
|p::P,w::vs,i+1,m,nd,h1,h2,hk=>by show W5 kindOf ((p,w)::P.zip vs) m x=_;unfold W5;exact Ec (i:=i) (Q1.mp nd).2 (by simpa using h1) (by simpa using h2) hk
def bO(N:List Str)(vs:List V):St:=vs.map some++F_ (N.length-vs.length) none
def aT(CX:gZ)(P:J_)(w:QN)(K:W.Frag)(mg:Str->Option c_)(base:Heap)(N:List Str)(qual:Str)(scope:SK)(f:Addr)(cd:c_)(A:Q9)(outer:List Env)(s:k_)(H:Hp)(E:XK):Cx where
 prog:=P
 w:=w
 K:=K
 mg:=mg
 base:=base
 A:=A.deeper (T6 qual scope s.heap.objs.size f cd)
 N:=N
 s₀:=s
 H₀:=H
 env:=T6 qual scope s.heap.objs.size f cd
 outer:=outer
 stack:=T6 qual scope s.heap.objs.size f cd::outer
 ex:=[]
 calm:=true
 fn:=fun _=>true
 pn:=[]
 xe:=fun e s'=>I_ (QE P w) (A.deeper (T6 qual scope s.heap.objs.size f cd)) (leaving (T6 qual scope s.heap.objs.size f cd) e) (fun _ s''=>CX outer H s E e s'') (fun e' s''=>CX outer H s E e' s'') s'
theorem DY{sc:SK}{n:Nat}{x:Str}(h:sc.names.lookup x=some .cell):∃c,(X3 n sc.names []).lookup x=some c:=by have q:=W.cellsFrom_some sc.names n [] (.inl h);exact Option.isSome_iff_exists.mp q
theorem NV{CX:gZ}{P:J_}{w:QN}{K:W.Frag}{mg:Str->Option c_}{base:Heap}{N ps:List Str}{qual:Str}{scope:SK}{f:Addr}{cd:c_}{A:Q9}{outer:List Env}{s s1:k_}{H:Hp}{E:XK}{us:List c_}{vs:List V}(S:FnScope N ps scope)(hd:A.handled=none)(e0:Env0 P w K mg base A outer s H)(hl:vs.length=ps.length)(r:aq vs us)(x:InCallC s s.heap.objs.size (W4 (T6 qual scope s.heap.objs.size f cd).kindOf (ps.zip us) fun _=>none) (X3 (s.heap.objs.size+1) scope.names []) (W5 (T6 qual scope s.heap.objs.size f cd).kindOf (ps.zip us) fun _=>none) s1):Inv (aT CX P w K mg base N qual scope f cd A outer s H E) [] (bO N vs) H s1:=by
 have hpl:ps.length<=N.length:=by have:=congrArg US S.pre;rw[Rf]at this;omega
 obtain⟨h1,tk,rfl,hk⟩:=x.done;have noA:∀b:Addr,b∉(aT CX P w K mg base N qual scope f cd A outer s H E).ex:=fun b z=>absurd (show b∈([]:List Addr)from z) (by simp);refine⟨⟨e0.mod,S.kind,rfl,rfl,q_ _,fun y z c h1 h2=>?_,fun y hy=>?_,fun y c _ h=>?_,fun _=>hd,Around.frames_deeper e0.frames,.inr ⟨rfl,rfl⟩,fun b z=>absurd z (noA b),e0.bs,e0.bsz,fun b _ _=>noA b,fun b z=>absurd z (noA b),e0.funs,e0.frf⟩,rfl,e0.bare,Un.kept hk,⟨_,x.toInCall.ns,fun i y v h1 h2 h3=>?_⟩,fun y c h=>⟨_,x.cell y c h⟩,e0.hok.fresh (q_ _),fun y c h=>?_,fun p hp=>absurd (show p∈([]:List (Addr×Obj))from hp) (by simp),e0.hok.kept hk,?_⟩
 .exact name_of_addr x.apart (RD h1) (RD h2)
 .have hy:scope.names.lookup y=some .cell\/scope.names.lookup y=some .free:=hy;rcases hy with hy|hy
  .exact DY hy
  .exact absurd rfl (S.nofree _ (RD hy))
 .exact We (x.above y c (RD h))
 .have hi:i<vs.length:=by
   unfold bO at h2;by_cases hi:i<vs.length
   .exact hi
   .rw[Rj (by simpa using hi)]at h2;rw[Rv]at h2;split at h2 <;> cases h2
  have ha:vs[i]? = some v:=by unfold bO at h2;rw[QJ (by simpa using hi),t_]at h2;cases e:vs[i]? with
  |none=>rw[e]at h2;cases h2
  |some a=>rw[e]at h2;cases h2;rfl
  obtain⟨u,hu,rv⟩:=r.get ha;have hp:ps[i]? = some y:=by rw[<-S.pre,List.getElem?_take_of_lt (by omega)];exact h1
  have ndP:ps.Nodup:=by rw[<-S.pre];exact S.nd.sublist (Wh _ _)
  refine⟨u,rv,?_⟩;rcases S.par y (RN hp)with k|k
  .exact .inl ⟨k,Ee ndP hp hu k⟩
  .obtain⟨c,e⟩:=DY (n:=s.heap.objs.size+1) k;refine .inr ⟨.inl k,c,e,?_⟩;have q:=x.cell y c e;rw[Ec ndP hp hu (by show scope.names.lookup y≠_;rw[k];decide)]at q;exact q
 .exact e0.hok.fresh (We (x.above y c (RD h)))
 .unfold bO;show _=N.length;rw[L_,m_,Sh];omega
theorem AJ{CX:gZ}{P:J_}{w:QN}{K:W.Frag}{mg:Str->Option c_}{base:Heap}{k:Nat}{f:Addr}{name qual:Str}{params:Arguments}{body:List Stmt}{scope:SK}{dV kV doc pm cdv ct oc:c_}{an od:Option Addr}{osl:Array (Option c_)}{N ps:List Str}{sp:Sp}(lk:K.lookup f=some ⟨oc,od,.func (W.fnOf name qual params body scope dV kV doc pm an cdv ct),osl⟩)(hcd:W.codeIn K cdv qual=true)(S:FnScope N ps scope)(len:∀vs H Q E,sp vs H Q E->vs.length=ps.length)(hbody:∀(A:Q9)(outer:List Env)(s:k_)(H:Hp)(vs:List V)(Q:VK)(E:XK),Room k (A.deeper (T6 qual scope s.heap.objs.size f cdv))->sp vs H Q E ->∃t,d7 (aT CX P w K mg base N qual scope f cdv A outer s H E) body t/\t { nx:=fun _ H'=>Q .non H',rt:=Q } (bO N vs) H):FnOk P w K mg base CX (k+1) f (W.fnOf name qual params body scope dV kV doc pm an cdv ct) ps sp:=by
 refine⟨len,fun A outer s H args us vs Q E hr e0 hb r hsp=>?_⟩;have hl:=len _ _ _ _ hsp;have KX:K.In s.heap:=e0.mod.kin.keeps fun b o e=>(e0.bs b o e).1;have lim:s.heap.NoLimit:=e0.mod.nolimit.keeps fun b o e=>(e0.bs b o e).1;have hkind:∀y∈ps.zip us,scope.names.lookup y.1=some .local\/(scope.names.lookup y.1=some .cell/\((X3 (s.heap.objs.size+1) scope.names []).lookup y.1).isSome=true):=fun⟨n,v⟩ hy=>by
  rcases S.par n (Vx hy).1 with q|q
  .exact .inl q
  .exact .inr ⟨q,W.cellsFrom_some _ _ _ (.inl q)⟩
 refine codeAny_call_function hr.depth (KX _ _ lk) rfl S.co S.gen rfl (W.codeRec_of KX hcd) (hb _ _ _ _ ?_);refine wpAny_newFunctionEnv_cells S.kind hkind fun env he s1 x=>?_;subst he;refine⟨lim.keeps x.toInCall.keep,codeAny_func ?_⟩;obtain⟨t,ht,hq⟩:=hbody A outer s H vs Q E (hr.deeper _) hsp;have I:Inv (aT CX P w K mg base N qual scope f cdv A outer s H E) [] (bO N vs) H s1:=NV S hr.hd e0 hl r x;refine Sy (ht [] s1 (bO N vs) H _ I hq) (fun fl s' hs=>?_) fun e s' hs=>hs;have fin:∀{σ':St}{H':Hp}{v:V}{u:c_},Inv (aT CX P w K mg base N qual scope f cdv A outer s H E) [] σ' H' s'->av v u->Q v H'->CE outer P w H s Q u s':=fun{σ' H' v u} J rv q=>⟨v,H',J.os,J.bare,J.base,J.hok,rv,q⟩
 cases fl with
|ret u=>obtain⟨v,σ',H',J,rv,q⟩:=hs;exact fin J rv q
|next=>obtain⟨σ',H',J,q⟩:=hs;exact fin (v:=V.non) (u:=Value.none) J rfl q
|brk=>obtain⟨_,_,_,q⟩:=hs;exact S1 q
|cont=>obtain⟨_,_,_,q⟩:=hs;exact S1 q
section
variable{X:Cx}{x:Str}{p pos:Pos}{e:Expr}{es:List Expr}{t:TA}{id T:String}{r:List V->Hp->VK->Prop}
def sO(r:List V->Hp->VK->Prop)(t:TA):TE:=fun σ H Q=>t σ H fun vs H1=>r vs H1 Q
theorem lG(hc:dZ X (.builtin id) r)(hg:Gl X x)(hm:X.mg x=none)(hv:To x=some (.builtin id))(ha:PA X (e::es) t)(hn:x≠"__name__" := by decide)(hdb:(x==("__debug__" : Str))=false:=by decide)(he:s_ (e::es) X.env=(false,eval e X.env)::s_ es X.env:=by rfl)(hpl:(backTo pos (s_ es X.env)).any (·.1)=false:=by rfl):PE X (.Call (.Name x p) (e::es) [] pos) (sO r t):=by intro pz s σ H Q I h;refine UE (mQ I hg hm hv ?_ hn hdb);exact Ww (aR (ha pos pz s σ H _ I h) fun us s1 ⟨vs,H1,I1,r1,q1⟩=>hc pz s1 σ H1 vs us Q I1 r1 q1) he hpl
theorem ou(hc:dZ X (.type T) r)(hg:Gl X x)(hm:X.mg x=none)(hv:To x=some (.type T))(ha:PA X (e::es) t)(hn:x≠"__name__" := by decide)(hdb:(x==("__debug__" : Str))=false:=by decide)(he:s_ (e::es) X.env=(false,eval e X.env)::s_ es X.env:=by rfl)(hpl:(backTo pos (s_ es X.env)).any (·.1)=false:=by rfl):PE X (.Call (.Name x p) (e::es) [] pos) (sO r t):=by intro pz s σ H Q I h;refine UE (mQ I hg hm hv ?_ hn hdb);exact R4 (aR (ha pos pz s σ H _ I h) fun us s1 ⟨vs,H1,I1,r1,q1⟩=>hc pz s1 σ H1 vs us Q I1 r1 q1) he hpl
end
end L2
namespace HT
open PySem PyProof.Rows
def bP:List Int->List Int->Bool
|[],[]=>false
|[],_::_=>true
|_::_,[]=>false
|x::xs,y::ys=>if x=y then bP xs ys else decide (x<y)
theorem dE(x y:Int)(xs ys:List Int):bP (x::xs) (y::ys)=if x=y then bP xs ys else decide (x<y):=rfl
theorem PP:bP [] []=false:=rfl
theorem PZ(y:Int)(ys:List Int):bP [] (y::ys)=true:=rfl
theorem PY(x:Int)(xs:List Int):bP (x::xs) []=false:=rfl
theorem MM(A:Q9)(s:k_)(a:Int)(t:Tok)(c:Int)(u:Tok):∃e,V5 A s (.int a t) (.int c u) e/\(e=true↔a=c):=⟨(a==c),UF a t c u,by simp⟩
theorem eZ(A:Q9)(s:k_)(a:Int)(t:Tok)(c:Int)(u:Tok)(prog:J_)(w:QN)(E:c_->k_->Prop)(Q:c_->k_->Prop)(h:Q (.bool (decide (a<c))) s):I_ (QE prog w) A (richCompare .Lt (.int a t) (.int c u)) Q E s:=(PyProof.Rows.lt_int h:I_ (QE prog w) A (QY .Lt (.int a t) (.int c u)) Q E s)
section
open PySem.SeqAt
open PySem.AutoSeq1 (wpAny_loadPart')
open PySem.MeetsSeq PySem.MeetsSeq2 PySem.MeetsSeq3
theorem PM(l b:Addr)(items items2:Array c_)(n n2:Nat)(dd dd2:Option Addr)(sl sl2:Array (Option c_))(ns ms:List Int)(hi:S2 items.toList ns)(hj:S2 items2.toList ms) :
  X4 (Uc.«tuple.__lt__» ⟨[.ref l,.ref b],[]⟩)
   (fun _ R s=>s.heap.get? l=some { cls:=.type "tuple",dict:=dd,data:=.seq items n,slots:=sl }/\s.heap.get? b=some { cls:=.type "tuple",dict:=dd2,data:=.seq items2 n2,slots:=sl2 } /\R (.ok (.ret (.bool (bP ns ms)))) s):=
 .of_wp fun prog w A R s h=>by
  obtain⟨hp,g,d,tk,os⟩:=s;obtain⟨hl,hb,h⟩:=h;have f2:=AutoSeq1.sub_tuple_tuple;have z1:items.size=ns.length:=by rw[<-hi.length];simp
  have z2:items2.size=ms.length:=by rw[<-hj.length];simp
  wp_walk using RZ hl,RZ hb,wpAny_forIn_list _ (fun rest b s'=>b.1=none/\s'=⟨hp,g,d,tk,os⟩/\∃(vs ws:List c_)(ns' ms':List Int),rest=vs.zip ws /\S2 vs ns'/\S2 ws ms'/\ns'.length+items2.size=ms'.length+items.size/\R (.ok (.ret (.bool (bP ns' ms')))) ⟨hp,g,d,tk,os⟩) _
  case turn=>
   rintro⟨y,x⟩ rest b s' ⟨hb',rfl,vs,ws,ns',ms',hz,hvi,hwi,hlen,hR⟩
   cases hvi with
  |nil=>rw[List.zip_nil_left]at hz;cases hz
  |cons a t hvi'=>cases hwi with
   |nil=>rw[List.zip_nil_right]at hz;cases hz
   |cons c u hwi'=>
     rw[V6]at hz;injection hz with hyx hrest
     injection hyx with hy hx
     subst hy hx;rw[dE]at hR;simp only[Rl]at hlen;obtain⟨e,he,hiff⟩:=MM A.in1 ⟨hp,g,d,tk,os⟩ a t c u;refine f_ (he prog w _ _ ?_);cases e with
    |true=>
      rw[if_pos (hiff.mp rfl)]at hR
      wp_walk
      exact⟨rfl,rfl,_,_,_,_,hrest,hvi',hwi',by omega,hR⟩
    |false=>
      rw[if_neg (fun q=>absurd (hiff.mpr q) g_)]at hR;have hri:=eZ A.in1 ⟨hp,g,d,tk,os⟩ a t c u prog w
      wp_walk using hri
      exact⟨_,rfl,by simpa using hR⟩
  case fin=>
   rintro⟨b1,b2⟩ s' ⟨hb',rfl,vs,ws,ns',ms',hz,hvi,hwi,hlen,hR⟩
   simp only at hb';subst hb';have hv:bP ns' ms'=decide (items.size<items2.size):=by cases hvi with
   |nil=>cases hwi with
    |nil=>simp only[TC]at hlen;rw[PP];exact(decide_eq_false (by omega)).symm
    |cons c u hw=>simp only[TC,Rl]at hlen;rw[PZ];exact(decide_eq_true (by omega)).symm
   |cons a t hv=>cases hwi with
    |nil=>simp only[TC,Rl]at hlen;rw[PY];exact(decide_eq_false (by omega)).symm
    |cons c u hw=>rw[V6]at hz;cases hz
   rw[hv]at hR
   wp_walk
   exact⟨_,rfl,by simpa[Wt]using hR⟩
  case h=>exact⟨rfl,rfl,items.toList,items2.toList,ns,ms,rfl,hi,hj,by omega,h⟩
end
section
variable{prog:J_}{w:QN}{A:Q9}{E:c_->k_->Prop}{s:k_}
theorem gp{l b:Addr}{items items2:Array c_}{ns ms:List Int}{Q:c_->k_->Prop}(hl:WJ s.heap l items)(hb:WJ s.heap b items2)(hi:S2 items.toList ns)(hj:S2 items2.toList ms)(hu:A.units<SM)(h:Q (.bool (bP ns ms)) s):I_ (QE prog w) A (QY .Lt (.ref l) (.ref b)) Q E s:=by
 obtain⟨⟨cls,dd,data,sl⟩,ho,hc,n,hd⟩:=id hl;obtain⟨⟨cls2,dd2,data2,sl2⟩,ho2,hc2,n2,hd2⟩:=id hb;simp only at hc hd hc2 hd2;subst hc hd hc2 hd2;exact richCompare_meets_room (op:=.Lt) ⟨_,ho,rfl⟩ ⟨_,ho2,rfl⟩ PySem.F.slot_tuple_lt PySem.F.entry_tuple_lt (PySem.F.args_tuple_lt_2 _ _) (PM l b items items2 n n2 dd dd2 sl sl2 ns ms hi hj)
  ⟨ho,ho2,show Value.bool (bP ns ms)≠Value.notImplemented/\Q (.bool (bP ns ms)) s from⟨(fun x=>nomatch x),h⟩⟩ hu
theorem kh{t b:Addr}{vs ws:List c_}{Q:c_->k_->Prop}(ht:WJ s.heap t vs.toArray)(hb:WJ s.heap b ws.toArray)(hv:vs≠[])(h1:ws=[]->Q (.ref t) s)(h2:ws≠[]->Q (.ref s.heap.objs.size) { s with heap:=s.heap.push { cls:=.type "tuple",data:=.seq (vs++ws).toArray } })(hsz:vs.length+ws.length<=sizeLine):I_ (QE prog w) A (Sb .Add (.ref t) (.ref b)) Q E s:=by
 obtain⟨⟨cls,dd,data,sl⟩,ho,hc,n,hd⟩:=id ht;obtain⟨⟨cls2,dd2,data2,sl2⟩,ho2,hc2,n2,hd2⟩:=id hb;simp only at hc hd hc2 hd2;subst hc hd hc2 hd2;have e:vs.toArray++ws.toArray=(vs++ws).toArray:=by simp
 by_cases hw:ws=[]
 .exact Vk ⟨_,ho,rfl⟩ ⟨_,ho2,rfl⟩ U8 VY TW TQ (Tw _ _)
   (tuple_addW1 t b vs.toArray ws.toArray n n2 dd dd2 sl sl2 (by simpa using hv) (by simp[hw])) ⟨ho,ho2,h1 hw⟩
 .refine Vk ⟨_,ho,rfl⟩ ⟨_,ho2,rfl⟩ U8 VY TW TQ (Tw _ _)
   (tuple_addW2 t b vs.toArray ws.toArray n n2 dd dd2 sl sl2 (by simpa using hv) (by simpa using hw) (by rw[o_,o_];exact hsz)) ⟨ho,ho2,?_⟩
  rw[e];exact h2 hw
def sIx(n d:Nat):Option Int->Nat
|none=>d
|some v=>if v<0 then(v+(n:Int)).toNat else min v.toNat n
theorem eY(n d:Nat):sIx n d none=d:=rfl
theorem gB(n d k:Nat):sIx n d (some (k:Int))=min k n:=by show(if (k:Int)<0 then((k:Int)+(n:Int)).toNat else min (k:Int).toNat n)=min k n;rw[if_neg (by omega),Ry]
theorem JT(n d:Nat)(hd:d<=n)(o:Option Int):sIx n d o<=n:=by cases o with
|none=>exact hd
|some v=>
  show(if v<0 then(v+(n:Int)).toNat else min v.toNat n)<=n;by_cases hv:v<0
  .rw[if_pos hv];omega
  .rw[if_neg hv];exact Nat.min_le_right _ _
theorem Cd(v:Int)(n d:Nat):(if v<0 then max (v+(n:Int)) 0 else min v (n:Int))=((sIx n d (some v):Nat):Int):=by
 show(if v<0 then max (v+(n:Int)) 0 else min v (n:Int))=(((if v<0 then(v+(n:Int)).toNat else min v.toNat n):Nat):Int)
 by_cases hv:v<0
 .simp only[if_pos hv];omega
 .simp only[if_neg hv];omega
theorem OM(lo hi:Option Int)(n:Nat):Ts lo hi 1 (n:Int)=(((sIx n 0 lo:Nat):Int),((sIx n n hi:Nat):Int)):=by
 have h1:¬ ((1:Int)<0):=by omega
 unfold Ts;simp only[h1,if_false];refine W6 ?_ ?_
 .cases lo with
 |none=>rfl
 |some v=>exact Cd v n 0
 .cases hi with
 |none=>rfl
 |some v=>exact Cd v n n
theorem O1(i j:Nat):Si (i:Int) (j:Int) 1=j-i:=by
 unfold Si;have h1:(1:Int)>0:=by omega
 simp only[h1,if_true,Int.ediv_one];split <;> omega
theorem Fp{v:c_}{o:Option Int}{Q:Option Int->k_->Prop}(p:V7 v o)(h:Q o s):I_ (QE prog w) A (WO v) Q E s:=by cases p with
|none=>exact slicePart_none h
|int i t=>exact slicePart_int h
theorem Qa{sl:Addr}{vl vu:c_}{lo hi:Option Int}{n:Nat}{Q:Int×Int×Nat->k_->Prop}(hs:s.heap.IsSliceOf sl vl vu .none)(pl:V7 vl lo)(pu:V7 vu hi)(h:Q (((sIx n 0 lo:Nat):Int),1,sIx n n hi-sIx n 0 lo) s):I_ (QE prog w) A (UG (.ref sl) (pure (n:Int))) Q E s:=by obtain⟨os,hos,hcs,hds⟩:=id hs;unfold UG Xu;refine f_ (f_ (Ro hos hds (x:=vl) rfl (f_ (Ro hos hds (x:=vu) rfl (f_ (Ro hos hds (x:=.none) rfl (E_ ?_)))))));refine f_ (slicePart_none ?_);show I_ _ _ (if ((1:Int)==0)=true then _ else _) _ _ s;rw[if_neg (by decide)];refine f_ (Fp pl (f_ (Fp pu (f_ (E_ ?_)))));show I_ _ _ (match Ts lo hi 1 (n:Int)with|(lo,hi)=>pure (lo,(1:Int),Si lo hi 1)) _ _ s;rw[OM lo hi n];show I_ _ _ (pure (((sIx n 0 lo:Nat):Int),(1:Int),Si ((sIx n 0 lo:Nat):Int) ((sIx n n hi:Nat):Int) 1)) _ _ s;rw[O1];exact E_ h
theorem Ny(xs:Array c_)(i k:Nat):((a_ k).filterMap fun(m:Nat)=>xs[((i:Int)+(m:Int)*1).toNat]?).toArray=((xs.toList.drop i).take k).toArray:=by
 have e:(fun(m:Nat)=>xs[((i:Int)+(m:Int)*1).toNat]?)=fun m=>xs[i+m]?:=by
  funext m;have:((i:Int)+(m:Int)*1).toNat=i+m:=by omega
  rw[this]
 rw[e];have:=pick_run xs i k;rw[List.filterMap_map]at this;have e2:((fun x=>xs[x]?)∘fun x=>i+x)=fun m=>xs[i+m]?:=rfl;rw[e2]at this;rw[this]
theorem cP{t sl:Addr}{items:Array c_}{vl vu:c_}{lo hi:Option Int}{Q:c_->k_->Prop}(ht:WJ s.heap t items)(hs:s.heap.IsSliceOf sl vl vu .none)(pl:V7 vl lo)(pu:V7 vu hi)(hw:¬ (sIx items.size 0 lo=0/\sIx items.size items.size hi=items.size))(h:Q (.ref s.heap.objs.size) { s with heap:=s.heap.push { cls:=.type "tuple",data:=.seq ((items.toList.drop (sIx items.size 0 lo)).take (sIx items.size items.size hi-sIx items.size 0 lo)).toArray } })(hsz:items.size<=sizeLine):I_ (QE prog w) A (Wi (.ref t) (.ref sl)) Q E s:=by
 have htake:sizeOk (.seq ((items.toList.drop (sIx items.size 0 lo)).take (sIx items.size items.size hi-sIx items.size 0 lo)).toArray):=by show((items.toList.drop (sIx items.size 0 lo)).take (sIx items.size items.size hi-sIx items.size 0 lo)).toArray.size<=sizeLine;rw[o_,Rf,Q5,RC];omega
 have hj:sIx items.size items.size hi<=items.size:=JT _ _ (q_ _) hi;obtain⟨os,hos,hcs,hds⟩:=id hs;have hTs:s.TypeIs (.ref sl) "slice" := ⟨os,hos,hcs⟩
 unfold Wi
 try with_reducible refine Ta ?_
 first|refine f_ (E_ ?_)|skip
 refine f_ (wpAny_sequenceKey ht.typeIs (by decide) ?_);refine f_ (RU (name:=Ut "__getitem__") ht.typeIs R1
  (SU R1 ht.typeIs entry_tuple_getitem ?_ (args_tuple_getitem _ _)))
 show I_ _ _ (W7 (.ref t) >>= _) _ _ s;refine f_ (tupleItemsOf_ ht ?_);refine f_ (wpAny_typeOf hTs ?_);rw[if_pos (by decide)];refine f_ (Qa hs pl pu ?_);have hno:¬ ((((sIx items.size 0 lo:Nat):Int)==0&&(1:Int)==1&&(sIx items.size items.size hi-sIx items.size 0 lo)==items.size)=true):=by intro q;rw[QG,QG]at q;have q1:((sIx items.size 0 lo:Nat):Int)=0:=Sn q.1.1;have q2:sIx items.size items.size hi-sIx items.size 0 lo=items.size:=Sn q.2;exact hw ⟨by omega,by omega⟩
 show I_ _ _ (if (((sIx items.size 0 lo:Nat):Int)==0&&(1:Int)==1&&(sIx items.size items.size hi-sIx items.size 0 lo)==items.size)=true then _ else _) _ _ s;rw[if_neg hno,Ny]
 first
  |exact f_ (m:=SD _) (RX (E_ ⟨_,rfl,E_ h⟩) htake)
  |exact f_ (m:=SD _) (RX (f_ (E_ (E_ ⟨_,rfl,E_ h⟩))) htake)
  |exact f_ (f_ (m:=SD _) (RX (E_ (E_ ⟨_,rfl,E_ h⟩)) htake))
  |exact f_ (f_ (m:=SD _) (RX (E_ ⟨_,rfl,E_ h⟩) htake))
end
end HT
namespace L2
open PySem PySem.Spec PyProof.Rows
abbrev TO:=St->Hp->(Option Int->Hp->Prop)->Prop
def PO(X:Cx)(e:Option Expr)(t:TO):Prop:=∀(pz:List (Addr×Obj))(s:k_)(σ:St)(H:Hp)(Q:Option Int->Hp->Prop),Inv X pz σ H s->t σ H Q ->I_ (QE X.prog X.w) X.A (evalPart e X.env) (fun u s'=>∃o H',Inv X pz σ H' s'/\V7 u o/\Q o H') X.xe s
def La:TO:=fun _ H Q=>Q none H
def HP(t:TE):TO:=fun σ H Q=>t σ H fun x H1=>∃i,x=.int i/\Q (some i) H1
theorem Fw{ns:List Int}:∀{us:List c_},aq (ns.map V.int) us->S2 us ns:=by induction ns with
|nil=>intro us r;rw[R5]at r;cases r;exact .nil
|cons n ns ih=>intro us r;rw[u_]at r;cases r with
 |cons r1 r2=>obtain⟨t,e⟩:=r1;subst e;exact .cons n t (ih r2)
section
variable{X:Cx}{e:Expr}{te:TE}{lo hi:Option Expr}{tl th:TO}{pos p2:Pos}
theorem Ly:PO X none La:=by intro pz s σ H Q I h;rw[evalPart_none];exact E_ ⟨none,H,I,.none,h⟩
theorem Lz(h:PE X e te):PO X (some e) (HP te):=by intro pz s σ H Q I hw;rw[evalPart_some];refine aR (h pz s σ H _ I hw) fun u s1 ⟨x,H1,I1,r1,q1⟩=>?_;obtain⟨i,rfl,q⟩:=q1;obtain⟨t,rfl⟩:=r1;exact⟨some i,H1,I1,.int i t,q⟩
def lh(X:Cx)(r:V->Option Int->Option Int->Hp->VK->Prop):Prop:=∀(pz:List (Addr×Obj))(s:k_)(σ:St)(H:Hp)(x:V)(v vl vu:c_)(lo hi:Option Int)(sl:Addr)(Q:VK),Inv X pz σ H s->av x v->s.heap.IsSliceOf sl vl vu .none->V7 vl lo->V7 vu hi->r x lo hi H Q ->∃T id,typeLookup (.type T) "__getitem__" = pure (some (.builtin id))/\s.TypeIs v T/\I_ (QE X.prog X.w) X.A (Wi v (.ref sl)) (EP X pz σ Q) X.xe s
theorem lh.or{r r':V->Option Int->Option Int->Hp->VK->Prop}(h:lh X r)(h':lh X r'):lh X (fun x lo hi H Q=>r x lo hi H Q\/r' x lo hi H Q):=by
 intro pz s σ H x v vl vu lo hi sl Q I rx hs pl pu q;rcases q with q|q
 .exact h pz s σ H x v vl vu lo hi sl Q I rx hs pl pu q
 .exact h' pz s σ H x v vl vu lo hi sl Q I rx hs pl pu q
def Ql(r:V->Option Int->Option Int->Hp->VK->Prop)(te:TE)(tl th:TO):TE:=fun σ H Q=>te σ H fun x H1=>tl σ H1 fun l H2=>th σ H2 fun u H3=>r x l u H3 Q
theorem Nw{r:V->Option Int->Option Int->Hp->VK->Prop}(hr:lh X r)(he:PE X e te)(hl:PO X lo tl)(hu:PO X hi th):PE X (.Subscript e (.Slice lo hi none p2) pos) (Ql r te tl th):=by intro pz s σ H Q I h;refine Subscript_ (aR (he pz s σ H _ I h) fun v s1 ⟨x,H1,I1,r1,q1⟩=>?_);refine wpAny_Slice (aR (hl pz s1 σ H1 _ I1 q1) fun vl s2 ⟨l,H2,I2,pl,q2⟩=>aR (hu pz s2 σ H2 _ I2 q2) fun vu s3 ⟨u,H3,I3,pu,q3⟩=>?_);rw[evalPart_none];refine E_ ?_;have I4:Inv X pz σ H3 { s3 with heap:=s3.heap.push { cls:=.type "slice",data:=.fields #[vl,vu,.none] } }:=I3.kept (t':=s3.toks) fun b ob q=>h_ _ q;obtain⟨T,id,hT,ht,hg⟩:=hr pz { s3 with heap:=s3.heap.push { cls:=.type "slice",data:=.fields #[vl,vu,.none] } } σ H3 x v vl vu l u s3.heap.objs.size Q I4 r1 (Heap.IsSliceOf.new ..) pl pu q3;show I_ (QE X.prog X.w) X.A (subscriptTail e (.Slice lo hi none p2) v (.ref s3.heap.objs.size)) (EP X pz σ Q) X.xe { s3 with heap:=s3.heap.push { cls:=.type "slice",data:=.fields #[vl,vu,.none] } };exact tail_any (ops:=[.ref s3.heap.objs.size,v]) ht hT hg (by with_unfolding_all rfl)
def gT(xs:List V)(lo hi:Option Int):List V:=(xs.drop (HT.sIx xs.length 0 lo)).take (HT.sIx xs.length xs.length hi-HT.sIx xs.length 0 lo)
theorem Fb(xs:List V)(lo hi:Option Int):(gT xs lo hi).length<=xs.length:=by unfold gT;rw[Rf,Q5];omega
def zP(K:W.Frag):V->Option Int->Option Int->Hp->VK->Prop:=fun x lo hi H Q=>∃a xs,x=.ref a/\ce K H a xs /\¬ (HT.sIx xs.length 0 lo=0/\HT.sIx xs.length xs.length hi=xs.length)/\∀p,H p=none->Q (.ref p) (upd H p (.tup (gT xs lo hi)))
theorem Jw:lh X (zP X.K):=by
 intro pz s σ H x v vl vu lo hi sl Q I rx hs pl pu h;obtain⟨a,xs,rfl,hx,hw,q⟩:=h;cases rx;obtain⟨its,r,ht,hz⟩:=I.tuple hx;have hlen:its.toArray.size=xs.length:=by rw[o_];exact r.length.symm
 refine⟨"tuple",_,R1.lookup,ht.typeIs,?_⟩;refine HT.cP ht hs pl pu (by rw[hlen];exact hw) ?_ (by rw[hlen];exact hz);rw[hlen];refine⟨.ref s.heap.objs.size,_,I.laid (t':=s.toks) (o:=.tup (gT xs lo hi)) (fun b ob q=>h_ _ q) (q_ _) ?_,rfl,q _ (I.hok.fresh (q_ _))⟩;exact⟨O_ (Fb xs lo hi) hz,_,(r.drop (HT.sIx xs.length 0 lo)).take (HT.sIx xs.length xs.length hi-HT.sIx xs.length 0 lo),X5 _ _,_,B_ _ rfl,rfl⟩
def tK(K:W.Frag):R2:=fun x y H Q=>∃a b xs ys,x=.ref a/\y=.ref b/\ce K H a xs/\ce K H b ys/\xs≠[]/\xs.length+ys.length<=sizeLine /\(ys=[]->Q (.ref a) H)/\(ys≠[]->∀p,H p=none->Q (.ref p) (upd H p (.tup (xs++ys))))
theorem aq.nil_iff{xs:List V}{us:List c_}(r:aq xs us):us=[]↔xs=[]:=by cases r with
|nil=>simp
|cons _ _=>simp
theorem Dh:a9 X (Sb .Add) (tK X.K):=by intro pz s σ H x y v u Q I rx ry h;obtain⟨a,b,xs,ys,rfl,rfl,ha,hb,hx,hz,q1,q2⟩:=h;cases rx;cases ry;obtain⟨its,r1,p1,_⟩:=I.tuple ha;obtain⟨its2,r2,p2,_⟩:=I.tuple hb;refine HT.kh p1 p2 (fun z=>hx (r1.nil_iff.mp z)) (fun z=>⟨.ref a,H,I,rfl,q1 (r2.nil_iff.mp z)⟩) (fun z=>?_) (by rw[<-r1.length,<-r2.length];exact hz);refine⟨.ref s.heap.objs.size,_,I.laid (t':=s.toks) (o:=.tup (xs++ys)) (fun b ob q=>h_ _ q) (q_ _) ?_,rfl,q2 (fun w=>z (r2.nil_iff.mpr w)) _ (I.hok.fresh (q_ _))⟩;exact⟨by rw[L_];exact hz,_,r1.append r2,X5 _ _,_,B_ _ rfl,rfl⟩
end
def gC(n:Nat)(i:Int):Option Nat:=if 0<=i then(if i<n then some i.toNat else none)else if-(n:Int)<=i then some (i+n).toNat else none
def eS{α:Type}(xs:List α)(i:Int):Option α:=(gC xs.length i).bind fun j=>xs[j]?
theorem CG{n:Nat}{i:Int}{j:Nat}(h:gC n i=some j):seqIndex? i n=some j/\j<n/\-(n:Int)<=i/\i<n:=by
 unfold gC at h;by_cases h0:0<=i
 .rw[if_pos h0]at h;by_cases h1:i<n
  .rw[if_pos h1]at h;have e:i.toNat=j:=K_ h;exact⟨by rw[WK h0 h1,e],by omega,by omega,h1⟩
  .rw[if_neg h1]at h;cases h
 .rw[if_neg h0]at h;by_cases h1 : -(n:Int)<=i
  .rw[if_pos h1]at h;have e:(i+n).toNat=j:=K_ h;exact⟨by rw[seqIndex_neg (by omega) h1,e],by omega,h1,by omega⟩
  .rw[if_neg h1]at h;cases h
theorem uZ{α:Type}{xs:List α}{i:Int}{v:α}(h:eS xs i=some v):∃j,seqIndex? i xs.length=some j/\xs[j]? = some v/\j<xs.length/\-(xs.length:Int)<=i/\i<xs.length:=by unfold eS at h;cases e:gC xs.length i with
|none=>rw[e]at h;cases h
|some j=>rw[e]at h;obtain⟨h1,h2,h3,h4⟩:=CG e;exact⟨j,h1,h,h2,h3,h4⟩
def uY(b:Expr):Prop:=∀o i,subscripted b false o i=operate [o,i] (Wi o i)
def i8(X:Cx)(r:R2):Prop:=∀(value slice:Expr)(pz:List (Addr×Obj))(s:k_)(σ:St)(H:Hp)(x y:V)(v u:c_)(Q:VK),Inv X pz σ H s->av x v->av y u->r x y H Q ->subscripted slice false v u=operate [v,u] (Wi v u)->I_ (QE X.prog X.w) X.A (subscriptTail value slice v u) (EP X pz σ Q) X.xe s
def jw(X:Cx)(id:String)(r:V->List V->Hp->VK->Prop):Prop:=∀(pz:List (Addr×Obj))(s:k_)(σ:St)(H:Hp)(x:V)(xs:List V)(v:c_)(us:List c_)(Q:VK),Inv X pz σ H s->av x v->aq xs us->r x xs H Q ->I_ (QE X.prog X.w) X.A (call (.builtin id) (v::us)) (EP X pz σ Q) X.xe s
section
variable{X:Cx}{a b:Expr}{ta tb:TE}{pos:Pos}
theorem i8.or{r r':R2}(h:i8 X r)(h':i8 X r'):i8 X (fun x y H Q=>r x y H Q\/r' x y H Q):=by
 intro value slice pz s σ H x y v u Q I rx ry q hs;rcases q with q|q
 .exact h value slice pz s σ H x y v u Q I rx ry q hs
 .exact h' value slice pz s σ H x y v u Q I rx ry q hs
theorem Ie{r:R2}(hr:i8 X r)(ha:PE X a ta)(hb:PE X b tb)(hs:uY b):PE X (.Subscript a b pos) (o4 r ta tb):=by intro pz s σ H Q I h;exact Subscript_ (ma ha hb I h fun v u s2 x y H2 I2 rx ry q=>hr a b pz s2 σ H2 x y v u Q I2 rx ry q (hs _ _))
def o9(K:W.Frag):R2:=fun x y H Q=>∃p xs i v,x=.ref p/\y=.int i/\aY K H p xs/\eS xs i=some v/\Q v H
def o7(K:W.Frag):R2:=fun x y H Q=>∃p xs i v,x=.ref p/\y=.int i/\ce K H p xs/\eS xs i=some v/\Q v H
def o8:R2:=fun x y H Q=>∃z i c,x=.str z/\y=.int i/\z.length<=sizeLine/\eS z.cps.toList i=some c/\Q (.str ⟨#[c]⟩) H
theorem J8:i8 X (o9 X.K):=by
 intro value slice pz s σ H x y v u Q I rx ry h hs;obtain⟨p,xs,i,z,rfl,rfl,hq,he,q⟩:=h;cases rx;obtain⟨t,rfl⟩:=ry;obtain⟨its,r,pl,hz⟩:=I.list hq;obtain⟨j,h1,h2,h3,h4,h5⟩:=uZ he;obtain⟨w,ew,rw'⟩:=r.get h2;have hl:=r.length;have hn:=mK;have fin:EP X pz σ Q w s:=⟨z,H,I,rw',q⟩
 by_cases h0:0<=i
 .have hj:i.toNat=j:=by rw[WK h0 h5]at h1;exact K_ h1
  exact item_listR pl.isList h0 (by omega) (by rw[hj];simpa using ew) fin hs
 .have hj:(i+(its.toArray.size:Int)).toNat=j:=by rw[seqIndex_neg (by omega) h4]at h1;rw[o_,<-hl];exact K_ h1
  exact Vl (x:=w) pl.isList.typeIs Wj.lookup
   (wpAny_getItem_list_neg (Q:=fun r s'=>r=w/\EP X pz σ Q r s') pl.isList (by omega) (by rw[o_] <;> omega) (by omega) (by rw[hj];simpa using ew) ⟨rfl,fin⟩) hs
theorem IZ:i8 X (o7 X.K):=by
 intro value slice pz s σ H x y v u Q I rx ry h hs;obtain⟨p,xs,i,z,rfl,rfl,hq,he,q⟩:=h;cases rx;obtain⟨t,rfl⟩:=ry;obtain⟨its,r,pl,hz⟩:=I.tuple hq;obtain⟨j,h1,h2,h3,h4,h5⟩:=uZ he;obtain⟨w,ew,rw'⟩:=r.get h2;have hl:=r.length;have hn:=mK;have fin:EP X pz σ Q w s:=⟨z,H,I,rw',q⟩
 exact Vl (x:=w) pl.typeIs R1.lookup
  (getItem_tuple (j:=j) (Q:=fun r s'=>r=w/\EP X pz σ Q r s') pl (by omega) (by omega) (by rw[o_,<-hl];exact h1) (by simpa using ew) ⟨rfl,fin⟩) hs
theorem IY:i8 X o8:=by
 intro value slice pz s σ H x y v u Q I rx ry h hs;obtain⟨z,i,c,rfl,rfl,hz,he,q⟩:=h;obtain⟨t,rfl⟩:=rx;obtain⟨t',rfl⟩:=ry;obtain⟨j,h1,h2,h3,h4,h5⟩:=uZ he;have hl:z.cps.toList.length=z.length:=by simp[Str.length]
 rw[hl]at h1 h4 h5;have hn:=mK;exact tail_any (typeIs_str s z t) slot_str_getitem.lookup (getItem_str (c:=c) (by have e1:decide (i < -(2^63:Int))=false:=decide_eq_false (by omega);have e2:decide (i>=2^63)=false:=decide_eq_false (by omega);rw[e1,e2,Bool.or_false]) (by rw[h1];simpa using h2) ⟨.str ⟨#[c]⟩,H,I.tok _,⟨_,rfl⟩,q⟩) hs
def zS(K:W.Frag):R2:=fun x y H Q=>o9 K x y H Q\/o7 K x y H Q\/o8 x y H Q
theorem IX:i8 X (zS X.K):=J8.or (IZ.or IY)
theorem OW(its:List c_)(n j:Nat)(u:c_):SF (·.setIfInBounds j u) { cls:=.type "list",data:=.seq its.toArray n }={ cls:=.type "list",data:=.seq (its.set j u).toArray n }:=by simp[SF]
theorem Inv.lst{pz:List (Addr×Obj)}{σ:St}{H:Hp}{s:k_}{p:Addr}{xs:List V}(I:Inv X pz σ H s)(h:H p=some (.lst xs)):∃(its:List c_)(n:Nat),aq xs its/\s.heap.get? p=some { cls:=.type "list",data:=.seq its.toArray n }/\xs.length<=sizeLine:=by obtain⟨z,its,n,r,e⟩:=I.hok p _ h;exact⟨its,n,r,e,z⟩
theorem Inv.lstUpd{pz:List (Addr×Obj)}{σ:St}{H:Hp}{s:k_}{p:Addr}{xs ys:List V}{its its':List c_}{n n':Nat}{f:Obj->Obj}(I:Inv X pz σ H s)(h:H p=some (.lst xs))(ho:s.heap.get? p=some { cls:=.type "list",data:=.seq its.toArray n })(hf:f { cls:=.type "list",data:=.seq its.toArray n }={ cls:=.type "list",data:=.seq its'.toArray n' })(r:aq ys its')(hz:ys.length<=sizeLine)(t:Nat):Inv X pz σ (upd H p (.lst ys)) { s with heap:=s.heap.update p f,toks:=t }:=by
 have e:(s.heap.update p f).get? p=some { cls:=.type "list",data:=.seq its'.toArray n' }:=by rw[VE f ho (by rw[hf] <;> rfl),hf]
 refine I.write (x:=p) (e:=p) (by rw[h];trivial) (.inl rfl) (fun b u hb q=>(Vm _ _ (S0 hb)).trans q) ⟨_,e⟩ ?_;exact⟨hz,its',n',r,e⟩
def A3:V->V->V->Hp->(Hp->Prop)->Prop:=fun o i v H Q=>∃p xs k j,o=.ref p/\i=.int k/\H p=some (.lst xs)/\gC xs.length k=some j/\Q (upd H p (.lst (xs.set j v)))
theorem No:fE X A3:=by
 intro pz s σ H o i v ov iv u Q I ro ri rv h;obtain⟨p,xs,k,j,rfl,rfl,hp,hj,q⟩:=h;cases ro;obtain⟨t,rfl⟩:=ri;obtain⟨its,n,r,ho,hz⟩:=I.lst hp;obtain⟨h1,h2,h3,h4⟩:=CG hj;have hl:=r.length;have hn:=mK;have I':Inv X pz σ (upd H p (.lst (xs.set j v))) { s with heap:=s.heap.update p (SF (·.setIfInBounds j u)) }:=I.lstUpd hp ho (OW its n j u) (r.set rv j) (by rw[WP];exact hz) s.toks;by_cases h0:0<=k
 .have hk:k.toNat=j:=by rw[WK h0 h4]at h1;exact K_ h1
  exact W.ki_setAt ho h0 (by omega) (by rw[o_,<-hl];exact h4) (by rw[hk];exact⟨_,I',q⟩)
 .have hk:(k+(its.toArray.size:Int)).toNat=j:=by rw[seqIndex_neg (by omega) h3]at h1;rw[o_,<-hl];exact K_ h1
  exact W.ki_setBack ho (by omega) (by rw[o_,<-hl];exact h3) (by omega) (by rw[hk];exact⟨_,I',q⟩)
theorem Pw(lo hi:Option Int)(n:Nat):(TR lo hi none n).1=((HT.sIx n 0 lo:Nat):Int)/\(TR lo hi none n).2.1=((HT.sIx n n hi:Nat):Int)/\(TR lo hi none n).2.2=1:=by
 refine⟨?_,?_,rfl⟩
 .cases lo with
 |none=>simp[TR,HT.sIx]
 |some i=>
   simp only[TR,HT.sIx,SV,show(1:Int)>0 by decide,if_true];by_cases h:i<0
   .simp only[h,if_true] <;> omega
   .simp only[h,if_false] <;> omega
 .cases hi with
 |none=>simp[TR,HT.sIx]
 |some i=>
   simp only[TR,HT.sIx,SV,show(1:Int)>0 by decide,if_true];by_cases h:i<0
   .simp only[h,if_true] <;> omega
   .simp only[h,if_false] <;> omega
theorem PL(its:List c_)(lo hi:Option Int):slicePick its.toArray lo hi none=((its.drop (HT.sIx its.length 0 lo)).take (HT.sIx its.length its.length hi-HT.sIx its.length 0 lo)).toArray:=by obtain⟨h1,h2,h3⟩:=Pw lo hi its.toArray.size;unfold slicePick;rw[h1,h2,h3];simp only[sliceRange_one,pick_run,o_] <;> rfl
def zQ(K:W.Frag):V->Option Int->Option Int->Hp->VK->Prop:=fun x lo hi H Q=>∃a xs,x=.ref a/\aY K H a xs/\∀p,H p=none->Q (.ref p) (upd H p (.lst (gT xs lo hi)))
theorem K8:lh X (zQ X.K):=by intro pz s σ H x v vl vu lo hi sl Q I rx hs pl pu h;obtain⟨a,xs,rfl,hx,q⟩:=h;cases rx;obtain⟨its,r,ht,hz⟩:=I.list hx;have hlen:=r.length;refine⟨"list",_,Wj.lookup,ht.isList.typeIs,?_⟩;refine wpAny_getItem_list_slice ht.isList hs pl pu .none (by simp) ?_ (by rw[o_] <;> omega);rw[PL,<-hlen];refine⟨.ref s.heap.objs.size,_,I.laid (t':=s.toks) (o:=.lst (gT xs lo hi)) (fun b ob q=>h_ _ q) (q_ _) ?_,rfl,q _ (I.hok.fresh (q_ _))⟩;exact⟨O_ (Fb xs lo hi) hz,_,0,(r.drop (HT.sIx xs.length 0 lo)).take (HT.sIx xs.length xs.length hi-HT.sIx xs.length 0 lo),B_ _ rfl⟩
def d9:V->Bool
|.non=>true
|.bl _=>true
|.int _=>true
|.str _=>true
|_=>false
def fw:V->V->Bool
|.non,.non=>true
|.bl a,.bl b=>a==b
|.bl a,.int b=>(if a then 1 else 0)==b
|.int a,.bl b=>a==(if b then 1 else 0)
|.int a,.int b=>a==b
|.str a,.str b=>a==b
|_,_=>false
theorem Hz{A:Q9}{s:k_}{y x:V}{u v:c_}(ry:av y u)(rx:av x v)(fy:d9 y=true)(fx:d9 x=true):V5 A s u v (fw y x):=by cases y with
|non=>cases ry;cases x with
 |non=>cases rx;exact WQ _
 |bl b=>cases rx;exact SeqAt.EqAt.none_bool b
 |int b=>obtain⟨t,rfl⟩:=rx;exact SeqAt.EqAt.none_int b t
 |str b=>obtain⟨t,rfl⟩:=rx;exact SeqAt.EqAt.none_str b t
 |_=>exact absurd (show false=true from fx) g_
|bl a=>cases ry;cases x with
 |non=>cases rx;exact SeqAt.EqAt.bool_none a
 |bl b=>cases rx;exact SeqAt.EqAt.bool_bool a b
 |int b=>obtain⟨t,rfl⟩:=rx;exact SeqAt.EqAt.bool_int a b t
 |str b=>obtain⟨t,rfl⟩:=rx;exact SeqAt.EqAt.bool_str a b t
 |_=>exact absurd (show false=true from fx) g_
|int a=>obtain⟨t',rfl⟩:=ry;cases x with
 |non=>cases rx;exact SeqAt.EqAt.int_none a t'
 |bl b=>cases rx;exact SeqAt.EqAt.int_bool a t' b
 |int b=>obtain⟨t,rfl⟩:=rx;exact UF a t' b t
 |str b=>obtain⟨t,rfl⟩:=rx;exact V2 a t' b t
 |_=>exact absurd (show false=true from fx) g_
|str a=>obtain⟨t',rfl⟩:=ry;cases x with
 |non=>cases rx;exact SeqAt.EqAt.str_none a t'
 |bl b=>cases rx;exact SeqAt.EqAt.str_bool a t' b
 |int b=>obtain⟨t,rfl⟩:=rx;exact V3 a t' b t
 |str b=>obtain⟨t,rfl⟩:=rx;exact SeqAt.EqAt.str_str a t' b t
 |_=>exact absurd (show false=true from fx) g_
|_=>exact absurd (show false=true from fy) g_
def c8(x:V)(u:c_):Bool:=match u with
|.none=>fw .non x
|.bool b=>fw (.bl b) x
|.int i _=>fw (.int i) x
|.str z _=>fw (.str z) x
|_=>false
theorem nQ{x y:V}{u:c_}(r:av y u)(f:d9 y=true):c8 x u=fw y x:=by cases y with
|non=>cases r;rfl
|bl b=>cases r;rfl
|int i=>obtain⟨t,rfl⟩:=r;rfl
|str z=>obtain⟨t,rfl⟩:=r;rfl
|_=>exact absurd (show false=true from f) g_
theorem nY{x:V}:∀{xs:List V}{us:List c_},aq xs us->xs.all d9=true->us.any (c8 x)=xs.any fun y=>fw y x
|_,_,.nil,_=>rfl
|y::xs,u::us,.cons r t,f=>by rw[R9,QG]at f;rw[Tb,Tb,nQ r f.1,nY t f.2]
theorem lF{A:Q9}{s:k_}{x:V}{v:c_}(rx:av x v)(fx:d9 x=true):∀{xs:List V}{us:List c_},aq xs us->xs.all d9=true->∀u∈us,V5 A s u v (c8 x u)
|_,_,.nil,_=>fun u hu=>by cases hu
|y::xs,u::us,.cons r t,f=>fun u' hu=>by
  rw[R9,QG]at f;rcases w_.mp hu with rfl|hu
  .rw[nQ r f.1];exact Hz r rx f.1 fx
  .exact lF rx fx t f.2 u' hu
def sQ(x:V)(xs:List V):Bool:=xs.any fun y=>fw y x
def zT(K:W.Frag)(neg:Bool):R2:=fun x y H Q=>∃p xs,y=.ref p/\(aY K H p xs\/ce K H p xs)/\d9 x=true/\xs.all d9=true/\Q (.bl (if neg then ! sQ x xs else sQ x xs)) H
theorem Om:a9 X (QY .In) (zT X.K false):=by
 intro pz s σ H x y v u Q I rx ry h;obtain⟨p,xs,rfl,hq,fx,fs,q⟩:=h;cases ry;rcases hq with hq|hq
 .obtain⟨its,r,pl,hz⟩:=I.list hq;refine SeqAt.in_listAt (c8 x) pl.isList (fun w hw=>lF rx fx r fs w (by simpa using hw)) ⟨.bl _,H,I,rfl,?_⟩;rw[show its.toArray.any (c8 x)=its.any (c8 x)by simp,nY r fs];exact q
 .obtain⟨its,r,pl,hz⟩:=I.tuple hq;refine SeqAt.in_tupleAt (c8 x) pl (fun w hw=>lF rx fx r fs w (by simpa using hw)) ⟨.bl _,H,I,rfl,?_⟩;rw[show its.toArray.any (c8 x)=its.any (c8 x)by simp,nY r fs];exact q
theorem Py:a9 X (QY .NotIn) (zT X.K true):=by
 intro pz s σ H x y v u Q I rx ry h;obtain⟨p,xs,rfl,hq,fx,fs,q⟩:=h;cases ry;rcases hq with hq|hq
 .obtain⟨its,r,pl,hz⟩:=I.list hq;refine SeqAt.notIn_listAt (c8 x) pl.isList (fun w hw=>lF rx fx r fs w (by simpa using hw)) ⟨.bl _,H,I,rfl,?_⟩;rw[show its.toArray.any (c8 x)=its.any (c8 x)by simp,nY r fs];exact q
 .obtain⟨its,r,pl,hz⟩:=I.tuple hq;refine SeqAt.notIn_tupleAt (c8 x) pl (fun w hw=>lF rx fx r fs w (by simpa using hw)) ⟨.bl _,H,I,rfl,?_⟩;rw[show its.toArray.any (c8 x)=its.any (c8 x)by simp,nY r fs];exact q
theorem Pz:a9 X (QY .NotIn) (fun x y H Q=>∃i j,x=.str i/\y=.str j/\Q (.bl (!(!(RQ j i 0 j.length 1).isEmpty))) H):=by intro pz s σ H x y v u Q I rx ry h;obtain⟨i,j,rfl,rfl,q⟩:=h;obtain⟨t,rfl⟩:=rx;obtain⟨t',rfl⟩:=ry;exact notIn_str ⟨.bl _,H,I,rfl,q⟩
theorem dZ.or{f:c_}{r r':List V->Hp->VK->Prop}(h:dZ X f r)(h':dZ X f r'):dZ X f (fun xs H Q=>r xs H Q\/r' xs H Q):=by
 intro pz s σ H xs us Q I rs q;rcases q with q|q
 .exact h pz s σ H xs us Q I rs q
 .exact h' pz s σ H xs us Q I rs q
theorem Pc:dZ X (.type "list") (fun xs H Q=>∃p ys,xs=[.ref p]/\(aY X.K H p ys\/ce X.K H p ys)/\∀l,H l=none->Q (.ref l) (upd H l (.lst ys))):=by
 intro pz s σ H xs us Q I r h;obtain⟨p,ys,rfl,hq,q⟩:=h;obtain⟨u,rfl,rx⟩:=fG r;cases rx;have fin:∀(its:List c_),aq ys its->ys.length<=sizeLine->∀(h':Heap)(c':Nat),(∀b o',s.heap.get? b=some o'->h'.get? b=some o') ->h'.get? s.heap.objs.size=some { cls:=.type "list",dict:=none,data:=.seq its.toArray c',slots:=#[] }->EP X pz σ Q (.ref s.heap.objs.size) { s with heap:=h' }:=fun its r' hz h' c' kp e=>⟨.ref s.heap.objs.size,_,I.laid (t':=s.toks) kp (q_ _) (show bG X.prog X.w _ h' _ (.lst ys)from⟨hz,its,c',r',e⟩),rfl,q _ (I.hok.fresh (q_ _))⟩
 rcases hq with hq|hq
 .obtain⟨its,r',pl,hz⟩:=I.list hq;have hlen:=r'.length;obtain⟨o,ho,hc,n,hd⟩:=pl.isList;exact call_list_seq p (.inl rfl) ho hc hd (fun h' c' kp e=>fin its r' hz h' c' kp e) (by simp only[o_] <;> omega)
 .obtain⟨its,r',pl,hz⟩:=I.tuple hq;have hlen:=r'.length;obtain⟨o,ho,hc,n,hd⟩:=pl;exact call_list_seq p (.inr rfl) ho hc hd (fun h' c' kp e=>fin its r' hz h' c' kp e) (by simp only[o_] <;> omega)
theorem PN:dZ X (.type "tuple") (fun xs H Q=>∃p ys,xs=[.ref p]/\((aY X.K H p ys/\∀l,H l=none->Q (.ref l) (upd H l (.tup ys)))\/(ce X.K H p ys/\Q (.ref p) H))):=by
 intro pz s σ H xs us Q I r h;obtain⟨p,ys,rfl,h⟩:=h;obtain⟨u,rfl,rx⟩:=fG r;cases rx;rcases h with⟨hq,q⟩|⟨hq,q⟩
 .obtain⟨its,r',pl,hz⟩:=I.list hq;have hlen:=r'.length;refine call_tuple_list pl.isList (fun h' kp=>?_) (by simp only[o_] <;> omega);have I1:Inv X pz σ H { s with heap:=h' }:=I.kept (t':=s.toks) kp;have I2:Inv X pz σ (upd H h'.objs.size (.tup ys)) { s with heap:=h'.push { cls:=.type "tuple",data:=.seq its.toArray } }:=I1.laid (t':=s.toks) (fun b o e=>h_ _ e) (q_ _) (show bG X.prog X.w _ _ _ (.tup ys)from⟨hz,its,r',X5 _ _,_,B_ _ rfl,rfl⟩);exact⟨.ref h'.objs.size,_,I2,rfl,q _ (I1.hok.fresh (q_ _))⟩
 .obtain⟨its,r',pl,hz⟩:=I.tuple hq;exact call_tuple_same pl ⟨.ref p,H,I,rfl,q⟩
def nq(K:W.Frag)(T:String)(x:V)(H:Hp):Prop:=match x with
|.str _=>T = "str"
|.int _=>T = "int"
| .ref p=>(T = "list"/\∃xs,aY K H p xs)\/(T = "tuple"/\((∃o,K.lookup p=some o/\o.cls=.type "tuple"/\o.dict=none)\/∃xs,Rd H p (.tup xs))) \/
   (T = "dict"/\((∃kvs,Rd H p (.dK kvs))\/∃kvs,H p=some (.dT kvs)))\/(T = "set"/\∃S n,H p=some (.set S n))
|_=>False
theorem BA{pz:List (Addr×Obj)}{σ:St}{H:Hp}{s:k_}{T:String}{x:V}{v:c_}(I:Inv X pz σ H s)(r:av x v)(ty:nq X.K T x H):s.TypeIs v T/\∀a,v=.ref a->∃ob,s.heap.get? a=some ob/\ob.dict=none:=by cases x with
|str z=>obtain⟨t,rfl⟩:=r;cases(show T = "str" from ty);exact⟨typeIs_str s z t,fun _ e=>nomatch e⟩
|int i=>obtain⟨t,rfl⟩:=r;cases(show T = "int" from ty);exact⟨W8 s i t,fun _ e=>nomatch e⟩
|ref p=>
  cases r;rcases ty with⟨rfl,xs,hq⟩|⟨rfl,⟨o,hk,hc,hd⟩|⟨xs,hq⟩⟩|⟨rfl,hk⟩|⟨rfl,S,n,hk⟩
  .obtain⟨its,_,pl,_⟩:=I.list hq;refine⟨pl.isList.typeIs,fun a e=>?_⟩;cases e;obtain⟨o,n,e,c,hd,_⟩:=pl;exact⟨o,e,hd⟩
  .refine⟨⟨o,I.kIn p o hk,hc⟩,fun a e=>?_⟩;cases e;exact⟨o,I.kIn _ o hk,hd⟩
  .obtain⟨_,its,_,⟨o,ho,hc,_⟩,o2,ho2,hd2⟩:=hq.ok I.hok;refine⟨⟨o,ho,hc⟩,fun a e=>?_⟩;cases e;exact⟨o2,ho2,hd2⟩
  .have z:∃o,s.heap.get? p=some o/\o.ExactDict:=by
    rcases hk with⟨kvs,hk⟩|⟨kvs,hk⟩
    .obtain⟨_,_,_,_,o,_,_,e,ex,_⟩:=(show bG X.prog X.w H s.heap p (.dK kvs)from hk.ok I.hok)
     exact⟨o,e,ex⟩
    .obtain⟨_,_,_,_,o,_,_,e,ex,_⟩:=I.hok p _ hk;exact⟨o,e,ex⟩
   obtain⟨o,e,ex⟩:=z;refine⟨⟨o,e,ex.1⟩,fun a e2=>?_⟩;cases e2;exact⟨o,e,ex.2.1⟩
  .obtain⟨o,_,_,_,e,ex,_⟩:=I.hok p _ hk;refine⟨⟨o,e,ex.1⟩,fun a e2=>?_⟩;cases e2;exact⟨o,e,ex.2.1⟩
|_=>exact S1 ty
def zK(K:W.Frag)(T:String)(r:V->List V->Hp->VK->Prop)(to:TE):TE:=fun σ H Q=>to σ H fun x H1=>nq K T x H1/\r x [] H1 Q
def Qu(K:W.Frag)(T:String)(r:V->List V->Hp->VK->Prop)(to:TE)(t:TA):TE:=fun σ H Q=>to σ H fun x H1=>nq K T x H1/\t σ H1 fun xs H2=>r x xs H2 Q
variable{o e:Expr}{es:List Expr}{to:TE}{t:TA}{name:Str}{apos cpos:Pos}{T id:String}{r:V->List V->Hp->VK->Prop}
theorem IK(pa:V8 T)(slot:Slot T name id)(hty:typeOf (.builtin id)=pure (.type "method_descriptor"))(hm:jw X id r)(ho:PE X o to)(hbase:Tc o name X.env (eval o X.env)=eval o X.env:=by rfl)(hline:(apos.endLine==cpos.line)=true:=by rfl):PE X (.Call (.Attribute o name apos) [] [] cpos) (zK X.K T r to):=by intro pz s σ H Q I h;refine wpAny_Call_method0_late hbase hline (aR (ho pz s σ H _ I h) fun v s1 ⟨x,H1,I1,r1,ty,q1⟩=>?_);obtain⟨h1,h2⟩:=BA I1 r1 ty;exact⟨T,id,pa,slot,hty,h1,h2,Vn rfl (PySem.evalArgs_none (hm pz s1 σ H1 x [] v [] Q I1 r1 .nil q1))⟩
theorem AF(pa:V8 T)(slot:Slot T name id)(hty:typeOf (.builtin id)=pure (.type "method_descriptor"))(hm:jw X id r)(ho:PE X o to)(ha:PA X (e::es) t)(hbase:Tc o name X.env (eval o X.env)=eval o X.env:=by rfl)(hfew:((backTo cpos (s_ (e::es) X.env)).all (fun x=>! x.1)&&(Wk cpos (UT [] X.env)).all (fun x=>x.1.isSome)
   && decide ((e::es).length+([]:List Ub).length+(if ([]:List Ub).isEmpty then 0 else 1)<30))=true:=by rfl)(hline:(apos.endLine==cpos.line)=true:=by rfl)(hs:s_ (e::es) X.env=(false,eval e X.env)::s_ es X.env:=by rfl)(hplain:(backTo cpos (s_ es X.env)).any (·.1)=false:=by rfl):PE X (.Call (.Attribute o name apos) (e::es) [] cpos) (Qu X.K T r to t):=by intro pz s σ H Q I h;refine wpAny_Call_method_late hbase hfew hline rfl (aR (ho pz s σ H _ I h) fun v s1 ⟨x,H1,I1,r1,ty,q1⟩=>?_);obtain⟨h1,h2⟩:=BA I1 r1 ty;refine⟨T,id,pa,slot,hty,h1,h2,?_⟩;have hA:=ha cpos pz s1 σ H1 _ I1 q1;rw[hs]at hA ⊢;refine Vn (by show(false || (backTo cpos (s_ es X.env)).any (·.1))=false;rw[hplain] <;> rfl) (Calls.evalArgs_plain ?_);exact aR hA fun us s2 ⟨vs,H2,I2,r2,q2⟩=>hm pz s2 σ H2 x vs v us Q I2 r1 r2 q2
end
def GB(X:Cx)(id:String)(r:V->List V->Hp->VK->Prop):Prop:=∀(pz:List (Addr×Obj))(s:k_)(σ:St)(H:Hp)(x:V)(xs:List V)(v:c_)(us:List c_)(Q:VK),Inv X pz σ H s->av x v->aq xs us->r x xs H Q ->I_ (QE X.prog X.w) X.A (call (.builtin id) (v::us)) (EP X pz σ Q) X.xe s
theorem aq.one{x:V}{us:List c_}(h:aq [x] us):∃u,us=[u]/\av x u:=by cases h with
|cons r t=>cases t;exact⟨_,rfl,r⟩
theorem aq.eraseIdx:∀{xs:List V}{us:List c_}(i:Nat),aq xs us->aq (xs.eraseIdx i) (us.eraseIdx i)
|_,_,_,.nil=>.nil
|_,_,0,.cons _ t=>t
|_,_,i+1,.cons r t=>.cons r (aq.eraseIdx i t)
theorem aq.rep{xs:List V}{us:List c_}(h:aq xs us):∀k:Nat,aq (F_ k xs).flatten (F_ k us).flatten
|0=>.nil
|k+1=>by rw[RE,RE,Ra,Ra];exact aq.append h (aq.rep h k)
theorem EQ(its:List c_):∀(k:Nat)(acc:List c_),W9 (fun x1 x2=>x1++x2) acc.toArray (F_ k its.toArray)=(acc++(F_ k its).flatten).toArray
|0,acc=>by simp
|k+1,acc=>by
  have e:acc.toArray++its.toArray=(acc++its).toArray:=by simp
  have e2:(acc++its)++(F_ k its).flatten=acc++(F_ (k+1) its).flatten:=by rw[RE,Ra,Q2]
  rw[<-e2,<-EQ its k (acc++its),<-e,RE,So]
section
variable{X:Cx}{pz:List (Addr×Obj)}{σ:St}{H:Hp}{s:k_}{l b:Addr}{xs ys zs:List V}
theorem Inv.lset{its its':List c_}{n:Nat}{f:Array c_->Array c_}{t':Nat}(I:Inv X pz σ H s)(hH:H l=some (.lst xs))(e:s.heap.get? l=some { cls:=.type "list",data:=.seq its.toArray n })(hf:f its.toArray=its'.toArray)(hv:aq ys its')(hz:ys.length<=sizeLine):Inv X pz σ (upd H l (.lst ys)) { s with heap:=s.heap.update l (SF f),toks:=t' }:=by have q:=PySem.IsL.update e f;rw[hf]at q;refine I.write (x:=l) (e:=l) (by rw[hH];exact trivial) (.inl rfl) (fun b' u hb hu=>(Vm s.heap (SF f) (S0 hb)).trans hu) ⟨_,q⟩ ?_;exact⟨hz,its',_,hv,q⟩
theorem Inv.lnew{its:List c_}{t':Nat}(I:Inv X pz σ H s)(hv:aq ys its)(hz:ys.length<=sizeLine):Inv X pz σ (upd H s.heap.objs.size (.lst ys)) { s with heap:=s.heap.push { cls:=.type "list",data:=.seq its.toArray },toks:=t' }:=I.laid (fun _ _ q=>h_ _ q) (q_ _) ⟨hz,its,0,hv,B_ _ rfl⟩
theorem Inv.fresh(I:Inv X pz σ H s):H s.heap.objs.size=none:=I.hok.fresh (q_ _)
theorem Inv.lstM(I:Inv X pz σ H s)(hH:H l=some (.lst xs)):xs.length<=sizeLine/\∃(its:List c_)(n:Nat),aq xs its/\xs.length=its.length/\s.heap.get? l=some { cls:=.type "list",data:=.seq its.toArray n }:=by obtain⟨z,its,n,r,e⟩:=I.hok l _ hH;exact⟨z,its,n,r,r.length,e⟩
theorem DM{n:Nat}(h:n<=sizeLine):SH n=false:=by unfold SH;exact decide_eq_false (by omega)
end
section
variable{X:Cx}
def C5:V->List V->Hp->VK->Prop:=fun x vs H Q=>∃l xs y,x=.ref l/\vs=[y]/\H l=some (.lst xs)/\xs.length<sizeLine/\Q .non (upd H l (.lst (xs++[y])))
theorem jP:GB X "list.append" C5:=by intro pz s σ H x vs v us Q I rx rv h;obtain⟨l,xs,y,rfl,rfl,hH,hz,q⟩:=h;cases rx;obtain⟨u,rfl,ru⟩:=rv.one;obtain⟨z,its,n,r,hl,e⟩:=I.lstM hH;refine TH F.slot_list_append ⟨_,e,rfl⟩ F.entry_list_append (F.args_list_append_2 _ _) (PySem.list_append l its.toArray n u (by rw[o_];omega)) ⟨e,?_⟩;refine⟨.non,_,I.lset (its':=its++[u]) hH e (by simp) (r.append (.cons ru .nil)) ?_,rfl,q⟩;rw[L_,Te];omega
def zR:R2:=fun x y H Q=>∃l k xs,x=.ref l/\y=.int k/\H l=some (.lst xs)/\-(2^63)<=k/\k<2^63/\xs.length*k.toNat<=sizeLine /\∀p,H p=none->Q (.ref p) (upd H p (.lst (F_ k.toNat xs).flatten))
theorem Kb{α:Type}(xs:List α)(k:Nat):(F_ k xs).flatten.length=k*xs.length:=by induction k with
|zero=>simp
|succ k ih=>rw[RE,Ra,L_,ih,Nat.succ_mul,Vo]
theorem IH:a9 X (Sb .Mult) zR:=by
 intro pz s σ H x y v u Q I rx ry h;obtain⟨l,k,xs,rfl,rfl,hH,h1,h2,hz,q⟩:=h;cases rx;obtain⟨t,rfl⟩:=ry;obtain⟨z,its,n,r,hl,e⟩:=I.lstM hH;have hlen:its.toArray.size*k.toNat<=sizeLine:=by rw[o_,<-hl];exact hz
 have hcap:¬ its.toArray.size*k.toNat>(2^63-1)/8:=by
  have:(sizeLine:Nat)<=(2^63-1)/8:=by decide
  omega
 have hfit:¬ (! UH k)=true:=by rw[fitsIndex_both h1 h2];exact g_
 have hlong:¬ SH (its.toArray.size*k.toNat)=true:=by rw[DM hlen];exact g_
 have hnew:W9 (fun x1 x2=>x1++x2) #[] (F_ (if its.toArray.isEmpty=true then 0 else k.toNat) its.toArray)=(F_ k.toNat its).flatten.toArray:=by
  have f0:∀m:Nat,W9 (fun x1 x2=>x1++x2) #[] (F_ m its.toArray)=(F_ m its).flatten.toArray:=fun m=>by have:=EQ its m [];rw[Sr]at this;exact this
  rw[f0];cases its with
 |nil=>simp
 |cons a r'=>rw[if_neg (by simp)]
 refine wpAny_binaryOp_repeat_ref (T := "list") (U := "int") (by decide) ⟨_,e,rfl⟩ (fun s'=>W8 s' k t) noFill_list_mul F.fills_int_mul F.slot_int_rmul repeat_list F.slot_int_index.lookup
  (TH F.slot_int_rmul (W8 s k t) F.entry_int_rmul (F.args_int_rmul_2 _ _) (int___rmul___int_list k t l its.toArray n)
   ⟨e,rfl,⟨_,e,rfl⟩,TH F.slot_list_mul ⟨_,e,rfl⟩ F.entry_list_mul (F.args_list_mul_2 _ _) (AutoListH.list___mul___list_int_3 l its.toArray n k t hfit hcap hlong) ⟨e,?_⟩⟩)
 rw[hnew];exact⟨.ref _,_,I.lnew (t':=s.toks) (r.rep k.toNat) (by rw[Kb,Wl];exact hz),rfl,q _ I.fresh⟩
end
section
variable{κ:Type}[DecidableEq κ]
def cv(kvs:List (κ×V))(k:κ):Option V:=(kvs.find? fun kv=>decide (kv.1=k)).map (·.2)
def bW(kvs:List (κ×V))(k:κ)(v:V):List (κ×V):=if (kvs.any fun kv=>decide (kv.1=k))=true then kvs.map (fun kv=>if kv.1=k then(kv.1,v)else kv)else kvs++[(k,v)]
def An(kvs:List (κ×V))(k:κ):List (κ×V):=kvs.filter fun kv=>decide (kv.1≠k)
theorem qV{p:κ×V}{r:List (κ×V)}{k:κ}(e:p.1=k):cv (p::r) k=some p.2:=by simp[cv,QK,e]
theorem oq{p:κ×V}{r:List (κ×V)}{k:κ}(e:¬ p.1=k):cv (p::r) k=cv r k:=by simp[cv,QK,e]
theorem Dz(k:κ):∀kvs:List (κ×V),(kvs.any fun kv=>decide (kv.1=k))=(cv kvs k).isSome
|[]=>rfl
|p::r=>by
  rw[Tb];by_cases e:p.1=k
  .simp only[qV e,decide_eq_true e,Bool.true_or,Option.isSome_some]
  .rw[oq e,decide_eq_false e,Bool.false_or];exact Dz k r
theorem yf(kvs:List (κ×V))(k:κ)(v:V):(bW kvs k v).length<=kvs.length+1:=by
 unfold bW;split
 .rw[m_];omega
 .rw[L_,Rl,TC];omega
theorem du.isSome_eq{o:Option V}{u:Option c_}(r:du o u):o.isSome=u.isSome:=by cases o with
|none=>cases u with
 |none=>rfl
 |some _=>exact(show False from r).elim
|some _=>cases u with
 |none=>exact(show False from r).elim
 |some _=>rfl
theorem du.getD{o:Option V}{u:Option c_}{d:V}{d':c_}(r:du o u)(rd:av d d'):av (o.getD d) (u.getD d'):=by cases o with
|none=>cases u with
 |none=>exact rd
 |some _=>exact(show False from r).elim
|some _=>cases u with
 |none=>exact(show False from r).elim
 |some _=>exact r
theorem KV.val{kvs:List (κ×V)}{vs:List (κ×c_)}(r:KV kvs vs)(k:κ):du (cv kvs k) (VU vs k):=by
 unfold KV at r
 induction r with
|nil=>exact True.intro
|@cons p q ps qs h t ih=>
  obtain⟨h1,h2⟩:=h;by_cases e:p.1=k
  .have e':q.1=k:=h1.symm.trans e;have b:VU (q::qs) k=some q.2:=by simp[VU,QK,e']
   rw[qV e,b];exact h2
  .have e':¬ q.1=k:=fun z=>e (h1.trans z);have b:VU (q::qs) k=VU qs k:=by simp[VU,QK,e']
   rw[oq e,b];exact ih
theorem KV.any{kvs:List (κ×V)}{vs:List (κ×c_)}(r:KV kvs vs)(k:κ):(kvs.any fun kv=>decide (kv.1=k))=vs.any fun kv=>decide (kv.1=k):=by
 unfold KV at r
 induction r with
|nil=>rfl
|cons h t ih=>rw[Tb,Tb,ih,h.1]
theorem KV.repl{kvs:List (κ×V)}{vs:List (κ×c_)}(r:KV kvs vs)(k:κ){y:V}{u:c_}(ry:av y u):KV (kvs.map fun kv=>if kv.1=k then(kv.1,y)else kv) (vs.map fun kv=>if kv.1=k then(kv.1,u)else kv):=by
 unfold KV at r ⊢
 induction r with
|nil=>exact .nil
|@cons p q ps qs h t ih=>
  rw[u_,u_];refine .cons ?_ ih;obtain⟨h1,h2⟩:=h;by_cases e:p.1=k
  .rw[if_pos e,if_pos (h1.symm.trans e)];exact⟨h1,ry⟩
  .rw[if_neg e,if_neg (fun z=>e (h1.trans z))];exact⟨h1,h2⟩
theorem KV.put{kvs:List (κ×V)}{vs:List (κ×c_)}(r:KV kvs vs)(k:κ){y:V}{u:c_}(ry:av y u):KV (bW kvs k y) (stored vs k u):=by
 unfold bW stored;rw[r.any k];by_cases e:(vs.any fun kv=>decide (kv.1=k))=true
 .rw[if_pos e,if_pos e];exact r.repl k ry
 .rw[if_neg e,if_neg e];exact Paired.snoc r ⟨rfl,ry⟩
theorem KV.drop{kvs:List (κ×V)}{vs:List (κ×c_)}(r:KV kvs vs)(k:κ):KV (An kvs k) (without vs k):=by
 unfold KV at r ⊢;unfold An without
 induction r with
|nil=>exact .nil
|@cons p q ps qs h t ih=>
  obtain⟨h1,h2⟩:=h;rw[QQ,QQ];by_cases e:p.1=k
  .have a:¬ decide (p.1≠k)=true:=by simp[e]
   have b:¬ decide (q.1≠k)=true:=by simp[h1.symm.trans e]
   rw[if_neg a,if_neg b];exact ih
  .have e':¬ q.1=k:=fun z=>e (h1.trans z);have a:decide (p.1≠k)=true:=by simp[e]
   have b:decide (q.1≠k)=true:=by simp[e']
   rw[if_pos a,if_pos b];exact .cons ⟨h1,h2⟩ ih
theorem KV.length{kvs:List (κ×V)}{vs:List (κ×c_)}(r:KV kvs vs):kvs.length=vs.length:=Paired.length r
end
theorem nC{P:J_}{w:QN}{k:aA}{u:c_}(r:av (kV k) u):(en P w).is k u=true:=by cases k with
|inl i=>obtain⟨t,e⟩:=(show ∃t,u=Value.int i t from r);subst e;exact Pg P w i t
|inr x=>obtain⟨t,e⟩:=(show ∃t,u=Value.str x t from r);subst e;exact Ph P w x t
theorem Ez{P:J_}{w:QN}:∀{ks:List aA}{us:List c_},aq (ks.map kV) us->ItemsAre (en P w) ks us
|[],_,r=>by rw[R5]at r;cases r;exact .nil
|k::ks,_,r=>by rw[u_]at r;cases r with
 |cons h t=>exact .cons (nC h) (Ez t)
abbrev KT(H:Hp):List (List aA×V)->List (List aA×Addr×c_)->Prop:=Paired fun p q=>p.1=q.1/\H q.2.1=some (.tup (p.1.map kV))/\av p.2 q.2.2
theorem KT.val{H:Hp}{kvs:List (List aA×V)}{xs:List (List aA×Addr×c_)}(r:KT H kvs xs)(k:List aA):du (cv kvs k) ((WL xs k).map (·.2)):=by induction r with
|nil=>exact True.intro
|@cons p q ps qs h t ih=>
  obtain⟨h1,_,h2⟩:=h;by_cases e:p.1=k
  .have e':q.1=k:=h1.symm.trans e;have b:WL (q::qs) k=some q.2:=by simp[WL,QK,e']
   rw[qV e,b];exact h2
  .have e':¬ q.1=k:=fun z=>e (h1.trans z);have b:WL (q::qs) k=WL qs k:=by simp[WL,QK,e']
   rw[oq e,b];exact ih
theorem KT.repl{H:Hp}{kvs:List (List aA×V)}{xs:List (List aA×Addr×c_)}(r:KT H kvs xs)(k:List aA){y:V}{u:c_}(ry:av y u):KT H (kvs.map fun kv=>if kv.1=k then(kv.1,y)else kv) (xs.map (putAt k u)):=by induction r with
|nil=>exact .nil
|@cons p q ps qs h t ih=>
  rw[u_,u_];refine .cons ?_ ih;obtain⟨h1,h2,h3⟩:=h;unfold putAt;by_cases e:p.1=k
  .rw[if_pos e,if_pos (h1.symm.trans e)];exact⟨h1,h2,ry⟩
  .rw[if_neg e,if_neg (fun z=>e (h1.trans z))];exact⟨h1,h2,h3⟩
theorem KT.put{H:Hp}{kvs:List (List aA×V)}{xs:List (List aA×Addr×c_)}(r:KT H kvs xs)(k:List aA){b:Addr}{y:V}{u:c_}(hb:H b=some (.tup (k.map kV)))(ry:av y u):KT H (bW kvs k y) (storedH xs k b u):=by
 have e:(kvs.any fun kv=>decide (kv.1=k))=(WL xs k).isSome:=by rw[Dz,(r.val k).isSome_eq,UU]
 unfold bW storedH;rw[e];by_cases q:(WL xs k).isSome=true
 .rw[if_pos q,if_pos q];exact r.repl k ry
 .rw[if_neg q,if_neg q];exact Paired.snoc r ⟨rfl,hb,ry⟩
theorem KT.keeps{H H':Hp}{kvs:List (List aA×V)}{xs:List (List aA×Addr×c_)}(r:KT H kvs xs)(ht:∀b ys,H b=some (.tup ys)->H' b=some (.tup ys)):KT H' kvs xs:=Paired.mapP r fun _ _ z=>⟨z.1,ht _ _ z.2.1,z.2.2⟩
section
variable{P:J_}{w:QN}{H:Hp}{h:Heap}{a:Addr}
theorem A4{u:HO}(ok:cC P w H h)(e:Rd H a u):bG P w H h a u:=e.ok ok
theorem mC{kvs:List (aA×V)}(ok:cC P w H h)(e:Rd H a (.dK kvs)):kvs.length<=sizeLine/\(a==Sx)=false/\∃vs,KV kvs vs/\h.DictOf (en P w) a vs:=show bG P w H h a (.dK kvs)from A4 ok e
theorem Hk{kvs:List (aA×V)}(ok:cC P w H h)(e:H a=some (.dK kvs)):kvs.length<=sizeLine/\(a==Sx)=false/\∃vs,KV kvs vs/\h.DictOf (en P w) a vs:=mC ok (.inl e)
theorem nN{ks:List aA}(ok:cC P w H h)(e:H a=some (.tup (ks.map kV))):(VR (en P w)).is h ks a:=by
 obtain⟨_,its,r,⟨o,h1,h2,n,h3⟩,_⟩:=(show bG P w H h a (.tup (ks.map kV))from ok a _ e)
 exact⟨o,its.toArray,n,h1,h2,h3,by simpa using Ez r⟩
theorem nE{kvs:List (List aA×V)}(ok:cC P w H h)(e:Rd H a (.dT kvs)):kvs.length<=sizeLine/\(a==Sx)=false /\∃xs,KT H kvs xs/\h.DictOfH (VR (en P w)) a xs:=by
 obtain⟨z,y,xs,r,o,es,ep,h1,h2,h3,h4,h5⟩:=(show bG P w H h a (.dT kvs)from A4 ok e)
 refine⟨z,y,xs,r,o,es,ep,h1,h2,h3,h4,fun x hx=>?_,h5⟩;have all:∀{l:List (List aA×V)}{m:List (List aA×Addr×c_)},KT H l m->∀x∈m,(VR (en P w)).is h x.1 x.2.1:=by
  intro l m q
  induction q with
 |nil=>intro x hx;exact nomatch hx
 |@cons p q ps qs hq t ih=>
   intro x hx;rcases w_.mp hx with e|hx
   .subst e;exact nN ok (by rw[<-hq.1];exact hq.2.1)
   .exact ih x hx
 exact all r x hx
theorem Hl{kvs:List (List aA×V)}(ok:cC P w H h)(e:H a=some (.dT kvs)):kvs.length<=sizeLine/\(a==Sx)=false /\∃xs,KT H kvs xs/\h.DictOfH (VR (en P w)) a xs:=nE ok (.inl e)
end
def dY(H:Hp)(a:Addr)(y:V)(r:Option V):Prop:=(∃kvs k,Rd H a (.dK kvs)/\y=kV k/\r=cv kvs k)\/∃kvs k b,Rd H a (.dT kvs)/\y=.ref b/\H b=some (.tup (k.map kV))/\r=cv kvs k
def gw(H:Hp)(a:Addr)(y v:V)(H':Hp):Prop:=(∃kvs k,H a=some (.dK kvs)/\y=kV k/\kvs.length<sizeLine/\H'=upd H a (.dK (bW kvs k v))) \/∃kvs k b,H a=some (.dT kvs)/\y=.ref b/\H b=some (.tup (k.map kV))/\kvs.length<sizeLine/\H'=upd H a (.dT (bW kvs k v))
theorem dY.k{H:Hp}{a:Addr}{kvs:List (aA×V)}{k:aA}(e:H a=some (.dK kvs)):dY H a (kV k) (cv kvs k):=.inl ⟨kvs,k,.inl e,rfl,rfl⟩
theorem dY.t{H:Hp}{a b:Addr}{kvs:List (List aA×V)}{k:List aA}(e:H a=some (.dT kvs))(eb:H b=some (.tup (k.map kV))):dY H a (.ref b) (cv kvs k):=.inr ⟨kvs,k,b,.inl e,rfl,eb,rfl⟩
theorem gw.k{H:Hp}{a:Addr}{kvs:List (aA×V)}{k:aA}{v:V}(e:H a=some (.dK kvs))(hl:kvs.length<sizeLine):gw H a (kV k) v (upd H a (.dK (bW kvs k v))):=.inl ⟨kvs,k,e,rfl,hl,rfl⟩
theorem gw.t{H:Hp}{a b:Addr}{kvs:List (List aA×V)}{k:List aA}{v:V}(e:H a=some (.dT kvs))(eb:H b=some (.tup (k.map kV)))(hl:kvs.length<sizeLine):gw H a (.ref b) v (upd H a (.dT (bW kvs k v))):=.inr ⟨kvs,k,b,e,rfl,eb,hl,rfl⟩
section
variable{X:Cx}{pz:List (Addr×Obj)}{σ:St}{H:Hp}{s:k_}{a:Addr}{y v:V}{u r:c_}{o:Option V}{A:Q9}{E:c_->k_->Prop}
theorem Inv.big(I:Inv X pz σ H s):Sx<s.heap.objs.size:=by have h:Ri<s.heap.objs.size:=(I.mod.glob.keeps I.bk).lt;exact Nat.lt_trans (by decide) h
theorem NY{Q:c_->k_->Prop}(hu:A.units+1<SM)(I:Inv X pz σ H s)(g:dY H a y (some v))(ry:av y u)(h:∀w' s',Inv X pz σ H s'->av v w'->Q w' s'):I_ (QE X.prog X.w) A (Wi (.ref a) u) Q E s:=by
 rcases g with⟨kvs,k,e,ey,l⟩|⟨kvs,k,b,e,ey,eb,l⟩
 .subst ey;obtain⟨z,hd,vs,rel,dd⟩:=mC I.hok e;obtain⟨w',hw,rw'⟩:=du.some_of (v:=v) (o:=VU vs k) (by rw[l];exact rel.val k);exact wpAny_getItem_of (nC ry) dd.mapOf hw (h w' _ (I.tok _) rw')
 .subst ey;cases(show u=Value.ref b from ry);obtain⟨z,hd,xs,rel,dd⟩:=nE I.hok e;obtain⟨w',hw,rw'⟩:=du.some_of (v:=v) (o:=(WL xs k).map (·.2)) (by rw[l];exact rel.val k);obtain⟨p,hp,hp2⟩:=Option.map_eq_some_iff.mp hw;refine wpAny_getItem_heap (TJ hu) (nN I.hok eb) dd hp ?_;rw[hp2];exact h w' _ (I.tok _) rw'
theorem z7{Q:c_->k_->Prop}(hu:A.units+1<SM)(I:Inv X pz σ H s)(g:dY H a y o)(ry:av y u)(h:∀s',Inv X pz σ H s'->Q (.bool o.isSome) s'):I_ (QE X.prog X.w) A (QY .In u (.ref a)) Q E s:=by
 rcases g with⟨kvs,k,e,ey,l⟩|⟨kvs,k,b,e,ey,eb,l⟩
 .subst ey;obtain⟨z,hd,vs,rel,dd⟩:=mC I.hok e;refine wpAny_in_of (nC ry) hd dd.mapOf ?_;rw[<-(rel.val k).isSome_eq,<-l];exact h _ (I.tok _)
 .subst ey;cases(show u=Value.ref b from ry);obtain⟨z,hd,xs,rel,dd⟩:=nE I.hok e;refine wpAny_in_heap (TJ hu) (nN I.hok eb) hd dd ?_;have q:=(rel.val k).isSome_eq;rw[UU]at q;rw[<-q,<-l];exact h _ (I.tok _)
theorem KJ{Q:c_->k_->Prop}(hu:A.units+1<SM)(I:Inv X pz σ H s)(g:dY H a y o)(ry:av y u)(h:∀s',Inv X pz σ H s'->Q (.bool (! o.isSome)) s'):I_ (QE X.prog X.w) A (QY .NotIn u (.ref a)) Q E s:=by
 rcases g with⟨kvs,k,e,ey,l⟩|⟨kvs,k,b,e,ey,eb,l⟩
 .subst ey;obtain⟨z,hd,vs,rel,dd⟩:=mC I.hok e;refine wpAny_notIn_of (nC ry) hd dd.mapOf ?_;rw[<-(rel.val k).isSome_eq,<-l];exact h _ (I.tok _)
 .subst ey;cases(show u=Value.ref b from ry);obtain⟨z,hd,xs,rel,dd⟩:=nE I.hok e;refine wpAny_notIn_heap (TJ hu) (nN I.hok eb) hd dd ?_;have q:=(rel.val k).isSome_eq;rw[UU]at q;rw[<-q,<-l];exact h _ (I.tok _)
theorem CJ{h':Heap}{t':Nat}{ob:HO}(I:Inv X pz σ H s)(mu:pA (H a))(hs:Vh a s.heap h')(he:∃q,h'.get? a=some q)(new:bG X.prog X.w (upd H a ob) h' a ob):Inv X pz σ (upd H a ob) { s with heap:=h',toks:=t' }:=I.write (x:=a) (e:=a) mu (.inl rfl) (fun b q hb z=>(hs.2 b hb).trans z) he new
theorem Hy{P:J_}{w:QN}{H':Hp}{h':Heap}{kvs:List (aA×V)}{vs:List (aA×c_)}(z:kvs.length<=sizeLine)(hd:(a==Sx)=false)(rel:KV kvs vs)(dd:h'.DictOf (en P w) a vs):bG P w H' h' a (.dK kvs):=⟨z,hd,vs,rel,dd⟩
theorem NZ{H':Hp}{Q:Unit->k_->Prop}(hu:A.units+1<SM)(I:Inv X pz σ H s)(g:gw H a y v H')(ry:av y u)(rv:av v r)(h:∀s',Inv X pz σ H' s'->Q () s'):I_ (QE X.prog X.w) A (X9 (.ref a) u r) Q E s:=by
 rcases g with⟨kvs,k,e,ey,l,eH⟩|⟨kvs,k,b,e,ey,eb,l,eH⟩
 .subst ey eH;obtain⟨z,hd,vs,rel,dd⟩:=Hk I.hok e;have hz:vs.length<=sizeLine:=by rw[<-rel.length];exact z
  have hl:(bW kvs k v).length<=sizeLine:=by have:=yf kvs k v;omega
  refine wpAny_setItem_pairs (hsz:=hz) (nC ry) dd fun h' dd' hs=>h _ ?_;have he:∃q,h'.get? a=some q:=let⟨q,_,_,hq,_⟩:=dd';⟨q,hq⟩;exact CJ I (by rw[e];exact True.intro) hs he (Hy hl hd (rel.put k rv) dd')
 .subst ey eH;cases(show u=Value.ref b from ry);obtain⟨z,hd,xs,rel,dd⟩:=Hl I.hok e;have hz:xs.length<=sizeLine:=by rw[<-Paired.length rel];exact z
  have hl:(bW kvs k v).length<=sizeLine:=by have:=yf kvs k v;omega
  refine wpAny_setItem_heap (hsz:=hz) (TJ hu) (nN I.hok eb) dd fun h' dd' hs=>h _ ?_;obtain⟨q,es,ep,hq,h2,h3,h4,_,h5⟩:=dd';refine CJ I (by rw[e];exact True.intro) hs ⟨q,hq⟩ ⟨hl,hd,_,(rel.put k eb rv).keeps fun c ys ec=>?_,q,es,ep,hq,h2,h3,h4,h5⟩;rw[bn (GV ec e (fun z=>nomatch z))];exact ec
end
section
variable{X:Cx}{pz:List (Addr×Obj)}{σ:St}{H:Hp}{s:k_}{a:Addr}{kvs:List (aA×V)}{k:aA}{u:c_}{A:Q9}{E:c_->k_->Prop}
theorem Hi{Q:c_->k_->Prop}(I:Inv X pz σ H s)(e:Rd H a (.dK kvs))(h:∀t s',Inv X pz σ H s'->Q (.int kvs.length t) s'):I_ (QE X.prog X.w) A (call (.builtin "len") [.ref a]) Q E s:=by obtain⟨z,hd,vs,rel,dd⟩:=mC I.hok e;refine call_len_dict hd dd (by rw[<-rel.length];rw[QZ]at z;omega) ?_;rw[<-rel.length];exact h _ _ (I.tok _)
end
theorem Pr{X:Cx}{pz:List (Addr×Obj)}{σ:St}{H:Hp}{s:k_}{a:Addr}{y:V}{o:Option V}(I:Inv X pz σ H s)(g:dY H a y o):s.TypeIs (.ref a) "dict" := by
 rcases g with⟨kvs,k,e,_,_⟩|⟨kvs,k,b,e,_,_,_⟩
 .obtain⟨_,_,vs,_,dd⟩:=mC I.hok e;exact dd.typeIs
 .obtain⟨_,_,xs,_,dd⟩:=nE I.hok e;exact dd.typeIs
theorem ML{P:J_}{w:QN}{H:Hp}(h:Heap)(hb:Sx<h.objs.size):bG P w H (h.push { cls:=.type "dict",data:=.dict #[] }) h.objs.size (.dK []):=⟨QX _,beq_eq_false_iff_ne.mpr (S0 (QM hb)),[],.nil,Heap.DictOf.new h⟩
def JB:TE:=fun _ H Q=>∀p,H p=none->Q (.ref p) (upd H p (.dK []))
section
variable{X:Cx}{pos:Pos}
theorem MA:PE X (.Dict [] [] pos) JB:=fun pz s σ H Q I h=>wpAny_Dict_empty ⟨.ref s.heap.objs.size,_,I.laid (a:=s.heap.objs.size) (o:=.dK []) (t':=s.toks) (fun _ _ q=>h_ _ q) (q_ _) (ML s.heap I.big),rfl,h _ (I.hok.fresh (q_ _))⟩
end
def kD(kvs more:List (aA×V)):List (aA×V):=more.foldl (fun acc kv=>bW acc kv.1 kv.2) kvs
theorem KV.merge:∀{more:List (aA×V)}{rs:List (aA×c_)}{kvs:List (aA×V)}{vs:List (aA×c_)},KV more rs->KV kvs vs->KV (kD kvs more) (merged vs rs):=by
 intro more rs kvs vs r;unfold KV at r
 induction r generalizing kvs vs with
|nil=>intro q;exact q
|@cons p q ps qs h t ih=>
  intro r0;have e:KV (bW kvs p.1 p.2) (stored vs q.1 q.2):=by have:=r0.put p.1 h.2;rw[<-h.1];exact this
  exact ih e
theorem Gg:∀(more kvs:List (aA×V)),(kD kvs more).length<=kvs.length+more.length
|[],kvs=>by show kvs.length<=kvs.length+0;omega
|p::r,kvs=>by have h1:=Gg r (bW kvs p.1 p.2);have h2:=yf kvs p.1 p.2;show(kD (bW kvs p.1 p.2) r).length<=_;rw[Rl];omega
structure M1(X:Cx)(o:Expr)(m:Str)(apos:Pos)(e:Expr)(cpos:Pos):Prop where
 base:Tc o m X.env (eval o X.env)=eval o X.env
 few:((backTo cpos (s_ [e] X.env)).all (fun x=>! x.1)&&(Wk cpos (UT [] X.env)).all (fun x=>x.1.isSome)
  && decide (([e]:List Expr).length+([]:List Ub).length+(if ([]:List Ub).isEmpty then 0 else 1)<30))=true
 line:(apos.endLine==cpos.line)=true
 trees:backTo cpos (s_ [e] X.env)=[(false,eval e X.env)]
structure M2(X:Cx)(o:Expr)(m:Str)(apos:Pos)(e f:Expr)(cpos:Pos):Prop where
 base:Tc o m X.env (eval o X.env)=eval o X.env
 few:((backTo cpos (s_ [e,f] X.env)).all (fun x=>! x.1)&&(Wk cpos (UT [] X.env)).all (fun x=>x.1.isSome)
  && decide (([e,f]:List Expr).length+([]:List Ub).length+(if ([]:List Ub).isEmpty then 0 else 1)<30))=true
 line:(apos.endLine==cpos.line)=true
 trees:backTo cpos (s_ [e,f] X.env)=[(false,eval e X.env),(false,eval f X.env)]
end L2
namespace Att
open PySem PySem.W PySem.Calls PyProof.Rows
theorem Qe{P:Params}{h:Heap}:∀(ns:List Int)(vs:List c_),WellAll P h vs (ns.map WData.int)->S2 vs ns:=by
 intro ns
 induction ns with
|nil=>intro vs w;rw[R5]at w;cases w;exact .nil
|cons n ns ih=>intro vs w;rw[u_]at w;cases w with
 |cons a b=>cases a;exact .cons _ _ (ih _ b)
theorem Oc{l:OpenLaw}{n:Nat}(hn:l.most=some n){P:Params}{h:Heap}{args:List WData}{vals:List c_}(hpre:l.row.toRowW.claim.pre args=true)(hwl:WellAll P h vals args):∃a vs ns,vals=[Value.ref a]/\args=[WData.list (ns.map WData.int)]/\h.get? a=some { cls:=.type "list",data:=.seq vs.toArray }/\S2 vs ns/\ns.length<=n:=by
 have hsh:WShape.hasAll [] args [.list .int]=true:=(pre_splitW hpre).1;have hc:l.pre.holds [] { args:=args }=true:=(pre_splitW hpre).2;obtain⟨d,r,rfl,h1,h2⟩:=hasAllW_cons hsh;obtain rfl:=hasAllW_nil h2;obtain⟨xs,rfl,h3⟩:=hasW_list h1;obtain⟨ns,rfl⟩:=items_int h3;have hlen:ns.length<=n:=by
  unfold OpenLaw.pre at hc;have h4:(WTm.not (.lt (.lit (.int (n:Int))) (.len (.arg 0)))).holds [] { args:=[.list (ns.map .int)] }=true:=by have h4:=(holds_andW hc).1;rw[hn]at h4;exact h4
  have h5:=condW_of h4 (w_not (w_lt w_lit (w_len_list (w_arg rfl))));rw[m_]at h5;refine Nat.le_of_not_lt fun q=>?_;have q':(n:Int)<((ns.length:Nat):Int):=by omega
  first
   |(rw[decide_eq_true q']at h5;exact absurd h5 (by decide))
   |(simp at h5;omega)
 cases hwl with
|cons w1 w2=>cases w2;cases w1 with
 |list ho hall=>exact⟨_,_,ns,rfl,rfl,ho,Qe ns _ hall,hlen⟩
theorem Og(l:OpenLaw)(args:List WData):l.row.toRowW.claim.post args (.bool true) args=true:=
 postW_of (r:=l.row.toRowW) (X:=(true==true))
  (show Yp [] (.bool true) .bool=true by first|rfl|decide|simp[Yp,WShape.arms,WShape.armsAll])
  (show(WTm.eq .res (.lit (.bool true))).value [] { args:=args,res:=some (.bool true),after:=args }=some (.bool (true==true))from w_eq_bool (w_res rfl) w_lit) rfl
theorem attach_call{l:OpenLaw}{n:Nat}{q:J_}{loose:List Str}{XP:(Str->Option c_)->Heap->Prop}{YP:QN->Heap->Prop}{d:DefRec}(hn:l.most=some n)(hdf:d.params.defaults=[])(call:∀(w:QN)(s₀ s₁:k_)(mg mb:Str->Option c_)(fa:Addr)(o:Obj)(pm cd doc:c_)(a:Addr)(vs:List c_)(ns:List Int),Ground q loose [] XP w s₀ mg mb s₁.heap->YP w s₁.heap ->s₁.heap.get? fa=some o->o.data=.func (docDef d.name d.params d.body d.scope pm cd doc)->s₁.heap.CodeRec cd d.name->mg d.name=some (.ref fa) ->s₁.heap.get? a=some { cls:=.type "list",data:=.seq vs.toArray }->S2 vs ns->ns.length<=n->s₁.gens = #[] ->VT (QE l.prog w) Vp (.call (.ref fa) ⟨[.ref a],[]⟩) (fun r s'=>r=.ok (.ret (.bool true))/\OldK s₁.heap s'.heap/\s'.os=s₁.os/\Ua s'.gens) s₁):WalkO q loose XP YP l.row.toRowW d [] (fun f vs=>W_ f vs):=by intro w s₀ s₁ mg mb G Y fa o pm cd doc dV kV ho hd hcd hD hmg hg args vals as hpre hlay hrd hwl hlo;obtain rfl:dV=.none:=Dflts.none hD hdf;obtain rfl:kV=.none:=Dflts.noKw hD;obtain⟨a,vs,ns,rfl,rfl,hobj,hints,hlen⟩:=Oc hn hpre hwl;refine enter_call (Wg (call w s₀ s₁ mg mb fa o pm cd doc a vs ns G Y ho (fd_plain hd) hcd hmg hobj hints hlen hg) fun r s' hq=>?_);obtain⟨rfl,h2,h3,h4⟩:=hq;exact⟨.inl ⟨.bool true,.bool true,[],rfl,fun _=>rfl,.bool true,Og l _,fun _=>⟨List.Pairwise.nil,fun _ hm=>(nomatch hm)⟩⟩,h2,h3,h4⟩
end Att
namespace L2
open PySem PySem.Spec PyProof.Rows
theorem xu:∀{vs:List c_}{ns:List Int},S2 vs ns->aq (ns.map V.int) vs
|_,_,.nil=>.nil
|_,_,.cons n t h=>.cons ⟨t,rfl⟩ (xu h)
def mn(H:Hp):Prop:=∀b,H b=none\/∃o xs,H b=some (.frz o (.lst xs))
theorem Mg{P:J_}{w:QN}{K:W.Frag}{mg mb:Str->Option c_}{CX:gZ}{k:Nat}{fa a:Addr}{fd:RM}{x:Str}{sp:Sp}{s₁:k_}{vs:List c_}{ns:List Int}(KX:K.In s₁.heap)(hns:s₁.heap.Ns Ri mg)(hb:s₁.heap.Ns W1 mb)(hbb:∀x:Str,x≠"__name__"->mb x=To x)(hlim:s₁.heap.NoLimit)(hg:s₁.gens = #[])(ha:s₁.heap.get? a=some { cls:=.type "list",data:=.seq vs.toArray })(hi:S2 vs ns)(hl:ns.length<=sizeLine)(hr:Room k Vp)(F:∀base:Heap,K.In base->base.Ns Ri mg->FnOk P w K mg base CX k fa fd [x] sp)(hbind:∀(s:k_)(u:c_),VS s fd ⟨[u],[]⟩ [(x,u)])(hsp:∀H:Hp,mn H->aY K H a (ns.map V.int)->sp [.ref a] H (fun v _=>v=.bl true) fun _ _ _=>False)(hCX:∀H e s',CX [] H s₁ (fun _ _ _=>False) e s'->False):VT (QE P w) Vp (.call (.ref fa) ⟨[.ref a],[]⟩) (fun r s'=>r=.ok (.ret (.bool true))/\OldK s₁.heap s'.heap/\s'.os=s₁.os/\Ua s'.gens) s₁:=by
 have rv:=xu hi;have lenV:=hi.length;have core:∀H:Hp,mn H->aY K H a (ns.map V.int)->cC P w H s₁.heap->(∀b,H b≠none->b=a)->(H a≠none->K.lookup a=none) ->VT (QE P w) Vp (.call (.ref fa) ⟨[.ref a],[]⟩) (fun r s'=>r=.ok (.ret (.bool true))/\OldK s₁.heap s'.heap/\s'.os=s₁.os/\Ua s'.gens) s₁:=by
  intro H hO hS hok hA hK;have base_of:∀{b:Addr}{o:Obj},s₁.heap.get? b=some o->H b=none->(eJ s₁.heap H).get? b=some o:=fun e n=>MQ e n;have noA:∀{b:Addr}{o:Obj}{es:Array Wx}{ep:Nat},s₁.heap.get? b=some o->o.data=.dict es ep->H b=none:=fun{b o es ep} e d=>by cases q:H b with
  |none=>rfl
  |some u=>have e':b=a:=hA b (by rw[q];simp);subst e';rw[ha]at e;cases e;have d':Data.seq vs.toArray _=Data.dict es ep:=d;cases d'
  have nsK:∀{b:Addr}{m:Str->Option c_},s₁.heap.Ns b m->(eJ s₁.heap H).Ns b m:=fun{b m} ⟨o,es,ep,e,d,r⟩=>⟨o,es,ep,base_of e (noA e d),d,r⟩
  have hKb:K.In (eJ s₁.heap H):=fun b o e=>base_of (KX b o e) (by cases q:H b with
  |none=>rfl
  |some u=>have e':b=a:=hA b (by rw[q];simp);subst e';rw[hK (by rw[q];simp)]at e;cases e)
  have hM:Mod K mg (eJ s₁.heap H):=⟨hKb,nsK hns,⟨mb,nsK hb,hbb⟩,let⟨mc,h1,h2⟩:=hlim;⟨mc,nsK h1,h2⟩⟩
  have e0:Env0 P w K mg (eJ s₁.heap H) Vp [] s₁ H:=⟨rfl,hM,fun b o e=>Ki e,Uu (NT _ _),trivial,fun b hb=>absurd (show b∈([]:List Addr)from hb) (by simp),hok,.of_eq hg⟩
  refine Wg ((F _ hKb (nsK hns)).run Vp [] s₁ H ⟨[.ref a],[]⟩ [.ref a] [.ref a] _ _ hr e0 (hbind s₁ (.ref a)) (.cons rfl .nil) (hsp H hO hS)) fun r s' h=>?_;cases r with
 |error e=>exact(hCX H e s' h).elim
 |ok fl=>cases fl with
  |next=>exact S1 h
  |brk=>exact S1 h
  |cont=>exact S1 h
  |ret u=>obtain⟨v,H',os,bare,un,hok',r',q⟩:=h;have q':v=.bl true:=q;subst q';obtain rfl:u=Value.bool true:=r';refine⟨rfl,OldK.of_keep fun b o e=>?_,os,bare⟩;cases q:H b with
   |none=>exact un.keep b o e q (by intro z;exact absurd (show b∈([]:List Addr)from z) (by simp)) (by simp)
   |some u=>
     rcases hO b with z|⟨ob,xs,z⟩
     .rw[q]at z;cases z
     .have z2:=un.frzs b ob _ z;obtain⟨e1,_⟩:=hok b _ z;obtain⟨e2,_⟩:=hok' b _ z2;rw[e]at e1;cases e1;exact e2
 cases hk:K.lookup a with
|some o=>have e:=KX a o hk;rw[ha]at e;cases e;refine core (fun _=>none) (fun _=>.inl rfl) (.inr ⟨_,vs.toArray,_,hk,rfl,rfl,rfl,by rw[o_,lenV];exact hl,by simpa using rv⟩) (fun b u z=>by have z':(none:Option HO)=some u:=z;cases z') (fun b z=>absurd rfl z) fun z=>absurd rfl z
|none=>
  refine core (fun b=>if b=a then some (.frz { cls:=.type "list",data:=.seq vs.toArray } (.lst (ns.map V.int)))else none) (fun b=>?_) (.inl (.inr ⟨{ cls:=.type "list",data:=.seq vs.toArray },if_pos rfl⟩)) (fun b u z=>?_) (fun b z=>?_) fun _=>hk
  .by_cases hb:b=a
   .exact .inr ⟨_,_,if_pos hb⟩
   .exact .inl (if_neg hb)
  .by_cases hb:b=a
   .have z':=(if_pos hb).symm.trans z;cases z';subst hb;exact⟨ha,by rw[m_];exact hl,vs,_,rv,ha⟩
   .have z':=(if_neg hb).symm.trans z;cases z'
  .by_cases hb:b=a
   .exact hb
   .exact absurd (if_neg hb) z
abbrev aE{K:W.Frag}{h:Heap}(_:K.In h):W.Frag:=K
theorem jU{l:W.OpenLaw}{n k:Nat}{q:J_}{loose:List Str}{XP:(Str->Option c_)->Heap->Prop}{YP:QN->Heap->Prop}{d:DefRec}{K:Params->W.Frag}{CX:QN->gZ}{sp:QN->Sp}{x:Str}(hn:l.most=some n)(hn2:n<=sizeLine)(hdf:d.params.defaults=[])(hr:Room k Vp)(hY:∀(w:QN)(h:Heap),YP w h->(K w.params).In h)(F:∀(w:QN)(mg:Str->Option c_)(fa:Addr)(h:Heap),(K w.params).In h->h.Ns Ri mg->mg d.name=some (.ref fa) ->∃fd:RM,(∀(s:k_)(u:c_),VS s fd ⟨[u],[]⟩ [(x,u)]) /\∀base:Heap,(K w.params).In base->base.Ns Ri mg->FnOk l.prog w (K w.params) mg base (CX w) k fa fd [x] (sp w))(hsp:∀(w:QN)(H:Hp)(a:Addr)(ns:List Int),ns.length<=n->mn H->aY (K w.params) H a (ns.map V.int)->sp w [.ref a] H (fun v _=>v=.bl true) fun _ _ _=>False)(hCX:∀(w:QN)(H:Hp)(s:k_)(e:c_)(s':k_),CX w [] H s (fun _ _ _=>False) e s'->False):W.WalkO q loose XP YP l.row.toRowW d [] (fun f vs=>W_ f vs):=by refine Att.attach_call hn hdf fun w s₀ s₁ mg mb fa o pm cd doc a vs ns G Y ho hd hcd hmg hobj hints hlen hg=>?_;have KX:=hY w _ Y;obtain⟨fd,hb,hF⟩:=F w mg fa _ KX G.T.g hmg;exact Mg KX G.T.g G.T.b G.T.builtins G.T.nolimit hg hobj hints (O_ hlen hn2) hr hF hb (fun H hO hS=>hsp w H a ns hlen hO hS) fun H e s'=>hCX w H s₁ e s'
def ig(s:Stmt):Arguments:=match s with
|.FunctionDef _ a _ _ _ _ _ _ _ _=>a
|_=>{ posonlyargs:=[],args:=[],vararg:=none,kwonlyargs:=[],kw_defaults:=[],kwarg:=none,defaults:=[] }
def eU(s:Stmt):List Stmt:=match s with
|.FunctionDef _ _ b _ _ _ _ _ _ _=>b
|_=>[]
def az(s:Stmt):SK:=match s with
|.FunctionDef _ _ _ _ _ _ sc _ _ _=>sc
|_=>{ kind:=.function,names:=[],isGenerator:=false,isCoroutine:=false }
abbrev bR:gZ:=fun _ _ _ _ _ _=>False
abbrev E0:XK:=fun _ _ _=>False
theorem AE{X:Cx}:tV bR X E0:=fun _ _ _ _ _ _ _ h=>h.elim
structure Fun(K:W.Frag)(x qual:Str)(st:Stmt)(f:Addr)(fd:RM):Prop where
 ex:∃(oc:c_)(od:Option Addr)(kV doc pm:c_)(an:Option Addr)(cdv ct:c_)(osl:Array (Option c_)),fd=W.fnOf x qual (ig st) (eU st) (az st) .none kV doc pm an cdv ct/\K.lookup f=some ⟨oc,od,.func fd,osl⟩/\W.codeIn K cdv qual=true
 kp:W.keepIn K (.ref f)=true
section
variable{P:J_}{w:QN}{K:W.Frag}{mg:Str->Option c_}{base:Heap}
theorem Fun.ok{x qual:Str}{st:Stmt}{f:Addr}{fd:RM}{N ps:List Str}{k:Nat}{sp:Sp}(F:Fun K x qual st f fd)(S:FnScope N ps (az st))(len:∀vs H Q E,sp vs H Q E->vs.length=ps.length)(hbody:∀(cdv:c_)(A:Q9)(outer:List Env)(s:k_)(H:Hp)(vs:List V)(Q:VK)(E:XK),Room k (A.deeper (T6 qual (az st) s.heap.objs.size f cdv))->sp vs H Q E ->∃t,d7 (aT bR P w K mg base N qual (az st) f cdv A outer s H E).nox (eU st) t/\t { nx:=fun _ H'=>Q .non H',rt:=Q } (bO N vs) H):FnOk P w K mg base bR (k+1) f fd ps sp:=by obtain⟨oc,od,kV,doc,pm,an,cdv,ct,osl,rfl,lk,hcd⟩:=F.ex;refine AJ lk hcd S len fun A outer s H vs Q E hr hsp=>?_;obtain⟨t,h,q⟩:=hbody cdv A outer s H vs Q E hr hsp;exact⟨t,h.nox,q⟩
theorem Fun.binds{x qual:Str}{st:Stmt}{f:Addr}{fd:RM}{ps:List Str}(F:Fun K x qual st f fd)(h:∀(kV doc pm:c_)(an:Option Addr)(cdv ct:c_)(us:List c_),us.length=ps.length->VH (W.fnOf x qual (ig st) (eU st) (az st) .none kV doc pm an cdv ct) ⟨us,[]⟩=pure (ps.zip us)):io K fd ps []:=by obtain⟨oc,od,kV,doc,pm,an,cdv,ct,osl,rfl,lk,hcd⟩:=F.ex;exact .all (h kV doc pm an cdv ct)
theorem Jl{x qual:Str}{st:Stmt}{f:Addr}{oc:c_}{od an:Option Addr}{osl:Array (Option c_)}{kV doc pm cdv ct:c_}(l:K.lookup f=some ⟨oc,od,.func (W.fnOf x qual (ig st) (eU st) (az st) .none kV doc pm an cdv ct),osl⟩)(c:W.codeIn K cdv qual=true)(k:W.keepIn K (.ref f)=true):Fun K x qual st f (W.fnOf x qual (ig st) (eU st) (az st) .none kV doc pm an cdv ct):=⟨⟨oc,od,kV,doc,pm,an,cdv,ct,osl,rfl,l,c⟩,k⟩
end
theorem kx{A:Q9}{k:Nat}(hr:Room k A):A.units+1<SM:=UI (Nat.add_le_add_left (by decide:1<=64) _) hr.units
section
variable{X:Cx}
theorem M6:dZ X (.builtin "len") (fun xs H Q=>∃a kvs,xs=[V.ref a]/\Rd H a (.dK kvs)/\Q (.int kvs.length) H):=by intro pz s σ H xs us Q I r h;obtain⟨a,kvs,rfl,ha,q⟩:=h;obtain⟨u,rfl,ru⟩:=fG r;cases ru;exact Hi I ha fun t s' I'=>⟨.int kvs.length,H,I',⟨t,rfl⟩,q⟩
end
def Same(H H':Hp):Prop:=∀b o,H b=some o->H' b=some o
theorem Same.refl(H:Hp):Same H H:=fun _ _ h=>h
theorem Same.trans{H H1 H2:Hp}(a:Same H H1)(b:Same H1 H2):Same H H2:=fun c o h=>b c o (a c o h)
theorem Same.free{H H':Hp}(e:Same H H'){l:Addr}(h:H' l=Option.none):H l=Option.none:=by cases q:H l with
|none=>rfl
|some o=>rw[e l o q]at h;cases h
theorem Same.seq{K:W.Frag}{H H':Hp}{a:Addr}{xs:List V}(e:Same H H')(h:aY K H a xs):aY K H' a xs:=by
 rcases h with(h|⟨o,h⟩)|h
 .exact .inl (.inl (e _ _ h))
 .exact .inl (.inr ⟨o,e _ _ h⟩)
 .exact .inr h
end L2
end
namespace DL
open PySem
section
open PySem.SeqAt
open PySem.AutoSeq1 (wpAny_loadPart')
open PySem.MeetsSeq PySem.MeetsSeq2 PySem.MeetsSeq3
end
end DL
namespace DL
open PySem PyProof.Rows
end DL
namespace DL
open PySem PyProof.Rows PySem.W
def kasRun{α:Type}(c:Nat->Nat->Bool):KasT α->α
|.ret a=>a
|.ask i j k=>kasRun c (k (c i j))
theorem m5{α β:Type}(c:Nat->Nat->Bool)(f:α->KasT β):∀t:KasT α,kasRun c (t.bind f)=kasRun c (f (kasRun c t))
|.ret a=>rfl
|.ask i j k=>m5 c f (k (c i j))
inductive Asks(n:Nat){α:Type}(P:α->Prop):KasT α->Prop where
 |ret {a:α}:P a->Asks n P (.ret a)
 |ask {i j:Nat} {k:Bool->KasT α}:i<n->j<n->(∀b,Asks n P (k b))->Asks n P (.ask i j k)
theorem Asks.bind{n:Nat}{α β:Type}{P:α->Prop}{P':β->Prop}{t:KasT α}{f:α->KasT β}(h:Asks n P t)(hf:∀a,P a->Asks n P' (f a)):Asks n P' (t.bind f):=by induction h with
|ret h=>exact hf _ h
|ask h1 h2 _ ih=>exact .ask h1 h2 ih
theorem Asks.run{n:Nat}{α:Type}{P:α->Prop}{t:KasT α}(h:Asks n P t)(c:Nat->Nat->Bool):P (kasRun c t):=by induction h with
|ret h=>exact h
|ask _ _ _ ih=>exact ih _
theorem Asks.mono{n:Nat}{α:Type}{P P':α->Prop}{t:KasT α}(h:Asks n P t)(hp:∀a,P a->P' a):Asks n P' t:=by induction h with
|ret h=>exact .ret (hp _ h)
|ask h1 h2 _ ih=>exact .ask h1 h2 ih
theorem EA{n:Nat}{α:Type}{P:α->Prop}{cmp:Nat->Nat->(Bool->k_->Prop)->k_->Prop}{c:Nat->Nat->Bool}{s:k_}(hc:∀i j C,i<n->j<n->C (c i j) s->cmp i j C s){Q:α->k_->Prop}{t:KasT α}(h:Asks n P t):Q (kasRun c t) s->t.kasWp cmp Q s:=by induction h with
|ret _=>exact fun q=>q
|ask h1 h2 _ ih=>exact fun q=>hc _ _ _ h1 h2 (ih _ q)
def dI(n:Nat)(p:Array Nat):Prop:=p.toList.Perm (a_ n)
theorem dI.bd{n:Nat}{p:Array Nat}(h:dI n p)(hn:0<n)(k:Nat):p.getD k 0<n:=by
 by_cases hk:k<p.size
 .have e:p.getD k 0=p[k]:=by simp[Xa,hk]
  rw[e];exact n_.mp (h.mem_iff.mp (by simp))
 .have e:p.getD k 0=0:=by simp[Xa,hk]
  rw[e];exact hn
theorem dI.rev{n:Nat}{p:Array Nat}(h:dI n p)(i j:Nat):dI n (TX p i j):=(UJ.mp (mirror_perm p i j ((j-i)/2))).trans h
theorem dI.bub{n:Nat}{p:Array Nat}(h:dI n p)(i j:Nat):dI n (bubble p i j):=(UJ.mp (bubble_perm p i j)).trans h
section
variable{n:Nat}(hn:0<n)
include hn
theorem wO{p:Array Nat}(h:dI n p):∀f k,Asks n (fun _=>True) (R6 p f k)
|0,k=>.ret trivial
|f+1,k=>.ask (h.bd hn _) (h.bd hn _) fun b=>by cases b with
 |true=>rw[if_pos rfl];exact .ret trivial
 |false=>rw[if_neg g_];exact wO h f (k+1)
theorem ra:∀f (p:Array Nat) k q,dI n p->Asks n (fun r=>dI n r.1) (R3 f p k q)
|0,p,k,q,h=>.ret h
|f+1,p,k,q,h=>.ask (h.bd hn _) (h.bd hn _) fun b=>by cases b with
 |true=>
   rw[if_pos rfl];split
   .exact ra f _ _ _ (h.rev _ _)
   .exact ra f _ _ _ h
 |false=>rw[if_neg g_];refine .ask (h.bd hn _) (h.bd hn _) fun b=>?_;cases b with
  |true=>rw[if_pos rfl];exact .ret h
  |false=>rw[if_neg g_];exact ra f _ _ _ h
theorem Eb{p:Array Nat}(h:dI n p)(a b:Nat):Asks n (fun r=>dI n r.2) (X6 a b p):=Asks.bind (wO hn (h.rev 0 a) _ _) fun m _=>.ret (h.rev 0 a)
theorem Fv{p:Array Nat}(h:dI n p)(a b:Nat):Asks n (fun r=>dI n r.2) (Uv a b p):=by
 refine Asks.bind (ra hn _ p _ _ h) fun r hr=>?_;split
 .exact Eb hn (hr.rev _ _) _ _
 .exact Eb hn hr _ _
theorem OO{p:Array Nat}(h:dI n p)(a:Nat):Asks n (fun r=>dI n r.2) (Wy a p):=by
 refine Asks.bind (wO hn h _ _) fun k _=>?_;split
 .exact .ret h
 .split
  .refine .ask (h.bd hn _) (h.bd hn _) fun b=>?_;cases b with
  |true=>rw[if_pos rfl];exact .ret h
  |false=>rw[if_neg g_];exact Fv hn (h.rev _ _) _ _
  .exact Fv hn h _ _
theorem xQ{p:Array Nat}(h:dI n p)(k:Nat):∀f l r,Asks n (fun _=>True) (Td p k f l r)
|0,l,r=>.ret trivial
|f+1,l,r=>by
  unfold Td;split
  .exact .ret trivial
  .refine .ask (h.bd hn _) (h.bd hn _) fun b=>?_;cases b with
  |true=>rw[if_pos rfl];exact xQ h k f _ _
  |false=>rw[if_neg g_];exact xQ h k f _ _
theorem DW:∀f (p:Array Nat) k,dI n p->Asks n (dI n) (kas_bin f p k)
|0,p,k,h=>.ret h
|f+1,p,k,h=>Asks.bind (xQ hn h k _ _ _) fun l _=>DW f _ _ (h.bub _ _)
theorem wS:Asks n (dI n) (UK n):=by
 refine Asks.bind (OO hn (p:=List.toArray (a_ n)) (by unfold dI;simp) n) fun r hr=>?_;split
 .exact DW hn _ _ _ hr
 .exact .ret hr
end
def d8(n:Nat)(c:Nat->Nat->Bool):List Nat:=if n<2 then a_ n else(kasRun c (UK n)).toList
theorem oH(n:Nat)(c:Nat->Nat->Bool):(d8 n c).Perm (a_ n):=by
 unfold d8;split
 .exact .refl _
 .exact(wS (n:=n) (by omega)).run c
def aZ:List Int->List Int->Bool
|[],[]=>false
|[],_::_=>true
|_::_,[]=>false
|x::xs,y::ys=>if x=y then aZ xs ys else decide (x<y)
def gR(fin:Bool):List (List Int)->List (List Int)->Bool
|k::ks,l::ls=>if k=l then gR fin ks ls else aZ k l
|_,_=>fin
def dU(ks ls:List (List Int)):Bool:=gR (decide (ks.length<ls.length)) ks ls
end DL
namespace DL
open PySem PyProof.Rows PySem.W PySem.Calls
section
variable{prog:J_}{w:QN}{A:Q9}{E:c_->k_->Prop}{s:k_}
theorem OE{a:Addr}{vs:List c_}{n:Nat}{P:PySem.Fin->k_->Prop}(ho:s.heap.get? a=some (UZ "list" vs.toArray n))(h2:vs.length<2)(h:∀h' c,(∀b o,b≠a->s.heap.get? b=some o->h'.get? b=some o)->h'.get? a=some (UZ "list" vs.toArray c)->P (.done (.ret .none)) { s with heap:=h' }):I_ (QE prog w) A (Uc.«list.sort» ⟨[.ref a],[]⟩) P E s:=by
 have fits:vs.length<=sizeLine:=by rw[QZ];omega
 have up:=fun(h:Heap)(f:Array c_->Array c_)=>Uq h a (SF f);obtain⟨e1,ho1⟩:∃e1,(s.heap.update a (SF fun _=>(#[]:Array c_))).get? a=some (UZ "list" #[] e1):=⟨_,WR ho fun _=>#[]⟩
 rw[list_sort_plain];refine f_ (listItems_at ho rfl (f_ (VZ ho rfl ?_ (by rw[o_];exact fits) (QX _))));refine f_ (seqEpoch_at ho1 rfl (f_ (wpAny_newTuple (f_ (wpAny_newList (Ta ?_) (QX _))) (by show vs.length<=_;exact fits))))
 dsimp only
 have hlt:vs.toArray.size<2:=by rw[o_];exact h2
 rw[if_pos hlt,if_pos hlt];refine f_ (E_ ?_);have hrun:(pure ():StateT SortSt Sem Unit).run (Xb general' (vs.toArray.zip vs.toArray) #[] 7 none)=pure ((),Xb general' (vs.toArray.zip vs.toArray) #[] 7 none):=rfl;rw[hrun];refine f_ (E_ ?_)
 dsimp only
 have hout:(arrOf (Xb general' (vs.toArray.zip vs.toArray) #[] 7 none)).map (·.2)=vs.toArray:=by show((vs.toArray.zip vs.toArray).map (·.2))=vs.toArray;apply Yq;simp[List.map_snd_zip]
 rw[hout];have keep3:∀b o,(s.heap.update a (SF fun _=>(#[]:Array c_))).get? b=some o->(((s.heap.update a (SF fun _=>(#[]:Array c_))).push (UZ "tuple" vs.toArray 0)).push (UZ "list" #[] 0)).get? b=some o:=fun b o e=>h_ _ (h_ _ e);have ho3:=keep3 _ _ ho1;refine f_ (seqEpoch_at ho3 rfl (f_ (VZ ho3 rfl ?_ (QX _) (by rw[o_];exact Nat.le_succ_of_le fits))));simp only[bne_self_eq_false,V9,if_false];refine E_ (h _ _ (fun b o hb e=>?_) (WR ho3 fun _=>vs.toArray));exact((up _ _).2 b hb).trans (keep3 b o (((up _ _).2 b hb).trans e))
theorem FM{l:Addr}{vs:List c_}{Q:c_->k_->Prop}(hl:s.heap.IsList l vs.toArray)(h2:vs.length<2)(h:∀h' c D,(∀b o,s.heap.get? b=some o->h'.get? b=some o)->s.heap.objs.size<=D->h'.get? D=some (UZ "list" vs.toArray c)->Q (.ref D) { s with heap:=h' }):I_ (QE prog w) A (call (.builtin "sorted") [.ref l]) Q E s:=by
 refine Calls.call_function_entry kind_sorted plain_sorted entry_sorted (args_sorted1 _) ?_;unfold Uc.«sorted»;refine f_ (m:=checkCount "sorted" 1 1 _) (E_ (f_ (collect_list hl ?_ (by rw[QZ];omega))));refine f_ (wpAny_newList ?_ (by rw[QZ];omega));generalize hH:((s.heap.push (UZ "list" #[] 0)).update s.heap.objs.size (SF (·++vs.toArray)))=H1;have hsz:H1.objs.size=s.heap.objs.size+1:=by rw[<-hH,Heap.size_update,size_push']
 have keep:∀b o,s.heap.get? b=some o->(H1.push (UZ "list" vs.toArray 0)).get? b=some o:=fun b o q=>by have hlt:b<s.heap.objs.size:=A_ q;refine h_ _ ?_;rw[<-hH,Heap.get?_update_ne _ _ _ _ (QM hlt)];exact h_ _ q
 have hoL:(H1.push (UZ "list" vs.toArray 0)).get? H1.objs.size=some (UZ "list" vs.toArray 0):=B_ _ rfl;refine f_ (Ta (SU slot_list_sort ⟨_,hoL,rfl⟩ entry_list_sort ?_ (args_list_sort _)));refine OE (s:={ s with heap:=H1.push (UZ "list" vs.toArray 0) }) hoL h2 fun h' c kp hD=>?_;refine⟨_,rfl,E_ ⟨_,rfl,h h' c _ (fun b o e=>kp b o ?_ (keep b o e)) (by rw[hsz];exact WM _) hD⟩⟩;rw[hsz];exact QM (UV (A_ e))
end
end DL
namespace DL
open PySem PySem.Spec PyProof.Rows L2 PySem.W PySem.Calls
structure Lft(fr:List Addr)(a:Addr)(oe:Obj)(vs:Array c_)(T:Option Addr)(v:c_)(h h':Heap):Prop where
 keep:∀b o,b∉fr->b≠a->T≠some b->h.get? b=some o->h'.get? b=some o
 slot:∀b o,h.get? b=some o->(∀vs:Array c_,o.data≠Data.fields vs)->∃sl,h'.get? b=some { cls:=o.cls,dict:=o.dict,data:=o.data,slots:=sl }
 obj:∃tb ot ts,(h.get? tb=none\/T=some tb)/\tb≠a/\h'.get? a=some { cls:=oe.cls,dict:=oe.dict,data:=.fields (vs.setIfInBounds 1 (.ref tb)),slots:=oe.slots }/\h'.get? tb=some ot/\ot.data=.fields ts/\ts[3]? = some v
def Hg(h B:Heap)(a:Addr)(cls:c_)(od L:Option Addr):Prop:=∃oe vs,h.get? a=some oe/\oe.cls=cls/\(∀dx,od=some dx->oe.dict=some dx)/\oe.data=.fields vs /\(vs[1]? = some Value.none\/(∃T oT ts,vs[1]? = some (.ref T)/\B.get? T=none/\T≠a/\h.get? T=some oT/\oT.data=.fields ts/\ts[3]? = some Value.none) \/∃l T oT ts,L=some l/\vs[1]? = some (.ref T)/\B.get? T=none/\T≠a/\h.get? T=some oT/\oT.data=.fields ts/\ts[3]? = some (Vj ↑l))
def zy(st:List Env):Option Addr:=st.head?.bind (·.frame)
structure Fly(P:J_)(w:QN)(st:List Env)(H:Hp)(s:k_)(H':Hp)(a:Addr)(cls:c_)(od:Option Addr)(s':k_):Prop where
 os:s'.os=s.os
 bare:Ua s'.gens
 un:Un (gF st) [] H H' s.heap s'.heap
 hok:cC P w H' s'.heap
 ex:∃B:Heap,B.StaysIn s'.heap/\B.get? a=none/\s'.heap.FunFrames B st/\Hg s'.heap B a cls od (zy st) /\(∀b o,s.heap.get? b=some o->b∉gF st->∃o',B.get? b=some o')/\∀b u,H' b=some u->∃o',B.get? b=some o'
def QD(P:J_)(w:QN):gZ:=fun outer H s E e s'=>∃a cls H' od,e=.ref a/\Fly P w outer H s H' a cls od s'/\E cls od H'
abbrev zw:List c_:=[Value.type "ValueError",Value.type "Exception",Value.type "BaseException",Value.type "object"]
structure XC(K:W.Frag)(mg:Str->Option c_)(x:Str)(C:Addr):Prop where
 bound:mg x=some (.ref C)
 exc:excIn K C zw "ValueError.__new__" = true
end DL
namespace DL
open PySem PySem.Spec PyProof.Rows L2
inductive D where
 |non|bl (b:Bool)|int (i:Int)|str (x:Str)
 |tup (ds:List D)|lst (ds:List D)
 |dic (kvs:List (aA×D))
 |obj (c:Nat) (fs:List (Str×D))
instance:Inhabited D:=⟨.non⟩
inductive Res(α:Type) where
 |ok (a:α)|exc (x:D)|stuck
def Res.bind{α β:Type}(r:Res α)(f:α->Res β):Res β:=match r with
|.ok a=>f a
|.exc x=>.exc x
|.stuck=>.stuck
@[simp] theorem bind_ok{α β:Type}(a:α)(f:α->Res β):(Res.ok a).bind f=f a:=rfl
@[simp] theorem bind_exc{α β:Type}(x:D)(f:α->Res β):(Res.exc x:Res α).bind f=.exc x:=rfl
@[simp] theorem bind_stuck{α β:Type}(f:α->Res β):(Res.stuck:Res α).bind f=.stuck:=rfl
def fin{α:Type}(r:Res α)(q:α->Prop)(x:D->Prop):Prop:=match r with
|.ok a=>q a
|.exc e=>x e
|.stuck=>False
theorem bg{α:Type}{r:Res α}{q q':α->Prop}{x:D->Prop}(h:fin r q x)(hq:∀a,q a->q' a):fin r q' x:=by cases r with
|ok a=>exact hq a h
|exc e=>exact h
|stuck=>exact h
theorem ba{α β:Type}{r:Res α}{f:α->Res β}{q:β->Prop}{x:D->Prop}(h:fin (r.bind f) q x):fin r (fun a=>fin (f a) q x) x:=by cases r with
|ok a=>exact h
|exc e=>exact h
|stuck=>exact h
abbrev GH:=Addr->Option D
inductive Scl:V->D->Prop where
 |non:Scl .non .non
 |bl (b:Bool):Scl (.bl b) (.bl b)
 |int (i:Int):Scl (.int i) (.int i)
 |str (x:Str):Scl (.str x) (.str x)
inductive KC(K:W.Frag)(a:Addr):D->Prop where
|lst {xs:List V} {ds:List D}:aY K (fun _=>none) a xs->Paired Scl xs ds->KC K a (.lst ds)
|tup {xs:List V} {ds:List D}:ce K (fun _=>none) a xs->Paired Scl xs ds->(∃o,K.lookup a=some o/\o.cls=.type "tuple"/\o.dict=none)->KC K a (.tup ds)
inductive RG(K:W.Frag)(G:GH):V->D->Prop where
 |scl {v:V} {d:D}:Scl v d->RG K G v d
 |ref {a:Addr} {d:D}:G a=some d->RG K G (.ref a) d
 |kc {a:Addr} {d:D}:KC K a d->RG K G (.ref a) d
abbrev bC(K:W.Frag)(G:GH):List V->List D->Prop:=Paired (RG K G)
abbrev c9(K:W.Frag)(G:GH):List (aA×V)->List (aA×D)->Prop:=Paired fun p q=>p.1=q.1/\RG K G p.2 q.2
abbrev xD(nm:Str)(ds:List (Str×D)):D:=.obj 0 (("__class__",.str nm)::ds)
def XN(K:W.Frag)(nm:Str)(C:Addr):Prop:=∃o cd,K.lookup C=some o/\o.data=Data.cls cd/\cd.name=nm
def Gw(a C:Addr)(od:Option Addr):Heap->Prop:=fun h=>∃oe vs,h.get? a=some oe/\oe.cls=.ref C/\(∀dx,od=some dx->oe.dict=some dx)/\oe.data=.fields vs
def XF(G:GH)(od:Option Addr)(ds:List (Str×D)):Prop:=match od with
|none=>ds=[]
|some dx=>G dx=some (.obj 1 ds)
theorem XF.mono{G G':GH}{od:Option Addr}{ds:List (Str×D)}(h:XF G od ds)(ge:∀a d,G a=some d->G' a=some d):XF G' od ds:=by cases od with
|none=>exact h
|some dx=>exact ge _ _ h
abbrev QB(K:W.Frag)(G:GH):List (Str×V)->List (Str×D)->Prop:=Paired fun p q=>p.1=q.1/\RG K G p.2 q.2
inductive OB(K:W.Frag)(G:GH)(H:Hp)(a:Addr):D->Prop where
 |lst {xs:List V} {ds:List D}:Rd H a (.lst xs)->bC K G xs ds->OB K G H a (.lst ds)
 |tup {xs:List V} {ds:List D}:Rd H a (.tup xs)->bC K G xs ds->OB K G H a (.tup ds)
 |dic {ob:Obj} {ps:List (aA×V)} {kvs:List (aA×D)}:H a=some (.frz ob (.dK ps))->c9 K G ps kvs->OB K G H a (.dic kvs)
 |exc {nm:Str} {C:Addr} {od:Option Addr} {ds:List (Str×D)}:H a=some (.ext (Gw a C od))->XN K nm C->XF G od ds->OB K G H a (xD nm ds)
 |fld {fs:List (Str×V)} {ds:List (Str×D)}:H a=some (.xd fs)->QB K G fs ds->OB K G H a (.obj 1 ds)
def aN(K:W.Frag)(G:GH)(H:Hp):Prop:=∀a d,G a=some d->OB K G H a d
inductive OwnO(K:W.Frag)(G:GH)(H:Hp)(a:Addr):D->Prop where
 |lst {xs:List V} {ds:List D}:H a=some (.lst xs)->bC K G xs ds->OwnO K G H a (.lst ds)
 |dic {ps:List (aA×V)} {kvs:List (aA×D)}:H a=some (.dK ps)->c9 K G ps kvs->OwnO K G H a (.dic kvs)
structure Own(K:W.Frag)(G:GH)(H:Hp)(a:Addr)(d:D):Prop where
 un:G a=none
 ob:OwnO K G H a d
structure Grow(K:W.Frag)(G:GH)(H:Hp)(G':GH)(H':Hp):Prop where
 ok:aN K G' H'
 he:∀a o,H a=some o->H' a=some o
 ge:∀a d,G a=some d->G' a=some d
 gf:∀a,H a≠none->G' a=G a
section
variable{K:W.Frag}{G G' G1 G2:GH}{H H' H1 H2:Hp}{a p:Addr}{d:D}{v:V}
theorem Rd.mono{u:HO}(h:Rd H a u)(he:∀a o,H a=some o->H' a=some o):Rd H' a u:=by
 rcases h with h|⟨o,h⟩
 .exact .inl (he _ _ h)
 .exact .inr ⟨o,he _ _ h⟩
theorem Rd.isS{u:HO}(h:Rd H a u):H a≠none:=by rcases h with h|⟨o,h⟩ <;> rw[h] <;> simp
theorem RG.mono(h:RG K G v d)(ge:∀a d,G a=some d->G' a=some d):RG K G' v d:=by cases h with
|scl s=>exact .scl s
|ref e=>exact .ref (ge _ _ e)
|kc k=>exact .kc k
theorem bC.mono{xs:List V}{ds:List D}(h:bC K G xs ds)(ge:∀a d,G a=some d->G' a=some d):bC K G' xs ds:=Paired.mono (fun _ _ r=>r.mono ge) h
theorem c9.mono{xs:List (aA×V)}{ds:List (aA×D)}(h:c9 K G xs ds)(ge:∀a d,G a=some d->G' a=some d):c9 K G' xs ds:=Paired.mono (fun _ _ r=>⟨r.1,r.2.mono ge⟩) h
theorem OB.mono(h:OB K G H a d)(ge:∀a d,G a=some d->G' a=some d)(he:∀o,H a=some o->H' a=some o):OB K G' H' a d:=by
 have rd:∀{u:HO},Rd H a u->Rd H' a u:=fun r=>by
  rcases r with r|⟨o,r⟩
  .exact .inl (he _ r)
  .exact .inr ⟨o,he _ r⟩
 cases h with
|lst r s=>exact .lst (rd r) (s.mono ge)
|tup r s=>exact .tup (rd r) (s.mono ge)
|dic r s=>exact .dic (he _ r) (c9.mono s ge)
|exc r n f=>exact .exc (he _ r) n (f.mono ge)
|fld r s=>exact .fld (he _ r) (Paired.mono (fun _ _ r=>⟨r.1,r.2.mono ge⟩) s)
theorem OB.isS(h:OB K G H a d):H a≠none:=by cases h with
|lst r s=>exact Rd.isS r
|tup r s=>exact Rd.isS r
|dic r s=>rw[r];simp
|exc r n f=>rw[r];simp
|fld r s=>rw[r];simp
theorem aN.isN(g:aN K G H)(h:H p=none):G p=none:=by cases e:G p with
|none=>rfl
|some d=>exact absurd h (g p d e).isS
theorem OwnO.isS(h:OwnO K G H a d):H a≠none:=by cases h with
|lst r s=>rw[r];simp
|dic r s=>rw[r];simp
theorem OwnO.mono(h:OwnO K G H a d)(ge:∀a d,G a=some d->G' a=some d)(he:∀o,H a=some o->H' a=some o):OwnO K G' H' a d:=by cases h with
|lst r s=>exact .lst (he _ r) (s.mono ge)
|dic r s=>exact .dic (he _ r) (c9.mono s ge)
theorem Own.mono(h:Own K G H a d)(w:Grow K G H G' H'):Own K G' H' a d:=⟨by rw[w.gf a h.ob.isS];exact h.un,h.ob.mono w.ge fun o e=>w.he _ _ e⟩
def fz(H:Hp)(a:Addr)(ob:Obj):Hp:=match H a with
|some (.dK ps)=>upd H a (.frz ob (.dK ps))
|_=>H
theorem nB{b:Addr}{ob:Obj}(h:b≠a):fz H a ob b=H b:=by unfold fz;cases e:H a with
|none=>rfl
|some u=>cases u <;> first|rfl|exact bn h
theorem Jn{xs:List V}{ob:Obj}(h:H a=some (.lst xs)):fz H a ob=H:=by unfold fz;rw[h]
theorem Jm{ps:List (aA×V)}{ob:Obj}(h:H a=some (.dK ps)):fz H a ob a=some (.frz ob (.dK ps)):=by unfold fz;rw[h];exact ca
theorem OwnO.fast(h:OwnO K G H a d)(ob:Obj):OB K G (fz H a ob) a d:=by cases h with
|lst r s=>rw[Jn r];exact .lst (.inl r) s
|dic r s=>exact .dic (Jm r) s
theorem aN.fast(g:aN K G H)(hn:G a=none)(ob:Obj):aN K G (fz H a ob):=fun b d e=>by
 have hb:b≠a:=by rintro rfl;rw[hn]at e;cases e
 exact(g b d e).mono (fun _ _ z=>z) fun o z=>by rw[nB hb];exact z
theorem Grow.refl(g:aN K G H):Grow K G H G H:=⟨g,fun _ _ e=>e,fun _ _ e=>e,fun _ _=>rfl⟩
theorem Grow.trans(x:Grow K G H G1 H1)(y:Grow K G1 H1 G2 H2):Grow K G H G2 H2:=
 ⟨y.ok,fun a o e=>y.he _ _ (x.he _ _ e),fun a d e=>y.ge _ _ (x.ge _ _ e),fun a h=>by
  have h1:H1 a≠Option.none:=by cases e:H a with
  |none=>exact absurd e h
  |some o=>rw[x.he _ _ e];simp
  rw[y.gf a h1,x.gf a h]⟩
def gset(G:GH)(a:Addr)(d:D):GH:=fun b=>if b=a then some d else G b
theorem dB:gset G a d a=some d:=if_pos rfl
theorem dM{b:Addr}(h:b≠a):gset G a d b=G b:=if_neg h
theorem eO(hn:G a=none):∀b e,G b=some e->gset G a d b=some e:=fun b e h=>by
 have:b≠a:=by rintro rfl;rw[hn]at h;cases h
 rw[dM this];exact h
theorem aN.gset(g:aN K G H)(hn:G a=none)(o:OB K G H a d):aN K (gset G a d) H:=fun b e h=>by
 by_cases hb:b=a
 .subst hb;rw[dB]at h;cases h;exact o.mono (eO hn) fun _ q=>q
 .rw[dM hb]at h;exact(g b e h).mono (eO hn) fun _ q=>q
theorem uK(hn:H p=none){o:HO}:∀a u,H a=some u->upd H p o a=some u:=fun a u e=>by rw[bn (k6 e hn)];exact e
theorem Grow.new(g:aN K G H)(hn:H p=none)(o:HO):Grow K G H G (upd H p o):=⟨fun a d e=>(g a d e).mono (fun _ _ q=>q) fun u q=>uK hn _ _ q,fun a u e=>uK hn _ _ e,fun _ _ e=>e,fun _ _=>rfl⟩
theorem Grow.newF(g:aN K G H)(hn:H p=none){o:HO}(ob:OB K G (upd H p o) p d):Grow K G H (gset G p d) (upd H p o):=by have w:=Grow.new g hn o;have gn:=g.isN hn;exact⟨w.ok.gset gn ob,w.he,fun a e h=>eO gn a e h,fun a h=>dM (by rintro rfl;exact h hn)⟩
theorem Grow.frz(w:Grow K G H G' H')(hn:H a=none)(o:Own K G' H' a d)(ob:Obj):Grow K G H (gset G' a d) (fz H' a ob):=⟨(w.ok.fast o.un ob).gset o.un (o.ob.fast ob),fun b u e=>by rw[nB (by rintro rfl;rw[hn]at e;cases e)];exact w.he b u e,fun b e h=>eO o.un b e (w.ge b e h),fun b h=>by rw[dM (by rintro rfl;exact h hn)];exact w.gf b h⟩
theorem RG.lst{ds:List D}(g:aN K G H)(h:RG K G v (.lst ds)):∃a xs,v=.ref a/\aY K H a xs/\bC K G xs ds:=by cases h with
|scl s=>cases s
|ref e=>cases g _ _ e with
 |lst r s=>exact⟨_,_,rfl,.inl r,s⟩
|kc k=>cases k with
 |lst r s=>
   refine⟨_,_,rfl,?_,Paired.mono (fun _ _ z=>.scl z) s⟩;rcases r with(r|⟨o,r⟩)|r
   .cases r
   .cases r
   .exact .inr r
theorem RG.tup{ds:List D}(g:aN K G H)(h:RG K G v (.tup ds)):∃a xs,v=.ref a/\ce K H a xs/\bC K G xs ds:=by cases h with
|scl s=>cases s
|ref e=>cases g _ _ e with
 |tup r s=>exact⟨_,_,rfl,.inl r,s⟩
|kc k=>cases k with
 |tup r s _=>
   refine⟨_,_,rfl,?_,Paired.mono (fun _ _ z=>.scl z) s⟩;rcases r with(r|⟨o,r⟩)|r
   .cases r
   .cases r
   .exact .inr r
theorem RG.dic{kvs:List (aA×D)}(g:aN K G H)(h:RG K G v (.dic kvs)):∃a ps,v=.ref a/\Rd H a (.dK ps)/\c9 K G ps kvs:=by cases h with
|scl s=>cases s
|ref e=>cases g _ _ e with
 |dic r s=>exact⟨_,_,rfl,.inr ⟨_,r⟩,s⟩
|kc k=>cases k
theorem RG.int{i:Int}(g:aN K G H)(h:RG K G v (.int i)):v=.int i:=by cases h with
|scl s=>cases s;rfl
|ref e=>cases g _ _ e
|kc k=>cases k
theorem RG.str{x:Str}(g:aN K G H)(h:RG K G v (.str x)):v=.str x:=by cases h with
|scl s=>cases s;rfl
|ref e=>cases g _ _ e
|kc k=>cases k
theorem RG.bl{b:Bool}(g:aN K G H)(h:RG K G v (.bl b)):v=.bl b:=by cases h with
|scl s=>cases s;rfl
|ref e=>cases g _ _ e
|kc k=>cases k
theorem RG.non(g:aN K G H)(h:RG K G v .non):v=.non:=by cases h with
|scl s=>cases s;rfl
|ref e=>cases g _ _ e
|kc k=>cases k
def RB(K:W.Frag)(G:GH)(H:Hp)(v:V)(d:D):Prop:=RG K G v d\/∃a,v=.ref a/\Own K G H a d
theorem RG.rb(h:RG K G v d):RB K G H v d:=.inl h
theorem RB.mono(h:RB K G H v d)(w:Grow K G H G' H'):RB K G' H' v d:=by
 rcases h with h|⟨a,e,h⟩
 .exact .inl (h.mono w.ge)
 .exact .inr ⟨a,e,h.mono w⟩
theorem RB.lst{ds:List D}(g:aN K G H)(h:RB K G H v (.lst ds)):∃a xs,v=.ref a/\aY K H a xs/\bC K G xs ds:=by
 rcases h with h|⟨a,e,h⟩
 .exact h.lst g
 .cases h.ob with
 |lst r s=>exact⟨a,_,e,aY.of r,s⟩
theorem RB.tup{ds:List D}(g:aN K G H)(h:RB K G H v (.tup ds)):∃a xs,v=.ref a/\ce K H a xs/\bC K G xs ds:=by
 rcases h with h|⟨a,e,h⟩
 .exact h.tup g
 .cases h.ob
theorem RB.dic{kvs:List (aA×D)}(g:aN K G H)(h:RB K G H v (.dic kvs)):∃a ps,v=.ref a/\Rd H a (.dK ps)/\c9 K G ps kvs:=by
 rcases h with h|⟨a,e,h⟩
 .exact h.dic g
 .cases h.ob with
 |dic r s=>exact⟨a,_,e,.inl r,s⟩
theorem RB.int{i:Int}(g:aN K G H)(h:RB K G H v (.int i)):v=.int i:=by
 rcases h with h|⟨a,e,h⟩
 .exact h.int g
 .cases h.ob
theorem RB.str{x:Str}(g:aN K G H)(h:RB K G H v (.str x)):v=.str x:=by
 rcases h with h|⟨a,e,h⟩
 .exact h.str g
 .cases h.ob
theorem RB.bl{b:Bool}(g:aN K G H)(h:RB K G H v (.bl b)):v=.bl b:=by
 rcases h with h|⟨a,e,h⟩
 .exact h.bl g
 .cases h.ob
theorem RB.non(g:aN K G H)(h:RB K G H v .non):v=.non:=by
 rcases h with h|⟨a,e,h⟩
 .exact h.non g
 .cases h.ob
theorem Paired.get{α β:Type}{F:α->β->Prop}:∀{l:List α}{r:List β}{i:Nat}{b:β},Paired F l r->r[i]? = some b->∃a,l[i]? = some a/\F a b
|_,_,_,_,.nil,e=>by simp at e
|_,_,0,_,.cons h _,e=>by simp at e;subst e;exact⟨_,rfl,h⟩
|_,_,i+1,b,.cons _ t,e=>by obtain⟨a,h1,h2⟩:=Paired.get (i:=i) t (by simpa using e);exact⟨a,by simpa using h1,h2⟩
theorem Paired.app{α β:Type}{F:α->β->Prop}{l l':List α}{r r':List β}(h:Paired F l r)(q:Paired F l' r'):Paired F (l++l') (r++r'):=by induction h with
|nil=>exact q
|cons h _ ih=>exact .cons h ih
theorem Paired.tk{α β:Type}{F:α->β->Prop}{l:List α}{r:List β}(n:Nat)(h:Paired F l r):Paired F (l.take n) (r.take n):=by induction h generalizing n with
|nil=>cases n <;> exact .nil
|cons h _ ih=>cases n with
 |zero=>exact .nil
 |succ n=>exact .cons h (ih n)
theorem Paired.dr{α β:Type}{F:α->β->Prop}{l:List α}{r:List β}(n:Nat)(h:Paired F l r):Paired F (l.drop n) (r.drop n):=by induction h generalizing n with
|nil=>cases n <;> exact .nil
|cons h t ih=>cases n with
 |zero=>exact .cons h t
 |succ n=>exact ih n
theorem Paired.st{α β:Type}{F:α->β->Prop}{a:α}{b:β}(h:F a b){l:List α}{r:List β}(n:Nat)(p:Paired F l r):Paired F (l.set n a) (r.set n b):=by induction p generalizing n with
|nil=>exact .nil
|cons q t ih=>cases n with
 |zero=>exact .cons h t
 |succ n=>exact .cons q (ih n)
theorem Paired.er{α β:Type}{F:α->β->Prop}{l:List α}{r:List β}(n:Nat)(p:Paired F l r):Paired F (l.eraseIdx n) (r.eraseIdx n):=by induction p generalizing n with
|nil=>exact .nil
|cons q t ih=>cases n with
 |zero=>exact t
 |succ n=>exact .cons q (ih n)
end
inductive Md where
 |sh|ow|bw
 deriving DecidableEq
abbrev ao:=List (Option D)
structure GE where
 gh:GH
 h0:Hp
 hd:Nat->Option (Option V×Option D)
def Bw(K:W.Frag)(h0:Hp)(G:GH)(H:Hp)(v:V)(d:D):Prop:=RG K G v d\/∃a,v=V.ref a/\Own K G H a d/\h0 a≠none
theorem Bw.grow{K:W.Frag}{h0:Hp}{G G':GH}{H H':Hp}{v:V}{d:D}(h:Bw K h0 G H v d)(w:Grow K G H G' H'):Bw K h0 G' H' v d:=by
 rcases h with h|⟨a,e,h1,h2⟩
 .exact .inl (h.mono w.ge)
 .exact .inr ⟨a,e,h1.mono w,h2⟩
theorem Bw.rb{K:W.Frag}{h0:Hp}{G:GH}{H:Hp}{v:V}{d:D}(h:Bw K h0 G H v d):RB K G H v d:=by
 rcases h with h|⟨a,e,h1,h2⟩
 .exact .inl h
 .exact .inr ⟨a,e,h1⟩
def Lk(r:ao)(st:L2.St)(i:Nat)(o:Option V×Option D):Prop:=st[i]? = some o.1/\∀d,r[i]? = some (some d)->o.2=some d
structure SI(X:Cx)(g:GE)(m:List Md)(r:ao)(G:GH)(st:L2.St)(H:Hp):Prop where
 gok:aN X.K G H
 old:∀a o,g.h0 a=some o->H a=some o
 ge:∀a d,g.gh a=some d->G a=some d
 gf:∀a,g.h0 a≠none->G a=g.gh a
 lm:m.length=st.length
 lr:r.length=st.length
 sh:∀(i:Nat) d,r[i]? = some (some d)->m[i]? = some .sh->∃v,st[i]? = some (some v)/\RG X.K G v d
 ow:∀(i:Nat) d,r[i]? = some (some d)->m[i]? = some .ow->∃a,st[i]? = some (some (V.ref a))/\Own X.K G H a d/\g.h0 a=none
 bw:∀(i:Nat) d,r[i]? = some (some d)->m[i]? = some .bw->∃v,st[i]? = some (some v)/\Bw X.K g.h0 G H v d
 dis:∀(i j:Nat) a d e,i≠j->r[i]? = some (some d)->r[j]? = some (some e)->m[i]? = some .ow->m[j]? = some .ow->st[i]? = some (some (V.ref a))->st[j]? = some (some (V.ref a))->False
 lk:∀(i:Nat) o,g.hd i=some o->m[i]? = some .bw->Lk r st i o
section
variable{X:Cx}{g:GE}{m:List Md}{r:ao}{G G':GH}{st:L2.St}{H H':Hp}
theorem SI.grow(s:SI X g m r G st H)(w:Grow X.K G H G' H'):SI X g m r G' st H' where
 gok:=w.ok
 old:=fun a o e=>w.he _ _ (s.old a o e)
 ge:=fun a d e=>w.ge _ _ (s.ge a d e)
 gf:=fun a h=>by
  have h1:H a≠none:=by cases e:g.h0 a with
  |none=>exact absurd e h
  |some o=>rw[s.old _ _ e];simp
  rw[w.gf a h1,s.gf a h]
 lm:=s.lm
 lr:=s.lr
 sh:=fun i d h1 h2=>by obtain⟨v,h3,h4⟩:=s.sh i d h1 h2;exact⟨v,h3,h4.mono w.ge⟩
 ow:=fun i d h1 h2=>by obtain⟨a,h3,h4,h5⟩:=s.ow i d h1 h2;exact⟨a,h3,h4.mono w,h5⟩
 bw:=fun i d h1 h2=>by obtain⟨v,h3,h4⟩:=s.bw i d h1 h2;exact⟨v,h3,h4.grow w⟩
 dis:=s.dis
 lk:=s.lk
theorem SI.grown(s:SI X g m r G st H):Grow X.K g.gh g.h0 G H:=⟨s.gok,s.old,s.ge,s.gf⟩
theorem SI.frz(s:SI X g m r G st H)(i:Nat)(hi:m[i]? = some .ow):(∃G',(∀a d,G a=some d->G' a=some d)/\SI X g (m.set i .sh) r G' st H)\/∃a,∀ob,∃G',(∀a d,G a=some d->G' a=some d)/\SI X g (m.set i .sh) r G' st (fz H a ob):=by
 have hlt:i<m.length:=(e_.mp hi).1;by_cases hb:∃d,r[i]? = some (some d)
 .obtain⟨d,hd⟩:=hb;obtain⟨a,h1,h2,h3⟩:=s.ow i d hd hi;refine .inr ⟨a,fun ob=>⟨gset G a d,eO h2.un,(s.gok.fast h2.un ob).gset h2.un (h2.ob.fast ob),fun b o e=>by rw[nB (by rintro rfl;rw[h3]at e;cases e)];exact s.old b o e,fun b e h=>eO h2.un b e (s.ge b e h),fun b h=>?_,by simpa using s.lm,s.lr,?_,?_,?_,?_,fun j o hj hm=>?_⟩⟩
  .rw[dM (by rintro rfl;exact h h3)];exact s.gf b h
  .intro j e hj hm;by_cases hij:i=j
   .subst hij;rw[hd]at hj;cases hj;exact⟨_,h1,.ref dB⟩
   .rw[j_ hij]at hm;obtain⟨v,q1,q2⟩:=s.sh j e hj hm;exact⟨v,q1,q2.mono (eO h2.un)⟩
  .intro j e hj hm;by_cases hij:i=j
   .subst hij;rw[p_ hlt]at hm;cases hm
   .rw[j_ hij]at hm;obtain⟨b,q1,q2,q3⟩:=s.ow j e hj hm;have hba:b≠a:=by
     rintro rfl
     exact s.dis i j b d e hij hd hj hi hm h1 q1
    exact⟨b,q1,⟨by rw[dM hba];exact q2.un,q2.ob.mono (eO h2.un) fun _ z=>by rw[nB hba];exact z⟩,q3⟩
  .intro j e hj hm;by_cases hij:i=j
   .subst hij;rw[p_ hlt]at hm;cases hm
   .rw[j_ hij]at hm;obtain⟨v,q1,q2⟩:=s.bw j e hj hm;refine⟨v,q1,?_⟩;rcases q2 with q2|⟨b,rfl,q2,q3⟩
    .exact .inl (q2.mono (eO h2.un))
    .have hba:b≠a:=by rintro rfl;exact q3 h3
     exact .inr ⟨b,rfl,⟨by rw[dM hba];exact q2.un,q2.ob.mono (eO h2.un) fun _ z=>by rw[nB hba];exact z⟩,q3⟩
  .intro j k b e e' hjk hj hk hm hm' q1 q2;have hij:i≠j:=by
    rintro rfl
    rw[p_ hlt]at hm;cases hm
   have hik:i≠k:=by
    rintro rfl
    rw[p_ hlt]at hm';cases hm'
   rw[j_ hij]at hm;rw[j_ hik]at hm';exact s.dis j k b e e' hjk hj hk hm hm' q1 q2
  .refine s.lk j o hj ?_;by_cases hij:i=j
   .subst hij;rw[p_ hlt]at hm;cases hm
   .rw[j_ hij]at hm;exact hm
 .refine .inl ⟨G,fun _ _ z=>z,s.gok,s.old,s.ge,s.gf,by simpa using s.lm,s.lr,?_,?_,?_,?_,fun j o hj hm=>?_⟩
  .intro j e hj hm;have hij:i≠j:=by rintro rfl;exact hb ⟨e,hj⟩
   rw[j_ hij]at hm;exact s.sh j e hj hm
  .intro j e hj hm;have hij:i≠j:=by rintro rfl;exact hb ⟨e,hj⟩
   rw[j_ hij]at hm;exact s.ow j e hj hm
  .intro j e hj hm;have hij:i≠j:=by rintro rfl;exact hb ⟨e,hj⟩
   rw[j_ hij]at hm;exact s.bw j e hj hm
  .intro j k b e e' hjk hj hk hm hm' q1 q2;have hij:i≠j:=by rintro rfl;exact hb ⟨e,hj⟩
   have hik:i≠k:=by rintro rfl;exact hb ⟨e',hk⟩
   rw[j_ hij]at hm;rw[j_ hik]at hm';exact s.dis j k b e e' hjk hj hk hm hm' q1 q2
  .refine s.lk j o hj ?_;by_cases hij:i=j
   .subst hij;rw[p_ hlt]at hm;cases hm
   .rw[j_ hij]at hm;exact hm
end
theorem PE.imp{X:Cx}{e:Expr}{t t':TE}(h:PE X e t)(i:∀σ H Q,t' σ H Q->t σ H Q):PE X e t':=fun pz s σ H Q I q=>h pz s σ H Q I (i σ H Q q)
theorem PT.imp{X:Cx}{e:Expr}{t t':TT}(h:PT X e t)(i:∀σ H Q,t' σ H Q->t σ H Q):PT X e t':=fun pz s σ H Q I q=>h pz s σ H Q I (i σ H Q q)
theorem PW.imp{X:Cx}{e:Expr}{t t':TT}(h:PW X e t)(i:∀σ H Q,t' σ H Q->t σ H Q):PW X e t':=fun whole pz s σ H Q I q=>h whole pz s σ H Q I (i σ H Q q)
theorem PA.imp{X:Cx}{e:List Expr}{t t':TA}(h:PA X e t)(i:∀σ H Q,t' σ H Q->t σ H Q):PA X e t':=fun pos pz s σ H Q I q=>h pos pz s σ H Q I (i σ H Q q)
theorem PS.imp{X:Cx}{e:Stmt}{t t':TS}(h:PS X e t)(i:∀D σ H,t' D σ H->t D σ H):PS X e t':=fun pz s σ H D I q=>h pz s σ H D I (i D σ H q)
theorem d7.imp{X:Cx}{e:List Stmt}{t t':TS}(h:d7 X e t)(i:∀D σ H,t' D σ H->t D σ H):d7 X e t':=fun pz s σ H D I q=>h pz s σ H D I (i D σ H q)
def GC(X:Cx)(σ:L2.St)(G:GH)(H':Hp)(e:c_)(x:D)(s':k_):Prop:=∃pz s H1 a C od nm ds,e=.ref a/\x=xD nm ds/\XN X.K nm C/\XF G od ds/\Inv X pz σ H1 s/\Fly X.prog X.w X.stack H1 s H' a (.ref C) od s'
def XW(X:Cx)(σ:L2.St)(G:GH)(H:Hp)(x:D):Prop:=∀pz e s' G' H',Grow X.K G H G' H'->Inv X pz σ H' s'->GC X σ G' H' e x s'->X.xe e s'
theorem XW.grow{X:Cx}{σ:L2.St}{G G1:GH}{H H1:Hp}{x:D}(h:XW X σ G H x)(w:Grow X.K G H G1 H1):XW X σ G1 H1 x:=fun pz e s' G' H' w' I q=>h pz e s' G' H' (w.trans w') I q
abbrev FE:=ao->Res D
def tE(X:Cx)(g:GE)(m:List Md)(f:FE):TE:=fun σ H Q=>∃r G,SI X g m r G σ H/\fin (f r) (fun d=>∀v G' H',Grow X.K G H G' H'->RG X.K G' v d->Q v H') (XW X σ G H)
def tB(X:Cx)(g:GE)(m:List Md)(f:FE):TE:=fun σ H Q=>∃r G,SI X g m r G σ H/\fin (f r) (fun d=>∀v G' H',Grow X.K G H G' H'->RB X.K G' H' v d->Q v H') (XW X σ G H)
def tO(X:Cx)(g:GE)(m:List Md)(f:FE):TE:=fun σ H Q=>∃r G,SI X g m r G σ H/\fin (f r) (fun d=>∀a G' H',Grow X.K G H G' H'->H a=none->Own X.K G' H' a d->Q (.ref a) H') (XW X σ G H)
def tQ(X:Cx)(g:GE)(m:List Md)(f:ao->Res Bool):TT:=fun σ H Q=>∃r G,SI X g m r G σ H/\fin (f r) (fun b=>∀G' H',Grow X.K G H G' H'->Q b H') (XW X σ G H)
def tL(X:Cx)(g:GE)(m:List Md)(f:ao->Res (List D)):TA:=fun σ H Q=>∃r G,SI X g m r G σ H/\fin (f r) (fun ds=>∀vs G' H',Grow X.K G H G' H'->bC X.K G' vs ds->Q vs H') (XW X σ G H)
def zH(X:Cx)(g:GE)(m:List Md)(f:ao->Res (List D)):TA:=fun σ H Q=>∃r G,SI X g m r G σ H/\fin (f r) (fun ds=>∀vs G' H',Grow X.K G H G' H'->Paired (RB X.K G' H') vs ds->Q vs H') (XW X σ G H)
def SE(X:Cx)(g:GE)(m:List Md)(e:Expr)(f:FE):Prop:=PE X e (tE X g m f)
def SB(X:Cx)(g:GE)(m:List Md)(e:Expr)(f:FE):Prop:=PE X e (tB X g m f)
def SO(X:Cx)(g:GE)(m:List Md)(e:Expr)(f:FE):Prop:=PE X e (tO X g m f)
def SQ(X:Cx)(g:GE)(m:List Md)(e:Expr)(f:ao->Res Bool):Prop:=PT X e (tQ X g m f)
def SW(X:Cx)(g:GE)(m:List Md)(e:Expr)(f:ao->Res Bool):Prop:=PW X e (tQ X g m f)
def SA(X:Cx)(g:GE)(m:List Md)(es:List Expr)(f:ao->Res (List D)):Prop:=PA X es (tL X g m f)
def gG(X:Cx)(g:GE)(m:List Md)(es:List Expr)(f:ao->Res (List D)):Prop:=PA X es (zH X g m f)
section
variable{X:Cx}{g:GE}{m:List Md}{e a b c:Expr}{f fa fb fc:FE}{pos:Pos}
theorem SE.toB(h:SE X g m e f):SB X g m e f:=PE.imp h fun σ H Q ⟨r,G,si,q⟩=>⟨r,G,si,bg q fun d k v G' H' w z=>k v G' H' w z.rb⟩
theorem Inv.fast{pz:List (Addr×Obj)}{σ:L2.St}{H:Hp}{s:k_}(I:Inv X pz σ H s)(a:Addr):∃ob,Inv X pz σ (fz H a ob) s:=by cases e:H a with
|none=>exact⟨{ cls:=.none,data:=.fields #[] },by unfold fz;rw[e];exact I⟩
|some u=>cases u with
 |dK ps=>
   obtain⟨z1,z2,vs,z3,o,es,ep,z4,z5⟩:=(show bG X.prog X.w H s.heap a (.dK ps)from I.hok a _ e)
   have ef:fz H a o=upd H a (.frz o (.dK ps)):=by unfold fz;rw[e]
   refine⟨o,?_⟩;rw[ef];exact I.write (t':=s.toks) (h':=s.heap) (x:=a) (e:=a) (by rw[e];exact trivial) (.inl rfl) (fun b u _ q=>q) ⟨o,z4⟩ (show bG X.prog X.w _ s.heap a (.frz o (.dK ps))from⟨z4,z1,z2,vs,z3,o,es,ep,z4,z5⟩)
 |_=>exact⟨{ cls:=.none,data:=.fields #[] },by unfold fz;rw[e];exact I⟩
theorem SO.toE(h:SO X g m e f):SE X g m e f:=by intro pz s σ H Q I ⟨r,G,si,q⟩;refine aR (h pz s σ H (fun v H'=>∃a,v=.ref a/\∀ob,Q v (fz H' a ob)) I ⟨r,G,si,bg q fun d k a G' H' w hn o=>⟨a,rfl,fun ob=>k _ _ _ (w.frz hn o ob) (.ref dB)⟩⟩) fun u s' ⟨v,H',I',rv,a,_,z⟩=>?_;obtain⟨ob,I2⟩:=Inv.fast I' a;exact⟨v,_,I2,rv,z ob⟩
theorem SO.toB(h:SO X g m e f):SB X g m e f:=h.toE.toB
theorem qp{v:V}{d:D}(h:PE X e (tC v))(s:Scl v d):SE X g m e fun _=>.ok d:=PE.imp h fun σ H Q ⟨r,G,si,q⟩=>q v G H (Grow.refl si.gok) (.scl s)
theorem pX{i:Int}{j}:SE X g m (.Constant (.int i) j pos) fun _=>.ok (.int i):=qp IL (.int i)
theorem eF{i:Bool}{j}:SE X g m (.Constant (.bool i) j pos) fun _=>.ok (.bl i):=qp Hc (.bl i)
theorem jd{j}:SE X g m (.Constant .none j pos) fun _=>.ok .non:=qp JX .non
theorem mw{i:Str}{j}:SE X g m (.Constant (.str i) j pos) fun _=>.ok (.str i):=qp J0 (.str i)
def dk(r:ao)(i:Nat):Res D:=match r[i]? with
|some (some d)=>.ok d
|_=>.stuck
theorem qM{r:ao}{i:Nat}{q:D->Prop}{x:D->Prop}(h:fin (dk r i) q x):∃d,r[i]? = some (some d)/\q d:=by
 unfold dk at h;split at h
 .rename_i d e;exact⟨d,e,h⟩
 .exact h.elim
theorem HF(i:Nat){x:Str}(hm:m[i]? = some .sh)(hN:X.N[i]? = some x)(hv:im X.env.scope x)(hd:(x==("__debug__" : Str))=false:=by decide)(hcd:(x==("__classdict__" : Str))=false:=by decide):SE X g m (.Name x pos) fun r=>dk r i:=by refine PE.imp (mN hN hv hd hcd) fun σ H Q ⟨r,G,si,q⟩=>?_;obtain⟨d,e,k⟩:=qM q;obtain⟨v,e1,e2⟩:=si.sh i d e hm;exact⟨v,e1,k v G H (Grow.refl si.gok) e2⟩
theorem Jt(i:Nat){x:Str}(hm:i<m.length)(hN:X.N[i]? = some x)(hv:im X.env.scope x)(hd:(x==("__debug__" : Str))=false:=by decide)(hcd:(x==("__classdict__" : Str))=false:=by decide):SB X g m (.Name x pos) fun r=>dk r i:=by refine PE.imp (mN hN hv hd hcd) fun σ H Q ⟨r,G,si,q⟩=>?_;obtain⟨d,e,k⟩:=qM q;have hm':m[i]? = some m[i]:=b_ hm;cases h:m[i]with
|sh=>obtain⟨v,e1,e2⟩:=si.sh i d e (hm'.trans (by rw[h]));exact⟨v,e1,k v G H (Grow.refl si.gok) e2.rb⟩
|ow=>obtain⟨v,e1,e2,_⟩:=si.ow i d e (hm'.trans (by rw[h]));exact⟨_,e1,k _ G H (Grow.refl si.gok) (.inr ⟨v,rfl,e2⟩)⟩
|bw=>obtain⟨v,e1,e2⟩:=si.bw i d e (hm'.trans (by rw[h]));exact⟨_,e1,k _ G H (Grow.refl si.gok) e2.rb⟩
theorem lS{β:Type}{k:D->D->Res β}{q:β->Prop}{R:V->V->Hp->Prop}{r:ao}{G:GH}{σ:L2.St}{H:Hp}(si:SI X g m r G σ H)(h:fin ((fa r).bind fun d1=>(fb r).bind fun d2=>k d1 d2) q (XW X σ G H))(hk:∀d1 d2 v1 v2 G2 H2,Grow X.K G H G2 H2->RB X.K G2 H2 v1 d1->RB X.K G2 H2 v2 d2->fin (k d1 d2) q (XW X σ G H)->R v1 v2 H2):tB X g m fa σ H fun v1 H1=>tB X g m fb σ H1 fun v2 H2=>R v1 v2 H2:=by refine⟨r,G,si,bg (ba h) fun d1 h1 v1 G1 H1 w1 r1=>⟨r,G1,si.grow w1,?_⟩⟩;cases e:fb r with
|ok d2=>rw[e]at h1;exact fun v2 G2 H2 w2 r2=>hk d1 d2 v1 v2 G2 H2 (w1.trans w2) (r1.mono w2) r2 h1
|exc x=>rw[e]at h1;exact(show XW X σ G H x from h1).grow w1
|stuck=>rw[e]at h1;exact h1
def bX{α:Type}:Option α->Res α
|some a=>.ok a
|none=>.stuck
@[simp] theorem opt_some{α:Type}(a:α):bX (some a)=.ok a:=rfl
@[simp] theorem opt_none{α:Type}:bX (none:Option α)=.stuck:=rfl
theorem cD{α:Type}{o:Option α}{q:α->Prop}{x:D->Prop}(h:fin (bX o) q x):∃a,o=some a/\q a:=by cases o with
|none=>exact h.elim
|some a=>exact⟨a,rfl,h⟩
def dH(K:W.Frag)(r:R2)(k:D->D->Option D):Prop:=∀(G:GH)(H:Hp)(v1 v2:V)(d1 d2 d:D)(Q:VK),aN K G H->RB K G H v1 d1->RB K G H v2 d2->k d1 d2=some d ->(∀v G' H',Grow K G H G' H'->RG K G' v d->Q v H')->r v1 v2 H Q
def f2(fa fb:FE)(k:D->D->Option D):FE:=fun r=>(fa r).bind fun d1=>(fb r).bind fun d2=>bX (k d1 d2)
theorem tD{R:R2}{k:D->D->Option D}(ho:dH X.K R k)(h:PE X e (o4 R (tB X g m fa) (tB X g m fb))):SE X g m e (f2 fa fb k):=by refine PE.imp h fun σ H Q ⟨r,G,si,q⟩=>?_;refine lS si q fun d1 d2 v1 v2 G2 H2 w r1 r2 q2=>?_;obtain⟨d,e,q2⟩:=cD q2;exact ho G2 H2 v1 v2 d1 d2 d Q w.ok r1 r2 e fun v G' H' w' z=>q2 v G' H' (w.trans w') z
theorem jy{op:Operator}{R:R2}{k:D->D->Option D}(hr:a9 X (Sb op) R)(ho:dH X.K R k)(ha:SB X g m a fa)(hb:SB X g m b fb):SE X g m (.BinOp a op b pos) (f2 fa fb k):=tD ho (Ba hr ha hb)
theorem tx{op:X2}{R:R2}{k:D->D->Option D}(hr:a9 X (QY op) R)(ho:dH X.K R k)(ha:SB X g m a fa)(hb:SB X g m b fb)(hm:Sz op b=false):SE X g m (.Compare a [op] [b] pos) (f2 fa fb k):=tD ho (Lr hr ha hb hm)
def iZ:D->Option Bool
|.bl b=>some b
|_=>none
def aV(f:FE):ao->Res Bool:=fun r=>(f r).bind fun d=>bX (iZ d)
theorem kw{op:X2}{R:R2}{k:D->D->Option D}(hr:a9 X (QY op) R)(ho:dH X.K R k)(ha:SB X g m a fa)(hb:SB X g m b fb)(hm:Sz op b=false):SQ X g m (.Compare a [op] [b] pos) (aV (f2 fa fb k)):=by
 refine PT.imp (LB hr ha hb hm) fun σ H Q ⟨r,G,si,q⟩=>?_;have e:aV (f2 fa fb k) r=(fa r).bind fun d1=>(fb r).bind fun d2=>(bX (k d1 d2)).bind fun d=>bX (iZ d):=by unfold aV f2;cases fa r with
 |ok d1=>cases fb r <;> rfl
 |exc _=>rfl
 |stuck=>rfl
 rw[e]at q;refine lS (R:=fun x y H2=>R x y H2 fun x H'=>∃k,x=V.bl k/\Q k H') si q fun d1 d2 v1 v2 G2 H2 w r1 r2 q3=>?_;obtain⟨d,e,q3⟩:=cD (ba q3);obtain⟨b,eb,q3⟩:=cD q3;cases d with
|bl b'=>cases eb;exact ho G2 H2 v1 v2 d1 d2 _ _ w.ok r1 r2 e fun v G' H' w' z=>⟨_,z.bl w'.ok,q3 G' H' (w.trans w')⟩
|_=>cases eb
end
instance decMul(i j:Int):Decidable (gx i j):=by unfold gx;infer_instance
instance decDiv(i j:Int):Decidable (g6 i j):=by unfold g6;infer_instance
instance decPow(i j:Int):Decidable (g0 i j):=by unfold g0;infer_instance
def li(k:Int->Int->D):D->D->Option D
|.int a,.int b=>some (k a b)
|_,_=>none
def jb(C:Int->Int->Prop)[∀a b,Decidable (C a b)](k:Int->Int->D):D->D->Option D
|.int a,.int b=>if C a b then some (k a b)else none
|_,_=>none
@[simp] theorem ints2_int(k:Int->Int->D)(a b:Int):li k (.int a) (.int b)=some (k a b):=rfl
@[simp] theorem intsC_int(C:Int->Int->Prop)[∀a b,Decidable (C a b)](k:Int->Int->D)(a b:Int):jb C k (.int a) (.int b)=if C a b then some (k a b)else none:=rfl
section
variable{K:W.Frag}
theorem lA{gv:Int->Int->V}{gd:Int->Int->D}(hs:∀i j,Scl (gv i j) (gd i j)):dH K (jp gv) (li gd):=by
 intro G H v1 v2 d1 d2 d Q g r1 r2 e q;unfold li at e;split at e
 .cases e;exact⟨_,_,r1.int g,r2.int g,q _ G H (Grow.refl g) (.scl (hs _ _))⟩
 .cases e
theorem mW{C:Int->Int->Prop}[∀a b,Decidable (C a b)]{gv:Int->Int->V}{gd:Int->Int->D}(hs:∀i j,Scl (gv i j) (gd i j)):dH K (rI C gv) (jb C gd):=by
 intro G H v1 v2 d1 d2 d Q g r1 r2 e q;unfold jb at e;split at e
 .split at e
  .rename_i hc;cases e;exact⟨_,_,r1.int g,r2.int g,hc,q _ G H (Grow.refl g) (.scl (hs _ _))⟩
  .cases e
 .cases e
end
abbrev iG:D->D->Option D:=li fun a b=>.int (a-b)
abbrev cY:D->D->Option D:=jb gx fun a b=>.int (a*b)
abbrev jC:D->D->Option D:=jb g6 fun a b=>.int (a/b)
abbrev bH:D->D->Option D:=jb (fun _ b=>0<b) fun a b=>.int (a%b)
abbrev iR:D->D->Option D:=jb g0 fun a b=>.int (a^b.toNat)
abbrev iU:D->D->Option D:=li fun a b=>.bl (decide (a<b))
abbrev zV:D->D->Option D:=li fun a b=>.bl (decide (a<=b))
abbrev lf:D->D->Option D:=li fun a b=>.bl (decide (b<a))
section
variable{X:Cx}{g:GE}{m:List Md}{e a b c:Expr}{f fa fb fc:FE}{pos:Pos}
theorem AN(ha:SB X g m a fa)(hb:SB X g m b fb):SE X g m (.BinOp a .Sub b pos) (f2 fa fb iG):=jy II (lA fun _ _=>.int _) ha hb
theorem lv(ha:SB X g m a fa)(hb:SB X g m b fb):SE X g m (.BinOp a .Mult b pos) (f2 fa fb cY):=jy IF (mW fun _ _=>.int _) ha hb
theorem uC(ha:SB X g m a fa)(hb:SB X g m b fb):SE X g m (.BinOp a .FloorDiv b pos) (f2 fa fb jC):=jy LV (mW fun _ _=>.int _) ha hb
theorem iq(ha:SB X g m a fa)(hb:SB X g m b fb):SE X g m (.BinOp a .Mod b pos) (f2 fa fb bH):=jy IE (mW fun _ _=>.int _) ha hb
theorem Ip(ha:SB X g m a fa)(hb:SB X g m b fb):SE X g m (.BinOp a .Pow b pos) (f2 fa fb iR):=jy IG (mW fun _ _=>.int _) ha hb
theorem zN(ha:SB X g m a fa)(hb:SB X g m b fb):SE X g m (.Compare a [.Lt] [b] pos) (f2 fa fb iU):=tx tM (lA fun _ _=>.bl _) ha hb (jF _)
theorem zO(ha:SB X g m a fa)(hb:SB X g m b fb):SE X g m (.Compare a [.Gt] [b] pos) (f2 fa fb lf):=tx AD (lA fun _ _=>.bl _) ha hb (jF _)
theorem lU(ha:SB X g m a fa)(hb:SB X g m b fb):SQ X g m (.Compare a [.Lt] [b] pos) (aV (f2 fa fb iU)):=kw tM (lA fun _ _=>.bl _) ha hb (jF _)
theorem pc(ha:SB X g m a fa)(hb:SB X g m b fb):SQ X g m (.Compare a [.Gt] [b] pos) (aV (f2 fa fb lf)):=kw AD (lA fun _ _=>.bl _) ha hb (jF _)
def f1(fa:FE)(k:D->Option D):FE:=fun r=>(fa r).bind fun d=>bX (k d)
def iT:D->Option D
|.int a=>some (.int (-a))
|_=>none
@[simp] theorem negI_int(a:Int):iT (.int a)=some (.int (-a)):=rfl
theorem AM(ha:SB X g m a fa):SE X g m (.UnaryOp .USub a pos) (f1 fa iT):=by
 refine PE.imp (Ih KQ ha) fun σ H Q ⟨r,G,si,q⟩=>⟨r,G,si,bg (ba q) fun d q1 v G1 H1 w1 r1=>?_⟩
 obtain⟨d',e,q2⟩:=cD q1;cases d with
|int i=>cases e;exact⟨i,r1.int w1.ok,q2 _ G1 H1 w1 (.scl (.int _))⟩
|_=>cases e
def f6:D->Option Bool
|.non=>some false
|.bl b=>some b
|.int i=>some (i != 0)
|.str y=>if y.length<=sizeLine then some ((y.length:Int) != 0)else none
|.lst ds=>some (! ds.isEmpty)
|.tup ds=>some (! ds.isEmpty)
|.dic kvs=>some (! kvs.isEmpty)
|.obj _ _=>none
theorem xz{α β:Type}{F:α->β->Prop}{l:List α}{r:List β}(h:Paired F l r):l.isEmpty=r.isEmpty:=by cases h <;> rfl
theorem Lh{K:W.Frag}{G:GH}{H:Hp}{v:V}{d:D}{b:Bool}(gk:aN K G H)(h:RB K G H v d)(e:f6 d=some b):mf K v H b:=by cases d with
|non=>cases e;rw[h.non gk];rfl
|bl b'=>cases e;rw[h.bl gk];rfl
|int i=>cases e;rw[h.int gk];rfl
|str y=>
  rw[h.str gk];have e':(if y.length<=sizeLine then some ((y.length:Int) != 0)else none)=some b:=e;by_cases hy:y.length<=sizeLine
  .rw[if_pos hy]at e';cases e';exact⟨hy,rfl⟩
  .rw[if_neg hy]at e';cases e'
|lst ds=>cases e;obtain⟨a,xs,rfl,s,r⟩:=h.lst gk;exact .inl ⟨xs,s,by rw[xz r]⟩
|tup ds=>cases e;obtain⟨a,xs,rfl,s,r⟩:=h.tup gk;exact .inr (.inl ⟨xs,s,by rw[xz r]⟩)
|dic kvs=>cases e;obtain⟨a,xs,rfl,s,r⟩:=h.dic gk;exact .inr (.inr ⟨xs,s,by rw[xz r]⟩)
|obj _ _=>cases e
def cB(f:FE):ao->Res Bool:=fun r=>(f r).bind fun d=>bX (f6 d)
theorem ip(ha:SB X g m a fa)(he:∀whole,isTrue a X.env whole=(do let v <-whole;X_ a.pos;Vi [v] (truthy v)):=by intro _;rfl):SQ X g m a (cB fa):=by
 refine PT.imp (ND ha he) fun σ H Q ⟨r,G,si,q⟩=>⟨r,G,si,bg (ba q) fun d q1 v G1 H1 w1 r1=>?_⟩
 obtain⟨b,e,q2⟩:=cD q1;exact⟨b,Lh w1.ok r1 e,q2 G1 H1 w1⟩
abbrev FQ:=ao->Res Bool
def eL(p q:FQ):FQ:=fun r=>(p r).bind fun c=>if c=true then q r else .ok false
def gS(p q:FQ):FQ:=fun r=>(p r).bind fun c=>if c=true then .ok true else q r
def dm(p:FQ):FQ:=fun r=>(p r).bind fun c=>.ok (! c)
variable{p q:FQ}{rest:List Expr}
theorem GF{α:Type}{r:Res α}{q:α->Prop}{x x':D->Prop}(h:fin r q x)(hx:∀e,x e->x' e):fin r q x':=by cases r with
|ok a=>exact h
|exc e=>exact hx e h
|stuck=>exact h
theorem fL{α:Type}{r:Res α}{σ:L2.St}{G G1:GH}{H H1:Hp}{P P':α->Prop}(h:fin r P (XW X σ G H))(w:Grow X.K G H G1 H1)(hp:∀a,P a->P' a):fin r P' (XW X σ G1 H1):=GF (bg h hp) fun _ x=>x.grow w
theorem Bm(ha:SQ X g m a p):SW X g m (.BoolOp .And [a] pos) p:=LG ha
theorem qb(ha:SQ X g m a p):SW X g m (.BoolOp .Or [a] pos) p:=JO ha
theorem AW(ha:SQ X g m a p)(hb:SW X g m (.BoolOp .And (b::rest) pos) q):SW X g m (.BoolOp .And (a::b::rest) pos) (eL p q):=by
 refine PW.imp (JN ha hb) fun σ H Q ⟨r,G,si,k⟩=>⟨r,G,si,bg (ba k) fun c k1 G1 H1 w1=>?_⟩
 cases c with
|true=>rw[if_pos rfl]at k1 ⊢;exact⟨r,G1,si.grow w1,fL k1 w1 fun b z G' H' w'=>z G' H' (w1.trans w')⟩
|false=>rw[if_neg g_]at k1 ⊢;exact k1 G1 H1 w1
theorem iI(ha:SQ X g m a p)(hb:SW X g m (.BoolOp .Or (b::rest) pos) q):SW X g m (.BoolOp .Or (a::b::rest) pos) (gS p q):=by
 refine PW.imp (Ij ha hb) fun σ H Q ⟨r,G,si,k⟩=>⟨r,G,si,bg (ba k) fun c k1 G1 H1 w1=>?_⟩
 cases c with
|true=>rw[if_pos rfl]at k1 ⊢;exact k1 G1 H1 w1
|false=>rw[if_neg g_]at k1 ⊢;exact⟨r,G1,si.grow w1,fL k1 w1 fun b z G' H' w'=>z G' H' (w1.trans w')⟩
theorem SW.toQ(h:SW X g m e p):SQ X g m e p:=PW.pt h
theorem lu(ha:SQ X g m a p):SQ X g m (.UnaryOp .Not a pos) (dm p):=PT.imp (JL ha) fun σ H Q ⟨r,G,si,k⟩=>⟨r,G,si,bg (ba k) fun c k1 G1 H1 w1=>k1 G1 H1 w1⟩
def fZ(fa fb:FE):FE:=fun r=>(fa r).bind fun d=>(bX (iZ d)).bind fun c=>if c=true then fb r else .ok (.bl false)
def lN(fa fb:FE):FE:=fun r=>(fa r).bind fun d=>(bX (iZ d)).bind fun c=>if c=true then .ok (.bl true)else fb r
def lO(fa:FE):FE:=fun r=>(fa r).bind fun d=>(bX (iZ d)).bind fun c=>.ok (.bl (! c))
theorem pY{op}(h:SE X g m a fa):SE X g m (.BoolOp op [a] pos) fa:=JZ h
theorem tw(ha:SE X g m a fa)(hb:SE X g m (.BoolOp .And (b::rest) pos) fb):SE X g m (.BoolOp .And (a::b::rest) pos) (fZ fa fb):=by
 refine PE.imp (IJ ha hb) fun σ H Q ⟨r,G,si,k⟩=>⟨r,G,si,bg (ba k) fun d k1 v G1 H1 w1 r1=>?_⟩
 obtain⟨c,e,k2⟩:=cD (ba k1);cases d with
|bl c'=>cases e;refine⟨_,r1.bl w1.ok,?_⟩;cases c with
 |true=>rw[if_pos rfl]at k2 ⊢;exact⟨r,G1,si.grow w1,fL k2 w1 fun b z v G' H' w'=>z v G' H' (w1.trans w')⟩
 |false=>rw[if_neg g_]at k2 ⊢;exact k2 _ G1 H1 w1 (.scl (.bl _))
|_=>cases e
theorem zM(ha:SE X g m a fa)(hb:SE X g m (.BoolOp .Or (b::rest) pos) fb):SE X g m (.BoolOp .Or (a::b::rest) pos) (lN fa fb):=by
 refine PE.imp (Ig ha hb) fun σ H Q ⟨r,G,si,k⟩=>⟨r,G,si,bg (ba k) fun d k1 v G1 H1 w1 r1=>?_⟩
 obtain⟨c,e,k2⟩:=cD (ba k1);cases d with
|bl c'=>cases e;refine⟨_,r1.bl w1.ok,?_⟩;cases c with
 |false=>rw[if_neg g_]at k2 ⊢;exact⟨r,G1,si.grow w1,fL k2 w1 fun b z v G' H' w'=>z v G' H' (w1.trans w')⟩
 |true=>rw[if_pos rfl]at k2 ⊢;exact k2 _ G1 H1 w1 (.scl (.bl _))
|_=>cases e
theorem Io(ha:SE X g m a fa):SE X g m (.UnaryOp .Not a pos) (lO fa):=by
 refine PE.imp (JY ha) fun σ H Q ⟨r,G,si,k⟩=>⟨r,G,si,bg (ba k) fun d k1 v G1 H1 w1 r1=>?_⟩
 obtain⟨c,e,k2⟩:=cD (ba k1);cases d with
|bl c'=>cases e;exact⟨_,r1.bl w1.ok,k2 _ G1 H1 w1 (.scl (.bl _))⟩
|_=>cases e
def kd(p:FQ)(fa fb:FE):FE:=fun r=>(p r).bind fun c=>if c=true then fa r else fb r
theorem tz(hc:SQ X g m c p)(ha:SE X g m a fa)(hb:SE X g m b fb):SE X g m (.IfExp c a b pos) (kd p fa fb):=by
 refine PE.imp (MB hc ha hb) fun σ H Q ⟨r,G,si,k⟩=>⟨r,G,si,bg (ba k) fun c k1 G1 H1 w1=>?_⟩
 cases c with
|true=>rw[if_pos rfl]at k1 ⊢;exact⟨r,G1,si.grow w1,fL k1 w1 fun b z v G' H' w'=>z v G' H' (w1.trans w')⟩
|false=>rw[if_neg g_]at k1 ⊢;exact⟨r,G1,si.grow w1,fL k1 w1 fun b z v G' H' w'=>z v G' H' (w1.trans w')⟩
variable{es:List Expr}{fl fr:ao->Res (List D)}
def ae:ao->Res (List D):=fun _=>.ok []
def ai(fa:FE)(fl:ao->Res (List D)):ao->Res (List D):=fun r=>(fa r).bind fun d=>(fl r).bind fun ds=>.ok (d::ds)
theorem bU:SA X g m [] ae:=PA.imp kF fun σ H Q ⟨r,G,si,k⟩=>k [] G H (Grow.refl si.gok) .nil
theorem bF(ha:SE X g m e fa)(hr:SA X g m es fl)(hs:s_ (e::es) X.env=(false,eval e X.env)::s_ es X.env:=by rfl):SA X g m (e::es) (ai fa fl):=by
 refine PA.imp (iy ha hr hs) fun σ H Q ⟨r,G,si,k⟩=>⟨r,G,si,bg (ba k) fun d k1 v G1 H1 w1 r1=>⟨r,G1,si.grow w1,?_⟩⟩
 exact fL (ba k1) w1 fun ds z vs G2 H2 w2 r2=>z (v::vs) G2 H2 (w1.trans w2) (.cons (r1.mono w2.ge) r2)
theorem bh:gG X g m [] ae:=PA.imp kF fun σ H Q ⟨r,G,si,k⟩=>k [] G H (Grow.refl si.gok) .nil
theorem bf(ha:SB X g m e fa)(hr:gG X g m es fl)(hs:s_ (e::es) X.env=(false,eval e X.env)::s_ es X.env:=by rfl):gG X g m (e::es) (ai fa fl):=by
 refine PA.imp (iy ha hr hs) fun σ H Q ⟨r,G,si,k⟩=>⟨r,G,si,bg (ba k) fun d k1 v G1 H1 w1 r1=>⟨r,G1,si.grow w1,?_⟩⟩
 exact fL (ba k1) w1 fun ds z vs G2 H2 w2 r2=>z (v::vs) G2 H2 (w1.trans w2) (.cons (r1.mono w2) r2)
def sz(ds:List D):Option (List D):=if ds.length<=sizeLine then some ds else none
theorem tH{ds ds':List D}(h:sz ds=some ds'):ds'=ds/\ds.length<=sizeLine:=by
 unfold sz at h;split at h
 .rename_i hl;cases h;exact⟨rfl,hl⟩
 .cases h
theorem HG{ds:List D}(h:ds.length<=sizeLine):sz ds=some ds:=if_pos h
def d6(fl:ao->Res (List D)):FE:=fun r=>(fl r).bind fun ds=>(bX (sz ds)).bind fun ds=>.ok (.tup ds)
def fQ(fl:ao->Res (List D)):FE:=fun r=>(fl r).bind fun ds=>(bX (sz ds)).bind fun ds=>.ok (.lst ds)
theorem fU{x1}(h:SA X g m es fl):SE X g m (.Tuple es x1 pos) (d6 fl):=by
 refine PE.imp (J2 h) fun σ H Q ⟨r,G,si,k⟩=>⟨r,G,si,bg (ba k) fun ds k1 vs G1 H1 w1 r1=>?_⟩
 obtain⟨ds',e,k2⟩:=cD (ba k1);obtain⟨rfl,hl⟩:=tH e;have hlen:=Paired.length r1;refine⟨by omega,fun p hp=>?_⟩;exact k2 _ _ _ (w1.trans (Grow.newF (d:=.tup ds') w1.ok hp (.tup (.inl ca) r1))) (.ref dB)
theorem hJ(h:SA X g m es fl):SO X g m (.List es pos) (fQ fl):=by
 refine PE.imp (JW h) fun σ H Q ⟨r,G,si,k⟩=>⟨r,G,si,bg (ba k) fun ds k1 vs G1 H1 w1 r1=>?_⟩
 obtain⟨ds',e,k2⟩:=cD (ba k1);obtain⟨rfl,hl⟩:=tH e;have hlen:=Paired.length r1;refine⟨by omega,fun p hp=>?_⟩;have hn:H p=none:=by cases q:H p with
 |none=>rfl
 |some o=>rw[w1.he _ _ q]at hp;cases hp
 exact k2 p G1 _ (w1.trans (Grow.new w1.ok hp _)) hn ⟨w1.ok.isN hp,.lst ca r1⟩
end
def ny(K:W.Frag)(r:List V->Hp->VK->Prop)(k:List D->Option D):Prop:=∀(G:GH)(H:Hp)(vs:List V)(ds:List D)(d:D)(Q:VK),aN K G H->Paired (RB K G H) vs ds->k ds=some d ->(∀v G' H',Grow K G H G' H'->RG K G' v d->Q v H')->r vs H Q
def Aw(K:W.Frag)(r:List V->Hp->VK->Prop)(k:List D->Option D):Prop:=∀(G:GH)(H:Hp)(vs:List V)(ds:List D)(d:D)(Q:VK),aN K G H->Paired (RB K G H) vs ds->k ds=some d ->(∀a G' H',Grow K G H G' H'->H a=none->Own K G' H' a d->Q (.ref a) H')->r vs H Q
def fC(fl:ao->Res (List D))(k:List D->Option D):FE:=fun r=>(fl r).bind fun ds=>bX (k ds)
theorem Grow.back{K:W.Frag}{G G1:GH}{H H1:Hp}(w:Grow K G H G1 H1){a:Addr}(hn:H1 a=none):H a=none:=by cases q:H a with
|none=>rfl
|some o=>rw[w.he _ _ q]at hn;cases hn
section
variable{X:Cx}{g:GE}{m:List Md}{e a b c:Expr}{f fa fb fc:FE}{pos p p2:Pos}{es:List Expr}{fl:ao->Res (List D)}{x:Str}{id T:String}{R:List V->Hp->VK->Prop}{k:List D->Option D}
theorem jZ(hk:ny X.K R k)(h:PE X e (sO R (zH X g m fl))):SE X g m e (fC fl k):=by
 refine PE.imp h fun σ H Q ⟨r,G,si,q⟩=>⟨r,G,si,bg (ba q) fun ds q1 vs G1 H1 w1 r1=>?_⟩
 obtain⟨d,e,q2⟩:=cD q1;exact hk G1 H1 vs ds d Q w1.ok r1 e fun v G' H' w' z=>q2 v G' H' (w1.trans w') z
theorem pW(hk:Aw X.K R k)(h:PE X e (sO R (zH X g m fl))):SO X g m e (fC fl k):=by
 refine PE.imp h fun σ H Q ⟨r,G,si,q⟩=>⟨r,G,si,bg (ba q) fun ds q1 vs G1 H1 w1 r1=>?_⟩
 obtain⟨d,e,q2⟩:=cD q1;exact hk G1 H1 vs ds d Q w1.ok r1 e fun v G' H' w' hn z=>q2 v G' H' (w1.trans w') (w1.back hn) z
def lenD:List D->Option D
|[.str y]=>if y.length<=sizeLine then some (.int y.length)else none
|[.lst ds]=>some (.int ds.length)
|[.tup ds]=>some (.int ds.length)
|[.dic kvs]=>some (.int kvs.length)
|_=>none
theorem Jf{K:W.Frag}:ny K (fun xs H Q=>(∃x n,xs=[x]/\pB K x H n/\Q (.int n) H)\/∃a kvs,xs=[V.ref a]/\Rd H a (.dK kvs)/\Q (.int kvs.length) H) lenD:=by
 intro G H vs ds d Q gk rs e q;unfold lenD at e;split at e
 .split at e
  .cases e;cases rs with
  |cons r t=>cases t;exact .inl ⟨_,_,rfl,by rw[r.str gk];exact⟨by assumption,rfl⟩,q _ G H (Grow.refl gk) (.scl (.int _))⟩
  .cases e
 .cases e;cases rs with
 |cons r t=>cases t;obtain⟨a,xs,rfl,s,r⟩:=r.lst gk;have:=Paired.length r;exact .inl ⟨_,_,rfl,.inl ⟨xs,s,rfl⟩,q _ G H (Grow.refl gk) (.scl (by rw[this];exact .int _))⟩
 .cases e;cases rs with
 |cons r t=>cases t;obtain⟨a,xs,rfl,s,r⟩:=r.tup gk;have:=Paired.length r;exact .inl ⟨_,_,rfl,.inr ⟨xs,s,rfl⟩,q _ G H (Grow.refl gk) (.scl (by rw[this];exact .int _))⟩
 .cases e;cases rs with
 |cons r t=>cases t;obtain⟨a,xs,rfl,s,r⟩:=r.dic gk;have:=Paired.length r;exact .inr ⟨_,_,rfl,s,q _ G H (Grow.refl gk) (.scl (by rw[this];exact .int _))⟩
 .cases e
theorem eT(hg:Gl X "len")(hm:X.mg "len" = none)(ha:gG X g m (e::es) fl)(he:s_ (e::es) X.env=(false,eval e X.env)::s_ es X.env:=by rfl)(hpl:(backTo pos (s_ es X.env)).any (·.1)=false:=by rfl):SE X g m (.Call (.Name "len" p) (e::es) [] pos) (fC fl lenD):=jZ Jf (lG (dZ.or ME M6) hg hm PySem.boot_len ha (by decide) (by decide) he hpl)
def kt:List D->Option D
|[.lst ds]=>some (.lst ds)
|[.tup ds]=>some (.lst ds)
|_=>none
theorem Kc{K:W.Frag}:Aw K (fun xs H Q=>∃p ys,xs=[.ref p]/\(aY K H p ys\/ce K H p ys)/\∀l,H l=none->Q (.ref l) (upd H l (.lst ys))) kt:=by
 intro G H vs ds d Q gk rs e q;have fin:∀{ys:List V}{zs:List D},bC K G ys zs->(∀(a:Addr)(G':GH)(H':Hp),Grow K G H G' H'->H a=none->Own K G' H' a (.lst zs)->Q (.ref a) H')->∀l,H l=none->Q (.ref l) (upd H l (.lst ys)):=fun r q l hl=>q l G _ (Grow.new gk hl _) hl ⟨gk.isN hl,.lst ca r⟩;unfold kt at e;split at e
 .cases e;cases rs with
 |cons r t=>cases t;obtain⟨a,xs,rfl,s,r⟩:=r.lst gk;exact⟨a,xs,rfl,.inl s,fin r q⟩
 .cases e;cases rs with
 |cons r t=>cases t;obtain⟨a,xs,rfl,s,r⟩:=r.tup gk;exact⟨a,xs,rfl,.inr s,fin r q⟩
 .cases e
theorem tY(hg:Gl X "list")(hm:X.mg "list" = none)(ha:gG X g m (e::es) fl)(he:s_ (e::es) X.env=(false,eval e X.env)::s_ es X.env:=by rfl)(hpl:(backTo pos (s_ es X.env)).any (·.1)=false:=by rfl):SO X g m (.Call (.Name "list" p) (e::es) [] pos) (fC fl kt):=pW Kc (ou Pc hg hm rfl ha (by decide) (by decide) he hpl)
def tupD:List D->Option D
|[.lst ds]=>some (.tup ds)
|[.tup ds]=>some (.tup ds)
|_=>none
theorem JH{K:W.Frag}:ny K (fun xs H Q=>∃p ys,xs=[.ref p]/\((aY K H p ys/\∀l,H l=none->Q (.ref l) (upd H l (.tup ys)))\/(ce K H p ys/\Q (.ref p) H))) tupD:=by
 intro G H vs ds d Q gk rs e q;unfold tupD at e;split at e
 .cases e;cases rs with
 |cons r t=>cases t;obtain⟨a,xs,rfl,s,r⟩:=r.lst gk;exact⟨a,xs,rfl,.inl ⟨s,fun l hl=>q _ _ _ (Grow.newF gk hl (.tup (.inl ca) r)) (.ref dB)⟩⟩
 .cases e;cases rs with
 |cons r t=>
   cases t;rcases r with r|⟨a,_,o⟩
   .obtain⟨a,xs,rfl,s,r'⟩:=r.tup gk;exact⟨a,xs,rfl,.inr ⟨s,q _ G H (Grow.refl gk) r⟩⟩
   .cases o.ob
 .cases e
theorem gA(hg:Gl X "tuple")(hm:X.mg "tuple" = none)(ha:gG X g m (e::es) fl)(he:s_ (e::es) X.env=(false,eval e X.env)::s_ es X.env:=by rfl)(hpl:(backTo pos (s_ es X.env)).any (·.1)=false:=by rfl):SE X g m (.Call (.Name "tuple" p) (e::es) [] pos) (fC fl tupD):=jZ JH (ou PN hg hm rfl ha (by decide) (by decide) he hpl)
def ixD:D->D->Option D
|.lst ds,.int i=>eS ds i
|.tup ds,.int i=>eS ds i
|.str z,.int i=>if z.length<=sizeLine then(eS z.cps.toList i).map fun c=>.str ⟨#[c]⟩else none
|_,_=>none
theorem Al{K:W.Frag}{G:GH}{xs:List V}{ds:List D}{i:Int}{d:D}(r:bC K G xs ds)(h:eS ds i=some d):∃v,eS xs i=some v/\RG K G v d:=by unfold eS at h ⊢;rw[Paired.length r];cases e:gC ds.length i with
|none=>rw[e]at h;cases h
|some j=>rw[e]at h;exact Paired.get r h
theorem sZ{K:W.Frag}:dH K (zS K) ixD:=by
 intro G H v1 v2 d1 d2 d Q gk r1 r2 e q;unfold ixD at e;split at e
 .obtain⟨a,xs,rfl,s,r⟩:=r1.lst gk;obtain⟨v,ev,rv⟩:=Al r e;exact .inl ⟨a,xs,_,v,rfl,r2.int gk,s,ev,q v G H (Grow.refl gk) rv⟩
 .obtain⟨a,xs,rfl,s,r⟩:=r1.tup gk;obtain⟨v,ev,rv⟩:=Al r e;exact .inr (.inl ⟨a,xs,_,v,rfl,r2.int gk,s,ev,q v G H (Grow.refl gk) rv⟩)
 .split at e
  .rename_i z i hz;cases ec:eS z.cps.toList i with
  |none=>rw[ec]at e;cases e
  |some c=>rw[ec]at e;cases e;exact .inr (.inr ⟨z,i,c,r1.str gk,r2.int gk,hz,ec,q _ G H (Grow.refl gk) (.scl (.str _))⟩)
  .cases e
 .cases e
def dX{α:Type}(xs:List α)(lo hi:Option Int):List α:=(xs.drop (HT.sIx xs.length 0 lo)).take (HT.sIx xs.length xs.length hi-HT.sIx xs.length 0 lo)
theorem Am{α β:Type}{F:α->β->Prop}{xs:List α}{ds:List β}(r:Paired F xs ds)(lo hi:Option Int):Paired F (dX xs lo hi) (dX ds lo hi):=by unfold dX;rw[Paired.length r];exact Paired.tk _ (Paired.dr _ r)
abbrev FP:=ao->Res (Option Int)
def tP(X:Cx)(g:GE)(m:List Md)(f:FP):TO:=fun σ H Q=>∃r G,SI X g m r G σ H/\fin (f r) (fun o=>∀G' H',Grow X.K G H G' H'->Q o H') (XW X σ G H)
def sS(X:Cx)(g:GE)(m:List Md)(e:Option Expr)(f:FP):Prop:=PO X e (tP X g m f)
theorem PO.imp{X:Cx}{e:Option Expr}{t t':TO}(h:PO X e t)(i:∀σ H Q,t' σ H Q->t σ H Q):PO X e t':=fun pz s σ H Q I q=>h pz s σ H Q I (i σ H Q q)
def QA:D->Option Int
|.int i=>some i
|_=>none
def jB(f:FE):FP:=fun r=>(f r).bind fun d=>(bX (QA d)).bind fun i=>.ok (some i)
theorem mL:sS X g m none fun _=>.ok none:=PO.imp Ly fun σ H Q ⟨r,G,si,q⟩=>q G H (Grow.refl si.gok)
theorem mM(h:SB X g m e f):sS X g m (some e) (jB f):=by
 refine PO.imp (Lz h) fun σ H Q ⟨r,G,si,q⟩=>⟨r,G,si,bg (ba q) fun d q1 v G1 H1 w1 r1=>?_⟩
 obtain⟨i,e,q2⟩:=cD (ba q1);cases d with
|int j=>cases e;exact⟨_,r1.int w1.ok,q2 G1 H1 w1⟩
|_=>cases e
def o6(d:D)(lo hi:Option Int):Option D:=match d with
|.tup ds=>if HT.sIx ds.length 0 lo=0/\HT.sIx ds.length ds.length hi=ds.length then none else some (.tup (dX ds lo hi))
|.lst ds=>some (.lst (dX ds lo hi))
|_=>none
def js(fa:FE)(fl fh:FP):FE:=fun r=>(fa r).bind fun d=>(fl r).bind fun lo=>(fh r).bind fun hi=>bX (o6 d lo hi)
theorem Jv{R:V->Option Int->Option Int->Hp->Prop}{fl fh:FP}{r:ao}{G:GH}{σ:L2.St}{H:Hp}{q:D->Prop}(si:SI X g m r G σ H)(h:fin (js fa fl fh r) q (XW X σ G H))(hk:∀d lo hi v G2 H2 d',Grow X.K G H G2 H2->RB X.K G2 H2 v d->o6 d lo hi=some d'->q d'->R v lo hi H2):tB X g m fa σ H fun x H1=>tP X g m fl σ H1 fun l H2=>tP X g m fh σ H2 fun u H3=>R x l u H3:=by refine⟨r,G,si,bg (ba h) fun d h1 v G1 H1 w1 r1=>⟨r,G1,si.grow w1,fL (ba h1) w1 fun lo h2 G2 H2 w2=>⟨r,G2,(si.grow w1).grow w2,?_⟩⟩⟩;refine fL (ba h2) (w1.trans w2) fun hi h3 G3 H3 w3=>?_;obtain⟨d',e,h4⟩:=cD h3;exact hk d lo hi v G3 H3 d' ((w1.trans w2).trans w3) ((r1.mono w2).mono w3) e h4
theorem mv{lo hi:Option Expr}{fl fh:FP}(he:SB X g m e f)(hl:sS X g m lo fl)(hu:sS X g m hi fh):SE X g m (.Subscript e (.Slice lo hi none p2) pos) (js f fl fh):=by refine PE.imp (Nw (lh.or K8 Jw) he hl hu) fun σ H Q ⟨r,G,si,q⟩=>?_;refine Jv si q fun d lo hi v G2 H2 d' w r1 e q2=>?_;cases d with
|tup ds=>
  obtain⟨a,xs,rfl,s,r⟩:=r1.tup w.ok;have e':(if HT.sIx ds.length 0 lo=0/\HT.sIx ds.length ds.length hi=ds.length then none else some (D.tup (dX ds lo hi)))=some d':=e;by_cases hw:HT.sIx ds.length 0 lo=0/\HT.sIx ds.length ds.length hi=ds.length
  .rw[if_pos hw]at e';cases e'
  rw[if_neg hw]at e';cases e';rw[<-Paired.length r]at hw;refine .inr ⟨a,xs,rfl,s,hw,fun p hp=>?_⟩;exact q2 _ _ _ (w.trans (Grow.newF w.ok hp (.tup (.inl ca) (Am r lo hi)))) (.ref dB)
|lst ds=>cases e;obtain⟨a,xs,rfl,s,r⟩:=r1.lst w.ok;exact .inl ⟨a,xs,rfl,s,fun p hp=>q2 _ _ _ (w.trans (Grow.newF w.ok hp (.lst (.inl ca) (Am r lo hi)))) (.ref dB)⟩
|_=>cases e
end
inductive Out where
 |nx (r:ao)|rt (d:D)|bk (r:ao)|ct (r:ao)|exc (x:D) (r:ao)|stuck
abbrev FS:=ao->Out
def aQ(G G':GH):Prop:=∀a d,G a=some d->G' a=some d
theorem aQ.refl(G:GH):aQ G G:=fun _ _ e=>e
theorem aQ.trans{G G1 G2:GH}(a:aQ G G1)(b:aQ G1 G2):aQ G G2:=fun x d e=>b x d (a x d e)
def forget(m:List Md)(r:ao):ao:=S4 (fun md o=>if md=Md.sh then o else none) m r
def fF(m:List Md):List Md:=m.map fun _=>Md.sh
theorem oG{m:List Md}{r:ao}{i:Nat}{d:D}(h:(forget m r)[i]? = some (some d)):r[i]? = some (some d)/\m[i]? = some .sh:=by unfold forget at h;rw[VF]at h;cases e1:m[i]? with
|none=>rw[e1]at h;cases h
|some md=>cases e2:r[i]? with
 |none=>rw[e1,e2]at h;cases h
 |some o=>
   rw[e1,e2]at h;have h':(if md=Md.sh then o else none)=some d:=K_ h;split at h'
   .rename_i hm;subst hm;rw[h'];exact⟨rfl,rfl⟩
   .cases h'
section
variable{X:Cx}{g:GE}{m:List Md}{r:ao}{G:GH}{st:L2.St}{H:Hp}
theorem SI.forget(s:SI X g m r G st H):SI X g (fF m) (forget m r) G st H where
 gok:=s.gok
 old:=s.old
 ge:=s.ge
 gf:=s.gf
 lm:=by rw[fF,m_];exact s.lm
 lr:=by rw[DL.forget,Ur,s.lm,s.lr,Nat.min_self]
 sh:=fun i d h _=>s.sh i d (oG h).1 (oG h).2
 ow:=fun i d h hm=>by rw[fF,t_,(oG h).2]at hm;cases hm
 bw:=fun i d h hm=>by rw[fF,t_,(oG h).2]at hm;cases hm
 dis:=fun i j a d e _ h _ hm=>by rw[fF,t_,(oG h).2]at hm;cases hm
 lk:=fun i o _ hm=>by rw[fF,t_]at hm;cases q:m[i]? <;> rw[q]at hm <;> cases hm
theorem SI.set(s:SI X g m r G st H)(i:Nat){v:V}{d:D}(hv:RG X.K G v d):SI X g (m.set i .sh) (r.set i (some d)) G (st.set i (some v)) H where
 gok:=s.gok
 old:=s.old
 ge:=s.ge
 gf:=s.gf
 lm:=by simp[s.lm]
 lr:=by simp[s.lr]
 sh:=fun j e h hm=>by
  by_cases hij:i=j
  .subst hij;have hl:i<r.length:=by have:=(e_.mp h).1;simpa using this
   rw[p_ hl]at h;cases h;exact⟨v,by rw[p_ (by rw[<-s.lr];exact hl)],hv⟩
  .rw[j_ hij]at h hm;rw[j_ hij];exact s.sh j e h hm
 ow:=fun j e h hm=>by
  by_cases hij:i=j
  .subst hij;have hl:i<m.length:=by have:=(e_.mp hm).1;simpa using this
   rw[p_ hl]at hm;cases hm
  .rw[j_ hij]at h hm;rw[j_ hij];exact s.ow j e h hm
 bw:=fun j e h hm=>by
  by_cases hij:i=j
  .subst hij;have hl:i<m.length:=by have:=(e_.mp hm).1;simpa using this
   rw[p_ hl]at hm;cases hm
  .rw[j_ hij]at h hm;rw[j_ hij];exact s.bw j e h hm
 dis:=fun j k a d1 d2 hjk h1 h2 hm hm' q1 q2=>by
  have hij:i≠j:=by
   rintro rfl
   have hl:i<m.length:=by have:=(e_.mp hm).1;simpa using this
   rw[p_ hl]at hm;cases hm
  have hik:i≠k:=by
   rintro rfl
   have hl:i<m.length:=by have:=(e_.mp h2).1;rw[WP,s.lr,<-s.lm]at this;exact this
   rw[p_ hl]at hm';cases hm'
  rw[j_ hij]at h1 hm q1;rw[j_ hik]at h2 hm' q2;exact s.dis j k a d1 d2 hjk h1 h2 hm hm' q1 q2
 lk:=fun j o hj hm=>by
  have hij:i≠j:=by
   rintro rfl
   have hl:i<m.length:=by have:=(e_.mp hm).1;simpa using this
   rw[p_ hl]at hm;cases hm
  rw[j_ hij]at hm;have:=s.lk j o hj hm;exact⟨by rw[j_ hij];exact this.1,fun d h=>this.2 d (by rw[j_ hij]at h;exact h)⟩
theorem SI.setO(s:SI X g m r G st H)(i:Nat){a:Addr}{d:D}(ho:Own X.K G H a d)(h0:g.h0 a=none)(hx:∀(j:Nat)(b:Addr)(e:D),r[j]? = some (some e)->m[j]? = some Md.ow->st[j]? = some (some (V.ref b))->b≠a):SI X g (m.set i .ow) (r.set i (some d)) G (st.set i (some (V.ref a))) H where
 gok:=s.gok
 old:=s.old
 ge:=s.ge
 gf:=s.gf
 lm:=by simp[s.lm]
 lr:=by simp[s.lr]
 sh:=fun j e h hm=>by
  by_cases hij:i=j
  .subst hij;have hl:i<m.length:=by have:=(e_.mp hm).1;simpa using this
   rw[p_ hl]at hm;cases hm
  .rw[j_ hij]at h hm;rw[j_ hij];exact s.sh j e h hm
 ow:=fun j e h hm=>by
  by_cases hij:i=j
  .subst hij;have hl:i<r.length:=by have:=(e_.mp h).1;simpa using this
   rw[p_ hl]at h;cases h;exact⟨a,by rw[p_ (by rw[<-s.lr];exact hl)],ho,h0⟩
  .rw[j_ hij]at h hm;rw[j_ hij];exact s.ow j e h hm
 bw:=fun j e h hm=>by
  by_cases hij:i=j
  .subst hij;have hl:i<m.length:=by have:=(e_.mp hm).1;simpa using this
   rw[p_ hl]at hm;cases hm
  .rw[j_ hij]at h hm;rw[j_ hij];exact s.bw j e h hm
 dis:=fun j k b d1 d2 hjk h1 h2 hm hm' q1 q2=>by
  by_cases hij:i=j
  .subst hij;rw[j_ hjk]at h2 hm' q2;have hl:i<st.length:=by have:=(e_.mp q1).1;simpa using this
   rw[p_ hl]at q1;have e:a=b:=by injection q1 with q1;injection q1 with q1;injection q1
   exact hx k b d2 h2 hm' q2 e.symm
  .by_cases hik:i=k
   .subst hik;rw[j_ hij]at h1 hm q1;have hl:i<st.length:=by have:=(e_.mp q2).1;simpa using this
    rw[p_ hl]at q2;have e:a=b:=by injection q2 with q2;injection q2 with q2;injection q2
    exact hx j b d1 h1 hm q1 e.symm
   .rw[j_ hij]at h1 hm q1;rw[j_ hik]at h2 hm' q2;exact s.dis j k b d1 d2 hjk h1 h2 hm hm' q1 q2
 lk:=fun j o hj hm=>by
  have hij:i≠j:=by
   rintro rfl
   have hl:i<m.length:=by have:=(e_.mp hm).1;simpa using this
   rw[p_ hl]at hm;cases hm
  rw[j_ hij]at hm;have:=s.lk j o hj hm;exact⟨by rw[j_ hij];exact this.1,fun d h=>this.2 d (by rw[j_ hij]at h;exact h)⟩
theorem SI.other(s:SI X g m r G st H){p:Addr}(hp:G p=none)(h0:g.h0 p=none)(hm:∀(i:Nat),m[i]?≠some Md.ow)(o:HO):SI X g m r G st (upd H p o) where
 gok:=fun b e h=>(s.gok b e h).mono (fun _ _ z=>z) fun o' q=>by rw[bn (by rintro rfl;rw[hp]at h;cases h)];exact q
 old:=fun b o' h=>by rw[bn (by rintro rfl;rw[h0]at h;cases h)];exact s.old b o' h
 ge:=s.ge
 gf:=s.gf
 lm:=s.lm
 lr:=s.lr
 sh:=s.sh
 ow:=fun i d _ h=>absurd h (hm i)
 bw:=fun i d h1 h2=>by
  obtain⟨v,h3,h4⟩:=s.bw i d h1 h2;refine⟨v,h3,?_⟩;rcases h4 with h4|⟨a,rfl,h4,h5⟩
  .exact .inl h4
  .have ha:a≠p:=by rintro rfl;exact h5 h0
   exact .inr ⟨a,rfl,⟨h4.un,h4.ob.mono (fun _ _ z=>z) fun o' z=>by rw[bn ha];exact z⟩,h5⟩
 dis:=fun i j a d e _ _ _ h=>absurd h (hm i)
 lk:=s.lk
theorem SI.less(s:SI X g m r G st H){r':ao}(hl:r'.length=r.length)(h:∀(i:Nat) d,r'[i]? = some (some d)->r[i]? = some (some d)):SI X g m r' G st H:=⟨s.gok,s.old,s.ge,s.gf,s.lm,hl.trans s.lr,fun i d a b=>s.sh i d (h i d a) b,fun i d a b=>s.ow i d (h i d a) b,fun i d a b=>s.bw i d (h i d a) b,fun i j a d e n p q x y=>s.dis i j a d e n (h i d p) (h j e q) x y,fun i o hi hm=>by have:=s.lk i o hi hm;exact⟨this.1,fun d hd=>this.2 d (h i d hd)⟩⟩
theorem SI.held(s:SI X g m r G st H){j:Nat}{b:Addr}{e:D}(h:r[j]? = some (some e))(hm:m[j]? = some .ow)(hs:st[j]? = some (some (V.ref b))):H b≠none:=by
 obtain⟨a,h1,h2,_⟩:=s.ow j e h hm;rw[hs]at h1;injection h1 with h1;injection h1 with h1;injection h1 with h1
 rw[h1];exact h2.ob.isS
theorem SI.setN(s:SI X g m r G st H){G':GH}{H':Hp}(w:Grow X.K G H G' H')(i:Nat){a:Addr}{d:D}(hn:H a=none)(ho:Own X.K G' H' a d):SI X g (m.set i .ow) (r.set i (some d)) G' (st.set i (some (V.ref a))) H':=by
 refine(s.grow w).setO i ho ?_ fun j b e h1 h2 h3=>?_
 .cases q:g.h0 a with
 |none=>rfl
 |some o=>rw[s.old _ _ q]at hn;cases hn
 .rintro rfl
  exact s.held h1 h2 h3 hn
theorem SI.mut(s:SI X g m r G st H){i:Nat}{d:D}(hm:m[i]? = some .ow)(hd:r[i]? = some (some d)):∃a,st[i]? = some (some (V.ref a))/\Own X.K G H a d/\∀(o':HO)(d':D),OwnO X.K G (upd H a o') a d'->SI X g m (r.set i (some d')) G st (upd H a o'):=by
 obtain⟨a,h1,h2,h3⟩:=s.ow i d hd hm;have hl:i<r.length:=(e_.mp hd).1;refine⟨a,h1,h2,fun o' d' ob=>?_⟩;have oth:∀(j:Nat)(b:Addr)(e:D),j≠i->r[j]? = some (some e)->m[j]? = some .ow->st[j]? = some (some (V.ref b))->b≠a:=fun j b e hj q1 q2 q3 z=>by subst z;exact s.dis i j b d e (S0 hj) hd q1 hm q2 h1 q3
 refine⟨fun b e h=>?_,fun b o h=>?_,s.ge,s.gf,s.lm,by simp[s.lr],?_,?_,?_,?_,fun j o hj hm'=>?_⟩
 .have hb:b≠a:=by rintro rfl;rw[h2.un]at h;cases h
  exact(s.gok b e h).mono (fun _ _ z=>z) fun o q=>by rw[bn hb];exact q
 .have hb:b≠a:=by rintro rfl;rw[h3]at h;cases h
  rw[bn hb];exact s.old b o h
 .intro j e h hm';have hij:i≠j:=by rintro rfl;rw[hm]at hm';cases hm'
  rw[j_ hij]at h;exact s.sh j e h hm'
 .intro j e h hm';by_cases hij:i=j
  .subst hij;rw[p_ hl]at h;cases h;exact⟨a,h1,⟨h2.un,ob⟩,h3⟩
  .rw[j_ hij]at h;obtain⟨b,q1,q2,q3⟩:=s.ow j e h hm';have hb:=oth j b e (S0 hij) h hm' q1;exact⟨b,q1,⟨q2.un,q2.ob.mono (fun _ _ z=>z) fun o z=>by rw[bn hb];exact z⟩,q3⟩
 .intro j e h hm';have hij:i≠j:=by rintro rfl;rw[hm]at hm';cases hm'
  rw[j_ hij]at h;obtain⟨v,q1,q2⟩:=s.bw j e h hm';refine⟨v,q1,?_⟩;rcases q2 with q2|⟨b,rfl,q2,q3⟩
  .exact .inl q2
  .have hb:b≠a:=by rintro rfl;exact q3 h3
   exact .inr ⟨b,rfl,⟨q2.un,q2.ob.mono (fun _ _ z=>z) fun o z=>by rw[bn hb];exact z⟩,q3⟩
 .have bound:∀(j:Nat) e,(r.set i (some d'))[j]? = some (some e)->∃e',r[j]? = some (some e'):=fun j e h=>by
   by_cases hij:i=j
   .subst hij;exact⟨d,hd⟩
   .rw[j_ hij]at h;exact⟨e,h⟩
  intro j k b d1 d2 hjk q1 q2 p1 p2 z1 z2;obtain⟨e1,q1⟩:=bound j d1 q1;obtain⟨e2,q2⟩:=bound k d2 q2;exact s.dis j k b e1 e2 hjk q1 q2 p1 p2 z1 z2
 .have hij:i≠j:=by rintro rfl;rw[hm]at hm';cases hm'
  have:=s.lk j o hj hm';exact⟨this.1,fun d'' h=>this.2 d'' (by rw[j_ hij]at h;exact h)⟩
end
def RV(ro:Bool)(K:W.Frag)(H0:Hp)(G:GH)(H:Hp)(v:V)(d:D):Prop:=match ro with
|false=>RG K G v d
|true=>(∃a,v=.ref a/\H0 a=none/\Own K G H a d)\/(d=.non/\v=.non)
def bS(X:Cx)(g:GE)(ro:Bool)(m' mb:List Md)(G:GH)(D:Ends):Out->Prop
|.nx r'=>∀σ' G' H',aQ G G'->SI X g m' r' G' σ' H'->D.nx σ' H'
|.rt d=>∀v G' H',Grow X.K g.gh g.h0 G' H'->RV ro X.K g.h0 G' H' v d->D.rt v H'
|.bk r'=>∀σ' G' H',aQ G G'->SI X g mb r' G' σ' H'->D.bk σ' H'
|.ct r'=>∀σ' G' H',aQ G G'->SI X g mb r' G' σ' H'->D.ct σ' H'
|.exc x r'=>∀pz e s' σ' G' H',aQ G G'->SI X g (fF m') r' G' σ' H'->Inv X pz σ' H' s'->GC X σ' G' H' e x s'->X.xe e s'
|.stuck=>False
def tS(X:Cx)(g:GE)(ro:Bool)(m m' mb:List Md)(f:FS):TS:=fun D σ H=>∃r G,SI X g m r G σ H/\bS X g ro m' mb G D (f r)
def SS(X:Cx)(g:GE)(ro:Bool)(mb m:List Md)(st:Stmt)(f:FS)(m':List Md):Prop:=m'.length=m.length/\PS X st (tS X g ro m m' mb f)
def fR(X:Cx)(g:GE)(ro:Bool)(mb m:List Md)(st:List Stmt)(f:FS)(m':List Md):Prop:=m'.length=m.length/\d7 X st (tS X g ro m m' mb f)
theorem q9{m m':List Md}(h:m'.length=m.length):fF m'=fF m:=by unfold fF;rw[R0,R0,h]
theorem bS.x{X:Cx}{g:GE}{ro:Bool}{m m' mb:List Md}{r:ao}{G:GH}{D:Ends}{σ:L2.St}{H:Hp}{x:DL.D}(h:bS X g ro m' mb G D (.exc x (forget m r)))(si:SI X g m r G σ H)(hl:m'.length=m.length):XW X σ G H x:=fun pz e s' G' H' w I ex=>h pz e s' σ G' H' w.ge (by rw[q9 hl];exact(si.grow w).forget) I ex
section
variable{X:Cx}{g:GE}{ro:Bool}{m m' m1 mb:List Md}{e a b c tg:Expr}{f fa fb fc:FE}{p:FQ}{pos pos':Pos}{st:Stmt}{sts sts':List Stmt}{s1 s2:FS}
theorem bS.gle{G G1:GH}{D:Ends}{o:Out}(h:bS X g ro m' mb G D o)(w:aQ G G1):bS X g ro m' mb G1 D o:=by cases o with
|nx r'=>exact fun σ' G' H' q si=>h σ' G' H' (w.trans q) si
|rt d=>exact h
|bk r'=>exact fun σ' G' H' q si=>h σ' G' H' (w.trans q) si
|ct r'=>exact fun σ' G' H' q si=>h σ' G' H' (w.trans q) si
|exc x r'=>exact fun pz e s' σ' G' H' q=>h pz e s' σ' G' H' (w.trans q)
|stuck=>exact h
def aa(s1 s2:FS):FS:=fun r=>match s1 r with
|.nx r'=>s2 r'
|o=>o
def ax:FS:=fun r=>.nx r
theorem ay:fR X g ro mb m [] ax m:=⟨rfl,d7.imp LA fun D σ H ⟨r,G,si,q⟩=>q σ G H (aQ.refl G) si⟩
theorem ak(h1:SS X g ro mb m st s1 m1)(h2:fR X g ro mb m1 sts s2 m'):fR X g ro mb m (st::sts) (aa s1 s2) m':=by refine⟨h2.1.trans h1.1,d7.imp (NC h1.2 h2.2) fun D σ H ⟨r,G,si,q⟩=>⟨r,G,si,?_⟩⟩;unfold aa at q;cases e:s1 r with
|nx r'=>rw[e]at q;exact fun σ' G' H' w si'=>⟨r',G',si',bS.gle q w⟩
|rt d=>rw[e]at q;exact q
|bk r'=>rw[e]at q;exact q
|ct r'=>rw[e]at q;exact q
|exc x r'=>rw[e]at q;exact fun pz e s' σ' G' H' w si'=>q pz e s' σ' G' H' w (by rw[q9 h2.1];exact si')
|stuck=>rw[e]at q;exact q
theorem vN:SS X g ro mb m st (fun _=>.stuck) m:=⟨rfl,PS.imp NA fun D σ H ⟨r,G,si,q⟩=>q⟩
theorem kn(i:Nat)(hi:m[i]? = some .ow)(h:SS X g ro mb (m.set i .sh) st s1 m'):SS X g ro mb m st s1 m':=by
 refine⟨h.1.trans (by simp),fun pz s σ H D I ⟨r,G,si,q⟩=>?_⟩;rcases si.frz i hi with⟨G',le,si'⟩|⟨a,z⟩
 .exact h.2 pz s σ H D I ⟨r,G',si',bS.gle q le⟩
 .obtain⟨ob,I2⟩:=Inv.fast I a;obtain⟨G',le,si'⟩:=z ob;exact h.2 pz s σ _ D I2 ⟨r,G',si',bS.gle q le⟩
def fP{α:Type}(m:List Md)(r:ao)(x:Res α)(k:α->Out):Out:=match x with
|.ok a=>k a
|.exc e=>.exc e (forget m r)
|.stuck=>.stuck
@[simp] theorem onE_ok{α:Type}(m:List Md)(r:ao)(a:α)(k:α->Out):fP m r (.ok a) k=k a:=rfl
theorem fJ{α:Type}{x:Res α}{k:α->Out}{r:ao}{G:GH}{D:Ends}{σ:L2.St}{H:Hp}(si:SI X g m r G σ H)(hl:m'.length=m.length)(h:bS X g ro m' mb G D (fP m r x k)):fin x (fun a=>bS X g ro m' mb G D (k a)) (XW X σ G H):=by cases x with
|ok a=>exact h
|exc e=>exact bS.x h si hl
|stuck=>exact h
def al(m:List Md)(i:Nat)(f:FE):FS:=fun r=>fP m r (f r) fun d=>.nx (r.set i (some d))
theorem HE(i:Nat){x:Str}(hN:X.N.Nodup)(hi:X.N[i]? = some x)(hx:i7 X.env.scope x)(he:SE X g m e f)(hs:UA e (some (.Name x pos')) pos.line X.env=pure false:=by rfl)(hf:X.fn x=true\/X.env.scope.names.lookup x=some .local:=by first|exact .inl rfl|exact .inr rfl|assumption):SS X g ro mb m (.Assign [.Name x pos'] e pos) (al m i f) (m.set i .sh):=by
 have hl:(m.set i .sh).length=m.length:=by simp
 refine⟨hl,PS.imp (Bj hN hi hx he hs hf) fun D σ H ⟨r,G,si,q⟩=>⟨r,G,si,?_⟩⟩;exact bg (fJ si hl q) fun d q v G' H' w rv=>q _ G' H' w.ge ((si.grow w).set i rv)
theorem dL(i:Nat){x:Str}(hN:X.N.Nodup)(hi:X.N[i]? = some x)(hx:i7 X.env.scope x)(he:SO X g m e f)(hs:UA e (some (.Name x pos')) pos.line X.env=pure false:=by rfl)(hf:X.fn x=true\/X.env.scope.names.lookup x=some .local:=by first|exact .inl rfl|exact .inr rfl|assumption):SS X g ro mb m (.Assign [.Name x pos'] e pos) (al m i f) (m.set i .ow):=by
 have hl:(m.set i .ow).length=m.length:=by simp
 refine⟨hl,PS.imp (Bj hN hi hx he hs hf) fun D σ H ⟨r,G,si,q⟩=>⟨r,G,si,?_⟩⟩;exact bg (fJ si hl q) fun d q a G' H' w hn ho=>q _ G' H' w.ge (si.setN w i hn ho)
def pJ(m:List Md)(f:FE):FS:=fun r=>fP m r (f r) fun _=>.nx r
theorem JV(he:SE X g m e f)(hs:UA e none pos.line X.env=pure false:=by rfl):SS X g ro mb m (.Expr e pos) (pJ m f) m:=⟨rfl,PS.imp (C4 he hs) fun D σ H ⟨r,G,si,q⟩=>⟨r,G,si,bg (fJ si rfl q) fun d q v G' H' w _=>q σ G' H' w.ge (si.grow w)⟩⟩
def aw(m:List Md)(f:FE):FS:=fun r=>fP m r (f r) fun d=>.rt d
theorem aX(he:SE X g m e f):SS X g false mb m (.Return (some e) pos) (aw m f) m:=⟨rfl,PS.imp (Bi he) fun D σ H ⟨r,G,si,q⟩=>⟨r,G,si,bg (fJ si rfl q) fun d q v G' H' w rv=>q v G' H' (si.grow w).grown rv⟩⟩
theorem Js(i:Nat){x:Str}(hm:m[i]? = some .ow)(hN:X.N[i]? = some x)(hv:im X.env.scope x)(hd:(x==("__debug__" : Str))=false:=by decide)(hcd:(x==("__classdict__" : Str))=false:=by decide):SS X g true mb m (.Return (some (.Name x pos')) pos) (aw m fun r=>dk r i) m:=by refine⟨rfl,PS.imp (Bi (mN hN hv hd hcd)) fun D σ H ⟨r,G,si,q⟩=>?_⟩;obtain⟨d,e,q⟩:=qM (fJ si rfl q);obtain⟨a,h1,h2,h3⟩:=si.ow i d e hm;exact⟨_,h1,q _ G H si.grown (.inl ⟨a,rfl,h3,h2⟩)⟩
def cA(m:List Md)(p:FQ)(s1 s2:FS):FS:=fun r=>fP m r (p r) fun c=>if c=true then s1 r else s2 r
theorem bq(hc:SQ X g m c p)(h1:fR X g ro mb m sts s1 m')(h2:fR X g ro mb m sts' s2 m'):SS X g ro mb m (.If c sts sts' pos) (cA m p s1 s2) m':=by refine⟨h1.1,PS.imp (Ii hc h1.2 h2.2) fun D σ H ⟨r,G,si,q⟩=>⟨r,G,si,bg (fJ si h1.1 q) fun c q G' H' w=>?_⟩⟩;cases c with
|true=>rw[if_pos rfl]at q ⊢;exact⟨r,G',si.grow w,bS.gle q w.ge⟩
|false=>rw[if_neg g_]at q ⊢;exact⟨r,G',si.grow w,bS.gle q w.ge⟩
theorem q8(i:Nat)(h:fR X g ro mb m sts s1 m')(hi:m'[i]? = some .ow):fR X g ro mb m sts s1 (m'.set i .sh):=by
 refine⟨by simp[h.1],fun pz s σ H D I ⟨r,G,si,q⟩=>?_⟩;refine aR (h.2 pz s σ H ⟨fun σ' H'=>D.nx σ' H'\/∃a,∀ob,D.nx σ' (fz H' a ob),D.rt,D.bk,D.ct⟩ I ⟨r,G,si,?_⟩) fun f s' p=>?_
 .cases e:s1 r with
 |nx r'=>
   rw[e]at q;intro σ' G' H' w si';rcases si'.frz i hi with⟨G2,le,si2⟩|⟨a,z⟩
   .exact .inl (q σ' G2 H' (w.trans le) si2)
   .refine .inr ⟨a,fun ob=>?_⟩;obtain⟨G2,le,si2⟩:=z ob;exact q σ' G2 _ (w.trans le) si2
 |rt d=>rw[e]at q;exact q
 |bk r'=>rw[e]at q;exact q
 |ct r'=>rw[e]at q;exact q
 |exc x r'=>rw[e]at q;exact fun pz e s' σ' G' H' w si'=>q pz e s' σ' G' H' w (by rw[q9 (m:=m') (by simp)];exact si')
 |stuck=>rw[e]at q;exact q
 .cases f with
 |next=>
   obtain⟨σ',H',I',z|⟨a,z⟩⟩:=p
   .exact⟨σ',H',I',z⟩
   .obtain⟨ob,I2⟩:=Inv.fast I' a;exact⟨σ',_,I2,z ob⟩
 |brk=>exact p
 |cont=>exact p
 |ret u=>exact p
end
abbrev FT:=D->ao->Option ao
abbrev jx:=List D->ao->Option ao
def tG(X:Cx)(g:GE)(m m':List Md)(ft:FT):TG:=fun v σ H Q=>∃r G d,SI X g m r G σ H/\RG X.K G v d/\∃r',ft d r=some r'/\∀σ',SI X g m' r' G σ' H->Q σ' H
def Qs(X:Cx)(g:GE)(m m':List Md)(ft:jx):jt:=fun vs σ H Q=>∃r G ds,SI X g m r G σ H/\bC X.K G vs ds/\∃r',ft ds r=some r'/\∀σ',SI X g m' r' G σ' H->Q σ' H
theorem PG.imp{X:Cx}{e:Expr}{t t':TG}(h:PG X e t)(i:∀v σ H Q,t' v σ H Q->t v σ H Q):PG X e t':=fun pz s σ H v u Q I r q=>h pz s σ H v u Q I r (i v σ H Q q)
theorem i6.imp{X:Cx}{e:List Expr}{t t':jt}(h:i6 X e t)(i:∀v σ H Q,t' v σ H Q->t v σ H Q):i6 X e t':=fun pz s σ H v u Q I r q=>h pz s σ H v u Q I r (i v σ H Q q)
def SG(X:Cx)(g:GE)(m:List Md)(tg:Expr)(ft:FT)(m':List Md):Prop:=m'.length=m.length/\PG X tg (tG X g m m' ft)
structure SGs(X:Cx)(g:GE)(m:List Md)(ts:List Expr)(n:Nat)(ft:jx)(m':List Md):Prop where
 ml:m'.length=m.length
 ln:∀ds r r',ft ds r=some r'->ds.length=n
 pg:i6 X ts (Qs X g m m' ft)
def aD(i:Nat):FT:=fun d r=>some (r.set i (some d))
def dW(ft:jx):FT:=fun d r=>match d with
|.tup ds=>ft ds r
|.lst ds=>ft ds r
|_=>none
def dN:jx:=fun ds r=>match ds with
|[]=>some r
|_=>none
def bK(ft:FT)(fts:jx):jx:=fun ds r=>match ds with
|[]=>none
|d::ds=>(ft d r).bind fun r'=>fts ds r'
section
variable{X:Cx}{g:GE}{m m' m1:List Md}{tg:Expr}{ts:List Expr}{ft:FT}{fts:jx}{pos:Pos}{n:Nat}
theorem Jo(i:Nat){x:Str}(hN:X.N.Nodup)(hi:X.N[i]? = some x)(hx:i7 X.env.scope x)(hf:X.fn x=true\/X.env.scope.names.lookup x=some .local:=by first|exact .inl rfl|exact .inr rfl|assumption):SG X g m (.Name x pos) (aD i) (m.set i .sh):=⟨by simp,PG.imp (Lv hN hi hx hf) fun v σ H Q ⟨r,G,d,si,rv,r',e,k⟩=>by cases e;exact k _ (si.set i rv)⟩
theorem gJ:SGs X g m [] 0 dN m:=by
 refine⟨rfl,fun ds r r' e=>?_,i6.imp Lw fun v σ H Q ⟨r,G,ds,si,rv,r',e,k⟩=>?_⟩
 .cases ds with
 |nil=>rfl
 |cons _ _=>cases e
 .cases rv with
 |nil=>cases e;exact⟨rfl,k σ si⟩
 |cons _ _=>cases e
theorem cR(h1:SG X g m tg ft m1)(h2:SGs X g m1 ts n fts m')(hs:(Rx (tg::ts) X.env).map (·.2)=Ul tg X.env::(Rx ts X.env).map (·.2):=by rfl):SGs X g m (tg::ts) (n+1) (bK ft fts) m':=by
 refine⟨h2.ml.trans h1.1,fun ds r r' e=>?_,i6.imp (Nx h1.2 h2.pg hs) fun v σ H Q ⟨r,G,ds,si,rv,r',e,k⟩=>?_⟩
 .cases ds with
 |nil=>cases e
 |cons d ds=>have e':((ft d r).bind fun r'=>fts ds r')=some r':=e;cases q:ft d r with
  |none=>rw[q]at e';cases e'
  |some r1=>rw[q]at e';have:=h2.ln ds r1 r' e';simp[this]
 .cases rv with
 |nil=>cases e
 |@cons v0 d vs ds rv rs=>have e':((ft d r).bind fun r'=>fts ds r')=some r':=e;cases q:ft d r with
  |none=>rw[q]at e';cases e'
  |some r1=>rw[q]at e';exact⟨_,_,rfl,r,G,d,si,rv,r1,q,fun σ' si'=>⟨r1,G,ds,si',rs,r',e',k⟩⟩
theorem JJ{k:Nat}{t:jt}(hc:X.calm=true)(h:i6 X ts t)(hn:(Rx ts X.env).length=n)(hst:(Rx ts X.env).findIdx? (·.1)=none):PG X (.Tuple ts k pos) (fun v σ H Q=>∃a xs,v=.ref a/\aY X.K H a xs/\xs.length=n/\t xs σ H Q):=by intro pz s σ H v u Q I r hw;obtain⟨a,xs,e1,hq,hl,hw⟩:=hw;subst e1;cases r;obtain⟨its,rv,⟨o,nn,l1,l2,l3,l4⟩,hz⟩:=I.list hq;rw[Xv];refine f_ (UY ?_);unfold unpack;rw[hst,show(Rx ts X.env).length=its.toArray.size by simp[hn,<-hl,rv.length]];refine f_ (Ta (W.kun_itemsOf (I.ok.hd hc) ⟨o,l1,l2,nn,l4⟩ fun h' hx=>?_));have I1:Inv X pz σ H { s with heap:=h' }:=I.kept (t':=s.toks) fun b o e=>hx b o (QM (A_ e)) e;exact h pz _ σ H xs _ Q I1 (by simpa using rv) hw
theorem PG.or{e:Expr}{t t':TG}(h:PG X e t)(h':PG X e t'):PG X e (fun v σ H Q=>t v σ H Q\/t' v σ H Q):=fun pz s σ H v u Q I r q=>q.elim (h pz s σ H v u Q I r) (h' pz s σ H v u Q I r)
theorem gK{k:Nat}(hc:X.calm=true)(h:SGs X g m ts n fts m')(hn:(Rx ts X.env).length=n:=by rfl)(hst:(Rx ts X.env).findIdx? (·.1)=none:=by rfl):SG X g m (.Tuple ts k pos) (dW fts) m':=by refine⟨h.ml,PG.imp (PG.or (J5 hc h.pg hn hst) (JJ hc h.pg hn hst)) fun v σ H Q ⟨r,G,d,si,rv,r',e,k⟩=>?_⟩;cases d with
|tup ds=>obtain⟨a,xs,rfl,s,rs⟩:=rv.tup si.gok;exact .inl ⟨a,xs,rfl,s,(Paired.length rs).trans (h.ln ds r r' e),r,G,ds,si,rs,r',e,k⟩
|lst ds=>obtain⟨a,xs,rfl,s,rs⟩:=rv.lst si.gok;exact .inr ⟨a,xs,rfl,s,(Paired.length rs).trans (h.ln ds r r' e),r,G,ds,si,rs,r',e,k⟩
|_=>cases e
end
structure Yields(K:W.Frag)(J:It)(ds:List D)(G0:GH):Prop where
 go:∀G H (i:Nat),aQ G0 G->aN K G H->i<ds.length->J.go i H
 yld:∀G H (i:Nat) x H' d,aQ G0 G->aN K G H->J.yld i H x H'->ds[i]? = some d->∃G',Grow K G H G' H'/\RG K G' x d
 stop:∀G H,aQ G0 G->aN K G H->J.stop ds.length H
abbrev FI:=ao->Res (List D)
def tI(X:Cx)(g:GE)(m:List Md)(f:FI):TI:=fun σ H R=>∃r G,SI X g m r G σ H/\fin (f r) (fun ds=>∀J G' H',Grow X.K G H G' H'->Yields X.K J ds G'->R J H') (XW X σ G H)
def ju(X:Cx)(g:GE)(m:List Md)(tg iter:Expr)(f:FI):Prop:=PI X tg iter (tI X g m f)
theorem PI.imp{X:Cx}{tg e:Expr}{t t':TI}(h:PI X tg e t)(i:∀σ H Q,t' σ H Q->t σ H Q):PI X tg e t':=fun pz s σ H R I q=>h pz s σ H R I (i σ H R q)
theorem vE{K:W.Frag}{a:Addr}{ds:List D}{G0:GH}(h0:RG K G0 (.ref a) (.lst ds)):Yields K (pC K a) ds G0:=by
 have at_:∀G H,aQ G0 G->aN K G H->∃xs,aY K H a xs/\bC K G xs ds:=fun G H w gk=>by obtain⟨b,xs,e,s,r⟩:=(h0.mono w).lst gk;cases e;exact⟨xs,s,r⟩
 refine⟨fun G H i w gk hi=>?_,fun G H i x H' d w gk y e=>?_,fun G H w gk=>?_⟩
 .obtain⟨xs,s,r⟩:=at_ G H w gk;have hl:=Paired.length r;exact⟨xs,xs[i],s,b_ (by omega)⟩
 .obtain⟨xs,s,r⟩:=at_ G H w gk;obtain⟨rfl,y⟩:=y;obtain⟨v,e1,rv⟩:=Paired.get r e;have:=y xs s;rw[e1]at this;cases this;exact⟨G,Grow.refl gk,rv⟩
 .obtain⟨xs,s,r⟩:=at_ G H w gk;exact⟨xs,s,Uu (Paired.length r)⟩
theorem uL{K:W.Frag}{a:Addr}{ds:List D}{G0:GH}(h0:RG K G0 (.ref a) (.tup ds)):Yields K (Ai K a) ds G0:=by
 have at_:∀G H,aQ G0 G->aN K G H->∃xs,ce K H a xs/\bC K G xs ds:=fun G H w gk=>by obtain⟨b,xs,e,s,r⟩:=(h0.mono w).tup gk;cases e;exact⟨xs,s,r⟩
 refine⟨fun G H i w gk hi=>?_,fun G H i x H' d w gk y e=>?_,fun G H w gk=>?_⟩
 .obtain⟨xs,s,r⟩:=at_ G H w gk;have hl:=Paired.length r;exact⟨xs,xs[i],s,b_ (by omega)⟩
 .obtain⟨xs,s,r⟩:=at_ G H w gk;obtain⟨rfl,y⟩:=y;obtain⟨v,e1,rv⟩:=Paired.get r e;have:=y xs s;rw[e1]at this;cases this;exact⟨G,Grow.refl gk,rv⟩
 .obtain⟨xs,s,r⟩:=at_ G H w gk;exact⟨xs,s,Uu (Paired.length r)⟩
def dc(lo:Int)(n:Nat):List D:=(a_ n).map fun(i:Nat)=>D.int (lo+(i:Int))
theorem KZ{K:W.Frag}{lo:Int}{n:Nat}{G0:GH}:Yields K (sU lo n) (dc lo n) G0:=by
 have hl:(dc lo n).length=n:=by simp[dc]
 refine⟨fun G H i w gk hi=>(by rw[hl]at hi;exact hi),fun G H i x H' d w gk y e=>?_,fun G H w gk=>(by rw[hl];exact q_ _)⟩;obtain⟨rfl,rfl⟩:=y;have hi:i<n:=by have:=(e_.mp e).1;rw[hl]at this;exact this
 unfold dc at e;rw[t_,QH hi]at e;cases e;exact⟨G,Grow.refl gk,.scl (.int _)⟩
def bv:D->Option (List D)
|.lst ds=>some ds
|.tup ds=>some ds
|_=>none
section
variable{X:Cx}{g:GE}{m m' m1 mb:List Md}{tg e a b c iter:Expr}{f fa fb:FE}{p:FQ}{pos pos':Pos}{ro:Bool}{fl:ao->Res (List D)}{sts:List Stmt}{s1:FS}
def aF(k:D->Option (List D))(f:FE):FI:=fun r=>(f r).bind fun d=>bX (k d)
theorem uI{l:Expr}{tl:TE}(hl:PE X l tl):PI X tg l (fun σ H R=>tl σ H fun x H1=>(∃a,x=.ref a/\(∃xs,aY X.K H1 a xs)/\R (pC X.K a) H1)\/∃a,x=.ref a/\(∃xs,ce X.K H1 a xs)/\R (Ai X.K a) H1):=by
 intro pz s σ H R I h;refine aR (hl pz s σ H _ I h) fun v s1 ⟨x,H1,I1,r1,q1⟩=>?_;rcases q1 with⟨a,e,⟨xs,hq⟩,q⟩|⟨a,e,⟨xs,hq⟩,q⟩
 .subst e;cases r1;obtain⟨its,rv,p,hz⟩:=I1.list hq;refine Ti p.isList ?_;refine⟨s1.heap.objs.size,[s1.heap.objs.size],_,_,H1,rfl,I1.kept (t':=s1.toks) fun b o e=>h_ _ e,O4 a _,⟨_,B_ _ rfl,rfl,rfl⟩,fun b hb=>?_,q⟩;have e:b=s1.heap.objs.size:=by simpa using hb
  subst e;exact I1.fpOk (q_ _) (I1.hok.fresh (q_ _))
 .subst e;cases r1;obtain⟨its,rv,p,hz⟩:=I1.tuple hq;refine Ru (show s1.heap.IsTuple a its.toArray from p) ?_;refine⟨s1.heap.objs.size,[s1.heap.objs.size],_,_,H1,rfl,I1.kept (t':=s1.toks) fun b o e=>h_ _ e,OI a _,⟨_,B_ _ rfl,rfl,rfl⟩,fun b hb=>?_,q⟩;have e:b=s1.heap.objs.size:=by simpa using hb
  subst e;exact I1.fpOk (q_ _) (I1.hok.fresh (q_ _))
theorem sX(h:SE X g m e f):ju X g m tg e (aF bv f):=by
 refine PI.imp (uI h) fun σ H R ⟨r,G,si,q⟩=>⟨r,G,si,bg (ba q) fun d q v G' H' w rv=>?_⟩
 obtain⟨ds,e,q⟩:=cD q;cases d with
|lst ds'=>cases e;obtain⟨a,xs,rfl,s,rs⟩:=rv.lst w.ok;exact .inl ⟨a,rfl,⟨xs,s⟩,q _ G' H' w (vE rv)⟩
|tup ds'=>cases e;obtain⟨a,xs,rfl,s,rs⟩:=rv.tup w.ok;exact .inr ⟨a,rfl,⟨xs,s⟩,q _ G' H' w (uL rv)⟩
|_=>cases e
structure YieldsC(K:W.Frag)(J:It)(ds:List D)(G0:GH)(H0:Hp):Prop where
 go:∀G H (i:Nat),Grow K G0 H0 G H->i<ds.length->J.go i H
 yld:∀G H (i:Nat) x H' d,Grow K G0 H0 G H->J.yld i H x H'->ds[i]? = some d->∃G',Grow K G H G' H'/\RG K G' x d
 stop:∀G H,Grow K G0 H0 G H->J.stop ds.length H
theorem Yields.toC{K:W.Frag}{J:It}{ds:List D}{G0:GH}{H0:Hp}(y:Yields K J ds G0):YieldsC K J ds G0 H0:=⟨fun G H i w hi=>y.go G H i w.ge w.ok hi,fun G H i x H' d w q e=>y.yld G H i x H' d w.ge w.ok q e,fun G H w=>y.stop G H w.ge w.ok⟩
def Qq(X:Cx)(g:GE)(m:List Md)(f:FI):TI:=fun σ H R=>∃r G,SI X g m r G σ H/\fin (f r) (fun ds=>∀J G' H',Grow X.K G H G' H'->YieldsC X.K J ds G' H'->R J H') (XW X σ G H)
def gU(X:Cx)(g:GE)(m:List Md)(tg iter:Expr)(f:FI):Prop:=PI X tg iter (Qq X g m f)
theorem ju.toC{fi:FI}(h:ju X g m tg iter fi):gU X g m tg iter fi:=PI.imp h fun σ H R ⟨r,G,si,q⟩=>⟨r,G,si,bg q fun ds k J G' H' w y=>k J G' H' w y.toC⟩
theorem KY{K:W.Frag}{a:Addr}{ds:List D}{G0:GH}{H0:Hp}(o:Own K G0 H0 a (.lst ds)):YieldsC K (pC K a) ds G0 H0:=by
 have at_:∀G H,Grow K G0 H0 G H->∃xs,aY K H a xs/\bC K G xs ds:=fun G H w=>by cases(o.mono w).ob with
 |lst r s=>exact⟨_,aY.of r,s⟩
 refine⟨fun G H i w hi=>?_,fun G H i x H' d w y e=>?_,fun G H w=>?_⟩
 .obtain⟨xs,s,r⟩:=at_ G H w;have hl:=Paired.length r;exact⟨xs,xs[i],s,b_ (by omega)⟩
 .obtain⟨xs,s,r⟩:=at_ G H w;obtain⟨rfl,y⟩:=y;obtain⟨v,e1,rv⟩:=Paired.get r e;have:=y xs s;rw[e1]at this;cases this;exact⟨G,Grow.refl w.ok,rv⟩
 .obtain⟨xs,s,r⟩:=at_ G H w;exact⟨xs,s,Uu (Paired.length r)⟩
theorem dP(h:SB X g m e f):gU X g m tg e (aF bv f):=by
 refine PI.imp (uI h) fun σ H R ⟨r,G,si,q⟩=>⟨r,G,si,bg (ba q) fun d q v G' H' w rv=>?_⟩
 obtain⟨ds,e,q⟩:=cD q;cases d with
|lst ds'=>
  cases e;rcases rv with rv|⟨a,rfl,o⟩
  .obtain⟨a,xs,rfl,s,rs⟩:=rv.lst w.ok;exact .inl ⟨a,rfl,⟨xs,s⟩,q _ G' H' w (vE rv).toC⟩
  .cases o.ob with
  |lst r s=>exact .inl ⟨a,rfl,⟨_,aY.of r⟩,q _ G' H' w (KY o)⟩
|tup ds'=>
  cases e;rcases rv with rv|⟨a,rfl,o⟩
  .obtain⟨a,xs,rfl,s,rs⟩:=rv.tup w.ok;exact .inr ⟨a,rfl,⟨xs,s⟩,q _ G' H' w (uL rv).toC⟩
  .cases o.ob
|_=>cases e
def de:List D->Option (List D)
|[.int j]=>if-(2^62)<=j/\j<2^62 then some (dc 0 j.toNat)else none
|_=>none
def dG(k:List D->Option (List D))(fl:ao->Res (List D)):FI:=fun r=>(fl r).bind fun ds=>bX (k ds)
theorem kO{pn:Pos}(hg:Gl X "range")(hm:X.mg "range" = none)(ha:gG X g m [a] fl)(hs:s_ [a] X.env=[(false,eval a X.env)]:=by rfl):ju X g m tg (.Call (.Name "range" pn) [a] [] pos) (dG de fl):=by
 refine PI.imp (Of hg hm ha hs) fun σ H R ⟨r,G,si,q⟩=>⟨r,G,si,bg (ba q) fun ds q vs G' H' w rs=>?_⟩
 obtain⟨zs,e,q⟩:=cD q;unfold de at e;split at e
 .split at e
  .rename_i j hj;cases e;cases rs with
  |cons r1 t=>cases t;exact⟨j,by rw[r1.int w.ok],hj.1,hj.2,q _ G' H' w KZ⟩
  .cases e
 .cases e
def aG(ft:FT)(body:FS):List D->FS
|[],r=>.nx r
|d::ds,r=>match ft d r with
 |none=>.stuck
 |some r1=>match body r1 with
  |.nx r'=>aG ft body ds r'
  |.ct r'=>aG ft body ds r'
  |.bk r'=>.nx r'
  |o=>o
def cK(m:List Md)(fi:FI)(ft:FT)(body:FS):FS:=fun r=>fP m r (fi r) fun ds=>aG ft body ds r
theorem jz(hp:UB (QE X.prog X.w) X.A X.env X.xe)(hc:X.calm=true){ft:FT}{fi:FI}(hi:ju X g m tg iter fi)(hg:SG X g m tg ft m)(hb:fR X g ro m m sts s1 m)(hs:∀x,RP iter X.env x=pure x:=by intro _;rfl):SS X g ro mb m (.For tg iter sts [] pos) (cK m fi ft s1) m:=by
 refine⟨rfl,PS.imp (qh hp hc hi hg.2 hb.2 hs) fun D σ H ⟨r,G,si,q⟩=>⟨r,G,si,bg (fJ si rfl q) fun ds q J G0 H0 w0 Y=>?_⟩⟩;refine⟨fun i n σ H=>∃r G,SI X g m r G σ H/\aQ G0 G/\i<=ds.length/\n=ds.length-i/\bS X g ro m mb G D (aG ft s1 (ds.drop i) r),⟨ds.length,r,G0,si.grow w0,aQ.refl G0,QX _,rfl,bS.gle q w0.ge⟩,?_⟩
 rintro i n σ1 H1 ⟨r1,G1,si1,le1,hi,rfl,q1⟩
 by_cases hlt:i<ds.length
 .have hd:ds.drop i=ds[i]::ds.drop (i+1):=RF hlt;rw[hd]at q1;unfold aG at q1;refine .inr ⟨Y.go G1 H1 i le1 si1.gok hlt,fun σ' H'=>∃r G,SI X g m r G σ' H'/\aQ G0 G/\bS X g ro m mb G D (aG ft s1 (ds.drop (i+1)) r),fun σ' H' ⟨r',G',si',le',q'⟩=>⟨ds.length-(i+1),by omega,r',G',si',le',hlt,rfl,q'⟩,fun x H' y=>?_⟩;obtain⟨G',w',rv⟩:=Y.yld G1 H1 i x H' ds[i] le1 si1.gok y (b_ hlt);have le':aQ G0 G':=le1.trans w'.ge;cases eft:ft ds[i] r1 with
 |none=>simp only[eft]at q1;exact q1.elim
 |some r2=>simp only[eft]at q1;refine⟨r1,G',ds[i],si1.grow w',rv,r2,eft,fun σ2 si2=>⟨r2,G',si2,?_⟩⟩;cases eb:s1 r2 with
  |nx r'=>simp only[eb]at q1;exact fun σ3 G3 H3 le3 si3=>⟨r',G3,si3,le'.trans le3,bS.gle q1 (aQ.trans w'.ge le3)⟩
  |ct r'=>simp only[eb]at q1;exact fun σ3 G3 H3 le3 si3=>⟨r',G3,si3,le'.trans le3,bS.gle q1 (aQ.trans w'.ge le3)⟩
  |bk r'=>simp only[eb]at q1;exact fun σ3 G3 H3 le3 si3=>q1 σ3 G3 H3 (aQ.trans w'.ge le3) si3
  |rt d=>simp only[eb]at q1;exact q1
  |exc x r'=>simp only[eb]at q1;exact fun pz e s' σ3 G3 H3 le3=>q1 pz e s' σ3 G3 H3 (aQ.trans w'.ge le3)
  |stuck=>simp only[eb]at q1;exact q1
 .have e:i=ds.length:=by omega
  subst e;rw[Tp]at q1;exact .inl ⟨Y.stop G1 H1 le1 si1.gok,q1 σ1 G1 H1 (aQ.refl _) si1⟩
def cJ(m:List Md):List Md:=m.map fun x=>if x=Md.sh then Md.sh else Md.bw
def lj(m:List Md)(r:ao)(st:L2.St)(G:GH)(H:Hp):GE:=⟨G,H,fun i=>if m[i]? = some Md.ow\/m[i]? = some Md.bw then some ((st[i]?).join,(r[i]?).join)else none⟩
theorem oy{m:List Md}{i:Nat}{x:Md}(h:m[i]? = some x):(cJ m)[i]? = some (if x=Md.sh then Md.sh else Md.bw):=by unfold cJ;rw[t_,h];rfl
theorem Mi{m:List Md}{i:Nat}(h:(cJ m)[i]? = some Md.sh):m[i]? = some Md.sh:=by cases q:m[i]? with
|none=>unfold cJ at h;rw[t_,q]at h;cases h
|some x=>rw[oy q]at h;cases x <;> first|rfl|(simp at h)
theorem DI{m:List Md}{i:Nat}(h:(cJ m)[i]? = some Md.ow):False:=by cases q:m[i]? with
|none=>unfold cJ at h;rw[t_,q]at h;cases h
|some x=>rw[oy q]at h;cases x <;> simp at h
theorem lockM_bw{m:List Md}{i:Nat}(h:(cJ m)[i]? = some Md.bw):m[i]? = some Md.ow\/m[i]? = some Md.bw:=by cases q:m[i]? with
|none=>unfold cJ at h;rw[t_,q]at h;cases h
|some x=>rw[oy q]at h;cases x with
 |sh=>simp at h
 |ow=>exact .inl rfl
 |bw=>exact .inr rfl
theorem SI.lock{r:ao}{G:GH}{st:L2.St}{H:Hp}(s:SI X g m r G st H):SI X (lj m r st G H) (cJ m) r G st H where
 gok:=s.gok
 old:=fun _ _ e=>e
 ge:=fun _ _ e=>e
 gf:=fun _ _=>rfl
 lm:=by unfold cJ;rw[m_];exact s.lm
 lr:=s.lr
 sh:=fun i d h hm=>s.sh i d h (Mi hm)
 ow:=fun i d h hm=>(DI hm).elim
 bw:=fun i d h hm=>by
  rcases lockM_bw hm with z|z
  .obtain⟨a,h1,h2,_⟩:=s.ow i d h z;exact⟨_,h1,.inr ⟨a,rfl,h2,h2.ob.isS⟩⟩
  .obtain⟨v,h1,h2⟩:=s.bw i d h z;refine⟨v,h1,?_⟩;rcases h2 with h2|⟨a,e,h2,_⟩
   .exact .inl h2
   .exact .inr ⟨a,e,h2,h2.ob.isS⟩
 dis:=fun i j a d e _ _ _ hm=>(DI hm).elim
 lk:=fun i o h hm=>by
  have h':(if m[i]? = some Md.ow\/m[i]? = some Md.bw then some ((st[i]?).join,(r[i]?).join)else none)=some o:=h;rw[if_pos (lockM_bw hm)]at h';cases h';have hi:i<st.length:=by have:=(e_.mp hm).1;unfold cJ at this;rw[m_,s.lm]at this;exact this
  refine⟨?_,fun d hd=>by rw[hd];rfl⟩;rw[b_ hi];rfl
theorem SI.unlock{r r':ao}{G G':GH}{st st':L2.St}{H H':Hp}(s:SI X g m r G st H)(s':SI X (lj m r st G H) (cJ m) r' G' st' H'):SI X g m r' G' st' H':=by
 have w:Grow X.K G H G' H':=s'.grown;have hlk:∀(i:Nat),(m[i]? = some Md.ow\/m[i]? = some Md.bw)->st'[i]? = some (st[i]?).join/\∀d,r'[i]? = some (some d)->r[i]? = some (some d):=fun i hi=>by
  have hm:(cJ m)[i]? = some Md.bw:=by rcases hi with z|z <;> rw[oy z] <;> simp
  obtain⟨h1,h2⟩:=s'.lk i ((st[i]?).join,(r[i]?).join) (if_pos hi) hm;refine⟨h1,fun d hd=>?_⟩;have:=h2 d hd;cases q:r[i]? with
 |none=>rw[q]at this;cases this
 |some o=>rw[q]at this;rw[show o=some d from this]
 have hst:∀(i:Nat) v,(m[i]? = some Md.ow\/m[i]? = some Md.bw)->st[i]? = some (some v)->st'[i]? = some (some v):=fun i v hi h=>by rw[(hlk i hi).1,h];rfl
 refine⟨s'.gok,fun a o e=>s'.old a o (s.old a o e),fun a d e=>s'.ge a d (s.ge a d e),fun a h=>?_,?_,s'.lr,fun i d h hm=>?_,fun i d h hm=>?_,fun i d h hm=>?_,fun i j a d e hij h1 h2 m1 m2 q1 q2=>?_,fun i o hi hm=>?_⟩
 .have h1:H a≠none:=by cases e:g.h0 a with
  |none=>exact absurd e h
  |some o=>rw[s.old _ _ e];simp
  rw[w.gf a h1,s.gf a h]
 .have:=s'.lm;unfold cJ at this;rw[m_]at this;exact this
 .exact s'.sh i d h (by rw[oy hm];simp)
 .obtain⟨a,h1,h2,h3⟩:=s.ow i d ((hlk i (.inl hm)).2 d h) hm;exact⟨a,hst i _ (.inl hm) h1,h2.mono w,h3⟩
 .obtain⟨v,h1,h2⟩:=s.bw i d ((hlk i (.inr hm)).2 d h) hm;exact⟨v,hst i _ (.inr hm) h1,h2.grow w⟩
 .have e1:=(hlk i (.inl m1)).2 d h1;have e2:=(hlk j (.inl m2)).2 e h2;obtain⟨b,z1,_,_⟩:=s.ow i d e1 m1;obtain⟨c,z2,_,_⟩:=s.ow j e e2 m2;have y1:=hst i _ (.inl m1) z1;have y2:=hst j _ (.inl m2) z2;rw[q1]at y1;rw[q2]at y2;cases y1;cases y2;exact s.dis i j a d e hij e1 e2 m1 m2 z1 z2
 .obtain⟨h1,h2⟩:=s.lk i o hi hm;refine⟨?_,fun d hd=>h2 d ((hlk i (.inr hm)).2 d hd)⟩;rw[(hlk i (.inr hm)).1,h1];rfl
theorem SI.unlockX{r r':ao}{G G':GH}{st st':L2.St}{H H':Hp}(s:SI X g m r G st H)(s':SI X (lj m r st G H) (fF (cJ m)) r' G' st' H'):SI X g (fF m) r' G' st' H':=by
 have w:Grow X.K G H G' H':=s'.grown;have el:fF (cJ m)=fF m:=q9 (by unfold cJ;rw[m_]);rw[el]at s';have no:∀{i:Nat}{x:Md},(fF m)[i]? = some x->x=Md.sh:=fun{i x} h=>by unfold fF at h;rw[t_]at h;cases q:m[i]? with
 |none=>rw[q]at h;cases h
 |some y=>rw[q]at h;cases h;rfl
 refine⟨s'.gok,fun a o e=>s'.old a o (s.old a o e),fun a d e=>s'.ge a d (s.ge a d e),fun a h=>?_,s'.lm,s'.lr,s'.sh,fun i d h hm=>(nomatch (no hm)),fun i d h hm=>(nomatch (no hm)),fun i j a d e hij h1 h2 m1 m2=>(nomatch (no m1)),fun i o hi hm=>(nomatch (no hm))⟩;have h1:H a≠none:=by cases e:g.h0 a with
 |none=>exact absurd e h
 |some o=>rw[s.old _ _ e];simp
 rw[w.gf a h1,s.gf a h]
theorem Bq(hp:UB (QE X.prog X.w) X.A X.env X.xe)(hc:X.calm=true){ft:FT}{fi:FI}(hi:gU X g m tg iter fi)(hg:∀g',SG X g' (cJ m) tg ft (cJ m))(hb:∀g',fR X g' ro (cJ m) (cJ m) sts s1 (cJ m))(hs:∀x,RP iter X.env x=pure x:=by intro _;rfl):SS X g ro mb m (.For tg iter sts [] pos) (cK m fi ft s1) m:=by
 have hgA:PG X tg (fun v σ H Q=>∃g',tG X g' (cJ m) (cJ m) ft v σ H Q):=fun pz s σ H v u Q I r ⟨g',q⟩=>(hg g').2 pz s σ H v u Q I r q;have hbA:d7 X sts (fun D σ H=>∃g',tS X g' ro (cJ m) (cJ m) (cJ m) s1 D σ H):=fun pz s σ H D I ⟨g',q⟩=>(hb g').2 pz s σ H D I q;refine⟨rfl,PS.imp (qh hp hc hi hgA hbA hs) fun D σ H ⟨r,G,si,q⟩=>⟨r,G,si,bg (fJ si rfl q) fun ds q J G0 H0 w0 Y=>?_⟩⟩;have si0:=si.grow w0;refine⟨fun i n σ1 H1=>∃r1 G1,SI X (lj m r σ G0 H0) (cJ m) r1 G1 σ1 H1/\i<=ds.length/\n=ds.length-i/\bS X g ro m mb G1 D (aG ft s1 (ds.drop i) r1),⟨ds.length,r,G0,si0.lock,QX _,rfl,bS.gle q w0.ge⟩,?_⟩
 rintro i n σ1 H1 ⟨r1,G1,si1,hi,rfl,q1⟩
 have wg:Grow X.K G0 H0 G1 H1:=si1.grown;by_cases hlt:i<ds.length
 .have hd:ds.drop i=ds[i]::ds.drop (i+1):=RF hlt;rw[hd]at q1;unfold aG at q1;refine .inr ⟨Y.go G1 H1 i wg hlt,fun σ' H'=>∃r' G',SI X (lj m r σ G0 H0) (cJ m) r' G' σ' H'/\bS X g ro m mb G' D (aG ft s1 (ds.drop (i+1)) r'),fun σ' H' ⟨r',G',si',q'⟩=>⟨ds.length-(i+1),by omega,r',G',si',hlt,rfl,q'⟩,fun x H' y=>?_⟩;obtain⟨G',w',rv⟩:=Y.yld G1 H1 i x H' ds[i] wg y (b_ hlt);cases eft:ft ds[i] r1 with
 |none=>simp only[eft]at q1;exact q1.elim
 |some r2=>simp only[eft]at q1;refine⟨lj m r σ G0 H0,r1,G',ds[i],si1.grow w',rv,r2,eft,fun σ2 si2=>⟨lj m r σ G0 H0,r2,G',si2,?_⟩⟩;cases eb:s1 r2 with
  |nx r'=>simp only[eb]at q1;exact fun σ3 G3 H3 le3 si3=>⟨r',G3,si3,bS.gle q1 (aQ.trans w'.ge le3)⟩
  |ct r'=>simp only[eb]at q1;exact fun σ3 G3 H3 le3 si3=>⟨r',G3,si3,bS.gle q1 (aQ.trans w'.ge le3)⟩
  |bk r'=>simp only[eb]at q1;exact fun σ3 G3 H3 le3 si3=>q1 σ3 G3 H3 (aQ.trans w'.ge le3) (si0.unlock si3)
  |rt d=>simp only[eb]at q1;intro v G2 H2 wr rv2;refine q1 v G2 H2 (si0.grown.trans wr) ?_;cases ro with
   |false=>exact rv2
   |true=>
     rcases rv2 with⟨a,e1,e2,e3⟩|z
     .exact .inl ⟨a,e1,si0.grown.back e2,e3⟩
     .exact .inr z
  |exc x r'=>simp only[eb]at q1;exact fun pz e s' σ3 G3 H3 le3 si3=>q1 pz e s' σ3 G3 H3 (aQ.trans w'.ge le3) (si0.unlockX si3)
  |stuck=>simp only[eb]at q1;exact q1
 .have e:i=ds.length:=by omega
  subst e;rw[Tp]at q1;exact .inl ⟨Y.stop G1 H1 wg,q1 σ1 G1 H1 (aQ.refl _) (si0.unlock si1)⟩
def dz(m:List Md)(p:FQ)(body:FS):Nat->FS
|0,_=>.stuck
|n+1,r=>fP m r (p r) fun c=>if c=true then(match body r with
  |.nx r'=>dz m p body n r'
  |.ct r'=>dz m p body n r'
  |.bk r'=>.nx r'
  |o=>o)else .nx r
theorem n8(n:Nat)(hp:UB (QE X.prog X.w) X.A X.env X.xe)(hc:SQ X g m c p)(hb:fR X g ro m m sts s1 m):SS X g ro mb m (.While c sts [] pos) (dz m p s1 n) m:=by
 refine⟨rfl,PS.imp (NB hp hc hb.2) fun D σ H ⟨r,G,si,q⟩=>?_⟩;refine⟨fun n σ H=>∃r G,SI X g m r G σ H/\bS X g ro m mb G D (dz m p s1 n r),⟨n,r,G,si,q⟩,?_⟩
 rintro n σ1 H1 ⟨r1,G1,si1,q1⟩
 cases n with
|zero=>exact q1.elim
|succ n=>unfold dz at q1;refine⟨r1,G1,si1,bg (fJ si1 rfl q1) fun c q2 G2 H2 w2=>?_⟩;cases c with
 |false=>rw[if_neg g_]at q2 ⊢;exact q2 σ1 G2 H2 w2.ge (si1.grow w2)
 |true=>rw[if_pos rfl]at q2 ⊢;refine⟨fun σ' H'=>∃r G,SI X g m r G σ' H'/\bS X g ro m mb G D (dz m p s1 n r),fun σ' H' h=>⟨n,T7 _,h⟩,r1,G2,si1.grow w2,?_⟩;cases eb:s1 r1 with
  |nx r'=>simp only[eb]at q2;exact fun σ3 G3 H3 le3 si3=>⟨r',G3,si3,bS.gle q2 (aQ.trans w2.ge le3)⟩
  |ct r'=>simp only[eb]at q2;exact fun σ3 G3 H3 le3 si3=>⟨r',G3,si3,bS.gle q2 (aQ.trans w2.ge le3)⟩
  |bk r'=>simp only[eb]at q2;exact fun σ3 G3 H3 le3 si3=>q2 σ3 G3 H3 (aQ.trans w2.ge le3) si3
  |rt d=>simp only[eb]at q2;exact q2
  |exc x r'=>simp only[eb]at q2;exact fun pz e s' σ3 G3 H3 le3=>q2 pz e s' σ3 G3 H3 (aQ.trans w2.ge le3)
  |stuck=>simp only[eb]at q2;exact q2
def iY(m:List Md)(f:FE)(ft:FT):FS:=fun r=>fP m r (f r) fun d=>match ft d r with
|some r'=>.nx r'
|none=>.stuck
theorem A8{ft:FT}(he:SE X g m e f)(hg:SG X g m tg ft m')(hs:VW [tg] e pos.line X.env=pure false:=by rfl)(hw:VX [tg] e X.env=pure none:=by rfl)(h1:(Rx [tg] X.env).map (·.2)=[Ul tg X.env]:=by rfl):SS X g ro mb m (.Assign [tg] e pos) (iY m f ft) m':=by refine⟨hg.1,PS.imp (Bh he hg.2 hs hw h1) fun D σ H ⟨r,G,si,q⟩=>⟨r,G,si,bg (fJ si hg.1 q) fun d q v G' H' w rv=>?_⟩⟩;cases e1:ft d r with
|none=>simp only[e1]at q;exact q.elim
|some r'=>simp only[e1]at q;exact⟨r,G',d,si.grow w,rv,r',e1,fun σ' si'=>q σ' G' H' w.ge si'⟩
end
def nu:Res D->Res D
|.ok d=>.ok d
|_=>.stuck
@[simp] theorem noX_ok(d:D):nu (.ok d)=.ok d:=rfl
inductive ArgsOk(K:W.Frag)(G:GH)(H:Hp):List Md->List V->List D->Prop where
 |nil:ArgsOk K G H [] [] []
 |sh {v:V} {d:D} {ms:List Md} {vs:List V} {ds:List D}:RG K G v d->ArgsOk K G H ms vs ds->ArgsOk K G H (.sh::ms) (v::vs) (d::ds)
 |bw {v:V} {d:D} {ms:List Md} {vs:List V} {ds:List D}:RB K G H v d->ArgsOk K G H ms vs ds->ArgsOk K G H (.bw::ms) (v::vs) (d::ds)
section
variable{K:W.Frag}{G G':GH}{H H':Hp}
theorem ArgsOk.mono:∀{ms:List Md}{vs:List V}{ds:List D},ArgsOk K G H ms vs ds->Grow K G H G' H'->ArgsOk K G' H' ms vs ds
|_,_,_,.nil,_=>.nil
|_,_,_,.sh h t,w=>.sh (h.mono w.ge) (t.mono w)
|_,_,_,.bw h t,w=>.bw (h.mono w) (t.mono w)
theorem ArgsOk.len{ms:List Md}{vs:List V}{ds:List D}(h:ArgsOk K G H ms vs ds):vs.length=ms.length/\ds.length=ms.length:=by induction h with
|nil=>exact⟨rfl,rfl⟩
|sh h t ih=>exact⟨congrArg (· + 1) ih.1,congrArg (· + 1) ih.2⟩
|bw h t ih=>exact⟨congrArg (· + 1) ih.1,congrArg (· + 1) ih.2⟩
theorem ArgsOk.app{dvs:List V}{dds:List D}(hs:Paired Scl dvs dds):∀{ms:List Md}{vs:List V}{ds:List D},ArgsOk K G H ms vs ds->ArgsOk K G H (ms++F_ dds.length .sh) (vs++dvs) (ds++dds)
|_,_,_,.nil=>by induction hs with
 |nil=>exact .nil
 |cons h t ih=>exact .sh (.scl h) ih
|_,_,_,.sh h t=>.sh h (t.app hs)
|_,_,_,.bw h t=>.bw h (t.app hs)
theorem ArgsOk.get:∀{ms:List Md}{vs:List V}{ds:List D}{i:Nat}{d:D},ArgsOk K G H ms vs ds->ds[i]? = some d->∃v,vs[i]? = some v/\((ms[i]? = some .sh/\RG K G v d)\/(ms[i]? = some .bw/\RB K G H v d))
|_,_,_,_,_,.nil,e=>by simp at e
|_,_,_,0,_,.sh h t,e=>by simp at e;subst e;exact⟨_,rfl,.inl ⟨rfl,h⟩⟩
|_,_,_,0,_,.bw h t,e=>by simp at e;subst e;exact⟨_,rfl,.inr ⟨rfl,h⟩⟩
|_,_,_,i+1,d,.sh h t,e=>by obtain⟨v,h1,h2⟩:=t.get (i:=i) (d:=d) (by simpa using e);exact⟨v,by simpa using h1,by simpa using h2⟩
|_,_,_,i+1,d,.bw h t,e=>by obtain⟨v,h1,h2⟩:=t.get (i:=i) (d:=d) (by simpa using e);exact⟨v,by simpa using h1,by simpa using h2⟩
end
def jo(K:W.Frag)(ro:Bool)(ms:List Md)(F:List D->Res D):Sp:=fun vs H Q _=>∃G ds,aN K G H/\ArgsOk K G H ms vs ds/\fin (F ds) (fun d=>∀v G' H',Grow K G H G' H'->RV ro K H G' H' v d->Q v H') fun _=>False
def aB(ro:Bool):Out->Res D
|.nx _=>if ro=true then .stuck else .ok .non
|.rt d=>.ok d
|.exc x _=>.exc x
|_=>.stuck
def aS(n:Nat)(ds:List D):ao:=ds.map some++F_ (n-ds.length) none
def jI(n:Nat)(ms:List Md):List Md:=ms++F_ (n-ms.length) .sh
section
variable{P:J_}{w:QN}{K:W.Frag}{mg:Str->Option c_}{base:Heap}
theorem Du{X:Cx}{N:List Str}{ms:List Md}{vs:List V}{ds:List D}{G:GH}{H:Hp}(gk:aN X.K G H)(rs:ArgsOk X.K G H ms vs ds)(hn:ms.length<=N.length):SI X ⟨G,H,fun _=>none⟩ (jI N.length ms) (aS N.length ds) G (L2.bO N vs) H:=by
 obtain⟨l1,l2⟩:=rs.len;have e1:(L2.bO N vs).length=N.length:=by unfold L2.bO;rw[L_,m_,Sh];omega
 have e2:(aS N.length ds).length=N.length:=by unfold aS;rw[L_,m_,Sh];omega
 have e3:(jI N.length ms).length=N.length:=by unfold jI;rw[L_,Sh];omega
 have at_:∀(i:Nat) d,(aS N.length ds)[i]? = some (some d)->i<ms.length/\(jI N.length ms)[i]? = ms[i]?/\∃v,(L2.bO N vs)[i]? = some (some v)/\((ms[i]? = some .sh/\RG X.K G v d)\/(ms[i]? = some .bw/\RB X.K G H v d)):=fun i d h=>by
  unfold aS at h;by_cases hi:i<ds.length
  .rw[QJ (by simpa using hi),t_]at h;have hd:ds[i]? = some d:=by cases z:ds[i]? with
   |none=>rw[z]at h;cases h
   |some d'=>rw[z]at h;cases h;rfl
   obtain⟨v,hv,rv⟩:=rs.get hd;refine⟨by omega,?_,v,?_,rv⟩
   .unfold jI;rw[QJ (by omega)]
   .unfold L2.bO;rw[QJ (by rw[m_];omega),t_,hv];rfl
  .rw[Rj (by simpa using hi),Rv]at h;split at h <;> cases h
 refine⟨gk,fun _ _ e=>e,fun _ _ e=>e,fun _ _=>rfl,by rw[e3,e1],by rw[e1,e2],fun i d h hm=>?_,fun i d h hm=>?_,fun i d h hm=>?_,fun i j a d e _ h _ hm=>?_,fun i o h=>nomatch h⟩
 .obtain⟨_,hq,v,h1,h2⟩:=at_ i d h;rw[hq]at hm;rcases h2 with⟨_,h2⟩|⟨h3,h2⟩
  .exact⟨v,h1,h2⟩
  .rw[hm]at h3;cases h3
 .obtain⟨_,hq,v,h1,h2⟩:=at_ i d h;rw[hq]at hm;rcases h2 with⟨h3,h2⟩|⟨h3,h2⟩ <;> rw[hm]at h3 <;> cases h3
 .obtain⟨_,hq,v,h1,h2⟩:=at_ i d h;rw[hq]at hm;rcases h2 with⟨h3,h2⟩|⟨h3,h2⟩
  .rw[hm]at h3;cases h3
  .refine⟨v,h1,?_⟩;rcases h2 with h2|⟨a,rfl,h2⟩
   .exact .inl h2
   .exact .inr ⟨a,rfl,h2,h2.ob.isS⟩
 .obtain⟨_,hq,v,h1,h2⟩:=at_ i d h;rw[hq]at hm;rcases h2 with⟨h3,h2⟩|⟨h3,h2⟩ <;> rw[hm]at h3 <;> cases h3
theorem DX{X:Cx}{ro:Bool}{fs:FS}{m':List Md}{G:GH}{H:Hp}{r:ao}{Q:VK}(q:fin (aB ro (fs r)) (fun d=>∀v G' H',Grow X.K G H G' H'->RV ro X.K H G' H' v d->Q v H') fun _=>False):bS X ⟨G,H,fun _=>none⟩ ro m' [] G { nx:=fun _ H'=>Q .non H',rt:=Q } (fs r):=by cases e:fs r with
|nx r'=>rw[e]at q;cases ro with
 |false=>exact fun σ' G' H' _ si=>q .non G' H' si.grown (.scl .non)
 |true=>exact q.elim
|rt d=>rw[e]at q;exact fun v G' H' wg rv=>q v G' H' wg rv
|bk r'=>rw[e]at q;exact q.elim
|ct r'=>rw[e]at q;exact q.elim
|exc x r'=>rw[e]at q;exact q.elim
|stuck=>rw[e]at q;exact q
theorem BJ{x qual:Str}{st:Stmt}{f:Addr}{fd:RM}{N ps:List Str}{k:Nat}{ro:Bool}{ms:List Md}{fs:FS}{m':List Md}(F:Fun K x qual st f fd)(S:FnScope N ps (az st))(hms:ms.length=ps.length)(hbody:∀(cdv:c_)(A:Q9)(outer:List Env)(s:k_)(H:Hp)(g:GE)(E:XK),Room k (A.deeper (T6 qual (az st) s.heap.objs.size f cdv)) ->fR (aT bR P w K mg base N qual (az st) f cdv A outer s H E).nox g ro [] (jI N.length ms) (eU st) fs m'):FnOk P w K mg base bR (k+1) f fd ps (jo K ro ms fun ds=>aB ro (fs (aS N.length ds))):=by
 refine F.ok S (fun vs H Q E ⟨G,ds,gk,rs,q⟩=>rs.len.1.trans hms) fun cdv A outer s H vs Q E hr h=>?_;obtain⟨G,ds,gk,rs,q⟩:=h;have hpl:ps.length<=N.length:=by have:=congrArg US S.pre;rw[Rf]at this;omega
 exact⟨_,(hbody cdv A outer s H ⟨G,H,fun _=>none⟩ E hr).2,aS N.length ds,G,Du gk rs (by omega),DX q⟩
end
section
variable{X:Cx}{g:GE}{m:List Md}{e:Expr}{f:FE}{es:List Expr}{fl:ao->Res (List D)}{k:Nat}{fa:Addr}{fd:RM}{ps:List Str}{F:List D->Res D}{dvs:List V}{ds:List c_}{dds:List D}{x:Str}{p pos:Pos}{ms:List Md}
def Qn(X:Cx)(g:GE)(m:List Md)(ms:List Md)(f:ao->Res (List D)):TA:=fun σ H Q=>∃r G,SI X g m r G σ H/\fin (f r) (fun ds=>∀vs G' H',Grow X.K G H G' H'->ArgsOk X.K G' H' ms vs ds->Q vs H') (XW X σ G H)
def jv(X:Cx)(g:GE)(m:List Md)(es:List Expr)(ms:List Md)(f:ao->Res (List D)):Prop:=PA X es (Qn X g m ms f)
theorem aI:jv X g m [] [] ae:=PA.imp kF fun σ H Q ⟨r,G,si,k⟩=>k [] G H (Grow.refl si.gok) .nil
theorem bI(ha:SE X g m e f)(hr:jv X g m es ms fl)(hs:s_ (e::es) X.env=(false,eval e X.env)::s_ es X.env:=by rfl):jv X g m (e::es) (.sh::ms) (ai f fl):=by
 refine PA.imp (iy ha hr hs) fun σ H Q ⟨r,G,si,k⟩=>⟨r,G,si,bg (ba k) fun d k1 v G1 H1 w1 r1=>⟨r,G1,si.grow w1,?_⟩⟩
 exact fL (ba k1) w1 fun ds z vs G2 H2 w2 r2=>z (v::vs) G2 H2 (w1.trans w2) (.sh (r1.mono w2.ge) r2)
theorem ag(ha:SB X g m e f)(hr:jv X g m es ms fl)(hs:s_ (e::es) X.env=(false,eval e X.env)::s_ es X.env:=by rfl):jv X g m (e::es) (.bw::ms) (ai f fl):=by
 refine PA.imp (iy ha hr hs) fun σ H Q ⟨r,G,si,k⟩=>⟨r,G,si,bg (ba k) fun d k1 v G1 H1 w1 r1=>⟨r,G1,si.grow w1,?_⟩⟩
 exact fL (ba k1) w1 fun ds z vs G2 H2 w2 r2=>z (v::vs) G2 H2 (w1.trans w2) (.bw (r1.mono w2) r2)
def aC(fl:ao->Res (List D))(dds:List D)(F:List D->Res D):FE:=fun r=>(fl r).bind fun ds=>nu (F (ds++dds))
theorem Eg{ro:Bool}{vs:List V}{zs:List D}{G:GH}{H:Hp}{Q:VK}(gk:aN X.K G H)(rs:ArgsOk X.K G H ms vs zs)(hsc:Paired Scl dvs dds)(q:fin (nu (F (zs++dds))) (fun d=>∀v G' H',Grow X.K G H G' H'->RV ro X.K H G' H' v d->Q v H') fun _=>False):jo X.K ro (ms++F_ dds.length .sh) F (vs++dvs) H Q E0:=by refine⟨G,zs++dds,gk,rs.app hsc,?_⟩;cases e:F (zs++dds)with
|ok d=>rw[e]at q;exact q
|exc x=>rw[e]at q;exact q.elim
|stuck=>rw[e]at q;exact q.elim
theorem EO{α:Type}{r:Res α}{q:α->Prop}{x:D->Prop}(h:fin r q x)(hr:∀e,r≠.exc e):fin r q fun _=>False:=by cases r with
|ok a=>exact h
|exc e=>exact absurd rfl (hr e)
|stuck=>exact h
theorem BV(r:Res D)(e:D):nu r≠.exc e:=by cases r <;> simp[nu]
theorem JU(G1:FnOk X.prog X.w X.K X.mg X.base bR k fa fd ps (jo X.K false (ms++F_ dds.length .sh) F))(hr:Room k X.A)(hg:Gl X x)(hm:X.mg x=some (.ref fa))(hk:W.keepIn X.K (.ref fa)=true)(hb:io X.K fd ps ds)(hd:aq dvs ds)(hsc:Paired Scl dvs dds)(ha:jv X g m (e::es) ms fl)(hdb:(x==("__debug__" : Str))=false:=by decide)(he:s_ (e::es) X.env=(false,eval e X.env)::s_ es X.env:=by rfl)(hpl:(backTo pos (s_ es X.env)).any (·.1)=false:=by rfl):SE X g m (.Call (.Name x p) (e::es) [] pos) (aC fl dds F):=by
 refine PE.imp (C2 G1 hr hg hm hk hb hd AE ha hdb he hpl) fun σ H Q ⟨r,G,si,q⟩=>⟨r,G,si,?_⟩
 cases ez:fl r with
|ok zs=>unfold aC at q;rw[ez]at q;intro vs G' H' w' rs;exact Eg w'.ok rs hsc (bg (EO q (BV _)) fun d k v G2 H2 w2 rv=>k v G2 H2 (w'.trans w2) rv)
|exc x=>unfold aC at q;rw[ez]at q;exact q
|stuck=>unfold aC at q;rw[ez]at q;exact q
def iS(f:FE):FE:=fun r=>(f r).bind fun d=>match d with
|.non=>.stuck
|d=>.ok d
theorem Iw(G1:FnOk X.prog X.w X.K X.mg X.base bR k fa fd ps (jo X.K true (ms++F_ dds.length .sh) F))(hr:Room k X.A)(hg:Gl X x)(hm:X.mg x=some (.ref fa))(hk:W.keepIn X.K (.ref fa)=true)(hb:io X.K fd ps ds)(hd:aq dvs ds)(hsc:Paired Scl dvs dds)(ha:jv X g m (e::es) ms fl)(hdb:(x==("__debug__" : Str))=false:=by decide)(he:s_ (e::es) X.env=(false,eval e X.env)::s_ es X.env:=by rfl)(hpl:(backTo pos (s_ es X.env)).any (·.1)=false:=by rfl):SO X g m (.Call (.Name x p) (e::es) [] pos) (iS (aC fl dds F)):=by
 refine PE.imp (C2 G1 hr hg hm hk hb hd AE ha hdb he hpl) fun σ H Q ⟨r,G,si,q⟩=>⟨r,G,si,?_⟩
 cases ez:fl r with
|ok zs=>
  have q:=ba q;unfold aC at q;rw[ez]at q;intro vs G' H' w' rs;refine Eg w'.ok rs hsc (bg (EO q (BV _)) fun d k v G2 H2 w2 rv=>?_);rcases rv with⟨a,rfl,hn,ho⟩|⟨rfl,rfl⟩
  .cases d with
  |non=>exact k.elim
  |_=>exact k a G2 H2 (w'.trans w2) (w'.back hn) ho
  .exact k.elim
|exc x=>have q:=ba q;unfold aC at q;rw[ez]at q;exact q
|stuck=>have q:=ba q;unfold aC at q;rw[ez]at q;exact q
end
theorem MJ{env:Env}:∀(l:List (Str×Tk))(cs:List (Str×Addr)),(∀x∈l,x.2=.free->∃c,env.cells.lookup x.1=some c)->(∀x c,cs.lookup x=some c->env.cells.lookup x=some c) ->∃cl,(forIn l cs (fun(x:Str×Tk)(cs:List (Str×Addr))=>if (x.2==NameKind.free)=true then(do let a <-Ya env x.1;pure (ForInStep.yield ((x.1,a)::cs)))else pure (ForInStep.yield cs)):Sem (List (Str×Addr)))=pure cl /\(∀x c,cl.lookup x=some c->env.cells.lookup x=some c)/\(∀x,(x,NameKind.free)∈l->∃c,cl.lookup x=some c)/\(∀x c,cs.lookup x=some c->∃c',cl.lookup x=some c'):=by
 intro l
 induction l with
|nil=>intro cs _ h;exact⟨cs,rfl,h,fun x hx=>(by cases hx),fun x c h=>⟨c,h⟩⟩
|cons y l ih=>
  intro cs hf hc;obtain⟨n,k⟩:=y;by_cases hk:k=.free
  .subst hk;obtain⟨c,ec⟩:=hf (n,.free) d_ rfl;have e1:Ya env n=pure c:=by unfold Ya;rw[ec]
   have hc':∀x c',((n,c)::cs).lookup x=some c'->env.cells.lookup x=some c':=fun x c' h=>by rw[SX]at h;cases q:x==n with
   |true=>rw[q]at h;cases h;rw[Sn q];exact ec
   |false=>rw[q]at h;exact hc x c' h
   obtain⟨cl,e2,h1,h2,h3⟩:=ih ((n,c)::cs) (fun x hx=>hf x (i_ _ hx)) hc';refine⟨cl,?_,h1,fun x hx=>?_,fun x c' h=>?_⟩
   .rw[<-e2];rw[Uo];show(Ya env n >>= fun a=>pure (ForInStep.yield ((n,a)::cs))) >>= _=_;rw[e1];rfl
   .rcases w_.mp hx with z|z
    .cases z;exact h3 n c (by rw[SX];simp)
    .exact h2 x z
   .cases q:x==n with
   |true=>exact h3 x c (by rw[SX,q])
   |false=>exact h3 x c' (by rw[SX,q];exact h)
  .obtain⟨cl,e2,h1,h2,h3⟩:=ih cs (fun x hx=>hf x (i_ _ hx)) hc;have hb:(k==NameKind.free)=false:=by simpa using hk
   refine⟨cl,?_,h1,fun x hx=>?_,h3⟩
   .rw[<-e2,Uo];simp only[hb,V9,if_false];rfl
   .rcases w_.mp hx with z|z
    .cases z;exact absurd rfl hk
    .exact h2 x z
theorem OR{scope:SK}{env:Env}(hf:∀x∈scope.names,x.2=.free->∃c,env.cells.lookup x.1=some c):∃cl,Xc scope env=pure cl/\(∀x c,cl.lookup x=some c->env.cells.lookup x=some c)/\(∀x,(x,NameKind.free)∈scope.names->∃c,cl.lookup x=some c):=by obtain⟨cl,e,h1,h2,_⟩:=MJ scope.names [] hf (fun x c h=>by cases h);refine⟨cl,?_,h1,h2⟩;have e0:Xc scope env=((forIn scope.names ([]:List (Str×Addr)) (fun(x:Str×Tk)(cs:List (Str×Addr))=>if (x.2==NameKind.free)=true then(do let a <-Ya env x.1;pure (ForInStep.yield ((x.1,a)::cs)))else pure (ForInStep.yield cs)):Sem (List (Str×Addr))) >>= fun cs=>pure cs):=rfl;rw[e0,e];rfl
theorem F5{f:Str->Tk->Tk}:∀(l:List (Str×Tk))(x:Str),(l.map fun y=>(y.1,f y.1 y.2)).lookup x=(l.lookup x).map (f x)
|[],x=>rfl
|(n,k)::l,x=>by rw[u_,SX,SX];cases q:x==n with
 |true=>simp[Sn q]
 |false=>exact F5 l x
def dR(env:Env)(n:Str)(k:Tk):Tk:=if (k==.free&&env.scope.kind==.function&&env.kindOf n==some .cell)=true then .cell else k
theorem F7(scope:SK)(env:Env)(x:Str):(Wm scope env).names.lookup x=(scope.names.lookup x).map (dR env x):=by
 rw[<-F5];unfold Wm;congr 1;apply QI;intro y _;obtain⟨n,k⟩:=y;show(if (k==NameKind.free&&env.scope.kind==.function&&env.kindOf n==some .cell)=true then(n,NameKind.cell)else(n,k))=(n,dR env n k)
 unfold dR;split <;> rfl
structure CompSc(X:Cx)(scope:SK)(N':List Str)(nl:Nat)(cap:List Nat):Prop where
 kind:scope.kind=.function
 nocell:∀y∈scope.names,y.2≠.cell
 names:∀y∈scope.names,y.2=.local->scope.names.lookup y.1=some .local
 freeK:∀y∈scope.names,y.2=.free->X.env.kindOf y.1=some .cell\/X.env.kindOf y.1=some .free
 len:N'.length=nl+cap.length
 capN:∀j,j<cap.length->∃x,N'[nl+j]? = some x/\X.N[cap.getD j 0]? = some x/\scope.names.lookup x=some .free
def fB(X:Cx)(s₀:k_)(H₀:Hp)(N':List Str)(scope:SK)(cl:List (Str×Addr))(C:Addr)(fp:List Addr):Cx where
 prog:=X.prog
 w:=X.w
 K:=X.K
 mg:=X.mg
 base:=X.base
 A:=X.A
 N:=N'
 s₀:=s₀
 H₀:=H₀
 env:=VI scope cl C X.env
 outer:=X.stack
 stack:=X.stack
 ex:=fp
 fn:=fun _=>false
 calm:=X.calm
 pn:=[]
 xe:=fun _ _=>False
section
variable{X:Cx}{pz:List (Addr×Obj)}{σ:L2.St}{H:Hp}{s:k_}{scope:SK}{N':List Str}{nl:Nat}{cap:List Nat}{cl:List (Str×Addr)}{C:Addr}{fp:List Addr}
theorem Hx(I:Inv X pz σ H s)(sc:CompSc X scope N' nl cap)(h1:∀x c,cl.lookup x=some c->X.env.cells.lookup x=some c)(h2:∀x,(x,NameKind.free)∈scope.names->∃c,cl.lookup x=some c)(hf:∀b∈fp,c0 X pz H b/\b<s.heap.objs.size)(hC:s.heap.objs.size<=C):(fB X s H N' scope cl C fp).Ok where
 mod:=I.ok.mod
 kind:=sc.kind
 glob:=I.ok.glob
 blt:=I.ok.blt
 above:=hC
 inj:=fun x y c a b=>I.ok.inj x y c (h1 x c a) (h1 y c b)
 has:=fun x hk=>by
  have hk':(scope.names.lookup x).map (dR X.env x)=some .cell\/(scope.names.lookup x).map (dR X.env x)=some .free:=by rw[<-F7];exact hk
  cases e:scope.names.lookup x with
 |none=>rw[e]at hk';rcases hk' with z|z <;> cases z
 |some k=>
   have hm:=RD e;have kf:k=.free:=by
    rw[e]at hk';have hk2:dR X.env x k=.cell\/dR X.env x k=.free:=by
     rcases hk' with z|z
     .exact .inl (K_ z)
     .exact .inr (K_ z)
    unfold dR at hk2;split at hk2
    .rename_i hc;simp only[QG,beq_iff_eq]at hc;exact hc.1.1
    .rcases hk2 with z|z
     .exact absurd z (sc.nocell _ hm)
     .exact z
   subst kf;exact h2 x hm
 cab:=fun x c h=>by cases h
 hd:=I.ok.hd
 frames:=I.ok.frames
 stk:=.inl rfl
 exf:=fun b hb=>⟨QM (C_ (hf b hb).2 hC),fun x c e=>(hf b hb).1.2.2.2.2.1 x c (h1 x c e)⟩
 bs:=I.bs
 bsz:=O_ I.ok.bsz I.sz
 noex:=fun b o e hb=>by
  obtain⟨_,_,_,hx,_⟩:=(hf b hb).1;rcases hx with z|z
  .exact I.ok.noex b o e z
  .exact absurd (C_ (A_ e) (O_ I.ok.bsz z)) (Q_ _)
 exfs:=fun b hb hfs=>by
  obtain⟨_,q1,q2,_⟩:=(hf b hb).1;rcases w_.mp (I.stkSub b hfs)with z|z
  .exact q1 z
  .exact q2 z
 funs:=I.stack
 frf:=I.stkFree
end
def fT(ft:FT)(q:FQ)(fe:FE)(r0:ao):List D->Res (List D)
|[]=>.ok []
|d::ds=>(bX (ft d r0)).bind fun r1=>(q r1).bind fun c=>if c=true then(fe r1).bind fun v=>(fT ft q fe r0 ds).bind fun vs=>.ok (v::vs)else fT ft q fe r0 ds
def bA(nl:Nat)(cap:List Nat)(r:ao):ao:=F_ nl none++cap.map fun i=>r.getD i none
def aP(nl:Nat)(cap:List Nat)(m:List Md):List Md:=F_ nl Md.sh++cap.map fun i=>if m.getD i Md.sh=Md.sh then Md.sh else Md.bw
def dq(nl:Nat)(cap:List Nat)(st:L2.St):L2.St:=F_ nl none++cap.map fun i=>st.getD i none
theorem nZ{α:Type}{nl:Nat}{cap:List Nat}{u:α}{h:Nat->α}{i:Nat}(hi:nl<=i):(F_ nl u++cap.map h)[i]? = (cap[i-nl]?).map h:=by rw[Rj (by simpa using hi),Sh,t_]
section
variable{X:Cx}{pz:List (Addr×Obj)}{σ:L2.St}{H H':Hp}{s:k_}{scope:SK}{N':List Str}{nl:Nat}{cap:List Nat}{cl:List (Str×Addr)}{C:Addr}{fp:List Addr}{g:GE}{G G':GH}{m:List Md}{r:ao}
theorem Hh(si:SI X g m r G σ H)(w:Grow X.K G H G' H'):SI (fB X s H N' scope cl C fp) ⟨G,H,fun _=>none⟩ (aP nl cap m) (bA nl cap r) G' (dq nl cap σ) H':=by
 have lens:(aP nl cap m).length=nl+cap.length:=by simp[aP]
 have lens2:(bA nl cap r).length=nl+cap.length:=by simp[bA]
 have lens3:(dq nl cap σ).length=nl+cap.length:=by simp[dq]
 have rget:∀(i:Nat) d,(bA nl cap r)[i]? = some (some d)->nl<=i/\∃j,cap[i-nl]? = some j/\r[j]? = some (some d):=fun i d h=>by
  by_cases hi:i<nl
  .unfold bA at h;rw[QJ (by simpa using hi),Rv]at h;split at h <;> cases h
  .refine⟨by omega,?_⟩;unfold bA at h;rw[nZ (by omega)]at h;cases e:cap[i-nl]? with
  |none=>rw[e]at h;cases h
  |some j=>rw[e]at h;refine⟨j,rfl,?_⟩;have h':r.getD j none=some d:=K_ h;rw[x_]at h';cases e2:r[j]? with
   |none=>rw[e2]at h';cases h'
   |some o=>rw[e2]at h';rw[show o=some d from h']
 have mget:∀(i j:Nat) md,nl<=i->cap[i-nl]? = some j->(aP nl cap m)[i]? = some md->md=if m.getD j Md.sh=Md.sh then Md.sh else Md.bw:=fun i j md hi hj h=>by unfold aP at h;rw[nZ hi,hj]at h;exact(K_ h).symm
 have sget:∀(i j:Nat) v,nl<=i->cap[i-nl]? = some j->σ[j]? = some (some v)->(dq nl cap σ)[i]? = some (some v):=fun i j v hi hj h=>by unfold dq;rw[nZ hi,hj];show some (σ.getD j none)=_;rw[x_,h];rfl
 have mj:∀(j:Nat) d,r[j]? = some (some d)->m[j]? = some (m.getD j Md.sh):=fun j d h=>by
  have hl:j<m.length:=by have:=(e_.mp h).1;rw[si.lr,<-si.lm]at this;exact this
  rw[x_,b_ hl];rfl
 refine⟨w.ok,w.he,w.ge,w.gf,by rw[lens,lens3],by rw[lens2,lens3],fun i d h hm=>?_,fun i d h hm=>?_,fun i d h hm=>?_,fun i j a d e _ h _ hm=>?_,fun i o h=>nomatch h⟩
 .obtain⟨hi,j,hj,hr⟩:=rget i d h;have e:=mget i j _ hi hj hm;have hsh:m.getD j Md.sh=Md.sh:=by
   by_cases z:m.getD j Md.sh=Md.sh
   .exact z
   .rw[if_neg z]at e;cases e
  obtain⟨v,h1,h2⟩:=si.sh j d hr (by rw[mj j d hr,hsh]);exact⟨v,sget i j v hi hj h1,h2.mono w.ge⟩
 .obtain⟨hi,j,hj,hr⟩:=rget i d h;have e:=mget i j _ hi hj hm;split at e <;> cases e
 .obtain⟨hi,j,hj,hr⟩:=rget i d h;have e:=mget i j _ hi hj hm;have hsh:m.getD j Md.sh≠Md.sh:=by intro z;rw[if_pos z]at e;cases e
  have hmj:=mj j d hr;cases q:m.getD j Md.sh with
 |sh=>exact absurd q hsh
 |ow=>rw[q]at hmj;obtain⟨a,h1,h2,_⟩:=si.ow j d hr hmj;exact⟨_,sget i j _ hi hj h1,.inr ⟨a,rfl,h2.mono w,h2.ob.isS⟩⟩
 |bw=>
   rw[q]at hmj;obtain⟨v,h1,h2⟩:=si.bw j d hr hmj;refine⟨v,sget i j _ hi hj h1,?_⟩;rcases h2 with h2|⟨a,rfl,h2,_⟩
   .exact .inl (h2.mono w.ge)
   .exact .inr ⟨a,rfl,h2.mono w,h2.ob.isS⟩
 .obtain⟨hi,j',hj,hr⟩:=rget i d h;have e:=mget i j' _ hi hj hm;split at e <;> cases e
theorem Ht(I:Inv X pz σ H s)(ok:(fB X s H N' scope cl C fp).Ok)(sc:CompSc X scope N' nl cap)(h1:∀x c,cl.lookup x=some c->X.env.cells.lookup x=some c)(h2:∀x,(x,NameKind.free)∈scope.names->∃c,cl.lookup x=some c)(hN:X.N.Nodup){s4:k_}{H4:Hp}{mc:Str->Option c_}(hos:s4.os=s.os)(hb:Ua s4.gens)(kp:∀b o,s.heap.get? b=some o->s4.heap.get? b=some o)(hns:s4.heap.Ns C mc)(hC:s.heap.objs.size<=C)(hHC:H4 C=none)(hH:∀b,H b=none->b<s.heap.objs.size->H4 b=none)(un:Un (gF X.stack) fp H H4 s.heap s4.heap)(hok:cC X.prog X.w H4 s4.heap):Inv (fB X s H N' scope cl C fp) [] (dq nl cap σ) H4 s4:=by
 refine⟨ok,hos,hb,un,⟨mc,hns,fun i x v e1 e2 e3=>?_⟩,fun x c e=>?_,hHC,fun x c e=>?_,fun p hp=>absurd (show p∈([]:List (Addr×Obj))from hp) (by simp),hok,?_⟩
 .have hi:nl<=i:=by
   by_cases z:i<nl
   .unfold dq at e2;rw[QJ (by simpa using z),Rv]at e2;split at e2 <;> cases e2
   .omega
  unfold dq at e2;rw[nZ hi]at e2;cases ej:cap[i-nl]? with
 |none=>rw[ej]at e2;cases e2
 |some j=>
   rw[ej]at e2;have hj:i-nl<cap.length:=(e_.mp ej).1;obtain⟨x',q1,q2,q3⟩:=sc.capN (i-nl) hj;have ed:cap.getD (i-nl) 0=j:=by rw[x_,ej];rfl
   rw[ed]at q2;have ei:nl+(i-nl)=i:=by omega
   rw[ei]at q1;have e1':N'[i]? = some x:=e1;rw[q1]at e1';have ex:x'=x:=K_ e1';subst ex;have hv:σ[j]? = some (some v):=by have z:σ.getD j none=some v:=K_ e2;rw[x_]at z;cases q:σ[j]? with
   |none=>rw[q]at z;cases z
   |some o=>rw[q]at z;rw[show o=some v from z]
   have hfree:=RD q3;have kX:=sc.freeK _ hfree rfl;obtain⟨mx,hnx,hl⟩:=I.loc;obtain⟨u,ru,lk⟩:=hl j x' v q2 hv (.inr kX);refine⟨u,ru,.inr ?_⟩;obtain⟨c,ec⟩:=h2 x' hfree;have hkk:Env.kindOf (fB X s H N' scope cl C fp).env x'=some .cell\/Env.kindOf (fB X s H N' scope cl C fp).env x'=some .free:=by
    have z:(Wm scope X.env).names.lookup x'=some (dR X.env x' .free):=by rw[F7,q3];rfl
    show(Wm scope X.env).names.lookup x'=_\/(Wm scope X.env).names.lookup x'=_;rw[z];unfold dR;split
    .exact .inl rfl
    .exact .inr rfl
   refine⟨hkk,c,ec,?_⟩;rcases lk with⟨k,_⟩|⟨_,c',ec',hcell⟩
   .rcases kX with z|z <;> rw[k]at z <;> cases z
   .rw[h1 x' c ec]at ec';cases ec';obtain⟨o,ho,hd⟩:=hcell;exact⟨o,kp c o ho,hd⟩
 .obtain⟨v,o,ho,hd⟩:=I.cell x c (h1 x c e);exact⟨v,o,kp c o ho,hd⟩
 .obtain⟨v,o,ho,hd⟩:=I.cell x c (h1 x c e);exact hH c (I.freeC x c (h1 x c e)) (A_ ho)
 .show(dq nl cap σ).length=N'.length;rw[sc.len];simp[dq]
end
section
variable{prog:J_}{w:QN}{A:Q9}{R:Result->k_->Prop}{s:k_}
theorem KF{elt target iter:Expr}{ifs:List Expr}{scope:SK}{pos:Pos}{it acc:c_}{env:Env}(I:Nat->k_->Prop)(turn:∀n s,I n s->I_ (QE prog w) A (Wv it) (fun r s1=>match r with
  |none=>R (.ok .next) s1
  |some v=>I_ (QE prog w) A (Um target it v) (fun _ s1'=>I_ (QE prog w) A (Ul target env v) (fun _ s2=>
     I_ (QE prog w) A (forIn ifs true fun c r=>if r=true then do let ok <-isTrue c env (eval c env);pure (ForInStep.yield ok)else pure (ForInStep.yield r)) (fun ok s3=>
      if ok=true then I_ (QE prog w) A (eval elt env) (fun x s4=>I_ (QE prog w) A (call (.builtin "list.append") [acc,x]) (fun _ s5=>∃m,m<n/\I m s5) (Vq (QE prog w) A env fun e s'=>R (.error e) s') s4) (Vq (QE prog w) A env fun e s'=>R (.error e) s') s3
      else ∃m,m<n/\I m s3) (Vq (QE prog w) A env fun e s'=>R (.error e) s') s2) (Vq (QE prog w) A env fun e s'=>R (.error e) s') s1')
     (Vq (QE prog w) A env fun e s'=>R (.error e) s') s1) (Vq (QE prog w) A env fun e s'=>R (.error e) s') s)(n:Nat)(h:I n s):VT (QE prog w) A (.compLoop (.ListComp elt [⟨target,iter,ifs,0⟩] scope pos) 0 it acc env) R s:=by refine codeAny_loop rfl I (fun n s hI=>?_) n h;show I_ _ A ((compTurn (.ListComp elt [⟨target,iter,ifs,0⟩] scope pos) 0 it acc env).onRaise (fun x=>do noteFrame x env;theTreesLotGoes x)) _ _ s;refine wpAny_noted ?_;rw[compTurn_list];refine f_ (UY (f_ (Sy (turn n s hI) (fun r s1 h1=>?_) fun _ _ h'=>h')));cases r with
|none=>exact E_ h1
|some v=>refine f_ (Sy h1 (fun _ s1' h1'=>?_) fun _ _ h'=>h');refine f_ (Sy h1' (fun _ s2 h2=>f_ (Sy h2 (fun ok s3 h3=>?_) fun _ _ h'=>h')) fun _ _ h'=>h');cases ok with
 |false=>exact E_ ⟨rfl,h3⟩
 |true=>exact f_ (f_ (Sy h3 (fun x s4 h4=>f_ (Sy h4 (fun _ s5 h5=>E_ (E_ ⟨rfl,h5⟩)) fun _ _ h'=>h')) fun _ _ h'=>h'))
end
def mh(X:Cx)(g:GE)(m:List Md)(ifs:List Expr)(f:FQ):Prop:=∀(pz:List (Addr×Obj))(s:k_)(σ:L2.St)(H:Hp)(Q:Bool->Hp->Prop),Inv X pz σ H s->tQ X g m f σ H Q ->I_ (QE X.prog X.w) X.A (forIn ifs true fun c r=>if r=true then do let ok <-isTrue c X.env (eval c X.env);pure (ForInStep.yield ok)else pure (ForInStep.yield r)) (TP X pz σ Q) X.xe s
section
variable{X:Cx}{g:GE}{m:List Md}{c:Expr}{p:FQ}
theorem fI:mh X g m [] fun _=>.ok true:=fun pz s σ H Q I ⟨r,G,si,q⟩=>wpAny_tests_nil ⟨H,I,q G H (Grow.refl si.gok)⟩
theorem kG(h:SQ X g m c p):mh X g m [c] p:=fun pz s σ H Q I q=>wpAny_tests_one (h pz s σ H Q I q)
end
def gY(ft:FT)(nl:Nat):Prop:=∀d r r1,ft d r=some r1->r1.length=r.length/\∀i,nl<=i->r1[i]? = r[i]?
def pT(ft:jx)(nl:Nat):Prop:=∀d r r1,ft d r=some r1->r1.length=r.length/\∀i,nl<=i->r1[i]? = r[i]?
theorem cS{i nl:Nat}(h:i<nl):gY (aD i) nl:=fun d r r1 e=>by cases e;exact⟨by simp,fun j hj=>by rw[j_ (by omega)]⟩
theorem wG{nl:Nat}:pT dN nl:=fun ds r r1 e=>by cases ds with
|nil=>cases e;exact⟨rfl,fun _ _=>rfl⟩
|cons _ _=>cases e
theorem m3{ft:FT}{fts:jx}{nl:Nat}(h1:gY ft nl)(h2:pT fts nl):pT (bK ft fts) nl:=fun ds r r1 e=>by cases ds with
|nil=>cases e
|cons d ds=>have e':((ft d r).bind fun r'=>fts ds r')=some r1:=e;cases q:ft d r with
 |none=>rw[q]at e';cases e'
 |some r2=>rw[q]at e';obtain⟨a1,a2⟩:=h1 d r r2 q;obtain⟨b1,b2⟩:=h2 ds r2 r1 e';exact⟨b1.trans a1,fun i hi=>(b2 i hi).trans (a2 i hi)⟩
theorem tZ{fts:jx}{nl:Nat}(h:pT fts nl):gY (dW fts) nl:=fun d r r1 e=>by cases d with
|tup ds=>exact h ds r r1 e
|lst ds=>exact h ds r r1 e
|_=>cases e
section
variable{X:Cx}{pz:List (Addr×Obj)}{σ:L2.St}{H2:Hp}{s2:k_}{scope:SK}{N':List Str}{nl:Nat}{cap:List Nat}{cl:List (Str×Addr)}{fp:List Addr}{g:GE}{G2:GH}{m:List Md}{r:ao}{elt tg iter:Expr}{ifs:List Expr}{pos:Pos}{J:It}{it:Addr}{tn:Nat->Heap->Prop}{ds vs:List D}{ft:FT}{q:FQ}{fe:FE}{E:c_->k_->Prop}
theorem Kz(i:Nat):(aP nl cap m)[i]?≠some Md.ow:=fun h=>by
 by_cases hi:i<nl
 .unfold aP at h;rw[QJ (by simpa using hi),Rv]at h;split at h <;> cases h
 .unfold aP at h;rw[nZ (by omega)]at h;cases e:cap[i-nl]? with
 |none=>rw[e]at h;cases h
 |some j=>rw[e]at h;have h':(if m.getD j Md.sh=Md.sh then Md.sh else Md.bw)=Md.ow:=K_ h;split at h' <;> cases h'
theorem M9{i:Nat}(hi:i<nl)(d:D):(bA nl cap r)[i]?≠some (some d):=fun h=>by unfold bA at h;rw[QJ (by simpa using hi),Rv]at h;split at h <;> cases h
theorem Ei(hN:X.N.Nodup)(hcalm:X.calm=true)(sc:CompSc X scope N' nl cap)(h1:∀x c,cl.lookup x=some c->X.env.cells.lookup x=some c)(h2:∀x,(x,NameKind.free)∈scope.names->∃c,cl.lookup x=some c)(I2:Inv X pz σ H2 s2)(si:SI X g m r G2 σ H2)(T:Turn X.prog X.w X.K tg J fp it tn)(st:tn 0 s2.heap)(hf:∀b∈fp,c0 X pz H2 b)(Y:YieldsC X.K J ds G2 H2)(hsz:ds.length<=sizeLine)(hg:∀C,SG (fB X s2 H2 N' scope cl C fp) ⟨G2,H2,fun _=>none⟩ (aP nl cap m) tg ft (aP nl cap m))(hft:gY ft nl)(hq:∀C,mh (fB X s2 H2 N' scope cl C fp) ⟨G2,H2,fun _=>none⟩ (aP nl cap m) ifs q)(he:∀C,SE (fB X s2 H2 N' scope cl C fp) ⟨G2,H2,fun _=>none⟩ (aP nl cap m) elt fe)(hres:fT ft q fe (bA nl cap r) ds=.ok vs){RR:c_->Addr->Result->k_->Prop}(hRR:∀(p C:Addr)(s':k_)(H':Hp)(G':GH),Inv X pz σ H' s'->(∃mm,s'.heap.Ns C mm)->H' C=none->C≠X.env.locals->X.s₀.heap.objs.size<=C->(∀x c,X.env.cells.lookup x=some c->c≠C)->(∀z∈X.pn++pz,z.1≠C) ->Grow X.K G2 H2 G' H'->H2 p=none->Own X.K G' H' p (.lst vs)->RR (.ref p) C (.ok .next) s'):I_ (QE X.prog X.w) X.A (newList []) (fun acc s3=>I_ (QE X.prog X.w) X.A (newFunctionEnv scope X.env.globals cl [] X.env.qual none .none (some X.env)) (fun cenv s4=>VT (QE X.prog X.w) X.A (.compStart (.ListComp elt [⟨tg,iter,ifs,0⟩] scope pos) 0 (.ref it) acc { cenv with scope:=Wm scope X.env }) (RR acc cenv.locals) s4) E s3) E s2:=by
 refine RX (wpAny_newFunctionEnv sc.nocell (by intro y hy;simp at hy) (fun h₁ hns₁ hsb₁=>?_) sc.kind)
 dsimp only at hns₁ hsb₁ ⊢
 generalize hH2:s2.heap.push { cls:=.type "list",dict:=none,data:=.seq ([]:List c_).toArray }=HH at hns₁ hsb₁ ⊢;have hC:HH.objs.size=s2.heap.objs.size+1:=by rw[<-hH2,Sc]
 have hDC:s2.heap.objs.size≠HH.objs.size:=by rw[hC];exact QM (T7 _)
 have hCle:s2.heap.objs.size<=HH.objs.size:=by rw[hC];exact WM _
 have below:∀b,b<s2.heap.objs.size->b≠HH.objs.size/\b≠s2.heap.objs.size:=fun b hb=>⟨by rw[hC];exact QM (UV hb),QM hb⟩
 have old:∀b o,s2.heap.get? b=some o->h₁.get? b=some o:=fun b o e=>hsb₁.extBut b o (below b (A_ e)).1 (h_ _ (hH2▸h_ _ e));have hacc:h₁.get? s2.heap.objs.size=some { cls:=.type "list",dict:=none,data:=.seq ([]:List c_).toArray }:=hsb₁.extBut _ _ hDC (h_ _ (hH2▸B_ _ rfl));have hp2:H2 s2.heap.objs.size=none:=I2.hok.fresh (q_ _);have hflt:∀b∈fp,c0 X pz H2 b/\b<s2.heap.objs.size:=fun b hb=>⟨hf b hb,by obtain⟨o,e,_⟩:=T.obj 0 s2.heap st b hb;exact A_ e⟩
 have ok:=Hx (fp:=fp) I2 sc h1 h2 hflt hCle;generalize hXX:fB X s2 H2 N' scope cl HH.objs.size fp=XX at ok;have hG2p:G2 s2.heap.objs.size=none:=si.gok.isN hp2;have w0:Grow X.K G2 H2 G2 (upd H2 s2.heap.objs.size (.lst [])):=Grow.new si.gok hp2 _;have hok4:cC X.prog X.w (upd H2 s2.heap.objs.size (.lst [])) h₁:=I2.hok.laid old (q_ _) ⟨QX _,[],0,.nil,hacc⟩;have IC:Inv XX [] (dq nl cap σ) (upd H2 s2.heap.objs.size (.lst [])) { s2 with heap:=h₁,toks:=s2.toks+([]:List (Str×c_)).length }:=by
  subst hXX;refine Ht I2 ok sc h1 h2 hN rfl I2.bare old hns₁ hCle ?_ (fun b hb hlt=>?_) (Un.laid old (q_ _) hp2) hok4
  .rw[bn (S0 hDC)];exact I2.hok.fresh hCle
  .rw[bn (below b hlt).2];exact hb
 have SC:SI XX ⟨G2,H2,fun _=>none⟩ (aP nl cap m) (bA nl cap r) G2 (dq nl cap σ) (upd H2 s2.heap.objs.size (.lst [])):=by subst hXX;exact Hh si w0
 have hst₁:tn 0 h₁:=T.keep _ _ _ st fun b _ o e=>old b o e;have hfX:∀(H':Hp),(∀b∈fp,H' b=none)->∀b∈fp,c0 XX [] H' b:=fun H' hn b hb=>by
  clear IC SC;subst hXX;obtain⟨z0,z1,z2,z3,z4,z5⟩:=hf b hb;refine⟨hn b hb,?_,?_,?_,?_,?_⟩
  .exact(below b (hflt b hb).2).1
  .intro hfs;rcases w_.mp (I2.stkSub b hfs)with z|z
   .exact z1 z
   .exact z2 z
  .exact .inl hb
  .exact fun x c e=>z4 x c (h1 x c e)
  .intro p hp;exact absurd (show p∈([]:List (Addr×Obj))from hp) (by simp)
 have eA:XX.A=X.A:=Eq.rec (motive:=fun z _=>z.A=X.A) rfl hXX;have eP:XX.prog=X.prog:=Eq.rec (motive:=fun z _=>z.prog=X.prog) rfl hXX;have eW:XX.w=X.w:=Eq.rec (motive:=fun z _=>z.w=X.w) rfl hXX;have eK:XX.K=X.K:=Eq.rec (motive:=fun z _=>z.K=X.K) rfl hXX;have eX:XX.xe=fun _ _=>False:=Eq.rec (motive:=fun z _=>z.xe=fun _ _=>False) rfl hXX;have eE:XX.env=VI scope cl HH.objs.size X.env:=Eq.rec (motive:=fun z _=>z.env=VI scope cl HH.objs.size X.env) rfl hXX;have eC:XX.calm=true:=Eq.rec (motive:=fun z _=>z.calm=true) hcalm hXX;have eH:XX.H₀=H2:=Eq.rec (motive:=fun z _=>z.H₀=H2) rfl hXX;have hg':PG XX tg (tG XX ⟨G2,H2,fun _=>none⟩ (aP nl cap m) (aP nl cap m) ft):=Eq.rec (motive:=fun z _=>PG z tg (tG z ⟨G2,H2,fun _=>none⟩ (aP nl cap m) (aP nl cap m) ft)) (hg _).2 hXX;have hq':mh XX ⟨G2,H2,fun _=>none⟩ (aP nl cap m) ifs q:=Eq.rec (motive:=fun z _=>mh z ⟨G2,H2,fun _=>none⟩ (aP nl cap m) ifs q) (hq _) hXX;have he':SE XX ⟨G2,H2,fun _=>none⟩ (aP nl cap m) elt fe:=Eq.rec (motive:=fun z _=>SE z ⟨G2,H2,fun _=>none⟩ (aP nl cap m) elt fe) (he _) hXX;have fin':∀{H':Hp}{s':k_}{σ':L2.St}{G':GH}{ws:List V},Inv XX [] σ' H' s'->Grow X.K G2 H2 G' H'->H' s2.heap.objs.size=some (.lst ws)->G' s2.heap.objs.size=none->bC X.K G' ws vs->RR (.ref s2.heap.objs.size) HH.objs.size (.ok .next) s':=fun{H' s' σ' G' ws} J1 wg hpp hgp rs=>by
  clear IC SC hfX hg' hq' he' eA eP eW eK eX eE eC eH;subst hXX;have un:=J1.base;refine hRR _ _ s' H' G' ?_ (let⟨mm,hn,_⟩:=J1.loc;⟨mm,hn⟩) J1.free (RK (C_ I2.lt hCle)) (O_ I2.sz hCle) (fun x c e z=>?_) (fun z hz e=>?_) wg hp2 ⟨hgp,.lst hpp rs⟩
  .refine I2.call' J1.os un J1.hok J1.bare fun b hb=>?_;obtain⟨z0,z1,z2,z3,z4,z5⟩:=hf b hb;exact⟨z3,z1,z4,z5⟩
  .obtain⟨v,o,ho,_⟩:=I2.cell x c e;exact absurd (C_ (A_ ho) hCle) (by rw[z];exact Q_ _)
  .have:=(I2.pin z hz).1;exact absurd (C_ (A_ this) hCle) (by rw[e];exact Q_ _)
 have loop:VT (QE X.prog X.w) X.A (.compLoop (.ListComp elt [⟨tg,iter,ifs,0⟩] scope pos) 0 (.ref it) (.ref s2.heap.objs.size) (VI scope cl HH.objs.size X.env)) (RR (.ref s2.heap.objs.size) HH.objs.size)
   { s2 with heap:=h₁,toks:=s2.toks+([]:List (Str×c_)).length }:=by
  refine KF (fun n s'=>∃(i:Nat)(σ':L2.St)(H':Hp)(G':GH)(ws:List V)(done rest:List D),Inv XX [] σ' H' s'/\SI XX ⟨G2,H2,fun _=>none⟩ (aP nl cap m) (bA nl cap r) G' σ' H'/\tn i s'.heap/\(∀b∈fp,H' b=none)/\Grow X.K G2 H2 G' H' /\H' s2.heap.objs.size=some (.lst ws)/\G' s2.heap.objs.size=none/\bC X.K G' ws done/\fT ft q fe (bA nl cap r) (ds.drop i)=.ok rest/\vs=done++rest/\done.length<=i/\i<=ds.length/\n=ds.length-i) ?_ ds.length
   ⟨0,_,_,G2,[],[],vs,IC,SC,hst₁,fun b hb=>?_,w0,ca,hG2p,.nil,hres,rfl,q_ _,QX _,rfl⟩
  rotate_left
  .rw[bn (below b (hflt b hb).2).2];exact(hf b hb).1
  rintro n s3 ⟨i,σ3,H3,G3,ws,done,rest,I3,S3,st3,fr3,w3,hp3,hg3,rs3,hr3,hv3,hd3,hi3,rfl⟩
  have weaken:∀{α:Type}{t:Sem α}{Q:α->k_->Prop}{s':k_}{E':c_->k_->Prop},I_ (QE XX.prog XX.w) XX.A t Q XX.xe s'->I_ (QE X.prog X.w) X.A t Q E' s':=fun h=>by rw[eP,eW,eA,eX]at h;exact Sy h (fun _ _ z=>z) fun _ _ z=>z.elim
  by_cases hlt:i<ds.length
  .have hd:ds.drop i=ds[i]::ds.drop (i+1):=RF hlt;rw[hd]at hr3;unfold fT at hr3;have it3:=T.item XX eP eW eK eC i [] s3 σ3 H3 (Vq (QE X.prog X.w) X.A (VI scope cl HH.objs.size X.env) fun e s'=>RR (.ref s2.heap.objs.size) HH.objs.size (.error e) s') I3 (hfX H3 fr3) st3 (Y.go G3 H3 i w3 hlt);rw[eA]at it3;refine aR it3 fun rr s4 ⟨u,hr,h4⟩=>?_;subst hr;refine aR h4 fun _ s5 ⟨x,H5,I5,r5,y5,st5,fr5⟩=>?_;obtain⟨G5,w5,rv5⟩:=Y.yld G3 H3 i x H5 ds[i] w3 y5 (b_ hlt);have w25:=w3.trans w5;cases eft:ft ds[i] (bA nl cap r)with
  |none=>rw[eft]at hr3;cases hr3
  |some r1=>
    rw[eft]at hr3;simp only[opt_some,bind_ok]at hr3;have I5':=I5.pinned (hfX H5 fr5) (T.obj _ _ st5);have S5:SI XX ⟨G2,H2,fun _=>none⟩ (aP nl cap m) (bA nl cap r) G5 σ3 H5:=S3.grow (by rw[eK];exact w5);have rv5':RG XX.K G5 x ds[i]:=by rw[eK];exact rv5
    have as5:=hg' _ s5 σ3 H5 x u (fun σ6 H6=>H6=H5/\SI XX ⟨G2,H2,fun _=>none⟩ (aP nl cap m) r1 G5 σ6 H5) I5' r5 ⟨bA nl cap r,G5,ds[i],S5,rv5',r1,eft,fun σ6 si6=>⟨rfl,si6⟩⟩;rw[eE]at as5;refine aR (weaken as5) fun _ s6 ⟨σ6,H6,I6,e6,S6⟩=>?_;subst e6;obtain⟨fl1,fl2⟩:=hft _ _ _ eft;cases eq1:q r1 with
   |stuck=>rw[eq1]at hr3;cases hr3
   |exc xx=>rw[eq1]at hr3;cases hr3
   |ok b1=>
     rw[eq1]at hr3;simp only[bind_ok]at hr3;have te6:=hq' _ s6 σ6 H6 (fun b H7=>b=b1/\∃G7,Grow X.K G5 H6 G7 H7) I6 ⟨r1,G5,S6,by rw[eq1];exact fun G7 H7 w7=>⟨rfl,G7,by rw[eK]at w7;exact w7⟩⟩;rw[eE]at te6;refine aR (weaken te6) fun b s7 ⟨H7,I7,eb,G7,w7⟩=>?_;subst eb;have S7:SI XX ⟨G2,H2,fun _=>none⟩ (aP nl cap m) r1 G7 σ6 H7:=S6.grow (by rw[eK];exact w7);have w27:=w25.trans w7;have hp7:H7 s2.heap.objs.size=some (.lst ws):=w7.he _ _ (w5.he _ _ hp3);have hg7:G7 s2.heap.objs.size=none:=by rw[w7.gf _ (by rw[w5.he _ _ hp3];simp),w5.gf _ (by rw[hp3];simp)];exact hg3
     have back:∀{σ8:L2.St}{H8:Hp}{G8:GH}{s8:k_},Inv XX ([]++nP fp s5.heap) σ8 H8 s8->Inv XX [] σ8 H8 s8/\tn (i+1) s8.heap/\∀b∈fp,H8 b=none:=fun{σ8 H8 G8 s8} I8=>by refine⟨I8.unpinned,T.keep _ _ _ st5 fun b hb o e=>(I8.pin (b,o) (QV _ (QV _ (rF hb e)))).1,fun b hb=>?_⟩;obtain⟨o,e,_⟩:=T.obj _ _ st5 b hb;exact(I8.pin (b,o) (QV _ (QV _ (rF hb e)))).2.1
     have less:∀{σ8:L2.St}{H8:Hp}{G8:GH},SI XX ⟨G2,H2,fun _=>none⟩ (aP nl cap m) r1 G8 σ8 H8->SI XX ⟨G2,H2,fun _=>none⟩ (aP nl cap m) (bA nl cap r) G8 σ8 H8:=fun h=>h.less fl1.symm fun j d hj=>by
      by_cases hjn:j<nl
      .exact absurd hj (M9 hjn d)
      .rw[fl2 j (by omega)];exact hj
     cases b with
    |false=>rw[if_neg g_]at hr3 ⊢;obtain⟨I7',t7,f7⟩:=back (G8:=G7) I7;exact⟨ds.length-(i+1),by omega,i+1,σ6,H7,G7,ws,done,rest,I7',less S7,t7,f7,w27,hp7,hg7,rs3.mono (aQ.trans w5.ge w7.ge),hr3,hv3,by omega,hlt,rfl⟩
    |true=>rw[if_pos rfl]at hr3 ⊢;cases ee1:fe r1 with
     |stuck=>rw[ee1]at hr3;cases hr3
     |exc xx=>rw[ee1]at hr3;cases hr3
     |ok d1=>rw[ee1]at hr3;simp only[bind_ok]at hr3;cases er:fT ft q fe (bA nl cap r) (ds.drop (i+1))with
      |stuck=>rw[er]at hr3;cases hr3
      |exc xx=>rw[er]at hr3;cases hr3
      |ok rest'=>
        rw[er]at hr3;simp only[bind_ok]at hr3;cases hr3;have el7:=he' _ s7 σ6 H7 (fun v H8=>∃G8,Grow X.K G7 H7 G8 H8/\RG X.K G8 v d1) I7 ⟨r1,G7,S7,by rw[ee1];exact fun v G8 H8 w8 rv=>⟨G8,by rw[eK]at w8;exact w8,by rw[eK]at rv;exact rv⟩⟩;rw[eE]at el7;refine aR (weaken el7) fun u8 s8 ⟨v8,H8,I8,r8,G8,w8,rv8⟩=>?_;have hp8:H8 s2.heap.objs.size=some (.lst ws):=w8.he _ _ hp7;have hg8:G8 s2.heap.objs.size=none:=by rw[w8.gf _ (by rw[hp7];simp)];exact hg7
        have S8:SI XX ⟨G2,H2,fun _=>none⟩ (aP nl cap m) r1 G8 σ6 H8:=S7.grow (by rw[eK];exact w8);have hlen:=Paired.length rs3;have ap8:=jP (X:=XX) _ s8 σ6 H8 (.ref s2.heap.objs.size) [v8] (.ref s2.heap.objs.size) [u8] (fun v H9=>H9=upd H8 s2.heap.objs.size (.lst (ws++[v8]))) I8 rfl (.cons r8 .nil) ⟨_,ws,v8,rfl,rfl,hp8,by omega,rfl⟩;refine aR (weaken ap8) fun u9 s9 ⟨v9,H9,I9,r9,e9⟩=>?_;subst e9;obtain⟨I9',t9,f9⟩:=back (G8:=G8) I9;have rsn:bC X.K G8 (ws++[v8]) (done++[d1]):=Paired.snoc (rs3.mono (aQ.trans (aQ.trans w5.ge w7.ge) w8.ge)) rv8;have w28:=w27.trans w8;refine⟨ds.length-(i+1),by omega,i+1,σ6,_,G8,ws++[v8],done++[d1],rest',I9',less (S8.other hg8 hp2 Kz _),t9,f9,?_,ca,hg8,rsn,er,by rw[hv3,Q2];rfl,by rw[L_,Te];omega,hlt,rfl⟩;refine⟨fun b e hb=>(w28.ok b e hb).mono (fun _ _ z=>z) fun o z=>?_,fun b o hb=>?_,w28.ge,w28.gf⟩
        .rw[bn (by rintro rfl;rw[hg8]at hb;cases hb)];exact z
        .rw[bn (by rintro rfl;rw[hp2]at hb;cases hb)];exact w28.he b o hb
  .have e:i=ds.length:=by omega
   subst e;rw[Tp]at hr3;cases hr3;rw[Q0]at hv3;subst hv3;have dn:=T.done XX eP eW eK eC ds.length [] s3 σ3 H3 (Vq (QE X.prog X.w) X.A (VI scope cl HH.objs.size X.env) fun e s'=>RR (.ref s2.heap.objs.size) HH.objs.size (.error e) s') I3 (hfX H3 fr3) st3 (Y.stop G3 H3 w3);rw[eA]at dn;refine aR dn fun rr s4 ⟨hr,I4⟩=>?_;subst hr;exact fin' I4 w3 hp3 hg3 rs3
 exact codeAny_compStart_list loop (T.self X.A 0 _ _ _ hst₁ loop)
end
def pk:Res (List D)->Res (List D)
|.ok d=>.ok d
|_=>.stuck
@[simp] theorem noXL_ok(d:List D):pk (.ok d)=.ok d:=rfl
def cg(nl:Nat)(cap:List Nat)(fi:FI)(ft:FT)(q:FQ)(fe:FE):FE:=fun r=>(fi r).bind fun ds=>(bX (sz ds)).bind fun ds=>(pk (fT ft q fe (bA nl cap r) ds)).bind fun vs=>.ok (.lst vs)
section
variable{X:Cx}{g:GE}{m mb:List Md}{scope:SK}{N':List Str}{nl:Nat}{cap:List Nat}{elt tg iter:Expr}{ifs:List Expr}{pos pos' spos:Pos}{fi:FI}{ft:FT}{q:FQ}{fe:FE}{ro:Bool}
theorem EN{r:ao}{P:D->Prop}{x:D->Prop}(h:fin (cg nl cap fi ft q fe r) P x):fin (fi r) (fun ds=>∃vs,ds.length<=sizeLine/\fT ft q fe (bA nl cap r) ds=.ok vs/\P (.lst vs)) x:=by unfold cg at h;refine bg (ba h) fun ds h1=>?_;obtain⟨ds',e2,h2⟩:=cD (ba h1);obtain⟨rfl,hl⟩:=tH e2;cases e3:fT ft q fe (bA nl cap r) ds' with
|ok vs=>rw[e3]at h2;exact⟨vs,hl,rfl,h2⟩
|exc x=>rw[e3]at h2;exact h2.elim
|stuck=>rw[e3]at h2;exact h2.elim
theorem CompSc.clo{pz:List (Addr×Obj)}{σ:L2.St}{H:Hp}{s:k_}(sc:CompSc X scope N' nl cap)(ok:X.Ok):∃cl,Xc scope X.env=pure cl/\(∀x c,cl.lookup x=some c->X.env.cells.lookup x=some c)/\(∀x,(x,NameKind.free)∈scope.names->∃c,cl.lookup x=some c):=OR fun y hy hf=>ok.has y.1 (sc.freeK y hy hf)
theorem hZ(hN:X.N.Nodup)(hcalm:X.calm=true)(sc:CompSc X scope N' nl cap)(hi:gU X g m tg iter fi)(hg:∀s0 H0 cl C fp g',SG (fB X s0 H0 N' scope cl C fp) g' (aP nl cap m) tg ft (aP nl cap m))(hft:gY ft nl)(hq:∀s0 H0 cl C fp g',mh (fB X s0 H0 N' scope cl C fp) g' (aP nl cap m) ifs q)(he:∀s0 H0 cl C fp g',SE (fB X s0 H0 N' scope cl C fp) g' (aP nl cap m) elt fe)(hs:∀x,RP iter X.env x=pure x:=by intro _;rfl):SO X g m (.ListComp elt [⟨tg,iter,ifs,0⟩] scope pos) (cg nl cap fi ft q fe):=by intro pz s σ H Q I h;obtain⟨r,G,si,k⟩:=h;obtain⟨cl,hcl,h1,h2⟩:=sc.clo (pz:=pz) (σ:=σ) (H:=H) (s:=s) I.ok;have k1:=EN k;rw[eval_ListComp];refine U0 (use:=none) rfl hs hcl sc.kind sc.names (aR (hi pz s σ H (fun J H'=>∃G' ds vs,Grow X.K G H G' H'/\YieldsC X.K J ds G' H'/\ds.length<=sizeLine/\fT ft q fe (bA nl cap r) ds=.ok vs /\(∀a G' H',Grow X.K G H G' H'->H a=none->Own X.K G' H' a (.lst vs)->Q (.ref a) H')) I ⟨r,G,si,bg k1 fun ds ⟨vs,z1,z2,z3⟩ J G' H' w y=>⟨G',ds,vs,w,y,z1,z2,z3⟩⟩) fun v s1 hv=>aR hv fun itv s2 hv2=>?_);obtain⟨it,fp,tn,J,H2,rfl,I2,T,st,hf,G2,ds,vs,w2,Y,hsz,hres,hQ⟩:=hv2;refine Ei (RR:=fun acc C=>compPost (QE X.prog X.w) X.A X.xe none (EP X pz σ Q) acc C) hN hcalm sc h1 h2 I2 (si.grow w2) T st hf Y hsz (fun C=>hg _ _ _ _ _ _) hft (fun C=>hq _ _ _ _ _ _) (fun C=>he _ _ _ _ _ _) hres ?_;intro p C s' H' G' I' hns hC1 hC2 hC3 hC4 hC5 w' hp ho;obtain⟨mm,hn⟩:=hns;refine⟨mm,hn,fun h' hsb=>⟨.ref p,H',?_,rfl,hQ p G' H' (w2.trans w') (w2.back hp) ho⟩⟩;exact I'.turned (it:=C) (t':=s'.toks) (fun b o hb e=>hsb.extBut b o hb e) hC1 hC2.symm.symm (.inr hC3) hC4 hC5
theorem ii(i:Nat){y:Str}(hN:X.N.Nodup)(hcalm:X.calm=true)(hy:X.N[i]? = some y)(hyl:X.env.scope.names.lookup y=some .local)(sc:CompSc X scope N' nl cap)(hi:gU X g m tg iter fi)(hg:∀s0 H0 cl C fp g',SG (fB X s0 H0 N' scope cl C fp) g' (aP nl cap m) tg ft (aP nl cap m))(hft:gY ft nl)(hq:∀s0 H0 cl C fp g',mh (fB X s0 H0 N' scope cl C fp) g' (aP nl cap m) ifs q)(he:∀s0 H0 cl C fp g',SE (fB X s0 H0 N' scope cl C fp) g' (aP nl cap m) elt fe)(hsw:UA (.ListComp elt [⟨tg,iter,ifs,0⟩] scope pos) (some (.Name y pos')) spos.line X.env=pure true:=by rfl)(hs:∀x,RP iter X.env x=pure x:=by intro _;rfl):SS X g ro mb m (.Assign [.Name y pos'] (.ListComp elt [⟨tg,iter,ifs,0⟩] scope pos) spos) (al m i (cg nl cap fi ft q fe)) (m.set i .ow):=by
 refine⟨by simp,?_⟩;intro pz s σ H D0 I h;obtain⟨r,G,si,k⟩:=h;obtain⟨cl,hcl,h1,h2⟩:=sc.clo (pz:=pz) (σ:=σ) (H:=H) (s:=s) I.ok;have k1:=EN (fJ si (m':=m.set i .ow) (by simp) k);rw[exec_Assign_Name_used _ _ _ _ hsw];refine f_ (UY (f_ ?_));show I_ _ X.A (do let _ <-comprehension (.ListComp elt [⟨tg,iter,ifs,0⟩] scope pos) scope X.env _ (newList []) false (eval iter X.env) (some (Ul (.Name y pos') X.env))) _ _ s;refine f_ (Sy (U0 (use:=some (Ul (.Name y pos') X.env)) (Q:=fun _ s'=>SP X pz D0 .next s') rfl hs hcl sc.kind sc.names (aR (hi pz s σ H (fun J H'=>∃G' ds vs,Grow X.K G H G' H'/\YieldsC X.K J ds G' H'/\ds.length<=sizeLine/\fT ft q fe (bA nl cap r) ds=.ok vs /\(∀σ' G' H',aQ G G'->SI X g (m.set i .ow) (r.set i (some (.lst vs))) G' σ' H'->D0.nx σ' H')) I ⟨r,G,si,bg k1 fun ds ⟨vs,z1,z2,z3⟩ J G' H' w y=>⟨G',ds,vs,w,y,z1,z2,z3⟩⟩) fun v s1 hv=>aR hv fun itv s2 hv2=>?_)) (fun _ s' hq=>E_ (E_ hq)) fun _ _ e=>e);obtain⟨it,fp,tn,J,H2,rfl,I2,T,st,hf,G2,ds,vs,w2,Y,hsz,hres,hQ⟩:=hv2;refine Ei (RR:=fun acc C=>compPost (QE X.prog X.w) X.A X.xe (some (Ul (.Name y pos') X.env)) (fun _ s'=>SP X pz D0 .next s') acc C) hN hcalm sc h1 h2 I2 (si.grow w2) T st hf Y hsz (fun C=>hg _ _ _ _ _ _) hft (fun C=>hq _ _ _ _ _ _) (fun C=>he _ _ _ _ _ _) hres ?_;intro p C s' H' G' I' hns hC1 hC2 hC3 hC4 hC5 w' hp ho;obtain⟨mm,hn⟩:=hns;show I_ _ X.A (Ul (.Name y pos') X.env (.ref p)) _ _ s';refine Wf (Ew I' hN hy (.inl hyl) (v:=.ref p) rfl (fun s'' I'' ⟨a,hsb,ha⟩=>?_) (.inr hyl));have hCa:C≠a:=by
  rcases ha with z|z
  .rw[z];exact hC2
  .exact(hC4 y a z).symm
 refine⟨mm,hn.sameBut hsb hCa,fun h' hsb'=>?_⟩;refine⟨_,H',I''.turned (it:=C) (t':=s''.toks) (fun b o hb e=>hsb'.extBut b o hb e) hC1 hC2 (.inr hC3) hC4 hC5,?_⟩;exact hQ _ G' H' (w2.trans w').ge (si.setN (w2.trans w') i (w2.back hp) ho)
end
def gu(K:W.Frag)(r:V->List V->Hp->VK->Prop)(mk:D->List D->Option D):Prop:=∀(G:GH)(H:Hp)(a:Addr)(d:D)(vs:List V)(ds:List D)(d':D)(Q:VK),aN K G H->Own K G H a d->bC K G vs ds->mk d ds=some d' ->(∀o',OwnO K G (upd H a o') a d'->Q .non (upd H a o'))->r (.ref a) vs H Q
def sN(T:String):D->Bool
|.lst _=>T == "list"
|.dic _=>T == "dict"
|_=>false
def cm(T:String)(m:List Md)(i:Nat)(fl:ao->Res (List D))(mk:D->List D->Option D):FS:=fun r=>match r[i]? with
|some (some d)=>if sN T d=true then fP m r (fl r) fun ds=>(match mk d ds with
 |some d'=>.nx (r.set i (some d'))
 |none=>.stuck)else .stuck
|_=>.stuck
theorem KP{K:W.Frag}{G:GH}{H:Hp}{a:Addr}{d:D}{T:String}(o:Own K G H a d)(t:sN T d=true):nq K T (.ref a) H:=by cases o.ob with
|lst r s=>exact .inl ⟨Sn t,_,aY.of r⟩
|dic r s=>exact .inr (.inr (.inl ⟨Sn t,.inl ⟨_,.inl r⟩⟩))
section
variable{X:Cx}{g:GE}{m mb:List Md}{e a b o:Expr}{es:List Expr}{f fa fb:FE}{fl:ao->Res (List D)}{pos pos' apos cpos:Pos}{ro:Bool}{x name:Str}{T id:String}{R:V->List V->Hp->VK->Prop}{mk:D->List D->Option D}
theorem Mn(i:Nat)(hm:m[i]? = some .ow)(hk:gu X.K R mk){D0:Ends}{σ:L2.St}{H:Hp}(h:tS X g ro m m mb (cm T m i fl mk) D0 σ H):∃v,σ[i]? = some (some v)/\nq X.K T v H/\tL X g m fl σ H fun xs H2=>R v xs H2 fun _ H1=>D0.nx σ H1:=by obtain⟨r,G,si,k⟩:=h;unfold cm at k;cases er:r[i]? with
|none=>simp only[er]at k;exact(show False from k).elim
|some oo=>cases oo with
 |none=>simp only[er]at k;exact(show False from k).elim
 |some d=>
   simp only[er]at k;by_cases ht:sN T d=true
   .rw[if_pos ht]at k;obtain⟨a,h1,h2,h3⟩:=si.mut hm er;refine⟨_,h1,KP h2 ht,r,G,si,bg (fJ si rfl k) fun ds k2 vs G' H' w rs=>?_⟩;cases em:mk d ds with
   |none=>simp only[em]at k2;exact(show False from k2).elim
   |some d'=>simp only[em]at k2;obtain⟨a',h1',h2',h3'⟩:=(si.grow w).mut hm er;rw[h1]at h1';cases h1';exact hk G' H' a d vs ds d' _ w.ok h2' rs em fun o' ob=>k2 σ G' _ w.ge (h3' o' d' ob)
   .rw[if_neg ht]at k;exact(show False from k).elim
theorem hU(i:Nat)(hm:m[i]? = some .ow)(pa:V8 T)(slot:Slot T name id)(hty:typeOf (.builtin id)=pure (.type "method_descriptor"))(hmt:jw X id R)(hk:gu X.K R mk)(hN:X.N[i]? = some x)(hv:im X.env.scope x)(ha:SA X g m (e::es) fl)(hd:(x==("__debug__" : Str))=false:=by decide)(hcd:(x==("__classdict__" : Str))=false:=by decide)(hbase:Tc (.Name x pos') name X.env (eval (.Name x pos') X.env)=eval (.Name x pos') X.env:=by rfl)(hfew:((backTo cpos (s_ (e::es) X.env)).all (fun x=>! x.1)&&(Wk cpos (UT [] X.env)).all (fun x=>x.1.isSome)&&decide ((e::es).length+([]:List Ub).length+(if ([]:List Ub).isEmpty then 0 else 1)<30))=true:=by rfl)(hline:(apos.endLine==cpos.line)=true:=by rfl)(hst:s_ (e::es) X.env=(false,eval e X.env)::s_ es X.env:=by rfl)(hplain:(backTo cpos (s_ es X.env)).any (·.1)=false:=by rfl):SS X g ro mb m (.Expr (.Call (.Attribute (.Name x pos') name apos) (e::es) [] cpos) pos) (cm T m i fl mk) m:=⟨rfl,PS.imp (C4 (AF pa slot hty hmt (mN hN hv hd hcd) ha hbase hfew hline hst hplain)) fun D0 σ H h=>Mn i hm hk h⟩
def appD:D->List D->Option D
|.lst ds,[d]=>if ds.length<sizeLine then some (.lst (ds++[d]))else none
|_,_=>none
theorem kz{K:W.Frag}:gu K C5 appD:=by
 intro G H a d vs ds d' Q gk ow rs e q;unfold appD at e;split at e
 .split at e
  .rename_i hl;cases e;cases ow.ob with
  |lst r s=>cases rs with
   |cons r1 t=>cases t;have:=Paired.length s;exact⟨a,_,_,rfl,rfl,r,by omega,q _ (.lst ca (Paired.snoc s r1))⟩
  .cases e
 .cases e
def sY(x:Int)(n:Nat):Nat:=if x<0 then(x+(n:Int)).toNat else min x.toNat n
def cb{α:Type}(xs:List α)(x:Int)(y:α):List α:=xs.take (sY x xs.length)++y::xs.drop (sY x xs.length)
def C8:V->List V->Hp->VK->Prop:=fun x vs H Q=>∃l xs i y,x=.ref l/\vs=[.int i,y]/\H l=some (.lst xs)/\-(2^63)<=i/\i<2^63/\xs.length<sizeLine/\Q .non (upd H l (.lst (cb xs i y)))
theorem NK:jw X "list.insert" C8:=by
 intro pz s σ H x vs v us Q I rx rv h;obtain⟨l,xs,i,y,rfl,rfl,hH,h1,h2,hz,q⟩:=h;cases rx;obtain⟨u,w',rfl,⟨t,rfl⟩,ry⟩:=Bc rv;obtain⟨z,its,n,r,hl,e⟩:=I.lstM hH;have hfit:¬(! UH i)=true:=by rw[fitsIndex_both h1 h2];exact g_
 refine TH U1 ⟨_,e,rfl⟩ PySem.F.entry_list_insert (PySem.F.args_list_insert_3 _ _ _) (AutoListH.list_insert_list_int_val_1 l its.toArray n i t w' hfit (by rw[o_];omega)) ⟨e,?_⟩;refine⟨.non,_,I.lset (its':=cb its i w') hH e ?_ ?_ ?_,rfl,q⟩
 .show((its.toArray.extract 0 (if i<0 then(i+((its.toArray.size:Nat):Int)).toNat else min i.toNat its.toArray.size)).push w'++its.toArray.extract (if i<0 then(i+((its.toArray.size:Nat):Int)).toNat else min i.toNat its.toArray.size))=(cb its i w').toArray;rw[o_];unfold cb sY;generalize(if i<0 then(i+((its.length:Nat):Int)).toNat else min i.toNat its.length)=k;apply Yq;simp;exact Vr (by rw[Q5];exact q_ _)
 .unfold cb;rw[hl];exact aq.append (r.take _) (.cons ry (r.drop _))
 .unfold cb;rw[L_,Rl,Rf,Q5];omega
def insD:D->List D->Option D
|.lst ds,[.int i,d]=>if ds.length<sizeLine/\-(2^63)<=i/\i<2^63 then some (.lst (cb ds i d))else none
|_,_=>none
theorem IQ{α β:Type}{F:α->β->Prop}{l:List α}{r:List β}{x:α}{y:β}(h:Paired F l r)(i:Int)(hxy:F x y):Paired F (cb l i x) (cb r i y):=by unfold cb;rw[Paired.length h];exact Paired.app (Paired.tk _ h) (.cons hxy (Paired.dr _ h))
theorem IR{K:W.Frag}:gu K C8 insD:=by
 intro G H a d vs ds d' Q gk ow rs e q;unfold insD at e;split at e
 .split at e
  .rename_i hl;cases e;cases ow.ob with
  |lst r s=>cases rs with
   |cons r1 t=>cases t with
    |cons r2 t=>cases t;have:=Paired.length s;exact⟨a,_,_,_,rfl,by rw[r1.int gk],r,hl.2.1,hl.2.2,by omega,q _ (.lst ca (IQ s _ r2))⟩
  .cases e
 .cases e
end
def bY:D->Bool
|.non=>true
|.bl _=>true
|.int _=>true
|.str _=>true
|_=>false
def eu:D->V
|.non=>.non
|.bl b=>.bl b
|.int i=>.int i
|.str x=>.str x
|_=>.non
def eqs(a b:D):Bool:=fw (eu a) (eu b)
@[simp] theorem eqs_int(a b:Int):eqs (.int a) (.int b)=(a==b):=rfl
@[simp] theorem eqs_str(a b:Str):eqs (.str a) (.str b)=(a==b):=rfl
@[simp] theorem eqs_non_int(b:Int):eqs .non (.int b)=false:=rfl
@[simp] theorem eqs_int_non(b:Int):eqs (.int b) .non=false:=rfl
section
variable{K:W.Frag}{G:GH}{H:Hp}{v:V}{d:D}
theorem RB.flat(h:RB K G H v d)(gk:aN K G H)(hf:bY d=true):v=eu d/\d9 v=true:=by cases d with
|non=>rw[h.non gk];exact⟨rfl,rfl⟩
|bl b=>rw[h.bl gk];exact⟨rfl,rfl⟩
|int i=>rw[h.int gk];exact⟨rfl,rfl⟩
|str x=>rw[h.str gk];exact⟨rfl,rfl⟩
|_=>cases hf
theorem sW{xs:List V}{ds:List D}(h:bC K G xs ds)(gk:aN K G H)(hf:ds.all bY=true):xs=ds.map eu/\xs.all d9=true:=by induction h with
|nil=>exact⟨rfl,rfl⟩
|cons r t ih=>rw[R9,QG]at hf;obtain⟨e1,e2⟩:=RB.flat (H:=H) r.rb gk hf.1;obtain⟨e3,e4⟩:=ih hf.2;exact⟨by rw[u_,<-e3,<-e1],by rw[R9,e2,e4];rfl⟩
end
def dF:D->Option aA
|.int i=>some (.inl i)
|.str x=>some (.inr x)
|_=>none
def cn(kvs:List (aA×D))(k:aA):Bool:=kvs.any fun kv=>decide (kv.1=k)
def bj(kvs:List (aA×D))(k:aA):Option D:=(kvs.find? fun kv=>decide (kv.1=k)).map (·.2)
def il(x c:D):Option Bool:=match c with
|.lst ds=>if bY x=true/\ds.all bY=true then some (ds.any fun y=>eqs y x)else none
|.tup ds=>if bY x=true/\ds.all bY=true then some (ds.any fun y=>eqs y x)else none
|.dic kvs=>(dF x).map (cn kvs)
|.str y=>match x with
 |.str z=>some (!(RQ y z 0 y.length 1).isEmpty)
 |_=>none
|_=>none
def gE(x c:D):Option D:=(il x c).map .bl
def cF(x c:D):Option D:=(il x c).map fun b=>.bl (! b)
theorem BI{K:W.Frag}{G:GH}{k:aA}{ps:List (aA×V)}{kvs:List (aA×D)}(h:c9 K G ps kvs)(d:D)(e:bj kvs k=some d):∃v,cv ps k=some v/\RG K G v d:=by induction h with
|nil=>cases e
|@cons p q ps kvs r t ih=>
  obtain⟨k1,v1⟩:=p;obtain⟨k2,d2⟩:=q;obtain⟨e1,r1⟩:=r;have e1':k1=k2:=e1;subst e1';by_cases hk:k1=k
  .subst hk;have:d2=d:=by simpa[bj,QK]using e
   subst this;exact⟨v1,qV rfl,r1⟩
  .have e':bj kvs k=some d:=by simpa[bj,QK,hk]using e
   obtain⟨v,h1,h2⟩:=ih e';exact⟨v,by rw[oq hk];exact h1,h2⟩
theorem NR{K:W.Frag}{G:GH}{k:aA}{ps:List (aA×V)}{kvs:List (aA×D)}(h:c9 K G ps kvs)(e:bj kvs k=none):cv ps k=none:=by induction h with
|nil=>rfl
|@cons p q ps kvs r t ih=>
  obtain⟨k1,v1⟩:=p;obtain⟨k2,d2⟩:=q;obtain⟨e1,r1⟩:=r;have e1':k1=k2:=e1;subst e1';by_cases hk:k1=k
  .subst hk;simp[bj,QK]at e
  .have e':bj kvs k=none:=by simpa[bj,QK,hk]using e
   rw[oq hk];exact ih e'
theorem Jq(kvs:List (aA×D))(k:aA):cn kvs k=(bj kvs k).isSome:=by induction kvs with
|nil=>rfl
|cons p r ih=>
  by_cases e:p.1=k
  .simp[cn,bj,QK,e]
  .have h1:cn (p::r) k=cn r k:=by simp[cn,e]
   have h2:bj (p::r) k=bj r k:=by simp[bj,QK,e]
   rw[h1,h2,ih]
theorem t8{K:W.Frag}{G:GH}{H:Hp}{v:V}{d:D}{k:aA}(gk:aN K G H)(h:RB K G H v d)(e:dF d=some k):v=kV k:=by cases d with
|int i=>cases e;exact h.int gk
|str x=>cases e;exact h.str gk
|_=>cases e
section
variable{X:Cx}{g:GE}{m mb:List Md}{e a b o c:Expr}{f fa fb fc:FE}{pos pos':Pos}
def lT(neg:Bool):R2:=fun y x H Q=>∃a o,x=.ref a/\dY H a y o/\Q (.bl (if neg then ! o.isSome else o.isSome)) H
theorem IB(hu:X.A.units+1<SM):a9 X (QY .In) (lT false):=by intro pz s σ H y x u v Q I ry rx h;obtain⟨a,oo,rfl,hg,q⟩:=h;cases rx;exact z7 hu I hg ry fun s' I'=>⟨.bl _,H,I',rfl,q⟩
theorem LY(hu:X.A.units+1<SM):a9 X (QY .NotIn) (lT true):=by intro pz s σ H y x u v Q I ry rx h;obtain⟨a,oo,rfl,hg,q⟩:=h;cases rx;exact KJ hu I hg ry fun s' I'=>⟨.bl _,H,I',rfl,q⟩
def gO(K:W.Frag)(neg:Bool):R2:=fun x y H Q=>zT K neg x y H Q\/lT neg x y H Q\/∃i j,x=.str i/\y=.str j/\Q (.bl (if neg then !(!(RQ j i 0 j.length 1).isEmpty)else !(RQ j i 0 j.length 1).isEmpty)) H
theorem IA(hu:X.A.units+1<SM):a9 X (QY .In) (gO X.K false):=a9.or Om (a9.or (IB hu) On)
theorem LX(hu:X.A.units+1<SM):a9 X (QY .NotIn) (gO X.K true):=a9.or Py (a9.or (LY hu) Pz)
theorem CA{K:W.Frag}(neg:Bool):dH K (gO K neg) (fun x c=>(il x c).map fun b=>.bl (if neg then ! b else b)):=by
 intro G H v1 v2 d1 d2 d Q gk r1 r2 e q;have seq:∀{xs:List V}{ds:List D}{p:Addr},bC K G xs ds->v2=.ref p->(aY K H p xs\/ce K H p xs)->bY d1=true->ds.all bY=true->d=.bl (if neg then !(ds.any fun y=>eqs y d1)else ds.any fun y=>eqs y d1)->gO K neg v1 v2 H Q:=fun{xs ds p} rs e2 hs hf hfs ed=>by
  obtain⟨e1,f1⟩:=RB.flat r1 gk hf;obtain⟨e3,f3⟩:=sW rs gk hfs;refine .inl ⟨p,xs,e2,hs,f1,f3,q _ G H (Grow.refl gk) ?_⟩;have:sQ v1 xs=ds.any fun y=>eqs y d1:=by unfold sQ;rw[e3,Uw,e1];rfl
  rw[this,ed];exact .scl (.bl _)
 cases d2 with
|lst ds=>
  by_cases hc:bY d1=true/\ds.all bY=true
  .simp only[il,if_pos hc,Sl]at e;obtain⟨p,xs,e2,hs,rs⟩:=r2.lst gk;exact seq rs e2 (.inl hs) hc.1 hc.2 (K_ e).symm
  .simp only[il,if_neg hc,WS]at e;cases e
|tup ds=>
  by_cases hc:bY d1=true/\ds.all bY=true
  .simp only[il,if_pos hc,Sl]at e;obtain⟨p,xs,e2,hs,rs⟩:=r2.tup gk;exact seq rs e2 (.inr hs) hc.1 hc.2 (K_ e).symm
  .simp only[il,if_neg hc,WS]at e;cases e
|dic kvs=>simp only[il]at e;cases ek:dF d1 with
 |none=>rw[ek]at e;cases e
 |some k=>
   rw[ek]at e;cases e;obtain⟨p,ps,rfl,hs,rs⟩:=r2.dic gk;refine .inr (.inl ⟨p,cv ps k,rfl,by rw[t8 gk r1 ek];exact .inl ⟨ps,k,hs,rfl,rfl⟩,q _ G H (Grow.refl gk) ?_⟩);have:(cv ps k).isSome=cn kvs k:=by rw[Jq];cases eg:bj kvs k with
   |none=>rw[NR rs eg];rfl
   |some d=>obtain⟨v,h1,_⟩:=BI rs d eg;rw[h1];rfl
   rw[this];exact .scl (.bl _)
|str y=>cases d1 with
 |str z=>cases e;exact .inr (.inr ⟨z,y,r1.str gk,r2.str gk,q _ G H (Grow.refl gk) (.scl (.bl _))⟩)
 |_=>cases e
|_=>cases e
theorem GO{K:W.Frag}:dH K (gO K false) gE:=by
 have h:=CA (K:=K) false;have e:(fun x c=>(il x c).map fun b=>D.bl (if false=true then ! b else b))=gE:=by funext x c;unfold gE;cases il x c <;> rfl
 rw[e]at h;exact h
theorem Iv{K:W.Frag}:dH K (gO K true) cF:=by
 have h:=CA (K:=K) true;have e:(fun x c=>(il x c).map fun b=>D.bl (if true=true then ! b else b))=cF:=by funext x c;unfold cF;cases il x c <;> rfl
 rw[e]at h;exact h
theorem lW(hu:X.A.units+1<SM)(ha:SB X g m a fa)(hb:SB X g m b fb)(hm:Sz .In b=false:=by rfl):SQ X g m (.Compare a [.In] [b] pos) (aV (f2 fa fb gE)):=kw (IA hu) GO ha hb hm
theorem lq(hu:X.A.units+1<SM)(ha:SB X g m a fa)(hb:SB X g m b fb)(hm:Sz .NotIn b=false:=by rfl):SQ X g m (.Compare a [.NotIn] [b] pos) (aV (f2 fa fb cF)):=kw (LX hu) Iv ha hb hm
def jr:D->D->Option D
|.non,.non=>some (.bl true)
|_,.non=>some (.bl false)
|_,_=>none
def fu:D->D->Option D
|.non,.non=>some (.bl false)
|_,.non=>some (.bl true)
|_,_=>none
theorem RB.isnon{K:W.Frag}{G:GH}{H:Hp}{v:V}{d:D}(gk:aN K G H)(h:RB K G H v d):(v=.non↔d=.non):=by
 constructor
 .intro e;subst e;rcases h with h|⟨a,e,_⟩
  .cases h with
  |scl s=>cases s;rfl
  .cases e
 .intro e;subst e;exact h.non gk
theorem GP{K:W.Frag}:dH K (fun x y H Q=>y=.non/\Q (.bl (decide (x=.non))) H) jr:=by intro G H v1 v2 d1 d2 d Q gk r1 r2 e q;have hn:=r1.isnon gk;cases d2 with
|non=>refine⟨r2.non gk,q _ G H (Grow.refl gk) ?_⟩;cases d1 with
 |non=>cases e;rw[decide_eq_true (hn.mpr rfl)];exact .scl (.bl _)
 |_=>cases e;rw[decide_eq_false (fun z=>by have:=hn.mp z;cases this)];exact .scl (.bl _)
|_=>cases d1 <;> cases e
theorem IT{K:W.Frag}:dH K (fun x y H Q=>y=.non/\Q (.bl (! decide (x=.non))) H) fu:=by intro G H v1 v2 d1 d2 d Q gk r1 r2 e q;have hn:=r1.isnon gk;cases d2 with
|non=>refine⟨r2.non gk,q _ G H (Grow.refl gk) ?_⟩;cases d1 with
 |non=>cases e;rw[decide_eq_true (hn.mpr rfl)];exact .scl (.bl _)
 |_=>cases e;rw[decide_eq_false (fun z=>by have:=hn.mp z;cases this)];exact .scl (.bl _)
|_=>cases d1 <;> cases e
theorem lV(ha:SB X g m a fa)(hb:SB X g m b fb):SQ X g m (.Compare a [.Is] [b] pos) (aV (f2 fa fb jr)):=kw ID GP ha hb (jF _)
theorem AX(ha:SB X g m a fa)(hb:SB X g m b fb):SQ X g m (.Compare a [.IsNot] [b] pos) (aV (f2 fa fb fu)):=kw LZ IT ha hb (jF _)
end
end DL
section
namespace DL
open PySem PySem.Spec PyProof.Rows L2
section
variable{X:Cx}{g:GE}{m mb:List Md}{e a b o c:Expr}{f fa fb fc:FE}{pos pos' p1 p2:Pos}{ro:Bool}{x:Str}
def pb:R2:=fun x y H Q=>∃a v,x=.ref a/\dY H a y (some v)/\Q v H
theorem IW(hu:X.A.units+1<SM):i8 X pb:=by intro value slice pz s σ H x y v u Q I rx ry h hs;obtain⟨a,w,rfl,hg,q⟩:=h;cases rx;exact tail_any (Pr I hg) PySem.F.slot_dict_getitem.lookup (NY hu I hg ry fun w' s' I' rw'=>⟨w,H,I',rw',q⟩) hs
def aH:D->D->Option D
|.dic kvs,k=>(dF k).bind (bj kvs)
|c,k=>ixD c k
theorem IV{K:W.Frag}:dH K (fun x y H Q=>pb x y H Q\/zS K x y H Q) aH:=by intro G H v1 v2 d1 d2 d Q gk r1 r2 e q;cases d1 with
|dic kvs=>obtain⟨a,ps,rfl,hs,rs⟩:=r1.dic gk;have e':(dF d2).bind (bj kvs)=some d:=e;cases ek:dF d2 with
 |none=>rw[ek]at e';cases e'
 |some k=>rw[ek]at e';obtain⟨v,h1,h2⟩:=BI rs d e';refine .inl ⟨a,v,rfl,?_,q v G H (Grow.refl gk) h2⟩;rw[t8 gk r2 ek,<-h1];exact .inl ⟨ps,k,hs,rfl,rfl⟩
|lst ds=>exact .inr (sZ G H v1 v2 _ d2 d Q gk r1 r2 e q)
|tup ds=>exact .inr (sZ G H v1 v2 _ d2 d Q gk r1 r2 e q)
|str ds=>exact .inr (sZ G H v1 v2 _ d2 d Q gk r1 r2 e q)
|_=>cases e
theorem dy(hu:X.A.units+1<SM)(ha:SB X g m a fa)(hb:SB X g m b fb)(hs:uY b:=by intro _ _;rfl):SE X g m (.Subscript a b pos) (f2 fa fb aH):=tD IV (Ie (i8.or (IW hu) IX) ha hb hs)
theorem jG:SO X g m (.Dict [] [] pos) fun _=>.ok (.dic []):=PE.imp MA fun σ H Q ⟨r,G,si,q⟩ p hp=>q p G _ (Grow.new si.gok hp _) hp ⟨si.gok.isN hp,.dic ca .nil⟩
def cz(kvs:List (aA×D))(k:aA)(d:D):List (aA×D):=if (kvs.any fun kv=>decide (kv.1=k))=true then kvs.map fun kv=>if kv.1=k then(kv.1,d)else kv else kvs++[(k,d)]
theorem MV{K:W.Frag}{G:GH}{k:aA}{ps:List (aA×V)}{kvs:List (aA×D)}(h:c9 K G ps kvs):(ps.any fun kv=>decide (kv.1=k))=kvs.any fun kv=>decide (kv.1=k):=by induction h with
|nil=>rfl
|cons r t ih=>rw[Tb,Tb,ih,r.1]
theorem AV{K:W.Frag}{G:GH}{ps:List (aA×V)}{kvs:List (aA×D)}{k:aA}{v:V}{d:D}(r:c9 K G ps kvs)(h:RG K G v d):c9 K G (bW ps k v) (cz kvs k d):=by
 unfold bW cz;rw[MV r];by_cases hc:(kvs.any fun kv=>decide (kv.1=k))=true
 .rw[if_pos hc,if_pos hc];clear hc
  induction r with
 |nil=>exact .nil
 |@cons p q ps kvs r t ih=>
   refine .cons ?_ ih;obtain⟨p1,p2⟩:=p;obtain⟨q1,q2⟩:=q;have e:p1=q1:=r.1;subst e;by_cases hk:p1=k
   .simp only[hk,if_true,true_and];exact h
   .simp only[hk,if_false,true_and];exact r.2
 .rw[if_neg hc,if_neg hc];exact Paired.snoc r ⟨rfl,h⟩
def dD:D->D->D->Option D
|.lst ds,.int k,v=>(gC ds.length k).map fun j=>.lst (ds.set j v)
|.dic kvs,k,v=>(dF k).bind fun k=>if kvs.length<sizeLine then some (.dic (cz kvs k v))else none
|_,_,_=>none
def A0:V->V->V->Hp->(Hp->Prop)->Prop:=fun o i v H Q=>∃p H',o=.ref p/\gw H p i v H'/\Q H'
theorem K7(hu:X.A.units+1<SM):fE X A0:=by intro pz s σ H o i v ov iv u Q I ro ri rv h;obtain⟨p,H',rfl,hp,q⟩:=h;cases ro;exact NZ hu I hp ri rv fun s' I'=>⟨H',I',q⟩
theorem fE.or{t t':ki}(h:fE X t)(h':fE X t'):fE X (fun o i v H Q=>t o i v H Q\/t' o i v H Q):=by
 intro pz s σ H o i v ov iv u Q I ro ri rv q;rcases q with q|q
 .exact h pz s σ H o i v ov iv u Q I ro ri rv q
 .exact h' pz s σ H o i v ov iv u Q I ro ri rv q
theorem JA{K:W.Frag}{G:GH}{H:Hp}{a:Addr}{d k v d':D}{kv vv:V}{Q:Hp->Prop}(gk:aN K G H)(ow:Own K G H a d)(rk:RB K G H kv k)(rv:RG K G vv v)(e:dD d k v=some d')(q:∀o',OwnO K G (upd H a o') a d'->Q (upd H a o')):A3 (.ref a) kv vv H Q\/A0 (.ref a) kv vv H Q:=by cases ow.ob with
|@lst xs ds r s=>cases k with
 |int k=>have e':(gC ds.length k).map (fun j=>D.lst (ds.set j v))=some d':=e;cases ej:gC ds.length k with
  |none=>rw[ej]at e';cases e'
  |some j=>rw[ej]at e';cases e';exact .inl ⟨a,xs,k,j,rfl,rk.int gk,r,by rw[Paired.length s];exact ej,q _ (.lst ca (Paired.st rv j s))⟩
 |_=>cases e
|@dic ps kvs r s=>have e':(dF k).bind (fun k=>if kvs.length<sizeLine then some (D.dic (cz kvs k v))else none)=some d':=e;cases ek:dF k with
 |none=>rw[ek]at e';cases e'
 |some k'=>
   rw[ek]at e';have e2:(if kvs.length<sizeLine then some (D.dic (cz kvs k' v))else none)=some d':=e';by_cases hl:kvs.length<sizeLine
   .rw[if_pos hl]at e2;cases e2;have:=Paired.length s;refine .inr ⟨a,_,rfl,?_,q _ (.dic ca (AV s rv))⟩;rw[t8 gk rk ek];exact gw.k r (by omega)
   .rw[if_neg hl]at e2;cases e2
def cE(m:List Md)(i:Nat)(fk fv:FE):FS:=fun r=>fP m r (fv r) fun v=>match r[i]? with
|some (some d)=>fP m r (fk r) fun k=>(match dD d k v with
 |some d'=>.nx (r.set i (some d'))
 |none=>.stuck)
|_=>.stuck
theorem hV(i:Nat)(hu:X.A.units+1<SM)(hm:m[i]? = some .ow)(hN:X.N[i]? = some x)(hv:im X.env.scope x)(hk:SB X g m b fb)(he:SE X g m e f)(hd:(x==("__debug__" : Str))=false:=by decide)(hcd:(x==("__classdict__" : Str))=false:=by decide)(ha:∀v,Ul (.Subscript (.Name x p1) b p2) X.env v=(do
   let ov <-Vi [v] (eval (.Name x p1) X.env);let iv <-Vi [v,ov] (eval b X.env)
   X_ p2
   Vi [v,ov,iv] (X9 ov iv v)
   release [v,ov,iv] []):=by intro _;rfl)(hs:VW [.Subscript (.Name x p1) b p2] e pos.line X.env=pure false:=by rfl)(hw:VX [.Subscript (.Name x p1) b p2] e X.env=pure none:=by rfl)(h1:(Rx [.Subscript (.Name x p1) b p2] X.env).map (·.2)=[Ul (.Subscript (.Name x p1) b p2) X.env]:=by rfl):SS X g ro mb m (.Assign [.Subscript (.Name x p1) b p2] e pos) (cE m i fb f) m:=by refine⟨rfl,PS.imp (Bh he (J4 (mN hN hv hd hcd) hk (fE.or No (K7 hu)) ha) hs hw h1) fun D0 σ H ⟨r,G,si,k⟩=>⟨r,G,si,?_⟩⟩;refine bg (fJ si rfl k) fun v k1 vv G1 H1 w1 rv=>?_;cases er:r[i]? with
|none=>simp only[er]at k1;exact(show False from k1).elim
|some oo=>cases oo with
 |none=>simp only[er]at k1;exact(show False from k1).elim
 |some d=>simp only[er]at k1;obtain⟨a,h1,h2,h3⟩:=(si.grow w1).mut hm er;refine⟨_,h1,r,G1,si.grow w1,?_⟩;refine bg (fJ (m:=m) (si.grow w1) rfl (bS.gle k1 w1.ge)) fun kk k2 kv G2 H2 w2 rk=>?_;cases es:dD d kk v with
  |none=>simp only[es]at k2;exact(show False from k2).elim
  |some d'=>simp only[es]at k2;obtain⟨a',h1',h2',h3'⟩:=((si.grow w1).grow w2).mut hm er;rw[h1]at h1';cases h1';exact JA w2.ok h2' rk (rv.mono w2.ge) es fun o' ob=>k2 σ G2 _ w2.ge (h3' o' d' ob)
end
mutual
def bb:D->PyData
|.non=>.none
|.bl b=>.bool b
|.int i=>.int i
|.str x=>.str x
|.tup ds=>.tuple (zc9 ds)
|.lst ds=>.list (zc9 ds)
|.dic _=>.none
|.obj _ _=>.none
def zc9:List D->List PyData
|[]=>[]
|d::ds=>bb d::zc9 ds
end
def bQ:Nat->D->Prop
|_,.non=>True
|_,.bl _=>True
|_,.int _=>True
|_,.str x=>PyData.strOk x=true
|0,.tup _=>False
|0,.lst _=>False
|k+1,.tup ds=>∀d∈ds,bQ k d
|k+1,.lst ds=>∀d∈ds,bQ k d
|_,.dic _=>False
|_,.obj _ _=>False
theorem n9{k:Nat}{ds:List D}:bQ (k+1) (.lst ds)↔∀d∈ds,bQ k d:=by simp only[bQ]
theorem jO{k:Nat}{ds:List D}:bQ (k+1) (.tup ds)↔∀d∈ds,bQ k d:=by simp only[bQ]
def ke(a b:D):Bool:=TK (bb a) (bb b)
section
variable{X:Cx}{pz:List (Addr×Obj)}{σ:L2.St}{H:Hp}{s:k_}{G:GH}
theorem EK{k:Nat}(ih:∀(d:D)(v:V)(u:c_),bQ k d->RG X.K G v d->L2.av v u->∃as,Reads s.heap u (bb d) as)(ds:List D)(vs:List V)(us:List c_)(h:∀d∈ds,bQ k d)(r:bC X.K G vs ds)(q:aq vs us):∃as,ReadsAll s.heap us (zc9 ds) as:=by induction r generalizing us with
|nil=>cases q;exact⟨[],.nil⟩
|cons r t ih'=>cases q with
 |cons r' t'=>obtain⟨a1,h1⟩:=ih _ _ _ (h _ d_) r r';obtain⟨a2,h2⟩:=ih' _ (fun x hx=>h x (i_ _ hx)) t';exact⟨a1++a2,.cons h1 h2⟩
theorem qQ(I:Inv X pz σ H s)(gk:aN X.K G H):∀(k:Nat)(d:D)(v:V)(u:c_),bQ k d->RB X.K G H v d->L2.av v u->∃as,Reads s.heap u (bb d) as:=by
 intro k
 induction k with
|zero=>intro d v u hs r ru;cases d with
 |non=>rw[r.non gk]at ru;cases ru;exact⟨_,.none⟩
 |bl b=>rw[r.bl gk]at ru;cases ru;exact⟨_,.bool b⟩
 |int i=>rw[r.int gk]at ru;obtain⟨t,rfl⟩:=ru;exact⟨_,.int i t⟩
 |str x=>rw[r.str gk]at ru;obtain⟨t,rfl⟩:=ru;exact⟨_,.str x t⟩
 |tup _=>unfold bQ at hs;exact hs.elim
 |lst _=>unfold bQ at hs;exact hs.elim
 |dic _=>unfold bQ at hs;exact hs.elim
 |obj _ _=>unfold bQ at hs;exact hs.elim
|succ k ih=>intro d v u hs r ru;cases d with
 |non=>rw[r.non gk]at ru;cases ru;exact⟨_,.none⟩
 |bl b=>rw[r.bl gk]at ru;cases ru;exact⟨_,.bool b⟩
 |int i=>rw[r.int gk]at ru;obtain⟨t,rfl⟩:=ru;exact⟨_,.int i t⟩
 |str x=>rw[r.str gk]at ru;obtain⟨t,rfl⟩:=ru;exact⟨_,.str x t⟩
 |tup ds=>obtain⟨a,xs,rfl,sq,rs⟩:=r.tup gk;cases ru;obtain⟨its,rv,pl,_⟩:=I.tuple sq;obtain⟨o,ho,hc,n,hd⟩:=pl;obtain⟨as,h⟩:=EK (k:=k) (fun d v u h1 h2 h3=>ih d v u h1 h2.rb h3) ds xs its (jO.mp hs) rs rv;refine⟨as,?_⟩;unfold bb;exact .tuple ho hc hd (by simpa using h)
 |lst ds=>obtain⟨a,xs,rfl,sq,rs⟩:=r.lst gk;cases ru;obtain⟨its,rv,pl,_⟩:=I.list sq;obtain⟨o,ho,hc,n,hd⟩:=pl.isList;obtain⟨as,h⟩:=EK (k:=k) (fun d v u h1 h2 h3=>ih d v u h1 h2.rb h3) ds xs its (n9.mp hs) rs rv;refine⟨a::as,?_⟩;unfold bb;exact .list ho hc hd (by simpa using h)
 |dic _=>unfold bQ at hs;exact hs.elim
 |obj _ _=>unfold bQ at hs;exact hs.elim
theorem vA{k:Nat}(ih:∀d,bQ k d->Rk (bb d)=true/\Rz (bb d)<=k):∀ds:List D,(∀d∈ds,bQ k d)->UW (zc9 ds)=true/\Vy (zc9 ds)<=k
|[],_=>by unfold zc9 UW Vy;exact⟨rfl,QX _⟩
|d::ds,h=>by obtain⟨a1,a2⟩:=ih d (h d d_);obtain⟨b1,b2⟩:=vA ih ds fun x hx=>h x (i_ _ hx);unfold zc9 UW Vy;rw[a1,b1];exact⟨rfl,Nat.max_le.mpr ⟨a2,b2⟩⟩
theorem Ju:∀(k:Nat)(d:D),bQ k d->Rk (bb d)=true/\Rz (bb d)<=k:=by
 intro k
 induction k with
|zero=>intro d hs;cases d with
 |non=>unfold bb Rk Rz;exact⟨rfl,QX _⟩
 |bl b=>unfold bb Rk Rz;exact⟨rfl,QX _⟩
 |int i=>unfold bb Rk Rz;exact⟨rfl,QX _⟩
 |str x=>unfold bQ at hs;unfold bb Rk Rz;exact⟨hs,QX _⟩
 |tup _=>unfold bQ at hs;exact hs.elim
 |lst _=>unfold bQ at hs;exact hs.elim
 |dic _=>unfold bQ at hs;exact hs.elim
 |obj _ _=>unfold bQ at hs;exact hs.elim
|succ k ih=>intro d hs;cases d with
 |non=>unfold bb Rk Rz;exact⟨rfl,QX _⟩
 |bl b=>unfold bb Rk Rz;exact⟨rfl,QX _⟩
 |int i=>unfold bb Rk Rz;exact⟨rfl,QX _⟩
 |str x=>unfold bQ at hs;unfold bb Rk Rz;exact⟨hs,QX _⟩
 |tup ds=>obtain⟨b1,b2⟩:=vA ih ds (jO.mp hs);unfold bb Rk Rz;exact⟨b1,Wz b2⟩
 |lst ds=>obtain⟨b1,b2⟩:=vA ih ds (n9.mp hs);unfold bb Rk Rz;exact⟨b1,Wz b2⟩
 |dic _=>unfold bQ at hs;exact hs.elim
 |obj _ _=>unfold bQ at hs;exact hs.elim
theorem qZ{d:D}(h:bQ 60 d):Yb (bb d)=true:=by obtain⟨a,b⟩:=Ju 60 d h;unfold Yb;rw[a,decide_eq_true (O_ b (by decide))];rfl
end
section
variable{X:Cx}{g:GE}{m mb:List Md}{e a b o c:Expr}{f fa fb fc:FE}{pos pos':Pos}
def my(a b:D):Bool:=bY a&&bY b&&jX (eu a) (eu b)
open Classical in
def fA(a b:D):Option Bool:=if my a b=true then some (eqs a b)else if bQ 60 a/\bQ 60 b then some (ke a b)else none
def eqD(a b:D):Option D:=(fA a b).map .bl
def neD(a b:D):Option D:=(fA a b).map fun c=>.bl (! c)
theorem qL{a b:D}(h:my a b=false)(h1:bQ 60 a)(h2:bQ 60 b):fA a b=some (ke a b):=by unfold fA;rw[if_neg (by rw[h];exact g_),if_pos ⟨h1,h2⟩]
theorem wD{a b:D}(h:my a b=true):fA a b=some (eqs a b):=by unfold fA;rw[if_pos h]
@[simp] theorem eqB_int(a b:Int):fA (.int a) (.int b)=some (a==b):=wD rfl
@[simp] theorem eqB_str(a b:Str):fA (.str a) (.str b)=some (a==b):=wD rfl
@[simp] theorem eqB_non_int(b:Int):fA .non (.int b)=some false:=wD rfl
theorem DV{a b:D}(h:jX (eu a) (eu b)=true)(fa:bY a=true)(fb:bY b=true):decide (eu a=eu b)=eqs a b:=by
 cases a <;> cases b <;> first
  |exact absurd (show false=true from fa) g_
  |exact absurd (show false=true from fb) g_
  |exact absurd (show false=true from h) g_
  |exact vP
  |exact uA
  |exact vQ
  |rfl
  |simp[eu,eqs,fw]
def qA(K:W.Frag)(neg:Bool):R2:=fun x y H Q=>∃(G:GH)(d1 d2:D),aN K G H/\RB K G H x d1/\RB K G H y d2/\bQ 60 d1/\bQ 60 d2/\Q (.bl (if neg then ! ke d1 d2 else ke d1 d2)) H
theorem EJ(hu:X.A.units+64<SM):a9 X (QY .Eq) (qA X.K false):=by intro pz s σ H x y v u Q I rx ry h;obtain⟨G,d1,d2,gk,r1,r2,s1,s2,q⟩:=h;obtain⟨as,h1⟩:=qQ I gk 60 d1 x v s1 r1 rx;obtain⟨bs,h2⟩:=qQ I gk 60 d2 y u s2 r2 ry;exact SeqAt.compareEq_shaped h1 h2 (qZ s1) (qZ s2) hu ⟨.bl _,H,I,rfl,q⟩
theorem Oo(hu:X.A.units+64<SM):a9 X (QY .NotEq) (qA X.K true):=by intro pz s σ H x y v u Q I rx ry h;obtain⟨G,d1,d2,gk,r1,r2,s1,s2,q⟩:=h;obtain⟨as,h1⟩:=qQ I gk 60 d1 x v s1 r1 rx;obtain⟨bs,h2⟩:=qQ I gk 60 d2 y u s2 r2 ry;exact SeqAt.compareNe_shaped h1 h2 (qZ s1) (qZ s2) hu ⟨.bl _,H,I,rfl,q⟩
theorem eq_cases{a b:D}{c:Bool}(h:fA a b=some c):(my a b=true/\c=eqs a b)\/(bQ 60 a/\bQ 60 b/\c=ke a b):=by
 unfold fA at h;split at h
 .rename_i hs;cases h;exact .inl ⟨hs,rfl⟩
 .split at h
  .rename_i hs;cases h;exact .inr ⟨hs.1,hs.2,rfl⟩
  .cases h
theorem Aq{K:W.Frag}:dH K (fun x y H Q=>Gu x y H Q\/qA K false x y H Q) eqD:=by intro G H v1 v2 d1 d2 d Q gk r1 r2 e q;unfold eqD at e;cases ec:fA d1 d2 with
|none=>rw[ec]at e;cases e
|some c=>
  rw[ec]at e;cases e;rcases eq_cases ec with⟨hs,rfl⟩|⟨s1,s2,rfl⟩
  .unfold my at hs;rw[QG,QG]at hs;obtain⟨e1,_⟩:=RB.flat r1 gk hs.1.1;obtain⟨e2,_⟩:=RB.flat r2 gk hs.1.2;refine .inl ⟨by rw[e1,e2];exact hs.2,?_⟩;rw[e1,e2,DV hs.2 hs.1.1 hs.1.2];exact q _ G H (Grow.refl gk) (.scl (.bl _))
  .exact .inr ⟨G,d1,d2,gk,r1,r2,s1,s2,q _ G H (Grow.refl gk) (.scl (.bl _))⟩
theorem GW{K:W.Frag}:dH K (fun x y H Q=>Gs x y H Q\/qA K true x y H Q) neD:=by intro G H v1 v2 d1 d2 d Q gk r1 r2 e q;unfold neD at e;cases ec:fA d1 d2 with
|none=>rw[ec]at e;cases e
|some c=>
  rw[ec]at e;cases e;rcases eq_cases ec with⟨hs,rfl⟩|⟨s1,s2,rfl⟩
  .unfold my at hs;rw[QG,QG]at hs;obtain⟨e1,_⟩:=RB.flat r1 gk hs.1.1;obtain⟨e2,_⟩:=RB.flat r2 gk hs.1.2;refine .inl ⟨by rw[e1,e2];exact hs.2,?_⟩;rw[e1,e2,DV hs.2 hs.1.1 hs.1.2];exact q _ G H (Grow.refl gk) (.scl (.bl _))
  .exact .inr ⟨G,d1,d2,gk,r1,r2,s1,s2,q _ G H (Grow.refl gk) (.scl (.bl _))⟩
theorem jY(hu:X.A.units+64<SM)(ha:SB X g m a fa)(hb:SB X g m b fb):SE X g m (.Compare a [.Eq] [b] pos) (f2 fa fb eqD):=tx (a9.or AC (EJ hu)) Aq ha hb (jF _)
theorem eG(hu:X.A.units+64<SM)(ha:SB X g m a fa)(hb:SB X g m b fb):SQ X g m (.Compare a [.Eq] [b] pos) (aV (f2 fa fb eqD)):=kw (a9.or AC (EJ hu)) Aq ha hb (jF _)
theorem e7(hu:X.A.units+64<SM)(ha:SB X g m a fa)(hb:SB X g m b fb):SQ X g m (.Compare a [.NotEq] [b] pos) (aV (f2 fa fb neD)):=kw (a9.or Hb (Oo hu)) GW ha hb (jF _)
def nR(fa fb fc:FE)(k k':D->D->Option D):FE:=fun r=>(fa r).bind fun x=>(fb r).bind fun y=>(bX (k x y)).bind fun z=>(bX (iZ z)).bind fun c=>if c=true then(fc r).bind fun w=>bX (k' y w)else .ok (.bl false)
def tJ(K:W.Frag):R2:=fun x y H Q=>∃l b xs zs,x=.ref l/\y=.ref b/\aY K H l xs/\aY K H b zs/\xs.length+zs.length<=sizeLine/\∀p,H p=none->Q (.ref p) (upd H p (.lst (xs++zs)))
theorem Dg:a9 X (Sb .Add) (tJ X.K):=by
 intro pz s σ H x y v u Q I rx ry h;obtain⟨l,b,xs,zs,rfl,rfl,hH,hB,hz,q⟩:=h;cases rx;cases ry;obtain⟨its,r,pl,_⟩:=I.list hH;obtain⟨its2,r2,pl2,_⟩:=I.list hB;have l1:=r.length;have l2:=r2.length;obtain⟨⟨cls,dd,data,sl⟩,ho,hc,n,hd⟩:=pl.isList;obtain⟨⟨cls2,dd2,data2,sl2⟩,ho2,hc2,n2,hd2⟩:=pl2.isList;simp only at hc hd hc2 hd2;subst hc hd hc2 hd2;have e:its.toArray++its2.toArray=(its++its2).toArray:=by simp
 refine Vk ⟨_,ho,rfl⟩ ⟨_,ho2,rfl⟩ noFill_list_add seq_list_add PySem.F.slot_list_add PySem.F.entry_list_add (PySem.F.args_list_add_2 _ _) (list_addW _ _ its.toArray its2.toArray n n2 dd dd2 sl sl2 (by simp;omega)) ⟨ho,ho2,?_⟩;rw[e];exact⟨.ref _,_,I.lnew (t':=s.toks) (r.append r2) (by rw[L_];omega),rfl,q _ I.fresh⟩
def addA:D->D->Option D
|.int a,.int b=>some (.int (a+b))
|.str a,.str b=>if a.length+b.length<=sizeLine then some (.str (a++b))else none
|.lst a,.lst b=>if a.length+b.length<=sizeLine then some (.lst (a++b))else none
|.tup (x::a),.tup b=>if (x::a).length+b.length<=sizeLine then some (.tup (x::a++b))else none
|_,_=>none
theorem B8{K:W.Frag}:dH K (fun x y H Q=>(∃i j,x=.int i/\y=.int j/\Q (.int (i+j)) H)\/(∃i j,x=.str i/\y=.str j/\i.length+j.length<=sizeLine/\Q (.str (i++j)) H)\/tJ K x y H Q\/tK K x y H Q) addA:=by
 intro G H v1 v2 d1 d2 d Q gk r1 r2 e q;unfold addA at e;split at e
 .cases e;exact .inl ⟨_,_,r1.int gk,r2.int gk,q _ G H (Grow.refl gk) (.scl (.int _))⟩
 .split at e
  .rename_i hl;cases e;exact .inr (.inl ⟨_,_,r1.str gk,r2.str gk,hl,q _ G H (Grow.refl gk) (.scl (.str _))⟩)
  .cases e
 .split at e
  .rename_i hl;cases e;obtain⟨a,xs,rfl,s1,t1⟩:=r1.lst gk;obtain⟨b,ys,rfl,s2,t2⟩:=r2.lst gk;have l1:=Paired.length t1;have l2:=Paired.length t2;exact .inr (.inr (.inl ⟨a,b,xs,ys,rfl,rfl,s1,s2,by omega,fun p hp=>q _ _ _ (Grow.newF gk hp (.lst (.inl ca) (Paired.app t1 t2))) (.ref dB)⟩))
  .cases e
 .split at e
  .rename_i x0 a0 b0 hl;cases e;rcases r1 with r1|⟨a',_,oo⟩
   .obtain⟨a,xs,rfl,s1,t1⟩:=r1.tup gk;obtain⟨b,ys,rfl,s2,t2⟩:=r2.tup gk;have l1:=Paired.length t1;have l2:=Paired.length t2;refine .inr (.inr (.inr ⟨a,b,xs,ys,rfl,rfl,s1,s2,?_,by omega,fun hy=>?_,fun _ p hp=>q _ _ _ (Grow.newF gk hp (.tup (.inl ca) (Paired.app t1 t2))) (.ref dB)⟩))
    .rintro rfl
     cases t1
    .subst hy;cases t2;refine q _ G H (Grow.refl gk) ?_;rw[Q0];exact r1
   .cases oo.ob
  .cases e
 .cases e
theorem ic(ha:SB X g m a fa)(hb:SB X g m b fb):SE X g m (.BinOp a .Add b pos) (f2 fa fb addA):=jy (a9.or Be (a9.or Fh (a9.or Dg Dh))) B8 ha hb
end
end DL
end
namespace DL
open PySem PySem.Spec PyProof.Rows L2
structure DefAt(K:W.Frag)(mg:Str->Option c_)(x:Str)(st:Stmt):Prop where
 ex:∃f fd,mg x=some (.ref f)/\Fun K x x st f fd
structure Callee(P:J_)(w:QN)(K:W.Frag)(mg:Str->Option c_)(base:Heap)(x:Str)(ps:List Str)(ds:List c_)(k:Nat)(ro:Bool)(ms:List Md)(F:List D->Res D):Prop where
 ex:∃f fd,mg x=some (.ref f)/\W.keepIn K (.ref f)=true/\io K fd ps ds/\FnOk P w K mg base bR k f fd ps (jo K ro ms F)
section
variable{P:J_}{w:QN}{K:W.Frag}{mg:Str->Option c_}{base:Heap}
theorem Ji{x:Str}{st:Stmt}{N ps:List Str}{k:Nat}{ro:Bool}{ms:List Md}{fs:FS}{m':List Md}(A:DefAt K mg x st)(S:FnScope N ps (az st))(hms:ms.length=ps.length)(hb:∀(kV doc pm:c_)(an:Option Addr)(cdv ct:c_)(us:List c_),us.length=ps.length->VH (W.fnOf x x (ig st) (eU st) (az st) .none kV doc pm an cdv ct) ⟨us,[]⟩=pure (ps.zip us))(hbody:∀(f:Addr)(cdv:c_)(A:Q9)(outer:List Env)(s:k_)(H:Hp)(g:GE)(E:XK),Room k (A.deeper (T6 x (az st) s.heap.objs.size f cdv)) ->fR (aT bR P w K mg base N x (az st) f cdv A outer s H E).nox g ro [] (jI N.length ms) (eU st) fs m'):Callee P w K mg base x ps [] (k+1) ro ms fun ds=>aB ro (fs (aS N.length ds)):=by obtain⟨f,fd,h1,F⟩:=A.ex;exact⟨f,fd,h1,F.kp,F.binds hb,BJ F S hms (hbody f)⟩
structure DefAtD(K:W.Frag)(mg:Str->Option c_)(x:Str)(st:Stmt)(dds:List c_):Prop where
 ex:∃(f T:Addr)(o:Obj)(n:Nat)(oc:c_)(od:Option Addr)(kV doc pm:c_)(an:Option Addr)(cdv ct:c_)(osl:Array (Option c_)),mg x=some (.ref f)/\K.lookup T=some o/\o.data=.seq dds.toArray n/\K.lookup f=some ⟨oc,od,.func (W.fnOf x x (ig st) (eU st) (az st) (.ref T) kV doc pm an cdv ct),osl⟩/\W.codeIn K cdv x=true/\W.keepIn K (.ref f)=true
theorem mT{x:Str}{st:Stmt}{N ps:List Str}{k:Nat}{ro:Bool}{ms:List Md}{fs:FS}{m':List Md}{dds ds:List c_}(A:DefAtD K mg x st dds)(S:FnScope N ps (az st))(hms:ms.length=ps.length)(nn:Nat)(hn:nn+ds.length=ps.length)(hb:∀(T:Addr)(kV doc pm:c_)(an:Option Addr)(cdv ct:c_)(us:List c_),us.length=nn->∃kk:Option (Array c_)->Sem (List (Str×c_)),VH (W.fnOf x x (ig st) (eU st) (az st) (.ref T) kV doc pm an cdv ct) ⟨us,[]⟩=X7 (.ref T) >>= kk/\kk (some dds.toArray)=pure (ps.zip (us++ds)))(hbody:∀(f:Addr)(cdv:c_)(A:Q9)(outer:List Env)(s:k_)(H:Hp)(g:GE)(E:XK),Room k (A.deeper (T6 x (az st) s.heap.objs.size f cdv)) ->fR (aT bR P w K mg base N x (az st) f cdv A outer s H E).nox g ro [] (jI N.length ms) (eU st) fs m'):Callee P w K mg base x ps ds (k+1) ro ms fun zs=>aB ro (fs (aS N.length zs)):=by
 obtain⟨f,T,o,n,oc,od,kV,doc,pm,an,cdv,ct,osl,h1,hT,hd,lk,hcd,kp⟩:=A.ex;refine⟨f,W.fnOf x x (ig st) (eU st) (az st) (.ref T) kV doc pm an cdv ct,h1,kp,fun s us KX hl=>?_,?_⟩
 .obtain⟨kk,e1,e2⟩:=hb T kV doc pm an cdv ct us (by rw[L_]at hl;omega);exact BindsTo.of_defaults rfl (KX _ _ hT) hd e1 e2
 .have hpl:ps.length<=N.length:=by have:=congrArg US S.pre;rw[Rf]at this;omega
  refine AJ lk hcd S (fun vs H Q E ⟨G,ds,gk,rs,q⟩=>rs.len.1.trans hms) fun A outer s H vs Q E hr ⟨G,ds,gk,rs,q⟩=>?_;exact⟨_,(hbody f cdv A outer s H ⟨G,H,fun _=>none⟩ E hr).2.nox,aS N.length ds,G,Du gk rs (by omega),DX q⟩
end
section
variable{X:Cx}{g:GE}{m:List Md}{e:Expr}{es:List Expr}{fl:ao->Res (List D)}{k:Nat}{ps:List Str}{F:List D->Res D}{dvs:List V}{ds:List c_}{dds:List D}{x:Str}{p pos:Pos}{i:Nat}{ms ms':List Md}
theorem Hs(c:Callee X.prog X.w X.K X.mg X.base x ps ds k false ms' F)(hr:Room k X.A)(ha:jv X g m (e::es) ms fl)(hms:ms'=ms++F_ dds.length .sh:=by rfl)(hg:Gl X x:=by rfl)(hd:aq dvs ds:=by exact .nil)(hsc:Paired Scl dvs dds:=by exact .nil)(hdb:(x==("__debug__" : Str))=false:=by decide)(he:s_ (e::es) X.env=(false,eval e X.env)::s_ es X.env:=by rfl)(hpl:(backTo pos (s_ es X.env)).any (·.1)=false:=by rfl):SE X g m (.Call (.Name x p) (e::es) [] pos) (aC fl dds F):=by subst hms;obtain⟨f,fd,h1,h2,h3,h4⟩:=c.ex;exact JU h4 hr hg h1 h2 h3 hd hsc ha hdb he hpl
theorem KH(c:Callee X.prog X.w X.K X.mg X.base x ps ds k true ms' F)(hr:Room k X.A)(ha:jv X g m (e::es) ms fl)(hms:ms'=ms++F_ dds.length .sh:=by rfl)(hg:Gl X x:=by rfl)(hd:aq dvs ds:=by exact .nil)(hsc:Paired Scl dvs dds:=by exact .nil)(hdb:(x==("__debug__" : Str))=false:=by decide)(he:s_ (e::es) X.env=(false,eval e X.env)::s_ es X.env:=by rfl)(hpl:(backTo pos (s_ es X.env)).any (·.1)=false:=by rfl):SO X g m (.Call (.Name x p) (e::es) [] pos) (iS (aC fl dds F)):=by subst hms;obtain⟨f,fd,h1,h2,h3,h4⟩:=c.ex;exact Iw h4 hr hg h1 h2 h3 hd hsc ha hdb he hpl
theorem v_(i:Nat)(hm:m[i]? = some .sh:=by rfl)(hN:X.N[i]? = some x:=by rfl)(hv:im X.env.scope x:=by first|exact Or.inl rfl|exact Or.inr (Or.inl rfl)|exact Or.inr (Or.inr rfl))(hd:(x==("__debug__" : Str))=false:=by decide)(hcd:(x==("__classdict__" : Str))=false:=by decide):SE X g m (.Name x p) fun r=>dk r i:=HF i hm hN hv hd hcd
theorem af(i:Nat)(hm:i<m.length:=by decide)(hN:X.N[i]? = some x:=by rfl)(hv:im X.env.scope x:=by first|exact Or.inl rfl|exact Or.inr (Or.inl rfl)|exact Or.inr (Or.inr rfl))(hd:(x==("__debug__" : Str))=false:=by decide)(hcd:(x==("__classdict__" : Str))=false:=by decide):SB X g m (.Name x p) fun r=>dk r i:=Jt i hm hN hv hd hcd
end
def vO(osc:SK)(ON:List Str)(sc:SK)(N':List Str)(nl:Nat)(cap:List Nat):Bool:=decide (sc.kind=.function)&&sc.names.all (fun y=>decide (y.2≠.cell))&&sc.names.all (fun y=>decide (y.2≠.local) || decide (sc.names.lookup y.1=some .local)) &&
 sc.names.all (fun y=>decide (y.2≠.free) || (decide (osc.names.lookup y.1=some .cell) || decide (osc.names.lookup y.1=some .free)))&&decide (N'.length=nl+cap.length) &&
 (a_ cap.length).all fun j=>match N'[nl+j]?,ON[cap.getD j 0]? with
 |some x,some y=>decide (x=y)&&decide (sc.names.lookup x=some .free)
 |_,_=>false
theorem dA{X:Cx}{osc:SK}{ON:List Str}{sc:SK}{N':List Str}{nl:Nat}{cap:List Nat}(h1:X.env.scope=osc)(h2:X.N=ON)(h:vO osc ON sc N' nl cap=true):CompSc X sc N' nl cap:=by subst h1 h2;unfold vO at h;simp only[QG,R_,decide_eq_true_eq,Bool.or_eq_true]at h;obtain⟨⟨⟨⟨⟨a1,a2⟩,a3⟩,a4⟩,a5⟩,a6⟩:=h;refine⟨a1,a2,fun y hy hl=>(a3 y hy).resolve_left fun z=>z hl,fun y hy hf=>(a4 y hy).resolve_left fun z=>z hf,a5,fun j hj=>?_⟩;have h6:=a6 j (n_.mpr hj);cases e1:N'[nl+j]? with
|none=>rw[e1]at h6;cases h6
|some x=>cases e2:X.N[cap.getD j 0]? with
 |none=>rw[e1,e2]at h6;cases h6
 |some y=>rw[e1,e2]at h6;simp only[QG,decide_eq_true_eq]at h6;exact⟨x,rfl,by rw[h6.1],h6.2⟩
section
variable{X:Cx}{g:GE}{m mb:List Md}{e a b c:Expr}{f fa fb fc:FE}{pos pos':Pos}
theorem OP{R R':R2}{k k':D->D->Option D}(ho:dH X.K R k)(ho':dH X.K R' k'){σ:L2.St}{H:Hp}{Q:VK}(h:tE X g m (nR fa fb fc k k') σ H Q):Bv R R' (tB X g m fa) (tB X g m fb) (tB X g m fc) σ H Q:=by obtain⟨r,G,si,q⟩:=h;refine lS si q fun d1 d2 v1 v2 G2 H2 w r1 r2 q2=>?_;obtain⟨z,ez,q3⟩:=cD (ba q2);obtain⟨cc,ec,q4⟩:=cD (ba q3);refine ho G2 H2 v1 v2 d1 d2 z _ w.ok r1 r2 ez fun v G3 H3 w3 rv=>?_;cases z with
|bl b'=>cases ec;refine⟨_,rv.bl w3.ok,?_⟩;cases cc with
 |false=>rw[if_neg g_]at q4 ⊢;exact q4 _ G3 H3 (w.trans w3) (.scl (.bl _))
 |true=>rw[if_pos rfl]at q4 ⊢;refine⟨r,G3,(si.grow w).grow w3,fL (ba q4) (w.trans w3) fun d3 q5 v3 G4 H4 w4 r3=>?_⟩;obtain⟨d,e,q6⟩:=cD q5;exact ho' G4 H4 v2 v3 d2 d3 d Q w4.ok ((r2.mono w3).mono w4) r3 e fun v G' H' w' z=>q6 v G' H' (((w.trans w3).trans w4).trans w') z
|_=>cases ec
theorem Nl{op op':X2}{R R':R2}{k k':D->D->Option D}(hr:a9 X (QY op) R)(hr':a9 X (QY op') R')(ho:dH X.K R k)(ho':dH X.K R' k')(ha:SB X g m a fa)(hb:SB X g m b fb)(hc:SB X g m c fc)(hm:lastMarks [op,op'] [b,c]=false:=by with_unfolding_all rfl):SE X g m (.Compare a [op,op'] [b,c] pos) (nR fa fb fc k k'):=PE.imp (Mz hr hr' ha hb hc hm) fun σ H Q h=>OP ho ho' h
theorem GZ{K:W.Frag}:dH K (jp fun i j=>V.bl (decide (i<j))) iU:=lA fun _ _=>.bl _
theorem GY{K:W.Frag}:dH K (jp fun i j=>V.bl (decide (i<=j))) zV:=lA fun _ _=>.bl _
end
theorem bJ{K:W.Frag}{h:Heap}{mg:Str->Option c_}{x:Str}{st:Stmt}(KX:K.In h)(G:h.Ns Ri mg){f:Addr}{oc:c_}{od an:Option Addr}{osl:Array (Option c_)}{kV doc pm cdv ct:c_}(a:W.nsIn K Ri x=some (some (.ref f)))(l:K.lookup f=some ⟨oc,od,.func (W.fnOf x x (ig st) (eU st) (az st) .none kV doc pm an cdv ct),osl⟩)(c:W.codeIn K cdv x=true)(k:W.keepIn K (.ref f)=true):DefAt K mg x st:=⟨f,_,W.mg_of KX G a,Jl l c k⟩
theorem mr{K:W.Frag}{h:Heap}{mg:Str->Option c_}{x:Str}{st:Stmt}{dds:List c_}(KX:K.In h)(G:h.Ns Ri mg){f T:Addr}{oc tc:c_}{od an td:Option Addr}{osl tsl:Array (Option c_)}{n:Nat}{kV doc pm cdv ct:c_}(a:W.nsIn K Ri x=some (some (.ref f)))(l:K.lookup f=some ⟨oc,od,.func (W.fnOf x x (ig st) (eU st) (az st) (.ref T) kV doc pm an cdv ct),osl⟩)(t:K.lookup T=some ⟨tc,td,.seq dds.toArray n,tsl⟩)(c:W.codeIn K cdv x=true)(k:W.keepIn K (.ref f)=true):DefAtD K mg x st dds:=⟨f,T,_,n,oc,od,kV,doc,pm,an,cdv,ct,osl,W.mg_of KX G a,t,rfl,l,c,k⟩
theorem He{P:J_}{w:QN}{K:W.Frag}{mg:Str->Option c_}{x p:Str}{st:Stmt}{k:Nat}{F:List D->Res D}{fa:Addr}(hfa:mg x=some (.ref fa))(A:DefAt K mg x st)(hb:∀(kV doc pm:c_)(an:Option Addr)(cdv ct:c_)(us:List c_),us.length=[p].length->VH (W.fnOf x x (ig st) (eU st) (az st) .none kV doc pm an cdv ct) ⟨us,[]⟩=pure ([p].zip us))(C:∀(f:Addr)(fd:RM),Fun K x x st f fd->∀base:Heap,FnOk P w K mg base bR k f fd [p] (jo K false [.sh] F)):∃fd:RM,(∀(s:k_)(u:c_),VS s fd ⟨[u],[]⟩ [(p,u)])/\∀base:Heap,K.In base->base.Ns Ri mg->FnOk P w K mg base bR k fa fd [p] (jo K false [.sh] F):=by obtain⟨f,fd,h1,Fn⟩:=A.ex;rw[hfa]at h1;cases h1;refine⟨fd,fun s u=>?_,fun base _ _=>C fa fd Fn base⟩;obtain⟨oc,od,kV,doc,pm,an,cdv,ct,osl,rfl,lk,hcd⟩:=Fn.ex;exact .of_eq (hb kV doc pm an cdv ct [u] rfl)
theorem Hd{l:W.OpenLaw}{k:Nat}{q:J_}{loose:List Str}{XP:(Str->Option c_)->Heap->Prop}{YP:QN->Heap->Prop}{d:DefRec}{K:Params->W.Frag}{x:Str}{F:List D->Res D}(hn:l.most=some 63)(hdf:d.params.defaults=[])(hr:Room k Vp)(hY:∀(w:QN)(h:Heap),YP w h->(K w.params).In h)(hF:∀ns:List Int,ns.length<=63->F [.lst (ns.map .int)]=.ok (.bl true))(C:∀(w:QN)(mg:Str->Option c_)(fa:Addr)(h:Heap),(K w.params).In h->h.Ns Ri mg->mg d.name=some (.ref fa) ->∃fd:RM,(∀(s:k_)(u:c_),VS s fd ⟨[u],[]⟩ [(x,u)])/\∀base:Heap,(K w.params).In base->base.Ns Ri mg->FnOk l.prog w (K w.params) mg base bR k fa fd [x] (jo (K w.params) false [.sh] F)):W.WalkO q loose XP YP l.row.toRowW d [] (fun f vs=>W_ f vs):=by
 refine L2.jU (n:=63) (k:=k) (x:=x) (CX:=fun _=>bR) (sp:=fun w=>jo (K w.params) false [.sh] F) hn (by decide) hdf hr hY C (fun w H a ns hl hO hS=>?_) fun _ _ _ _ _ z=>z;have intsP:∀(l:List Int),Paired Scl (l.map V.int) (l.map D.int):=fun l=>by induction l with
 |nil=>exact .nil
 |cons i l ih=>exact .cons (.int i) ih
 rcases hS with hS|hS
 .refine⟨fun b=>if b=a then some (.lst (ns.map D.int))else none,[.lst (ns.map .int)],fun b d' hb=>?_,.sh (.ref (if_pos rfl)) .nil,?_⟩
  .by_cases e:b=a
   .subst e;have hb':some (D.lst (ns.map D.int))=some d':=(if_pos rfl).symm.trans hb;cases hb';exact .lst hS (Paired.mono (fun _ _ z=>.scl z) (intsP ns))
   .have hb':(none:Option D)=some d':=(if_neg e).symm.trans hb;cases hb'
  .rw[hF ns hl];intro v G' H' w' rv;exact rv.bl w'.ok
 .refine⟨fun _=>none,[.lst (ns.map .int)],fun b d' hb=>(by cases hb),.sh (.kc (.lst (.inr hS) (intsP ns))) .nil,?_⟩;rw[hF ns hl];intro v G' H' w' rv;exact rv.bl w'.ok
section
open AutoSeq1 (wpAny_loadPart')
section
variable{prog:J_}{w:QN}{A:Q9}{E:c_->k_->Prop}{s:k_}
theorem Qh{it t:Addr}{i:Nat}{items}{x:c_}{Q:c_->k_->Prop}(hit:s.heap.IsTupleIter it t i)(ht:s.heap.IsTuple t items)(hx:items[i]? = some x)(hQ:∀h',h'.IsTupleIter it t (i+1)->Vh it s.heap h'->Q x { s with heap:=h' }):I_ (QE prog w) A (Q4 (.ref it)) Q E s:=by
 obtain⟨o,ho,hc,hd⟩:=id hit;obtain⟨ol,hol,_,nl,hdl⟩:=ht;unfold Q4;refine f_ (RU (name:=Ut "__next__") hit.typeIs F.slot_tuple_iterator_next
  (SU F.slot_tuple_iterator_next hit.typeIs F.entry_tuple_iterator_next ?_ (F.args_tuple_iterator_next_1 _)))
 show I_ _ _ (Xd (.ref it) 0 >>= _) _ _ s;refine f_ (Ro ho hd (x:=.ref t) rfl ?_);show I_ _ _ (if (Value.ref t==Value.none)=true then _ else _) _ _ s;rw[if_neg (show ¬ ((Value.ref t==Value.none)=true)from g_)];show I_ _ _ (Xd (.ref it) 1 >>= _) _ _ s;refine f_ (Ro ho hd (x:=.int i 0) rfl ?_);show I_ _ _ (X7 (.ref t) >>= _) _ _ s;refine f_ (Sd hol hdl ?_);simp only[Ry,hx];refine f_ (wpAny_setField ho hd (by simp) (E_ ⟨x,rfl,E_ (hQ _ ?_ (Uq ..))⟩));exact⟨_,VE _ ho (Obj.isFreed_of_fields (V_ hd _)),(Obj.cls_mapFields ..).trans hc,by rw[V_ hd];simp[Vj]⟩
theorem P8{it t:Addr}{i:Nat}{items}{Q:c_->k_->Prop}(hh:A.handled=none)(hit:s.heap.IsTupleIter it t i)(ht:s.heap.IsTuple t items)(hx:items[i]? = none)(hE:∀h' e,Yi it s.heap h'->(∃o,h'.get? e=some o/\o.cls=.type "StopIteration")->E (.ref e) { s with heap:=h' }):I_ (QE prog w) A (Q4 (.ref it)) Q E s:=by
 obtain⟨o,ho,hc,hd⟩:=id hit;obtain⟨ol,hol,_,nl,hdl⟩:=ht;unfold Q4;refine f_ (RU (name:=Ut "__next__") hit.typeIs F.slot_tuple_iterator_next
  (SU F.slot_tuple_iterator_next hit.typeIs F.entry_tuple_iterator_next ?_ (F.args_tuple_iterator_next_1 _)))
 show I_ _ _ (Xd (.ref it) 0 >>= _) _ _ s;refine f_ (Ro ho hd (x:=.ref t) rfl ?_);show I_ _ _ (if (Value.ref t==Value.none)=true then _ else _) _ _ s;rw[if_neg (show ¬ ((Value.ref t==Value.none)=true)from g_)];show I_ _ _ (Xd (.ref it) 1 >>= _) _ _ s;refine f_ (Ro ho hd (x:=.int i 0) rfl ?_);show I_ _ _ (X7 (.ref t) >>= _) _ _ s;refine f_ (Sd hol hdl ?_);simp only[Ry,hx];refine f_ (Xe (f_ (wpAny_setField ho hd (by simp) ?_)));show I_ _ _ (newExc (.type "StopIteration") [] >>= _) _ _ _;refine f_ ?_;simp only[newExc,newTuple];refine f_ (RX ?_ (by size_fits));refine f_ (m:=firstArgMember _ _) (wpAny_of_eq (a:=Value.none) (by first|rfl|(simp only[firstArgMember];rfl)) ?_);refine RX ?_ (by size_fits);simp only[raiseNew];refine f_ (wpAny_handled ?_)
 first|rw[show A.in1.handled=none from hh]|rw[hh]
 refine f_ (E_ (wpAny_throw ?_));exact hE _ _ (((Uq ..).extBut.push _).push _) ⟨_,B_ _ rfl,rfl⟩
end
theorem uB{prog:J_}{w:QN}{A:Q9}(hh:A.handled=none)(it l:Addr)(hne:l≠it)(items:Array c_):V0 prog w A it [it,l] items.size (fun i v=>items[i]? = some v) (fun i h=>h.IsTupleIter it l i/\h.IsTuple l items) where
 live:=fun _ _ st=>let⟨o,ho,_⟩:=st.1;⟨o,ho⟩
 frame:=fun _ _ _ st hk=>⟨let⟨o,ho,r⟩:=st.1;⟨o,hk it (by simp) o ho,r⟩,let⟨o,ho,r⟩:=st.2;⟨o,hk l (by simp) o ho,r⟩⟩
 item:=fun i s Q E hi st hQ=>by refine Qh st.1 st.2 (x:=items[i]) (by simp[hi]) fun h' hit' hs'=>?_;exact hQ _ h' s.toks (by simp[hi]) ⟨hit',st.2.extBut hs'.extBut hne⟩ hs'
 done:=fun s Q E st hE=>P8 hh st.1 st.2 (by simp) hE
theorem Qg(l:Addr)(items:Array c_)(n:Nat)(dct:Option Addr)(sl:Array (Option c_)) :
  X4 (Uc.«enumerate.__new__» ⟨[.type "enumerate",.ref l],[]⟩) (fun _ R s=>s.heap.get? l=some { cls:=.type "tuple",dict:=dct,data:=.seq items n,slots:=sl } /\
   R (.ok (.ret (.ref (s.heap.push { cls:=.type "tuple_iterator",data:=.fields #[.ref l,.int 0 0] }).objs.size)))
    { s with heap:=(s.heap.push { cls:=.type "tuple_iterator",data:=.fields #[.ref l,.int 0 0] }).push { cls:=.type "enumerate",data:=.fields #[.none,.bool false,.ref s.heap.objs.size,Vj 0,.none,.none] } }):=
 .of_wp fun prog w A R s h=>by
  obtain⟨hp,g,d,tk,os⟩:=s;obtain⟨hl,h⟩:=h;have hsub:=sub_enumerate;have hL:Ux (SY ⟨hp,g,d,tk,os⟩) l items:=⟨_,hl,rfl,n,rfl⟩
  wp_walk using RZ hl
  refine wpAny_stack_any fun st=>E_ ?_;split
  .rename_i c _ _ _ _ _;cases(c==Value.type "enumerate")
   .wp_walk using RZ hl,Ru hL
    exact⟨_,rfl,h⟩
   .wp_walk using RZ hl,Ru hL
    exact⟨_,rfl,h⟩
  .wp_walk using RZ hl,Ru hL
   exact⟨_,rfl,h⟩
section
variable{prog:J_}{w:QN}{A:Q9}{E:c_->k_->Prop}{s:k_}
theorem PV{l:Addr}{items:Array c_}{Q:c_->k_->Prop}(hL:s.heap.IsTuple l items)(h:∀h',IsEnum h' (s.heap.objs.size+1) s.heap.objs.size 0 .none->h'.IsTupleIter s.heap.objs.size l 0->h'.objs.size=s.heap.objs.size+2 ->(∀b o,s.heap.get? b=some o->h'.get? b=some o)->Q (.ref (s.heap.objs.size+1)) { s with heap:=h' }):I_ (QE prog w) A (call (.type "enumerate") [.ref l]) Q E s:=by
 obtain⟨⟨c,dct,dt,sl⟩,hl,hc,n,hd⟩:=hL;replace hc:c=.type "tuple" := hc;replace hd:dt=.seq items n:=hd;subst hc hd;refine Uy F.called_enumerate (by decide) (F.typeCall_enumerate_1 _) (F.newCall_enumerate_1 _) (fun obj=>F.args_object_init_2 obj _) F.entry_enumerate_new
  (Qg l items n dct sl) ⟨hl,?_⟩
 have hz:(s.heap.push { cls:=.type "tuple_iterator",data:=.fields #[.ref l,.int 0 0] }).objs.size=s.heap.objs.size+1:=Sc ..;show _/\_;rw[hz];have he:IsEnum ((s.heap.push { cls:=.type "tuple_iterator",data:=.fields #[.ref l,.int 0 0] }).push
   { cls:=.type "enumerate",data:=.fields #[.none,.bool false,.ref s.heap.objs.size,Vj 0,.none,.none] }) (s.heap.objs.size+1) s.heap.objs.size 0 .none:=by
  have:=B_ (s.heap.push { cls:=.type "tuple_iterator",data:=.fields #[.ref l,.int 0 0] })
   (o:={ cls:=.type "enumerate",data:=.fields #[.none,.bool false,.ref s.heap.objs.size,Vj 0,.none,.none] }) rfl
  rw[hz]at this;exact this
 refine⟨⟨_,he,rfl⟩,h _ he ⟨_,h_ _ (B_ _ rfl),rfl,rfl⟩ (by rw[Sc,hz]) fun b o x=>h_ _ (h_ _ x)⟩
end
theorem wH{X:Cx}{pz:List (Addr×Obj)}{σ:L2.St}{H:Hp}{s:k_}{h':Heap}{ch:List Addr}{T:Addr}{o:HO}{t':Nat}(I:Inv X pz σ H s)(hch:∀b∈ch,c0 X pz H b)(k:∀b ob,b∉ch->s.heap.get? b=some ob->h'.get? b=some ob)(hT:s.heap.objs.size<=T)(new:bG X.prog X.w (upd H T o) h' T o):Inv X pz σ (upd H T o) { s with heap:=h',toks:=t' }:=by
 have hTn:H T=none:=I.hok.fresh hT;have trk:∀b u,H b=some u->b∉ch:=fun b u e hb=>by rw[(hch b hb).1]at e;cases e
 have neT:∀b ob,s.heap.get? b=some ob->b≠T:=fun b ob e=>QM (C_ (A_ e) hT);have keepU:∀b u,H b=some u->upd H T o b=some u:=fun b u e=>by rw[bn (k6 e hTn)];exact e
 refine I.step (g':=s.gens) (d':=s.drawn) (ch:=ch) (fun b hb=>?_) (fun b ob _ _ hc e _=>k b ob hc e) (fun b ob _ _ hc e _=>⟨ob.slots,k b ob hc e⟩) (fun b ob hc e n=>by rw[bn (neT b ob e)];exact n)
  (fun b ob hc e=>⟨ob,k b ob hc e⟩) (fun b xs e=>keepU b _ e) (fun b ob u e=>keepU b _ e) (fun b ps e=>⟨#[],by rw[keepU b _ e];simp⟩) (fun m hm=>?_) (fun b u e=>?_) I.bare
 .obtain⟨z0,z1,z2,z3,z4,z5⟩:=hch b hb;exact⟨z3,z1,z4,z5⟩
 .obtain⟨ob,es,ep,ho,r⟩:=hm;exact⟨ob,es,ep,k _ ob (fun hb=>(hch _ hb).2.1 rfl) ho,r⟩
 .by_cases hb:b=T
  .subst hb;rw[ca]at e;cases e;exact new
  .rw[bn hb]at e;refine(I.hok b u e).stay (fun c v hc q=>k c v ?_ q) (fun c q=>keepU c _ q) fun c xs q=>keepU c _ q;rcases hc with z|z
   .rw[z];exact trk b u e
   .exact trk c _ z
def mo(sq:Hp->List V->Prop):It:=⟨fun i H=>∃xs x,sq H xs/\xs[i]? = some x,fun i H x H'=>∃p v,H p=none/\x=.ref p/\H'=upd H p (.tup [.int i,v])/\∀xs,sq H xs->xs[i]? = some v,fun i H=>∃xs,sq H xs/\xs.length=i⟩
theorem C1{P:J_}{w:QN}{H:Hp}{h:Heap}{T:Addr}{i:Nat}{tk:Tok}{x:c_}{v:V}(hT:h.get? T=some { cls:=.type "tuple",data:=.seq #[.int i tk,x] })(r:L2.av v x):bG P w H h T (.tup [.int i,v]):=⟨by show 2<=sizeLine;decide,[.int i tk,x],.cons ⟨tk,rfl⟩ (.cons r .nil),⟨_,hT,rfl,0,rfl⟩,_,hT,rfl⟩
theorem OF{P:J_}{w:QN}{K:W.Frag}{elts:List Expr}{k:Nat}{pos:Pos}(a it e:Addr)(hei:e≠it):Turn P w K (.Tuple elts k pos) (mo fun H xs=>aY K H a xs) [e,it] e (fun i h=>(∃old,IsEnum h e it i old)/\h.IsListIter it a i) where
 mem:=by simp
 obj:=fun i h st b hb=>by
  obtain⟨⟨old,he⟩,o,ho,hc,hd⟩:=st;rcases w_.mp hb with rfl|hb
  .exact⟨_,he,fun v z=>by have z':Data.fields _=Data.cell v:=z;cases z'⟩
  .rw[D_.mp hb];exact⟨o,ho,fun v z=>by rw[hd]at z;cases z⟩
 keep:=fun i h h' st kk=>by obtain⟨⟨old,he⟩,hi⟩:=st;exact⟨⟨old,kk e (by simp) _ he⟩,hi.at fun o q=>kk it (by simp) o q⟩
 item:=by
  intro X hP hw hK hc i pz s σ H E I hf st hg;subst hP hw hK;obtain⟨xs,x,hq,hx⟩:=hg;obtain⟨its,rv,p,hz⟩:=I.list hq;obtain⟨⟨old,he⟩,hi⟩:=st;obtain⟨o1,ho1,hc1,hd1⟩:=id hi;obtain⟨o2,ho2,hc2,_⟩:=id p.isList;have hai:a≠it:=by rintro rfl;rw[ho1]at ho2;cases ho2;rw[hc1]at hc2;exact absurd hc2 (by decide)
  have hea:e≠a:=by rintro rfl;rw[he]at ho2;cases ho2;exact absurd (show Value.type "enumerate" = _ from hc2) (by decide)
  have hlt:i<its.toArray.size:=by have:=(e_.mp hx).1;rw[o_,<-rv.length];exact this
  refine U9 (Xf (A:=X.A.in1) (show X.A.in1.handled=none from I.ok.hd hc) it a hai its.toArray) he ⟨hi,p.isList⟩ hlt hei (by simp[hei,hea]) fun y h' tk hP ho hs' hT hsz hk=>?_;refine⟨_,rfl,UL ho fun h'' he'' hs''=>?_⟩;obtain⟨u,hu,ru⟩:=rv.get hx;have hy:y=u:=by
   have:its[i]? = some y:=by simpa using hP
   rw[hu]at this;exact(K_ this).symm
  subst hy;have hTe:s.heap.objs.size≠e:=RK (A_ he);have hT'':h''.get? s.heap.objs.size=some { cls:=.type "tuple",data:=.seq #[.int i tk,y] }:=(hs''.2 _ hTe).trans hT;refine⟨.ref s.heap.objs.size,upd H s.heap.objs.size (.tup [.int i,x]),wH (s:=s) (h':=h'') (t':=tk+1) (ch:=[e,it]) I hf (fun b ob hb q=>?_) (q_ _) (C1 hT'' ru),rfl,⟨_,x,I.hok.fresh (q_ _),rfl,rfl,fun ys hy=>by rw[I.list_inj hy hq];exact hx⟩,⟨⟨_,by simpa using he''⟩,hs'.1.extBut hs''.extBut (S0 hei)⟩,fun b hb=>?_⟩
  .have hbe:b≠e:=fun z=>hb (by simp[z]);exact(hs''.2 b hbe).trans (hk b ob hbe (fun z=>hb (by simp[z])) q)
  .rw[bn ?_]
   .exact(hf b hb).1
   .rcases w_.mp hb with rfl|hb
    .exact QM (A_ he)
    .rw[D_.mp hb];exact QM (A_ ho1)
 done:=by
  intro X hP hw hK hc i pz s σ H E I hf st hg;subst hP hw hK;obtain⟨xs,hq,hx⟩:=hg;obtain⟨its,rv,p,hz⟩:=I.list hq;obtain⟨⟨old,he⟩,hi⟩:=st;obtain⟨o1,ho1,hc1,hd1⟩:=id hi;obtain⟨o2,ho2,hc2,_⟩:=id p.isList;have hai:a≠it:=by rintro rfl;rw[ho1]at ho2;cases ho2;rw[hc1]at hc2;exact absurd hc2 (by decide)
  obtain⟨f0,f1,f2,f3,f4,f5⟩:=hf it (by simp);have hn:its.toArray.size=i:=by rw[o_,<-rv.length];exact hx
  refine Vs (Xf (A:=X.A.in1) (show X.A.in1.handled=none from I.ok.hd hc) it a hai its.toArray) he ⟨by rw[hn];exact hi,p.isList⟩ fun h' eb=>⟨rfl,I.turned (t':=s.toks) (fun b o hb q=>eb b o hb q) f0 f1 f3 f4 f5⟩
 self:=fun _ _ _ _ _ st h=>let⟨⟨_,he⟩,_⟩:=st;TY he h
theorem IsTupleIter.at'{h h':Heap}{a t:Addr}{i:Nat}(x:h.IsTupleIter a t i)(hs:∀o,h.get? a=some o->h'.get? a=some o):h'.IsTupleIter a t i:=let⟨o,ho,r⟩:=x;⟨o,hs o ho,r⟩
theorem OG{P:J_}{w:QN}{K:W.Frag}{elts:List Expr}{k:Nat}{pos:Pos}(a it e:Addr)(hei:e≠it):Turn P w K (.Tuple elts k pos) (mo fun H xs=>ce K H a xs) [e,it] e (fun i h=>(∃old,IsEnum h e it i old)/\h.IsTupleIter it a i) where
 mem:=by simp
 obj:=fun i h st b hb=>by
  obtain⟨⟨old,he⟩,o,ho,hc,hd⟩:=st;rcases w_.mp hb with rfl|hb
  .exact⟨_,he,fun v z=>by have z':Data.fields _=Data.cell v:=z;cases z'⟩
  .rw[D_.mp hb];exact⟨o,ho,fun v z=>by rw[hd]at z;cases z⟩
 keep:=fun i h h' st kk=>by obtain⟨⟨old,he⟩,hi⟩:=st;exact⟨⟨old,kk e (by simp) _ he⟩,IsTupleIter.at' hi fun o q=>kk it (by simp) o q⟩
 item:=by
  intro X hP hw hK hc i pz s σ H E I hf st hg;subst hP hw hK;obtain⟨xs,x,hq,hx⟩:=hg;obtain⟨its,rv,p,hz⟩:=I.tuple hq;obtain⟨⟨old,he⟩,hi⟩:=st;obtain⟨o1,ho1,hc1,hd1⟩:=id hi;obtain⟨o2,ho2,hc2,_⟩:=id p;have hai:a≠it:=by rintro rfl;rw[ho1]at ho2;cases ho2;rw[hc1]at hc2;exact absurd hc2 (by decide)
  have hea:e≠a:=by rintro rfl;rw[he]at ho2;cases ho2;exact absurd (show Value.type "enumerate" = _ from hc2) (by decide)
  have hlt:i<its.toArray.size:=by have:=(e_.mp hx).1;rw[o_,<-rv.length];exact this
  refine U9 (uB (A:=X.A.in1) (show X.A.in1.handled=none from I.ok.hd hc) it a hai its.toArray) he ⟨hi,p⟩ hlt hei (by simp[hei,hea]) fun y h' tk hP ho hs' hT hsz hk=>?_;refine⟨_,rfl,UL ho fun h'' he'' hs''=>?_⟩;obtain⟨u,hu,ru⟩:=rv.get hx;have hy:y=u:=by
   have:its[i]? = some y:=by simpa using hP
   rw[hu]at this;exact(K_ this).symm
  subst hy;have hTe:s.heap.objs.size≠e:=RK (A_ he);have hT'':h''.get? s.heap.objs.size=some { cls:=.type "tuple",data:=.seq #[.int i tk,y] }:=(hs''.2 _ hTe).trans hT;refine⟨.ref s.heap.objs.size,upd H s.heap.objs.size (.tup [.int i,x]),wH (s:=s) (h':=h'') (t':=tk+1) (ch:=[e,it]) I hf (fun b ob hb q=>?_) (q_ _) (C1 hT'' ru),rfl,⟨_,x,I.hok.fresh (q_ _),rfl,rfl,fun ys hy=>by rw[I.tuple_inj hy hq];exact hx⟩,⟨⟨_,by simpa using he''⟩,hs'.1.extBut hs''.extBut (S0 hei)⟩,fun b hb=>?_⟩
  .have hbe:b≠e:=fun z=>hb (by simp[z]);exact(hs''.2 b hbe).trans (hk b ob hbe (fun z=>hb (by simp[z])) q)
  .rw[bn ?_]
   .exact(hf b hb).1
   .rcases w_.mp hb with rfl|hb
    .exact QM (A_ he)
    .rw[D_.mp hb];exact QM (A_ ho1)
 done:=by
  intro X hP hw hK hc i pz s σ H E I hf st hg;subst hP hw hK;obtain⟨xs,hq,hx⟩:=hg;obtain⟨its,rv,p,hz⟩:=I.tuple hq;obtain⟨⟨old,he⟩,hi⟩:=st;obtain⟨o1,ho1,hc1,hd1⟩:=id hi;obtain⟨o2,ho2,hc2,_⟩:=id p;have hai:a≠it:=by rintro rfl;rw[ho1]at ho2;cases ho2;rw[hc1]at hc2;exact absurd hc2 (by decide)
  obtain⟨f0,f1,f2,f3,f4,f5⟩:=hf it (by simp);have hn:its.toArray.size=i:=by rw[o_,<-rv.length];exact hx
  refine Vs (uB (A:=X.A.in1) (show X.A.in1.handled=none from I.ok.hd hc) it a hai its.toArray) he ⟨by rw[hn];exact hi,p⟩ fun h' eb=>⟨rfl,I.turned (t':=s.toks) (fun b o hb q=>eb b o hb q) f0 f1 f3 f4 f5⟩
 self:=fun _ _ _ _ _ st h=>let⟨⟨_,he⟩,_⟩:=st;TY he h
end
def lP:D->Option String
|.non=>some "NoneType"
|.bl _=>some "bool"
|.int _=>some "int"
|.str _=>some "str"
|.tup _=>some "tuple"
|.lst _=>some "list"
|.dic _=>some "dict"
|.obj _ _=>none
def gN(t T:String):Bool:=t==T || (t == "bool" && T == "int")
def kb(T:String)(d:D):Option D:=(lP d).map fun t=>.bl (gN t T)
def Gx(K:W.Frag)(x:V)(H:Hp)(t:String):Prop:=match x with
|.non=>t = "NoneType"
|.bl _=>t = "bool"
|.int _=>t = "int"
|.str _=>t = "str"
|.ref p=>(t = "list"/\∃xs,aY K H p xs)\/(t = "tuple"/\∃xs,ce K H p xs)\/(t = "dict"/\∃kvs,Rd H p (.dK kvs))
|_=>False
theorem JI{K:W.Frag}{G:GH}{H:Hp}{v:V}{d:D}{t:String}(gk:aN K G H)(h:RB K G H v d)(e:lP d=some t):Gx K v H t:=by cases d with
|non=>cases e;rw[h.non gk];rfl
|bl b=>cases e;rw[h.bl gk];rfl
|int i=>cases e;rw[h.int gk];rfl
|str x=>cases e;rw[h.str gk];rfl
|tup ds=>cases e;obtain⟨a,xs,rfl,s,r⟩:=h.tup gk;exact .inr (.inl ⟨rfl,xs,s⟩)
|lst ds=>cases e;obtain⟨a,xs,rfl,s,r⟩:=h.lst gk;exact .inl ⟨rfl,xs,s⟩
|dic ds=>cases e;obtain⟨a,xs,rfl,s,r⟩:=h.dic gk;exact .inr (.inr ⟨rfl,xs,s⟩)
|obj _ _=>cases e
section
variable{X:Cx}{g:GE}{m:List Md}{e a:Expr}{f:FE}{pos p p2:Pos}
theorem MD:dZ X (.builtin "isinstance") (fun xs H Q=>∃x t T b,xs=[x,.ty T]/\Gx X.K x H t/\W.kitOne X.K (.type t) (.type T)=some b/\Q (.bl b) H):=by
 intro pz s σ H xs us Q I r h;obtain⟨x,t,T,b,rfl,ty,e,q⟩:=h;obtain⟨u,w',rfl,rx,ry⟩:=Bc r;cases ry;have fin:∀tk,EP X pz σ Q (.bool b) { s with toks:=tk }:=fun tk=>⟨.bl b,H,I.tok tk,rfl,q⟩
 cases x with
|non=>cases rx;cases(show t = "NoneType" from ty);exact W.kia_one W.kitx_none I.kIn True.intro e (fun z=>nomatch z) fin
|bl y=>cases rx;cases(show t = "bool" from ty);exact W.kia_one W.kitx_bool I.kIn True.intro e (fun z=>nomatch z) fin
|int i=>obtain⟨t,rfl⟩:=rx;cases ty;exact W.kia_one W.kitx_int I.kIn True.intro e (fun z=>nomatch z) fin
|str i=>obtain⟨t,rfl⟩:=rx;cases ty;exact W.kia_one W.kitx_str I.kIn True.intro e (fun z=>nomatch z) fin
|ref p=>
  cases rx;rcases ty with⟨rfl,xs,hq⟩|⟨rfl,xs,hq⟩|⟨rfl,kvs,hq⟩
  .obtain⟨its,_,pl,_⟩:=I.list hq;obtain⟨o,ho,hc,_⟩:=pl.isList;exact W.kia_one W.kitx_list I.kIn ⟨o,ho,hc⟩ e (fun z=>nomatch z) fin
  .obtain⟨its,_,pl,_⟩:=I.tuple hq;obtain⟨o,ho,hc,_⟩:=pl;exact W.kia_one W.kitx_tuple I.kIn ⟨o,ho,hc⟩ e (fun z=>nomatch z) fin
  .obtain⟨_,_,vs,_,pp⟩:=(show bG X.prog X.w H s.heap p (.dK kvs)from hq.ok I.hok)
   obtain⟨o,es,ep,h1,h2,_⟩:=pp;exact W.kia_one W.kitx_dict I.kIn ⟨o,h1,h2.1⟩ e (fun z=>nomatch z) fin
|_=>exact(show False from ty).elim
theorem A9(x:Str)(T:String)(hv:To x=some (.type T))(hk:∀(d:D)(t:String),lP d=some t->W.kitOne X.K (.type t) (.type T)=some (gN t T))(hg:Gl X "isinstance")(hm:X.mg "isinstance" = none)(hgT:Gl X x)(hmT:X.mg x=none)(he:SB X g m e f)(hn:x≠"__name__" := by decide)(hd:(x==("__debug__" : Str))=false:=by decide)(hs1:s_ [e,.Name x p2] X.env=(false,eval e X.env)::s_ [.Name x p2] X.env:=by rfl)(hs2:s_ [.Name x p2] X.env=(false,eval (.Name x p2) X.env)::s_ [] X.env:=by rfl)(hpl:(backTo pos (s_ [.Name x p2] X.env)).any (·.1)=false:=by rfl):SE X g m (.Call (.Name "isinstance" p) [e,.Name x p2] [] pos) (f1 f (kb T)):=by
 refine PE.imp (lG MD hg hm (by first|exact WT|rfl) (iy he (iy (Lq (v:=.ty T) hgT hmT hv rfl hn hd) kF hs2) hs1) (by decide) (by decide) hs1 hpl) fun σ H Q ⟨r,G,si,q⟩=>⟨r,G,si,bg (ba q) fun d q1 v G1 H1 w1 r1=>?_⟩
 obtain⟨d',e',q2⟩:=cD q1;unfold kb at e';cases et:lP d with
|none=>rw[et]at e';cases e'
|some t=>rw[et]at e';cases e';exact⟨v,t,T,_,rfl,JI w1.ok r1 et,hk d t et,q2 _ G1 H1 w1 (.scl (.bl _))⟩
end
theorem Ex{d:D}{t:String}(h:lP d=some t){P:String->Prop}(h1:P "NoneType")(h2:P "bool")(h3:P "int")(h4:P "str")(h5:P "tuple")(h6:P "list")(h7:P "dict"):P t:=by cases d <;> cases h <;> assumption
theorem J9(K:W.Frag)(d:D)(t:String)(h:lP d=some t):W.kitOne K (.type t) (.type "int")=some (gN t "int"):=Ex (P:=fun t=>W.kitOne K (.type t) (.type "int")=some (gN t "int")) h (by kernel_rfl) (by kernel_rfl) (by kernel_rfl) (by kernel_rfl) (by kernel_rfl) (by kernel_rfl) (by kernel_rfl)
theorem Mf(K:W.Frag)(d:D)(t:String)(h:lP d=some t):W.kitOne K (.type t) (.type "bool")=some (gN t "bool"):=Ex (P:=fun t=>W.kitOne K (.type t) (.type "bool")=some (gN t "bool")) h (by kernel_rfl) (by kernel_rfl) (by kernel_rfl) (by kernel_rfl) (by kernel_rfl) (by kernel_rfl) (by kernel_rfl)
section
variable{X:Cx}{g:GE}{m:List Md}{e a b:Expr}{f fa:FE}{pos p pos2 p2:Pos}{es:List Expr}{fl:ao->Res (List D)}
def dQ(lo:Int)(n:Nat):List V:=(a_ n).map fun(i:Nat)=>V.int (lo+(i:Int))
theorem JR{K:W.Frag}{G:GH}(lo:Int)(n:Nat):bC K G (dQ lo n) (dc lo n):=by
 unfold dQ dc
 induction(a_ n)with
|nil=>exact .nil
|cons i l ih=>exact .cons (.scl (.int _)) ih
theorem yX:∀{xs:List V}{us:List c_},xs.length=us.length->(∀(j:Nat) v u,xs[j]? = some v->us[j]? = some u->L2.av v u)->aq xs us
|[],[],_,_=>.nil
|v::xs,u::us,hl,h=>.cons (h 0 v u rfl rfl) (yX (by simpa using hl) fun j a b e1 e2=>h (j+1) a b (by simpa using e1) (by simpa using e2))
|[],_::_,hl,_=>by simp at hl
|_::_,[],hl,_=>by simp at hl
theorem Nc{lo:Int}{n:Nat}{acc:Array c_}(h:ItemsOf (fun i v=>∃t,v=.int (lo+i*1) t) acc n):aq (dQ lo n) acc.toList:=by
 refine yX (by simp[dQ,h.1]) fun j v u e1 e2=>?_;have hj:j<n:=by have:=(e_.mp e1).1;simpa[dQ]using this
 unfold dQ at e1;rw[t_,QH hj]at e1;cases e1;obtain⟨t,rfl⟩:=h.2 j u (by rw[<-Tf];exact e2);exact⟨t,by simp⟩
theorem M8:dZ X (.type "range") (fun xs H Q=>∃j,xs=[.int j]/\∀p,H p=none->Q (.ref p) (upd H p (.rng 0 j))):=by intro pz s σ H xs us Q I r h;obtain⟨j,rfl,q⟩:=h;obtain⟨u,rfl,t,rfl⟩:=fG r;refine call_range_1 ⟨.ref s.heap.objs.size,_,I.laid (o:=.rng 0 j) (fun b o e=>h_ _ e) (q_ _) ⟨_,_,_,B_ _ rfl⟩,rfl,q _ (I.hok.fresh (q_ _))⟩
theorem PR(hc:X.calm=true):dZ X (.type "list") (fun xs H Q=>∃p lo hi,xs=[.ref p]/\H p=some (.rng lo hi)/\(-(2^62)<=lo/\lo<2^62/\-(2^62)<=hi/\hi<2^62)/\(hi-lo).toNat<=sizeLine/\∀l,H l=none->Q (.ref l) (upd H l (.lst (dQ lo (hi-lo).toNat)))):=by
 intro pz s σ H xs us Q I r h;obtain⟨p,lo,hi,rfl,hp,⟨h1,h2,h3,h4⟩,hz,q⟩:=h;obtain⟨u,rfl,rx⟩:=fG r;cases rx;obtain⟨t,u,v,ho⟩:=(show bG X.prog X.w H s.heap p (.rng lo hi)from I.hok p _ hp)
 have e2:U7 lo hi 1=(((hi-lo).toNat:Nat):Int):=by rw[rangeSize_one];split <;> omega
 refine call_list_range (I.ok.hd hc) (r:=p) (a:=lo) (b:=hi) (c:=1) ho (small_one h1 h2 h3 h4) e2 (by rw[QZ]at hz;omega) fun h' tk acc c' kp hS hacc=>?_;refine⟨.ref s.heap.objs.size,_,I.laid (t':=tk) kp (q_ _) (show bG X.prog X.w _ h' _ (.lst (dQ lo (hi-lo).toNat))from⟨by unfold dQ;rw[m_,QR];exact hz,acc.toList,c',Nc hacc,by rw[VJ];exact hS⟩),rfl,q _ (I.hok.fresh (q_ _))⟩
def ku:List D->Option D
|[.int j]=>if-(2^62)<=j/\j<2^62/\j.toNat<=sizeLine then some (.lst (dc 0 j.toNat))else none
|_=>none
theorem BK{H:Hp}{p l:Addr}{o:HO}(h:upd H p o l=none):H l=none/\l≠p:=by
 by_cases e:l=p
 .subst e;rw[ca]at h;cases h
 .rw[bn e]at h;exact⟨h,e⟩
theorem qz(hc:X.calm=true)(hgl:Gl X "list")(hml:X.mg "list" = none)(hg:Gl X "range")(hm:X.mg "range" = none)(ha:gG X g m [a] fl)(hs:s_ [a] X.env=(false,eval a X.env)::s_ [] X.env:=by rfl)(hs2:s_ [.Call (.Name "range" p2) [a] [] pos2] X.env=(false,eval (.Call (.Name "range" p2) [a] [] pos2) X.env)::s_ [] X.env:=by rfl):SO X g m (.Call (.Name "list" p) [.Call (.Name "range" p2) [a] [] pos2] [] pos) (fC fl ku):=by
 refine PE.imp (ou (PR hc) hgl hml rfl (iy (ou M8 hg hm boot_range ha (by decide) (by decide) hs rfl) kF hs2) (by decide) (by decide) hs2 rfl) fun σ H Q ⟨r,G,si,q⟩=>⟨r,G,si,bg (ba q) fun ds q1 vs G1 H1 w1 rs=>?_⟩
 obtain⟨d,e,q2⟩:=cD q1;unfold ku at e;split at e
 .split at e
  .rename_i j hj;cases e;cases rs with
  |cons r1 t=>cases t;refine⟨j,by rw[r1.int w1.ok],fun p hp=>⟨p,0,j,rfl,ca,⟨by decide,by decide,hj.1,hj.2.1⟩,by simpa using hj.2.2,fun l hl=>?_⟩⟩;obtain⟨hl1,hl2⟩:=BK hl;have w2:=Grow.new w1.ok hp (.rng 0 j);have w3:=Grow.new w2.ok hl (.lst (dQ 0 (j-0).toNat));refine q2 l G1 _ (w1.trans (w2.trans w3)) (w1.back hl1) ⟨w1.ok.isN hl1,.lst ca ?_⟩;rw[show j-0=j by omega];exact JR 0 _
  .cases e
 .cases e
end
def Ag(K:W.Frag)(r:V->List V->Hp->VK->Prop)(k:D->List D->Option D):Prop:=∀(G:GH)(H:Hp)(v:V)(d:D)(vs:List V)(ds:List D)(d':D)(Q:VK),aN K G H->RB K G H v d->Paired (RB K G H) vs ds->k d ds=some d' ->(∀v' G' H',Grow K G H G' H'->RG K G' v' d'->Q v' H')->r v vs H Q
def sM(T:String):D->Bool
|.lst _=>T == "list"
|.tup _=>T == "tuple"
|.dic _=>T == "dict"
|.str _=>T == "str"
|.int _=>T == "int"
|_=>false
theorem KO{K:W.Frag}{G:GH}{H:Hp}{v:V}{d:D}{T:String}(gk:aN K G H)(h:RB K G H v d)(t:sM T d=true):nq K T v H:=by cases d with
|lst ds=>obtain⟨a,xs,rfl,s,r⟩:=h.lst gk;exact .inl ⟨Sn t,xs,s⟩
|tup ds=>
  have e:T = "tuple" := Sn t;rcases h with h|⟨a,rfl,o⟩
  .cases h with
  |scl s=>cases s
  |ref q=>cases gk _ _ q with
   |tup r s=>exact .inr (.inl ⟨e,.inr ⟨_,r⟩⟩)
  |kc k=>cases k with
   |tup r s z=>exact .inr (.inl ⟨e,.inl z⟩)
  .cases o.ob
|dic ds=>obtain⟨a,xs,rfl,s,r⟩:=h.dic gk;exact .inr (.inr (.inl ⟨Sn t,.inl ⟨xs,s⟩⟩))
|str x=>rw[h.str gk];exact Sn t
|int x=>rw[h.int gk];exact Sn t
|_=>cases t
def fM(T:String)(fo:FE)(fl:ao->Res (List D))(k:D->List D->Option D):FE:=fun r=>(fo r).bind fun d=>if sM T d=true then(fl r).bind fun ds=>bX (k d ds)else .stuck
section
variable{X:Cx}{g:GE}{m mb:List Md}{e a b o:Expr}{es:List Expr}{f fa fb fo:FE}{fl:ao->Res (List D)}{pos pos' apos cpos:Pos}{ro:Bool}{x name:Str}{T id:String}{R:V->List V->Hp->VK->Prop}{k:D->List D->Option D}
theorem j3(pa:V8 T)(slot:Slot T name id)(hty:typeOf (.builtin id)=pure (.type "method_descriptor"))(hmt:jw X id R)(hk:Ag X.K R k)(ho:SB X g m o fo)(ha:gG X g m (e::es) fl)(hbase:Tc o name X.env (eval o X.env)=eval o X.env:=by rfl)(hfew:((backTo cpos (s_ (e::es) X.env)).all (fun x=>! x.1)&&(Wk cpos (UT [] X.env)).all (fun x=>x.1.isSome)&&decide ((e::es).length+([]:List Ub).length+(if ([]:List Ub).isEmpty then 0 else 1)<30))=true:=by rfl)(hline:(apos.endLine==cpos.line)=true:=by rfl)(hst:s_ (e::es) X.env=(false,eval e X.env)::s_ es X.env:=by rfl)(hplain:(backTo cpos (s_ es X.env)).any (·.1)=false:=by rfl):SE X g m (.Call (.Attribute o name apos) (e::es) [] cpos) (fM T fo fl k):=by
 refine PE.imp (AF pa slot hty hmt ho ha hbase hfew hline hst hplain) fun σ H Q ⟨r,G,si,q⟩=>⟨r,G,si,bg (ba q) fun d q1 v G1 H1 w1 r1=>?_⟩
 by_cases ht:sM T d=true
 .rw[if_pos ht]at q1;refine⟨KO w1.ok r1 ht,r,G1,si.grow w1,fL (ba q1) w1 fun ds q2 vs G2 H2 w2 rs=>?_⟩;obtain⟨d',e',q3⟩:=cD q2;exact hk G2 H2 v d vs ds d' Q w2.ok (r1.mono w2) rs e' fun v' G' H' w' z=>q3 v' G' H' ((w1.trans w2).trans w') z
 .rw[if_neg ht]at q1;exact q1.elim
def jD(x:V):List V->Option Nat
|[]=>none
|y::xs=>if fw y x=true then some 0 else(jD x xs).map (· + 1)
def gI(x:D):List D->Option Nat
|[]=>none
|y::xs=>if eqs y x=true then some 0 else(gI x xs).map (· + 1)
theorem wF(x:D):∀ds:List D,jD (eu x) (ds.map eu)=gI x ds
|[]=>rfl
|y::ds=>by show(if fw (eu y) (eu x)=true then some 0 else(jD (eu x) (ds.map eu)).map (· + 1))=if eqs y x=true then some 0 else(gI x ds).map (· + 1);rw[wF x ds];rfl
theorem D7{x:V}{xs:List V}{us:List c_}{j:Nat}(h0:aq xs us)(f:xs.all d9=true)(h:jD x xs=some j):∃hj:j<us.length,c8 x us[j]=true/\∀i (hi:i<us.length),i<j->c8 x us[i]=false:=by induction h0 generalizing j with
|nil=>cases h
|@cons y u xs us r t ih=>
  rw[R9,QG]at f;unfold jD at h;by_cases hy:fw y x=true
  .rw[if_pos hy]at h;cases h;exact⟨Nat.zero_lt_succ _,by show c8 x u=true;rw[nQ r f.1];exact hy,fun i _ hlt=>absurd hlt (Nat.not_lt_zero _)⟩
  .rw[if_neg hy]at h;cases e:jD x xs with
  |none=>rw[e]at h;cases h
  |some z=>rw[e]at h;cases h;obtain⟨a,b,c⟩:=ih f.2 e;refine⟨Nat.succ_lt_succ a,b,fun i hi hlt=>?_⟩;cases i with
   |zero=>show c8 x u=false;rw[nQ r f.1];simpa using hy
   |succ i=>exact c i (Vt hi) (Vt hlt)
def C7(K:W.Frag):V->List V->Hp->VK->Prop:=fun x vs H Q=>∃p xs y j,x=.ref p/\vs=[y]/\aY K H p xs/\d9 y=true/\xs.all d9=true/\jD y xs=some j/\Q (.int j) H
theorem EH:jw X "list.index" (C7 X.K):=by
 intro pz s σ H x vs v us Q I rx rv h;obtain⟨p,xs,y,j,rfl,rfl,hq,fy,fx,e,q⟩:=h;cases rx;obtain⟨u,rfl,ru⟩:=fG rv;obtain⟨its,r,pl,hz⟩:=I.list hq;obtain⟨o,n,ho,hc,hd,hs⟩:=pl;obtain⟨a,b,c⟩:=D7 r fx e;have hl:=r.length;obtain⟨ocls,odict,odata,oslots⟩:=o;simp only at hc hd hs;subst hc hd hs;refine TH TU ⟨_,ho,rfl⟩ PySem.F.entry_list_index (PySem.F.args_list_index_2 _ _)
  (SeqAt.list_indexAt p its.toArray n none oslots u (c8 y) j (by simpa using a) (by rw[QZ]at hz;omega) (by simpa using b) (fun i hi hlt=>by simpa using c i (by simpa using hi) hlt)) ⟨ho,fun w hw=>lF ru fy r fx w (by simpa using hw),⟨.int j,H,I.tok _,⟨_,rfl⟩,q⟩⟩
def IP:D->List D->Option D
|.lst ds,[x]=>if bY x=true/\ds.all bY=true then(gI x ds).map fun j=>.int j else none
|.tup ds,[x]=>if bY x=true/\ds.all bY=true then(gI x ds).map fun j=>.int j else none
|_,_=>none
theorem OT{K:W.Frag}{G:GH}{H:Hp}{ds:List D}{xs:List V}{x d':D}{v:V}(gk:aN K G H)(rs:bC K G xs ds)(rx:RB K G H v x)(e:(if bY x=true/\ds.all bY=true then(gI x ds).map fun j=>D.int j else none)=some d'):∃j:Nat,d'=.int j/\d9 v=true/\xs.all d9=true/\jD v xs=some j:=by
 by_cases hc:bY x=true/\ds.all bY=true
 .rw[if_pos hc]at e;obtain⟨e1,f1⟩:=RB.flat rx gk hc.1;obtain⟨e3,f3⟩:=sW rs gk hc.2;cases ef:gI x ds with
 |none=>rw[ef]at e;cases e
 |some j=>rw[ef]at e;cases e;exact⟨j,rfl,f1,f3,by rw[e1,e3,wF];exact ef⟩
 .rw[if_neg hc]at e;cases e
def qv(d:D)(ds:List D):Option D:=match d with
|.lst _=>IP d ds
|_=>none
theorem ER{K:W.Frag}:Ag K (C7 K) qv:=by intro G H v d vs ds d' Q gk rv rs e q;cases d with
|lst zs=>cases ds with
 |nil=>cases e
 |cons x t=>cases t with
  |nil=>cases rs with
   |cons r1 rt=>cases rt;obtain⟨a,xs,rfl,s,r⟩:=rv.lst gk;obtain⟨j,rfl,h1,h2,h3⟩:=OT gk r r1 e;exact⟨a,xs,_,j,rfl,rfl,s,h1,h2,h3,q _ G H (Grow.refl gk) (.scl (.int _))⟩
  |cons _ _=>cases e
|_=>cases e
def ky(xs:List V):Bool:=xs.all fun x=>match x with|.int _=>true|_=>false
theorem O5{xs:List V}(h:ky xs=true):xs.all d9=true:=by unfold ky at h;rw[R_]at h ⊢;intro x hx;have:=h x hx;cases x <;> first|rfl|exact absurd this g_
theorem ED{k:Int}{t:Tok}:∀{xs:List V}{us:List c_},aq xs us->ky xs=true->∀u∈us,WA u (.int k t) (c8 (.int k) u)
|_,_,.nil,_=>fun u hu=>by cases hu
|y::xs,u::us,.cons r rt,f=>fun u' hu=>by unfold ky at f;rw[R9,QG]at f;cases y with
 |int i=>
   obtain⟨t',rfl⟩:=r;rcases w_.mp hu with rfl|hu
   .exact MeetsSeq.EqGives.int i k t' t
   .exact ED rt f.2 u' hu
 |_=>exact absurd f.1 g_
def AZ:V->List V->Hp->VK->Prop:=fun x vs H Q=>∃l xs k j,x=.ref l/\vs=[.int k]/\H l=some (.lst xs)/\ky xs=true/\jD (.int k) xs=some j/\Q .non (upd H l (.lst (xs.eraseIdx j)))
theorem NL:jw X "list.remove" AZ:=by
 intro pz s σ H x vs v us Q I rx rv h;obtain⟨l,xs,k,j,rfl,rfl,hH,hi,e,q⟩:=h;cases rx;obtain⟨u,rfl,t,rfl⟩:=fG rv;obtain⟨hz,its,n,r,hl,eo⟩:=I.lstM hH;obtain⟨a,b,c⟩:=D7 r (O5 hi) e;have geq:∀y,y∈its.toArray->WA y (.int k t) (c8 (.int k) y):=fun y hy=>ED r hi y (by simpa using hy);have hsz:its.toArray.size<=sizeLine:=by rw[o_];omega
 refine TH U2 ⟨_,eo,rfl⟩ PySem.F.entry_list_remove (PySem.F.args_list_remove_2 _ _) (MeetsSeq.list_remove l its.toArray n (.int k t) (c8 (.int k)) geq j (by simpa using a) (by simpa using b) (fun i hi hlt=>by simpa using c i (by simpa using hi) hlt) hsz) ⟨eo,?_⟩;refine⟨.non,_,I.lset (its':=its.eraseIdx j) hH eo ?_ ?_ ?_,rfl,q⟩
 .apply Array.toList_inj.mp;simp[Array.toList_eraseIdxIfInBounds]
 .exact aq.eraseIdx j r
 .have:=List.length_eraseIdx_le xs j;omega
def isInt:D->Bool
|.int _=>true
|_=>false
theorem IS{K:W.Frag}{G:GH}{H:Hp}{xs:List V}{ds:List D}(h:bC K G xs ds)(gk:aN K G H)(hf:ds.all isInt=true):ky xs=true/\xs=ds.map eu:=by induction h with
|nil=>exact⟨rfl,rfl⟩
|@cons x d xs ds r t ih=>rw[R9,QG]at hf;obtain⟨h1,h2⟩:=ih hf.2;cases d with
 |int i=>have e:=r.int gk;subst e;refine⟨?_,by rw[u_,<-h2];rfl⟩;show ky _=true;unfold ky at h1 ⊢;rw[R9,h1];rfl
 |_=>exact absurd hf.1 g_
def remD:D->List D->Option D
|.lst ds,[.int k]=>if ds.all isInt=true then(gI (.int k) ds).map fun j=>.lst (ds.eraseIdx j)else none
|_,_=>none
theorem JQ{K:W.Frag}:gu K AZ remD:=by
 intro G H a d vs ds d' Q gk ow rs e q;unfold remD at e;split at e
 .split at e
  .rename_i zs k hall;cases ef:gI (.int k) zs with
  |none=>rw[ef]at e;cases e
  |some j=>rw[ef]at e;cases e;cases ow.ob with
   |lst r s=>cases rs with
    |cons r1 t=>cases t;obtain⟨h1,h2⟩:=IS s gk hall;refine⟨a,_,k,j,rfl,by rw[r1.int gk],r,h1,?_,q _ (.lst ca (Paired.er j s))⟩;rw[h2];exact(wF (.int k) zs).trans ef
  .cases e
 .cases e
def nO(kvs more:List (aA×D)):List (aA×D):=more.foldl (fun acc kv=>cz acc kv.1 kv.2) kvs
theorem Ke{K:W.Frag}{G:GH}{more:List (aA×V)}{moreD:List (aA×D)}{ps:List (aA×V)}{kvs:List (aA×D)}(hm:c9 K G more moreD)(h:c9 K G ps kvs):c9 K G (kD ps more) (nO kvs moreD):=by induction hm generalizing ps kvs with
|nil=>exact h
|@cons p q m md r t ih=>have e:p.1=q.1:=r.1;show c9 K G (kD (bW ps p.1 p.2) _) (nO (cz kvs q.1 q.2) _);rw[e];exact ih (AV h r.2)
def C9:V->List V->Hp->VK->Prop:=fun x vs H Q=>∃d o kvs more,x=.ref d/\vs=[.ref o]/\d≠o/\H d=some (.dK kvs)/\Rd H o (.dK more)/\kvs.length+more.length<=sizeLine/\Q .non (upd H d (.dK (kD kvs more)))
theorem NM:jw X "dict.update" C9:=by
 intro pz s σ H x vs v us Q I rx rv h;obtain⟨d,o,kvs,more,rfl,rfl,hne,hd,ho,hz,q⟩:=h;cases rx;obtain⟨u,rfl,ru⟩:=fG rv;cases ru;obtain⟨z1,ns1,vs1,r1,dd1⟩:=(show bG X.prog X.w H s.heap d (.dK kvs)from I.hok d _ hd)
 obtain⟨z2,ns2,vs2,r2,dd2⟩:=(show bG X.prog X.w H s.heap o (.dK more)from ho.ok I.hok)
 have l1:=Paired.length r1;have l2:=Paired.length r2;refine call_meetsIn U3 dd1.typeIs PySem.F.entry_dict_update (PySem.F.args_dict_update_2 _ _) (meets_dict_update (en X.prog X.w) d o hne ns2) ⟨vs1,vs2,dd1,dd2,by omega,fun h' hm1 hm2 hs=>?_⟩;have hlen:(kD kvs more).length<=sizeLine:=O_ (Gg more kvs) hz;refine⟨.non,_,I.write (t':=s.toks) (x:=d) (e:=d) (by rw[hd];exact trivial) (.inl rfl) (fun b u hb hu=>(hs.2 b hb).trans hu) (let⟨ob,_,_,e,_⟩:=hm1;⟨ob,e⟩) (show bG X.prog X.w _ h' d (.dK (kD kvs more))from⟨hlen,ns1,_,KV.merge r2 r1,hm1⟩),rfl,q⟩
def updD:D->List D->Option D
|.dic kvs,[.dic more]=>if kvs.length+more.length<=sizeLine then some (.dic (nO kvs more))else none
|_,_=>none
theorem KS{K:W.Frag}:gu K C9 updD:=by
 intro G H a d vs ds d' Q gk ow rs e q;unfold updD at e;split at e
 .split at e
  .rename_i kvs more hl;cases e;cases ow.ob with
  |dic r s=>cases rs with
   |cons r1 t=>
     cases t;have hb:∃b ps,_=V.ref b/\Rd H b (.dK ps)/\c9 K G ps more:=r1.dic gk;obtain⟨b,ps,rfl,hb,rb⟩:=hb;have hab:a≠b:=by
      rintro rfl
      cases r1 with
     |scl s=>cases s
     |ref z=>rw[ow.un]at z;cases z
     |kc k=>cases k
     have l1:=Paired.length s;have l2:=Paired.length rb;exact⟨a,b,_,ps,rfl,rfl,hab,r,hb,by omega,q _ (.dic ca (Ke rb s))⟩
  .cases e
 .cases e
def Ik:V->List V->Hp->VK->Prop:=fun x vs H Q=>∃d kvs,x=.ref d/\vs=[]/\Rd H d (.dK kvs)/\∀p,H p=none->Q (.ref p) (upd H p (.ext fun h=>h.IsValuesView p d))
theorem NN:jw X "dict.values" Ik:=by
 intro pz s σ H x vs v us Q I rx rv h;obtain⟨d,kvs,rfl,rfl,hd,q⟩:=h;cases rx;cases rv;obtain⟨z1,ns1,vs1,r1,dd1⟩:=(show bG X.prog X.w H s.heap d (.dK kvs)from hd.ok I.hok)
 refine call_meetsIn U4 dd1.typeIs PySem.F.entry_dict_values (PySem.F.args_dict_values_1 _) (meets_dict_values (en X.prog X.w) d ns1) ⟨⟨vs1,dd1⟩,?_⟩;refine⟨.ref s.heap.objs.size,_,I.laid (t':=s.toks) (o:=.ext fun h=>h.IsValuesView s.heap.objs.size d) (fun b ob e=>h_ _ e) (q_ _) ?_,rfl,q _ (I.hok.fresh (q_ _))⟩;refine⟨⟨_,B_ _ rfl,rfl,rfl⟩,⟨_,B_ _ rfl⟩,fun h1 h2 hv hk=>?_⟩;obtain⟨ob,e,c⟩:=hv;exact⟨ob,hk ob e,c⟩
theorem PX(hc:X.calm=true):dZ X (.type "list") (fun xs H Q=>∃p d kvs,xs=[.ref p]/\H p=some (.ext fun h=>h.IsValuesView p d)/\Rd H d (.dK kvs)/\∀l,H l=none->Q (.ref l) (upd H l (.lst (kvs.map (·.2))))):=by
 intro pz s σ H xs us Q I r h;obtain⟨p,d,kvs,rfl,hp,hd,q⟩:=h;obtain⟨u,rfl,rx⟩:=fG r;cases rx;obtain⟨hv,_,_⟩:=(show bG X.prog X.w H s.heap p (.ext fun h=>h.IsValuesView p d)from I.hok p _ hp)
 obtain⟨z1,ns1,vs1,r1,dd1⟩:=(show bG X.prog X.w H s.heap d (.dK kvs)from hd.ok I.hok)
 obtain⟨ep,hat⟩:=dd1.dictAt;have l1:=Paired.length r1;refine W.kdl_call (W.kdl_values (knd:=en X.prog X.w) (kvs:=vs1) (ep:=ep)) (I.ok.hd hc) ⟨hv,hat⟩ (by omega) fun h' tk acc c' kp hS hacc=>?_;have hvals:aq (kvs.map (·.2)) acc.toList:=by refine yX (by have h1:=hacc.1;have h2:acc.toList.length=acc.size:=RC;rw[m_];omega) fun j v u e1 e2=>?_;obtain⟨k,hk⟩:=hacc.2 j u (by rw[<-Tf];exact e2);rw[t_]at e1;cases e3:kvs[j]? with
 |none=>rw[e3]at e1;cases e1
 |some kv=>rw[e3]at e1;cases e1;obtain⟨kv',e4,e5⟩:=Paired.get r1 hk;rw[e3]at e4;cases e4;exact e5.2
 refine⟨.ref s.heap.objs.size,_,I.laid (t':=tk) kp (q_ _) (show bG X.prog X.w _ h' _ (.lst (kvs.map (·.2)))from⟨by rw[m_];exact z1,acc.toList,c',hvals,by rw[VJ];exact hS⟩),rfl,q _ (I.hok.fresh (q_ _))⟩
def qa:D->Option D
|.dic kvs=>some (.lst (kvs.map (·.2)))
|_=>none
theorem BC{K:W.Frag}{G:GH}:∀{ps:List (aA×V)}{kvs:List (aA×D)},c9 K G ps kvs->bC K G (ps.map (·.2)) (kvs.map (·.2))
|_,_,.nil=>.nil
|_,_,.cons r t=>.cons r.2 (BC t)
theorem BW(hc:X.calm=true)(hg:Gl X "list")(hm:X.mg "list" = none)(ho:SB X g m o fo)(hbase:Tc o "values" X.env (eval o X.env)=eval o X.env:=by rfl)(hline:(apos.endLine==cpos.line)=true:=by rfl)(hs2:s_ [.Call (.Attribute o "values" apos) [] [] cpos] X.env=(false,eval (.Call (.Attribute o "values" apos) [] [] cpos) X.env)::s_ [] X.env:=by rfl):SO X g m (.Call (.Name "list" pos') [.Call (.Attribute o "values" apos) [] [] cpos] [] pos) (f1 fo qa):=by
 refine PE.imp (ou (PX hc) hg hm rfl (iy (IK U_ U4 PySem.F.type_dict_values NN ho hbase hline) kF hs2) (by decide) (by decide) hs2 rfl) fun σ H Q ⟨r,G,si,q⟩=>⟨r,G,si,bg (ba q) fun d q1 v G1 H1 w1 r1=>?_⟩
 obtain⟨d',e,q2⟩:=cD q1;cases d with
|dic kvs=>
  cases e;obtain⟨a,ps,rfl,hs,rs⟩:=r1.dic w1.ok;refine⟨.inr (.inr (.inl ⟨rfl,.inl ⟨ps,hs⟩⟩)),a,ps,rfl,rfl,hs,fun p hp=>⟨p,a,ps,rfl,ca,?_,fun l hl=>?_⟩⟩
  .exact Rd.mono hs fun a o e=>uK hp _ _ e
  .obtain⟨hl1,hl2⟩:=BK hl;have w2:=Grow.new w1.ok hp (.ext fun h=>h.IsValuesView p a);have w3:=Grow.new w2.ok hl (.lst (ps.map (·.2)));exact q2 l G1 _ (w1.trans (w2.trans w3)) (w1.back hl1) ⟨w1.ok.isN hl1,.lst ca (BC rs)⟩
|_=>cases e
end
def cZ:Nat->List D->List D
|_,[]=>[]
|i,d::ds=>.tup [.int i,d]::cZ (i+1) ds
theorem wC:∀(i:Nat)(ds:List D),(cZ i ds).length=ds.length
|_,[]=>rfl
|i,d::ds=>congrArg (· + 1) (wC (i+1) ds)
theorem DZ:∀(i j:Nat)(ds:List D),(cZ i ds)[j]? = (ds[j]?).map fun d=>D.tup [.int ((i+j:Nat):Int),d]
|_,_,[]=>by simp[cZ]
|i,0,d::ds=>by simp[cZ]
|i,j+1,d::ds=>by show(cZ (i+1) ds)[j]? = _;rw[DZ (i+1) j ds];simp only[List.getElem?_cons_succ];rw[show i+1+j=i+(j+1)by omega]
def gr(f:FE):FI:=fun r=>(f r).bind fun d=>(bX (bv d)).bind fun ds=>.ok (cZ 0 ds)
section
variable{X:Cx}{g:GE}{m:List Md}{e a:Expr}{f:FE}{pos p pos2:Pos}{elts:List Expr}{kk:Nat}
theorem Lx{te:TE}(hg:Gl X "enumerate")(hm:X.mg "enumerate" = none)(he:PE X e te)(hs:s_ [e] X.env=(false,eval e X.env)::s_ [] X.env:=by rfl):PI X (.Tuple elts kk pos2) (.Call (.Name "enumerate" p) [e] [] pos) (fun σ H R=>te σ H fun x H1=>(∃a,x=.ref a/\(∃xs,aY X.K H1 a xs)/\R (mo fun H xs=>aY X.K H a xs) H1)\/∃a,x=.ref a/\(∃xs,ce X.K H1 a xs)/\R (mo fun H xs=>ce X.K H a xs) H1):=by
 intro pz s σ H R I h;refine Call_ (mQ I hg hm boot_enumerate (R4 (aR (iy he kF hs pos pz s σ H (fun vs H1=>match vs with
 |[x]=>(∃a,x=.ref a/\(∃xs,aY X.K H1 a xs)/\R (mo fun H xs=>aY X.K H a xs) H1)\/∃a,x=.ref a/\(∃xs,ce X.K H1 a xs)/\R (mo fun H xs=>ce X.K H a xs) H1
 |_=>False) I h) fun us s1 ⟨vs,H1,I1,r1,q1⟩=>?_) hs rfl))
 .cases r1 with
 |nil=>exact q1.elim
 |@cons x u xs us rx rt=>cases rt with
 |cons _ _=>exact q1.elim
 |nil=>
  have fin:∀{h':Heap},h'.objs.size=s1.heap.objs.size+2->(∀b o,s1.heap.get? b=some o->h'.get? b=some o)->∀b∈[s1.heap.objs.size+1,s1.heap.objs.size],c0 X pz H1 b:=fun hz kp b hb=>by
   have hge:s1.heap.objs.size<=b:=by
    rcases w_.mp hb with rfl|hb
    .exact WM _
    .rw[D_.mp hb];exact q_ _
   exact I1.fpOk hge (I1.hok.fresh hge)
  rcases q1 with⟨a,rfl,⟨xs,hq⟩,q⟩|⟨a,rfl,⟨xs,hq⟩,q⟩
  .cases rx;obtain⟨its,rv,pl,hz⟩:=I1.list hq;refine call_enumerate_list pl.isList fun h' he hi hsz kp=>TY he ?_;exact⟨_,[s1.heap.objs.size+1,s1.heap.objs.size],_,_,H1,rfl,I1.kept (t':=s1.toks) kp,OF a _ _ (RK (T7 _)),⟨⟨_,he⟩,hi⟩,fin hsz kp,q⟩
  .cases rx;obtain⟨its,rv,pl,hz⟩:=I1.tuple hq;refine PV (show s1.heap.IsTuple a its.toArray from pl) fun h' he hi hsz kp=>TY he ?_;exact⟨_,[s1.heap.objs.size+1,s1.heap.objs.size],_,_,H1,rfl,I1.kept (t':=s1.toks) kp,OG a _ _ (RK (T7 _)),⟨⟨_,he⟩,hi⟩,fin hsz kp,q⟩
end
theorem Ci:∀a b:List Int,HT.bP a b=aZ a b
|[],[]=>rfl
|[],_::_=>rfl
|_::_,[]=>rfl
|x::xs,y::ys=>by rw[HT.dE,aZ,Ci xs ys]
inductive TupI(h:Heap):c_->List Int->Prop where
 |mk {a:Addr} {items:Array c_} {ns:List Int}:WJ h a items->S2 items.toList ns->TupI h (.ref a) ns
theorem O6:∀(xs ys:List Int),((a_ (min xs.length ys.length)).all (fun j=>decide (xs.getD j 0=ys.getD j 0))&&xs.length==ys.length)=decide (xs=ys):=by
 intro xs ys;rw[N_,QG,R_,beq_iff_eq,decide_eq_true_iff];constructor
 .rintro⟨h1,h2⟩
  refine Va h2 fun i a b=>?_;have:=h1 i (n_.mpr (by omega));simp only[decide_eq_true_eq]at this;simpa[x_,a,b]using this
 .rintro rfl
  exact⟨fun i _=>by simp,rfl⟩
theorem Ll{A:Q9}{s:k_}{p q:c_}{k l:List Int}(hp:TupI s.heap p k)(hq:TupI s.heap q l)(hu:A.units<SM):V5 A s p q (decide (k=l)):=by cases hp with
|@mk a ia _ ha ia'=>cases hq with
 |@mk b ib _ hb ib'=>
   by_cases e:a=b
   .subst e;obtain⟨o,h1,h2,n,h3⟩:=ha;obtain⟨o',h1',h2',n',h3'⟩:=hb;rw[h1]at h1';cases h1';rw[h3]at h3';cases h3';have:k=l:=by have z1:=ia';have z2:=ib';exact(Yc z1).symm.trans (Yc z2)
    subst this;rw[decide_eq_true rfl];exact WQ _
   .have l1:=ia'.length;have l2:=ib'.length;rw[RC]at l1 l2;have key:=SeqAt.RcAt.tuples (A:=A) (s:=s) (e:=fun j=>decide (k.getD j 0=l.getD j 0)) (show s.heap.IsTuple a ia from ha) (show s.heap.IsTuple b ib from hb) hu (fun j h1 h2=>by
     obtain⟨t,e1⟩:=Xg ia' j ia[j] (by rw[Tf];simp[h1]);obtain⟨t',e2⟩:=Xg ib' j ib[j] (by rw[Tf];simp[h2]);rw[e1,e2];have:=UF (A:=A.in1) (s:=s) (k.getD j 0) t (l.getD j 0) t';have e:(k.getD j 0==l.getD j 0)=decide (k.getD j 0=l.getD j 0):=by rw[N_];simp
     rw[e]at this;exact this)
    rw[l1,l2,O6]at key;exact SeqAt.EqAt.of_refs e key
inductive TupsI(h:Heap):List c_->List (List Int)->Prop where
 |nil:TupsI h [] []
 |cons {p:c_} {k:List Int} {ps:List c_} {ks:List (List Int)}:TupI h p k->TupsI h ps ks->TupsI h (p::ps) (k::ks)
theorem TupsI.length{h:Heap}:∀{ps:List c_}{ks:List (List Int)},TupsI h ps ks->ps.length=ks.length
|_,_,.nil=>rfl
|_,_,.cons _ t=>congrArg (· + 1) t.length
section
variable{prog:J_}{w:QN}{A:Q9}{s:k_}
theorem Jg{fin:Bool}{Q:Bool->k_->Prop}(hu:A.units<SM){ps qs:List c_}{ks ls:List (List Int)}{i:Nat}(h1:TupsI s.heap ps ks)(h2:TupsI s.heap qs ls)(h:Q (gR fin ks ls) s):W.KatLex prog w A false fin Q (ps.zip qs) i s:=by induction h1 generalizing qs ls i with
|nil=>cases h2 <;> exact W.kat_nil h
|@cons p k ps ks hp tp ih=>cases h2 with
 |nil=>exact W.kat_nil h
 |@cons q l qs ls hq tq=>
   refine W.kat_cons (Ll hp hq hu prog w _ _ ?_);by_cases e:k=l
   .rw[decide_eq_true e];have h':Q (gR fin ks ls) s:=by unfold gR at h;rw[if_pos e]at h;exact h
    exact W.kat_yes (ih tq h')
   .rw[decide_eq_false e];have h':Q (aZ k l) s:=by unfold gR at h;rw[if_neg e]at h;exact h
    refine W.kat_no ?_;rw[W3];refine W.kat_one _ _ ?_;cases hp with
   |mk ha ia=>cases hq with
    |mk hb ib=>refine HT.gp ha hb ia ib hu ?_;rw[Ci];exact h'
inductive TupR(h:Heap):c_->List (List Int)->Prop where
 |mk {a:Addr} {items:List c_} {ks:List (List Int)}:WJ h a items.toArray->TupsI h items ks->ks≠[]->TupR h (.ref a) ks
theorem LL{p q:c_}{ks ls:List (List Int)}{Q:Bool->k_->Prop}{E:c_->k_->Prop}(hp:TupR s.heap p ks)(hq:TupR s.heap q ls)(hu:A.units<SM)(h:Q (dU ks ls) s):I_ (QE prog w) A (keyLt' (tuples' false) p q) Q E s:=by cases hp with
|@mk _ items _ ha ta hna=>cases hq with
 |@mk _ items_1 _ hb tb hnb=>
   obtain⟨o,h1,h2,n,h3⟩:=ha;obtain⟨o',h1',h2',n',h3'⟩:=hb;refine W.kat_lt h1 h3 h1' h3' ?_;have e:decide (items.toArray.size<items_1.toArray.size)=decide (ks.length<ls.length):=by rw[o_,o_,ta.length,tb.length]
   rw[e];exact Jg hu (by simpa using ta) (by simpa using tb) h
end
def fH:List D->Option (List Int)
|[]=>some []
|.int i::ds=>(fH ds).map (i::·)
|_=>none
theorem qK{K:W.Frag}{G:GH}{H:Hp}(gk:aN K G H){ds:List D}{xs:List V}{ns:List Int}(h:bC K G xs ds)(e:fH ds=some ns):xs=ns.map V.int:=by induction h generalizing ns with
|nil=>cases e;rfl
|@cons x d xs ds r t ih=>cases d with
 |int i=>have e':(fH ds).map (i::·)=some ns:=e;cases q:fH ds with
  |none=>rw[q]at e';cases e'
  |some ms=>rw[q]at e';cases e';rw[r.int gk,ih q];rfl
 |_=>cases e
def nw(K:W.Frag)(H:Hp)(x:V)(k:List Int):Prop:=∃b,x=.ref b/\ce K H b (k.map V.int)
def nv(K:W.Frag)(H:Hp)(x:V)(ks:List (List Int)):Prop:=∃b xs,x=.ref b/\ce K H b xs/\Paired (nw K H) xs ks/\ks≠[]
def ko{α:Type}(d:α)(ys:List α)(kss:List (List (List Int))):List α:=(d8 ys.length fun i j=>dU (kss.getD i []) (kss.getD j [])).map fun i=>ys.getD i d
theorem bG.isS{P:J_}{w:QN}{H:Hp}{h:Heap}{a:Addr}{o:HO}(x:bG P w H h a o):h.get? a≠none:=by
 have s:∀{u:Obj},h.get? a=some u->h.get? a≠none:=fun e z=>by rw[z]at e;cases e
 cases o with
|lst xs=>obtain⟨_,_,_,_,e⟩:=x;exact s e
|tup xs=>obtain⟨_,_,_,⟨_,e,_⟩,_⟩:=x;exact s e
|dK kvs=>obtain⟨_,_,_,_,o,_,_,e,_⟩:=x;exact s e
|dT kvs=>obtain⟨_,_,_,_,o,_,_,e,_⟩:=x;exact s e
|set S n=>obtain⟨o,_,_,_,e,_⟩:=x;exact s e
|ins C dx fs=>obtain⟨_,_,_,e,_⟩:=x;exact s e
|own y=>obtain⟨_,e⟩:=x;exact s e
|xd fs=>obtain⟨_,⟨_,_,_,e,_⟩,_⟩:=x;exact s e
|rng lo hi=>obtain⟨_,_,_,e⟩:=x;exact s e
|frz ob u=>obtain⟨e,_⟩:=x;exact s e
|tbl ps=>exact s (show h.get? a=some _ from x)
|met f y=>exact s (show h.get? a=some _ from x)
|ext φ=>obtain⟨_,⟨_,e⟩,_⟩:=x;exact s e
section
variable{X:Cx}{pz:List (Addr×Obj)}{σ:L2.St}{H:Hp}{s:k_}
theorem TupI.stay{h h':Heap}{L:Addr}{mm:Str->Option c_}(hL:h.Ns L mm)(k:∀b o,b≠L->h.get? b=some o->h'.get? b=some o){p:c_}{ns:List Int}(x:TupI h p ns):TupI h' p ns:=by cases x with
|mk ht hi=>
  obtain⟨o,h1,h2,n,h3⟩:=ht;refine .mk ⟨o,k _ _ ?_ h1,h2,n,h3⟩ hi
  rintro rfl
  obtain⟨o',es,ep,e,d,_⟩:=hL;rw[h1]at e;cases e;rw[h3]at d;cases d
theorem TupsI.stay{h h':Heap}{L:Addr}{mm:Str->Option c_}(hL:h.Ns L mm)(k:∀b o,b≠L->h.get? b=some o->h'.get? b=some o):∀{ps:List c_}{ks:List (List Int)},TupsI h ps ks->TupsI h' ps ks
|_,_,.nil=>.nil
|_,_,.cons x t=>.cons (x.stay hL k) (t.stay hL k)
theorem TupR.stay{h h':Heap}{L:Addr}{mm:Str->Option c_}(hL:h.Ns L mm)(k:∀b o,b≠L->h.get? b=some o->h'.get? b=some o){p:c_}{ks:List (List Int)}(x:TupR h p ks):TupR h' p ks:=by cases x with
|mk ht hi hn=>
  obtain⟨o,h1,h2,n,h3⟩:=ht;refine .mk ⟨o,k _ _ ?_ h1,h2,n,h3⟩ (hi.stay hL k) hn
  rintro rfl
  obtain⟨o',es,ep,e,d,_⟩:=hL;rw[h1]at e;cases e;rw[h3]at d;cases d
theorem Dp(I:Inv X pz σ H s){x:V}{k:List Int}{u:c_}(h:nw X.K H x k)(r:L2.av x u):TupI s.heap u k:=by obtain⟨b,rfl,hq⟩:=h;cases r;obtain⟨its,rv,pl,_⟩:=I.tuple hq;exact .mk pl (by simpa using Fw rv)
theorem Nt(I:Inv X pz σ H s){xs:List V}{ks:List (List Int)}{us:List c_}(h:Paired (nw X.K H) xs ks)(v:aq xs us):TupsI s.heap us ks:=by induction h generalizing us with
|nil=>cases v;exact .nil
|cons h _ ih=>cases v with
 |cons r q=>exact .cons (Dp I h r) (ih q)
theorem Ma(I:Inv X pz σ H s){x:V}{ks:List (List Int)}{u:c_}(h:nv X.K H x ks)(r:L2.av x u):TupR s.heap u ks:=by obtain⟨b,xs,rfl,hq,hp,hn⟩:=h;cases r;obtain⟨its,rv,pl,_⟩:=I.tuple hq;exact .mk pl (Nt I hp rv) hn
theorem xv{ys:List V}{us:List c_}(r:aq ys us):∀(ix:List Nat),(∀i∈ix,i<ys.length)->aq (ix.map fun i=>ys.getD i .non) (ix.map fun i=>us.getD i Value.none)
|[],_=>.nil
|i::ix,h=>by
  refine .cons ?_ (xv r ix fun j hj=>h j (i_ _ hj));have hi:=h i d_;obtain⟨u,h1,h2⟩:=r.get (i:=i) (x:=ys[i]) (b_ hi);have e1:ys.getD i .non=ys[i]:=by simp[x_,hi]
  have e2:us.getD i Value.none=u:=by rw[x_,h1];rfl
  show L2.av (ys.getD i .non) (us.getD i Value.none);rw[e1,e2];exact h2
theorem Inv.laidN{D:Addr}{ys:List V}{its:List c_}{c:Nat}{h':Heap}(I:Inv X pz σ H s)(hD:s.heap.get? D=none)(hDL:D≠X.env.locals)(k:∀b o,b≠X.env.locals->s.heap.get? b=some o->h'.get? b=some o)(hns:∀m,s.heap.Ns X.env.locals m->h'.Ns X.env.locals m)(ho:h'.get? D=some { cls:=.type "list",data:=.seq its.toArray c })(rv:aq ys its)(hz:ys.length<=sizeLine)(t':Nat):Inv X pz σ (upd H D (.lst ys)) { s with heap:=h',toks:=t' }:=by
 have hHD:H D=none:=by cases q:H D with
 |none=>rfl
 |some u=>exact absurd hD (bG.isS (I.hok D u q))
 have neD:∀b o,s.heap.get? b=some o->b≠D:=fun b o e z=>by rw[z,hD]at e;cases e
 have keepU:∀b u,H b=some u->upd H D (.lst ys) b=some u:=fun b u e=>by rw[bn (k6 e hHD)];exact e
 have trkL:∀b u,H b=some u->b≠X.env.locals:=fun b u e z=>by rw[z,I.free]at e;cases e
 refine I.step (g':=s.gens) (d':=s.drawn) (ch:=[]) (fun b hb=>absurd hb (by simp)) (fun b ob hL _ _ e _=>k b ob hL e) (fun b ob hL _ _ e _=>⟨ob.slots,k b ob hL e⟩) (fun b ob _ e n=>by rw[bn (neD b ob e)];exact n)
  (fun b ob _ e=>?_) (fun b xs e=>keepU b _ e) (fun b ob u e=>keepU b _ e) (fun b ps e=>⟨#[],by rw[keepU b _ e];simp⟩) hns (fun b u e=>?_) I.bare
 .by_cases hb:b=X.env.locals
  .subst hb;obtain⟨m,hn,_⟩:=I.loc;obtain⟨o,_,_,ho',_⟩:=hns m hn;exact⟨o,ho'⟩
  .exact⟨ob,k b ob hb e⟩
 .by_cases hb:b=D
  .subst hb;rw[ca]at e;cases e;exact⟨hz,its,c,rv,ho⟩
  .rw[bn hb]at e;refine(I.hok b u e).stay (fun cc v hc q=>k cc v ?_ q) (fun cc q=>keepU cc _ q) fun cc xs q=>keepU cc _ q;rcases hc with z|z
   .rw[z];exact trkL b u e
   .exact trkL cc _ z
theorem vL{h:Heap}{L:Addr}{m m':Str->Option c_}(a:h.Ns L m)(b:h.Ns L m'):m=m':=by obtain⟨o,es,ep,e,d,_,f⟩:=a;obtain⟨o',es',ep',e',d',_,f'⟩:=b;rw[e]at e';cases e';rw[d]at d';cases d';funext x;rw[<-f,<-f']
theorem DF{h:Heap}:∀{us:List c_}{kss:List (List (List Int))},Paired (fun u ks=>TupR h u ks) us kss->∃fs,W.KatTups h us fs/\fs.length=us.length/\∀f∈fs,∃b o,f=Value.ref b/\h.get? b=some o/\o.cls=.type "tuple"
|_,_,.nil=>⟨[],W.KatTups.nil,rfl,fun f hf=>nomatch hf⟩
|_,_,.cons x t=>by obtain⟨fs,h1,h2,h3⟩:=DF t;cases x with
 |@mk a items ks ht hi hn=>cases hi with
  |nil=>exact absurd rfl hn
  |@cons p k ps ks hp _=>
    obtain⟨o,e1,e2,n,e3⟩:=ht;refine⟨p::fs,W.KatTups.cons e1 e2 e3 (by simp) h1,by simp[h2],fun f hf=>?_⟩;rcases w_.mp hf with rfl|hf
    .cases hp with
    |mk hb _=>obtain⟨ob,q1,q2,_⟩:=hb;exact⟨_,ob,rfl,q1,q2⟩
    .exact h3 f hf
theorem Nr(I:Inv X pz σ H s){ys:List V}{kss:List (List (List Int))}{us:List c_}(h:Paired (nv X.K H) ys kss)(v:aq ys us):Paired (fun u ks=>TupR s.heap u ks) us kss:=by induction h generalizing us with
|nil=>cases v;exact .nil
|cons h _ ih=>cases v with
 |cons r q=>exact .cons (Ma I h r) (ih q)
theorem kR{n:Nat}{c:Nat->Nat->Bool}{i:Nat}(h:i∈d8 n c):i<n:=n_.mp ((oH n c).mem_iff.mp h)
theorem O7{k:Nat}(hr:Room k X.A):dZ X (.builtin "sorted") (fun xs H Q=>∃p ys kss,xs=[.ref p]/\aY X.K H p ys/\Paired (nv X.K H) ys kss/\ys.length<64/\∀l,H l=none->Q (.ref l) (upd H l (.lst (ko .non ys kss)))):=by
 intro pz s σ H xs us Q I r h;obtain⟨p,ys,kss,rfl,hq,hk,h64,q⟩:=h;obtain⟨u,rfl,rx⟩:=fG r;cases rx;obtain⟨its,rv,pl,hz⟩:=I.list hq;have hl:=rv.length;have hkl:=Paired.length hk;by_cases h2:its.length<2
 .refine FM pl.isList h2 fun h' c D kp hD ho=>?_;have hs:s.heap.get? D=none:=Ue hD;refine⟨.ref D,_,Inv.laidN I hs (RK (C_ I.lt hD)) (fun b o _ e=>kp b o e) (fun m ⟨o,es,ep,e,z⟩=>⟨o,es,ep,kp _ _ e,z⟩) ho rv (by omega) s.toks,rfl,?_⟩;have e:ko V.non ys kss=ys:=by unfold ko d8;rw[if_pos (by omega)];refine Va (by simp) fun i a b=>?_;simp[x_,b]
  have:=q D (I.hok.fresh hD);rw[e]at this;exact this
 .obtain⟨mF,F⟩:=I.fr;have trs:=Nr I hk rv;refine W.kat_sorted F (wJ (g:=X.base) (h:=s.heap) (L:=X.env.locals)) pl.isList (by omega) (by omega) fun D e1 h' F' N' hlt=>?_;have hDs:s.heap.get? D=none:=by cases z:s.heap.get? D with
  |none=>rfl
  |some o=>have zn:=(N' _ (d_)).2;exact absurd (hlt (D,o) (m6 zn.1 zn.2 z)) (Q_ _)
  have keepN:∀{h2:Heap}{oD:Obj},Fr X.base X.env.locals h2 mF->News X.base X.env.locals h2 ((D,oD)::mR X.base s.heap X.env.locals)->∀b o,b≠X.env.locals->s.heap.get? b=some o->h2.get? b=some o:=fun{h2 oD} F2 N2 b o hb e=>by cases z:X.base.get? b with
  |some o'=>have:=I.bk b o' z;rw[e]at this;cases this;exact F2.keep b o z
  |none=>exact(N2 (b,o) (i_ _ (m6 hb z e))).1
  have k1:=keepN F' N';have trs':Paired (fun u ks=>TupR h' u ks) its kss:=Paired.mono (fun _ _ x=>x.stay F.ns k1) trs;obtain⟨fs,t1,t2,t3⟩:=DF trs';refine W.kat_kind (T:=.type "tuple") t1 (by omega) (fun v hv=>?_) (by decide) ?_
  .obtain⟨b,o,rfl,e1,e2⟩:=t3 v hv;rw[<-e2];exact(W.Looks.ld e1).andThen .now
  have hn:0<its.length:=by omega
  refine EA (n:=its.length) (c:=fun i j=>dU (kss.getD i []) (kss.getD j [])) (fun i j C hi hj hC=>?_) (wS hn) ?_
  .have gi:∀i,i<its.length->TupR h' (its.getD i Value.none) (kss.getD i []):=fun i hi=>by
    have hki:i<kss.length:=by omega
    obtain⟨a,ha,hx⟩:=Paired.get trs' (b_ hki);rw[x_,ha,x_,b_ hki];exact hx
   exact LL (gi i hi) (gi j hj) (by have:=hr.un;show X.A.units+1+1<SM;omega) hC
  .refine W.KasFin.intro F' N' (.head fun q hq z=>?_) fun h3 c F3 N3=>?_
   .have:=hlt q hq;rw[z]at this;exact Q_ _ this
   .have oD:=(N3 _ d_)
    have hix:∀i∈d8 ys.length (fun i j=>dU (kss.getD i []) (kss.getD j [])),i<ys.length:=fun i hi=>kR hi;have e0:(kasRun (fun i j=>dU (kss.getD i []) (kss.getD j [])) (W.kas_sort its.length)).toList=d8 ys.length (fun i j=>dU (kss.getD i []) (kss.getD j [])):=by unfold d8;rw[if_neg (by omega),hl]
    rw[e0]at oD;refine⟨.ref D,_,Inv.laidN (t':=_) (its:=(d8 ys.length fun i j=>dU (kss.getD i []) (kss.getD j [])).map fun i=>its.getD i Value.none) I hDs oD.2.1 (keepN F3 N3) (fun m hm=>by rw[vL hm F.ns];exact F3.ns) oD.1 (xv rv _ hix) ?_,rfl,q D ?_⟩
    .have:=(oH ys.length fun i j=>dU (kss.getD i []) (kss.getD j [])).length_eq;rw[m_,this,QR];omega
    .cases z:H D with
    |none=>rfl
    |some u=>exact absurd hDs (bG.isS (I.hok D u z))
end
def kA:D->Option (List Int)
|.tup ds=>fH ds
|_=>none
def ja:List D->Option (List (List Int))
|[]=>some []
|d::ds=>(kA d).bind fun k=>(ja ds).map (k::·)
def pV:D->Option (List (List Int))
|.tup (d::ds)=>ja (d::ds)
|_=>none
def kH:List D->Option (List (List (List Int)))
|[]=>some []
|d::ds=>(pV d).bind fun k=>(kH ds).map (k::·)
def pZ:List D->Option D
|[.lst ds]=>(kH ds).bind fun kss=>if ds.length<64 then some (.lst (ko .non ds kss))else none
|_=>none
section
variable{K:W.Frag}{G:GH}{H:Hp}
theorem Bz(gk:aN K G H){v:V}{d:D}{k:List Int}(r:RG K G v d)(e:kA d=some k):nw K H v k:=by cases d with
|tup ds=>obtain⟨a,xs,rfl,s,rs⟩:=r.tup gk;have:=qK gk rs e;subst this;exact⟨a,rfl,s⟩
|_=>cases e
theorem Ld(gk:aN K G H){ds:List D}{xs:List V}{ks:List (List Int)}(h:bC K G xs ds)(e:ja ds=some ks):Paired (nw K H) xs ks:=by induction h generalizing ks with
|nil=>cases e;exact .nil
|@cons x d xs ds r t ih=>have e':(kA d).bind (fun k=>(ja ds).map (k::·))=some ks:=e;cases e1:kA d with
 |none=>rw[e1]at e';cases e'
 |some k=>rw[e1]at e';cases e2:ja ds with
  |none=>rw[e2]at e';cases e'
  |some ks'=>rw[e2]at e';cases e';exact .cons (Bz gk r e1) (ih e2)
theorem Nu{d:D}{ds:List D}{ks:List (List Int)}(e:ja (d::ds)=some ks):ks≠[]:=by have e':(kA d).bind (fun k=>(ja ds).map (k::·))=some ks:=e;cases e1:kA d with
|none=>rw[e1]at e';cases e'
|some k=>rw[e1]at e';cases e2:ja ds with
 |none=>rw[e2]at e';cases e'
 |some ks'=>rw[e2]at e';cases e';simp
theorem JF(gk:aN K G H){v:V}{d:D}{ks:List (List Int)}(r:RG K G v d)(e:pV d=some ks):nv K H v ks:=by cases d with
|tup ds=>cases ds with
 |nil=>cases e
 |cons d ds=>obtain⟨a,xs,rfl,s,rs⟩:=r.tup gk;exact⟨a,xs,rfl,s,Ld gk rs e,Nu e⟩
|_=>cases e
theorem Lg(gk:aN K G H){ds:List D}{xs:List V}{ks:List (List (List Int))}(h:bC K G xs ds)(e:kH ds=some ks):Paired (nv K H) xs ks:=by induction h generalizing ks with
|nil=>cases e;exact .nil
|@cons x d xs ds r t ih=>have e':(pV d).bind (fun k=>(kH ds).map (k::·))=some ks:=e;cases e1:pV d with
 |none=>rw[e1]at e';cases e'
 |some k=>rw[e1]at e';cases e2:kH ds with
  |none=>rw[e2]at e';cases e'
  |some ks'=>rw[e2]at e';cases e';exact .cons (JF gk r e1) (ih e2)
theorem wL{xs:List V}{ds:List D}(r:bC K G xs ds):∀(ix:List Nat),(∀i∈ix,i<ds.length)->bC K G (ix.map fun i=>xs.getD i .non) (ix.map fun i=>ds.getD i .non)
|[],_=>.nil
|i::ix,h=>by refine .cons ?_ (wL r ix fun j hj=>h j (i_ _ hj));have hi:=h i d_;obtain⟨u,h1,h2⟩:=Paired.get r (b_ hi);show RG K G (xs.getD i .non) (ds.getD i .non);rw[x_,h1,x_,b_ hi];exact h2
end
section
variable{X:Cx}{g:GE}{m:List Md}{a:Expr}{fl:ao->Res (List D)}{pos p:Pos}{k:Nat}
theorem Mo(hr:Room k X.A)(hg:Gl X "sorted")(hm:X.mg "sorted" = none)(ha:gG X g m [a] fl)(hs:s_ [a] X.env=(false,eval a X.env)::s_ [] X.env:=by rfl):SO X g m (.Call (.Name "sorted" p) [a] [] pos) (fC fl pZ):=by
 refine pW (R:=fun xs H Q=>∃p ys kss,xs=[.ref p]/\aY X.K H p ys/\Paired (nv X.K H) ys kss/\ys.length<64/\∀l,H l=none->Q (.ref l) (upd H l (.lst (ko .non ys kss)))) ?_ (lG (O7 hr) hg hm (by first|exact Tx|rfl) ha (by decide) (by decide) hs rfl);intro G H vs ds d Q gk rs e q;unfold pZ at e;split at e
 .rename_i zs;cases ek:kH zs with
 |none=>rw[ek]at e;cases e
 |some kss=>
   rw[ek]at e;have e':(if zs.length<64 then some (D.lst (ko .non zs kss))else none)=some d:=e;by_cases h64:zs.length<64
   .rw[if_pos h64]at e';cases e';cases rs with
   |cons r1 t=>cases t;obtain⟨b,xs,rfl,s,r⟩:=r1.lst gk;have hl:=Paired.length r;refine⟨b,xs,kss,rfl,s,Lg gk r ek,by omega,fun l hl'=>q l G _ (Grow.new gk hl' _) hl' ⟨gk.isN hl',.lst ca ?_⟩⟩;unfold ko;rw[hl];exact wL r _ fun i hi=>kR hi
   .rw[if_neg h64]at e';cases e'
 .cases e
end
end DL
namespace DL
open PySem PyProof.Rows PySem.SeqAt PySem.MeetsSeq PySem.MeetsSeq2 PySem.MeetsSeq3 L2
section
open PySem.AutoSeq1 (wpAny_loadPart')
end
end DL
namespace DL
open PySem PyProof.Rows L2
end DL
namespace DL
open PySem PySem.Spec PyProof.Rows L2
section
variable{X:Cx}{pz:List (Addr×Obj)}{σ:L2.St}{H:Hp}{s:k_}
theorem Inv.keptN{h':Heap}(I:Inv X pz σ H s)(k:∀b o,b≠X.env.locals->s.heap.get? b=some o->h'.get? b=some o)(hns:∀m,s.heap.Ns X.env.locals m->h'.Ns X.env.locals m)(t':Nat):Inv X pz σ H { s with heap:=h',toks:=t' }:=by
 have trkL:∀b u,H b=some u->b≠X.env.locals:=fun b u e z=>by rw[z,I.free]at e;cases e
 refine I.step (g':=s.gens) (d':=s.drawn) (ch:=[]) (fun b hb=>absurd hb (by simp)) (fun b ob hL _ _ e _=>k b ob hL e) (fun b ob hL _ _ e _=>⟨ob.slots,k b ob hL e⟩) (fun b ob _ e n=>n)
  (fun b ob _ e=>?_) (fun b xs e=>e) (fun b ob u e=>e) (fun b ps e=>⟨#[],by rw[e];simp⟩) hns (fun b u e=>?_) I.bare
 .by_cases hb:b=X.env.locals
  .subst hb;obtain⟨m,hn,_⟩:=I.loc;obtain⟨o,_,_,ho',_⟩:=hns m hn;exact⟨o,ho'⟩
  .exact⟨ob,k b ob hb e⟩
 .refine(I.hok b u e).stay (fun cc v hc q=>k cc v ?_ q) (fun cc q=>q) fun cc xs q=>q;rcases hc with z|z
  .rw[z];exact trkL b u e
  .exact trkL cc _ z
end
section
variable{X:Cx}{g:GE}{m:List Md}{e a b:Expr}{es:List Expr}{fl:ao->Res (List D)}{fa fb:FE}{pos p:Pos}
def AY(K:W.Frag):R2:=fun x y H Q=>∃a b ys,x=.ref a/\y=.ref b/\ce K H a []/\ce K H b ys/\Q (.ref b) H
theorem LU:a9 X (Sb .Add) (AY X.K):=by
 intro pz s σ H x y v u Q I rx ry h;obtain⟨a,b,ys,rfl,rfl,ha,hb,q⟩:=h;cases rx;cases ry;obtain⟨its,r1,p1,_⟩:=I.tuple ha;obtain⟨its2,r2,p2,_⟩:=I.tuple hb;cases r1;obtain⟨⟨cls,dd,data,sl⟩,ho,hc,n,hd⟩:=id p1;obtain⟨⟨cls2,dd2,data2,sl2⟩,ho2,hc2,n2,hd2⟩:=id p2;simp only at hc hd hc2 hd2;subst hc hd hc2 hd2;exact Vk ⟨_,ho,rfl⟩ ⟨_,ho2,rfl⟩ U8 VY TW TQ (Tw _ _)
  (tuple_addW0 a b _ _ n n2 dd dd2 sl sl2 rfl) ⟨ho,ho2,⟨.ref b,H,I,rfl,q⟩⟩
def addE:D->D->Option D
|.tup [],.tup b=>some (.tup b)
|a,b=>addA a b
theorem Ku{K:W.Frag}:dH K (fun x y H Q=>AY K x y H Q\/((∃i j,x=.int i/\y=.int j/\Q (.int (i+j)) H)\/(∃i j,x=.str i/\y=.str j/\i.length+j.length<=sizeLine/\Q (.str (i++j)) H)\/tJ K x y H Q\/tK K x y H Q)) addE:=by
 intro G H v1 v2 d1 d2 d Q gk r1 r2 e q;unfold addE at e;split at e
 .cases e;rcases r1 with r1|⟨a',_,oo⟩
  .rcases r2 with r2|⟨a',_,oo⟩
   .obtain⟨a,xs,rfl,s1,t1⟩:=r1.tup gk;obtain⟨b,ys,rfl,s2,t2⟩:=r2.tup gk;cases t1;exact .inl ⟨a,b,ys,rfl,rfl,s1,s2,q _ G H (Grow.refl gk) r2⟩
   .cases oo.ob
  .cases oo.ob
 .exact .inr (B8 G H v1 v2 d1 d2 d Q gk r1 r2 e q)
theorem Bp(ha:SB X g m a fa)(hb:SB X g m b fb):SE X g m (.BinOp a .Add b pos) (f2 fa fb addE):=jy (a9.or LU (a9.or Be (a9.or Fh (a9.or Dg Dh)))) Ku ha hb
end
end DL
namespace DL
open PySem PyProof.Rows L2
section
open PySem.AutoSeq1 (wpAny_loadPart')
theorem Qf(l b:Addr)(items items2:Array c_)(n n2:Nat)(dd2:Option Addr)(sl2:Array (Option c_))(hz:items.size+items2.size<=sizeLine) :
  X4 (Uc.«list.extend» ⟨[.ref l,.ref b],[]⟩)
   (fun _ R s=>s.heap.get? l=some { cls:=.type "list",data:=.seq items n }/\s.heap.get? b=some { cls:=.type "list",dict:=dd2,data:=.seq items2 n2,slots:=sl2 } /\R (.ok (.ret .none)) { s with heap:=s.heap.update l (SF fun x=>x++items2) }):=by
 refine .of_wp fun prog w A R s h=>?_;obtain⟨hp,g,d,tk,os⟩:=s;obtain⟨hl,hb,h⟩:=h
 wp_walk using RZ hl,RZ hb
 have hlong:¬ (! items.isEmpty&&SH (items.size+items2.size))=true:=by rw[DM hz,Bool.and_false];exact g_
 rw[if_neg hlong];refine f_ (VZ hl rfl (E_ ⟨_,rfl,h⟩) (by omega) (by rw[Array.size_append];omega))
def DQ(K:W.Frag):V->List V->Hp->VK->Prop:=fun x vs H Q=>∃l b xs zs,x=.ref l/\vs=[.ref b]/\H l=some (.lst xs)/\aY K H b zs/\xs.length+zs.length<=sizeLine/\Q .non (upd H l (.lst (xs++zs)))
section
variable{X:Cx}
theorem OY:GB X "list.extend" (DQ X.K):=by
 intro pz s σ H x vs v us Q I rx rv h;obtain⟨l,b,xs,zs,rfl,rfl,hH,hB,hz,q⟩:=h;cases rx;obtain⟨u,rfl,ru⟩:=rv.one;cases ru;obtain⟨z,its,n,r,hl,e⟩:=I.lstM hH;obtain⟨its2,r2,⟨⟨c2,d2,x2,s2⟩,n2,e2,f1,f2,f3⟩,z2⟩:=I.list hB;simp only at f1 f2 f3;subst f1 f2 f3;have hl1:=r.length;have hl2:=r2.length;refine TH F.slot_list_extend ⟨_,e,rfl⟩ F.entry_list_extend (F.args_list_extend_2 _ _)
  (Qf l b its.toArray its2.toArray n n2 _ s2 (by rw[o_,o_];omega)) ⟨e,e2,?_⟩
 refine⟨.non,_,I.lset (its':=its++its2) hH e (by simp) (r.append r2) ?_,rfl,q⟩;rw[L_];omega
end
end
end DL
namespace DL
open PySem PyProof.Rows PySem.W
abbrev at0(p:Array Nat)(i:Nat):Nat:=p.getD i 0
theorem nK{p q:Array Nat}{i j:Nat}(h:p[i]? = q[j]?):at0 p i=at0 q j:=by unfold at0;rw[Uz,Uz,h]
section
variable{n:Nat}{c:Nat->Nat->Bool}(as:∀i j,c i j=true->c j i=false)(tr:∀i j k,c j i=false->c k j=false->c k i=false)
def Le(c:Nat->Nat->Bool)(i j:Nat):Prop:=c j i=false
def Up(c:Nat->Nat->Bool)(p:Array Nat)(k:Nat):Prop:=∀i,i+1<k->Le c (at0 p i) (at0 p (i+1))
def Dn(c:Nat->Nat->Bool)(p:Array Nat)(k:Nat):Prop:=∀i,i+1<k->Le c (at0 p (i+1)) (at0 p i)
def gH(c:Nat->Nat->Bool)(i j:Nat):Prop:=Le c i j/\Le c j i
def pD(c:Nat->Nat->Bool)(p:Array Nat)(k q:Nat):Prop:=∀i,k-(q+1)<=i->i<k->gH c (at0 p i) (at0 p (k-1))
theorem iC(as:∀i j,c i j=true->c j i=false)(i:Nat):Le c i i:=by unfold Le;cases e:c i i with
|false=>rfl
|true=>have:=as i i e;rw[e]at this;cases this
theorem qB(p:Array Nat):∀(f x:Nat),1<=x->x<=kasRun c (R6 p f x)/\kasRun c (R6 p f x)<=x+f/\(∀i,x<=i+1->i+1<kasRun c (R6 p f x)->Le c (at0 p i) (at0 p (i+1)))
|0,x,_=>⟨q_ _,q_ _,fun i h1 h2=>by have:kasRun c (R6 p 0 x)=x:=rfl;omega⟩
|f+1,x,h1=>by
  have e:kasRun c (R6 p (f+1) x)=kasRun c (if c (p.getD x 0) (p.getD (x-1) 0)=true then KasT.ret x else R6 p f (x+1)):=by rw[kas_asc.eq_2];rfl
  rw[e];cases q:c (p.getD x 0) (p.getD (x-1) 0)with
 |true=>rw[if_pos rfl];exact⟨q_ _,Nat.le_add_right _ _,fun i h1 h2=>by have:kasRun c (KasT.ret x)=x:=rfl;omega⟩
 |false=>
   rw[if_neg g_];obtain⟨a1,a2,a3⟩:=qB p f (x+1) (by omega);refine⟨by omega,by omega,fun i h2 h3=>?_⟩;by_cases z:i+1=x
   .have:i=x-1:=by omega
    subst this;rw[show x-1+1=x by omega];exact q
   .exact a3 i (by omega) h3
theorem Up.asc{p:Array Nat}{f x:Nat}(h1:1<=x)(h:Up c p x):Up c p (kasRun c (R6 p f x)):=by
 obtain⟨a1,a2,a3⟩:=qB (c:=c) p f x h1;intro i hi;by_cases z:i+1<x
 .exact h i z
 .exact a3 i (by omega) hi
theorem mO{p:Array Nat}{i j k:Nat}(hj:j<=p.size):at0 (TX p i j) k=if i<=k/\k<j then at0 p (i+j-1-k)else at0 p k:=by
 have h:=getElem?_mirror_all (xs:=p) (i:=i) hj k;by_cases z:i<=k/\k<j
 .rw[if_pos z]at h ⊢;exact nK h
 .rw[if_neg z]at h ⊢;exact nK h
theorem qR(p:Array Nat)(i j:Nat):(TX p i j).size=p.size:=mirror_size p i j _
include tr in
theorem gH.trans{i j k:Nat}(h1:gH c i j)(h2:gH c j k):gH c i k:=⟨tr _ _ _ h1.1 h2.1,tr _ _ _ h2.2 h1.2⟩
theorem gH.symm{i j:Nat}(h:gH c i j):gH c j i:=⟨h.2,h.1⟩
include as tr in
theorem Db{p:Array Nat}{k q:Nat}(hk:k<=p.size)(hq:q+1<=k)(b:pD c p k q)(i:Nat):gH c (at0 (TX p (k-(q+1)) k) i) (at0 p i):=by
 rw[mO hk];by_cases z:k-(q+1)<=i/\i<k
 .rw[if_pos z];exact(b _ (by omega) (by omega)).trans tr (b i z.1 z.2).symm
 .rw[if_neg z];exact⟨iC as _,iC as _⟩
include tr in
theorem Dn.eqv{p p':Array Nat}{k:Nat}(h:Dn c p k)(e:∀i,gH c (at0 p' i) (at0 p i)):Dn c p' k:=fun i hi=>tr _ _ _ (e (i+1)).1 (tr _ _ _ (h i hi) (e i).2)
include as tr in
theorem qS:∀(f:Nat)(p:Array Nat)(k q:Nat),p.size=n->q+1<=k->k+f<=n->Dn c p k->pD c p k q ->(kasRun c (R3 f p k q)).1.size=n/\(kasRun c (R3 f p k q)).2.2+1<=(kasRun c (R3 f p k q)).2.1/\(kasRun c (R3 f p k q)).2.1<=n/\Dn c (kasRun c (R3 f p k q)).1 (kasRun c (R3 f p k q)).2.1/\pD c (kasRun c (R3 f p k q)).1 (kasRun c (R3 f p k q)).2.1 (kasRun c (R3 f p k q)).2.2
|0,p,k,q,h1,h2,h3,h4,h5=>⟨h1,h2,(by show k<=n;omega),h4,h5⟩
|f+1,p,k,q,h1,h2,h3,h4,h5=>by
  have e:kasRun c (R3 (f+1) p k q)=kasRun c (if c (p.getD k 0) (p.getD (k-1) 0)=true then(if q>0 then R3 f (TX p (k-(q+1)) k) (k+1) 0 else R3 f p (k+1) 0)
    else KasT.ask (p.getD (k-1) 0) (p.getD k 0) fun d=>if d=true then KasT.ret (p,k,q)else R3 f p (k+1) (q+1)):=by rw[kas_desc.eq_2];rfl
  rw[e];cases c1:c (p.getD k 0) (p.getD (k-1) 0)with
 |true=>
   rw[if_pos rfl];have down:∀p':Array Nat,Dn c p' k->at0 p' k=at0 p k->gH c (at0 p' (k-1)) (at0 p (k-1))->Dn c p' (k+1):=by
    intro p' d e1 e2 i hi;by_cases z:i+1=k
    .have:i=k-1:=by omega
     subst this;rw[show k-1+1=k by omega,e1];exact tr _ _ _ (as _ _ c1) e2.2
    .exact d i (by omega)
   have one:∀p':Array Nat,pD c p' (k+1) 0:=fun p' i a b=>by
    have:i=k:=by omega
    subst this;exact⟨iC as _,iC as _⟩
   by_cases hq:q>0
   .rw[if_pos hq];have ev:=Db as tr (by omega) h2 h5;refine qS f _ (k+1) 0 (by rw[qR];exact h1) (by omega) (by omega) (down _ (h4.eqv tr ev) ?_ (ev _)) (one _);rw[mO (by omega),if_neg (by omega)]
   .rw[if_neg hq];exact qS f p (k+1) 0 h1 (by omega) (by omega) (down p h4 rfl ⟨iC as _,iC as _⟩) (one _)
 |false=>rw[if_neg g_];show _/\_;have e2:kasRun c (KasT.ask (p.getD (k-1) 0) (p.getD k 0) fun d=>if d=true then KasT.ret (p,k,q)else R3 f p (k+1) (q+1))=kasRun c (if c (p.getD (k-1) 0) (p.getD k 0)=true then KasT.ret (p,k,q)else R3 f p (k+1) (q+1)):=rfl;rw[e2];cases c2:c (p.getD (k-1) 0) (p.getD k 0)with
  |true=>rw[if_pos rfl];exact⟨h1,h2,(by show k<=n;omega),h4,h5⟩
  |false=>
    rw[if_neg g_];refine qS f p (k+1) (q+1) h1 (by omega) (by omega) (fun i hi=>?_) (fun i a b=>?_)
    .by_cases z:i+1=k
     .have:i=k-1:=by omega
      subst this;rw[show k-1+1=k by omega];exact c2
     .exact h4 i (by omega)
    .have ek:gH c (at0 p (k-1)) (at0 p k):=⟨c1,c2⟩
     rw[show k+1-1=k by omega];by_cases z:i=k
     .subst z;exact⟨iC as _,iC as _⟩
     .exact(h5 i (by omega) (by omega)).trans tr ek
def tm(n:Nat)(c:Nat->Nat->Bool)(r:Nat×Array Nat):Prop:=r.2.size=n/\r.1<=n/\Up c r.2 r.1
theorem DU{p:Array Nat}{k:Nat}(hp:p.size=n)(h1:1<=k)(hk:k<=n)(d:Dn c p k):tm n c (kasRun c (X6 k n p)):=by
 unfold X6;rw[m5];have u:Up c (TX p 0 k) k:=fun i hi=>by rw[mO (by omega),mO (by omega),if_pos ⟨by omega,by omega⟩,if_pos ⟨by omega,by omega⟩];have:=d (0+k-1-(i+1)) (by omega);rw[show 0+k-1-(i+1)+1=0+k-1-i by omega]at this;exact this
 obtain⟨a1,a2,a3⟩:=qB (c:=c) (TX p 0 k) (n-k) k h1;exact⟨by show(TX p 0 k).size=n;rw[qR];exact hp,by show kasRun c (R6 (TX p 0 k) (n-k) k)<=n;omega,u.asc h1⟩
include as tr in
theorem Ek{p:Array Nat}{k:Nat}(hp:p.size=n)(hk:k+1<=n)(d:Dn c p (k+1)):tm n c (kasRun c (Uv k n p)):=by
 unfold Uv;rw[m5];have one:pD c p (k+1) 0:=fun i a b=>by
  have:i=k:=by omega
  subst this;exact⟨iC as _,iC as _⟩
 obtain⟨r1,r2,r3,r4,r5⟩:=qS as tr (n-(k+1)) p (k+1) 0 hp (by omega) (by omega) d one;by_cases hq:(kasRun c (R3 (n-(k+1)) p (k+1) 0)).2.2>0
 .rw[if_pos hq];exact DU (by rw[qR];exact r1) (by omega) r3 (r4.eqv tr (Db as tr (by omega) r2 r5))
 .rw[if_neg hq];exact DU r1 (by omega) r3 r4
include as tr in
theorem BB{p:Array Nat}{k:Nat}(h:Up c p k):∀(d i:Nat),i+d<k->Le c (at0 p i) (at0 p (i+d))
|0,i,_=>iC as _
|d+1,i,hi=>tr _ _ _ (BB h d i (by omega)) (h (i+d) (by omega))
include as tr in
theorem nH{p:Array Nat}{k i j:Nat}(h:Up c p k)(hij:i<=j)(hj:j<k):Le c (at0 p i) (at0 p j):=by have:=BB as tr h (j-i) i (by omega);rw[show i+(j-i)=j by omega]at this;exact this
include as tr in
theorem N6{p:Array Nat}(hp:p.size=n)(hn:2<=n):tm n c (kasRun c (Wy n p))/\1<=n:=by
 refine⟨?_,by omega⟩;unfold Wy;rw[m5];obtain⟨a1,a2,a3⟩:=qB (c:=c) p (n-1) 1 (q_ _);have u:Up c p (kasRun c (R6 p (n-1) 1)):=Up.asc (q_ _) (fun i hi=>by omega);have stop:kasRun c (R6 p (n-1) 1)<n->c (at0 p (kasRun c (R6 p (n-1) 1))) (at0 p (kasRun c (R6 p (n-1) 1)-1))=true:=by
  have gen:∀(f x:Nat),1<=x->kasRun c (R6 p f x)<x+f->c (at0 p (kasRun c (R6 p f x))) (at0 p (kasRun c (R6 p f x)-1))=true:=by
   intro f
   induction f with
  |zero=>intro x _ h;have:kasRun c (R6 p 0 x)=x:=rfl;omega
  |succ f ih=>
    intro x hx;have e:kasRun c (R6 p (f+1) x)=kasRun c (if c (p.getD x 0) (p.getD (x-1) 0)=true then KasT.ret x else R6 p f (x+1)):=by rw[kas_asc.eq_2];rfl
    rw[e];cases q:c (p.getD x 0) (p.getD (x-1) 0)with
   |true=>rw[if_pos rfl];intro _;exact q
   |false=>rw[if_neg g_];intro h;exact ih (x+1) (by omega) (by omega)
  intro h;exact gen (n-1) 1 (q_ _) (by omega)
 generalize kasRun c (R6 p (n-1) 1)=m at *;by_cases hm:m=n
 .rw[if_pos (by simpa using hm)];exact⟨hp,by show m<=n;omega,u⟩
 .rw[if_neg (by simpa using hm)];have st:=stop (by omega);by_cases h1:m>1
  .rw[if_pos h1];have e:kasRun c (KasT.ask (p.getD 0 0) (p.getD (m-1) 0) fun c=>if c=true then KasT.ret (m,p)else Uv m n (TX p 0 m))=kasRun c (if c (p.getD 0 0) (p.getD (m-1) 0)=true then KasT.ret (m,p)else Uv m n (TX p 0 m)):=rfl;rw[e];cases q:c (p.getD 0 0) (p.getD (m-1) 0)with
  |true=>rw[if_pos rfl];exact⟨hp,by show m<=n;omega,u⟩
  |false=>
    rw[if_neg g_];have all:∀i,i<m->gH c (at0 p i) (at0 p (m-1)):=fun i hi=>⟨nH as tr u (by omega) (by omega),tr _ _ _ q (nH as tr u (QX _) hi)⟩
    refine Ek as tr (by rw[qR];exact hp) (by omega) fun i hi=>?_;have e1:∀i,i<m->gH c (at0 (TX p 0 m) i) (at0 p (m-1)):=fun i hi=>by rw[mO (by omega),if_pos ⟨by omega,hi⟩];exact all _ (by omega)
    by_cases z:i+1=m
    .rw[z,mO (j:=m) (k:=m) (by omega),if_neg (by omega)];exact tr _ _ _ (as _ _ st) (e1 i (by omega)).2
    .exact((e1 (i+1) (by omega)).trans tr (e1 i (by omega)).symm).1
  .rw[if_neg h1];have hm1:m=1:=by omega
   subst hm1;refine Ek as tr hp (by omega) fun i hi=>?_;have:i=0:=by omega
   subst this;exact as _ _ st
include as tr in
theorem wW{p:Array Nat}{k:Nat}(u:Up c p k):∀(f l r:Nat),r-l<=f->l<=r->r<=k->(∀i,i<l->Le c (at0 p i) (at0 p k))->(∀i,r<=i->i<k->c (at0 p k) (at0 p i)=true) ->kasRun c (Td p k f l r)<=k/\(∀i,i<kasRun c (Td p k f l r)->Le c (at0 p i) (at0 p k))/\(∀i,kasRun c (Td p k f l r)<=i->i<k->c (at0 p k) (at0 p i)=true)
|0,l,r,h1,h2,h3,h4,h5=>by
  have e:kasRun c (Td p k 0 l r)=l:=rfl;rw[e];have:l=r:=by omega
  subst this;exact⟨h3,h4,h5⟩
|f+1,l,r,h1,h2,h3,h4,h5=>by
  rw[kas_place.eq_2];by_cases z:l>=r
  .rw[if_pos z];have e:kasRun c (KasT.ret l)=l:=rfl;rw[e];have:l=r:=by omega
   subst this;exact⟨h3,h4,h5⟩
  .rw[if_neg z];have e:kasRun c (KasT.ask (p.getD k 0) (p.getD ((l+r)/2) 0) fun c=>if c=true then Td p k f l ((l+r)/2)else Td p k f ((l+r)/2+1) r)=kasRun c (if c (p.getD k 0) (p.getD ((l+r)/2) 0)=true then Td p k f l ((l+r)/2)else Td p k f ((l+r)/2+1) r):=rfl;rw[e];cases q:c (p.getD k 0) (p.getD ((l+r)/2) 0)with
  |true=>rw[if_pos rfl];refine wW u f l ((l+r)/2) (by omega) (by omega) (by omega) h4 fun i a b=>?_;cases w:c (at0 p k) (at0 p i)with
   |true=>rfl
   |false=>have:c (at0 p k) (at0 p ((l+r)/2))=false:=tr _ _ _ (nH as tr u a b) w;rw[q]at this;cases this
  |false=>rw[if_neg g_];refine wW u f ((l+r)/2+1) r (by omega) (by omega) h3 (fun i a=>?_) h5;exact tr _ _ _ (nH as tr u (by omega:i<=(l+r)/2) (by omega)) q
theorem B1{p:Array Nat}{s d:Nat}(hs:s<p.size)(hd:d<=s)(k:Nat):at0 (bubble p s d) k=if k=s-d then at0 p s else if s-d<k/\k<=s then at0 p (k-1)else at0 p k:=by
 have h:=getElem?_bubble hs d hd k;by_cases z:k=s-d
 .rw[if_pos z]at h ⊢;exact nK h
 .rw[if_neg z]at h ⊢;by_cases y:s-d<k/\k<=s
  .rw[if_pos y]at h ⊢;exact nK h
  .rw[if_neg y]at h ⊢;exact nK h
include as tr in
theorem CN:∀(f:Nat)(p:Array Nat)(k:Nat),p.size=n->k+f=n->Up c p k->(kasRun c (kas_bin f p k)).size=n/\Up c (kasRun c (kas_bin f p k)) n
|0,p,k,h1,h2,u=>by
  have:k=n:=by omega
  subst this;exact⟨h1,u⟩
|f+1,p,k,h1,h2,u=>by
  rw[kas_bin.eq_2,m5];obtain⟨a1,a2,a3⟩:=wW as tr u k 0 k (by omega) (by omega) (q_ _) (fun i hi=>by omega) (fun i a b=>by omega);generalize kasRun c (Td p k k 0 k)=l at *;refine CN f _ (k+1) (by rw[bubble_size];exact h1) (by omega) fun i hi=>?_;rw[B1 (by omega) (by omega),B1 (by omega) (by omega)];rw[show k-(k-l)=l by omega];by_cases z1:i=l
  .rw[if_pos z1,if_neg (by omega),if_pos ⟨by omega,by omega⟩,show i+1-1=i by omega];exact as _ _ (a3 i (by omega) (by omega))
  .rw[if_neg z1];by_cases z2:i+1=l
   .rw[if_pos z2,if_neg (by omega)];exact a2 i (by omega)
   .rw[if_neg z2];by_cases z3:l<i
    .rw[if_pos ⟨z3,by omega⟩,if_pos ⟨by omega,by omega⟩];have:=u (i-1) (by omega);rw[show i-1+1=i by omega]at this;rw[show i+1-1=i by omega];exact this
    .rw[if_neg (by omega),if_neg (by omega)];exact u i (by omega)
include as tr in
theorem Ni(hn:2<=n):(kasRun c (UK n)).size=n/\Up c (kasRun c (UK n)) n:=by
 unfold UK;rw[m5];obtain⟨⟨r1,r2,r3⟩,_⟩:=N6 as tr (p:=(a_ n).toArray) (by simp) hn;generalize kasRun c (Wy n (a_ n).toArray)=r at *;by_cases z:r.1<n
 .rw[if_pos z];refine CN as tr _ _ _ r1 (by have:max r.1 1<=n:=(by omega);omega) fun i hi=>?_;exact r3 i (by omega)
 .rw[if_neg z];refine⟨r1,fun i hi=>r3 i (by omega)⟩
include as tr in
theorem Px:(d8 n c).Pairwise (Le c):=by
 unfold d8;by_cases h:n<2
 .rw[if_pos h]
  match n,h with
 |0,_=>exact List.Pairwise.nil
 |1,_=>simp[TD]
 .rw[if_neg h];obtain⟨s1,u⟩:=Ni as tr (n:=n) (by omega);rw[Tt];intro i j hi hj hij;have:=nH as tr u (i:=i) (j:=j) (by omega) (by simp at hj;omega);simp at hi hj;have e:∀k (hk:k<(kasRun c (UK n)).size),at0 (kasRun c (UK n)) k=(kasRun c (UK n))[k]:=fun k hk=>by simp[at0,Xa,hk]
  rw[e i hi,e j hj]at this;simpa using this
end
end DL
section
namespace DL
theorem F6{α:Type}{le:α->α->Prop}(anti:∀a b,le a b->le b a->a=b):∀{l m:List α},l.Perm m->l.Pairwise le->m.Pairwise le->l=m
|[],m,p,_,_=>by rw[V1.mp p]
|a::l,[],p,_,_=>by have:=p.length_eq;simp at this
|a::l,b::m,p,h1,h2=>by
  have h1':=RH.mp h1;have h2':=RH.mp h2;have e:a=b:=by
   rcases w_.mp (p.mem_iff.mp d_)with z|z
   .exact z
   .rcases w_.mp (p.mem_iff.mpr d_)with y|y
    .exact y.symm
    .exact anti a b (h1'.1 b y) (h2'.1 a z)
  subst e;rw[F6 anti (Wa p) h1'.2 h2'.2]
theorem EC:∀(a b:List Int),aZ a b=true->aZ b a=false
|[],[],h=>by cases h
|[],_::_,_=>rfl
|_::_,[],h=>by cases h
|x::xs,y::ys,h=>by
  unfold aZ at h ⊢;by_cases e:x=y
  .subst e;rw[if_pos rfl]at h ⊢;exact EC xs ys h
  .rw[if_neg e]at h;rw[if_neg (fun z=>e z.symm)];have:=of_decide_eq_true h;exact decide_eq_false (by omega)
theorem EB:∀(a b:List Int),aZ a b=false->aZ b a=false->a=b
|[],[],_,_=>rfl
|[],_::_,h,_=>by cases h
|_::_,[],_,h=>by cases h
|x::xs,y::ys,h1,h2=>by
  unfold aZ at h1 h2;by_cases e:x=y
  .subst e;rw[if_pos rfl]at h1 h2;rw[EB xs ys h1 h2]
  .rw[if_neg e]at h1;rw[if_neg (fun z=>e z.symm)]at h2;have a1:=of_decide_eq_false h1;have a2:=of_decide_eq_false h2;omega
theorem Fe:∀(a b c:List Int),aZ b a=false->aZ c b=false->aZ c a=false
|[],b,[],_,_=>rfl
|[],[],_::_,_,h=>by cases h <;> rfl
|[],_::_,_::_,h,_=>rfl
|x::xs,[],_,h,_=>by cases h
|x::xs,y::ys,[],_,h=>by cases h
|x::xs,y::ys,z::zs,h1,h2=>by
  unfold aZ at h1 h2 ⊢;by_cases e1:y=x
  .subst e1;rw[if_pos rfl]at h1;by_cases e2:z=y
   .subst e2;rw[if_pos rfl]at h2 ⊢;exact Fe xs ys zs h1 h2
   .rw[if_neg e2]at h2 ⊢;exact h2
  .rw[if_neg e1]at h1;have a1:=of_decide_eq_false h1;by_cases e2:z=y
   .subst e2;rw[if_neg e1];exact h1
   .rw[if_neg e2]at h2;have a2:=of_decide_eq_false h2;rw[if_neg (by omega)];exact decide_eq_false (by omega)
end DL
end
namespace DL
open PySem PySem.Spec PyProof.Rows L2
def extD:D->List D->Option D
|.lst ds,[.lst es]=>if ds.length+es.length<=sizeLine then some (.lst (ds++es))else none
|_,_=>none
theorem HD{K:W.Frag}:gu K (DQ K) extD:=by
 intro G H a d vs ds d' Q gk ow rs e q;unfold extD at e;split at e
 .split at e
  .rename_i hl;cases e;cases ow.ob with
  |lst r s=>cases rs with
   |cons r1 t=>cases t;obtain⟨b,zs,rfl,s2,r2⟩:=r1.lst gk;have l1:=Paired.length s;have l2:=Paired.length r2;exact⟨a,b,_,_,rfl,rfl,r,s2,by omega,q _ (.lst ca (Paired.app s r2))⟩
  .cases e
 .cases e
def fq(ks:List Int):Int:=ks.getD (W0 (fun i j=>decide (ks.getD i 0<ks.getD j 0)) (ks.length-1)) 0
theorem xP(f:Nat->Int):∀k,W0 (fun i j=>decide (f i<f j)) k<=k/\∀i,i<=k->f (W0 (fun i j=>decide (f i<f j)) k)<=f i
|0=>⟨q_ _,fun i hi=>by
   have:i=0:=by omega
   subst this;exact Yj _⟩
|k+1=>by
  obtain⟨h1,h2⟩:=xP f k;rw[argBest.eq_2];by_cases h:f (k+1)<f (W0 (fun i j=>decide (f i<f j)) k)
  .rw[if_pos (by simpa using h)];refine⟨q_ _,fun i hi=>?_⟩;by_cases z:i=k+1
   .subst z;exact Yj _
   .have:=h2 i (by omega);omega
  .rw[if_neg (by simpa using h)];refine⟨by omega,fun i hi=>?_⟩;by_cases z:i=k+1
   .subst z;omega
   .exact h2 i (by omega)
theorem Ml{ks:List Int}(h:ks≠[]):fq ks∈ks:=by
 have hp:=Rh.mpr h;have h1:=(xP (fun i=>ks.getD i 0) (ks.length-1)).1;unfold fq;have hlt:W0 (fun i j=>decide (ks.getD i 0<ks.getD j 0)) (ks.length-1)<ks.length:=by omega
 rw[x_,b_ hlt];exact QS _
theorem Kg{ks:List Int}{x:Int}(h:x∈ks):fq ks<=x:=by
 obtain⟨i,hi,rfl⟩:=List.getElem_of_mem h;have:=(xP (fun i=>ks.getD i 0) (ks.length-1)).2 i (by omega);have e:ks.getD i 0=ks[i]:=by simp[x_,hi]
 simp only[e]at this;exact this
section
variable{X:Cx}{pz:List (Addr×Obj)}{σ:L2.St}{H:Hp}{s:k_}
theorem M7(hc:X.calm=true):dZ X (.builtin "min") (fun xs H Q=>∃(p:Addr)(ks:List Int),xs=[.ref p]/\aY X.K H p (ks.map V.int)/\ks≠[]/\Q (.int (fq ks)) H):=by
 intro pz s σ H xs us Q I r h;obtain⟨p,ks,rfl,hq,hne,q⟩:=h;obtain⟨u,rfl,rx⟩:=fG r;cases rx;obtain⟨its,rv,pl,hz⟩:=I.list hq;have hl:=rv.length;rw[m_]at hl;have hA:X.A.in1.handled=none:=I.ok.hd hc;have hp:=Rh.mpr hne;have gi:∀i v,its[i]? = some v->∃t,v=Value.int (ks.getD i 0) t:=fun i v hv=>by
  have hi:i<its.length:=(e_.mp hv).1;have hki:i<(ks.map V.int).length:=by rw[m_];omega
  obtain⟨u,h1,h3⟩:=rv.get (i:=i) (x:=(ks.map V.int)[i]) (b_ hki);rw[hv]at h1;cases h1;rw[List.getElem_map]at h3;have hki':i<ks.length:=by omega
  rw[x_,b_ hki'];exact h3
 refine call_min_walkS (PySem.Flt.iter_list_ pl.isList fun s₂ e2 hi hlt hn2=>?_);refine⟨s.heap.objs.size,[s.heap.objs.size,p],[s.heap.objs.size],_,its.toArray.size,_,_,fun i j=>decide (ks.getD i 0<ks.getD j 0),rfl,(Walks.list hA _ p hn2 its.toArray).toS,hi,hlt,by rw[o_];omega,?_,fun v s' hv M=>?_⟩
 .intro i j vi vj s' Q' E' h1 h2 hq';obtain⟨t1,rfl⟩:=gi i vi (by simpa using h1);obtain⟨t2,rfl⟩:=gi j vj (by simpa using h2);exact HT.eZ _ s' _ t1 _ t2 X.prog X.w E' Q' hq'
 .have hsz:its.toArray.size-1=ks.length-1:=by rw[o_];omega
  rw[hsz]at hv;obtain⟨t,rfl⟩:=gi _ v (by simpa using hv);subst e2;have ne:∀b o,s.heap.get? b=some o->¬ b∈[s.heap.objs.size]:=fun b o e z=>by have:=D_.mp z;subst this;exact absurd (A_ e) (Q_ _)
  obtain⟨h',g',d',tk,os'⟩:=s';have e1:g'=s.gens:=M.gens;have e3:d'=s.drawn:=M.drawn;have e4:os'=s.os:=M.os;subst e1 e3 e4;exact⟨.int (fq ks),H,Inv.keptN I (fun b o _ e=>M.heap b o (ne b o e) (h_ _ e)) (fun m ⟨o,es,ep,e,z⟩=>⟨o,es,ep,M.heap _ _ (ne _ _ e) (h_ _ e),z⟩) tk,⟨_,rfl⟩,q⟩
end
def mJ:List D->Option D
|[.lst (d::ds)]=>(fH (d::ds)).map fun ks=>.int (fq ks)
|_=>none
theorem Kf{K:W.Frag}:ny K (fun xs H Q=>∃(p:Addr)(ks:List Int),xs=[.ref p]/\aY K H p (ks.map V.int)/\ks≠[]/\Q (.int (fq ks)) H) mJ:=by
 intro G H vs ds d Q gk rs e q;unfold mJ at e;split at e
 .rename_i z zs;cases ek:fH (z::zs)with
 |none=>rw[ek]at e;cases e
 |some ks=>rw[ek]at e;cases e;cases rs with
  |cons r1 t=>
    cases t;obtain⟨b,xs,rfl,s,r⟩:=r1.lst gk;have hl:=Paired.length r;have ex:=qK gk r ek;subst ex;refine⟨b,ks,rfl,s,?_,q _ G H (Grow.refl gk) (.scl (.int _))⟩
    rintro rfl
    simp at hl
 .cases e
section
variable{X:Cx}{g:GE}{m:List Md}{e:Expr}{es:List Expr}{fl:ao->Res (List D)}{pos p:Pos}
theorem Jr(hc:X.calm=true)(hg:Gl X "min")(hm:X.mg "min" = none)(ha:gG X g m (e::es) fl)(he:s_ (e::es) X.env=(false,eval e X.env)::s_ es X.env:=by rfl)(hpl:(backTo pos (s_ es X.env)).any (·.1)=false:=by rfl):SE X g m (.Call (.Name "min" p) (e::es) [] pos) (fC fl mJ):=jZ Kf (lG (M7 hc) hg hm PyProof.Rows.boot_min ha (by decide) (by decide) he hpl)
end
def kl(h0 H:Hp):Prop:=∀a o,h0 a=some o->H a=some o
structure YieldsB(K:W.Frag)(h0:Hp)(J:It)(ds:List D)(G0:GH):Prop where
 go:∀G H (i:Nat),aQ G0 G->aN K G H->kl h0 H->i<ds.length->J.go i H
 yld:∀G H (i:Nat) x H' d,aQ G0 G->aN K G H->kl h0 H->J.yld i H x H'->ds[i]? = some d->∃G',Grow K G H G' H'/\RG K G' x d
 stop:∀G H,aQ G0 G->aN K G H->kl h0 H->J.stop ds.length H
theorem Yields.toH{K:W.Frag}{h0:Hp}{J:It}{ds:List D}{G0:GH}(y:Yields K J ds G0):YieldsB K h0 J ds G0:=⟨fun G H i w gk _ hi=>y.go G H i w gk hi,fun G H i x H' d w gk _ q e=>y.yld G H i x H' d w gk q e,fun G H w gk _=>y.stop G H w gk⟩
def Qr(X:Cx)(g:GE)(m:List Md)(f:FI):TI:=fun σ H R=>∃r G,SI X g m r G σ H/\fin (f r) (fun ds=>∀J G' H',Grow X.K G H G' H'->YieldsB X.K g.h0 J ds G'->R J H') (XW X σ G H)
def mi(X:Cx)(g:GE)(m:List Md)(tg iter:Expr)(f:FI):Prop:=PI X tg iter (Qr X g m f)
def Qt(X:Cx)(g:GE)(m:List Md)(f:FE):TE:=fun σ H Q=>∃r G,SI X g m r G σ H/\fin (f r) (fun d=>∀v G' H',Grow X.K G H G' H'->Bw X.K g.h0 G' H' v d->Q v H') (XW X σ G H)
def Ae(X:Cx)(g:GE)(m:List Md)(e:Expr)(f:FE):Prop:=PE X e (Qt X g m f)
section
variable{X:Cx}{g:GE}{m m' mb:List Md}{tg e a iter:Expr}{f:FE}{pos p pos2:Pos}{ro:Bool}{sts:List Stmt}{s1:FS}{elts:List Expr}{kk:Nat}
theorem jV(i:Nat){x:Str}(hm:m[i]? = some .bw:=by rfl)(hN:X.N[i]? = some x:=by rfl)(hv:im X.env.scope x:=by first|exact Or.inl rfl|exact Or.inr (Or.inl rfl)|exact Or.inr (Or.inr rfl))(hd:(x==("__debug__" : Str))=false:=by decide)(hcd:(x==("__classdict__" : Str))=false:=by decide):Ae X g m (.Name x pos) fun r=>dk r i:=by refine PE.imp (mN hN hv hd hcd) fun σ H Q ⟨r,G,si,q⟩=>?_;obtain⟨d,e,k⟩:=qM q;obtain⟨v,e1,e2⟩:=si.bw i d e hm;exact⟨v,e1,k _ G H (Grow.refl si.gok) e2⟩
theorem CZ{K:W.Frag}{h0:Hp}{G0 G:GH}{H0 H:Hp}{a:Addr}{ds:List D}(o:Own K G0 H0 a (.lst ds))(h:h0 a≠none)(o0:kl h0 H0)(le:aQ G0 G)(o1:kl h0 H):∃xs,aY K H a xs/\bC K G xs ds:=by cases e:h0 a with
|none=>exact absurd e h
|some u=>have h1:=o0 a u e;have h2:=o1 a u e;cases o.ob with
 |lst r s=>rw[h1]at r;cases r;exact⟨_,aY.of h2,bC.mono s le⟩
theorem KU{K:W.Frag}{h0:Hp}{ds:List D}{G0:GH}{a:Addr}(h:∀G H,aQ G0 G->aN K G H->kl h0 H->∃xs,aY K H a xs/\bC K G xs ds):YieldsB K h0 (pC K a) ds G0:=by
 refine⟨fun G H i w gk o hi=>?_,fun G H i x H' d w gk o y e=>?_,fun G H w gk o=>?_⟩
 .obtain⟨xs,s,r⟩:=h G H w gk o;have hl:=Paired.length r;exact⟨xs,xs[i],s,b_ (by omega)⟩
 .obtain⟨xs,s,r⟩:=h G H w gk o;obtain⟨rfl,y⟩:=y;obtain⟨v,e1,rv⟩:=Paired.get r e;have:=y xs s;rw[e1]at this;cases this;exact⟨G,Grow.refl gk,rv⟩
 .obtain⟨xs,s,r⟩:=h G H w gk o;exact⟨xs,s,Uu (Paired.length r)⟩
theorem SI.oldIn{r:ao}{G:GH}{st:L2.St}{H:Hp}(s:SI X g m r G st H):kl g.h0 H:=s.old
theorem nU(h:Ae X g m e f):mi X g m tg e (aF bv f):=by
 refine PI.imp (uI h) fun σ H R ⟨r,G,si,q⟩=>⟨r,G,si,bg (ba q) fun d q v G' H' w rv=>?_⟩
 obtain⟨ds,e,q⟩:=cD q;cases d with
|lst ds'=>
  cases e;rcases rv with rv|⟨a,rfl,o,ho⟩
  .obtain⟨a,xs,rfl,s,rs⟩:=rv.lst w.ok;exact .inl ⟨a,rfl,⟨xs,s⟩,q _ G' H' w (vE rv).toH⟩
  .cases o.ob with
  |lst r s=>exact .inl ⟨a,rfl,⟨_,aY.of r⟩,q _ G' H' w (KU fun G2 H2 le _ o2=>CZ o ho (si.grow w).oldIn le o2)⟩
|tup ds'=>
  cases e;rcases rv with rv|⟨a,rfl,o,ho⟩
  .obtain⟨a,xs,rfl,s,rs⟩:=rv.tup w.ok;exact .inr ⟨a,rfl,⟨xs,s⟩,q _ G' H' w (uL rv).toH⟩
  .cases o.ob
|_=>cases e
theorem vD{K:W.Frag}{h0:Hp}{ds:List D}{G0:GH}{sq:Hp->List V->Prop}(h:∀G H,aQ G0 G->aN K G H->kl h0 H->∃xs,sq H xs/\bC K G xs ds):YieldsB K h0 (mo sq) (cZ 0 ds) G0:=by
 refine⟨fun G H i w gk o hi=>?_,fun G H i x H' d w gk o y e=>?_,fun G H w gk o=>?_⟩
 .obtain⟨xs,s,r⟩:=h G H w gk o;rw[wC]at hi;have hl:=Paired.length r;exact⟨xs,xs[i],s,b_ (by omega)⟩
 .obtain⟨xs,s,r⟩:=h G H w gk o;obtain⟨p,v,hp,rfl,rfl,hv⟩:=y;rw[DZ]at e;cases ed:ds[i]? with
 |none=>rw[ed]at e;cases e
 |some d0=>rw[ed]at e;simp only[Sl,Wd,TZ]at e;subst e;obtain⟨v',e1,rv⟩:=Paired.get r ed;have:=hv xs s;rw[e1]at this;cases this;exact⟨_,Grow.newF gk hp (.tup (.inl ca) (.cons (.scl (.int _)) (.cons rv .nil))),.ref dB⟩
 .obtain⟨xs,s,r⟩:=h G H w gk o;rw[wC];exact⟨xs,s,Paired.length r⟩
theorem qu(hg:Gl X "enumerate")(hm:X.mg "enumerate" = none)(he:Ae X g m e f)(hs:s_ [e] X.env=(false,eval e X.env)::s_ [] X.env:=by rfl):mi X g m (.Tuple elts kk pos2) (.Call (.Name "enumerate" p) [e] [] pos) (gr f):=by
 refine PI.imp (Lx hg hm he hs) fun σ H R ⟨r,G,si,q⟩=>⟨r,G,si,bg (ba q) fun d q v G' H' w rv=>?_⟩
 obtain⟨ds,e,q⟩:=cD (ba q);cases d with
|lst ds'=>
  cases e;rcases rv with rv|⟨a,rfl,o,ho⟩
  .obtain⟨a,xs,rfl,s,rs⟩:=rv.lst w.ok;refine .inl ⟨a,rfl,⟨xs,s⟩,q _ G' H' w (vD fun G H le gk _=>?_)⟩;obtain⟨b,ys,e,s',r'⟩:=(rv.mono le).lst gk;cases e;exact⟨ys,s',r'⟩
  .cases o.ob with
  |lst r s=>exact .inl ⟨a,rfl,⟨_,aY.of r⟩,q _ G' H' w (vD fun G2 H2 le _ o2=>CZ o ho (si.grow w).oldIn le o2)⟩
|tup ds'=>
  cases e;rcases rv with rv|⟨a,rfl,o,ho⟩
  .obtain⟨a,xs,rfl,s,rs⟩:=rv.tup w.ok;refine .inr ⟨a,rfl,⟨xs,s⟩,q _ G' H' w (vD fun G H le gk _=>?_)⟩;obtain⟨b,ys,e,s',r'⟩:=(rv.mono le).tup gk;cases e;exact⟨ys,s',r'⟩
  .cases o.ob
|_=>cases e
theorem jH(hp:UB (QE X.prog X.w) X.A X.env X.xe)(hc:X.calm=true){ft:FT}{fi:FI}(hi:mi X g m tg iter fi)(hg:SG X g m tg ft m)(hb:fR X g ro m m sts s1 m)(hs:∀x,RP iter X.env x=pure x:=by intro _;rfl):SS X g ro mb m (.For tg iter sts [] pos) (cK m fi ft s1) m:=by
 refine⟨rfl,PS.imp (qh hp hc hi hg.2 hb.2 hs) fun D σ H ⟨r,G,si,q⟩=>⟨r,G,si,bg (fJ si rfl q) fun ds q J G0 H0 w0 Y=>?_⟩⟩;refine⟨fun i n σ H=>∃r G,SI X g m r G σ H/\aQ G0 G/\i<=ds.length/\n=ds.length-i/\bS X g ro m mb G D (aG ft s1 (ds.drop i) r),⟨ds.length,r,G0,si.grow w0,aQ.refl G0,QX _,rfl,bS.gle q w0.ge⟩,?_⟩
 rintro i n σ1 H1 ⟨r1,G1,si1,le1,hi,rfl,q1⟩
 by_cases hlt:i<ds.length
 .have hd:ds.drop i=ds[i]::ds.drop (i+1):=RF hlt;rw[hd]at q1;unfold aG at q1;refine .inr ⟨Y.go G1 H1 i le1 si1.gok si1.oldIn hlt,fun σ' H'=>∃r G,SI X g m r G σ' H'/\aQ G0 G/\bS X g ro m mb G D (aG ft s1 (ds.drop (i+1)) r),fun σ' H' ⟨r',G',si',le',q'⟩=>⟨ds.length-(i+1),by omega,r',G',si',le',hlt,rfl,q'⟩,fun x H' y=>?_⟩;obtain⟨G',w',rv⟩:=Y.yld G1 H1 i x H' ds[i] le1 si1.gok si1.oldIn y (b_ hlt);have le':aQ G0 G':=le1.trans w'.ge;cases eft:ft ds[i] r1 with
 |none=>simp only[eft]at q1;exact q1.elim
 |some r2=>simp only[eft]at q1;refine⟨r1,G',ds[i],si1.grow w',rv,r2,eft,fun σ2 si2=>⟨r2,G',si2,?_⟩⟩;cases eb:s1 r2 with
  |nx r'=>simp only[eb]at q1;exact fun σ3 G3 H3 le3 si3=>⟨r',G3,si3,le'.trans le3,bS.gle q1 (aQ.trans w'.ge le3)⟩
  |ct r'=>simp only[eb]at q1;exact fun σ3 G3 H3 le3 si3=>⟨r',G3,si3,le'.trans le3,bS.gle q1 (aQ.trans w'.ge le3)⟩
  |bk r'=>simp only[eb]at q1;exact fun σ3 G3 H3 le3 si3=>q1 σ3 G3 H3 (aQ.trans w'.ge le3) si3
  |rt d=>simp only[eb]at q1;exact q1
  |exc x r'=>simp only[eb]at q1;exact fun pz e s' σ3 G3 H3 le3=>q1 pz e s' σ3 G3 H3 (aQ.trans w'.ge le3)
  |stuck=>simp only[eb]at q1;exact q1
 .have e:i=ds.length:=by omega
  subst e;rw[Tp]at q1;exact .inl ⟨Y.stop G1 H1 le1 si1.gok si1.oldIn,q1 σ1 G1 H1 (aQ.refl _) si1⟩
end
section
open HT (sIx)
end
section
open AutoSeq1 (wpAny_loadPart')
structure ZA(zp ti to u1 u2:Addr)(f1 f2:List Addr):Prop where
 a1:ti≠zp
 a2:to≠zp
 a3:u1≠zp
 a4:u2≠zp
 a5:to≠u1
 a6:to≠u2
 a7:u1≠u2
 a8:ti≠to/\ti≠u1/\ti≠u2
 b1:zp∉f1/\to∉f1/\u2∉f1
 b2:zp∉f2/\to∉f2/\u1∉f2
theorem _root_.PySem.Draws.at'{prog:J_}{w:QN}{A:Q9}{it:Addr}{fp:List Addr}{n:Nat}{P:Nat->c_->Prop}{St:Nat->Heap->Prop}(D:V0 prog w A it fp n P St){i:Nat}{h h':Heap}{c:Addr}(st:St i h)(e:Yi c h h')(hc:c∉fp):St i h':=D.frame i h h' st fun b hb o q=>e b o (by rintro rfl;exact hc hb) q
section
variable{prog:J_}{w:QN}{A:Q9}{E:c_->k_->Prop}{s:k_}{zp ti to u1 u2:Addr}{f1 f2:List Addr}{n1 n2:Nat}{P1 P2:Nat->c_->Prop}{St1 St2:Nat->Heap->Prop}{p q:c_}
theorem OJ{i:Nat}{Q:c_->k_->Prop}(Z:ZA zp ti to u1 u2 f1 f2)(D1:V0 prog w A u1 f1 n1 P1 St1)(D2:V0 prog w A u2 f2 n2 P2 St2)(hz:UM s.heap zp ti to .none)(hi:SJ s.heap ti (.ref u1) (.ref u2))(ho:SJ s.heap to p q)(s1:St1 i s.heap)(s2:St2 i s.heap)(l1:i<n1)(l2:i<n2)(hQ:∀x y h' tk,P1 i x->P2 i y->UM h' zp ti to (Vj s.heap.objs.size)->SJ h' to x y->St1 (i+1) h'->St2 (i+1) h'->SJ h' s.heap.objs.size x y->h'.objs.size=s.heap.objs.size+1 ->(∀c o,c≠zp->c≠to->c≠u1->c≠u2->s.heap.get? c=some o->h'.get? c=some o)->Q (.ref s.heap.objs.size) { s with heap:=h',toks:=tk }):I_ (QE prog w) A (Uc.«zip.__next__» ⟨[.ref zp],[]⟩) (fun fin s'=>∃v,fin=.done (.ret v)/\Q v s') E s:=by
 show I_ _ _ (Xd (.ref zp) 2 >>= _) _ _ _;refine f_ (Ro hz rfl (x:=.bool false) rfl ?_);show I_ _ _ (Xd (.ref zp) 3 >>= _) _ _ _;refine f_ (Ro hz rfl (x:=.ref ti) rfl (f_ (Sd hi rfl ?_)));show I_ _ _ (Rr (.ref zp) >>= _) _ _ _;refine f_ ?_;unfold Rr;refine f_ (Ro hz rfl (x:=.none) rfl (E_ ?_));simp only[if_true];refine f_ (Xe (f_ (Ro hz rfl (x:=.ref to) rfl (f_ (Se hz (by simp) fun g1 hz1 k1=>?_)))));replace hz1:UM g1 zp ti to .ellipsis:=hz1;refine f_ ?_;simp only[WB,WU,Uo,Xh];refine f_ (f_ (U5 ?_));show I_ _ _ (Q4 (.ref u1) >>= _) _ _ _;refine f_ (D1.item i _ _ _ l1 (D1.at' s1 k1.extBut Z.b1.1) fun x g2 t2 px st1 k2=>E_ ?_);have ho2:SJ g2 to p q:=k2.extBut _ _ Z.a5 (k1.extBut _ _ Z.a2 ho);refine f_ (Sd ho2 rfl (f_ (Uf ho2 fun g3 ho3 k3=>?_)));replace ho3:SJ g3 to x q:=ho3;refine f_ (WN (E_ ?_));refine f_ (f_ (U5 ?_));show I_ _ _ (Q4 (.ref u2) >>= _) _ _ _;refine f_ (D2.item i _ _ _ l2 (D2.at' (D2.at' (D2.at' s2 k1.extBut Z.b2.1) k2.extBut Z.b2.2.2) k3.extBut Z.b2.2.1) fun y g4 t4 py st2 k4=>E_ ?_);have ho4:SJ g4 to x q:=k4.extBut _ _ Z.a6 ho3;refine f_ (Sd ho4 rfl (f_ (Uf ho4 fun g5 ho5 k5=>?_)));replace ho5:SJ g5 to x y:=ho5;refine f_ (WN (E_ (E_ ?_)));refine f_ (Sd ho5 rfl (f_ (wpAny_newTuple ?_)));have hsz:g5.objs.size=s.heap.objs.size:=by rw[k5.1,k4.1,k3.1,k2.1,k1.1]
 have hz5:UM g5 zp ti to .ellipsis:=k5.extBut _ _ Z.a2.symm (k4.extBut _ _ Z.a4.symm (k3.extBut _ _ Z.a2.symm (k2.extBut _ _ Z.a3.symm hz1)));have st15:St1 (i+1) g5:=D1.at' (D1.at' (D1.at' st1 k3.extBut Z.b1.2.1) k4.extBut Z.b1.2.2) k5.extBut Z.b1.2.1;have st25:St2 (i+1) g5:=D2.at' st2 k5.extBut Z.b2.2.1;have hzlt:zp<g5.objs.size:=A_ hz5;show I_ _ _ (Tu (.ref zp) (.ref g5.objs.size) >>= _) _ _ _;refine f_ ?_;unfold Tu;have hz6:UM (g5.push { cls:=.type "tuple",data:=.seq #[x,y] }) zp ti to .ellipsis:=h_ _ hz5;refine f_ (Se hz6 (by simp) fun g7 hz7 k7=>?_);replace hz7:UM g7 zp ti to (Vj g5.objs.size):=hz7;refine Se hz7 (by simp) fun g8 hz8 k8=>?_;replace hz8:UM g8 zp ti to (Vj g5.objs.size):=hz8;have up:∀c o,c≠zp->g5.get? c=some o->g8.get? c=some o:=fun c o c1 e=>k8.extBut _ _ c1 (k7.extBut _ _ c1 (h_ _ e));have hT8:SJ g8 g5.objs.size x y:=k8.extBut _ _ (RK hzlt) (k7.extBut _ _ (RK hzlt) (B_ _ rfl));have sz8:g8.objs.size=g5.objs.size+1:=by rw[k8.1,k7.1,Sc]
 rw[hsz]at hz8 hT8 sz8;refine E_ ⟨_,rfl,?_⟩;show Q (.ref g5.objs.size) _;rw[hsz];refine hQ x y g8 _ px py hz8 (up _ _ Z.a2 ho5) (D1.frame _ _ _ st15 fun b hb o e=>up b o (by rintro rfl;exact Z.b1.1 hb) e) (D2.frame _ _ _ st25 fun b hb o e=>up b o (by rintro rfl;exact Z.b2.1 hb) e) hT8 sz8 fun c o c1 c2 c3 c4 e=>up c o c1 ?_;exact k5.extBut _ _ c2 (k4.extBut _ _ c4 (k3.extBut _ _ c2 (k2.extBut _ _ c3 (k1.extBut _ _ c1 e))))
theorem MY{i:Nat}{Q:Fin->k_->Prop}(Z:ZA zp ti to u1 u2 f1 f2)(D1:V0 prog w A u1 f1 n1 P1 St1)(D2:V0 prog w A u2 f2 n2 P2 St2)(hz:UM s.heap zp ti to .none)(hi:SJ s.heap ti (.ref u1) (.ref u2))(ho:SJ s.heap to p q)(s1:St1 i s.heap)(s2:St2 i s.heap)(hend:i=n1\/(i<n1/\i=n2))(hE:∀h' e tk,(∀c o,c≠zp->c≠to->c≠u1->c≠u2->s.heap.get? c=some o->h'.get? c=some o)->(∃o,h'.get? e=some o/\o.cls=.type "StopIteration")->E (.ref e) { s with heap:=h',toks:=tk }):I_ (QE prog w) A (Uc.«zip.__next__» ⟨[.ref zp],[]⟩) Q E s:=by
 show I_ _ _ (Xd (.ref zp) 2 >>= _) _ _ _;refine f_ (Ro hz rfl (x:=.bool false) rfl ?_);show I_ _ _ (Xd (.ref zp) 3 >>= _) _ _ _;refine f_ (Ro hz rfl (x:=.ref ti) rfl (f_ (Sd hi rfl ?_)));show I_ _ _ (Rr (.ref zp) >>= _) _ _ _;refine f_ ?_;unfold Rr;refine f_ (Ro hz rfl (x:=.none) rfl (E_ ?_));simp only[if_true];refine f_ (Xe (f_ (Ro hz rfl (x:=.ref to) rfl (f_ (Se hz (by simp) fun g1 hz1 k1=>?_)))));replace hz1:UM g1 zp ti to .ellipsis:=hz1;refine f_ ?_;simp only[WB,WU,Uo,Xh];refine f_ (f_ (U5 ?_));show I_ _ _ (Q4 (.ref u1) >>= _) _ _ _;rcases hend with hend|⟨hlt,hend⟩
 .subst hend;refine f_ (D1.done _ _ _ (D1.at' s1 k1.extBut Z.b1.1) fun g2 e k2 he=>?_);obtain⟨oe,hoe,hce⟩:=he;have hz2:UM g2 zp ti to .ellipsis:=k2 _ _ Z.a3.symm hz1;have hez:e≠zp:=fun x=>by subst x;rw[hz2]at hoe;cases hoe;simp at hce
  exact Se hz2 (by simp) fun g3 _ k3=>hE g3 e _ (fun c o c1 _ c3 _ x=>k3.extBut _ _ c1 (k2 _ _ c3 (k1.extBut _ _ c1 x))) ⟨oe,k3.extBut _ _ hez hoe,hce⟩
 .subst hend;refine f_ (D1.item _ _ _ _ hlt (D1.at' s1 k1.extBut Z.b1.1) fun x g2 t2 px st1 k2=>E_ ?_);have ho2:SJ g2 to p q:=k2.extBut _ _ Z.a5 (k1.extBut _ _ Z.a2 ho);refine f_ (Sd ho2 rfl (f_ (Uf ho2 fun g3 ho3 k3=>?_)));refine f_ (WN (E_ ?_));refine f_ (f_ (U5 ?_));show I_ _ _ (Q4 (.ref u2) >>= _) _ _ _;refine f_ (D2.done _ _ _ (D2.at' (D2.at' (D2.at' s2 k1.extBut Z.b2.1) k2.extBut Z.b2.2.2) k3.extBut Z.b2.2.1) fun g4 e k4 he=>?_);obtain⟨oe,hoe,hce⟩:=he;have hz4:UM g4 zp ti to .ellipsis:=k4 _ _ Z.a4.symm (k3.extBut _ _ Z.a2.symm (k2.extBut _ _ Z.a3.symm hz1));have hez:e≠zp:=fun x=>by subst x;rw[hz4]at hoe;cases hoe;simp at hce
  exact Se hz4 (by simp) fun g5 _ k5=>hE g5 e _ (fun c o c1 c2 c3 c4 x=>k5.extBut _ _ c1 (k4 _ _ c4 (k3.extBut _ _ c2 (k2.extBut _ _ c3 (k1.extBut _ _ c1 x))))) ⟨oe,k5.extBut _ _ hez hoe,hce⟩
theorem Pk{i:Nat}{Q:Option c_->k_->Prop}(Z:ZA zp ti to u1 u2 f1 f2)(D1:V0 prog w A.in1 u1 f1 n1 P1 St1)(D2:V0 prog w A.in1 u2 f2 n2 P2 St2)(hz:UM s.heap zp ti to .none)(hi:SJ s.heap ti (.ref u1) (.ref u2))(ho:SJ s.heap to p q)(s1:St1 i s.heap)(s2:St2 i s.heap)(l1:i<n1)(l2:i<n2)(hQ:∀x y h' tk,P1 i x->P2 i y->UM h' zp ti to (Vj s.heap.objs.size)->SJ h' to x y->St1 (i+1) h'->St2 (i+1) h'->SJ h' s.heap.objs.size x y->h'.objs.size=s.heap.objs.size+1 ->(∀c o,c≠zp->c≠to->c≠u1->c≠u2->s.heap.get? c=some o->h'.get? c=some o)->Q (some (.ref s.heap.objs.size)) { s with heap:=h',toks:=tk }):I_ (QE prog w) A (Wv (.ref zp)) Q E s:=by
 have hT:s.TypeIs (.ref zp) "zip" := ⟨_,hz,rfl⟩
 unfold Wv;exact f_ (wpAny_attempt (RU (name:=Ut "__next__") hT F.slot_zip_next (SU F.slot_zip_next hT F.entry_zip_next
   (OJ Z D1 D2 hz hi ho s1 s2 l1 l2 fun x y h' tk b1 b2 b3 b4 b5 b6 b7 b8 b9=>E_ (hQ x y h' tk b1 b2 b3 b4 b5 b6 b7 b8 b9)) (F.args_zip_next_1 _))))
theorem P5{i:Nat}{Q:Option c_->k_->Prop}(Z:ZA zp ti to u1 u2 f1 f2)(D1:V0 prog w A.in1 u1 f1 n1 P1 St1)(D2:V0 prog w A.in1 u2 f2 n2 P2 St2)(hz:UM s.heap zp ti to .none)(hi:SJ s.heap ti (.ref u1) (.ref u2))(ho:SJ s.heap to p q)(s1:St1 i s.heap)(s2:St2 i s.heap)(hend:i=n1\/(i<n1/\i=n2))(hQ:∀h' tk,(∀c o,c≠zp->c≠to->c≠u1->c≠u2->s.heap.get? c=some o->h'.get? c=some o)->Q none { s with heap:=h',toks:=tk }):I_ (QE prog w) A (Wv (.ref zp)) Q E s:=by
 have hT:s.TypeIs (.ref zp) "zip" := ⟨_,hz,rfl⟩
 unfold Wv;refine f_ (wpAny_attempt (RU (name:=Ut "__next__") hT F.slot_zip_next (SU F.slot_zip_next hT F.entry_zip_next (MY Z D1 D2 hz hi ho s1 s2 hend fun h' e tk hk he=>?_) (F.args_zip_next_1 _))));obtain⟨o,ho,hc⟩:=he;exact f_ (wpAny_isInstance (T := "StopIteration") (b:=true) ⟨o,ho,hc⟩ isSubtype_stop (E_ (hQ _ _ hk)))
end
abbrev gD(c:String)(l:Addr):Obj:={ cls:=.type c,data:=.fields #[.ref l,.int 0 0] }
abbrev qX(h:Heap)(c1 c2:String)(l1 l2:Addr):Heap:=(h.push (gD c1 l1)).push (gD c2 l2)
abbrev qW(h:Heap)(c1 c2:String)(l1 l2:Addr):Heap:=(qX h c1 c2 l1 l2).push { cls:=.type "tuple",data:=.seq #[.ref h.objs.size,.ref (h.push (gD c1 l1)).objs.size] }
abbrev jE(h:Heap)(c1 c2:String)(l1 l2:Addr):Heap:=(qW h c1 c2 l1 l2).push { cls:=.type "tuple",data:=.seq #[.none,.none] }
abbrev iu(h:Heap)(c1 c2:String)(l1 l2:Addr):Heap:=(jE h c1 c2 l1 l2).push { cls:=.type "zip",data:=.fields #[.none,.bool false,.bool false,.ref (qX h c1 c2 l1 l2).objs.size,.ref (qW h c1 c2 l1 l2).objs.size] }
theorem Dx{h:Heap}{a:Addr}{xs:Array c_}(x:h.IsTuple a xs)(o:Obj):(h.push o).IsTuple a xs:=let⟨u,hu,r⟩:=x;⟨u,h_ _ hu,r⟩
theorem NG(l1 l2:Addr)(xs ys:Array c_):X4 (Uc.«zip.__new__» ⟨[.type "zip",.ref l1,.ref l2],[]⟩) (fun _ R s=>s.heap.IsList l1 xs/\s.heap.IsList l2 ys /\R (.ok (.ret (.ref (jE s.heap "list_iterator" "list_iterator" l1 l2).objs.size))) { s with heap:=iu s.heap "list_iterator" "list_iterator" l1 l2 }):=
 .of_wp fun prog w A R s h=>by
  obtain⟨hp,gg,dd,tk,os⟩:=s;obtain⟨q1,q2,h⟩:=h;have hsub:=Yd;have e1:VL (SY ⟨hp,gg,dd,tk,os⟩) l1 xs:=q1;have e2:VL (SY ⟨hp.push (gD "list_iterator" l1),gg,dd,tk,os⟩) l2 ys:=WC q2 _
  wp_walk using Ti e1,Ti e2
  exact⟨_,rfl,h⟩
theorem NI(l1 l2:Addr)(xs ys:Array c_):X4 (Uc.«zip.__new__» ⟨[.type "zip",.ref l1,.ref l2],[]⟩) (fun _ R s=>s.heap.IsTuple l1 xs/\s.heap.IsList l2 ys /\R (.ok (.ret (.ref (jE s.heap "tuple_iterator" "list_iterator" l1 l2).objs.size))) { s with heap:=iu s.heap "tuple_iterator" "list_iterator" l1 l2 }):=
 .of_wp fun prog w A R s h=>by
  obtain⟨hp,gg,dd,tk,os⟩:=s;obtain⟨q1,q2,h⟩:=h;have hsub:=Yd;have e1:Ux (SY ⟨hp,gg,dd,tk,os⟩) l1 xs:=q1;have e2:VL (SY ⟨hp.push (gD "tuple_iterator" l1),gg,dd,tk,os⟩) l2 ys:=WC q2 _
  wp_walk using Ru e1,Ti e2
  exact⟨_,rfl,h⟩
theorem NJ(l1 l2:Addr)(xs ys:Array c_):X4 (Uc.«zip.__new__» ⟨[.type "zip",.ref l1,.ref l2],[]⟩) (fun _ R s=>s.heap.IsTuple l1 xs/\s.heap.IsTuple l2 ys /\R (.ok (.ret (.ref (jE s.heap "tuple_iterator" "tuple_iterator" l1 l2).objs.size))) { s with heap:=iu s.heap "tuple_iterator" "tuple_iterator" l1 l2 }):=
 .of_wp fun prog w A R s h=>by
  obtain⟨hp,gg,dd,tk,os⟩:=s;obtain⟨q1,q2,h⟩:=h;have hsub:=Yd;have e1:Ux (SY ⟨hp,gg,dd,tk,os⟩) l1 xs:=q1;have e2:Ux (SY ⟨hp.push (gD "tuple_iterator" l1),gg,dd,tk,os⟩) l2 ys:=Dx q2 _
  wp_walk using Ru e1,Ru e2
  exact⟨_,rfl,h⟩
theorem NH(l1 l2:Addr)(xs ys:Array c_):X4 (Uc.«zip.__new__» ⟨[.type "zip",.ref l1,.ref l2],[]⟩) (fun _ R s=>s.heap.IsList l1 xs/\s.heap.IsTuple l2 ys /\R (.ok (.ret (.ref (jE s.heap "list_iterator" "tuple_iterator" l1 l2).objs.size))) { s with heap:=iu s.heap "list_iterator" "tuple_iterator" l1 l2 }):=
 .of_wp fun prog w A R s h=>by
  obtain⟨hp,gg,dd,tk,os⟩:=s;obtain⟨q1,q2,h⟩:=h;have hsub:=Yd;have e1:VL (SY ⟨hp,gg,dd,tk,os⟩) l1 xs:=q1;have e2:Ux (SY ⟨hp.push (gD "list_iterator" l1),gg,dd,tk,os⟩) l2 ys:=Dx q2 _
  wp_walk using Ti e1,Ru e2
  exact⟨_,rfl,h⟩
section
variable{prog:J_}{w:QN}{A:Q9}{E:c_->k_->Prop}{s:k_}
def gX(s:k_)(c1 c2:String)(l1 l2:Addr)(Q:c_->k_->Prop):Prop:=∀h',UM h' (s.heap.objs.size+4) (s.heap.objs.size+2) (s.heap.objs.size+3) .none->SJ h' (s.heap.objs.size+2) (.ref s.heap.objs.size) (.ref (s.heap.objs.size+1)) ->SJ h' (s.heap.objs.size+3) .none .none->h'.get? s.heap.objs.size=some (gD c1 l1)->h'.get? (s.heap.objs.size+1)=some (gD c2 l2) ->(∀c o,s.heap.get? c=some o->h'.get? c=some o)->Q (.ref (s.heap.objs.size+4)) { s with heap:=h' }
theorem qy{c1 c2:String}{l1 l2:Addr}{Q:c_->k_->Prop}(h:gX s c1 c2 l1 l2 Q):(∃o,(iu s.heap c1 c2 l1 l2).get? (jE s.heap c1 c2 l1 l2).objs.size=some o/\o.cls=.type "zip")/\Q (.ref (jE s.heap c1 c2 l1 l2).objs.size) { s with heap:=iu s.heap c1 c2 l1 l2 }:=by
 have z1:(s.heap.push (gD c1 l1)).objs.size=s.heap.objs.size+1:=Sc ..;have z2:(qX s.heap c1 c2 l1 l2).objs.size=s.heap.objs.size+2:=by rw[Sc,z1]
 have z3:(qW s.heap c1 c2 l1 l2).objs.size=s.heap.objs.size+3:=by rw[Sc,z2]
 have z4:(jE s.heap c1 c2 l1 l2).objs.size=s.heap.objs.size+4:=by rw[Sc,z3]
 have g5:(iu s.heap c1 c2 l1 l2).get? (jE s.heap c1 c2 l1 l2).objs.size=some _:=B_ _ rfl;have g4:(iu s.heap c1 c2 l1 l2).get? (qW s.heap c1 c2 l1 l2).objs.size=some _:=h_ _ (B_ _ rfl);have g3:(iu s.heap c1 c2 l1 l2).get? (qX s.heap c1 c2 l1 l2).objs.size=some _:=h_ _ (h_ _ (B_ _ rfl));have g2:(iu s.heap c1 c2 l1 l2).get? (s.heap.push (gD c1 l1)).objs.size=some (gD c2 l2):=h_ _ (h_ _ (h_ _ (B_ _ rfl)));have g1:(iu s.heap c1 c2 l1 l2).get? s.heap.objs.size=some (gD c1 l1):=h_ _ (h_ _ (h_ _ (h_ _ (B_ _ rfl))));rw[z2,z3,z4]at g5;rw[z1,z2]at g3;rw[z3]at g4;rw[z1]at g2;rw[z4];exact⟨⟨_,g5,rfl⟩,h _ g5 g3 g4 g1 g2 fun c o x=>h_ _ (h_ _ (h_ _ (h_ _ (h_ _ x))))⟩
theorem MF{l1 l2:Addr}{xs ys:Array c_}{Q:c_->k_->Prop}(q1:s.heap.IsList l1 xs)(q2:s.heap.IsList l2 ys)(h:gX s "list_iterator" "list_iterator" l1 l2 Q):I_ (QE prog w) A (call (.type "zip") [.ref l1,.ref l2]) Q E s:=Uy F.called_zip (by decide) (F.typeCall_zip_2 _ _) (F.newCall_zip_2 _ _) (fun obj=>F.args_object_init_3 obj _ _) F.entry_zip_new (NG l1 l2 xs ys) ⟨q1,q2,qy h⟩
theorem MH{l1 l2:Addr}{xs ys:Array c_}{Q:c_->k_->Prop}(q1:s.heap.IsTuple l1 xs)(q2:s.heap.IsList l2 ys)(h:gX s "tuple_iterator" "list_iterator" l1 l2 Q):I_ (QE prog w) A (call (.type "zip") [.ref l1,.ref l2]) Q E s:=Uy F.called_zip (by decide) (F.typeCall_zip_2 _ _) (F.newCall_zip_2 _ _) (fun obj=>F.args_object_init_3 obj _ _) F.entry_zip_new (NI l1 l2 xs ys) ⟨q1,q2,qy h⟩
theorem MI{l1 l2:Addr}{xs ys:Array c_}{Q:c_->k_->Prop}(q1:s.heap.IsTuple l1 xs)(q2:s.heap.IsTuple l2 ys)(h:gX s "tuple_iterator" "tuple_iterator" l1 l2 Q):I_ (QE prog w) A (call (.type "zip") [.ref l1,.ref l2]) Q E s:=Uy F.called_zip (by decide) (F.typeCall_zip_2 _ _) (F.newCall_zip_2 _ _) (fun obj=>F.args_object_init_3 obj _ _) F.entry_zip_new (NJ l1 l2 xs ys) ⟨q1,q2,qy h⟩
theorem MG{l1 l2:Addr}{xs ys:Array c_}{Q:c_->k_->Prop}(q1:s.heap.IsList l1 xs)(q2:s.heap.IsTuple l2 ys)(h:gX s "list_iterator" "tuple_iterator" l1 l2 Q):I_ (QE prog w) A (call (.type "zip") [.ref l1,.ref l2]) Q E s:=Uy F.called_zip (by decide) (F.typeCall_zip_2 _ _) (F.newCall_zip_2 _ _) (fun obj=>F.args_object_init_3 obj _ _) F.entry_zip_new (NH l1 l2 xs ys) ⟨q1,q2,qy h⟩
end
end
def eR(K:W.Frag)(t:Bool)(a:Addr)(H:Hp)(xs:List V):Prop:=match t with
|false=>aY K H a xs
|true=>ce K H a xs
def lc(t:Bool)(a u:Addr)(i:Nat)(h:Heap):Prop:=match t with
|false=>h.IsListIter u a i
|true=>h.IsTupleIter u a i
abbrev zU(t:Bool):String:=match t with
|false => "list_iterator"
|true => "tuple_iterator"
theorem CC{t:Bool}{a u:Addr}{h:Heap}(e:h.get? u=some (gD (zU t) a)):lc t a u 0 h:=by cases t <;> exact⟨_,e,rfl,rfl⟩
theorem qw{t:Bool}{a u:Addr}{i:Nat}{h:Heap}(e:lc t a u i h):∃o,h.get? u=some o/\∀v,o.data≠.cell v:=by cases t <;> (obtain⟨o,ho,hc,hd⟩:=e;exact⟨o,ho,fun v z=>by rw[hd]at z;cases z⟩)
theorem qO{t:Bool}{a u:Addr}{i:Nat}{h h':Heap}(e:lc t a u i h)(k:∀o,h.get? u=some o->h'.get? u=some o):lc t a u i h':=by cases t <;> (obtain⟨o,ho,r⟩:=e;exact⟨o,k o ho,r⟩)
section
variable{X:Cx}{pz:List (Addr×Obj)}{σ:L2.St}{H:Hp}{s:k_}{t:Bool}{a u:Addr}{xs ys:List V}{i:Nat}
theorem pI(I:Inv X pz σ H s)(hc:X.calm=true)(hq:eR X.K t a H xs)(hau:a≠u)(hi:lc t a u i s.heap):∃(its:List c_)(St:Nat->Heap->Prop),aq xs its/\V0 X.prog X.w X.A.in1 u [u,a] its.toArray.size (fun i v=>its.toArray[i]? = some v) St/\St i s.heap/\∀j h',St j h'->lc t a u j h':=by cases t with
|false=>obtain⟨its,rv,p,hz⟩:=I.list hq;exact⟨its,_,rv,Xf (A:=X.A.in1) (show X.A.in1.handled=none from I.ok.hd hc) u a hau its.toArray,⟨hi,p.isList⟩,fun j h' st=>st.1⟩
|true=>obtain⟨its,rv,p,hz⟩:=I.tuple hq;exact⟨its,_,rv,uB (A:=X.A.in1) (show X.A.in1.handled=none from I.ok.hd hc) u a hau its.toArray,⟨hi,p⟩,fun j h' st=>st.1⟩
theorem CT(I:Inv X pz σ H s)(h1:eR X.K t a H xs)(h2:eR X.K t a H ys):xs=ys:=by cases t with
|false=>exact I.list_inj h1 h2
|true=>exact I.tuple_inj h1 h2
theorem Ev(I:Inv X pz σ H s)(h1:eR X.K t a H xs):a<s.heap.objs.size:=by cases t with
|false=>obtain⟨its,rv,p,hz⟩:=I.list h1;obtain⟨o,ho,_⟩:=p.isList;exact A_ ho
|true=>obtain⟨its,rv,p,hz⟩:=I.tuple h1;obtain⟨o,ho,_⟩:=id p;exact A_ ho
theorem NW{h':Heap}{ch:List Addr}{t':Nat}(I:Inv X pz σ H s)(hch:∀b∈ch,c0 X pz H b)(k:∀b ob,b∉ch->s.heap.get? b=some ob->h'.get? b=some ob):Inv X pz σ H { s with heap:=h',toks:=t' }:=by
 have trk:∀b u,H b=some u->b∉ch:=fun b u e hb=>by rw[(hch b hb).1]at e;cases e
 refine I.step (g':=s.gens) (d':=s.drawn) (ch:=ch) (fun b hb=>?_) (fun b ob _ _ hc e _=>k b ob hc e) (fun b ob _ _ hc e _=>⟨ob.slots,k b ob hc e⟩) (fun b ob hc e n=>n)
  (fun b ob hc e=>⟨ob,k b ob hc e⟩) (fun b xs e=>e) (fun b ob u e=>e) (fun b ps e=>⟨#[],by rw[e];simp⟩) (fun m hm=>?_) (fun b u e=>?_) I.bare
 .obtain⟨z0,z1,z2,z3,z4,z5⟩:=hch b hb;exact⟨z3,z1,z4,z5⟩
 .obtain⟨ob,es,ep,ho,r⟩:=hm;exact⟨ob,es,ep,k _ ob (fun hb=>(hch _ hb).2.1 rfl) ho,r⟩
 .refine(I.hok b u e).stay (fun c v hc q=>k c v ?_ q) (fun c q=>q) fun c xs q=>q;rcases hc with z|z
  .rw[z];exact trk b u e
  .exact trk c _ z
end
def sT(sq1 sq2:Hp->List V->Prop):It:=⟨fun i H=>∃xs ys x y,sq1 H xs/\sq2 H ys/\xs[i]? = some x/\ys[i]? = some y,fun i H x H'=>∃p v u,H p=none/\x=.ref p/\H'=upd H p (.tup [v,u])/\(∀xs,sq1 H xs->xs[i]? = some v)/\∀ys,sq2 H ys->ys[i]? = some u,fun i H=>∃xs ys,sq1 H xs/\sq2 H ys/\min xs.length ys.length=i⟩
theorem My{P:J_}{w:QN}{H:Hp}{h:Heap}{T:Addr}{x y:c_}{v u:V}(hT:h.get? T=some { cls:=.type "tuple",data:=.seq #[x,y] })(r1:L2.av v x)(r2:L2.av u y):bG P w H h T (.tup [v,u]):=⟨by show 2<=sizeLine;decide,[x,y],.cons r1 (.cons r2 .nil),⟨_,hT,rfl,0,rfl⟩,_,hT,rfl⟩
theorem Nv{P:J_}{w:QN}{K:W.Frag}{elts:List Expr}{k:Nat}{pos:Pos}{t1 t2:Bool}(a b zp ti to u1 u2:Addr)(Z:ZA zp ti to u1 u2 [u1,a] [u2,b])(h1:a≠u1)(h2:b≠u2):Turn P w K (.Tuple elts k pos) (sT (eR K t1 a) (eR K t2 b)) [zp,ti,to,u1,u2] zp (fun i h=>UM h zp ti to .none/\SJ h ti (.ref u1) (.ref u2)/\(∃p q,SJ h to p q)/\lc t1 a u1 i h/\lc t2 b u2 i h) where
 mem:=by simp
 obj:=fun i h st c hc=>by
  obtain⟨hz,hi,⟨p,q,ho⟩,s1,s2⟩:=st;simp only[w_,Sa,or_false]at hc;rcases hc with rfl|rfl|rfl|rfl|rfl
  .exact⟨_,hz,fun v z=>by have z':Data.fields _=Data.cell v:=z;cases z'⟩
  .exact⟨_,hi,fun v z=>by have z':Data.seq _ _=Data.cell v:=z;cases z'⟩
  .exact⟨_,ho,fun v z=>by have z':Data.seq _ _=Data.cell v:=z;cases z'⟩
  .exact qw s1
  .exact qw s2
 keep:=fun i h h' st kk=>by obtain⟨hz,hi,⟨p,q,ho⟩,s1,s2⟩:=st;exact⟨kk zp (by simp) _ hz,kk ti (by simp) _ hi,⟨p,q,kk to (by simp) _ ho⟩,qO s1 fun o e=>kk u1 (by simp) o e,qO s2 fun o e=>kk u2 (by simp) o e⟩
 item:=by
  intro X hP hw hK hc i pz s σ H E I hf st hg;subst hP hw hK;obtain⟨xs,ys,x,y,q1,q2,hx,hy⟩:=hg;obtain⟨hz,hi,⟨p,q,ho⟩,s1,s2⟩:=st;obtain⟨its1,St1,rv1,D1,d1,f1⟩:=pI I hc q1 h1 s1;obtain⟨its2,St2,rv2,D2,d2,f2⟩:=pI I hc q2 h2 s2;have l1:i<its1.toArray.size:=by have:=(e_.mp hx).1;rw[o_,<-rv1.length];exact this
  have l2:i<its2.toArray.size:=by have:=(e_.mp hy).1;rw[o_,<-rv2.length];exact this
  refine Pk Z D1 D2 hz hi ho d1 d2 l1 l2 fun vx vy h' tk px py hz' hto' st1' st2' hT hsz hk=>⟨_,rfl,wpAny_letOwnedTupleGo_zip hz' fun h'' hz'' hs''=>?_⟩
  obtain⟨wx,e1,r1⟩:=rv1.get hx;obtain⟨wy,e2,r2⟩:=rv2.get hy;have ex:vx=wx:=by
   have:its1[i]? = some vx:=by simpa using px
   rw[e1]at this;exact(K_ this).symm
  have ey:vy=wy:=by
   have:its2[i]? = some vy:=by simpa using py
   rw[e2]at this;exact(K_ this).symm
  subst ex ey;have nT:∀c o,s.heap.get? c=some o->s.heap.objs.size≠c:=fun c o e=>RK (A_ e);have hT'':h''.get? s.heap.objs.size=some { cls:=.type "tuple",data:=.seq #[vx,vy] }:=(hs''.2 _ (nT _ _ hz)).trans hT;obtain⟨o1,ho1,_⟩:=qw s1;obtain⟨o2,ho2,_⟩:=qw s2;refine⟨.ref s.heap.objs.size,upd H s.heap.objs.size (.tup [x,y]),wH (s:=s) (h':=h'') (t':=tk) (ch:=[zp,to,u1,u2]) I (fun c hc=>hf c ?_) (fun c ob hb e=>?_) (q_ _) (My hT'' r1 r2),rfl,⟨_,x,y,I.hok.fresh (q_ _),rfl,rfl,fun zs hz=>by rw[CT I hz q1];exact hx,fun zs hz=>by rw[CT I hz q2];exact hy⟩,⟨hz'',?_,⟨vx,vy,?_⟩,?_,?_⟩,fun c hc=>?_⟩
  .simp only[w_,Sa,or_false]at hc ⊢;rcases hc with rfl|rfl|rfl|rfl <;> simp
  .simp only[w_,Sa,or_false,not_or]at hb;exact(hs''.2 c hb.1).trans (hk c ob hb.1 hb.2.1 hb.2.2.1 hb.2.2.2 e)
  .exact(hs''.2 _ Z.a1).trans (hk _ _ Z.a1 Z.a8.1 Z.a8.2.1 Z.a8.2.2 hi)
  .exact(hs''.2 _ Z.a2).trans hto'
  .exact qO (f1 _ _ st1') fun o e=>(hs''.2 _ Z.a3).trans e
  .exact qO (f2 _ _ st2') fun o e=>(hs''.2 _ Z.a4).trans e
  .rw[bn ?_]
   .exact(hf c hc).1
   .simp only[w_,Sa,or_false]at hc;rcases hc with rfl|rfl|rfl|rfl|rfl
    .exact(nT _ _ hz).symm
    .exact(nT _ _ hi).symm
    .exact(nT _ _ ho).symm
    .exact(nT _ _ ho1).symm
    .exact(nT _ _ ho2).symm
 done:=by
  intro X hP hw hK hc i pz s σ H E I hf st hg;subst hP hw hK;obtain⟨xs,ys,q1,q2,hm⟩:=hg;obtain⟨hz,hi,⟨p,q,ho⟩,s1,s2⟩:=st;obtain⟨its1,St1,rv1,D1,d1,f1⟩:=pI I hc q1 h1 s1;obtain⟨its2,St2,rv2,D2,d2,f2⟩:=pI I hc q2 h2 s2;have l1:=rv1.length;have l2:=rv2.length;refine P5 Z D1 D2 hz hi ho d1 d2 ?_ fun h' tk hk=>⟨rfl,NW (h':=h') (t':=tk) (ch:=[zp,to,u1,u2]) I (fun c hc=>hf c ?_) fun c ob hb e=>?_⟩
  .rw[o_,o_];omega
  .simp only[w_,Sa,or_false]at hc ⊢;rcases hc with rfl|rfl|rfl|rfl <;> simp
  .simp only[w_,Sa,or_false,not_or]at hb;exact hk c ob hb.1 hb.2.1 hb.2.2.1 hb.2.2.2 e
 self:=fun _ _ _ _ _ st h=>WE st.1 h
def iW(fa fb:FE):FI:=fun r=>(fa r).bind fun d=>(fb r).bind fun e=>(bX (bv d)).bind fun ds=>(bX (bv e)).bind fun es=>.ok (S4 (fun a b=>D.tup [a,b]) ds es)
theorem MZ{α β γ:Type}(f:α->β->γ):∀(l:List α)(r:List β)(i:Nat),(S4 f l r)[i]? = (match l[i]?,r[i]? with|some a,some b=>some (f a b)|_,_=>none):=fun l r i=>by rw[VF];cases l[i]? <;> cases r[i]? <;> rfl
theorem Kq{K:W.Frag}{ds es:List D}{G0:GH}{sq1 sq2:Hp->List V->Prop}(h1:∀G H,aQ G0 G->aN K G H->∃xs,sq1 H xs/\bC K G xs ds)(h2:∀G H,aQ G0 G->aN K G H->∃xs,sq2 H xs/\bC K G xs es):Yields K (sT sq1 sq2) (S4 (fun a b=>D.tup [a,b]) ds es) G0:=by
 refine⟨fun G H i w gk hi=>?_,fun G H i x H' d w gk y e=>?_,fun G H w gk=>?_⟩
 .obtain⟨xs,s1,r1⟩:=h1 G H w gk;obtain⟨ys,s2,r2⟩:=h2 G H w gk;rw[Ur]at hi;have l1:=Paired.length r1;have l2:=Paired.length r2;exact⟨xs,ys,xs[i]'(by omega),ys[i]'(by omega),s1,s2,b_ _,b_ _⟩
 .obtain⟨xs,s1,r1⟩:=h1 G H w gk;obtain⟨ys,s2,r2⟩:=h2 G H w gk;obtain⟨p,v,u,hp,rfl,rfl,hv,hu⟩:=y;rw[MZ]at e;cases e1:ds[i]? with
 |none=>rw[e1]at e;cases e
 |some d1=>cases e2:es[i]? with
  |none=>rw[e1,e2]at e;cases e
  |some d2=>rw[e1,e2]at e;cases e;obtain⟨v',z1,rv⟩:=Paired.get r1 e1;obtain⟨u',z2,ru⟩:=Paired.get r2 e2;have a1:=hv xs s1;have a2:=hu ys s2;rw[z1]at a1;cases a1;rw[z2]at a2;cases a2;exact⟨_,Grow.newF gk hp (.tup (.inl ca) (.cons rv (.cons ru .nil))),.ref dB⟩
 .obtain⟨xs,s1,r1⟩:=h1 G H w gk;obtain⟨ys,s2,r2⟩:=h2 G H w gk;refine⟨xs,ys,s1,s2,?_⟩;rw[Ur,Paired.length r1,Paired.length r2]
section
variable{X:Cx}{g:GE}{m:List Md}{e1 e2:Expr}{fa fb:FE}{pos p pos2:Pos}{elts:List Expr}{kk:Nat}
theorem Ky{pz:List (Addr×Obj)}{σ:L2.St}{H:Hp}{s:k_}{t1 t2:Bool}{a b:Addr}{xs ys:List V}{E:c_->k_->Prop}{Q:c_->k_->Prop}(I:Inv X pz σ H s)(q1:eR X.K t1 a H xs)(q2:eR X.K t2 b H ys)(h:gX s (zU t1) (zU t2) a b Q):I_ (QE X.prog X.w) X.A (call (.type "zip") [.ref a,.ref b]) Q E s:=by cases t1 with
|false=>obtain⟨its1,_,p1,_⟩:=I.list q1;cases t2 with
 |false=>obtain⟨its2,_,p2,_⟩:=I.list q2;exact MF p1.isList p2.isList h
 |true=>obtain⟨its2,_,p2,_⟩:=I.tuple q2;exact MG p1.isList (show s.heap.IsTuple b its2.toArray from p2) h
|true=>obtain⟨its1,_,p1,_⟩:=I.tuple q1;cases t2 with
 |false=>obtain⟨its2,_,p2,_⟩:=I.list q2;exact MH (show s.heap.IsTuple a its1.toArray from p1) p2.isList h
 |true=>obtain⟨its2,_,p2,_⟩:=I.tuple q2;exact MI (show s.heap.IsTuple a its1.toArray from p1) (show s.heap.IsTuple b its2.toArray from p2) h
theorem jf{x y:Nat}(h:x≠y):(show Addr from x)≠(show Addr from y):=h
theorem mU{x u a:Nat}(h1:x≠u)(h2:x≠a):(show Addr from x)∉[(show Addr from u),(show Addr from a)]:=fun h=>by
 rcases w_.mp h with h|h
 .exact h1 h
 .exact h2 (D_.mp h)
theorem Kr{a b k:Nat}(la:a<k)(lb:b<k):ZA (show Addr from k+4) (show Addr from k+2) (show Addr from k+3) (show Addr from k) (show Addr from k+1) [(show Addr from k),(show Addr from a)] [(show Addr from k+1),(show Addr from b)]:=⟨jf (by omega),jf (by omega),jf (by omega),jf (by omega),jf (by omega),jf (by omega),jf (by omega),⟨jf (by omega),jf (by omega),jf (by omega)⟩,⟨mU (by omega) (by omega),mU (by omega) (by omega),mU (by omega) (by omega)⟩,⟨mU (by omega) (by omega),mU (by omega) (by omega),mU (by omega) (by omega)⟩⟩
theorem Jp{c k:Nat}(h:c=k+4\/c=k+2\/c=k+3\/c=k\/c=k+1):k<=c:=by omega
theorem JK{ta tb:TE}(hg:Gl X "zip")(hm:X.mg "zip" = none)(ha:PE X e1 ta)(hb:PE X e2 tb)(hs:s_ [e1,e2] X.env=(false,eval e1 X.env)::s_ [e2] X.env:=by rfl)(hs2:s_ [e2] X.env=(false,eval e2 X.env)::s_ [] X.env:=by rfl)(hpl:(backTo pos (s_ [e2] X.env)).any (·.1)=false:=by rfl):PI X (.Tuple elts kk pos2) (.Call (.Name "zip" p) [e1,e2] [] pos) (fun σ H R=>ta σ H fun x H1=>tb σ H1 fun y H2=>∃(t1 t2:Bool)(a b:Addr),x=.ref a/\y=.ref b/\(∃xs,eR X.K t1 a H2 xs)/\(∃ys,eR X.K t2 b H2 ys)/\R (sT (eR X.K t1 a) (eR X.K t2 b)) H2):=by
 intro pz s σ H R I h;refine Call_ (mQ I hg hm boot_zip (R4 (aR (iy ha (iy hb kF hs2) hs pos pz s σ H (fun vs H2=>match vs with
 |[x,y]=>∃(t1 t2:Bool)(a b:Addr),x=.ref a/\y=.ref b/\(∃xs,eR X.K t1 a H2 xs)/\(∃ys,eR X.K t2 b H2 ys)/\R (sT (eR X.K t1 a) (eR X.K t2 b)) H2
 |_=>False) I h) fun us s1 ⟨vs,H1,I1,r1,q1⟩=>?_) hs hpl))
 cases r1 with
|nil=>exact q1.elim
|@cons x u xs us rx rt=>cases rt with
|nil=>exact q1.elim
|@cons y u' xs' us' ry rt'=>cases rt' with
|cons _ _=>exact q1.elim
|nil=>
 obtain⟨t1,t2,a,b,rfl,rfl,⟨zs,z1⟩,⟨ws,z2⟩,q⟩:=q1;cases rx;cases ry;have la:=Ev I1 z1;have lb:=Ev I1 z2;refine Ky I1 z1 z2 fun h' hz hi ho o1 o2 kp=>WE hz ?_;refine⟨_,[s1.heap.objs.size+4,s1.heap.objs.size+2,s1.heap.objs.size+3,s1.heap.objs.size,s1.heap.objs.size+1],_,_,H1,rfl,I1.kept (t':=s1.toks) kp,Nv (t1:=t1) (t2:=t2) a b _ _ _ _ _ (Kr la lb) (QM la) (QM (UV lb)),⟨hz,hi,⟨_,_,ho⟩,CC o1,CC o2⟩,fun c hc=>?_,q⟩;have hge:s1.heap.objs.size<=c:=by simp only[w_,Sa,or_false]at hc;exact Jp hc
 exact I1.fpOk hge (I1.hok.fresh hge)
theorem AG(hg:Gl X "zip")(hm:X.mg "zip" = none)(ha:SE X g m e1 fa)(hb:SE X g m e2 fb)(hs:s_ [e1,e2] X.env=(false,eval e1 X.env)::s_ [e2] X.env:=by rfl)(hs2:s_ [e2] X.env=(false,eval e2 X.env)::s_ [] X.env:=by rfl)(hpl:(backTo pos (s_ [e2] X.env)).any (·.1)=false:=by rfl):ju X g m (.Tuple elts kk pos2) (.Call (.Name "zip" p) [e1,e2] [] pos) (iW fa fb):=by
 refine PI.imp (JK hg hm ha hb hs hs2 hpl) fun σ H R ⟨r,G,si,q⟩=>⟨r,G,si,bg (ba q) fun d q v G1 H1 w1 rv=>⟨r,G1,si.grow w1,?_⟩⟩
 refine fL (ba q) w1 fun e q u G2 H2 w2 ru=>?_;obtain⟨ds,ed,q⟩:=cD (ba q);obtain⟨es,ee,q⟩:=cD (ba q);have rv2:=rv.mono w2.ge;have one:∀{v:V}{d:D}{ds:List D},RG X.K G2 v d->bv d=some ds->∃(t:Bool)(a:Addr),v=.ref a/\(∃xs,eR X.K t a H2 xs)/\∀G H,aQ G2 G->aN X.K G H->∃xs,eR X.K t a H xs/\bC X.K G xs ds:=by intro v d ds rv ed;cases d with
 |lst ds'=>cases ed;obtain⟨a,xs,rfl,s,rs⟩:=rv.lst w2.ok;refine⟨false,a,rfl,⟨xs,s⟩,fun G H le gk=>?_⟩;obtain⟨b,ys,e,s',r'⟩:=(rv.mono le).lst gk;cases e;exact⟨ys,s',r'⟩
 |tup ds'=>cases ed;obtain⟨a,xs,rfl,s,rs⟩:=rv.tup w2.ok;refine⟨true,a,rfl,⟨xs,s⟩,fun G H le gk=>?_⟩;obtain⟨b,ys,e,s',r'⟩:=(rv.mono le).tup gk;cases e;exact⟨ys,s',r'⟩
 |_=>cases ed
 obtain⟨t1,a,rfl,x1,y1⟩:=one rv2 ed;obtain⟨t2,b,rfl,x2,y2⟩:=one ru ee;exact⟨t1,t2,a,b,rfl,rfl,x1,x2,q _ G2 H2 (w1.trans w2) (Kq y1 y2)⟩
end
def mq:Nat:=2^2000
def mB(i j:Int):Prop:=i.natAbs<mq/\j.natAbs<mq
def pS(_i j:Int):Prop:=0<j/\j.natAbs<mq
instance decMulW(i j:Int):Decidable (mB i j):=by unfold mB;infer_instance
instance decDivW(i j:Int):Decidable (pS i j):=by unfold pS;infer_instance
theorem Ca{i:Int}(h:i.natAbs<mq):Tv i<=2000:=by
 unfold Tv;split
 .exact QX _
 .rename_i z;have h0:i.natAbs≠0:=fun e=>z (by rw[Int.natAbs_eq_zero.mp e];rfl);have:=(Yk h0).mpr h;omega
theorem mB.ok{i j:Int}(h:mB i j):IntMulOk i j:=by
 have h1:=Ca h.1;have h2:=Ca h.2;unfold IntMulOk;have e:VG ((Tv i:Int)+(Tv j:Int))=false:=by
  unfold VG;have:((bitsLine:Nat):Int)=134217728:=by decide+kernel
  exact decide_eq_false (by omega)
 rw[e];simp
theorem LW:a9 X (Sb .Mult) (rI mB fun i j=>.int (i*j)):=nr fun _ _ _ _ _ _ _ hc q=>mul_int q hc.ok
theorem Mx:a9 X (Sb .FloorDiv) (rI pS fun i j=>.int (i/j)):=nr fun i j _ _ _ _ _ hc q=>by
 have h1:(0:Int)<j:=hc.1;have h2:j.natAbs<mq:=hc.2;have h0:j.natAbs≠0:=by omega
 have:=(Yk h0).mpr h2;exact floordiv_int (by omega) (by rw[UD i (by omega)];exact q) (.inl (PyProof.noPylong_of_log2 (by omega)))
abbrev cX:D->D->Option D:=jb mB fun a b=>.int (a*b)
abbrev nA:D->D->Option D:=jb pS fun a b=>.int (a/b)
section
variable{X:Cx}{g:GE}{m:List Md}{e a b c o:Expr}{es:List Expr}{f fa fb fc fo:FE}{fl:ao->Res (List D)}{pos p apos cpos:Pos}
theorem jh(ha:SB X g m a fa)(hb:SB X g m b fb):SE X g m (.BinOp a .Mult b pos) (f2 fa fb cX):=jy LW (mW fun _ _=>.int _) ha hb
theorem CO(ha:SB X g m a fa)(hb:SB X g m b fb):SE X g m (.BinOp a .FloorDiv b pos) (f2 fa fb nA):=jy Mx (mW fun _ _=>.int _) ha hb
def absD:List D->Option D
|[.int i]=>some (.int (if i<0 then-i else i))
|_=>none
theorem Ho{K:W.Frag}:ny K (fun xs H Q=>∃i:Int,xs=[.int i]/\Q (.int (if i<0 then-i else i)) H) absD:=by
 intro G H vs ds d Q gk rs e q;unfold absD at e;split at e
 .cases e;cases rs with
 |cons r1 t=>cases t;exact⟨_,by rw[r1.int gk],q _ G H (Grow.refl gk) (.scl (.int _))⟩
 .cases e
theorem Im(hg:Gl X "abs")(hm:X.mg "abs" = none)(ha:gG X g m (e::es) fl)(he:s_ (e::es) X.env=(false,eval e X.env)::s_ es X.env:=by rfl)(hpl:(backTo pos (s_ es X.env)).any (·.1)=false:=by rfl):SE X g m (.Call (.Name "abs" p) (e::es) [] pos) (fC fl absD):=jZ Ho (lG MC hg hm PyProof.Rows.boot_abs ha (by decide) (by decide) he hpl)
theorem qq{x:Str}{d:D}(hg:Gl X x)(hk:∃a,X.mg x=some (.ref a)/\KC X.K a d)(hd:(x==("__debug__" : Str))=false:=by decide):SE X g m (.Name x pos) fun _=>.ok d:=by obtain⟨a,hm,k⟩:=hk;exact PE.imp (Ls (v:=.ref a) hg hm rfl hd) fun σ H Q ⟨r,G,si,q⟩=>q (.ref a) G H (Grow.refl si.gok) (.kc k)
theorem Aj{K:W.Frag}{h:Heap}{mg:Str->Option c_}{x:Str}(KX:K.In h)(G:h.Ns Ri mg){a:Addr}{i j:Int}{t u:Tok}{n:Nat}{sl:Array (Option c_)}(z:W.nsIn K Ri x=some (some (.ref a)))(l:K.lookup a=some ⟨.type "tuple",none,.seq #[.int i t,.int j u] n,sl⟩):∃a,mg x=some (.ref a)/\KC K a (.tup [.int i,.int j]):=by refine⟨a,W.mg_of KX G z,.tup (xs:=[.int i,.int j]) (.inr ⟨_,_,_,l,rfl,rfl,?_,.cons ⟨_,rfl⟩ (.cons ⟨_,rfl⟩ .nil)⟩) (.cons (.int _) (.cons (.int _) .nil)) ⟨_,l,rfl,rfl⟩⟩;show 2<=sizeLine;rw[QZ];decide
def C6(K:W.Frag):V->List V->Hp->VK->Prop:=fun x vs H Q=>∃p xs y,x=.ref p/\vs=[y]/\aY K H p xs/\d9 y=true/\xs.all d9=true/\Q (.int ((xs.countP fun z=>fw z y:Nat):Int)) H
theorem Ce{y:V}:∀{xs:List V}{us:List c_},aq xs us->xs.all d9=true->us.countP (c8 y)=xs.countP fun z=>fw z y
|_,_,.nil,_=>rfl
|x::xs,u::us,.cons r t,f=>by rw[R9,QG]at f;rw[Tq,Tq,Ce t f.2,nQ r f.1]
theorem EG:jw X "list.count" (C6 X.K):=by
 intro pz s σ H x vs v us Q I rx rv h;obtain⟨p,xs,y,rfl,rfl,hq,fy,fx,q⟩:=h;cases rx;obtain⟨u,rfl,ru⟩:=fG rv;obtain⟨its,r,pl,hz⟩:=I.list hq;obtain⟨o,n,ho,hc,hd,hs⟩:=pl;obtain⟨ocls,odict,odata,oslots⟩:=o;simp only at hc hd hs;subst hc hd hs;refine TH TV ⟨_,ho,rfl⟩ PySem.F.entry_list_count (PySem.F.args_list_count_2 _ _)
  (SeqAt.list_countAt p its.toArray n none oslots u (c8 y)) ⟨ho,fun w hw=>lF ru fy r fx w (by simpa using hw),⟨.int _,H,I.tok _,⟨_,rfl⟩,?_⟩⟩
 have e:(its.toArray.toList.countP (c8 y))=xs.countP fun z=>fw z y:=Ce r fx;rw[e];exact q
def mP(d:D)(zs:List D):Option D:=match d,zs with
|.lst ds,[x]=>if bY x=true/\ds.all bY=true then some (.int ((ds.countP fun z=>eqs z x:Nat):Int))else none
|_,_=>none
theorem Ej{K:W.Frag}:Ag K (C6 K) mP:=by
 intro G H v d vs ds d' Q gk rv rs e q;unfold mP at e;split at e
 .rename_i zs x;split at e
  .rename_i hc;cases e;cases rs with
  |cons r1 rt=>
    cases rt;obtain⟨a,xs,rfl,s,r⟩:=rv.lst gk;obtain⟨e1,f1⟩:=RB.flat r1 gk hc.1;obtain⟨e3,f3⟩:=sW r gk hc.2;refine⟨a,xs,_,rfl,rfl,s,f1,f3,?_⟩;have:(xs.countP fun z=>fw z (eu x))=zs.countP fun z=>eqs z x:=by rw[e3,WV];rfl
    rw[e1,this];exact q _ G H (Grow.refl gk) (.scl (.int _))
  .cases e
 .cases e
end
def l9:aA->D
|.inl i=>.int i
|.inr x=>.str x
theorem Ka(k:aA):Scl (kV k) (l9 k):=by cases k with
|inl i=>exact .int i
|inr x=>exact .str x
def jL:D->Option (List D)
|.dic kvs=>some (kvs.map fun kv=>l9 kv.1)
|_=>none
def sV(a:Addr)(ob:Obj)(ps:List (aA×V)):It:=⟨fun i H=>H a=some (.frz ob (.dK ps))/\i<ps.length,fun i H x H'=>H'=H/\∃kv,ps[i]? = some kv/\x=kV kv.1,fun i H=>H a=some (.frz ob (.dK ps))/\i=ps.length⟩
theorem I0{P:J_}{w:QN}{k:aA}{u:c_}(h:(en P w).is k u=true):av (kV k) u:=by
 rcases keyIs_shape h with⟨i,t,rfl,rfl⟩|⟨x,t,rfl,rfl⟩
 .exact⟨t,rfl⟩
 .exact⟨t,rfl⟩
section
variable{X:Cx}{pz:List (Addr×Obj)}{σ:L2.St}{H:Hp}{s:k_}{a:Addr}{ob:Obj}{ps:List (aA×V)}
theorem vR(I:Inv X pz σ H s)(e:H a=some (.frz ob (.dK ps))){es:Array Wx}{ep:Nat}(hob:ob.data=.dict es ep):∃vs,KV ps vs/\s.heap.DictAt (en X.prog X.w) a vs ep/\(a==Sx)=false:=by
 obtain⟨h1,z,y,vs,r,o',es',ep',h2,c1,c2,c3⟩:=(show bG X.prog X.w H s.heap a (.frz ob (.dK ps))from I.hok a _ e)
 rw[h1]at h2;cases h2;rw[hob]at c2;cases c2;exact⟨vs,r,⟨ob,es,h1,c1,hob,c3⟩,y⟩
theorem KL(I:Inv X pz σ H s)(e:H a=some (.frz ob (.dK ps))):∃(es:Array Wx)(ep:Nat),ob.data=.dict es ep:=by
 obtain⟨h1,z,y,vs,r,o',es',ep',h2,c1,c2,c3⟩:=(show bG X.prog X.w H s.heap a (.frz ob (.dK ps))from I.hok a _ e)
 rw[h1]at h2;cases h2;exact⟨es',ep',c2⟩
end
theorem O3{P:J_}{w:QN}{K:W.Frag}{tg:Expr}(a it:Addr){ob:Obj}{ps:List (aA×V)}{es:Array Wx}{ep:Nat}(hob:ob.data=.dict es ep):Turn P w K tg (sV a ob ps) [it] it (fun i h=>h.IsKeyIter it a i ps.length ep) where
 mem:=by simp
 obj:=fun i h st b hb=>by
  have e:b=it:=by simpa using hb
  subst e;obtain⟨o,e,c,d⟩:=st;exact⟨o,e,fun v z=>by rw[d]at z;cases z⟩
 keep:=fun i h h' st k=>st.at fun o e=>k it (by simp) o e
 item:=by
  intro X hP hw hK hc i pz s σ H E I hf st hg;subst hP hw hK;obtain⟨he,hi⟩:=hg;obtain⟨vs,r,m,_⟩:=vR I he hob;have hl:ps.length=vs.length:=Paired.length r;have hiv:i<vs.length:=by omega
  obtain⟨kv,h1,h2⟩:=DL.Paired.get r (b_ hiv);obtain⟨f0,f1,f2,f3,f4,f5⟩:=hf it (by simp);rw[hl]at st;refine wpAny_pyNext_dict_item (k:=vs[i].1) (v:=vs[i].2) st m (b_ hiv) fun key h' hkey hit' sb=>?_;have I1:Inv X pz σ H { s with heap:=h' }:=I.turned (t':=s.toks) (fun b o hb e=>(sb.2 b hb).trans e) f0 f1 f3 f4 f5;obtain⟨o,e,c,d⟩:=id hit';exact⟨key,rfl,pN (s:={ s with heap:=h' }) e c d (by decide) ⟨kV kv.1,H,I1,by rw[h2.1];exact I0 hkey,⟨rfl,kv,h1,rfl⟩,by rw[hl];exact hit',fun b hb=>(hf b hb).1⟩⟩
 done:=by intro X hP hw hK hc i pz s σ H E I hf st hg;subst hP hw hK;obtain⟨he,hi⟩:=hg;obtain⟨vs,r,m,_⟩:=vR I he hob;have hl:ps.length=vs.length:=Paired.length r;obtain⟨f0,f1,f2,f3,f4,f5⟩:=hf it (by simp);rw[hl]at st;exact wpAny_pyNext_dict_end (I.ok.hd hc) st m (by rw[z_];omega) fun h' eb=>⟨rfl,I.turned (t':=s.toks) (fun b o hb e=>eb b o hb e) f0 f1 f3 f4 f5⟩
 self:=fun _ _ _ _ _ st h=>wpAny_pyIter_keyiter st h
section
variable{X:Cx}{g:GE}{m m' m1 mb:List Md}{tg e a b c iter:Expr}{f fa fb:FE}{p:FQ}{pos pos':Pos}{ro:Bool}{fl:ao->Res (List D)}{sts:List Stmt}{s1:FS}
theorem C3{l:Expr}{tl:TE}(hl:PE X l tl):PI X tg l (fun σ H R=>tl σ H fun x H1=>∃a ob ps,x=.ref a/\H1 a=some (.frz ob (.dK ps))/\R (sV a ob ps) H1):=by
 intro pz s σ H R I h;refine aR (hl pz s σ H _ I h) fun v s1 ⟨x,H1,I1,r1,q1⟩=>?_;obtain⟨a,ob,ps,e,he,q⟩:=q1;subst e;cases r1;obtain⟨es,ep,hob⟩:=KL I1 he;obtain⟨vs,r,mm,hs⟩:=vR I1 he hob;have hl:ps.length=vs.length:=Paired.length r;refine wpAny_pyIter_dict hs mm ?_;refine⟨s1.heap.objs.size,[s1.heap.objs.size],_,_,H1,rfl,I1.kept (t':=s1.toks) fun b o e=>h_ _ e,O3 a _ hob,⟨_,B_ _ rfl,rfl,by rw[hl];rfl⟩,fun b hb=>?_,q⟩;have e:b=s1.heap.objs.size:=by simpa using hb
 subst e;exact I1.fpOk (q_ _) (I1.hok.fresh (q_ _))
theorem BP{K:W.Frag}{G:GH}{ps:List (aA×V)}{kvs:List (aA×D)}(r:c9 K G ps kvs){i:Nat}{kv:aA×V}{d:D}(h:ps[i]? = some kv)(hd:(kvs.map fun kv=>l9 kv.1)[i]? = some d):RG K G (kV kv.1) d:=by rw[t_]at hd;cases e:kvs[i]? with
|none=>rw[e]at hd;cases hd
|some q=>rw[e]at hd;cases hd;obtain⟨kv',h1,h2⟩:=DL.Paired.get r e;rw[h]at h1;cases h1;rw[h2.1];exact .scl (Ka _)
theorem RG.dicF{K:W.Frag}{G:GH}{H:Hp}{v:V}{kvs:List (aA×D)}(gk:aN K G H)(h:RG K G v (.dic kvs)):∃a ob ps,v=.ref a/\G a=some (.dic kvs)/\H a=some (.frz ob (.dK ps))/\c9 K G ps kvs:=by cases h with
|scl s=>cases s
|ref e=>cases gk _ _ e with
 |dic r s=>exact⟨_,_,_,rfl,e,r,s⟩
|kc k=>cases k
theorem KW{K:W.Frag}{a:Addr}{ob:Obj}{ps:List (aA×V)}{kvs:List (aA×D)}{G0:GH}{H0:Hp}(he:H0 a=some (.frz ob (.dK ps)))(r:c9 K G0 ps kvs):YieldsC K (sV a ob ps) (kvs.map fun kv=>l9 kv.1) G0 H0:=by have hl:ps.length=kvs.length:=Paired.length r;refine⟨fun G H i w hi=>⟨w.he _ _ he,by rw[m_]at hi;omega⟩,fun G H i x H' d w y e=>?_,fun G H w=>⟨w.he _ _ he,by rw[m_];omega⟩⟩;obtain⟨rfl,kv,h1,rfl⟩:=y;exact⟨G,Grow.refl w.ok,BP (c9.mono r w.ge) h1 e⟩
theorem J7(h:SE X g m e f):gU X g m tg e (aF jL f):=by
 refine PI.imp (C3 h) fun σ H R ⟨r,G,si,q⟩=>⟨r,G,si,bg (ba q) fun d q v G' H' w rv=>?_⟩
 obtain⟨ds,e,q⟩:=cD q;cases d with
|dic kvs=>cases e;obtain⟨a,ob,ps,rfl,_,he,rs⟩:=RG.dicF w.ok rv;exact⟨a,ob,ps,rfl,he,q _ G' H' w (KW he rs)⟩
|_=>cases e
def fD(g:GE)(a:Addr)(d:D)(u:HO):GE:=⟨gset g.gh a d,upd g.h0 a u,g.hd⟩
theorem SI.up{r:ao}{G:GH}{st:L2.St}{H:Hp}{a:Addr}{d:D}{u:HO}(s:SI X g m r G st H)(hG:G a=some d)(hH:H a=some u):SI X (fD g a d u) m r G st H where
 gok:=s.gok
 old:=fun b o e=>by
  by_cases hb:b=a
  .subst hb;have e':upd g.h0 b u b=some o:=e;rw[ca]at e';cases e';exact hH
  .have e':upd g.h0 a u b=some o:=e;rw[bn hb]at e';exact s.old b o e'
 ge:=fun b x e=>by
  by_cases hb:b=a
  .subst hb;have e':gset g.gh b d b=some x:=e;rw[dB]at e';cases e';exact hG
  .have e':gset g.gh a d b=some x:=e;rw[dM hb]at e';exact s.ge b x e'
 gf:=fun b h=>by
  show G b=gset g.gh a d b;by_cases hb:b=a
  .subst hb;rw[dB];exact hG
  .rw[dM hb];exact s.gf b fun z=>h (show upd g.h0 a u b=none by rw[bn hb];exact z)
 lm:=s.lm
 lr:=s.lr
 sh:=s.sh
 ow:=fun i x h1 h2=>by
  obtain⟨c,q1,q2,q3⟩:=s.ow i x h1 h2;refine⟨c,q1,q2,?_⟩;have hc:c≠a:=by rintro rfl;rw[q2.un]at hG;cases hG
  show upd g.h0 a u c=none;rw[bn hc];exact q3
 bw:=fun i x h1 h2=>by
  obtain⟨v,q1,q2⟩:=s.bw i x h1 h2;refine⟨v,q1,?_⟩;rcases q2 with q2|⟨c,e,q2,q3⟩
  .exact .inl q2
  .refine .inr ⟨c,e,q2,?_⟩;have hc:c≠a:=by rintro rfl;rw[q2.un]at hG;cases hG
   show upd g.h0 a u c≠none;rw[bn hc];exact q3
 dis:=s.dis
 lk:=s.lk
structure Had(g:GE)(a:Addr)(d:D)(u:HO):Prop where
 h0:∀o,g.h0 a=some o->o=u
 gh:∀x,g.gh a=some x->x=d
 gf:g.h0 a≠none->g.gh a=some d
theorem SI.had{r:ao}{G:GH}{st:L2.St}{H:Hp}{a:Addr}{d:D}{u:HO}(s:SI X g m r G st H)(hG:G a=some d)(hH:H a=some u):Had g a d u:=⟨fun o e=>by have:=s.old a o e;rw[hH]at this;cases this;rfl,fun x e=>by have:=s.ge a x e;rw[hG]at this;cases this;rfl,fun h=>by rw[<-s.gf a h];exact hG⟩
theorem SI.down{r:ao}{G:GH}{st:L2.St}{H:Hp}{a:Addr}{d:D}{u:HO}(hd:Had g a d u)(s:SI X (fD g a d u) m r G st H):SI X g m r G st H:=by
 have hH:H a=some u:=s.old a u ca;have hG:G a=some d:=s.ge a d dB;exact{
  gok:=s.gok
  old:=fun b o e=>by
   by_cases hb:b=a
   .subst hb;rw[hd.h0 o e];exact hH
   .exact s.old b o (show upd g.h0 a u b=some o by rw[bn hb];exact e)
  ge:=fun b x e=>by
   by_cases hb:b=a
   .subst hb;rw[hd.gh x e];exact hG
   .exact s.ge b x (show gset g.gh a d b=some x by rw[dM hb];exact e)
  gf:=fun b h=>by
   by_cases hb:b=a
   .subst hb;rw[hG,hd.gf h]
   .have:=s.gf b (show upd g.h0 a u b≠none by rw[bn hb];exact h);rw[this];exact dM hb
  lm:=s.lm
  lr:=s.lr
  sh:=s.sh
  ow:=fun i x h1 h2=>by
   obtain⟨c,q1,q2,q3⟩:=s.ow i x h1 h2;have hc:c≠a:=by rintro rfl;rw[q2.un]at hG;cases hG
   refine⟨c,q1,q2,?_⟩;have q3':upd g.h0 a u c=none:=q3;rw[bn hc]at q3';exact q3'
  bw:=fun i x h1 h2=>by
   obtain⟨v,q1,q2⟩:=s.bw i x h1 h2;refine⟨v,q1,?_⟩;rcases q2 with q2|⟨c,e,q2,q3⟩
   .exact .inl q2
   .have hc:c≠a:=by rintro rfl;rw[q2.un]at hG;cases hG
    refine .inr ⟨c,e,q2,?_⟩;have q3':upd g.h0 a u c≠none:=q3;rw[bn hc]at q3';exact q3'
  dis:=s.dis
  lk:=s.lk }
theorem Grow.down{K:W.Frag}{G':GH}{H':Hp}{a:Addr}{d:D}{u:HO}(hd:Had g a d u)(w:Grow K (fD g a d u).gh (fD g a d u).h0 G' H'):Grow K g.gh g.h0 G' H':=
 ⟨w.ok,fun b o e=>by
  by_cases hb:b=a
  .subst hb;rw[hd.h0 o e];exact w.he b u ca
  .exact w.he b o (show upd g.h0 a u b=some o by rw[bn hb];exact e),fun b x e=>by
  by_cases hb:b=a
  .subst hb;rw[hd.gh x e];exact w.ge b d dB
  .exact w.ge b x (show gset g.gh a d b=some x by rw[dM hb];exact e),fun b h=>by
  by_cases hb:b=a
  .subst hb;rw[hd.gf h];exact w.ge b d dB
  .have:=w.gf b (show upd g.h0 a u b≠none by rw[bn hb];exact h);rw[this];exact dM hb⟩
def Qp(X:Cx)(g:GE)(m:List Md)(f:FE):TI:=fun σ H R=>∃r G,SI X g m r G σ H/\fin (f r) (fun d=>∀a ob ps kvs G' H',d=.dic kvs->Grow X.K G H G' H'->G' a=some (.dic kvs)->H' a=some (.frz ob (.dK ps))->c9 X.K G' ps kvs->R (sV a ob ps) H') (XW X σ G H)
theorem IM(h:SE X g m e f)(hd:∀r d,f r=.ok d->∃kvs,d=.dic kvs):PI X tg e (Qp X g m f):=by
 refine PI.imp (C3 h) fun σ H R ⟨r,G,si,q⟩=>⟨r,G,si,?_⟩
 cases er:f r with
|ok d=>rw[er]at q;intro v G' H' w rv;obtain⟨kvs,rfl⟩:=hd r d er;obtain⟨a,ob,ps,rfl,hG,he,rs⟩:=RG.dicF w.ok rv;exact⟨a,ob,ps,rfl,he,q a ob ps kvs G' H' rfl w hG he rs⟩
|exc x=>rw[er]at q;exact q
|stuck=>rw[er]at q;exact q
def nG(f:FE):FE:=fun r=>(f r).bind fun d=>match d with
|.dic kvs=>.ok (.dic kvs)
|_=>.stuck
theorem K4(h:SE X g m e f):SE X g m e (nG f):=PE.imp h fun σ H Q ⟨r,G,si,q⟩=>⟨r,G,si,by refine bg (ba q) fun d q v G' H' w rv=>?_;cases d with
|dic kvs=>exact q v G' H' w rv
|_=>exact q.elim⟩
theorem Ol(f:FE):∀r d,nG f r=.ok d->∃kvs,d=.dic kvs:=by intro r d e;unfold nG at e;cases er:f r with
|ok x=>rw[er,bind_ok]at e;cases x with
 |dic kvs=>cases e;exact⟨kvs,rfl⟩
 |_=>cases e
|exc x=>rw[er]at e;cases e
|stuck=>rw[er]at e;cases e
theorem NQ{r:ao}{q:List D->Prop}{x:D->Prop}(h:fin (aF jL f r) q x):fin (nG f r) (fun d=>∀kvs,d=.dic kvs->q (kvs.map fun kv=>l9 kv.1)) x:=by unfold aF at h;unfold nG;cases er:f r with
|ok d=>rw[er]at h;cases d with
 |dic kvs=>intro kvs' e;cases e;exact h
 |_=>exact h
|exc y=>rw[er]at h;exact h
|stuck=>rw[er]at h;exact h
theorem Br(hp:UB (QE X.prog X.w) X.A X.env X.xe)(hc:X.calm=true){ft:FT}(hi:SE X g m iter f)(hg:∀g',SG X g' m tg ft m)(hb:∀g',fR X g' ro m m sts s1 m)(hs:∀x,RP iter X.env x=pure x:=by intro _;rfl):SS X g ro mb m (.For tg iter sts [] pos) (cK m (aF jL f) ft s1) m:=by
 have hgA:PG X tg (fun v σ H Q=>∃g',tG X g' m m ft v σ H Q):=fun pz s σ H v u Q I r ⟨g',q⟩=>(hg g').2 pz s σ H v u Q I r q;have hbA:d7 X sts (fun D σ H=>∃g',tS X g' ro m m m s1 D σ H):=fun pz s σ H D I ⟨g',q⟩=>(hb g').2 pz s σ H D I q;refine⟨rfl,PS.imp (qh hp hc (IM (K4 hi) (Ol f)) hgA hbA hs) fun D σ H ⟨r,G,si,q⟩=>⟨r,G,si,bg (NQ (fJ si rfl q)) fun d q a ob ps kvs G0 H0 ed w0 hG0 hH0 rs0=>?_⟩⟩;replace q:=q kvs ed;have si0:=si.grow w0;have hl:ps.length=kvs.length:=Paired.length rs0;have had:=si0.had hG0 hH0;generalize hds:(kvs.map fun kv=>l9 kv.1)=ds at q;have hdl:ds.length=ps.length:=by rw[<-hds,m_];omega
 refine⟨fun i n σ H=>∃r G,SI X (fD g a (.dic kvs) (.frz ob (.dK ps))) m r G σ H/\aQ G0 G/\i<=ds.length/\n=ds.length-i/\bS X g ro m mb G D (aG ft s1 (ds.drop i) r),⟨ds.length,r,G0,si0.up hG0 hH0,aQ.refl G0,QX _,rfl,bS.gle q w0.ge⟩,?_⟩
 rintro i n σ1 H1 ⟨r1,G1,si1,le1,hi,rfl,q1⟩
 have hH1:H1 a=some (.frz ob (.dK ps)):=si1.old a _ ca;by_cases hlt:i<ds.length
 .have hd:ds.drop i=ds[i]::ds.drop (i+1):=RF hlt;rw[hd]at q1;unfold aG at q1;refine .inr ⟨⟨hH1,by omega⟩,fun σ' H'=>∃r G,SI X (fD g a (.dic kvs) (.frz ob (.dK ps))) m r G σ' H'/\aQ G0 G/\bS X g ro m mb G D (aG ft s1 (ds.drop (i+1)) r),fun σ' H' ⟨r',G',si',le',q'⟩=>⟨ds.length-(i+1),by omega,r',G',si',le',hlt,rfl,q'⟩,fun x H' y=>?_⟩;obtain⟨rfl,kv,hk1,rfl⟩:=y;have rv:RG X.K G1 (kV kv.1) ds[i]:=BP (c9.mono rs0 le1) hk1 (by rw[hds];exact b_ hlt);cases eft:ft ds[i] r1 with
 |none=>simp only[eft]at q1;exact q1.elim
 |some r2=>simp only[eft]at q1;refine⟨fD g a (.dic kvs) (.frz ob (.dK ps)),r1,G1,ds[i],si1,rv,r2,eft,fun σ2 si2=>⟨fD g a (.dic kvs) (.frz ob (.dK ps)),r2,G1,si2,?_⟩⟩;cases eb:s1 r2 with
  |nx r'=>simp only[eb]at q1;exact fun σ3 G3 H3 le3 si3=>⟨r',G3,si3,le1.trans le3,bS.gle q1 le3⟩
  |ct r'=>simp only[eb]at q1;exact fun σ3 G3 H3 le3 si3=>⟨r',G3,si3,le1.trans le3,bS.gle q1 le3⟩
  |bk r'=>simp only[eb]at q1;exact fun σ3 G3 H3 le3 si3=>q1 σ3 G3 H3 le3 (si3.down had)
  |rt d=>simp only[eb]at q1;intro v G2 H2 wr rv2;refine q1 v G2 H2 (wr.down had) ?_;cases ro with
   |false=>exact rv2
   |true=>
     rcases rv2 with⟨c,e1,e2,e3⟩|z
     .refine .inl ⟨c,e1,?_,e3⟩;have hca:c≠a:=by
       rintro rfl
       have:=wr.ge c _ dB;rw[e3.un]at this;cases this
      have e2':upd g.h0 a (.frz ob (.dK ps)) c=none:=e2;rw[bn hca]at e2';exact e2'
     .exact .inr z
  |exc x r'=>simp only[eb]at q1;exact fun pz e s' σ3 G3 H3 le3 si3=>q1 pz e s' σ3 G3 H3 le3 (si3.down had)
  |stuck=>simp only[eb]at q1;exact q1
 .have e:i=ds.length:=by omega
  subst e;rw[Tp]at q1;exact .inl ⟨⟨hH1,by omega⟩,q1 σ1 G1 H1 (aQ.refl _) (si1.down had)⟩
def j5:D->D->Option D
|.lst ds,.int k=>if-(2^62)<=k/\k<2^62/\ds.length*k.toNat<=sizeLine then some (.lst ((F_ k.toNat ds).flatten))else none
|_,_=>none
theorem A5{K:W.Frag}{G:GH}{xs:List V}{ds:List D}(r:bC K G xs ds):∀n:Nat,bC K G (F_ n xs).flatten (F_ n ds).flatten
|0=>.nil
|n+1=>by rw[RE,RE,Ra,Ra];exact DL.Paired.app r (A5 r n)
theorem GX(ha:SO X g m a fa)(hb:SB X g m b fb):SO X g m (.BinOp a .Mult b pos) (f2 fa fb j5):=by
 refine PE.imp (Ba IH ha hb) fun σ H Q ⟨r,G,si,q⟩=>⟨r,G,si,bg (ba q) fun d1 q1 p1 G1 H1 w1 hn1 o1=>⟨r,G1,si.grow w1,fL (ba q1) w1 fun d2 q2 v2 G2 H2 w2 r2=>?_⟩⟩
 obtain⟨d,e,q3⟩:=cD q2;have o2:=o1.mono w2;unfold j5 at e;split at e
 .split at e
  .rename_i ds k hk;cases e;cases o2.ob with
  |@lst xs _ hx rs=>have hl:=Paired.length rs;refine⟨p1,k,xs,rfl,r2.int w2.ok,hx,by omega,by omega,by rw[hl];exact hk.2.2,fun p hp=>?_⟩;have w3:=Grow.new w2.ok hp (.lst (F_ k.toNat xs).flatten);refine q3 p G2 _ ((w1.trans w2).trans w3) ?_ ⟨w2.ok.isN hp,.lst ca (A5 rs _)⟩;cases e:H p with
   |none=>rfl
   |some o=>rw[(w1.trans w2).he _ _ e]at hp;cases hp
  .cases e
 .cases e
end
def ir(g:GE)(H:Hp)(fp:List Addr)(i:Nat)(p:Addr):GE:=⟨g.gh,fun b=>if b∈fp then H b else g.h0 b,fun j=>if j=i then some (some (V.ref p),none)else g.hd j⟩
def gW(K:W.Frag)(G:GH)(H:Hp)(b:Addr)(ds:List D):Prop:=∃xs,H b=some (.lst xs)/\bC K G xs ds
structure LRw(K:W.Frag)(G:GH)(H:Hp)(p:Addr)(as:List Addr)(w:List (List D)):Prop where
 out:H p=some (.lst (as.map V.ref))
 nd:(p::as).Nodup
 un:∀b∈p::as,G b=none
 rw:Paired (gW K G H) as w
theorem gW.mono{K:W.Frag}{G G':GH}{H H':Hp}{b:Addr}{ds:List D}(h:gW K G H b ds)(ge:aQ G G')(he:H' b=H b):gW K G' H' b ds:=by obtain⟨xs,h1,h2⟩:=h;exact⟨xs,by rw[he];exact h1,h2.mono ge⟩
theorem DN{α β:Type}{F F':α->β->Prop}{l:List α}{r:List β}(h:Paired F l r)(f:∀a∈l,∀b,F a b->F' a b):Paired F' l r:=by induction h with
|nil=>exact .nil
|cons h _ ih=>exact .cons (f _ d_ _ h) (ih fun a ha=>f a (i_ _ ha))
theorem LRw.isS{K:W.Frag}{G:GH}{H:Hp}{p:Addr}{as:List Addr}{w:List (List D)}(h:LRw K G H p as w){b:Addr}(hb:b∈p::as):H b≠none:=by
 rcases w_.mp hb with rfl|hb
 .rw[h.out];simp
 .have:∀{as:List Addr}{w:List (List D)},Paired (gW K G H) as w->b∈as->H b≠none:=fun{as w} q hb=>by induction q with
  |nil=>cases hb
  |cons r _ ih=>
    rcases w_.mp hb with rfl|hb
    .obtain⟨xs,e,_⟩:=r;rw[e];simp
    .exact ih hb
  exact this h.rw hb
theorem LRw.mono{K:W.Frag}{G G':GH}{H H':Hp}{p:Addr}{as:List Addr}{w:List (List D)}(h:LRw K G H p as w)(ge:aQ G G')(he:∀b∈p::as,H' b=H b)(un:∀b∈p::as,G' b=none):LRw K G' H' p as w:=⟨by rw[he p d_];exact h.out,h.nd,un,DN h.rw fun b hb ds r=>r.mono ge (he b (i_ _ hb))⟩
def Gz(X:Cx)(g:GE)(i:Nat)(m:List Md)(r:ao)(w:List (List D))(G:GH)(st:L2.St)(H:Hp):Prop:=∃p as,LRw X.K G H p as w/\(∀b∈p::as,g.h0 b=none)/\SI X (ir g H (p::as) i p) m r G st H/\m[i]? = some .bw
section
variable{X:Cx}{g:GE}{i:Nat}{m m' m1:List Md}{r r':ao}{w:List (List D)}{G G':GH}{σ σ':L2.St}{H H':Hp}
abbrev QC:=ao->List (List D)->Option (ao×List (List D))
variable{st:Stmt}{sts:List Stmt}{ro:Bool}{mb:List Md}{s1:FS}{f1 f2:QC}{tg iter:Expr}{pos:Pos}
theorem J6{K:W.Frag}{H:Hp}:∀{as:List Addr}{w:List (List D)}{G:GH},aN K G H->Paired (gW K G H) as w->as.Nodup->(∀b∈as,G b=none)->∃G',aQ G G'/\(∀b,b∉as->G' b=G b)/\aN K G' H/\Paired (fun b ds=>G' b=some (.lst ds)) as w:=by
 intro as
 induction as with
|nil=>intro w G gk h _ _;cases h;exact⟨G,aQ.refl G,fun _ _=>rfl,gk,.nil⟩
|cons b as ih=>intro w G gk h nd un;cases h with
 |@cons _ ds _ w r t=>
   rw[List.nodup_cons]at nd;have hb:=un b d_;obtain⟨xs,e,rs⟩:=r;have g1:aN K (gset G b (.lst ds)) H:=gk.gset hb (.lst (.inl e) rs);obtain⟨G',l,o,g,q⟩:=ih g1 (DN t fun c hc ds r=>r.mono (eO hb) rfl) nd.2 fun c hc=>by rw[dM (by rintro rfl;exact nd.1 hc)];exact un c (i_ _ hc)
   refine⟨G',aQ.trans (eO hb) l,fun c hc=>?_,g,.cons (l _ _ dB) q⟩;rw[o c fun z=>hc (i_ _ z),dM (by rintro rfl;exact hc d_)]
theorem Oe{G:GH}{as:List Addr}{w:List (List D)}{b:Addr}(hb:b∈as)(q:Paired (fun b ds=>G b=some (.lst ds)) as w):∃ds,G b=some (.lst ds):=by induction q with
|nil=>cases hb
|cons h _ ih=>
  rcases w_.mp hb with rfl|hb
  .exact⟨_,h⟩
  .exact ih hb
theorem DC{fp:List Addr}{p:Addr}{d0:D}(si:SI X (ir g H fp i p) m r G σ H)(hm:m[i]? = some .bw)(h0:∀b∈fp,g.h0 b=none)(hS:∀b∈fp,H b≠none)(hb:∀j,j≠i->m[j]?≠some .bw)(le:aQ G G')(g2:aN X.K G' H)(out:∀b,b∉fp->G' b=G b)(hd:G' p=some d0):SI X g (m.set i .sh) (r.set i (some d0)) G' σ H:=by
 have hlt:i<m.length:=(e_.mp hm).1;have hst:σ[i]? = some (some (V.ref p)):=(si.lk i (some (V.ref p),none) (by show(if i=i then _ else _)=_;rw[if_pos rfl]) hm).1;have h0':∀b,b∉fp->(ir g H (fp) i p).h0 b=g.h0 b:=fun b hb=>by show(if b∈fp then H b else g.h0 b)=_;rw[if_neg hb]
 have h0i:∀b,b∈fp->(ir g H (fp) i p).h0 b≠none:=fun b hb=>by show(if b∈fp then H b else g.h0 b)≠_;rw[if_pos hb];exact hS b hb
 have nin:∀b,g.h0 b≠none->b∉fp:=fun b h z=>h (h0 b z);have mne:∀{j x},i≠j->(m.set i .sh)[j]? = some x->m[j]? = some x:=fun hij h=>by rw[j_ hij]at h;exact h
 refine⟨g2,fun a o e=>?_,fun a d e=>le a d (si.ge a d e),fun a h=>?_,by simpa using si.lm,by simpa using si.lr,fun j d h1 h2=>?_,fun j d h1 h2=>?_,fun j d h1 h2=>?_,fun j k a d e hjk h1 h2 m1 m2 z1 z2=>?_,fun j o hj hm'=>?_⟩
 .exact si.old a o (by rw[h0' a (nin a (by rw[e];simp))];exact e)
 .have hn:=nin a h;rw[out a hn];exact si.gf a (by rw[h0' a hn];exact h)
 .by_cases hij:i=j
  .subst hij;rw[p_ (by rw[si.lr,<-si.lm];exact hlt)]at h1;cases h1;exact⟨_,hst,.ref hd⟩
  .rw[j_ hij]at h1;obtain⟨v,y1,y2⟩:=si.sh j d h1 (mne hij h2);exact⟨v,y1,y2.mono le⟩
 .by_cases hij:i=j
  .subst hij;rw[p_ hlt]at h2;cases h2
  .rw[j_ hij]at h1;obtain⟨a,y1,y2,y3⟩:=si.ow j d h1 (mne hij h2);have hn:a∉fp:=fun z=>h0i a z y3;exact⟨a,y1,⟨by rw[out a hn];exact y2.un,y2.ob.mono le fun _ z=>z⟩,by rw[<-h0' a hn];exact y3⟩
 .by_cases hij:i=j
  .subst hij;rw[p_ hlt]at h2;cases h2
  .exact absurd (mne hij h2) (hb j (S0 hij))
 .have hij:i≠j:=by rintro rfl;rw[p_ hlt]at m1;cases m1
  have hik:i≠k:=by rintro rfl;rw[p_ hlt]at m2;cases m2
  rw[j_ hij]at h1;rw[j_ hik]at h2;exact si.dis j k a d e hjk h1 h2 (mne hij m1) (mne hik m2) z1 z2
 .by_cases hij:i=j
  .subst hij;rw[p_ hlt]at hm';cases hm'
  .exact absurd (mne hij hm') (hb j (S0 hij))
theorem Gz.frz(s:Gz X g i m r w G σ H)(hb:∀j,j≠i->m[j]?≠some .bw):∃G',aQ G G'/\(∀b d,G b=none->G' b=some d->∃ds,d=.lst ds)/\SI X g (m.set i .sh) (r.set i (some (.lst (w.map D.lst)))) G' σ H:=by
 obtain⟨p,as,R,h0,si,hm⟩:=s;have nd:=Q1.mp R.nd;obtain⟨G1,l1,o1,g1,q1⟩:=J6 si.gok R.rw nd.2 fun b hb=>R.un b (i_ _ hb);have hp1:G1 p=none:=by rw[o1 p nd.1];exact R.un p d_
 have rs:bC X.K G1 (as.map V.ref) (w.map D.lst):=by
  have:∀{as:List Addr}{w:List (List D)},Paired (fun b ds=>G1 b=some (.lst ds)) as w->bC X.K G1 (as.map V.ref) (w.map D.lst):=fun{as w} q=>by induction q with
  |nil=>exact .nil
  |cons h _ ih=>exact .cons (.ref h) ih
  exact this q1
 have g2:aN X.K (gset G1 p (.lst (w.map D.lst))) H:=g1.gset hp1 (.lst (.inl R.out) rs);have le:aQ G (gset G1 p (.lst (w.map D.lst))):=aQ.trans l1 (eO hp1);have out:∀b,b∉p::as->gset G1 p (.lst (w.map D.lst)) b=G b:=fun b hb=>by rw[dM (by rintro rfl;exact hb d_),o1 b fun z=>hb (i_ _ z)]
 refine⟨_,le,fun b d hn e=>?_,DC si hm h0 (fun b hb=>R.isS hb) hb le g2 out dB⟩;by_cases hbp:b=p
 .subst hbp;rw[dB]at e;cases e;exact⟨_,rfl⟩
 .rw[dM hbp]at e;by_cases hba:b∈as
  .obtain⟨ds,e1⟩:=Oe hba q1;rw[e1]at e;cases e;exact⟨_,rfl⟩
  .rw[o1 b hba,hn]at e;cases e
end
def RO(K:W.Frag)(H2:Hp)(p:Addr)(G:GH)(H:Hp)(ws:List V)(ds:List D):Prop:=Paired (fun v d=>∃b,v=V.ref b/\H2 b=none/\b≠p/\Own K G H b d) ws ds/\ws.Nodup
section
variable{K:W.Frag}{H2:Hp}{p:Addr}{G G':GH}{H H':Hp}{ws:List V}{ds:List D}
theorem RO.upd{o:HO}(h:RO K H2 p G H ws ds):RO K H2 p G (L2.upd H p o) ws ds:=⟨Paired.mono (fun v d ⟨b,e,h1,h2,h3⟩=>⟨b,e,h1,h2,h3.un,h3.ob.mono (fun _ _ z=>z) fun _ z=>by rw[bn h2];exact z⟩) h.1,h.2⟩
end
def Bn(sc osc:SK):SK:={ sc with names:=sc.names.map fun(n,k)=>if (k==.free&&osc.kind==.function&&osc.names.lookup n==some .cell)then(n,.cell)else(n,k) }
theorem OS{X0:Cx}{s0:k_}{H0:Hp}{N0:List Str}{sc0:SK}{cl:List (Str×Addr)}{C:Addr}{fp:List Addr}{osc:SK}{ON:List Str}{sc:SK}{N':List Str}{nl:Nat}{cap:List Nat}(h1:X0.env.scope=osc)(h2:N0=ON)(h:vO (Bn sc0 osc) ON sc N' nl cap=true):CompSc (fB X0 s0 H0 N0 sc0 cl C fp) sc N' nl cap:=dA (osc:=Bn sc0 osc) (ON:=ON) (by subst h1;rfl) h2 h
section
variable{X:Cx}{g:GE}{i:Nat}{m m' m1:List Md}{r r':ao}{w:List (List D)}{G G':GH}{σ σ':L2.St}{H H':Hp}
theorem SI.row{p:Addr}{as:List Addr}(R:LRw X.K G H p as w)(si:SI X (ir g H (p::as) i p) m r G σ H)(hm:m[i]? = some .bw)(hb:∀j,j≠i->m[j]?≠some .bw){b:Addr}(hbm:b∈p::as)(o:HO):SI X (ir g (upd H b o) (p::as) i p) m r G σ (upd H b o):=by
 have un:=R.un b hbm;have h0':∀c,c∉p::as->(ir g H (p::as) i p).h0 c=g.h0 c:=fun c hc=>by show(if c∈p::as then H c else g.h0 c)=_;rw[if_neg hc]
 have h0i:∀c,c∈p::as->(ir g H (p::as) i p).h0 c=H c:=fun c hc=>by show(if c∈p::as then H c else g.h0 c)=_;rw[if_pos hc]
 have k0':∀c,c∉p::as->(ir g (upd H b o) (p::as) i p).h0 c=g.h0 c:=fun c hc=>by show(if c∈p::as then _ else g.h0 c)=_;rw[if_neg hc]
 have k0i:∀c,c∈p::as->(ir g (upd H b o) (p::as) i p).h0 c=upd H b o c:=fun c hc=>by show(if c∈p::as then upd H b o c else g.h0 c)=_;rw[if_pos hc]
 refine⟨fun c d e=>?_,fun c u e=>?_,si.ge,fun c h=>?_,si.lm,si.lr,si.sh,fun j d h1 h2=>?_,fun j d h1 h2=>?_,si.dis,si.lk⟩
 .have hc:c≠b:=by rintro rfl;rw[un]at e;cases e
  exact(si.gok c d e).mono (fun _ _ z=>z) fun u z=>by rw[bn hc];exact z
 .by_cases hc:c∈p::as
  .rw[k0i c hc]at e;exact e
  .rw[k0' c hc]at e;have hcb:c≠b:=by rintro rfl;exact hc hbm
   rw[bn hcb];exact si.old c u (by rw[h0' c hc];exact e)
 .by_cases hc:c∈p::as
  .exact si.gf c (by rw[h0i c hc];exact R.isS hc)
  .rw[k0' c hc]at h;exact si.gf c (by rw[h0' c hc];exact h)
 .obtain⟨a,q1,q2,q3⟩:=si.ow j d h1 h2;have ha:a∉p::as:=fun z=>by rw[h0i a z]at q3;exact R.isS z q3
  have hab:a≠b:=by rintro rfl;exact ha hbm
  rw[h0' a ha]at q3;exact⟨a,q1,⟨q2.un,q2.ob.mono (fun _ _ z=>z) fun u z=>by rw[bn hab];exact z⟩,by rw[k0' a ha];exact q3⟩
 .by_cases hj:j=i
  .subst hj;have:=(si.lk j (some (V.ref p),none) (by show(if j=j then _ else _)=_;rw[if_pos rfl]) hm).2 d h1;cases this
  .exact absurd h2 (hb j hj)
variable{ro:Bool}{mb:List Md}{pos p1 p2 p3 p4 p5 p6 p7 p8 p9 p10 p11:Pos}{x xa xb:Str}{jc:Nat}
end
def lessA(H:Hp)(a:Addr):Hp:=fun b=>if b=a then none else H b
theorem Mh{H:Hp}{a b:Addr}(h:b≠a):lessA H a b=H b:=if_neg h
theorem Grow.lessA{K:W.Frag}{G G' G2:GH}{H H' H2:Hp}{a:Addr}(w:Grow K G H G' H')(ha:H a=none)(w2:Grow K G' (lessA H' a) G2 H2):Grow K G H G2 H2:=by
 have ne:∀b,H b≠none->b≠a:=fun b h=>by rintro rfl;exact h ha
 have he:∀b o,H b=some o->DL.lessA H' a b=some o:=fun b o e=>by rw[Mh (ne b (by rw[e];simp))];exact w.he b o e
 refine⟨w2.ok,fun b o e=>w2.he b o (he b o e),fun b d e=>w2.ge b d (w.ge b d e),fun b h=>?_⟩;rw[w2.gf b ?_,w.gf b h];cases e:H b with
|none=>exact absurd e h
|some o=>rw[he b o e];simp
def Qx(K:W.Frag)(ro:Bool)(ms:List Md)(F:List D->Res D):Sp:=fun vs H Q _=>∃G us a ds d,aN K G H/\vs=us++[V.ref a]/\ArgsOk K G H ms us ds/\Own K G H a d /\fin (F (ds++[d])) (fun d'=>∀v G' H',Grow K G (lessA H a) G' H'->RV ro K (lessA H a) G' H' v d'->Q v H') fun _=>False
section
variable{P:J_}{w:QN}{K:W.Frag}{mg:Str->Option c_}{base:Heap}
structure CalleeV(P:J_)(w:QN)(K:W.Frag)(mg:Str->Option c_)(base:Heap)(x:Str)(ps:List Str)(k:Nat)(ro:Bool)(ms:List Md)(F:List D->Res D):Prop where
 ex:∃f fd,mg x=some (.ref f)/\W.keepIn K (.ref f)=true/\io K fd ps []/\FnOk P w K mg base bR k f fd ps (Qx K ro ms F)
end
def gq(x:Int):List Int->List Int
|[]=>[x]
|y::l=>if x<=y then x::y::l else y::gq x l
def db:List Int->List Int
|[]=>[]
|x::l=>gq x (db l)
theorem xy(x:Int):∀l:List Int,(gq x l).Perm (x::l)
|[]=>.refl _
|y::l=>by
  unfold gq;by_cases h:x<=y
  .rw[if_pos h]
  .rw[if_neg h];exact((xy x l).cons y).trans (.swap x y l)
theorem wX:∀l:List Int,(db l).Perm l
|[]=>.refl _
|x::l=>(xy x (db l)).trans ((wX l).cons x)
theorem CB(x:Int):∀l:List Int,l.Pairwise (·<=·)->(gq x l).Pairwise (·<=·)
|[],_=>by unfold gq;simp
|y::l,h=>by
  rw[RH]at h;unfold gq;by_cases hx:x<=y
  .rw[if_pos hx,RH,RH];refine⟨fun z hz=>?_,h⟩;rcases w_.mp hz with rfl|hz
   .exact hx
   .exact Int.le_trans hx (h.1 z hz)
  .rw[if_neg hx,RH];refine⟨fun z hz=>?_,CB x l h.2⟩;rcases w_.mp ((xy x l).mem_iff.mp hz)with rfl|hz
   .omega
   .exact h.1 z hz
theorem vC:∀l:List Int,(db l).Pairwise (·<=·)
|[]=>.nil
|x::l=>CB x _ (vC l)
theorem tN:∀{a b:List Int},a.Perm b->a.Pairwise (·<=·)->b.Pairwise (·<=·)->a=b
|[],b,p,_,_=>(V1.mp p).symm
|x::a,[],p,_,_=>absurd (XR.mp p) (by simp)
|x::a,y::b,p,ha,hb=>by
  rw[RH]at ha hb;have h1:y<=x:=by
   rcases w_.mp (p.mem_iff.mp d_)with e|e
   .omega
   .exact hb.1 x e
  have h2:x<=y:=by
   rcases w_.mp (p.mem_iff.mpr d_)with e|e
   .omega
   .exact ha.1 y e
  have e:x=y:=by omega
  subst e;rw[tN (Wa p) ha.2 hb.2]
section
variable{X:Cx}{pz:List (Addr×Obj)}{σ:L2.St}{H:Hp}{s:k_}
theorem Pe:dZ X (.builtin "sorted") (fun xs H Q=>∃p ks,xs=[.ref p]/\aY X.K H p (ks.map V.int)/\ks.length<64/\∀l,H l=none->Q (.ref l) (upd H l (.lst ((db ks).map V.int)))):=by
 intro pz s σ H xs us Q I r h;obtain⟨p,ks,rfl,hq,h64,q⟩:=h;obtain⟨u,rfl,rx⟩:=fG r;cases rx;obtain⟨its,rv,pl,hz⟩:=I.list hq;have ia:S2 its ks:=by simpa using Fw rv
 obtain⟨mF,F⟩:=I.fr;refine W.kso_sorted F (wJ (g:=X.base) (h:=s.heap) (L:=X.env.locals)) pl.isList ia h64 fun D vs' ns' c h' F' N' hlt iv hln hpm hup _=>?_;have hDs:s.heap.get? D=none:=by cases z:s.heap.get? D with
 |none=>rfl
 |some o=>have zn:=(N' _ (d_)).2;exact absurd (hlt (D,o) (m6 zn.1 zn.2 z)) (Q_ _)
 have keepN:∀b o,b≠X.env.locals->s.heap.get? b=some o->h'.get? b=some o:=fun b o hb e=>by cases z:X.base.get? b with
 |some o'=>have:=I.bk b o' z;rw[e]at this;cases this;exact F'.keep b o z
 |none=>exact(N' (b,o) (i_ _ (m6 hb z e))).1
 have oD:=(N' _ d_)
 have e:ns'=db ks:=tN (hpm.trans (wX ks).symm) hup (vC ks);subst e;refine⟨.ref D,_,Inv.laidN (t':=_) (its:=vs') I hDs oD.2.1 keepN (fun m hm=>by rw[vL hm F.ns];exact F'.ns) oD.1 (xu iv) ?_,rfl,q D ?_⟩
 .rw[m_,hln,QZ];omega
 .cases z:H D with
 |none=>rfl
 |some u=>exact absurd hDs (bG.isS (I.hok D u z))
end
def uD:List D->Option D
|[.lst ds]=>(fH ds).bind fun ks=>if ks.length<64 then some (.lst ((db ks).map .int))else none
|_=>none
section
variable{X:Cx}{g:GE}{m:List Md}{a b:Expr}{fl:ao->Res (List D)}{fa fb:FE}{pos p:Pos}
theorem NO{k:Nat}(hr:Room k X.A)(hg:Gl X "sorted")(hm:X.mg "sorted" = none)(ha:gG X g m [a] fl)(hs:s_ [a] X.env=(false,eval a X.env)::s_ [] X.env:=by rfl):SO X g m (.Call (.Name "sorted" p) [a] [] pos) (fC fl uD):=by
 refine pW (R:=fun xs H Q=>∃p ks,xs=[.ref p]/\aY X.K H p (ks.map V.int)/\ks.length<64/\∀l,H l=none->Q (.ref l) (upd H l (.lst ((db ks).map V.int)))) ?_ (lG Pe hg hm (by first|exact Tx|rfl) ha (by decide) (by decide) hs rfl);intro G H vs ds d Q gk rs e q;unfold uD at e;split at e
 .rename_i zs;cases ek:fH zs with
 |none=>rw[ek]at e;cases e
 |some ks=>
   rw[ek]at e;have e':(if ks.length<64 then some (D.lst ((db ks).map .int))else none)=some d:=e;by_cases h64:ks.length<64
   .rw[if_pos h64]at e';cases e';cases rs with
   |cons r1 t=>
     cases t;obtain⟨b,xs,rfl,s,r⟩:=r1.lst gk;have ex:=qK gk r ek;subst ex;refine⟨b,ks,rfl,s,h64,fun l hl'=>q l G _ (Grow.new gk hl' _) hl' ⟨gk.isN hl',.lst ca ?_⟩⟩;have:∀l:List Int,bC X.K G (l.map V.int) (l.map D.int):=fun l=>by induction l with
     |nil=>exact .nil
     |cons x l ih=>exact .cons (.scl (.int x)) ih
     exact this _
   .rw[if_neg h64]at e';cases e'
 .cases e
end
inductive Cln:D->Prop where
 |non:Cln .non
 |bl (b:Bool):Cln (.bl b)
 |int (i:Int):Cln (.int i)
 |str (x:Str):Cln (.str x)
 |tup {ds:List D}:(∀d∈ds,Cln d)->Cln (.tup ds)
theorem Cln.lst{ds:List D}(h:Cln (.lst ds)):False:=nomatch h
theorem Cln.dic{ds:List (aA×D)}(h:Cln (.dic ds)):False:=nomatch h
theorem Cln.get{ds:List D}(h:Cln (.tup ds)):∀d∈ds,Cln d:=by cases h with
|tup h=>exact h
structure TL(K:W.Frag)(G:GH)(H:Hp)(p a:Addr)(d1:D)(ds:List D):Prop where
 tp:∃x xs,H p=some (.tup [x,.ref a])/\RG K G x d1/\H a=some (.lst xs)/\bC K G xs ds
 un:∀b∈[p,a],G b=none
 ne:p≠a
theorem TL.isS{K:W.Frag}{G:GH}{H:Hp}{p a:Addr}{d1:D}{ds:List D}(t:TL K G H p a d1 ds):∀b∈[p,a],H b≠none:=fun b hb=>by
 obtain⟨x,xs,h1,_,h2,_⟩:=t.tp;rcases w_.mp hb with rfl|hb
 .rw[h1];simp
 .rw[D_.mp hb,h2];simp
def RW(K:W.Frag)(H0:Hp)(G:GH)(H:Hp)(v:V)(d:D):Prop:=∃p a d1 ds,v=.ref p/\d=.tup [d1,.lst ds]/\(∀b∈[p,a],H0 b=none)/\TL K G H p a d1 ds
def Qw(K:W.Frag)(ms:List Md)(F:List D->Res D):Sp:=fun vs H Q _=>∃G ds,aN K G H/\ArgsOk K G H ms vs ds/\fin (F ds) (fun d=>∀v G' H',Grow K G H G' H'->RW K H G' H' v d->Q v H') fun _=>False
abbrev FW:=ao->Res D
section
variable{P:J_}{w:QN}{K:W.Frag}{mg:Str->Option c_}{base:Heap}
structure CalleeW(P:J_)(w:QN)(K:W.Frag)(mg:Str->Option c_)(base:Heap)(x:Str)(ps:List Str)(k:Nat)(ms:List Md)(F:List D->Res D):Prop where
 ex:∃f fd,mg x=some (.ref f)/\W.keepIn K (.ref f)=true/\io K fd ps []/\FnOk P w K mg base bR k f fd ps (Qw K ms F)
end
section
variable{X:Cx}{g:GE}{ro:Bool}{i:Nat}{m m' m1 mb ms:List Md}{r r':ao}{G G':GH}{σ σ':L2.St}{H H':Hp}{e c:Expr}{es:List Expr}{q:FQ}{st:Stmt}{sts sts1:List Stmt}{fl:ao->Res (List D)}{F:List D->Res D}{k:Nat}{ps:List Str}{pos p1 p2 p3 p4 apos cpos:Pos}{x y:Str}{d1:D}{ds:List D}
def Gy(X:Cx)(g:GE)(i:Nat)(m:List Md)(r:ao)(d1:D)(ds:List D)(G:GH)(st:L2.St)(H:Hp):Prop:=∃p a,TL X.K G H p a d1 ds/\(∀b∈[p,a],g.h0 b=none)/\SI X (ir g H [p,a] i p) m r G st H/\m[i]? = some .bw
theorem Gy.frz(s:Gy X g i m r d1 ds G σ H)(hb:∀j,j≠i->m[j]?≠some .bw):∃G',aQ G G'/\(∀b d,G b=none->G' b=some d->¬ Cln d)/\SI X g (m.set i .sh) (r.set i (some (.tup [d1,.lst ds]))) G' σ H:=by
 obtain⟨p,a,t,h0,si,hm⟩:=s;obtain⟨x,xs,h1,h2,h3,h4⟩:=t.tp;have ua:=t.un a (i_ _ d_);have up:=t.un p d_;have g1:aN X.K (gset G a (.lst ds)) H:=si.gok.gset ua (.lst (.inl h3) h4);have up1:gset G a (.lst ds) p=none:=by rw[dM t.ne];exact up
 have g2:aN X.K (gset (gset G a (.lst ds)) p (.tup [d1,.lst ds])) H:=g1.gset up1 (.tup (.inl h1) (.cons (h2.mono (eO ua)) (.cons (.ref dB) .nil)));refine⟨_,aQ.trans (eO ua) (eO up1),fun b d hn e hc=>?_,DC si hm h0 t.isS hb (aQ.trans (eO ua) (eO up1)) g2 (fun b hb=>?_) dB⟩
 .by_cases hbp:b=p
  .subst hbp;rw[dB]at e;cases e;exact(hc.get _ (i_ _ d_)).lst
  .rw[dM hbp]at e;by_cases hba:b=a
   .subst hba;rw[dB]at e;cases e;exact hc.lst
   .rw[dM hba,hn]at e;cases e
 .rw[dM (by rintro rfl;exact hb d_),dM (by rintro rfl;exact hb (i_ _ d_))]
end
end DL
section
namespace DL
section
open PySem PyProof.Rows PySem.W PySem.Calls
variable{prog:J_}{w:QN}{A:Q9}{E:c_->k_->Prop}{s:k_}{l:Addr}{vs:List c_}{ns:List Int}
end
open PySem PySem.Spec PyProof.Rows L2
end DL
end
namespace DL
open PySem PySem.Spec PyProof.Rows L2
section
variable{prog:J_}{w:QN}{A:Q9}{s:k_}
theorem Cj{fin:Bool}{Q:Bool->k_->Prop}:∀{ps qs:List c_}{ks ls:List Int}{i:Nat},S2 ps ks->S2 qs ls->fin=decide (ks.length<ls.length)->Q (aZ ks ls) s->W.KatLex prog w A true fin Q (ps.zip qs) i s
|_,_,_,_,_,.nil,.nil,e,h=>W.kat_nil (by rw[e];exact h)
|_,_,_,_,_,.nil,.cons _ _ _,e,h=>W.kat_nil (by rw[e];simpa[aZ]using h)
|_,_,_,_,_,.cons _ _ _,.nil,e,h=>W.kat_nil (by rw[e];simpa[aZ]using h)
|_,_,_,_,i,.cons n t a,.cons k u b,e,h=>by
  refine W.kat_cons (Wu ?_);unfold aZ at h;by_cases q:n=k
  .rw[if_pos q]at h;rw[beq_iff_eq.mpr q];exact W.kat_yes (Cj a b (by rw[e];simp) h)
  .rw[if_neg q]at h;rw[beq_eq_false_iff_ne.mpr q];refine W.kat_no ?_;cases i with
  |zero=>exact oneLt_int h
  |succ i=>exact W.kat_one _ _ (lt_int h)
inductive TupN(h:Heap):c_->List Int->Prop where
 |mk {u:c_} {ks:List Int}:TupI h u ks->ks≠[]->TupN h u ks
theorem Lp{p q:c_}{ks ls:List Int}{Q:Bool->k_->Prop}{E:c_->k_->Prop}(hp:TupN s.heap p ks)(hq:TupN s.heap q ls)(h:Q (aZ ks ls) s):I_ (QE prog w) A (keyLt' (tuples' true) p q) Q E s:=by cases hp with
|mk hp _=>cases hq with
 |mk hq _=>cases hp with
  |mk ha ia=>cases hq with
   |mk hb ib=>obtain⟨o,h1,h2,n,h3⟩:=ha;obtain⟨o',h1',h2',n',h3'⟩:=hb;refine W.kat_lt h1 h3 h1' h3' (Cj ia ib ?_ h);rw[<-Xi ia,<-Xi ib,RC,RC]
end
def pw(K:W.Frag)(H:Hp)(x:V)(k:List Int):Prop:=nw K H x k/\k≠[]
def kr{α:Type}(d:α)(ys:List α)(kss:List (List Int)):List α:=(d8 ys.length fun i j=>aZ (kss.getD i []) (kss.getD j [])).map fun i=>ys.getD i d
section
variable{X:Cx}{pz:List (Addr×Obj)}{σ:L2.St}{H:Hp}{s:k_}
theorem TupN.stay{h h':Heap}{L:Addr}{mm:Str->Option c_}(hL:h.Ns L mm)(k:∀b o,b≠L->h.get? b=some o->h'.get? b=some o){p:c_}{ns:List Int}(x:TupN h p ns):TupN h' p ns:=by cases x with
|mk a b=>exact .mk (a.stay hL k) b
theorem Me{h:Heap}{us:List c_}{kss:List (List Int)}(x:Paired (TupN h) us kss):∃fs,W.KatTups h us fs/\fs.length=us.length/\∀f∈fs,∃n t,f=Value.int n t:=by induction x with
|nil=>exact⟨[],W.KatTups.nil,rfl,fun f hf=>nomatch hf⟩
|cons x t ih=>obtain⟨fs,h1,h2,h3⟩:=ih;cases x with
 |mk x hn=>cases x with
  |@mk a items ks ht hi=>obtain⟨o,e1,e2,n,e3⟩:=ht;obtain⟨l⟩:=items;cases hi with
   |nil=>exact absurd rfl hn
   |cons m t hi=>
     refine⟨.int m t::fs,W.KatTups.cons e1 e2 e3 (by simp) h1,by simp[h2],fun f hf=>?_⟩;rcases w_.mp hf with rfl|hf
     .exact⟨_,_,rfl⟩
     .exact h3 f hf
theorem Nq(I:Inv X pz σ H s){ys:List V}{kss:List (List Int)}{us:List c_}(h:Paired (pw X.K H) ys kss)(v:aq ys us):Paired (TupN s.heap) us kss:=by induction h generalizing us with
|nil=>cases v;exact .nil
|cons h _ ih=>cases v with
 |cons r q=>exact .cons (.mk (Dp I h.1 r) h.2) (ih q)
theorem Pd{k:Nat}(hr:Room k X.A):dZ X (.builtin "sorted") (fun xs H Q=>∃p ys kss,xs=[.ref p]/\aY X.K H p ys/\Paired (pw X.K H) ys kss/\ys.length<64/\∀l,H l=none->Q (.ref l) (upd H l (.lst (kr .non ys kss)))):=by
 intro pz s σ H xs us Q I r h;obtain⟨p,ys,kss,rfl,hq,hk,h64,q⟩:=h;obtain⟨u,rfl,rx⟩:=fG r;cases rx;obtain⟨its,rv,pl,hz⟩:=I.list hq;have hl:=rv.length;have hkl:=Paired.length hk;by_cases h2:its.length<2
 .refine FM pl.isList h2 fun h' c D kp hD ho=>?_;have hs:s.heap.get? D=none:=Ue hD;refine⟨.ref D,_,Inv.laidN I hs (RK (C_ I.lt hD)) (fun b o _ e=>kp b o e) (fun m ⟨o,es,ep,e,z⟩=>⟨o,es,ep,kp _ _ e,z⟩) ho rv (by omega) s.toks,rfl,?_⟩;have e:kr V.non ys kss=ys:=by unfold kr d8;rw[if_pos (by omega)];refine Va (by simp) fun i a b=>?_;simp[x_,b]
  have:=q D (I.hok.fresh hD);rw[e]at this;exact this
 .obtain⟨mF,F⟩:=I.fr;have trs:=Nq I hk rv;refine W.kat_sorted F (wJ (g:=X.base) (h:=s.heap) (L:=X.env.locals)) pl.isList (by omega) (by omega) fun D e1 h' F' N' hlt=>?_;have hDs:s.heap.get? D=none:=by cases z:s.heap.get? D with
  |none=>rfl
  |some o=>have zn:=(N' _ (d_)).2;exact absurd (hlt (D,o) (m6 zn.1 zn.2 z)) (Q_ _)
  have keepN:∀{h2:Heap}{oD:Obj},Fr X.base X.env.locals h2 mF->News X.base X.env.locals h2 ((D,oD)::mR X.base s.heap X.env.locals)->∀b o,b≠X.env.locals->s.heap.get? b=some o->h2.get? b=some o:=fun{h2 oD} F2 N2 b o hb e=>by cases z:X.base.get? b with
  |some o'=>have:=I.bk b o' z;rw[e]at this;cases this;exact F2.keep b o z
  |none=>exact(N2 (b,o) (i_ _ (m6 hb z e))).1
  have k1:=keepN F' N';have trs':Paired (TupN h') its kss:=Paired.mono (fun _ _ x=>x.stay F.ns k1) trs;obtain⟨fs,t1,t2,t3⟩:=Me trs';refine W.kat_kind (T:=.type "int") t1 (by omega) (fun v hv=>?_) (by decide) ?_
  .obtain⟨n,t,rfl⟩:=t3 v hv;exact .now
  have hn:0<its.length:=by omega
  refine EA (n:=its.length) (c:=fun i j=>aZ (kss.getD i []) (kss.getD j [])) (fun i j C hi hj hC=>?_) (wS hn) ?_
  .have gi:∀i,i<its.length->TupN h' (its.getD i Value.none) (kss.getD i []):=fun i hi=>by
    have hki:i<kss.length:=by omega
    obtain⟨a,ha,hx⟩:=Paired.get trs' (b_ hki);rw[x_,ha,x_,b_ hki];exact hx
   exact Lp (gi i hi) (gi j hj) hC
  .refine W.KasFin.intro F' N' (.head fun q hq z=>?_) fun h3 c F3 N3=>?_
   .have:=hlt q hq;rw[z]at this;exact Q_ _ this
   .have oD:=(N3 _ d_)
    have hix:∀i∈d8 ys.length (fun i j=>aZ (kss.getD i []) (kss.getD j [])),i<ys.length:=fun i hi=>kR hi;have e0:(kasRun (fun i j=>aZ (kss.getD i []) (kss.getD j [])) (W.kas_sort its.length)).toList=d8 ys.length (fun i j=>aZ (kss.getD i []) (kss.getD j [])):=by unfold d8;rw[if_neg (by omega),hl]
    rw[e0]at oD;refine⟨.ref D,_,Inv.laidN (t':=_) (its:=(d8 ys.length fun i j=>aZ (kss.getD i []) (kss.getD j [])).map fun i=>its.getD i Value.none) I hDs oD.2.1 (keepN F3 N3) (fun m hm=>by rw[vL hm F.ns];exact F3.ns) oD.1 (xv rv _ hix) ?_,rfl,q D ?_⟩
    .have:=(oH ys.length fun i j=>aZ (kss.getD i []) (kss.getD j [])).length_eq;rw[m_,this,QR];omega
    .cases z:H D with
    |none=>rfl
    |some u=>exact absurd hDs (bG.isS (I.hok D u z))
end
def iF:D->Option (List Int)
|.tup (d::ds)=>fH (d::ds)
|_=>none
def jA:List D->Option (List (List Int))
|[]=>some []
|d::ds=>(iF d).bind fun k=>(jA ds).map (k::·)
def nL:List D->Option D
|[.lst ds]=>(jA ds).bind fun kss=>if ds.length<64 then some (.lst (kr .non ds kss))else none
|_=>none
section
variable{K:W.Frag}{G:GH}{H:Hp}
theorem JE(gk:aN K G H){v:V}{d:D}{k:List Int}(r:RG K G v d)(e:iF d=some k):pw K H v k:=by cases d with
|tup ds=>cases ds with
 |nil=>cases e
 |cons d ds=>refine⟨Bz gk r e,fun z=>?_⟩;subst z;obtain⟨b,xs,rfl,_,rs⟩:=r.tup gk;have:=Paired.length rs;rw[qK gk rs e]at this;cases this
|_=>cases e
theorem Lf(gk:aN K G H){ds:List D}{xs:List V}{ks:List (List Int)}(h:bC K G xs ds)(e:jA ds=some ks):Paired (pw K H) xs ks:=by induction h generalizing ks with
|nil=>cases e;exact .nil
|@cons x d xs ds r t ih=>have e':(iF d).bind (fun k=>(jA ds).map (k::·))=some ks:=e;cases e1:iF d with
 |none=>rw[e1]at e';cases e'
 |some k=>rw[e1]at e';cases e2:jA ds with
  |none=>rw[e2]at e';cases e'
  |some ks'=>rw[e2]at e';cases e';exact .cons (JE gk r e1) (ih e2)
end
section
variable{X:Cx}{g:GE}{m:List Md}{a:Expr}{fl:ao->Res (List D)}{pos p:Pos}{k:Nat}
theorem EI(hr:Room k X.A)(hg:Gl X "sorted")(hm:X.mg "sorted" = none)(ha:gG X g m [a] fl)(hs:s_ [a] X.env=(false,eval a X.env)::s_ [] X.env:=by rfl):SO X g m (.Call (.Name "sorted" p) [a] [] pos) (fC fl nL):=by
 refine pW (R:=fun xs H Q=>∃p ys kss,xs=[.ref p]/\aY X.K H p ys/\Paired (pw X.K H) ys kss/\ys.length<64/\∀l,H l=none->Q (.ref l) (upd H l (.lst (kr .non ys kss)))) ?_ (lG (Pd hr) hg hm (by first|exact Tx|rfl) ha (by decide) (by decide) hs rfl);intro G H vs ds d Q gk rs e q;unfold nL at e;split at e
 .rename_i zs;cases ek:jA zs with
 |none=>rw[ek]at e;cases e
 |some kss=>
   rw[ek]at e;have e':(if zs.length<64 then some (D.lst (kr .non zs kss))else none)=some d:=e;by_cases h64:zs.length<64
   .rw[if_pos h64]at e';cases e';cases rs with
   |cons r1 t=>cases t;obtain⟨b,xs,rfl,s,r⟩:=r1.lst gk;have hl:=Paired.length r;refine⟨b,xs,kss,rfl,s,Lf gk r ek,by omega,fun l hl'=>q l G _ (Grow.new gk hl' _) hl' ⟨gk.isN hl',.lst ca ?_⟩⟩;unfold kr;rw[hl];exact wL r _ fun i hi=>kR hi
   .rw[if_neg h64]at e';cases e'
 .cases e
end
end DL
section
namespace DL
section
open PySem PyProof.Rows
variable{prog:J_}{w:QN}{A:Q9}{R:Result->k_->Prop}{I S:Addr}{fp wr:List Addr}{n:Nat}{P:Nat->c_->Prop}{St:Nat->Heap->Prop}{TP:Heap->Prop}{bt:Nat->Nat->Bool}
def qc(wr:List Addr)(S:Addr)(h h':Heap):Prop:=∀b o,b∉wr->b≠S->h.get? b=some o->h'.get? b=some o
theorem qc.trans{h h1 h2:Heap}(a:qc wr S h h1)(b:qc wr S h1 h2):qc wr S h h2:=fun c o hc hs e=>b c o hc hs (a c o hc hs e)
end
end DL
end
namespace DL
open PySem PySem.Spec PyProof.Rows L2
end DL
namespace DL
open PySem PySem.Spec PyProof.Rows L2 PySem.W PySem.Calls
def Qv(K:W.Frag)(ro:Bool)(ms:List Md)(F:List D->Res D):Sp:=fun vs H Q E=>∃G ds,aN K G H/\ArgsOk K G H ms vs ds /\fin (F ds) (fun d=>∀v G' H',Grow K G H G' H'->RV ro K H G' H' v d->Q v H') fun x=>∀C od nm fs G' H',x=xD nm fs->XN K nm C->XF G' od fs->Grow K G H G' H'->E (.ref C) od H'
section
variable{P:J_}{w:QN}{K:W.Frag}{mg:Str->Option c_}{base:Heap}
structure CalleeX(P:J_)(w:QN)(K:W.Frag)(mg:Str->Option c_)(base:Heap)(x:Str)(ps:List Str)(ds:List c_)(k:Nat)(ro:Bool)(ms:List Md)(F:List D->Res D):Prop where
 ex:∃f fd,mg x=some (.ref f)/\W.keepIn K (.ref f)=true/\io K fd ps ds/\FnOk P w K mg base (QD P w) k f fd ps (Qv K ro ms F)
end
def XO(K:W.Frag)(C:Addr)(bm:List c_):Prop:=∃N nm q bs hdct sn sub ab col dd k0 k1 k2 k3 k5 newId,K.lookup C=some (excClassObj nm q C N bs bm hdct sn sub ab col dd k0 k1 k2 k3 k5 newId)
abbrev _root_.L2.Cx.tr(X:Cx)(ps:List (Addr×Obj))(E:c_->k_->Prop):Cx:={ X with pn:=ps,xe:=E }
section
variable{X:Cx}{pz pins':List (Addr×Obj)}{σ:L2.St}{H:Hp}{s:k_}{E:c_->k_->Prop}
theorem Inv.tr(I:Inv X pz σ H s)(E:c_->k_->Prop):Inv (X.tr (X.pn++pz) E) [] σ H s:=⟨⟨I.ok.mod,I.ok.kind,I.ok.glob,I.ok.blt,I.ok.above,I.ok.inj,I.ok.has,I.ok.cab,I.ok.hd,I.ok.frames,I.ok.stk,I.ok.exf,I.ok.bs,I.ok.bsz,I.ok.noex,I.ok.exfs,I.ok.funs,I.ok.frf⟩,I.os,I.bare,I.base,I.loc,I.cell,I.free,I.freeC,fun p hp=>I.pin p (by rw[Q0]at hp;exact hp),I.hok,I.len⟩
end
structure XA(K:W.Frag)(C:Addr)(bm:List c_):Prop where
 ob:XO K C bm
 be:bm.contains (Value.type "BaseException")=true
 bo:bm.contains (Value.type "object")=true
 ga:findIn K (.ref C) "__getattribute__" = some (some (.builtin "BaseException.__getattribute__"))
 gn:findIn K (.ref C) "__getattr__" = some none
 gc:findIn K (.ref C) "__class__" = some (some (.builtin "object.__class__"))
 gg:specialIn K (.builtin "object.__class__") "__get__" = some (some (.builtin "getset_descriptor.__get__"))
 gt:takesIn K (.builtin "object.__class__")=some true
structure IsxOk(K:W.Frag)(c:c_)(tab:Str->Option Bool):Prop where
 no:kitOne K (.type "NoneType") c=some false
 ex:∀nm b C,tab nm=some b->XN K nm C->∃bm,XA K C bm/\kitOne K (.ref C) c=some b
section
variable{X:Cx}{g:GE}{m:List Md}{e:Expr}{f:FE}{pos p p2:Pos}
theorem RB.exc{K:W.Frag}{G:GH}{H:Hp}{v:V}{k:Str}{nm:Str}{ds:List (Str×D)}(gk:aN K G H)(h:RB K G H v (.obj 0 ((k,.str nm)::ds))):∃a C od,v=.ref a/\H a=some (.ext (Gw a C od))/\XN K nm C:=by
 rcases h with h|⟨a,rfl,h⟩
 .cases h with
 |scl s=>cases s
 |ref e=>cases gk _ _ e with
  |exc r n f=>exact⟨_,_,_,rfl,r,n⟩
 |kc k=>cases k
 .cases h.ob
end
def zx(K:W.Frag)(nm:Str)(c:Addr):Bool:=K.all fun e=>match e.2.data with
|.cls cd=>cd.name != nm || e.1==c
|_=>true
structure CF(K:W.Frag)(nm:Str)(c:Addr)(bm:List c_):Prop where
 xa:XA K c bm
 xn:XN K nm c
 un:zx K nm c=true
end DL
namespace DL
open PySem PySem.Spec PyProof.Rows L2 PySem.W PySem.Calls PySem.Builtin PySem.Builtin.Str
end DL
section
namespace L2
open PySem PySem.Spec PyProof.Rows
theorem di{sc:SK}{x:Str}(h:(match sc.names.lookup x with|some .local=>true|some .cell=>true|_=>false)=true):i7 sc x:=by
 revert h;unfold i7;split <;> intro h
 .exact .inl (by assumption)
 .exact .inr (by assumption)
 .cases h
theorem bu{N P:List Str}{sc:SK}(h:(decide (sc.kind=.function) && ! sc.isCoroutine && ! sc.isGenerator&&decide N.Nodup&&decide (N.take P.length=P)&&(P.all fun x=>match sc.names.lookup x with|some .local=>true|some .cell=>true|_=>false)&&sc.names.all fun y=>decide (y.2≠.free))=true:=by decide+kernel):FnScope N P sc:=by simp only[QG,decide_eq_true_eq,Wn,R_]at h;obtain⟨⟨⟨⟨⟨⟨a,b⟩,c⟩,d⟩,e⟩,f⟩,k⟩:=h;exact⟨a,b,c,d,e,fun x hx=>di (f x hx),k⟩
end L2
namespace DL
open PySem PySem.Spec PyProof.Rows L2
section
variable{X:Cx}{g:GE}{m mb ms:List Md}{e a b:Expr}{es:List Expr}{f fa fb:FE}{x:Str}{p pos pos':Pos}{ro:Bool}{fl:ao->Res (List D)}{k:Nat}{ps:List Str}{F:List D->Res D}
theorem bE(h:SE X g m e f):SB X g m e f:=SE.toB h
theorem iB{i:Int}{j:Nat}:SB X g m (.Constant (.int i) j pos) fun _=>.ok (.int i):=bE pX
theorem xB(hu:X.A.units+1<SM)(ha:SB X g m a fa)(hb:SB X g m b fb)(hs:uY b:=by intro _ _;rfl):SB X g m (.Subscript a b pos) (f2 fa fb aH):=bE (dy hu ha hb hs)
theorem br(i:Nat)(hN:X.N.Nodup)(he:SE X g m e f)(hi:X.N[i]? = some x:=by rfl)(hx:i7 X.env.scope x:=by exact di rfl)(hs:UA e (some (.Name x pos')) pos.line X.env=pure false:=by rfl)(hf:X.fn x=true\/X.env.scope.names.lookup x=some .local:=by first|exact .inl rfl|exact .inr rfl|assumption):SS X g ro mb m (.Assign [.Name x pos'] e pos) (al m i f) (m.set i .sh):=HE i hN hi hx he hs hf
theorem aW(i:Nat)(hN:X.N.Nodup)(hi:X.N[i]? = some x:=by rfl)(hx:i7 X.env.scope x:=by exact di rfl)(hf:X.fn x=true\/X.env.scope.names.lookup x=some .local:=by first|exact .inl rfl|exact .inr rfl|assumption):SG X g m (.Name x pos) (aD i) (m.set i .sh):=Jo i hN hi hx hf
theorem aJ(c:Callee X.prog X.w X.K X.mg X.base x ps [] k false ms F)(ha:jv X g m (e::es) ms fl)(hr:Room k X.A:=by exact Room.mono ‹_› (by decide))(hg:Gl X x:=by rfl)(hdb:(x==("__debug__" : Str))=false:=by decide)(he:s_ (e::es) X.env=(false,eval e X.env)::s_ es X.env:=by rfl)(hpl:(backTo pos (s_ es X.env)).any (·.1)=false:=by rfl):SE X g m (.Call (.Name x p) (e::es) [] pos) (aC fl [] F):=Hs (dds:=[]) c hr ha (by simp) hg .nil .nil hdb he hpl
end
theorem bM{P:J_}{w:QN}{K:W.Frag}{mg:Str->Option c_}{base:Heap}{x:Str}{st:Stmt}{N ps:List Str}{k:Nat}{ro:Bool}{ms:List Md}{fs:FS}{m':List Md}(A:DefAt K mg x st)(S:FnScope N ps (az st))(hbody:∀(f:Addr)(cdv:c_)(A:Q9)(outer:List Env)(s:k_)(H:Hp)(g:GE)(E:XK),Room k (A.deeper (T6 x (az st) s.heap.objs.size f cdv))->(A.deeper (T6 x (az st) s.heap.objs.size f cdv)).units+1<SM ->fR (aT bR P w K mg base N x (az st) f cdv A outer s H E).nox g ro [] (jI N.length ms) (eU st) fs m')(hms:ms.length=ps.length:=by rfl)(hb:∀(kV doc pm:c_)(an:Option Addr)(cdv ct:c_)(us:List c_),us.length=ps.length->VH (W.fnOf x x (ig st) (eU st) (az st) .none kV doc pm an cdv ct) ⟨us,[]⟩=pure (ps.zip us):=by intro _ _ _ _ _ _ us hl;rcases us with _|⟨_,_|⟨_,_|⟨_,_|⟨_,_|⟨_,_|⟨_,_⟩⟩⟩⟩⟩⟩ <;> first|(exfalso;revert hl;simp;done)|kernel_rfl):Callee P w K mg base x ps [] (k+1) ro ms fun ds=>aB ro (fs (aS N.length ds)):=Ji A S hms hb fun f cdv A outer s H g E hr=>hbody f cdv A outer s H g E hr (kx hr)
end DL
end
section
namespace Rg
theorem iD{α:Type}[DecidableEq α]:∀{l m:List α},l.Nodup->(∀x∈l,x∈m)->l.length<=m.length
|[],_,_,_=>QX _
|a::l,m,hn,hs=>by
  have hn':=Q1.mp hn;have h1:=iD (l:=l) (m:=m.erase a) hn'.2 fun x hx=>by
   have hxa:x≠a:=by rintro rfl;exact hn'.1 hx
   exact(Ug hxa).mpr (hs x (i_ _ hx))
  have ha:a∈m:=hs a d_;rw[Rs ha]at h1;have:=R7 ha;simp only[Rl];omega
theorem rH{α:Type}(p:α->Bool)(l:List α):(l.filter p).length+(l.filter fun x=>! p x).length=l.length:=by induction l with
|nil=>rfl
|cons a l ih=>simp only[QQ];cases p a <;> simp <;> omega
theorem m7{α:Type}{p:α->Bool}{l:List α}(h:l.Nodup):(l.filter p).Nodup:=Uh p h
structure S where
 line:List Nat
 things:List Nat
section
variable(W:Nat->List Nat)(O:Nat->Option Nat)
def best(row things:List Nat):Nat:=(row.find? fun x=>decide (x∈things)).getD 0
def bB(s:S)(h:Nat):Nat:=best (W h) s.things
def pt(s:S)(x:Nat):Nat:=(s.line.find? fun h=>decide (O h=some x)).getD (s.line.headD 0)
def nxt(s:S)(h:Nat):Nat:=pt O s (bB W s h)
def minus(s:S)(C:List Nat):S:=⟨s.line.filter fun h=>decide (h∉C),s.things.filter fun x=>decide (x∉C.map (bB W s))⟩
def it{α:Type}(f:α->α):Nat->α->α
|0,x=>x
|n+1,x=>it f n (f x)
theorem eh{α:Type}(f:α->α):∀(a b:Nat)(x:α),it f (a+b) x=it f b (it f a x)
|0,b,x=>by rw[TZ];rfl
|a+1,b,x=>by rw[Nat.add_right_comm];exact eh f a b (f x)
theorem jj{α:Type}(f:α->α)(n:Nat)(x:α):it f (n+1) x=f (it f n x):=eh f n 1 x
theorem nM{α:Type}(f:α->α){p:Nat}{x:α}(h:it f p x=x):∀k,it f (p*k) x=x
|0=>rfl
|k+1=>by rw[Nat.mul_succ,eh,nM f h k,h]
structure Ok(s:S):Prop where
 nl:s.line.Nodup
 nt:s.things.Nodup
 le:s.line.length<=s.things.length
 row:∀h∈s.line,∀x∈s.things,x∈W h
 inj:∀h k x,O h=some x->O k=some x->h=k
 own:∀h∈s.line,∀x,O h=some x->x∈s.things
structure Cyc(s:S)(C:List Nat):Prop where
 sub:∀h∈C,h∈s.line
 cl:∀h∈C,nxt W O s h∈C
 per:∀h∈C,∃k,it (nxt W O s) (k+1) h=h
variable{W O}
theorem n5{row things:List Nat}(h:∃x∈row,x∈things):best row things∈things:=by unfold best;cases e:row.find? fun x=>decide (x∈things)with
|none=>obtain⟨x,h1,h2⟩:=h;have:=Q3.mp e x h1;simp[h2]at this
|some x=>have:=S_ e;simpa using this
theorem wQ{row things t':List Nat}(hs:∀x∈t',x∈things)(hb:best row things∈t')(hr:best row things∈row):best row t'=best row things:=by unfold best at *;cases e:row.find? fun x=>decide (x∈things)with
|none=>rw[e]at hb hr;have:=Q3.mp e _ hr;simp only[decide_eq_true_eq]at this;exact absurd (hs _ hb) this
|some x=>
  rw[e]at hb;simp only[Tr]at hb ⊢;obtain⟨hx,as,bs,rfl,h2⟩:=List.find?_eq_some_iff_append.mp e;rw[List.find?_append];have:as.find? (fun y=>decide (y∈t'))=none:=Q3.mpr fun y hy=>by have:=h2 y hy;simp only[Wn,decide_eq_false_iff_not]at this;simp only[decide_eq_true_eq];exact fun z=>this (hs y z)
  rw[this];simp[QK,hb]
theorem MX{row things:List Nat}(h:∃x∈row,x∈things):best row things∈row:=by unfold best;cases e:row.find? fun x=>decide (x∈things)with
|none=>obtain⟨x,h1,h2⟩:=h;have:=Q3.mp e x h1;simp[h2]at this
|some x=>exact Sj e
variable{s:S}
theorem Ok.some_thing(k:Ok W O s){h:Nat}(hh:h∈s.line):∃x∈W h,x∈s.things:=by have h1:=R7 hh;have h2:0<s.things.length:=C_ h1 k.le;obtain⟨x,hx⟩:=List.exists_mem_of_length_pos h2;exact⟨x,k.row h hh x hx,hx⟩
theorem Ok.tgt_mem(k:Ok W O s){h:Nat}(hh:h∈s.line):bB W s h∈s.things:=n5 (k.some_thing hh)
theorem Ok.tgt_row(k:Ok W O s){h:Nat}(hh:h∈s.line):bB W s h∈W h:=MX (k.some_thing hh)
theorem Bk{x:Nat}(h:s.line≠[]):pt O s x∈s.line:=by unfold pt;cases e:s.line.find? fun h=>decide (O h=some x)with
|none=>cases q:s.line with
 |nil=>exact absurd q h
 |cons a l=>simp[List.headD]
|some y=>exact Sj e
theorem qi(k:Ok W O s){h x:Nat}(hh:h∈s.line)(ho:O h=some x):pt O s x=h:=by unfold pt;cases e:s.line.find? fun h=>decide (O h=some x)with
|none=>have:=Q3.mp e h hh;simp[ho]at this
|some y=>have:=S_ e;simp only[decide_eq_true_eq]at this;exact k.inj y h x this ho
theorem nV{h:Nat}(hl:s.line≠[]):nxt W O s h∈s.line:=Bk hl
theorem Cyc.it_mem{C:List Nat}(c:Cyc W O s C){h:Nat}(hh:h∈C):∀n,it (nxt W O s) n h∈C:=by
 intro n
 induction n generalizing h with
|zero=>exact hh
|succ n ih=>exact ih (c.cl h hh)
theorem Lu{α:Type}{f:α->α}{x y:α}{a b:Nat}(hx:it f (a+1) x=x)(hy:it f (b+1) y=y)(e:f x=f y):x=y:=by
 have h1:=nM f hx (b+1);have h2:=nM f hy (a+1);rw[Wl]at h2;have h3:(a+1)*(b+1)=1+(a*b+a+b):=by rw[VM,Yl];omega
 rw[h3,eh]at h1 h2;have e1:it f 1 x=it f 1 y:=e;rw[e1]at h1;rw[<-h1,h2]
theorem Cyc.out{C E:List Nat}(c:Cyc W O s C)(e:Cyc W O s E){h:Nat}(hc:h∈C)(he:h∉E):nxt W O s h∉E:=by intro z;obtain⟨k,hk⟩:=c.per h hc;exact he (by rw[<-hk];exact e.it_mem z k)
theorem Lc{C E:List Nat}(c:Cyc W O s C)(e:Cyc W O s E){h k:Nat}(hc:h∈C)(he:k∈E)(q:bB W s h=bB W s k):h=k:=by obtain⟨a,ha⟩:=c.per h hc;obtain⟨b,hb⟩:=e.per k he;exact Lu ha hb (by unfold nxt;rw[q])
theorem oj(k:Ok W O s){C E:List Nat}(c:Cyc W O s C)(e:Cyc W O s E){h:Nat}(he:h∈E)(hc:h∉C):bB W (minus W s C) h=bB W s h:=by have hl:=e.sub h he;refine wQ (fun x hx=>(l_.mp hx).1) ?_ (k.tgt_row hl);refine l_.mpr ⟨k.tgt_mem hl,?_⟩;simp only[decide_eq_true_eq];intro z;obtain⟨h',h1,h2⟩:=r_.mp z;have:=Lc c e h1 he h2;rw[this]at h1;exact hc h1
theorem sd{p:Nat->Bool}:∀{l:List Nat}{a:Nat},l.headD 0=a->l≠[]->p a=true->(l.filter p).headD 0=a
|[],_,_,h,_=>absurd rfl h
|b::l,a,e,_,hp=>by have:b=a:=e;subst this;rw[QQ,if_pos hp];rfl
theorem Dv(k:Ok W O s){C E:List Nat}(c:Cyc W O s C)(e:Cyc W O s E){h:Nat}(he:h∈E)(hc:h∉C):nxt W O (minus W s C) h=nxt W O s h:=by unfold nxt;rw[oj k c e he hc];have hl:=e.sub h he;have hne:s.line≠[]:=QW hl;have ho:pt O s (bB W s h)∉C:=e.out c he hc;have hm:pt O s (bB W s h)∈s.line:=Bk hne;unfold pt at *;show((s.line.filter fun h=>decide (h∉C)).find? _).getD ((s.line.filter fun h=>decide (h∉C)).headD 0)=_;cases q:s.line.find? fun k=>decide (O k=some (bB W s h))with
|none=>rw[q]at ho;simp only[SV]at ho ⊢;have:(s.line.filter fun h=>decide (h∉C)).find? (fun k=>decide (O k=some (bB W s h)))=none:=Q3.mpr fun y hy=>Q3.mp q y (l_.mp hy).1;rw[this];exact sd rfl hne (by simpa using ho)
|some y=>rw[q]at ho;simp only[Tr]at ho ⊢;have hy:=S_ q;simp only[decide_eq_true_eq]at hy;have hyl:=Sj q;cases q2:(s.line.filter fun h=>decide (h∉C)).find? (fun k=>decide (O k=some (bB W s h)))with
 |none=>have:=Q3.mp q2 y (l_.mpr ⟨hyl,by simpa using ho⟩);simp[hy]at this
 |some z=>have hz:=S_ q2;simp only[decide_eq_true_eq]at hz;exact k.inj z y _ hz hy
theorem kK(k:Ok W O s){C:List Nat}(c:Cyc W O s C):Ok W O (minus W s C) where
 nl:=m7 k.nl
 nt:=m7 k.nt
 le:=by
  have h1:=rH (fun h=>decide (h∉C)) s.line;have h2:=rH (fun x=>decide (x∉C.map (bB W s))) s.things;have h3:(s.things.filter fun x=>! decide (x∉C.map (bB W s))).length<=((s.line.filter fun h=>! decide (h∉C)).map (bB W s)).length:=by refine iD (m7 k.nt) fun x hx=>?_;obtain⟨_,hx⟩:=l_.mp hx;simp only[decide_not,Bool.not_not,decide_eq_true_eq]at hx;obtain⟨h,h1,h2⟩:=r_.mp hx;exact r_.mpr ⟨h,l_.mpr ⟨c.sub h h1,by simpa using h1⟩,h2⟩
  rw[m_]at h3;have:=k.le;show(s.line.filter _).length<=(s.things.filter _).length;omega
 row:=fun h hh x hx=>k.row h (l_.mp hh).1 x (l_.mp hx).1
 inj:=k.inj
 own:=fun h hh x hx=>by obtain⟨h1,h2⟩:=l_.mp hh;simp only[decide_eq_true_eq]at h2;refine l_.mpr ⟨k.own h h1 x hx,?_⟩;simp only[decide_eq_true_eq];intro z;obtain⟨b,b1,b2⟩:=r_.mp z;have:=c.cl b b1;unfold nxt at this;rw[b2,qi k h1 hx]at this;exact h2 this
def less(E C:List Nat):List Nat:=E.filter fun h=>decide (h∉C)
theorem iE{E C:List Nat}{h:Nat}:h∈less E C↔h∈E/\h∉C:=by simp[less,l_]
theorem DH(k:Ok W O s){C E:List Nat}(c:Cyc W O s C)(e:Cyc W O s E):Cyc W O (minus W s C) (less E C):=by
 have stay:∀n h,h∈less E C->it (nxt W O (minus W s C)) n h=it (nxt W O s) n h:=by
  intro n
  induction n with
 |zero=>intro h _;rfl
 |succ n ih=>intro h hh;obtain⟨h1,h2⟩:=iE.mp hh;show it _ n (nxt W O (minus W s C) h)=it _ n (nxt W O s h);rw[Dv k c e h1 h2];exact ih _ (iE.mpr ⟨e.cl h h1,e.out c h1 h2⟩)
 refine⟨fun h hh=>?_,fun h hh=>?_,fun h hh=>?_⟩
 .obtain⟨h1,h2⟩:=iE.mp hh;exact l_.mpr ⟨e.sub h h1,by simpa using h2⟩
 .obtain⟨h1,h2⟩:=iE.mp hh;rw[Dv k c e h1 h2];exact iE.mpr ⟨e.cl h h1,e.out c h1 h2⟩
 .obtain⟨h1,h2⟩:=iE.mp hh;obtain⟨n,hn⟩:=e.per h h1;exact⟨n,by rw[stay _ _ hh];exact hn⟩
theorem jl{p q:Nat->Bool}{l:List Nat}(h:∀x∈l,p x=q x):l.filter p=l.filter q:=by induction l with
|nil=>rfl
|cons a l ih=>rw[QQ,QQ,h a d_,ih fun x hx=>h x (i_ _ hx)]
theorem FA(k:Ok W O s){C E:List Nat}(c:Cyc W O s C)(e:Cyc W O s E):minus W (minus W s C) (less E C)=minus W s (C++E):=by
 have h1:(minus W (minus W s C) (less E C)).line=(minus W s (C++E)).line:=by show((s.line.filter _).filter _)=s.line.filter _;rw[UN];refine jl fun x _=>?_;by_cases hc:x∈C <;> by_cases he:x∈E <;> simp[iE,hc,he]
 have h2:(minus W (minus W s C) (less E C)).things=(minus W s (C++E)).things:=by
  show((s.things.filter _).filter _)=s.things.filter _;rw[UN];refine jl fun x _=>?_;have key:x∈(less E C).map (bB W (minus W s C))↔∃h,h∈E/\h∉C/\bB W s h=x:=by
   rw[r_];constructor
   .rintro⟨h,hh,q⟩
    obtain⟨a,b⟩:=iE.mp hh;exact⟨h,a,b,by rw[<-q,oj k c e a b]⟩
   .rintro⟨h,a,b,q⟩
    exact⟨h,iE.mpr ⟨a,b⟩,by rw[oj k c e a b];exact q⟩
  have key2:x∈(C++E).map (bB W s)↔x∈C.map (bB W s)\/x∈(less E C).map (bB W (minus W s C)):=by
   rw[key,QL,Rc];constructor
   .rintro(z|z)
    .exact .inl z
    .obtain⟨h,a,b⟩:=r_.mp z;by_cases hc:h∈C
     .exact .inl (r_.mpr ⟨h,hc,b⟩)
     .exact .inr ⟨h,a,hc,b⟩
   .rintro(z|⟨h,a,_,b⟩)
    .exact .inl z
    .exact .inr (r_.mpr ⟨h,a,b⟩)
  rw[N_];simp only[QG,decide_eq_true_eq];rw[key2];constructor
  .rintro⟨a,b⟩ (z|z)
   .exact b z
   .exact a z
  .intro z;exact⟨fun q=>z (.inr q),fun q=>z (.inl q)⟩
 cases e1:minus W (minus W s C) (less E C);cases e2:minus W s (C++E);rw[e1,e2]at h1 h2;simp only at h1 h2;rw[h1,h2]
theorem OX(k:Ok W O s){C E:List Nat}(c:Cyc W O s C)(e:Cyc W O s E):minus W (minus W s C) (less E C)=minus W (minus W s E) (less C E):=by
 rw[FA k c e,FA k e c];unfold minus;congr 1
 .exact jl fun x _=>by rw[N_];simp[and_comm]
 .refine jl fun x _=>?_;rw[N_];simp only[decide_eq_true_eq,QL,Rc];constructor <;> intro z q <;> exact z q.symm
inductive TTC(W:Nat->List Nat)(O:Nat->Option Nat)(a:Nat->Nat):S->Prop where
 |nil {s:S}:s.line=[]->TTC W O a s
 |step {s:S} (C:List Nat):Cyc W O s C->(∀h∈C,a h=bB W s h)->TTC W O a (minus W s C)->TTC W O a s
theorem uP{a:Nat->Nat}(t:TTC W O a s):∀(k:Ok W O s){E:List Nat},Cyc W O s E->TTC W O a (minus W s E)/\∀h∈E,a h=bB W s h:=by induction t with
|nil h0=>intro k E e;refine⟨.nil (by unfold minus;rw[h0];rfl),fun h hh=>?_⟩;have:=e.sub h hh;rw[h0]at this;cases this
|step C c ha t ih=>
  intro k E e;obtain⟨h1,h2⟩:=ih (kK k c) (DH k c e);refine⟨.step (less C E) (DH k e c) (fun h hh=>?_) (by rw[<-OX k c e];exact h1),fun h hh=>?_⟩
  .obtain⟨z1,z2⟩:=iE.mp hh;rw[oj k e c z1 z2];exact ha h z1
  .by_cases hc:h∈C
   .exact ha h hc
   .rw[h2 h (iE.mpr ⟨hh,hc⟩),oj k c e hh hc]
end
end Rg
end
section
namespace Rg
section
variable{W:Nat->List Nat}{O:Nat->Option Nat}{s:S}{a:Nat->Nat}
theorem Li(t:TTC W O a s)(k:Ok W O s):∀h∈s.line,a h∈s.things:=by induction t with
|nil h0=>intro h hh;rw[h0]at hh;cases hh
|step C c ha t ih=>
  intro h hh;by_cases hc:h∈C
  .rw[ha h hc];exact k.tgt_mem hh
  .exact(l_.mp (ih (kK k c) h (l_.mpr ⟨hh,by simpa using hc⟩))).1
theorem Bg{f:Nat->Nat}{l:List Nat}(hcl:∀h∈l,f h∈l){x:Nat}(hx:x∈l):∃i j,i<j/\j<=l.length/\it f i x=it f j x:=by
 have mem:∀i,it f i x∈l:=by
  intro i
  induction i with
 |zero=>exact hx
 |succ i ih=>rw[jj];exact hcl _ ih
 by_cases hn:((a_ (l.length+1)).map fun i=>it f i x).Nodup
 .have:=iD hn (m:=l) fun y hy=>by obtain⟨i,_,rfl⟩:=r_.mp hy;exact mem i
  simp at this;omega
 .apply Sk;intro h;apply hn;rw[UO]at *;rw[T0];refine XS (R:=fun i j=>i<j) (fun hi hj hij e=>?_) Vu;exact h ⟨_,_,hij,by have:=n_.mp hj;omega,e⟩
theorem least{P:Nat->Prop}:(∃n,P n)->∃n,P n/\∀k,k<n->¬ P k:=by
 rintro⟨n,hn⟩
 induction n using Nat.strongRecOn with
|_ n ih=>
  by_cases h:∃k,k<n/\P k
  .obtain⟨k,h1,h2⟩:=h;exact ih k h1 h2
  .exact⟨n,hn,fun k hk hp=>h ⟨k,hk,hp⟩⟩
theorem CD{α:Type}(f:α->α)(a b:Nat)(x:α):it f a (it f b x)=it f b (it f a x):=by rw[<-eh,<-eh,Vo]
theorem Fd{f:Nat->Nat}{l:List Nat}(hcl:∀h∈l,f h∈l)(hne:l≠[]):∃z p,z∈l/\0<p/\p<=l.length/\it f p z=z/\∀i,0<i->i<p->z<it f i z:=by
 have mem:∀x∈l,∀i,it f i x∈l:=by
  intro x hx i
  induction i with
 |zero=>exact hx
 |succ i ih=>rw[jj];exact hcl _ ih
 obtain⟨x,hx⟩:=Rm l hne;obtain⟨i,j,hij,_,e⟩:=Bg hcl hx;obtain⟨z,⟨hz,k,hk⟩,hmin⟩:=least (P:=fun z=>z∈l/\∃k,it f (k+1) z=z) ⟨it f i x,mem x hx i,j-i-1,by rw[<-eh,show i+(j-i-1+1)=j by omega];exact e.symm⟩;obtain⟨p,hp,hpm⟩:=least (P:=fun p=>it f (p+1) z=z) ⟨k,hk⟩;have ge:∀i,z<=it f i z:=fun i=>by have:=hmin (it f i z);apply Sk;intro h;exact this (by omega) ⟨mem z hz i,p,by rw[CD,hp]⟩
 have ne:∀i,0<i->i<p+1->it f i z≠z:=fun i h1 h2 q=>hpm (i-1) (by omega) (by rw[show i-1+1=i by omega];exact q);refine⟨z,p+1,hz,Nat.succ_pos _,?_,hp,fun i h1 h2=>by have:=ge i;have:=ne i h1 h2;omega⟩;obtain⟨i,j,hij,hj,e⟩:=Bg hcl hz;apply Sk;intro h;have:it f (p+1-j+i) z=z:=by
  have h1:it f (p+1-j) (it f j z)=z:=by rw[<-eh,show j+(p+1-j)=p+1 by omega];exact hp
  rw[<-e,<-eh]at h1;rw[Vo];exact h1
 exact ne _ (by omega) (by omega) this
def gz(f:Nat->Nat)(n first:Nat):Nat->List Nat->Nat->Option (List Nat)
|0,_,_=>none
|k+1,ring,hand=>if first<hand/\ring.length<n then gz f n first k (ring++[hand]) (f hand)else if hand=first then some ring else none
def gL(f:Nat->Nat)(n first:Nat):Option (List Nat):=gz f n first (n+1) [first] (f first)
def c6(f:Nat->Nat)(x n:Nat):List Nat:=(a_ n).map fun i=>it f i x
theorem wK(f:Nat->Nat)(x n:Nat):c6 f x (n+1)=c6 f x n++[it f n x]:=by unfold c6;rw[TD,QL];rfl
theorem Di(f:Nat->Nat)(x n:Nat):(c6 f x n).length=n:=by simp[c6]
theorem OA{f:Nat->Nat}{n first:Nat}:∀{k i:Nat}{r:List Nat},gz f n first k (c6 f first i) (it f i first)=some r->∃j,i<=j/\r=c6 f first j/\it f j first=first:=by
 intro k
 induction k with
|zero=>intro i r h;cases h
|succ k ih=>
  intro i r h;unfold gz at h;split at h
  .rw[<-wK,<-jj f]at h;obtain⟨j,h1,h2⟩:=ih h;exact⟨j,by omega,h2⟩
  .split at h
   .rename_i e;cases h;exact⟨i,q_ _,rfl,e⟩
   .cases h
theorem Fz{f:Nat->Nat}{n first:Nat}{r:List Nat}(h:gL f n first=some r):∃j,0<j/\r=c6 f first j/\it f j first=first:=by
 have h':gz f n first (n+1) (c6 f first 1) (it f 1 first)=some r:=h
 obtain⟨j,h1,h2⟩:=OA h';exact⟨j,by omega,h2⟩
theorem Po{f:Nat->Nat}{n z p:Nat}(hp:p<=n)(he:it f p z=z)(hg:∀i,0<i->i<p->z<it f i z):∀{k i:Nat},0<i->i<=p->p<k+i->gz f n z k (c6 f z i) (it f i z)=some (c6 f z p):=by
 intro k
 induction k with
|zero=>intro i h1 h2 h3;omega
|succ k ih=>
  intro i h1 h2 h3;unfold gz;by_cases hi:i=p
  .subst hi;rw[if_neg (by rw[he];omega),if_pos he]
  .rw[if_pos ⟨hg i h1 (by omega),by rw[Di];omega⟩,<-wK,<-jj f];exact ih (by omega) (by omega) (by omega)
theorem FJ{f:Nat->Nat}{n z p:Nat}(h0:0<p)(hp:p<=n)(he:it f p z=z)(hg:∀i,0<i->i<p->z<it f i z):gL f n z=some (c6 f z p):=by show gz f n z (n+1) (c6 f z 1) (it f 1 z)=_;exact Po hp he hg (by omega) h0 (by omega)
def gy(W:Nat->List Nat)(O:Nat->Option Nat)(s:S):List (List Nat):=s.line.filterMap fun h=>gL (nxt W O s) s.line.length h
theorem De{C:List Nat}(hC:∀h,h∈C->∃r∈gy W O s,h∈r)(hC':∀r∈gy W O s,∀h∈r,h∈C):Cyc W O s C:=by
 have one:∀r∈gy W O s,∃x j,x∈s.line/\0<j/\r=c6 (nxt W O s) x j/\it (nxt W O s) j x=x:=fun r hr=>by obtain⟨x,h1,h2⟩:=Rb.mp hr;obtain⟨j,h3,h4,h5⟩:=Fz h2;exact⟨x,j,h1,h3,h4,h5⟩
 have hm:∀x∈s.line,∀i,it (nxt W O s) i x∈s.line:=by
  intro x hx i
  induction i with
 |zero=>exact hx
 |succ i ih=>rw[jj];exact nV (QW hx)
 refine⟨fun h hh=>?_,fun h hh=>?_,fun h hh=>?_⟩
 .obtain⟨r,hr,h1⟩:=hC h hh;obtain⟨x,j,hx,hj,rfl,he⟩:=one r hr;obtain⟨i,_,rfl⟩:=r_.mp h1;exact hm x hx i
 .obtain⟨r,hr,h1⟩:=hC h hh;obtain⟨x,j,hx,hj,rfl,he⟩:=one r hr;obtain⟨i,hi,rfl⟩:=r_.mp h1;have hi:=n_.mp hi;refine hC' _ hr _ ?_;rw[<-jj (nxt W O s)];by_cases q:i+1=j
  .rw[q,he];exact r_.mpr ⟨0,n_.mpr hj,rfl⟩
  .exact r_.mpr ⟨i+1,n_.mpr (by omega),rfl⟩
 .obtain⟨r,hr,h1⟩:=hC h hh;obtain⟨x,j,hx,hj,rfl,he⟩:=one r hr;obtain⟨i,hi,rfl⟩:=r_.mp h1;exact⟨j-1,by rw[show j-1+1=j by omega,CD,he]⟩
theorem O2(hne:s.line≠[]):gy W O s≠[]:=by obtain⟨z,p,h1,h2,h3,h4,h5⟩:=Fd (f:=nxt W O s) (l:=s.line) (fun h hh=>nV hne) hne;exact QW (Rb.mpr ⟨z,h1,FJ h2 h3 h4 h5⟩)
def gone(W:Nat->List Nat)(O:Nat->Option Nat)(s:S):List Nat:=(gy W O s).flatten
theorem qN:Cyc W O s (gone W O s):=De (fun h hh=>RI.mp hh) (fun r hr h hh=>RI.mpr ⟨r,hr,hh⟩)
theorem Dc{f:Nat->Nat}{n x:Nat}{r:List Nat}(h:gL f n x=some r):r≠[]:=by obtain⟨j,h1,rfl,_⟩:=Fz h;intro z;have:=Di f x j;rw[z]at this;simp at this;omega
theorem Cy(hne:s.line≠[]):gone W O s≠[]:=by have h:=O2 (W:=W) (O:=O) hne;cases q:gy W O s with
|nil=>exact absurd q h
|cons r t=>
  have hr:r∈gy W O s:=by rw[q];exact d_
  obtain⟨x,_,h2⟩:=Rb.mp hr;unfold gone;rw[q,Ra];intro z;exact Dc h2 (List.append_eq_nil_iff.mp z).1
theorem NS(hne:s.line≠[]):(minus W s (gone W O s)).line.length<s.line.length:=by have h:=Cy (W:=W) (O:=O) hne;obtain⟨x,hx⟩:=Rm _ h;have hx2:=(qN (W:=W) (O:=O) (s:=s)).sub x hx;have:=rH (fun h=>decide (h∉gone W O s)) s.line;have h3:0<(s.line.filter fun h=>! decide (h∉gone W O s)).length:=R7 (l_.mpr ⟨hx2,by simpa using hx⟩);show(s.line.filter _).length<_;omega
def deal(W:Nat->List Nat)(O:Nat->Option Nat):Nat->S->Nat->Nat
|0,_,_=>0
|n+1,s,h=>if h∈gone W O s then bB W s h else deal W O n (minus W s (gone W O s)) h
theorem Od{b:Nat->Nat}(t:TTC W O a s):(∀h∈s.line,b h=a h)->TTC W O b s:=by induction t with
|nil h0=>exact fun _=>.nil h0
|@step s C c ha t ih=>exact fun e=>.step C c (fun h hh=>by rw[e h (c.sub h hh)];exact ha h hh) (ih fun h hh=>e h (l_.mp hh).1)
theorem MK:∀(n:Nat)(s:S),s.line.length<n->TTC W O (deal W O n s) s:=by
 intro n
 induction n with
|zero=>intro s h;omega
|succ n ih=>
  intro s h;by_cases hl:s.line=[]
  .exact .nil hl
  .have hlt:=NS (W:=W) (O:=O) hl;refine .step (gone W O s) qN (fun h hh=>?_) (Od (ih _ (by omega)) fun h hh=>?_)
   .show(if h∈gone W O s then _ else _)=_;rw[if_pos hh]
   .have:=(l_.mp hh).2;simp only[decide_eq_true_eq]at this;show(if h∈gone W O s then _ else _)=_;rw[if_neg this]
end
end Rg
end
section
namespace Rg
section
variable{W W':Nat->List Nat}{O:Nat->Option Nat}{s:S}{a b:Nat->Nat}
theorem D5{l:List Nat}{h:Nat}(hn:l.Nodup):l.erase h=l.filter fun x=>decide (x≠h):=by induction l with
|nil=>rfl
|cons b l ih=>
  have hn':=Q1.mp hn;by_cases q:b=h
  .subst q;rw[List.erase_cons_head,QQ,if_neg (by simp)];symm;rw[List.filter_eq_self];intro x hx;have:x≠b:=by rintro rfl;exact hn'.1 hx
   simpa using this
  .rw[VN (by simpa using q),QQ,if_pos (by simpa using q),ih hn'.2]
end
end Rg
end
section
namespace Rg
section
variable(W:Nat->List Nat)(d:Nat->Nat)
def i5:List Nat->List Nat->Prop
|[],_=>True
|h::l,T=>best (W h) T=d h/\i5 l (T.erase (d h))
def serD:List Nat->List Nat->Nat->Nat
|[],_=>fun _=>0
|h::l,T=>fun x=>if x=h then best (W h) T else serD l (T.erase (best (W h) T)) x
variable{W d}
theorem Es{d':Nat->Nat}:∀{o T:List Nat},(∀x∈o,d x=d' x)->i5 W d o T->i5 W d' o T
|[],_,_,_=>trivial
|h::l,T,e,s=>by have e1:=e h d_;exact⟨by rw[<-e1];exact s.1,by rw[<-e1];exact Es (fun x hx=>e x (i_ _ hx)) s.2⟩
theorem Bs:∀(o T:List Nat),o.Nodup->i5 W (serD W o T) o T
|[],_,_=>trivial
|h::l,T,hn=>by
  have hn':=Q1.mp hn;have e:serD W (h::l) T h=best (W h) T:=by simp[serD]
  refine⟨e.symm,?_⟩;rw[e];refine Es (fun x hx=>?_) (Bs l _ hn'.2);have:x≠h:=by rintro rfl;exact hn'.1 hx
  simp[serD,this]
theorem CP:∀{o T:List Nat},i5 W d o T->T.Nodup->o.length<=T.length->(∀h∈o,∀x∈T,x∈W h)->(∀h∈o,d h∈T)/\∀h∈o,∀l∈o,o.Nodup->d h=d l->h=l
|[],_,_,_,_,_=>⟨fun _ h=>(nomatch h),fun _ h=>(nomatch h)⟩
|a::o,T,s,hT,hl,hr=>by
  have hp:0<T.length:=by simp at hl;omega
  have hx:T[0]∈T:=QS _;have hb:d a∈T:=by rw[<-s.1];exact n5 ⟨T[0],hr a d_ _ hx,hx⟩
  have hlen:(T.erase (d a)).length=T.length-1:=Rs hb;obtain⟨h1,h2⟩:=CP s.2 (hT.erase _) (by rw[hlen];simp at hl;omega) fun h hh x hx=>hr h (i_ _ hh) x (Tg hx);have h3:∀h∈o,d h≠d a:=fun h hh e=>by have:=h1 h hh;rw[e]at this;exact(Tz hT).mp this |>.1 rfl
  refine⟨fun h hh=>?_,fun h hh l hl' hn e=>?_⟩
  .rcases w_.mp hh with rfl|hh
   .exact hb
   .exact Tg (h1 h hh)
  .have hn':=Q1.mp hn;rcases w_.mp hh with z|hh'
   .rcases w_.mp hl' with z'|hl''
    .exact z.trans z'.symm
    .subst z;exact absurd e.symm (h3 l hl'')
   .rcases w_.mp hl' with z'|hl''
    .subst z';exact absurd e (h3 h hh')
    .exact h2 h hh' l hl'' hn'.2 e
end
end Rg
end
section
namespace Rg
section
variable{W:Nat->List Nat}{O:Nat->Option Nat}{s:S}{a b:Nat->Nat}
theorem Cyc.pre{C:List Nat}(c:Cyc W O s C){h:Nat}(hh:h∈C):∃l∈C,nxt W O s l=h:=by obtain⟨k,e⟩:=c.per h hh;rw[jj]at e;exact⟨_,c.it_mem hh k,e⟩
end
end Rg
end
section
namespace Rg
section
variable{W:Nat->List Nat}{O:Nat->Option Nat}{s:S}{a:Nat->Nat}
structure Chain(W:Nat->List Nat)(O:Nat->Option Nat)(s:S)(A:List Nat):Prop where
 nd:A.Nodup
 sub:∀h∈A,h∈s.line
 hd:∀h l,A=h::l->s.line.headD 0=h
 nx:∀(i:Nat) h l,A[i]? = some h->A[i+1]? = some l->O l=some (bB W s h)
theorem Hv:Chain W O s []:=⟨VO,fun _ h=>(nomatch h),fun _ _ h=>(nomatch h),fun i h l e=>by simp at e⟩
theorem Hw(hne:s.line≠[]):Chain W O s [s.line.headD 0]:=by refine⟨by simp,fun h hh=>?_,fun h l e=>by cases e;rfl,fun i h l e1 e2=>by simp at e2⟩;have:=D_.mp hh;subst this;cases e:s.line with
|nil=>exact absurd e hne
|cons b t=>exact d_
variable{A:List Nat}
theorem Chain.at(c:Chain W O s A){i h:Nat}(e:A[i]? = some h):h∈A:=RN e
theorem Chain.nxt(c:Chain W O s A)(k:Ok W O s){i h l:Nat}(e1:A[i]? = some h)(e2:A[i+1]? = some l):Rg.nxt W O s h=l:=qi k (c.sub l (c.at e2)) (c.nx i h l e1 e2)
theorem Chain.walk(c:Chain W O s A)(k:Ok W O s):∀(t:Nat){j h l:Nat},A[j]? = some h->A[j+t]? = some l->it (Rg.nxt W O s) t h=l
|0,j,h,l,e1,e2=>by rw[Wo,e1]at e2;exact K_ e2
|t+1,j,h,l,e1,e2=>by have hlt:j+(t+1)<A.length:=(e_.mp e2).1;have e3:A[j+1]? = some A[j+1]:=b_ (by omega);show it _ t (Rg.nxt W O s h)=l;rw[c.nxt k e1 e3];exact c.walk k t e3 (by rw[show j+1+t=j+(t+1)by omega];exact e2)
theorem oh{i h:Nat}(hh:h∈A.drop i):∃j,i<=j/\A[j]? = some h:=by obtain⟨j,hj⟩:=Su hh;rw[Sf]at hj;exact⟨i+j,by omega,hj⟩
theorem qG{i j h:Nat}(hj:i<=j)(e:A[j]? = some h):h∈A.drop i:=by refine RN (i:=j-i) ?_;rw[Sf,show i+(j-i)=j by omega];exact e
theorem Chain.cyc(c:Chain W O s A)(k:Ok W O s){i z f:Nat}(hz:A[A.length-1]? = some z)(hf:A[i]? = some f)(e:Rg.nxt W O s z=f):Cyc W O s (A.drop i):=by
 have hil:i<A.length:=(e_.mp hf).1;refine⟨fun h hh=>c.sub h (Ui hh),fun h hh=>?_,fun h hh=>?_⟩
 .obtain⟨j,h1,h2⟩:=oh hh;have hj:j<A.length:=(e_.mp h2).1;by_cases q:j+1<A.length
  .have e3:A[j+1]? = some A[j+1]:=b_ q;rw[c.nxt k h2 e3];exact qG (by omega) e3
  .have:j=A.length-1:=by omega
   subst this;rw[hz]at h2;cases h2;rw[e];exact qG (q_ _) hf
 .obtain⟨j,h1,h2⟩:=oh hh;have hj:j<A.length:=(e_.mp h2).1;refine⟨A.length-i-1,?_⟩;have w1:=c.walk k (A.length-1-j) h2 (l:=z) (by rw[show j+(A.length-1-j)=A.length-1 by omega];exact hz);have w2:=c.walk k (j-i) hf (l:=h) (by rw[show i+(j-i)=j by omega];exact h2);rw[show A.length-i-1+1=(A.length-1-j)+((j-i)+1)by omega,eh,w1];show it _ (j-i) (Rg.nxt W O s z)=h;rw[e];exact w2
theorem Chain.apart(c:Chain W O s A){i j h l:Nat}(e1:A[i]? = some h)(e2:A[j]? = some l)(e:h=l):i=j:=by
 subst e;have h1:=(e_.mp e1)
 have h2:=(e_.mp e2)
 obtain⟨b1,q1⟩:=h1;obtain⟨b2,q2⟩:=h2;have:=Tt.mp c.nd;rcases Nat.lt_trichotomy i j with z|z|z
 .exact absurd (q1.trans q2.symm) (this i j b1 b2 z)
 .exact z
 .exact absurd (q2.trans q1.symm) (this j i b2 b1 z)
theorem Chain.take(c:Chain W O s A){s':S}(i:Nat)(hl:∀(j:Nat) h,j<i->A[j]? = some h->h∈s'.line)(hh:∀h l,A=h::l->0<i->s'.line.headD 0=h)(ht:∀(j:Nat) h l,j+1<i->A[j]? = some h->A[j+1]? = some l->bB W s' h=bB W s h):Chain W O s' (A.take i):=by
 refine⟨c.nd.sublist (Wh _ _),fun h hm=>?_,fun h l e=>?_,fun j h l e1 e2=>?_⟩
 .obtain⟨j,hj⟩:=Su hm;rw[RJ]at hj;split at hj
  .rename_i q;exact hl j h q hj
  .cases hj
 .cases i with
 |zero=>cases e
 |succ i=>cases A with
  |nil=>cases e
  |cons b t=>cases e;exact hh _ _ rfl (by omega)
 .rw[RJ]at e1 e2;split at e1
  .split at e2
   .rename_i q1 q2;rw[ht j h l q2 e1 e2];exact c.nx j h l e1 e2
   .cases e2
  .cases e1
theorem Av(t:TTC W O a s)(k:Ok W O s)(c:Chain W O s A){i z f:Nat}(hz:A[A.length-1]? = some z)(hf:A[i]? = some f)(hO:O f=some (bB W s z)):Ok W O (minus W s (A.drop i))/\TTC W O a (minus W s (A.drop i))/\Chain W O (minus W s (A.drop i)) (A.take i)/\(∀h∈A.drop i,a h=bB W s h)/\Cyc W O s (A.drop i):=by
 have cy:=c.cyc k hz hf (qi k (c.sub f (c.at hf)) hO);obtain⟨t1,t2⟩:=uP t k cy;have nin:∀(j:Nat) h,j<i->A[j]? = some h->h∉A.drop i:=fun j h hj e q=>by obtain⟨j',h1,h2⟩:=oh q;have:=c.apart e h2 rfl;omega
 refine⟨kK k cy,t1,c.take i (fun j h hj e=>l_.mpr ⟨c.sub h (c.at e),by simpa using nin j h hj e⟩) (fun h l e hi=>?_) (fun j h l hj e1 e2=>?_),t2,cy⟩
 .have e0:A[0]? = some h:=by rw[e];rfl
  exact sd (c.hd h l e) (QW (c.sub h (c.at e0))) (by simpa using nin 0 h hi e0)
 .have hh:=c.sub h (c.at e1);refine wQ (fun x hx=>(l_.mp hx).1) (l_.mpr ⟨k.tgt_mem hh,?_⟩) (k.tgt_row hh);simp only[decide_eq_true_eq];intro q;obtain⟨u,u1,u2⟩:=r_.mp q;have:Rg.nxt W O s u=l:=qi k (c.sub l (c.at e2)) (by rw[c.nx j h l e1 e2];exact congrArg some u2.symm);exact nin (j+1) l hj e2 (this▸cy.cl u u1)
theorem HW(t:TTC W O a s)(k:Ok W O s)(c:Chain W O s A){z:Nat}(hz:A[A.length-1]? = some z)(hO:∀h∈s.line,O h≠some (bB W s z)):Ok W O (minus W s [z])/\TTC W O a (minus W s [z])/\Chain W O (minus W s [z]) (A.take (A.length-1))/\a z=bB W s z:=by
 have hzl:=c.sub z (c.at hz);have hlen:A.length-1<A.length:=(e_.mp hz).1;have hne:s.line≠[]:=QW hzl;have hfind:s.line.find? (fun h=>decide (O h=some (bB W s z)))=none:=Q3.mpr fun h hh=>by simpa using hO h hh
 have hnz:Rg.nxt W O s z=s.line.headD 0:=by unfold Rg.nxt pt;rw[hfind];rfl
 have h0:A[0]? = some (s.line.headD 0):=by cases e:A with
 |nil=>rw[e]at hlen;simp at hlen
 |cons b r=>rw[c.hd b r e];rfl
 have cy:Cyc W O s A:=by have:=c.cyc k hz h0 hnz;rwa[T1]at this
 obtain⟨t1,t2⟩:=uP t k cy;have hza:=t2 z (c.at hz);have k':Ok W O (minus W s [z]):=by
  refine⟨m7 k.nl,m7 k.nt,?_,fun h hh x hx=>k.row h (l_.mp hh).1 x (l_.mp hx).1,k.inj,fun h hh x hx=>?_⟩
  .have e1:(minus W s [z]).line=s.line.erase z:=by rw[D5 k.nl];exact jl fun x _=>by simp
   have e2:(minus W s [z]).things=s.things.erase (bB W s z):=by rw[D5 k.nt];exact jl fun x _=>by simp
   rw[e1,e2,Rs hzl,Rs (k.tgt_mem hzl)];have:=k.le;omega
  .have hl:=(l_.mp hh).1;refine l_.mpr ⟨k.own h hl x hx,?_⟩;simp only[u_,R5,D_,decide_eq_true_eq]
   rintro rfl
   exact hO h hl hx
 have neq:∀(j:Nat) h,j<A.length-1->A[j]? = some h->h≠z:=fun j h hj e q=>by have:=c.apart e hz q;omega
 have tg:∀(j:Nat) h,j<A.length-1->A[j]? = some h->bB W (minus W s [z]) h=bB W s h:=fun j h hj e1=>by have hh:=c.sub h (c.at e1);have e2:A[j+1]? = some A[j+1]:=b_ (by omega);refine wQ (fun x hx=>(l_.mp hx).1) (l_.mpr ⟨k.tgt_mem hh,?_⟩) (k.tgt_row hh);simp only[u_,R5,D_,decide_eq_true_eq];intro q;exact hO _ (c.sub _ (c.at e2)) (by rw[c.nx j h _ e1 e2];exact congrArg some q)
 have c':Chain W O (minus W s [z]) (A.take (A.length-1)):=by
  refine c.take _ (fun j h hj e=>l_.mpr ⟨c.sub h (c.at e),by simpa using neq j h hj e⟩) (fun h l e hi=>?_) (fun j h l hj e1 e2=>tg j h (by omega) e1);have e0:A[0]? = some h:=by rw[e];rfl
  exact sd (c.hd h l e) hne (by simpa using neq 0 h hi e0)
 refine⟨k',?_,c',hza⟩;by_cases q:A.length-1=0
 .have e:A=[z]:=by cases e:A with
  |nil=>rw[e]at hlen;simp at hlen
  |cons b r=>rw[e]at q hz;simp at q;subst q;simp at hz;rw[hz]
  rw[e]at t1;exact t1
 .have tl:(A.take (A.length-1)).length=A.length-1:=by rw[Rf];omega
  have ly:(A.take (A.length-1))[(A.take (A.length-1)).length-1]? = some A[A.length-2]:=by rw[tl,RJ,if_pos (by omega),b_ (by omega)];congr 1
  have e2:A[A.length-2]? = some A[A.length-2]:=b_ (by omega);have oz:O z=some (bB W s A[A.length-2]):=c.nx (A.length-2) _ z e2 (by rw[show A.length-2+1=A.length-1 by omega];exact hz);have l0:(A.take (A.length-1))[0]? = some (s.line.headD 0):=by rw[RJ,if_pos (by omega)];exact h0
  have hd':(minus W s [z]).line.headD 0=s.line.headD 0:=sd rfl hne (by simpa using neq 0 _ (by omega) h0);have fr:Rg.nxt W O (minus W s [z]) A[A.length-2]=s.line.headD 0:=by
   unfold Rg.nxt pt;have:(minus W s [z]).line.find? (fun h=>decide (O h=some (bB W (minus W s [z]) A[A.length-2])))=none:=Q3.mpr fun h hh=>by rw[tg (A.length-2) _ (by omega) e2];have hm:=l_.mp hh;simp only[decide_eq_true_eq];intro e;have:=k.inj h z _ e oz;subst this;simpa using hm.2
   rw[this];exact hd'
  have cy':=c'.cyc k' ly l0 fr;rw[T1]at cy';have sub':∀h,h∈A.take (A.length-1)->∃j,j<A.length-1/\A[j]? = some h:=fun h hm=>by
   obtain⟨j,hj⟩:=Su hm;rw[RJ]at hj;split at hj
   .rename_i q2;exact⟨j,q2,hj⟩
   .cases hj
  have mA:∀h,h∈A↔h∈A.take (A.length-1)\/h=z:=fun h=>by
   constructor
   .intro hm;obtain⟨j,hj⟩:=Su hm;have hjl:=(e_.mp hj).1;by_cases z1:j<A.length-1
    .left;refine RN (i:=j) ?_;rw[RJ,if_pos z1];exact hj
    .have:j=A.length-1:=by omega
     subst this;rw[hz]at hj;cases hj;exact .inr rfl
   .rintro(hm|rfl)
    .exact List.mem_of_mem_take hm
    .exact c.at hz
  refine .step (A.take (A.length-1)) cy' (fun h hm=>?_) ?_
  .obtain⟨j,j1,j2⟩:=sub' h hm;rw[tg j h j1 j2];exact t2 h (c.at j2)
  .have e:minus W (minus W s [z]) (A.take (A.length-1))=minus W s A:=by
    unfold minus;simp only[S.mk.injEq,UN];refine⟨jl fun h _=>?_,jl fun x _=>?_⟩
    .rw[N_];simp only[QG,decide_eq_true_eq,D_];rw[mA h];constructor
     .rintro⟨q1,q2⟩ (q3|q3)
      .exact q1 q3
      .exact q2 q3
     .exact fun q1=>⟨fun q2=>q1 (.inl q2),fun q2=>q1 (.inr q2)⟩
    .rw[N_];simp only[QG,decide_eq_true_eq,u_,R5,D_];constructor
     .rintro⟨q1,q2⟩ q3
      obtain⟨h,h1,h2⟩:=r_.mp q3;rcases(mA h).mp h1 with h3|h3
      .obtain⟨j,j1,j2⟩:=sub' h h3;exact q1 (r_.mpr ⟨h,h3,by have:=tg j h j1 j2;unfold minus at this;simp only[u_,R5,D_]at this;rw[this];exact h2⟩)
      .subst h3;exact q2 h2.symm
     .intro q1;refine⟨fun q2=>?_,fun q2=>q1 (r_.mpr ⟨z,c.at hz,q2.symm⟩)⟩;obtain⟨h,h1,h2⟩:=r_.mp q2;obtain⟨j,j1,j2⟩:=sub' h h1;have:=tg j h j1 j2;unfold minus at this;simp only[u_,R5,D_]at this;rw[this]at h2;exact q1 (r_.mpr ⟨h,c.at j2,h2⟩)
   rw[e];exact t1
theorem Hr(c:Chain W O s A){z l:Nat}(hz:A[A.length-1]? = some z)(hl:l∈s.line)(hn:l∉A)(hO:O l=some (bB W s z)):Chain W O s (A++[l]):=by
 have hlen:A.length-1<A.length:=(e_.mp hz).1;refine⟨Rp.mpr ⟨c.nd,by simp,fun x hx y hy=>by rw[D_.mp hy];rintro rfl;exact hn hx⟩,fun h hh=>?_,fun h r e=>?_,fun i h m e1 e2=>?_⟩
 .rcases Rc.mp hh with q|q
  .exact c.sub h q
  .rw[D_.mp q];exact hl
 .cases eA:A with
 |nil=>rw[eA]at hlen;simp at hlen
 |cons b t=>rw[eA]at e;cases e;exact c.hd _ _ eA
 .by_cases q:i+1<A.length
  .rw[QJ (by omega)]at e1 e2;exact c.nx i h m e1 e2
  .have hi:i+1<(A++[l]).length:=(e_.mp e2).1;simp at hi;have:i=A.length-1:=by omega
   subst this;rw[QJ (by omega),hz]at e1;cases e1;rw[Rj (by omega),show A.length-1+1-A.length=0 by omega]at e2;cases e2;exact hO
end
end Rg
end
section
namespace Rg
theorem Nk{f:Nat->Nat}{n first:Nat}:∀{k i:Nat}{r:List Nat},(∀t,0<t->t<i->first<it f t first)->gz f n first k (c6 f first i) (it f i first)=some r->∃j,i<=j/\r=c6 f first j/\it f j first=first/\∀t,0<t->t<j->first<it f t first:=by
 intro k
 induction k with
|zero=>intro i r _ h;cases h
|succ k ih=>
  intro i r hg h;unfold gz at h;by_cases c:first<it f i first/\(c6 f first i).length<n
  .rw[if_pos c]at h;have e1:c6 f first i++[it f i first]=c6 f first (i+1):=(wK f first i).symm
   have e2:f (it f i first)=it f (i+1) first:=(jj f i first).symm
   rw[e1,e2]at h;obtain⟨j,h1,h2⟩:=ih (i:=i+1) (fun t t0 ti=>by
    by_cases q:t=i
    .subst q;exact c.1
    .exact hg t t0 (by omega)) h
   exact⟨j,by omega,h2⟩
  .rw[if_neg c]at h;by_cases e:it f i first=first
   .rw[if_pos e]at h;cases h;exact⟨i,q_ _,rfl,e,hg⟩
   .rw[if_neg e]at h;cases h
theorem wU{f:Nat->Nat}{n x:Nat}{r:List Nat}(h:gL f n x=some r):∃j,0<j/\r=c6 f x j/\it f j x=x/\∀t,0<t->t<j->x<it f t x:=by have h':gz f n x (n+1) (c6 f x 1) (it f 1 x)=some r:=h;obtain⟨j,h1,h2⟩:=Nk (fun t h1 h2=>by omega) h';exact⟨j,by omega,h2⟩
theorem Op{f:Nat->Nat}{x j:Nat}(e:it f j x=x)(hg:∀t,0<t->t<j->x<it f t x):(c6 f x j).Nodup:=by
 unfold c6;rw[UO,T0];have hp:∀p q:Nat,p<q->q<j->it f p x≠it f q x:=by
  intro p q hpq hq z;have h1:it f (p+(j-q)) x=x:=by rw[eh,z,<-eh,show q+(j-q)=j by omega];exact e
  have:=hg (p+(j-q)) (by omega) (by omega);omega
 refine Tt.mpr fun i l hi hl hil=>?_;simp only[List.getElem_range];simp at hl;exact hp i l hil hl
theorem IU{f:Nat->Nat}{x j:Nat}(hj:0<j)(e:it f j x=x)(t:Nat):it f t x=it f (t%j) x:=by conv=>lhs;rw[<-WW t j,eh,nM f e]
theorem Fl{f:Nat->Nat}{x j y t:Nat}(hj:0<j)(e:it f j x=x)(hg:∀t,0<t->t<j->x<it f t x)(h:it f t x=y):x<=y:=by
 rw[IU hj e]at h;by_cases q:t%j=0
 .rw[q]at h;have:x=y:=h;omega
 .have:=hg (t%j) (by omega) (TM _ hj);omega
theorem Pl{f:Nat->Nat}{n x y w:Nat}{r u:List Nat}(hr:gL f n x=some r)(hu:gL f n y=some u)(h1:w∈r)(h2:w∈u):x=y:=by
 obtain⟨j,j0,rfl,je,jg⟩:=wU hr;obtain⟨l,l0,rfl,le,lg⟩:=wU hu;obtain⟨p,hp,e1⟩:=r_.mp h1;obtain⟨q,hq,e2⟩:=r_.mp h2;have hp:=n_.mp hp;have hq:=n_.mp hq;have a1:it f (p+(l-q)) x=y:=by rw[eh,e1,<-e2,<-eh,show q+(l-q)=l by omega];exact le
 have a2:it f (q+(j-p)) y=x:=by rw[eh,e2,<-e1,<-eh,show p+(j-p)=j by omega];exact je
 have:=Fl j0 je jg a1;have:=Fl l0 le lg a2;omega
theorem yg{f:Nat->Nat}{n:Nat}:∀{l:List Nat},l.Nodup->(l.filterMap fun h=>gL f n h).flatten.Nodup
|[],_=>VO
|x::l,h=>by have hn:=Q1.mp h;have ih:=yg (f:=f) (n:=n) hn.2;rw[SN];cases e:gL f n x with
 |none=>exact ih
 |some r=>
   rw[Ra];obtain⟨j,j0,hr,je,jg⟩:=wU e;refine Rp.mpr ⟨by rw[hr];exact Op je jg,ih,fun a ha b hb=>?_⟩
   rintro rfl
   obtain⟨u,u1,u2⟩:=RI.mp hb;obtain⟨y,y1,y2⟩:=Rb.mp u1;have:=Pl e y2 ha u2;subst this;exact hn.1 y1
theorem J3{l m:List (List Nat)}(h:l.Perm m):l.flatten.Perm m.flatten:=h.flatten
end Rg
end
section
namespace Rg
theorem se{α:Type}[DecidableEq α]:∀{l m:List α},l.Nodup->m.Nodup->(∀x,x∈l↔x∈m)->l.Perm m
|[],m,_,_,h=>by cases m with
 |nil=>exact .nil
 |cons a m=>exact absurd ((h a).mpr d_) (fun z=>nomatch z)
|a::l,m,hl,hm,h=>by
  have ha:a∈m:=(h a).mp d_;have hl':=Q1.mp hl;refine(List.Perm.cons a (se hl'.2 (hm.erase a) fun x=>?_)).trans (VP ha).symm;constructor
  .intro hx;have hne:x≠a:=by rintro rfl;exact hl'.1 hx
   exact(Ug hne).mpr ((h x).mp (i_ _ hx))
  .intro hx;obtain⟨h1,h2⟩:=(Tz hm).mp hx;exact(w_.mp ((h x).mpr h2)).resolve_left h1
end Rg
end
section
namespace Fq
theorem D8(a:Int)(b:Nat):RY a b=RY b (a%(b:Int)):=by
 refine WF (Ym (Sv _ _) ?_) (Ym ?_ (T8 _ _))
 .rw[Int.emod_def];exact Int.dvd_sub (T8 _ _) (XT (Sv a b) (Wp _ _))
 .have h:=Int.mul_ediv_add_emod a b;rw[<-h];exact Int.dvd_add (XT (T8 (b:Int) _) (Wp _ _)) (by rw[h];exact Sv _ _)
theorem vG(t:Int){b:Nat}(h:0<b):0<RY t b:=UP fun z=>by have:=Int.gcd_eq_zero_iff.mp z;omega
def low(t:Int)(b:Nat):Int×Nat:=(t/(RY t b:Int),b/RY t b)
def nF(a b:Int×Nat):Int×Nat:=low (a.1*b.2+b.1*a.2) (a.2*b.2)
def Same(a b:Int×Nat):Prop:=a.1*(b.2:Int)=b.1*(a.2:Int)
theorem Cn(t:Int){b:Nat}(h:0<b):RY (low t b).1 ((low t b).2:Nat)=1:=by have:=Int.gcd_ediv_gcd_ediv_gcd (vG t h);unfold low;rw[Vb];exact this
theorem mS(t:Int){b:Nat}(h:0<b):0<(low t b).2:=by have h1:RY t b∣b:=Vc.mp (Sv t b);exact Nat.div_pos (XU h h1) (vG t h)
theorem Jh(t:Int)(b:Nat):(low t b).2<=b:=Vz _ _
theorem Kd(t:Int)(b:Nat):(low t b).1.natAbs<=t.natAbs:=Int.natAbs_ediv_le_natAbs _ _
theorem oi(t:Int)(b:Nat):Same (low t b) (t,b):=by
 unfold Same low;have h1:(RY t b:Int)∣t:=T8 t b;have h2:(RY t b:Int)∣(b:Int):=Sv t b;obtain⟨x,hx⟩:=h1;obtain⟨y,hy⟩:=h2;generalize hg:(RY t b:Int)=g at hx hy;show t/g*(b:Int)=t*((b/RY t b:Nat):Int);rw[Vb,hg];by_cases z:g=0
 .subst z;rw[Int.zero_mul]at hx hy;rw[hx,hy];simp
 .rw[hx,hy,U6 _ z,U6 _ z];rw[<-H_,QP x g]
structure Bd(k:Nat)(a:Int×Nat):Prop where
 pos:0<a.2
 bot:a.2<2^k
 top:a.1.natAbs<2^k
theorem Bd.mono{k l:Nat}{a:Int×Nat}(h:Bd k a)(hl:k<=l):Bd l a:=⟨h.pos,C_ h.bot (Tl (by omega) hl),C_ h.top (Tl (by omega) hl)⟩
theorem Bd.low{k:Nat}{t:Int}{b:Nat}(h:0<b)(h1:b<2^k)(h2:t.natAbs<2^k):Bd k (low t b):=⟨mS t h,UI (Jh t b) h1,UI (Kd t b) h2⟩
theorem xR{a b k l:Nat}(h1:a<2^k)(h2:b<2^l):a*b<2^(k+l):=by rw[Nat.pow_add];exact Nat.mul_lt_mul'' h1 h2
theorem lC{k l:Nat}{a b:Int×Nat}(ha:Bd k a)(hb:Bd l b):0<a.2*b.2/\a.2*b.2<2^(k+l):=⟨SZ ha.pos hb.pos,xR ha.bot hb.bot⟩
theorem Nz{k l:Nat}{a b:Int×Nat}(ha:Bd k a)(hb:Bd l b):(a.1*b.2+b.1*a.2).natAbs<2^(k+l+1):=by
 have h1:(a.1*(b.2:Int)).natAbs<2^(k+l):=by rw[UQ,P_];exact xR ha.top hb.bot
 have h2:(b.1*(a.2:Int)).natAbs<2^(k+l):=by rw[UQ,P_,Vo k l];exact xR hb.top ha.bot
 have h3:=Int.natAbs_add_le (a.1*(b.2:Int)) (b.1*(a.2:Int));rw[Vv];omega
theorem Bd.plus{k l:Nat}{a b:Int×Nat}(ha:Bd k a)(hb:Bd l b):Bd (k+l+1) (nF a b):=by obtain⟨h1,h2⟩:=lC ha hb;exact Bd.low h1 (C_ h2 (Tl (by omega) (by omega))) (Nz ha hb)
def pG(a b:Int×Nat):Bool:=decide (a.1*(b.2:Int)<b.1*(a.2:Int))
end Fq
end
section
namespace Rg
theorem Bb{α:Type}(f:α->Nat)(os:List α):∀P:List Nat,P.Nodup->(P.map fun t=>os.countP fun o=>decide (f o=t)).sum=os.countP fun o=>decide (f o∈P)
|[],_=>by simp
|t::P,hn=>by
  have hn':=Q1.mp hn;rw[u_,Q6,Bb f os P hn'.2];clear hn
  induction os with
 |nil=>rfl
 |cons o os ih=>
   rw[Tq,Tq,Tq,<-ih];by_cases h1:f o=t
   .have h2:f o∉P:=by rw[h1];exact hn'.1
    simp[h1,hn'.1];omega
   .by_cases h2:f o∈P
    .simp[h1,h2];omega
    .simp[h1,h2]
end Rg
namespace Fq
def W(N:Nat)(a:Int×Nat)(S:Nat):Prop:=0<a.2/\a.1*(N:Int)=(S:Int)*(a.2:Int)
theorem W.low{N c:Nat}(hN:0<N):W N (low c N) c:=by have:=oi (c:Int) N;exact⟨mS _ hN,this⟩
theorem W.plus{N S c:Nat}{a b:Int×Nat}(ha:W N a S)(hb:W N b c):W N (nF a b) (S+c):=by
 have hp:0<a.2*b.2:=SZ ha.1 hb.1;refine⟨mS _ hp,?_⟩;have h:=oi (a.1*(b.2:Int)+b.1*(a.2:Int)) (a.2*b.2);unfold Same at h;unfold nF;generalize Fq.low (a.1*(b.2:Int)+b.1*(a.2:Int)) (a.2*b.2)=p at h ⊢;have h1:=ha.2;have h2:=hb.2;have hq:((a.2*b.2:Nat):Int)≠0:=by omega
 refine Sg hq ?_;have e1:p.1*(N:Int)*((a.2*b.2:Nat):Int)=(p.1*((a.2*b.2:Nat):Int))*(N:Int):=by rw[H_,QP (N:Int),<-H_]
 rw[e1,h];show(a.1*(b.2:Int)+b.1*(a.2:Int))*(p.2:Int)*(N:Int)=(((S+c:Nat):Int))*(p.2:Int)*((a.2*b.2:Nat):Int);have e2:(a.1*(b.2:Int)+b.1*(a.2:Int))*(p.2:Int)*(N:Int)=((a.1*(N:Int))*(b.2:Int)+(b.1*(N:Int))*(a.2:Int))*(p.2:Int):=by
  rw[Uj,Uj,Uj];congr 1
  .simp only[H_,QP,QT]
  .simp only[H_,QP,QT]
 rw[e2,h1,h2,VA,Re];simp only[Uj];congr 1 <;> simp only[H_,QP,QT]
theorem W.ge{N S S':Nat}{a b:Int×Nat}(hN:0<N)(ha:W N a S)(hb:W N b S')(h:S'<=S):pG a b=false:=by
 refine decide_eq_false fun hlt=>?_;have h1:=Tj hlt (show(0:Int)<(N:Int)by omega);have e1:a.1*(b.2:Int)*(N:Int)=(S:Int)*((a.2:Int)*(b.2:Int)):=by rw[H_,QP (b.2:Int),<-H_,ha.2,H_]
 have e2:b.1*(a.2:Int)*(N:Int)=(S':Int)*((a.2:Int)*(b.2:Int)):=by rw[H_,QP (a.2:Int),<-H_,hb.2,H_,QP (b.2:Int)]
 rw[e1,e2]at h1;have hp:(0:Int)<=(a.2:Int)*(b.2:Int):=by rw[<-Re];exact S9 _
 have:=Tn h1 hp;omega
end Fq
end
section
namespace Fq
theorem nc{t u:Int}{b d:Nat}(hb:0<b)(hd:0<d)(h:t*(d:Int)=u*(b:Int)):low t b=low u d:=by
 have s1:(low t b).1*(b:Int)=t*((low t b).2:Int):=oi t b;have s2:(low u d).1*(d:Int)=u*((low u d).2:Int):=oi u d;have c1:=Cn t hb;have c2:=Cn u hd;have p1:=mS t hb;have p2:=mS u hd;generalize low t b=p at *;generalize low u d=q at *;have hx:p.1*(q.2:Int)=q.1*(p.2:Int):=by
  have hne:((b*d:Nat):Int)≠0:=by have:=SZ hb hd;omega
  refine Sg hne ?_;rw[Re];have e1:p.1*(q.2:Int)*((b:Int)*(d:Int))=(p.1*(b:Int))*((d:Int)*(q.2:Int)):=by simp only[H_,QP,QT]
  have e2:q.1*(p.2:Int)*((b:Int)*(d:Int))=(q.1*(d:Int))*((b:Int)*(p.2:Int)):=by simp only[H_,QP,QT]
  rw[e1,e2,s1,s2];have e3:t*(p.2:Int)*((d:Int)*(q.2:Int))=(t*(d:Int))*((p.2:Int)*(q.2:Int)):=by simp only[H_,QP,QT]
  have e4:u*(q.2:Int)*((b:Int)*(p.2:Int))=(u*(b:Int))*((p.2:Int)*(q.2:Int)):=by simp only[H_,QP,QT]
  rw[e3,e4,h]
 have hab:p.1.natAbs*q.2=q.1.natAbs*p.2:=by have:=congrArg Int.natAbs hx;rw[UQ,UQ,P_,P_]at this;exact this
 have k1:Yn p.2 p.1.natAbs:=by have:Nat.gcd p.1.natAbs p.2=1:=c1;rw[Ye]at this;exact this
 have k2:Yn q.2 q.1.natAbs:=by have:Nat.gcd q.1.natAbs q.2=1:=c2;rw[Ye]at this;exact this
 have d1:p.2∣q.2:=k1.dvd_of_dvd_mul_left (by rw[hab];exact T9 _ _);have d2:q.2∣p.2:=k2.dvd_of_dvd_mul_left (by rw[<-hab];exact T9 _ _);have e:p.2=q.2:=WF d1 d2;have e':p.1=q.1:=by rw[e]at hx;exact Sg (by omega) hx
 exact W6 e' e
def DD:Nat:=420^7
theorem bN:0<DD:=by decide
theorem Ax:DD<2^61:=by decide
def Qd(z:Int):Int×Nat:=low z DD
theorem ji(z:Int):(Qd z).1*(DD:Int)=z*((Qd z).2:Int):=oi z DD
theorem jK(z:Int):0<(Qd z).2:=mS z bN
theorem Kt(a b:Int):nF (Qd a) (Qd b)=Qd (a+b):=by
 have h1:=ji a;have h2:=ji b;refine nc (SZ (jK a) (jK b)) bN ?_;rw[Re,Uj,Uj];have e1:(Qd a).1*((Qd b).2:Int)*(DD:Int)=((Qd a).1*(DD:Int))*((Qd b).2:Int):=by simp only[H_,QP,QT]
 have e2:(Qd b).1*((Qd a).2:Int)*(DD:Int)=((Qd b).1*(DD:Int))*((Qd a).2:Int):=by simp only[H_,QP,QT]
 rw[e1,e2,h1,h2];simp only[H_,QP,QT]
def BR(a b:Int×Nat):Int×Nat:=low (a.1*b.2-b.1*a.2) (a.2*b.2)
theorem MT(a b:Int):BR (Qd a) (Qd b)=Qd (a-b):=by
 have h1:=ji a;have h2:=ji b;refine nc (SZ (jK a) (jK b)) bN ?_;rw[Re,Yo,Yo];have e1:(Qd a).1*((Qd b).2:Int)*(DD:Int)=((Qd a).1*(DD:Int))*((Qd b).2:Int):=by simp only[H_,QP,QT]
 have e2:(Qd b).1*((Qd a).2:Int)*(DD:Int)=((Qd b).1*(DD:Int))*((Qd a).2:Int):=by simp only[H_,QP,QT]
 rw[e1,e2,h1,h2];simp only[H_,QP,QT]
def uH(a b:Int×Nat):Int×Nat:=low (a.1*b.1) (a.2*b.2)
theorem MU(c:Int)(a:Int):uH (c,1) (Qd a)=Qd (c*a):=by have h1:=ji a;refine nc (SZ (show 0<((c:Int),1).2 from Nat.one_pos) (jK a)) bN ?_;show c*(Qd a).1*(DD:Int)=c*a*((1*(Qd a).2:Nat):Int);rw[Nat.one_mul,H_,h1,H_]
theorem Ic{c:Nat}{a:Nat}(hc:0<c)(h:c∣a):uH (Qd a) (1,c)=Qd ((a/c:Nat):Int):=by have h1:=ji (a:Int);refine nc (SZ (jK _) hc) bN ?_;show(Qd (a:Int)).1*1*(DD:Int)=((a/c:Nat):Int)*(((Qd (a:Int)).2*c:Nat):Int);obtain⟨k,rfl⟩:=h;rw[Vd k hc,Yh,h1,Re,Re];simp only[H_,QP,QT]
theorem Ks(a b:Int):pG (Qd a) (Qd b)=decide (a<b):=by
 have h1:=ji a;have h2:=ji b;have p1:=jK a;have p2:=jK b;have hp:(0:Int)<((Qd a).2:Int)*((Qd b).2:Int):=by rw[<-Re];have:=SZ p1 p2;omega
 have hD:(0:Int)<(DD:Int):=by have:=bN;omega
 unfold pG;rw[N_,decide_eq_true_iff,decide_eq_true_iff];have e1:(Qd a).1*((Qd b).2:Int)*(DD:Int)=a*(((Qd a).2:Int)*((Qd b).2:Int)):=by rw[H_,QP ((Qd b).2:Int),<-H_,h1,H_]
 have e2:(Qd b).1*((Qd a).2:Int)*(DD:Int)=b*(((Qd a).2:Int)*((Qd b).2:Int)):=by rw[H_,QP ((Qd a).2:Int),<-H_,h2,H_,QP ((Qd b).2:Int)]
 constructor
 .intro h;have:=Tj h hD;rw[e1,e2]at this;exact Tn this (Yf hp)
 .intro h;have:=Tj h hp;rw[<-e1,<-e2]at this;exact Tn this (Yf hD)
theorem Hn{a b:Int}(h:Qd a=Qd b):a=b:=by have h1:=ji a;have h2:=ji b;rw[h]at h1;have:=jK b;exact Sg (show((Qd b).2:Int)≠0 by omega) (h1.symm.trans h2)
theorem l8(t:Int):low t 1=(t,1):=by
 unfold low;have:RY t (1:Nat)=1:=by show RY t 1=1;simp
 rw[this];simp
theorem GS(c:Nat):low 1 c=(1,c):=by
 unfold low;have:RY 1 (c:Nat)=1:=by simp
 rw[this];simp
theorem kj:Qd 0=(0,1):=by rw[<-l8 0];exact nc bN (by decide) (by simp)
theorem Af:Qd (DD:Int)=(1,1):=by rw[<-l8 1];exact nc bN (by decide) (by simp)
theorem km{a:Nat}(h:a<=DD):Bd 61 (Qd (a:Int)):=Bd.low bN Ax (by rw[P_];have:=Ax;omega)
end Fq
namespace Et
open Rg
def bi:List Nat->Nat
|[]=>0
|x::l=>l.foldl (fun m y=>if y<m then y else m) x
theorem vF:∀(l:List Nat)(m:Nat),l.foldl (fun m y=>if y<m then y else m) m<=m/\(∀y∈l,l.foldl (fun m y=>if y<m then y else m) m<=y)/\(l.foldl (fun m y=>if y<m then y else m) m=m\/l.foldl (fun m y=>if y<m then y else m) m∈l)
|[],m=>⟨q_ _,fun _ h=>(nomatch h),.inl rfl⟩
|y::l,m=>by
  rw[So];obtain⟨h1,h2,h3⟩:=vF l (if y<m then y else m);have hm:(if y<m then y else m)<=m/\(if y<m then y else m)<=y:=by split <;> omega
  refine⟨O_ h1 hm.1,fun z hz=>?_,?_⟩
  .rcases w_.mp hz with rfl|hz
   .exact O_ h1 hm.2
   .exact h2 z hz
  .rcases h3 with h3|h3
   .rw[h3];by_cases hy:y<m
    .rw[if_pos hy];exact .inr d_
    .rw[if_neg hy];exact .inl rfl
   .exact .inr (i_ _ h3)
theorem wI{l:List Nat}{y:Nat}(h:y∈l):bi l<=y:=by cases l with
|nil=>cases h
|cons x l=>
  obtain⟨h1,h2,_⟩:=vF l x;rcases w_.mp h with rfl|h
  .exact h1
  .exact h2 y h
theorem xA{l:List Nat}(h:l≠[]):bi l∈l:=by cases l with
|nil=>exact absurd rfl h
|cons x l=>
  obtain⟨_,_,h3⟩:=vF l x;rcases h3 with h3|h3
  .show l.foldl (fun m y=>if y<m then y else m) x∈_;rw[h3];exact d_
  .exact i_ _ h3
variable(W:Nat->List Nat)(n:Nat)
def tgs(T:List Nat):List Nat:=(a_ n).map fun h=>best (W h) T
def cH(T:List Nat)(a:Nat->Nat):Nat:=bi ((tgs W n T).map fun x=>a x/(tgs W n T).count x)
def cf(T:List Nat)(a:Nat->Nat)(x:Nat):Nat:=a x-(tgs W n T).count x*cH W n T a
def bT(T:List Nat)(a:Nat->Nat):List Nat:=T.filter fun x=>decide (cf W n T a x≠0)
def cQ:Nat->List Nat->(Nat->Nat)->List (List Nat×Nat×List Nat)
|0,_,_=>[]
|k+1,T,a=>if T=[]then[]else(tgs W n T,cH W n T a,T.filter fun x=>decide (x∉bT W n T a))::cQ k (bT W n T a) (cf W n T a)
structure Ok(T:List Nat)(a:Nat->Nat):Prop where
 nd:T.Nodup
 lt:∀x∈T,x<n
 pos:∀x∈T,0<a x
 dv:∀x∈T,420^T.length∣a x
variable{W n}
variable{T:List Nat}{a:Nat->Nat}
structure Rw(W:Nat->List Nat)(n:Nat):Prop where
 n1:1<=n
 n7:n<=7
 has:∀h x,h<n->x<n->x∈W h
theorem Bx(R:Rw W n)(S:Ok n T a)(hT:T≠[]){h:Nat}(hh:h<n):best (W h) T∈T:=by have hp:=Rh.mpr hT;exact n5 ⟨T[0],R.has h _ hh (S.lt _ (QS _)),QS _⟩
theorem cL:(tgs W n T).length=n:=by unfold tgs;simp
theorem bV(R:Rw W n)(S:Ok n T a)(hT:T≠[]){x:Nat}(h:x∈tgs W n T):x∈T:=by obtain⟨k,hk,rfl⟩:=r_.mp h;exact Bx R S hT (n_.mp hk)
theorem B2(x:Nat):(tgs W n T).count x<=n:=by have:=Uk (a:=x) (l:=tgs W n T);rw[cL]at this;exact this
theorem BE{c:Nat}(h1:1<=c)(h7:c<=7):c∣420:=by match c,h1,h7 with
|1,_,_=>decide
|2,_,_=>decide
|3,_,_=>decide
|4,_,_=>decide
|5,_,_=>decide
|6,_,_=>decide
|7,_,_=>decide
theorem eN(R:Rw W n)(S:Ok n T a)(hT:T≠[]){x:Nat}(hx:x∈tgs W n T):(tgs W n T).count x∣a x/\0<(tgs W n T).count x:=by
 have h1:0<(tgs W n T).count x:=Wb.mpr hx;have h2:=B2 (W:=W) (n:=n) (T:=T) x;have hp:=Rh.mpr hT;have hd:=S.dv x (bV R S hT hx);obtain⟨k,hk⟩:∃k,T.length=k+1:=⟨T.length-1,by omega⟩
 rw[hk,Vv]at hd;exact⟨Ud (BE h1 (by have:=R.n7;omega)) (Ud (T9 _ _) hd),h1⟩
theorem Jy(x:Nat)(hx:x∈tgs W n T):cH W n T a<=a x/(tgs W n T).count x:=wI (r_.mpr ⟨x,hx,rfl⟩)
theorem eB(x:Nat):(tgs W n T).count x*cH W n T a<=a x:=by
 by_cases hx:x∈tgs W n T
 .have h1:=Jy (a:=a) x hx;have h2:=Nat.mul_le_mul_left ((tgs W n T).count x) h1;exact O_ h2 (Nat.mul_div_le _ _)
 .rw[Wc.mpr hx];simp
theorem f8(R:Rw W n):∃x∈tgs W n T,cH W n T a=a x/(tgs W n T).count x:=by
 have hne:(tgs W n T).map (fun x=>a x/(tgs W n T).count x)≠[]:=by intro e;have h1:=congrArg US e;rw[m_,cL]at h1;have h2:=R.n1;rw[TC]at h1;omega
 obtain⟨x,h1,h2⟩:=r_.mp (xA hne);exact⟨x,h1,h2.symm⟩
theorem Jx(R:Rw W n)(S:Ok n T a)(hT:T≠[]):420^(T.length-1)∣cH W n T a:=by
 obtain⟨x,h1,h2⟩:=f8 (T:=T) (a:=a) R;have hp:=Rh.mpr hT;have hd:=S.dv x (bV R S hT h1);obtain⟨hc,hc0⟩:=eN R S hT h1;have hc7:=BE (c:=(tgs W n T).count x) hc0 (by have:=B2 (W:=W) (n:=n) (T:=T) x;have:=R.n7;omega);obtain⟨k,hk⟩:∃k,T.length=k+1:=⟨T.length-1,by omega⟩
 rw[hk,Vv]at hd;obtain⟨q,hq⟩:=hd;obtain⟨m,hm⟩:=hc7;rw[h2,hk,Nat.add_sub_cancel,hq];generalize(tgs W n T).count x=c at *;refine⟨m*q,?_⟩;rw[hm];have:420^k*(c*m)*q=c*(420^k*(m*q)):=by simp only[Nat.mul_assoc,Wl,Nat.mul_left_comm]
 rw[<-hm]at this ⊢;rw[hm]at this ⊢;rw[this,Vd _ hc0]
theorem eI(R:Rw W n)(S:Ok n T a)(hT:T≠[]):(bT W n T a).length<T.length:=by
 obtain⟨x,h1,h2⟩:=f8 (T:=T) (a:=a) R;obtain⟨hc,hc0⟩:=eN R S hT h1;have hx:=bV R S hT h1;have h0:cf W n T a x=0:=by unfold cf;rw[h2,Nat.mul_div_cancel' hc,Nat.sub_self]
 unfold bT;refine Nat.lt_of_le_of_ne (Rq _ _) fun e=>?_;have:=List.length_filter_eq_length_iff.mp e x hx;simp[h0]at this
theorem Ok.next(R:Rw W n)(S:Ok n T a)(hT:T≠[]):Ok n (bT W n T a) (cf W n T a) where
 nd:=S.nd.sublist List.filter_sublist
 lt:=fun x hx=>S.lt x (l_.mp hx).1
 pos:=fun x hx=>UP (by simpa using(l_.mp hx).2)
 dv:=fun x hx=>by have hx':=(l_.mp hx).1;have hlt:=eI R S hT;have h1:420^(T.length-1)∣a x:=Ud (VB 420 (by omega)) (S.dv x hx');have h2:420^(T.length-1)∣(tgs W n T).count x*cH W n T a:=Ud (Jx R S hT) (T9 _ _);exact Ud (VB 420 (by omega)) (Nat.dvd_sub h1 h2)
def eV(ms:List (List Nat×Nat×List Nat))(h x:Nat):Nat:=(ms.map fun p=>if p.1.getD h 0=x then p.2.1 else 0).sum
def jW(ms:List (List Nat×Nat×List Nat)):Nat:=(ms.map fun p=>p.2.1).sum
theorem ck(p:List Nat×Nat×List Nat)(ms)(h x:Nat):eV (p::ms) h x=(if p.1.getD h 0=x then p.2.1 else 0)+eV ms h x:=by unfold eV;rw[u_,Q6]
theorem cj(p:List Nat×Nat×List Nat)(ms):jW (p::ms)=p.2.1+jW ms:=by unfold jW;rw[u_,Q6]
theorem qt{α:Type}(f g:α->Nat):∀l:List α,(l.map fun x=>f x+g x).sum=(l.map f).sum+(l.map g).sum
|[]=>rfl
|x::l=>by rw[u_,u_,u_,Q6,Q6,Q6,qt f g l];omega
theorem CU(s:Nat)(p:Nat->Nat)(x:Nat):∀l:List Nat,(l.map fun h=>if p h=x then s else 0).sum=(l.map p).count x*s
|[]=>by simp
|h::l=>by
  rw[u_,Q6,CU s p x l,u_,VC];by_cases e:p h=x
  .rw[if_pos e,if_pos (by simpa using e),VM];omega
  .rw[if_neg e,if_neg (by simpa using e),Wo,TZ]
theorem CW(s y:Nat):∀l:List Nat,l.Nodup->(l.map fun x=>if y=x then s else 0).sum=if y∈l then s else 0
|[],_=>by simp
|x::l,hn=>by
  have hn':=Q1.mp hn;rw[u_,Q6,CW s y l hn'.2];by_cases e:y=x
  .subst e;rw[if_pos rfl,if_neg hn'.1,if_pos d_];rfl
  .rw[if_neg e];by_cases hy:y∈l
   .rw[if_pos hy,if_pos (i_ _ hy)];omega
   .rw[if_neg hy,if_neg fun z=>(w_.mp z).elim e hy]
theorem p0{h:Nat}(hh:h<n):(tgs W n T).getD h 0=best (W h) T:=by unfold tgs;rw[x_,t_,QH hh];rfl
theorem Lb:(a_ n).map (fun h=>(tgs W n T).getD h 0)=tgs W n T:=by unfold tgs;refine QI fun h hh=>?_;exact p0 (W:=W) (T:=T) (n_.mp hh)
theorem K9(ts:List Nat):∀T:List Nat,T.Nodup->(∀x∈ts,x∈T)->(T.map fun x=>ts.count x).sum=ts.length:=by
 intro T hn hs;have:=Rg.Bb id ts T hn;have e:(T.map fun x=>ts.count x)=T.map fun t=>ts.countP fun o=>decide (id o=t):=by refine QI fun x _=>?_;rw[List.count_eq_countP];refine List.countP_congr fun y _=>?_;simp
 rw[e,this];exact List.countP_eq_length.mpr fun y hy=>by simpa using hs y hy
theorem CV(s:Nat)(f:Nat->Nat):∀l:List Nat,(l.map fun x=>f x*s).sum=(l.map f).sum*s
|[]=>by simp
|x::l=>by rw[u_,Q6,CV s f l,u_,Q6,VM]
theorem xT(f:Nat->Nat):∀l:List Nat,((l.filter fun x=>decide (f x≠0)).map f).sum=(l.map f).sum
|[]=>rfl
|x::l=>by
  rw[QQ];by_cases h:f x=0
  .rw[if_neg (by simpa using h),xT f l,u_,Q6,h];omega
  .rw[if_pos (by simpa using h),u_,Q6,xT f l,u_,Q6]
theorem xt{α:Type}(c:Nat):∀l:List α,(l.map fun _=>c).sum=l.length*c
|[]=>by simp
|_::l=>by rw[u_,Q6,xt c l,Rl,VM];omega
theorem om{α:Type}:∀l:List α,(l.map fun _=>0).sum=0
|[]=>rfl
|_::l=>by rw[u_,Q6,om l]
theorem CM(R:Rw W n):∀(k:Nat)(T:List Nat)(a:Nat->Nat),Ok n T a->T.length<=k ->(∀x,((a_ n).map fun h=>eV (cQ W n k T a) h x).sum=if x∈T then a x else 0)/\n*jW (cQ W n k T a)=(T.map a).sum /\(∀h,h<n->((a_ n).map fun x=>eV (cQ W n k T a) h x).sum=jW (cQ W n k T a))
|0,T,a,S,hk=>by
  have:T=[]:=List.length_eq_zero_iff.mp (by omega);subst this;refine⟨fun x=>?_,?_,fun h hh=>?_⟩
  .show((a_ n).map fun h=>0).sum=_;rw[om];simp
  .show n*0=_;simp
  .show((a_ n).map fun x=>0).sum=0;exact om _
|k+1,T,a,S,hk=>by
  by_cases hT:T=[]
  .subst hT;refine⟨fun x=>?_,?_,fun h hh=>?_⟩
   .show((a_ n).map fun h=>0).sum=_;rw[om];simp
   .show n*0=_;simp
   .show((a_ n).map fun x=>0).sum=0;exact om _
  .have hlt:=eI R S hT;obtain⟨i1,i2,i3⟩:=CM R k (bT W n T a) (cf W n T a) (S.next R hT) (by omega);have e:cQ W n (k+1) T a=(tgs W n T,cH W n T a,T.filter fun x=>decide (x∉bT W n T a))::cQ W n k (bT W n T a) (cf W n T a):=by show(if T=[]then[]else _)=_;rw[if_neg hT]
   rw[e];refine⟨fun x=>?_,?_,fun h hh=>?_⟩
   .have e1:(a_ n).map (fun h=>eV ((tgs W n T,cH W n T a,T.filter fun x=>decide (x∉bT W n T a))::cQ W n k (bT W n T a) (cf W n T a)) h x)=(a_ n).map fun h=>(if (tgs W n T).getD h 0=x then cH W n T a else 0)+eV (cQ W n k (bT W n T a) (cf W n T a)) h x:=QI fun h _=>ck _ _ _ _;rw[e1,qt,i1 x,CU,Lb];have hle:=eB (W:=W) (n:=n) (T:=T) (a:=a) x;by_cases hx:x∈T
    .rw[if_pos hx];by_cases hl:x∈bT W n T a
     .rw[if_pos hl];unfold cf;omega
     .rw[if_neg hl];have:cf W n T a x=0:=Sk fun z=>hl (l_.mpr ⟨hx,by simpa using z⟩);unfold cf at this;omega
    .rw[if_neg hx,if_neg (show x∉bT W n T a from fun z=>hx (l_.mp z).1)];have:(tgs W n T).count x=0:=Wc.mpr fun z=>hx (bV R S hT z);rw[this];simp
   .rw[cj,Yl,i2];have h1:((bT W n T a).map (cf W n T a)).sum=(T.map (cf W n T a)).sum:=xT _ _;have h2:(T.map a).sum=(T.map fun x=>cf W n T a x+(tgs W n T).count x*cH W n T a).sum:=by congr 1;refine QI fun x _=>?_;have hle:=eB (W:=W) (n:=n) (T:=T) (a:=a) x;unfold cf;omega
    rw[h1,h2,qt,CV,K9 _ T S.nd (fun x hx=>bV R S hT hx),cL];show n*cH W n T a+_=_;omega
   .have e1:(a_ n).map (fun x=>eV ((tgs W n T,cH W n T a,T.filter fun x=>decide (x∉bT W n T a))::cQ W n k (bT W n T a) (cf W n T a)) h x)=(a_ n).map fun x=>(if best (W h) T=x then cH W n T a else 0)+eV (cQ W n k (bT W n T a) (cf W n T a)) h x:=QI fun x _=>by rw[ck];show(if (tgs W n T).getD h 0=x then _ else _)+_=_;rw[p0 hh]
    rw[e1,qt,i3 h hh,CW _ _ _ QU,if_pos (n_.mpr (S.lt _ (Bx R S hT hh))),cj]
theorem Ok.init(R:Rw W n):Ok n (a_ n) fun _=>Fq.DD:=⟨QU,fun x hx=>n_.mp hx,fun _ _=>Fq.bN,fun _ _=>by rw[QR];exact VB 420 R.n7⟩
theorem kg(R:Rw W n){k:Nat}(hk:n<=k):jW (cQ W n k (a_ n) fun _=>Fq.DD)=Fq.DD:=by
 have h:=(CM R k (a_ n) (fun _=>Fq.DD) (Ok.init R) (by simpa using hk)).2.1;have e:((a_ n).map fun _=>Fq.DD).sum=n*Fq.DD:=by rw[xt,QR]
 rw[e]at h;exact Nat.eq_of_mul_eq_mul_left R.n1 h
end Et
end
namespace Et
open Rg Fq
section
structure Co(W:Nat->List Nat)(n:Nat)(co:Nat->Nat)(own:Nat->List Nat):Prop where
 pre:∀h,h<n->∃rest,W h=own (co h)++rest
 nd:∀h,h<n->(own (co h)).Nodup
 dis:∀h g,h<n->g<n->∀x,x∈own (co h)->x∈own (co g)->co h=co g
 sz:∀h,h<n->(own (co h)).length=(a_ n).countP fun g=>decide (co g=co h)
 cov:∀x,x<n->∃h,h<n/\x∈own (co h)
 lt:∀h,h<n->∀x∈own (co h),x<n
structure At(o:List Nat)(T:List Nat)(a:Nat->Nat)(u k:Nat):Prop where
 iff:∀x∈o,(x∈T↔x∈o.drop k)
 full:∀x∈o.drop (k+1),a x=DD
 sum:((o.drop k).map a).sum=o.length*u
def CI(n:Nat)(co:Nat->Nat)(own:Nat->List Nat)(T:List Nat)(a:Nat->Nat)(u:Nat):Prop:=∀h,h<n->∃k,At (own (co h)) T a u k
variable{W:Nat->List Nat}{n:Nat}{co:Nat->Nat}{own:Nat->List Nat}{T:List Nat}{a:Nat->Nat}{u k:Nat}{o:List Nat}
theorem At.lt(A:At o T a u k)(ho:0<o.length)(hu:0<u):k<o.length:=by refine Nat.lt_of_not_le fun h=>?_;have:=A.sum;rw[List.drop_eq_nil_of_le h]at this;have hp:0<o.length*u:=SZ ho hu;simp at this;omega
theorem CI.init(C:Co W n co own):CI n co own (a_ n) (fun _=>DD) DD:=fun h hh=>by
 refine⟨0,fun x hx=>?_,fun _ _=>rfl,?_⟩
 .rw[T1];exact⟨fun _=>hx,fun _=>n_.mpr (C.lt h hh x hx)⟩
 .rw[T1,xt]
theorem BQ{f:Nat->Nat}:∀{l:List Nat}{x:Nat},x∈l->f x<=(l.map f).sum
|y::l,x,h=>by
  rw[u_,Q6];rcases w_.mp h with rfl|h
  .omega
  .have:=BQ (f:=f) h;omega
theorem CI.pos(C:Co W n co own)(I:CI n co own T a u)(S:Ok n T a)(hT:T≠[]):0<u:=by refine UP fun e=>?_;subst e;obtain⟨x,hx⟩:=Rm T hT;obtain⟨h,hh,hxo⟩:=C.cov x (S.lt x hx);obtain⟨k,A⟩:=I h hh;have h1:=(A.iff x hxo).mp hx;have h2:a x<=(((own (co h)).drop k).map a).sum:=BQ h1;have h3:=S.pos x hx;rw[A.sum]at h2;simp at h2;omega
theorem eM(k:Nat)(hT:T≠[]):cQ W n (k+1) T a=(tgs W n T,cH W n T a,T.filter fun x=>decide (x∉bT W n T a))::cQ W n k (bT W n T a) (cf W n T a):=by show(if T=[]then[]else _)=_;rw[if_neg hT]
def cO:Nat->List (List Nat×Nat×List Nat)->List (Nat×List Nat)
|_,[]=>[]
|s,p::ms=>(s+p.2.1,p.2.2)::cO (s+p.2.1) ms
end
end Et
section
namespace Rg
structure Bij(p q:Nat->Nat):Prop where
 l:∀x,q (p x)=x
 r:∀x,p (q x)=x
section
variable{p q:Nat->Nat}
theorem Bij.inj(b:Bij p q){x y:Nat}(h:p x=p y):x=y:=by rw[<-b.l x,h,b.l]
theorem Bij.mem(b:Bij p q){l:List Nat}(x:Nat):p x∈l.map p↔x∈l:=by refine⟨fun h=>?_,fun h=>r_.mpr ⟨x,h,rfl⟩⟩;obtain⟨y,h1,h2⟩:=r_.mp h;exact b.inj h2▸h1
theorem wP(b:Bij p q){row T T':List Nat}(hT:∀x,p x∈T'↔x∈T)(h:∃x∈row,x∈T):best (row.map p) T'=p (best row T):=by
 unfold best;rw[Xj];have e:((fun x=>decide (x∈T'))∘p)=fun x=>decide (x∈T):=funext fun x=>by simp[hT]
 rw[e];cases z:row.find? (fun x=>decide (x∈T))with
|none=>obtain⟨x,h1,h2⟩:=h;have:=Q3.mp z x h1;simp[h2]at this
|some z=>rfl
def aL(l:List Nat)(x:Nat):Nat:=(l[x]?).getD x
def dJ(l:List Nat)(x:Nat):Nat:=if x<l.length then l.idxOf x else x
theorem iw{l:List Nat}{n:Nat}(h:l.Perm (a_ n)):Bij (aL l) (dJ l):=by
 have hl:l.length=n:=by rw[h.length_eq,QR]
 have hn:l.Nodup:=h.nodup_iff.mpr QU;refine⟨fun x=>?_,fun x=>?_⟩
 .unfold aL dJ;by_cases hx:x<l.length
  .rw[b_ hx,Tr,if_pos (by rw[hl];exact n_.mp (h.mem_iff.mp (QS hx)))];exact hn.idxOf_getElem x hx
  .rw[z_ (by omega),SV,if_neg hx]
 .unfold aL dJ;by_cases hx:x<l.length
  .rw[if_pos hx];have hm:x∈l:=h.mem_iff.mpr (n_.mpr (by omega));have:=List.idxOf_lt_length_iff.mpr hm;rw[b_ this,Tr,UR]
  .rw[if_neg hx,z_ (by omega),SV]
theorem eQ{l:List Nat}{n:Nat}(h:l.Perm (a_ n)){x:Nat}:aL l x<n↔x<n:=by
 have hl:l.length=n:=by rw[h.length_eq,QR]
 unfold aL;by_cases hx:x<l.length
 .rw[b_ hx,Tr];exact⟨fun _=>by omega,fun _=>n_.mp (h.mem_iff.mp (QS hx))⟩
 .rw[z_ (by omega),SV]
end
structure Ren(p q u v:Nat->Nat)(W W':Nat->List Nat)(O O':Nat->Option Nat):Prop where
 b:Bij p q
 c:Bij u v
 row:∀h,W' (p h)=(W h).map u
 own:∀h,O' (p h)=(O h).map u
structure RS(p u:Nat->Nat)(s s':S):Prop where
 line:s'.line=s.line.map p
 th:∀x,u x∈s'.things↔x∈s.things
section
variable{p q u v:Nat->Nat}{W W':Nat->List Nat}{O O':Nat->Option Nat}{s s':S}{a:Nat->Nat}
theorem oa(R:Ren p q u v W W' O O')(r:RS p u s s')(k:Ok W O s){h:Nat}(hh:h∈s.line):bB W' s' (p h)=u (bB W s h):=by unfold bB;rw[R.row];exact wP R.c r.th (k.some_thing hh)
theorem JM(R:Ren p q u v W W' O O')(r:RS p u s s')(hl:s.line≠[])(x:Nat):pt O' s' (u x)=p (pt O s x):=by
 unfold pt;rw[r.line,Xj];have e:((fun h=>decide (O' h=some (u x)))∘p)=fun h=>decide (O h=some x):=funext fun h=>by show decide (O' (p h)=some (u x))=_;rw[R.own];cases O h with
 |none=>rfl
 |some y=>
   by_cases z:y=x
   .subst z;simp
   .have:u y≠u x:=fun w=>z (R.c.inj w);simp[z,this]
 rw[e];cases s.line.find? (fun h=>decide (O h=some x))with
|some z=>rfl
|none=>cases z:s.line with
 |nil=>exact absurd z hl
 |cons y l=>rfl
theorem Cs(R:Ren p q u v W W' O O')(r:RS p u s s')(k:Ok W O s){h:Nat}(hh:h∈s.line):nxt W' O' s' (p h)=p (nxt W O s h):=by unfold nxt;rw[oa R r k hh,JM R r (QW hh)]
theorem t6(R:Ren p q u v W W' O O')(r:RS p u s s')(k:Ok W O s):∀(n:Nat){h:Nat},h∈s.line->it (nxt W' O' s') n (p h)=p (it (nxt W O s) n h)
|0,_,_=>rfl
|n+1,h,hh=>by show it (nxt W' O' s') n (nxt W' O' s' (p h))=_;rw[Cs R r k hh];exact t6 R r k n (nV (QW hh))
theorem RS.mem(R:Ren p q u v W W' O O')(r:RS p u s s')(h:Nat):p h∈s'.line↔h∈s.line:=by rw[r.line];exact R.b.mem h
theorem KI(R:Ren p q u v W W' O O')(r:RS p u s s')(k:Ok W O s){C C':List Nat}(hC:∀h,p h∈C'↔h∈C)(c:Cyc W O s C):Cyc W' O' s' C':=by
 have on:∀h∈C',∃g∈C,h=p g:=fun h hh=>⟨q h,by rw[<-hC,R.b.r];exact hh,(R.b.r h).symm⟩
 refine⟨fun h hh=>?_,fun h hh=>?_,fun h hh=>?_⟩ <;> obtain⟨g,hg,rfl⟩:=on h hh
 .exact(r.mem R g).mpr (c.sub g hg)
 .rw[Cs R r k (c.sub g hg)];exact(hC _).mpr (c.cl g hg)
 .obtain⟨i,e⟩:=c.per g hg;exact⟨i,by rw[t6 R r k _ (c.sub g hg),e]⟩
theorem EF(R:Ren p q u v W W' O O')(r:RS p u s s')(k:Ok W O s){C C':List Nat}(hC:∀h,p h∈C'↔h∈C)(hs:∀h∈C,h∈s.line):RS p u (minus W s C) (minus W' s' C') where
 line:=by show s'.line.filter _=(s.line.filter _).map p;rw[r.line,List.filter_map];congr 1;refine List.filter_congr fun h _=>?_;simp[hC]
 th:=fun x=>by
  have e:u x∈C'.map (bB W' s')↔x∈C.map (bB W s):=by
   constructor
   .intro h;obtain⟨g,h1,h2⟩:=r_.mp h;have hg:q g∈C:=by rw[<-hC,R.b.r];exact h1
    rw[<-R.b.r g,oa R r k (hs _ hg)]at h2;exact r_.mpr ⟨q g,hg,R.c.inj h2⟩
   .intro h;obtain⟨g,h1,h2⟩:=r_.mp h;exact r_.mpr ⟨p g,(hC g).mpr h1,by rw[oa R r k (hs _ h1),h2]⟩
  show u x∈s'.things.filter _↔x∈s.things.filter _;rw[l_,l_,r.th,decide_eq_true_iff,decide_eq_true_iff,e]
theorem Lj(R:Ren p q u v W W' O O')(t:TTC W O a s):∀{s':S},Ok W O s->RS p u s s'->TTC W' O' (fun k=>u (a (q k))) s':=by induction t with
|nil e=>exact fun _ r=>.nil (by rw[r.line,e];rfl)
|@step s C c ha _ ih=>intro s' k r;have hC:∀h,p h∈C.map p↔h∈C:=fun h=>R.b.mem h;refine .step (C.map p) (KI R r k hC c) (fun h hh=>?_) (ih (kK k c) (EF R r k hC c.sub));obtain⟨g,hg,rfl⟩:=r_.mp hh;rw[R.b.l,oa R r k (c.sub g hg),ha g hg]
theorem BO{f:Nat->Nat}{z j:Nat}(hj:0<j)(e:it f j z=z)(i:Nat):it f i z∈c6 f z j:=by
 refine r_.mpr ⟨i%j,n_.mpr (TM _ hj),?_⟩;have h:=WW i j;have h2:it f (j*(i/j)+i%j) z=it f (i%j) z:=by rw[eh,nM f e]
 rw[h]at h2;exact h2.symm
theorem DB{h:Nat}:h∈gone W O s↔h∈s.line/\∃k,it (nxt W O s) (k+1) h=h:=by
 constructor
 .exact fun hh=>⟨qN.sub h hh,qN.per h hh⟩
 .rintro⟨hl,k,e⟩
  have hm:∀i,it (nxt W O s) i h∈s.line:=by
   intro i
   induction i with
  |zero=>exact hl
  |succ i ih=>rw[jj];exact nV (QW hl)
  let C:=s.line.filter fun x=>decide (x∈c6 (nxt W O s) h (k+1));have hC:∀i,it (nxt W O s) i h∈C:=fun i=>l_.mpr ⟨hm i,decide_eq_true (BO (by omega) e i)⟩;have hC':∀x∈C,∃i,i<k+1/\it (nxt W O s) i h=x:=fun x hx=>by obtain⟨i,h1,h2⟩:=r_.mp (of_decide_eq_true (l_.mp hx).2);exact⟨i,n_.mp h1,h2⟩
  obtain⟨z,j,h1,h2,h3,h4,h5⟩:=Fd (f:=nxt W O s) (l:=C) (fun x hx=>by obtain⟨i,_,rfl⟩:=hC' x hx;rw[<-jj (nxt W O s)];exact hC _) (QW (hC 0));have hz:z∈s.line:=(l_.mp h1).1;refine RI.mpr ⟨c6 (nxt W O s) z j,Rb.mpr ⟨z,hz,FJ h2 (O_ h3 (Rq _ _)) h4 h5⟩,?_⟩;obtain⟨i,hi,e2⟩:=hC' z h1;have:it (nxt W O s) (k+1-i) z=h:=by rw[<-e2,<-eh,show i+(k+1-i)=k+1 by omega,e]
  rw[<-this];exact BO h2 h4 _
theorem MP(R:Ren p q u v W W' O O')(r:RS p u s s')(k:Ok W O s)(h:Nat):p h∈gone W' O' s'↔h∈gone W O s:=by rw[DB,DB,r.mem R];refine and_congr_right fun hl=>exists_congr fun i=>?_;rw[t6 R r k _ hl];exact⟨fun e=>R.b.inj e,fun e=>congrArg p e⟩
theorem CQ(R:Ren p q u v W W' O O'){d:Nat->Nat}:∀{o T T':List Nat},T.Nodup->T'.Nodup->o.length<=T.length->(∀h∈o,∀x∈T,x∈W h)->(∀x,u x∈T'↔x∈T)->i5 W d o T->i5 W' (fun k=>u (d (q k))) (o.map p) T'
|[],_,_,_,_,_,_,_,_=>trivial
|h::o,T,T',n1,n2,hl,hw,hT,s=>by
  have ex:∃x∈W h,x∈T:=by cases T with
  |nil=>simp at hl
  |cons x T=>exact⟨x,hw h d_ x d_,d_⟩
  have hd:d h∈T:=by rw[<-s.1];exact n5 ex
  refine⟨?_,?_⟩
  .show best (W' (p h)) T'=u (d (q (p h)));rw[R.row,wP R.c hT ex,R.b.l,s.1]
  .show i5 W' _ (o.map p) (T'.erase (u (d (q (p h)))));rw[R.b.l];refine CQ R (n1.erase _) (n2.erase _) ?_ (fun g hg x hx=>hw g (i_ _ hg) x (Tg hx)) (fun x=>?_) s.2
   .rw[Rs hd];simp at hl;omega
   .rw[n2.mem_erase_iff,n1.mem_erase_iff,hT];refine and_congr_left fun _=>?_;exact⟨fun h1 e=>h1 (by rw[e]),fun h1 e=>h1 (R.c.inj e)⟩
end
end Rg
end
namespace Et
open Rg
theorem OV{l l':List Nat}(h:l.Perm l'):bi l=bi l':=by
 by_cases e:l=[]
 .subst e;rw[V1.mp h]
 .have e':l'≠[]:=fun z=>e (by subst z;exact XR.mp h);have h1:bi l'<=bi l:=wI (h.mem_iff.mp (xA e));have h2:bi l<=bi l':=wI (h.mem_iff.mpr (xA e'));omega
section
variable{p q u v:Nat->Nat}{W W':Nat->List Nat}{O O':Nat->Option Nat}{n:Nat}{T T':List Nat}{a a':Nat->Nat}
structure Rn(p q u v:Nat->Nat)(W W':Nat->List Nat)(n:Nat):Prop where
 b:Bij p q
 c:Bij u v
 row:∀h,W' (p h)=(W h).map u
 lt:∀h,p h<n↔h<n
 R:Rw W n
structure RT(u:Nat->Nat)(T T':List Nat)(a a':Nat->Nat):Prop where
 th:∀x,u x∈T'↔x∈T
 am:∀x,a' (u x)=a x
theorem Rn.perm(R:Rn p q u v W W' n):((a_ n).map p).Perm (a_ n):=by
 refine se ?_ QU fun x=>?_
 .exact UX p (fun x y h e=>h (R.b.inj e)) QU
 .rw[n_];constructor
  .intro h;obtain⟨y,h1,rfl⟩:=r_.mp h;exact(R.lt y).mpr (n_.mp h1)
  .intro h;exact r_.mpr ⟨q x,n_.mpr ((R.lt _).mp (by rw[R.b.r];exact h)),R.b.r x⟩
theorem B9(R:Rn p q u v W W' n)(r:RT u T T' a a')(S:Ok n T a)(hT:T≠[]){h:Nat}(hh:h<n):best (W' (p h)) T'=u (best (W h) T):=by rw[R.row];refine wP R.c r.th ?_;cases T with
|nil=>exact absurd rfl hT
|cons x T=>exact⟨x,R.R.has h x hh (S.lt x d_),d_⟩
theorem By(R:Rn p q u v W W' n)(r:RT u T T' a a')(S:Ok n T a)(hT:T≠[]):(tgs W' n T').Perm ((tgs W n T).map u):=by unfold tgs;refine(R.perm.symm.map _).trans ?_;rw[y_,y_];refine WX (QI fun h hh=>?_);exact B9 R r S hT (n_.mp hh)
theorem KG(R:Bij u v)(l:List Nat)(x:Nat):(l.map u).count (u x)=l.count x:=by induction l with
|nil=>rfl
|cons y l ih=>
  rw[u_,VC,VC,ih];by_cases e:y=x
  .subst e;simp
  .have:u y≠u x:=fun z=>e (R.inj z);simp[e,this]
theorem B3(R:Rn p q u v W W' n)(r:RT u T T' a a')(S:Ok n T a)(hT:T≠[])(x:Nat):(tgs W' n T').count (u x)=(tgs W n T).count x:=by rw[(By R r S hT).count_eq,KG R.c]
theorem Bu(R:Rn p q u v W W' n)(r:RT u T T' a a')(S:Ok n T a)(hT:T≠[]):cH W' n T' a'=cH W n T a:=by unfold cH;refine(OV ((By R r S hT).map _)).trans ?_;rw[y_];refine congrArg bi (QI fun x _=>?_);show a' (u x)/_=_;rw[r.am,B3 R r S hT]
theorem Hq(R:Rn p q u v W W' n)(r:RT u T T' a a')(S:Ok n T a)(hT:T≠[]):RT u (bT W n T a) (bT W' n T' a') (cf W n T a) (cf W' n T' a'):=by
 have e:∀x,cf W' n T' a' (u x)=cf W n T a x:=fun x=>by unfold cf;rw[r.am,B3 R r S hT,Bu R r S hT]
 exact⟨fun x=>by unfold bT;rw[l_,l_,r.th,e],e⟩
structure Mr(p u:Nat->Nat)(n:Nat)(m m':List Nat×Nat×List Nat):Prop where
 tg:∀h,h<n->m'.1.getD (p h) 0=u (m.1.getD h 0)
 sp:m'.2.1=m.2.1
 go:∀x,u x∈m'.2.2↔x∈m.2.2
inductive Two{α β:Type}(P:α->β->Prop):List α->List β->Prop where
 |nil:Two P [] []
 |cons {x:α} {y:β} {l:List α} {m:List β}:P x y->Two P l m->Two P (x::l) (y::m)
theorem iX(R:Rn p q u v W W' n):∀(k:Nat){T T':List Nat}{a a':Nat->Nat},RT u T T' a a'->Ok n T a->Two (Mr p u n) (cQ W n k T a) (cQ W' n k T' a')
|0,_,_,_,_,_,_=>.nil
|k+1,T,T',a,a',r,S=>by
  by_cases hT:T=[]
  .have hT':T'=[]:=by cases T' with
   |nil=>rfl
   |cons y T'=>have:=(r.th (v y)).mp (by rw[R.c.r];exact d_);rw[hT]at this;cases this
   subst hT hT';exact .nil
  .have hT':T'≠[]:=by obtain⟨x,hx⟩:=Rm T hT;exact QW ((r.th x).mpr hx)
   rw[eM k hT,eM k hT'];have r':=Hq R r S hT;refine .cons ⟨fun h hh=>?_,Bu R r S hT,fun x=>?_⟩ (iX R k r' (S.next R.R hT))
   .show(tgs W' n T').getD (p h) 0=u ((tgs W n T).getD h 0);rw[p0 ((R.lt h).mpr hh),p0 hh,B9 R r S hT hh]
   .show u x∈T'.filter _↔x∈T.filter _;rw[l_,l_,r.th,decide_eq_true_iff,decide_eq_true_iff,r'.th]
theorem iH(R:Rn p q u v W W' n){h:Nat}(hh:h<n)(x:Nat):∀{ms ms':List (List Nat×Nat×List Nat)},Two (Mr p u n) ms ms'->eV ms' (p h) (u x)=eV ms h x
|_,_,.nil=>rfl
|_,_,.cons (x:=y) m t=>by
  rw[ck,ck,iH R hh x t,m.tg h hh,m.sp];refine congrArg (· + _) ?_;by_cases e:y.1.getD h 0=x
  .rw[if_pos e,if_pos (by rw[e])]
  .rw[if_neg e,if_neg fun z=>e (R.c.inj z)]
theorem gs:∀(k:Nat){T:List Nat}{a:Nat->Nat},T.Pairwise (· < ·)->∀m∈cQ W n k T a,m.2.2.Pairwise (· < ·)
|0,_,_,_,_,h=>nomatch h
|k+1,T,a,hT,m,h=>by
  by_cases e:T=[]
  .subst e;cases h
  .rw[eM k e]at h;rcases w_.mp h with rfl|h
   .exact Uh _ hT
   .exact gs k (Uh _ hT) m h
theorem iV:∀{ms ms':List (List Nat×Nat×List Nat)}(s:Nat),Two (Mr p u n) ms ms'->(∀m∈ms,m.2.2.Pairwise (· < ·))->(∀m∈ms',m.2.2.Pairwise (· < ·)) ->Two (fun e e':Nat×List Nat=>e'.1=e.1/\(∀x,u x∈e'.2↔x∈e.2)/\e.2.Pairwise (· < ·)/\e'.2.Pairwise (· < ·)) (cO s ms) (cO s ms')
|_,_,_,.nil,_,_=>.nil
|_,_,s,.cons (x:=x) (y:=y) m t,h1,h2=>by have:=iV (s+x.2.1) t (fun m hm=>h1 m (i_ _ hm)) (fun m hm=>h2 m (i_ _ hm));show Two _ (_::_) ((s+y.2.1,y.2.2)::cO (s+y.2.1) _);rw[m.sp];exact .cons ⟨rfl,m.go,h1 _ d_,h2 _ d_⟩ this
end
end Et
namespace Law
open PySem PySem.Spec PyProof.Rows L2 DL
abbrev gv(i:Nat):DL.FE:=fun r=>DL.dk r i
abbrev ci(i:Int):DL.FE:=fun _=>.ok (.int i)
abbrev q0:List DL.Md:=[.bw,.bw]
abbrev bx:List DL.Md:=[.bw,.bw,.bw]
abbrev cx:List DL.Md:=[.bw,.bw,.sh,.sh]
abbrev cN:List DL.Md:=[.bw,.bw,.bw,.bw,.bw,.sh,.sh,.sh]
abbrev cM:List DL.Md:=[.sh,.sh,.sh]
abbrev cV:List DL.Md:=[.sh,.bw,.bw,.ow,.sh,.sh]
abbrev cU:List DL.Md:=[.bw,.bw,.bw,.ow,.sh,.sh]
abbrev dh:List DL.Md:=[.bw,.bw,.bw,.sh,.sh,.ow,.ow,.sh,.sh,.sh]
abbrev dg:List DL.Md:=[.bw,.sh,.sh]
abbrev df:List DL.Md:=[.sh,.sh,.sh,.sh,.sh,.sh,.sh,.sh,.sh,.sh,.sh,.sh]
abbrev dS:List DL.Md:=[.sh,.sh,.sh,.sh,.sh,.sh,.sh,.sh,.sh,.sh,.sh,.ow]
abbrev fm:List DL.Md:=[.bw,.bw,.bw,.bw]
abbrev fj:List DL.Md:=[.bw,.bw,.bw,.sh]
abbrev fg:List DL.Md:=[.sh,.sh,.bw,.bw,.sh,.sh,.sh]
abbrev ff:List DL.Md:=[.sh,.sh]
abbrev e8:List DL.Md:=[.bw,.bw,.bw,.bw,.sh,.sh,.sh,.sh,.sh,.sh,.sh]
abbrev gl:List DL.Md:=[.bw,.bw,.ow,.sh,.sh]
abbrev gj:List DL.Md:=[.sh,.bw,.bw,.ow,.sh]
abbrev gb:List DL.Md:=[.bw,.bw,.bw,.sh,.sh,.ow,.sh,.sh,.sh]
abbrev gQ:List DL.Md:=[.sh,.bw,.bw]
abbrev gP:List DL.Md:=[.bw,.bw,.bw,.sh,.sh,.sh]
abbrev iQ:List DL.Md:=[.sh,.bw,.ow,.sh]
abbrev iP:List DL.Md:=[.bw,.bw,.bw,.bw,.ow,.ow,.sh,.sh]
abbrev iO:List DL.Md:=[.bw,.bw,.bw,.sh,.sh,.sh,.sh,.sh,.sh]
abbrev iN:List DL.Md:=[.bw,.bw,.ow,.ow,.sh]
abbrev iM:List DL.Md:=[.sh,.ow,.sh]
abbrev iL:List DL.Md:=[.bw,.ow,.sh,.sh,.sh,.sh,.sh]
abbrev iK:List DL.Md:=[.bw,.ow,.sh,.ow,.sh,.sh,.sh]
abbrev iJ:List DL.Md:=[.bw,.bw,.bw,.ow,.sh,.sh,.sh,.sh]
abbrev ka:List DL.Md:=[.sh,.bw,.bw,.sh,.sh,.sh]
abbrev j9:List DL.Md:=[.bw,.bw,.bw,.ow,.sh]
abbrev j8:List DL.Md:=[.bw,.bw,.bw,.ow,.sh,.ow,.ow,.sh,.sh,.sh]
abbrev j7:List DL.Md:=[.bw,.ow,.sh,.sh,.sh,.sh]
abbrev l6:List DL.Md:=[.bw,.ow,.sh,.sh,.sh]
abbrev l5:List DL.Md:=[.bw,.sh,.sh,.sh,.sh]
abbrev lZ:List DL.Md:=[.bw,.bw,.bw,.sh,.sh,.sh,.sh,.sh,.sh,.sh]
abbrev lY:List DL.Md:=[.bw,.bw,.bw,.sh,.sh,.ow,.sh,.sh,.sh,.sh]
abbrev lX:List DL.Md:=[.bw,.sh,.sh,.sh,.sh,.sh]
abbrev ph:List DL.Md:=[.bw,.bw,.bw,.bw,.ow,.ow,.sh,.ow]
abbrev pf:List DL.Md:=[.bw,.bw,.bw,.ow,.sh,.ow,.sh,.sh,.sh]
abbrev pe:List DL.Md:=[.bw,.bw,.bw,.ow,.ow,.ow,.sh,.sh,.sh]
abbrev pd:List DL.Md:=[.bw,.bw,.bw,.bw,.sh,.sh,.sh,.sh,.sh,.sh,.ow]
theorem AI{α:Type}(us:List α)(h:us.length=2):∃a0 a1,us=[a0,a1]:=by match us,h with
|[_,_],_=>exact⟨_,_,rfl⟩
theorem pF{α:Type}(us:List α)(h:us.length=3):∃a0 a1 a2,us=[a0,a1,a2]:=by match us,h with
|[_,_,_],_=>exact⟨_,_,_,rfl⟩
def top(i:Nat):Stmt:=T3.main.body.getD i (.Pass ⟨0,0,0,0⟩)
structure Txt(K:W.Frag)(mg:Str->Option c_):Prop where
 b_len:mg "len" = none
 b_range:mg "range" = none
 b_tuple:mg "tuple" = none
 b_enumerate:mg "enumerate" = none
 b_isinstance:mg "isinstance" = none
 b_bool:mg "bool" = none
 b_int:mg "int" = none
 b_list:mg "list" = none
 b_sorted:mg "sorted" = none
 b_min:mg "min" = none
 b_zip:mg "zip" = none
 b_abs:mg "abs" = none
 k_NOUGHT:∃a,mg "NOUGHT" = some (.ref a)/\KC K a (.tup [.int 0,.int 1])
 k_ONE:∃a,mg "ONE" = some (.ref a)/\KC K a (.tup [.int 1,.int 1])
abbrev xU:Stmt:=top 54
abbrev E4:List Str:=["_law_script","_law_k","_law_cell_here","_law_stirred"]
abbrev rC:List Str:=["_law_script","_law_k"]
theorem rR:FnScope E4 rC (az xU):=bu
def re:FS:=(aa (al cx 2 (ci 0)) (aa (cA cx (aV (f2 (gv 1) (fC (ai (gv 0) ae) lenD) iU)) (aa (al cx 2 (f2 (f2 (gv 0) (gv 1) aH) (f2 (ci 10) (ci 60) iR) bH)) ax) ax) (aa (cA cx (eL (aV (f2 (fC (ai (gv 0) ae) lenD) (ci 0) lf)) (aV (f2 (f2 (f2 (gv 0) (ci 0) aH) (ci 2) bH) (ci 0) eqD))) (aa (aw cx (gv 2)) ax) ax) (aa (al cx 3 (f2 (f2 (f2 (f2 (f2 (f2 (f2 (gv 2) (f2 (f2 (ci 7) (gv 1) cY) (gv 1) cY) addA) (f2 (ci 13) (gv 1) cY) addA) (ci 5) addA) (ci 48271) cY) (ci 2147483647) bH) (ci 69621) cY) (ci 1000000007) bH)) (aa (aw cx (f2 (f2 (f2 (f2 (f2 (gv 3) (ci 1) addA) (ci 40692) cY) (ci 2147483629) bH) (ci 39373) cY) (ci 999999937) bH)) ax)))))
def gM:List D->Res D:=fun ds=>aB false (re (aS E4.length ds))
variable{P:J_}{w:QN}{K:W.Frag}{mg:Str->Option c_}{base:Heap}
theorem L1(T:Txt K mg)(A:DefAt K mg "_law_cell" xU):Callee P w K mg base "_law_cell" rC [] 1 false q0 gM:=
 bM (m':=cx) A rR fun f cdv A outer s H g E hr hu1=>have hu64:=hr.units;(ak (br 2 rR.nd pX)
   (ak (bq (lU (af 1) (bE (eT (by rfl) T.b_len (bf (af 0) bh)))) (ak (br 2 rR.nd (iq (xB hu1 (af 0) (af 1)) (bE (Ip iB iB))))
   ay)
   ay)
   (ak (bq (SW.toQ (AW (pc (bE (eT (by rfl) T.b_len (bf (af 0) bh))) iB) (Bm (eG hu64 (bE (iq (xB hu1 (af 0) iB) iB)) iB)))) (ak (aX (v_ 2))
   ay)
   ay)
   (ak (br 3 rR.nd (iq (bE (lv (bE (iq (bE (lv (bE (ic (bE (ic (bE (ic (af 2) (bE (lv (bE (lv iB (af 1))) (af 1))))) (bE (lv iB (af 1))))) iB)) iB)) iB)) iB)) iB))
   (ak (aX (iq (bE (lv (bE (iq (bE (lv (bE (ic (af 3) iB)) iB)) iB)) iB)) iB))
   ay)))))
abbrev wY:Stmt:=top 55
abbrev EW:List Str:=["_law_cell_here","_law_m","_law_row_here","_law_thing"]
abbrev rN:List Str:=["_law_cell_here","_law_m"]
theorem rV:FnScope EW rN (az wY):=bu
abbrev FN:FS:=(aa (cm "list" iQ 2 (ai (f2 (gv 0) (f2 (gv 3) (ci 1) addA) bH) (ai (gv 3) ae)) insD) (aa (al iQ 0 (f2 (gv 0) (f2 (gv 3) (ci 1) addA) jC)) ax))
def xE:FS:=(aa (al [.sh,.bw,.sh,.sh] 2 (fQ ae)) (aa (cK iQ (dG de (ai (gv 1) ae)) (aD 3) FN) (aa (aw iQ (fC (ai (gv 2) ae) tupD)) ax)))
def jT:List D->Res D:=fun ds=>aB false (xE (aS EW.length ds))
theorem Kj(T:Txt K mg)(A:DefAt K mg "_law_row" wY):Callee P w K mg base "_law_row" rN [] 1 false [.sh,.bw] jT:=
 bM (m':=iQ) A rV fun f cdv A outer s H g E hr hu1=>(ak (dL 2 rV.nd (by rfl) (di rfl) (hJ bU))
   (ak (jz G_ rfl (kO (by rfl) T.b_range (bf (af 1) bh)) (aW 3 rV.nd) (ak (hU 2 rfl M_ U1 PySem.F.type_list_insert NK IR (by rfl) (da rfl) (bF (iq (af 0) (bE (ic (af 3) iB))) (bF (v_ 3) bU)))
   (ak (br 0 rV.nd (uC (af 0) (bE (ic (af 3) iB))))
   ay)))
   (ak (aX (gA (by rfl) T.b_tuple (bf (af 2) bh)))
   ay)))
abbrev oI:Stmt:=top 56
abbrev sj:List Str:=["_law_script","_law_at","_law_n","_law_m"]
abbrev yZ:List Str:=["_law_script","_law_at","_law_n","_law_m"]
theorem F9:FnScope sj yZ (az oI):=bu
def yz:FS:=(aa (aw fm (fC (ai (cg 1 [3,0,1] (dG de (ai (gv 2) ae)) (aD 0) (fun _=>Res.ok true) (aC (ai (aC (ai (gv 2) (ai (f2 (gv 3) (gv 0) addA) ae)) [] gM) (ai (gv 1) ae)) [] jT)) ae) tupD)) ax)
def su:List D->Res D:=fun ds=>aB false (yz (aS sj.length ds))
theorem M3(T:Txt K mg)(A:DefAt K mg "_law_wishes" oI)(c__law_cell:Callee P w K mg base "_law_cell" rC [] 1 false q0 gM)(c__law_row:Callee P w K mg base "_law_row" rN [] 1 false [.sh,.bw] jT):Callee P w K mg base "_law_wishes" yZ [] 2 false fm su:=
 bM (m':=fm) A F9 fun f cdv A outer s H g E hr hu1=>(ak (aX (gA (by rfl) T.b_tuple (bf (SO.toB (hZ (X:=(aT bR P w K mg base sj "_law_wishes" (az oI) f cdv A outer s H E).nox) (N':=["_law_hand","_law_m","_law_script","_law_at"]) (nl:=1) (cap:=[3,0,1]) F9.nd rfl (dA (osc:=(az oI)) (ON:=sj) rfl rfl (by decide+kernel)) (ju.toC (kO (by rfl) T.b_range (bf (af 2) bh))) (fun _ _ _ _ _ _=>(aW 0 (show QO (["_law_hand","_law_m","_law_script","_law_at"]:List Str)by decide+kernel))) (cS (by decide)) (fun _ _ _ _ _ _=>fI) (fun _ _ _ _ _ _=>(aJ c__law_row (bI (aJ c__law_cell (ag (af 2) (ag (bE (ic (af 3) (af 0))) aI))) (ag (af 1) aI)))))) bh)))
   ay)
abbrev xV:Stmt:=top 57
abbrev E5:List Str:=["_law_cell_here","_law_n","_law_m","_law_owns_here","_law_hand","_law_thing"]
abbrev yv:List Str:=["_law_cell_here","_law_n","_law_m"]
theorem oQ:FnScope E5 yv (az xV):=bu
abbrev yC:FS:=(aa (al cV 5 (f2 (gv 0) (f2 (gv 2) (ci 1) addA) bH)) (aa (al cV 0 (f2 (gv 0) (f2 (gv 2) (ci 1) addA) jC)) (aa (cA cV (gS (aV (f2 (gv 5) (gv 2) eqD)) (aV (f2 (gv 5) (gv 3) gE))) (aa (cm "list" cV 3 (ai (fun _=>Res.ok D.non) ae) appD) ax) (aa (cm "list" cV 3 (ai (gv 5) ae) appD) ax)) ax)))
def yp:FS:=(aa (al ka 3 (fQ ae)) (aa (cK cV (dG de (ai (gv 1) ae)) (aD 4) yC) (aa (aw cV (fC (ai (gv 3) ae) tupD)) ax)))
def rh:List D->Res D:=fun ds=>aB false (yp (aS E5.length ds))
theorem L3(T:Txt K mg)(A:DefAt K mg "_law_owns" xV):Callee P w K mg base "_law_owns" yv [] 1 false gQ rh:=
 bM (m':=cV) A oQ fun f cdv A outer s H g E hr hu1=>have hu64:=hr.units;(ak (dL 3 oQ.nd (by rfl) (di rfl) (hJ bU))
   (ak (jz G_ rfl (kO (by rfl) T.b_range (bf (af 1) bh)) (aW 4 oQ.nd) (ak (br 5 oQ.nd (iq (af 0) (bE (ic (af 2) iB))))
   (ak (br 0 oQ.nd (uC (af 0) (bE (ic (af 2) iB))))
   (ak (bq (SW.toQ (iI (eG hu64 (af 5) (af 2)) (qb (lW hu1 (af 5) (af 3))))) (ak (hU 3 rfl M_ Q7 Q8 jP kz (by rfl) (da rfl) (bF jd bU))
   ay)
   (ak (hU 3 rfl M_ Q7 Q8 jP kz (by rfl) (da rfl) (bF (v_ 5) bU))
   ay))
   ay))))
   (ak (aX (gA (by rfl) T.b_tuple (bf (af 3) bh)))
   ay)))
abbrev lJ:Stmt:=top 59
abbrev ng:List Str:=["_law_wishes_here","_law_hands","_law_things","_law_rows","_law_hand","_law_row_here"]
abbrev yD:List Str:=["_law_wishes_here","_law_hands","_law_things"]
theorem oV:FnScope ng yD (az lJ):=bu
abbrev Gh:FS:=(aa (cE cU 3 (f2 (gv 1) (gv 4) aH) (fC (ai (cg 1 [2] (aF bv (gv 5)) (aD 0) (fun _=>Res.ok true) (f2 (gv 1) (gv 0) aH)) ae) tupD)) ax)
def yy:FS:=(aa (al gP 3 (cg 1 [] (aF bv (gv 1)) (aD 0) (fun _=>Res.ok true) (d6 ae))) (aa (cK cU (gr (gv 0)) (dW (bK (aD 4) (bK (aD 5) dN))) Gh) (aa (aw cU (fC (ai (gv 3) ae) tupD)) ax)))
def ss:List D->Res D:=fun ds=>aB false (yy (aS ng.length ds))
theorem M0(T:Txt K mg)(A:DefAt K mg "_law_wished" lJ):Callee P w K mg base "_law_wished" yD [] 1 false bx ss:=
 bM (m':=cU) A oV fun f cdv A outer s H g E hr hu1=>(ak (ii 3 (X:=(aT bR P w K mg base ng "_law_wished" (az lJ) f cdv A outer s H E).nox) (m:=gP) (N':=["_law_hand"]) (nl:=1) (cap:=[]) oV.nd rfl (by rfl) (by rfl) (dA (osc:=(az lJ)) (ON:=ng) rfl rfl (by decide+kernel)) (dP (af 1)) (fun _ _ _ _ _ _=>(aW 0 (show QO (["_law_hand"]:List Str)by decide+kernel))) (cS (by decide)) (fun _ _ _ _ _ _=>fI) (fun _ _ _ _ _ _=>(fU bU)))
   (ak (jH G_ rfl (qu (by rfl) T.b_enumerate (jV 0)) (gK rfl (cR (aW 4 oV.nd) (cR (aW 5 oV.nd) gJ))) (ak (hV 3 hu1 rfl (by rfl) (da rfl) (xB hu1 (af 1) (af 4)) (gA (by rfl) T.b_tuple (bf (SO.toB (hZ (X:=(aT bR P w K mg base ng "_law_wished" (az lJ) f cdv A outer s H E).nox) (N':=["_law_thing","_law_things"]) (nl:=1) (cap:=[2]) oV.nd rfl (dA (osc:=(az lJ)) (ON:=ng) rfl rfl (by decide+kernel)) (dP (af 5)) (fun _ _ _ _ _ _=>(aW 0 (show QO (["_law_thing","_law_things"]:List Str)by decide+kernel))) (cS (by decide)) (fun _ _ _ _ _ _=>fI) (fun _ _ _ _ _ _=>(dy hu1 (af 1) (af 0))))) bh)))
   ay))
   (ak (aX (gA (by rfl) T.b_tuple (bf (af 3) bh)))
   ay)))
abbrev oK:Stmt:=top 60
abbrev rO:List Str:=["_law_owns_here","_law_hands","_law_things","_law_found","_law_hand","_law_thing"]
abbrev yM:List Str:=["_law_owns_here","_law_hands","_law_things"]
theorem so:FnScope rO yM (az oK):=bu
abbrev F0:FS:=(aa (cA cU (aV (f2 (gv 5) (fun _=>Res.ok D.non) fu)) (aa (cE cU 3 (f2 (gv 1) (gv 4) aH) (f2 (gv 2) (gv 5) aH)) ax) ax) ax)
def yF:FS:=(aa (al gP 3 (cg 1 [] (aF bv (gv 1)) (aD 0) (fun _=>Res.ok true) (fun _=>Res.ok D.non))) (aa (cK cU (gr (gv 0)) (dW (bK (aD 4) (bK (aD 5) dN))) F0) (aa (aw cU (fC (ai (gv 3) ae) tupD)) ax)))
def rX:List D->Res D:=fun ds=>aB false (yF (aS rO.length ds))
theorem Mq(T:Txt K mg)(A:DefAt K mg "_law_owned" oK):Callee P w K mg base "_law_owned" yM [] 1 false bx rX:=
 bM (m':=cU) A so fun f cdv A outer s H g E hr hu1=>(ak (ii 3 (X:=(aT bR P w K mg base rO "_law_owned" (az oK) f cdv A outer s H E).nox) (m:=gP) (N':=["_law_hand"]) (nl:=1) (cap:=[]) so.nd rfl (by rfl) (by rfl) (dA (osc:=(az oK)) (ON:=rO) rfl rfl (by decide+kernel)) (dP (af 1)) (fun _ _ _ _ _ _=>(aW 0 (show QO (["_law_hand"]:List Str)by decide+kernel))) (cS (by decide)) (fun _ _ _ _ _ _=>fI) (fun _ _ _ _ _ _=>jd))
   (ak (jH G_ rfl (qu (by rfl) T.b_enumerate (jV 0)) (gK rfl (cR (aW 4 so.nd) (cR (aW 5 so.nd) gJ))) (ak (bq (AX (af 5) (bE jd)) (ak (hV 3 hu1 rfl (by rfl) (da rfl) (xB hu1 (af 1) (af 4)) (dy hu1 (af 2) (af 5)))
   ay)
   ay)
   ay))
   (ak (aX (gA (by rfl) T.b_tuple (bf (af 3) bh)))
   ay)))
abbrev xo:Stmt:=top 6
abbrev E2:List Str:=["value"]
abbrev rD:List Str:=["value"]
theorem Pq:FnScope E2 rD (az xo):=bu
def OL:FS:=(aa (aw [Md.bw] (fZ (f1 (gv 0) (kb "int")) (lO (f1 (gv 0) (kb "bool"))))) ax)
def kZ:List D->Res D:=fun ds=>aB false (OL (aS E2.length ds))
theorem Ko(T:Txt K mg)(A:DefAt K mg "is_whole" xo):Callee P w K mg base "is_whole" rD [] 1 false [Md.bw] kZ:=
 bM (m':=[Md.bw]) A Pq fun f cdv A outer s H g E hr hu1=>(ak (aX (tw (A9 "int" "int" rfl (J9 _) (by rfl) T.b_isinstance (by rfl) T.b_int (af 0)) (pY (Io (A9 "bool" "bool" rfl (Mf _) (by rfl) T.b_isinstance (by rfl) T.b_bool (af 0))))))
   ay)
abbrev xm:Stmt:=top 7
abbrev E1:List Str:=["value","bound"]
abbrev xM:List Str:=["value","bound"]
theorem Pp:FnScope E1 xM (az xm):=bu
def xG:FS:=(aa (aw q0 (fZ (aC (ai (gv 0) ae) [] kZ) (nR (ci 0) (gv 0) (gv 1) zV iU))) ax)
def oE:List D->Res D:=fun ds=>aB false (xG (aS E1.length ds))
theorem Kn(T:Txt K mg)(A:DefAt K mg "is_below" xm)(c_is_whole:Callee P w K mg base "is_whole" rD [] 1 false [Md.bw] kZ):Callee P w K mg base "is_below" xM [] 2 false q0 oE:=
 bM (m':=q0) A Pp fun f cdv A outer s H g E hr hu1=>(ak (aX (tw (aJ c_is_whole (ag (af 0) aI)) (pY (Nl Ha tM GY GZ iB (af 0) (af 1)))))
   ay)
abbrev yk:Stmt:=top 8
abbrev Ge:List Str:=["numbers","bound","ahead","place","number"]
abbrev y0:List Str:=["numbers","bound"]
theorem sf:FnScope Ge y0 (az yk):=bu
abbrev yT:FS:=(aa (cA gl (gS (dm (cB (aC (ai (gv 4) (ai (gv 1) ae)) [] oE))) (aV (f2 (gv 4) (gv 2) gE))) (aa (aw gl (gv 3)) ax) ax) (aa (cE gl 2 (gv 4) (fun _=>Res.ok (D.bl true))) ax))
def yA:FS:=(aa (al [.bw,.bw,.sh,.sh,.sh] 2 (fun _=>Res.ok (D.dic []))) (aa (cK gl (gr (gv 0)) (dW (bK (aD 3) (bK (aD 4) dN))) yT) (aa (aw gl (fC (ai (gv 0) ae) lenD)) ax)))
def sv:List D->Res D:=fun ds=>aB false (yA (aS Ge.length ds))
theorem M4(T:Txt K mg)(A:DefAt K mg "first_wrong" yk)(c_is_below:Callee P w K mg base "is_below" xM [] 2 false q0 oE):Callee P w K mg base "first_wrong" y0 [] 3 false q0 sv:=
 bM (m':=gl) A sf fun f cdv A outer s H g E hr hu1=>(ak (dL 2 sf.nd (by rfl) (di rfl) jG)
   (ak (jH G_ rfl (qu (by rfl) T.b_enumerate (jV 0)) (gK rfl (cR (aW 3 sf.nd) (cR (aW 4 sf.nd) gJ))) (ak (bq (SW.toQ (iI (lu (ip (bE (aJ c_is_below (ag (af 4) (ag (af 1) aI)))))) (qb (lW hu1 (af 4) (af 2))))) (ak (aX (v_ 3))
   ay)
   ay)
   (ak (hV 2 hu1 rfl (by rfl) (da rfl) (af 4) eF)
   ay)))
   (ak (aX (eT (by rfl) T.b_len (bf (af 0) bh)))
   ay)))
abbrev ym:Stmt:=top 9
abbrev FC:List Str:=["numbers","bound"]
abbrev yO:List Str:=["numbers","bound"]
theorem PK:FnScope FC yO (az ym):=bu
def yH:FS:=(aa (aw q0 (f2 (aC (ai (gv 0) (ai (gv 1) ae)) [] sv) (fC (ai (gv 0) ae) lenD) eqD)) ax)
def rY:List D->Res D:=fun ds=>aB false (yH (aS FC.length ds))
theorem Mt(T:Txt K mg)(A:DefAt K mg "are_unlike" ym)(c_first_wrong:Callee P w K mg base "first_wrong" y0 [] 3 false q0 sv):Callee P w K mg base "are_unlike" yO [] 4 false q0 rY:=
 bM (m':=q0) A PK fun f cdv A outer s H g E hr hu1=>have hu64:=hr.units;(ak (aX (jY hu64 (bE (aJ c_first_wrong (ag (af 0) (ag (af 1) aI)))) (bE (eT (by rfl) T.b_len (bf (af 0) bh)))))
   ay)
abbrev yx:Stmt:=top 10
abbrev Gi:List Str:=["numbers","bound"]
abbrev yU:List Str:=["numbers","bound"]
theorem P9:FnScope Gi yU (az yx):=bu
def yS:FS:=(aa (aw q0 (fZ (f2 (fC (ai (gv 0) ae) lenD) (gv 1) eqD) (aC (ai (gv 0) (ai (gv 1) ae)) [] rY))) ax)
def sg:List D->Res D:=fun ds=>aB false (yS (aS Gi.length ds))
theorem OK(T:Txt K mg)(A:DefAt K mg "has_each_once" yx)(c_are_unlike:Callee P w K mg base "are_unlike" yO [] 4 false q0 rY):Callee P w K mg base "has_each_once" yU [] 5 false q0 sg:=
 bM (m':=q0) A P9 fun f cdv A outer s H g E hr hu1=>have hu64:=hr.units;(ak (aX (tw (jY hu64 (bE (eT (by rfl) T.b_len (bf (af 0) bh))) (af 1)) (pY (aJ c_are_unlike (ag (af 0) (ag (af 1) aI))))))
   ay)
abbrev xq:Stmt:=top 14
abbrev Fs:List Str:=["wishes","order"]
abbrev oF:List Str:=["wishes","order"]
theorem O9:FnScope Fs oF (az xq):=bu
def m9:FS:=(aa (cA q0 (aV (f2 (gv 1) (fun _=>Res.ok D.non) jr)) (aa (aw q0 (fC (ai (fC (ai (gv 0) ae) lenD) ae) ku)) ax) ax) (aa (cA q0 (dm (cB (aC (ai (gv 1) (ai (fC (ai (gv 0) ae) lenD) ae)) [] sg))) (aa (fun _=>Out.stuck) ax) ax) (aa (aw q0 (fC (ai (gv 1) ae) kt)) ax)))
def jm:List D->Res D:=fun ds=>aB false (m9 (aS Fs.length ds))
theorem LR(T:Txt K mg)(A:DefAtD K mg "order_of" xq [Value.none])(c_has_each_once:Callee P w K mg base "has_each_once" yU [] 5 false q0 sg):Callee P w K mg base "order_of" oF [] 6 false q0 jm:=by
 refine mT (ds:=[]) (k:=5) (fs:=m9) (m':=q0) A O9 rfl 2 rfl (fun _ _ _ _ _ _ _ us hl=>by obtain⟨u0,u1,rfl⟩:=AI us hl;exact⟨_,rfl,rfl⟩) fun f cdv A outer s H g E hr=>?_;have hu1:=kx hr;have hu64:=hr.units;exact(ak (bq (lV (af 1) (bE jd)) (ak (aX (SO.toE (qz rfl (by rfl) T.b_list (by rfl) T.b_range (bf (bE (eT (by rfl) T.b_len (bf (af 0) bh))) bh))))
   ay)
   ay)
   (ak (bq (lu (ip (bE (aJ c_has_each_once (ag (af 1) (ag (bE (eT (by rfl) T.b_len (bf (af 0) bh))) aI)))))) (ak vN
   ay)
   ay)
   (ak (aX (SO.toE (tY (by rfl) T.b_list (bf (af 1) bh))))
   ay)))
abbrev oA:Stmt:=top 16
abbrev rA:List Str:=["row","things"]
abbrev m4:List Str:=["row","things"]
theorem FK:FnScope rA m4 (az oA):=bu
def oC:FS:=(aa (aw q0 (f2 (cg 1 [1] (aF bv (gv 0)) (aD 0) (aV (f2 (gv 0) (gv 1) gE)) (gv 0)) (ci 0) aH)) ax)
def fN:List D->Res D:=fun ds=>aB false (oC (aS rA.length ds))
theorem L4(T:Txt K mg)(A:DefAt K mg "best_left" oA):Callee P w K mg base "best_left" m4 [] 1 false q0 fN:=
 bM (m':=q0) A FK fun f cdv A outer s H g E hr hu1=>(ak (aX (dy hu1 (SO.toB (hZ (X:=(aT bR P w K mg base rA "best_left" (az oA) f cdv A outer s H E).nox) (N':=["thing","things"]) (nl:=1) (cap:=[1]) FK.nd rfl (dA (osc:=(az oA)) (ON:=rA) rfl rfl (by decide+kernel)) (dP (af 0)) (fun _ _ _ _ _ _=>(aW 0 (show QO (["thing","things"]:List Str)by decide+kernel))) (cS (by decide)) (fun _ _ _ _ _ _=>(kG (lW hu1 (af 0) (af 1)))) (fun _ _ _ _ _ _=>(v_ 0)))) iB))
   ay)
abbrev yo:Stmt:=top 17
abbrev FG:List Str:=["owns","line","thing","hand"]
abbrev rQ:List Str:=["owns","line","thing"]
theorem Gb:FnScope FG rQ (az yo):=bu
abbrev oU:FS:=(aa (cA fj (aV (f2 (f2 (gv 0) (gv 3) aH) (gv 2) eqD)) (aa (aw fj (gv 3)) ax) ax) ax)
def yK:FS:=(aa (cK fj (aF bv (gv 1)) (aD 3) oU) (aa (aw fj (fun _=>Res.ok D.non)) ax))
def lK:List D->Res D:=fun ds=>aB false (yK (aS FG.length ds))
theorem Mw(T:Txt K mg)(A:DefAt K mg "owner_left" yo):Callee P w K mg base "owner_left" rQ [] 1 false bx lK:=
 bM (m':=fj) A Gb fun f cdv A outer s H g E hr hu1=>have hu64:=hr.units;(ak (Bq G_ rfl (dP (af 1)) (fun _=>(aW 3 Gb.nd)) (fun _=>(ak (bq (eG hu64 (xB hu1 (af 0) (af 3)) (af 2)) (ak (aX (v_ 3))
   ay)
   ay)
   ay)))
   (ak (aX jd)
   ay))
abbrev yR:Stmt:=top 22
abbrev Gm:List Str:=["owns","line","thing","owner"]
abbrev zd:List Str:=["owns","line","thing"]
theorem Gk:FnScope Gm zd (az yR):=bu
def zc:FS:=(aa (al fj 3 (aC (ai (gv 0) (ai (gv 1) (ai (gv 2) ae))) [] lK)) (aa (aw fj (kd (aV (f2 (gv 3) (fun _=>Res.ok D.non) jr)) (f2 (gv 1) (ci 0) aH) (gv 3))) ax))
def oR:List D->Res D:=fun ds=>aB false (zc (aS Gm.length ds))
theorem O8(T:Txt K mg)(A:DefAt K mg "hand_pointed_at" yR)(c_owner_left:Callee P w K mg base "owner_left" rQ [] 1 false bx lK):Callee P w K mg base "hand_pointed_at" zd [] 2 false bx oR:=
 bM (m':=fj) A Gk fun f cdv A outer s H g E hr hu1=>(ak (br 3 Gk.nd (aJ c_owner_left (ag (af 0) (ag (af 1) (ag (af 2) aI)))))
   (ak (aX (tz (lV (af 3) (bE jd)) (dy hu1 (af 1) iB) (v_ 3)))
   ay))
abbrev xY:Stmt:=top 23
abbrev E8:List Str:=["first","targets","behind","ring","hand"]
abbrev yc:List Str:=["first","targets","behind"]
theorem rT:FnScope E8 yc (az xY):=bu
abbrev zb:FQ:=(eL (aV (f2 (gv 4) (gv 0) lf)) (aV (f2 (fC (ai (gv 3) ae) lenD) (fC (ai (gv 1) ae) lenD) iU)))
abbrev Gc:FS:=(aa (cm "list" gj 3 (ai (d6 (ai (gv 4) (ai (f2 (gv 1) (gv 4) aH) ae))) ae) appD) (aa (al gj 4 (f2 (gv 2) (gv 4) aH)) ax))
def yr:FS:=(aa (al [.sh,.bw,.bw,.sh,.sh] 3 (fQ (ai (d6 (ai (gv 0) (ai (f2 (gv 1) (gv 0) aH) ae))) ae))) (aa (al gj 4 (f2 (gv 2) (gv 0) aH)) (aa (dz gj zb Gc 64) (aa (aw gj (kd (aV (f2 (gv 4) (gv 0) eqD)) (fC (ai (gv 3) ae) tupD) (fun _=>Res.ok D.non))) ax))))
def rn:List D->Res D:=fun ds=>aB false (yr (aS E8.length ds))
theorem L8(T:Txt K mg)(A:DefAt K mg "ring_from" xY):Callee P w K mg base "ring_from" yc [] 1 false gQ rn:=
 bM (m':=gj) A rT fun f cdv A outer s H g E hr hu1=>have hu64:=hr.units;(ak (dL 3 rT.nd (by rfl) (di rfl) (hJ (bF (fU (bF (v_ 0) (bF (dy hu1 (af 1) (af 0)) bU))) bU)))
   (ak (br 4 rT.nd (dy hu1 (af 2) (af 0)))
   (ak (n8 64 G_ (SW.toQ (AW (pc (af 4) (af 0)) (Bm (lU (bE (eT (by rfl) T.b_len (bf (af 3) bh))) (bE (eT (by rfl) T.b_len (bf (af 1) bh))))))) (ak (hU 3 rfl M_ Q7 Q8 jP kz (by rfl) (da rfl) (bF (fU (bF (v_ 4) (bF (dy hu1 (af 1) (af 4)) bU))) bU))
   (ak (br 4 rT.nd (dy hu1 (af 2) (af 4)))
   ay)))
   (ak (aX (tz (eG hu64 (af 4) (af 0)) (gA (by rfl) T.b_tuple (bf (af 3) bh)) jd))
   ay))))
abbrev lM:Stmt:=top 24
abbrev nk:List Str:=["wishes","owns","line","things","targets","behind","hand","walks"]
abbrev zl:List Str:=["wishes","owns","line","things"]
theorem nj:FnScope nk zl (az lM):=bu
abbrev Gn:FS:=(aa (cE iP 4 (gv 6) (aC (ai (f2 (gv 0) (gv 6) aH) (ai (gv 3) ae)) [] fN)) (aa (cE iP 5 (gv 6) (aC (ai (gv 1) (ai (gv 2) (ai (f2 (gv 4) (gv 6) aH) ae))) [] oR)) ax))
def zj:FS:=(aa (al [.bw,.bw,.bw,.bw,.sh,.sh,.sh,.sh] 4 (fun _=>Res.ok (D.dic []))) (aa (al [.bw,.bw,.bw,.bw,.ow,.sh,.sh,.sh] 5 (fun _=>Res.ok (D.dic []))) (aa (cK iP (aF bv (gv 2)) (aD 6) Gn) (aa (al iP 7 (cg 1 [4,5] (aF bv (gv 2)) (aD 0) (fun _=>Res.ok true) (aC (ai (gv 0) (ai (gv 1) (ai (gv 2) ae))) [] rn))) (aa (aw ph (fC (ai (cg 1 [] (aF bv (gv 7)) (aD 0) (aV (f2 (gv 0) (fun _=>Res.ok D.non) fu)) (gv 0)) ae) pZ)) ax)))))
def sF:List D->Res D:=fun ds=>aB false (zj (aS nk.length ds))
theorem O0(T:Txt K mg)(A:DefAt K mg "rings_of_round" lM)(c_best_left:Callee P w K mg base "best_left" m4 [] 1 false q0 fN)(c_hand_pointed_at:Callee P w K mg base "hand_pointed_at" zd [] 2 false bx oR)(c_ring_from:Callee P w K mg base "ring_from" yc [] 1 false gQ rn):Callee P w K mg base "rings_of_round" zl [] 3 false fm sF:=
 bM (m':=ph) A nj fun f cdv A outer s H g E hr hu1=>(ak (dL 4 nj.nd (by rfl) (di rfl) jG)
   (ak (dL 5 nj.nd (by rfl) (di rfl) jG)
   (ak (jH G_ rfl (nU (jV 2)) (aW 6 nj.nd) (ak (hV 4 hu1 rfl (by rfl) (da rfl) (af 6) (aJ c_best_left (ag (xB hu1 (af 0) (af 6)) (ag (af 3) aI))))
   (ak (hV 5 hu1 rfl (by rfl) (da rfl) (af 6) (aJ c_hand_pointed_at (ag (af 1) (ag (af 2) (ag (xB hu1 (af 4) (af 6)) aI)))))
   ay)))
   (ak (ii 7 (X:=(aT bR P w K mg base nk "rings_of_round" (az lM) f cdv A outer s H E).nox) (m:=iP) (N':=["hand","targets","behind"]) (nl:=1) (cap:=[4,5]) nj.nd rfl (by rfl) (by rfl) (dA (osc:=(az lM)) (ON:=nk) rfl rfl (by decide+kernel)) (dP (af 2)) (fun _ _ _ _ _ _=>(aW 0 (show QO (["hand","targets","behind"]:List Str)by decide+kernel))) (cS (by decide)) (fun _ _ _ _ _ _=>fI) (fun _ _ _ _ _ _=>(aJ c_ring_from (bI (v_ 0) (ag (af 1) (ag (af 2) aI))))))
   (ak (aX (SO.toE (Mo hr (by rfl) T.b_sorted (bf (SO.toB (hZ (X:=(aT bR P w K mg base nk "rings_of_round" (az lM) f cdv A outer s H E).nox) (N':=["ring"]) (nl:=1) (cap:=[]) nj.nd rfl (dA (osc:=(az lM)) (ON:=nk) rfl rfl (by decide+kernel)) (dP (af 7)) (fun _ _ _ _ _ _=>(aW 0 (show QO (["ring"]:List Str)by decide+kernel))) (cS (by decide)) (fun _ _ _ _ _ _=>(kG (AX (af 0) (bE jd)))) (fun _ _ _ _ _ _=>(v_ 0)))) bh))))
   ay)))))
abbrev vX:Stmt:=top 19
abbrev Dk:List Str:=["rings","got","ring","hand","thing"]
abbrev mZ:List Str:=["rings"]
theorem ox:FnScope Dk mZ (az vX):=bu
abbrev ES:FS:=(aa (cE l6 1 (gv 3) (gv 4)) ax)
abbrev ET:FS:=(aa (cK l6 (aF bv (gv 2)) (dW (bK (aD 3) (bK (aD 4) dN))) ES) ax)
def vZ:FS:=(aa (al l5 1 (fun _=>Res.ok (D.dic []))) (aa (cK l6 (aF bv (gv 0)) (aD 2) ET) (aa (aw l5 (gv 1)) ax)))
def iz:List D->Res D:=fun ds=>aB false (vZ (aS Dk.length ds))
theorem Ix(T:Txt K mg)(A:DefAt K mg "got_in" vX):Callee P w K mg base "got_in" mZ [] 1 false [Md.bw] iz:=
 bM (m':=l5) A ox fun f cdv A outer s H g E hr hu1=>(ak (dL 1 ox.nd (by rfl) (di rfl) jG)
   (ak (jH G_ rfl (nU (jV 0)) (aW 2 ox.nd) (ak (jz G_ rfl (sX (v_ 2)) (gK rfl (cR (aW 3 ox.nd) (cR (aW 4 ox.nd) gJ))) (ak (hV 1 hu1 rfl (by rfl) (da rfl) (af 3) (v_ 4))
   ay))
   ay))
   (ak (kn 1 rfl (aX (v_ 1)))
   ay)))
abbrev xC:Stmt:=top 11
abbrev Fa:List Str:=["wishes"]
abbrev kU:List Str:=["wishes"]
theorem Pv:FnScope Fa kU (az xC):=bu
def yu:FS:=(aa (aw [Md.bw] (fC (ai (f2 (gv 0) (ci 0) aH) ae) lenD)) ax)
def fO:List D->Res D:=fun ds=>aB false (yu (aS Fa.length ds))
theorem L0(T:Txt K mg)(A:DefAt K mg "things_in" xC):Callee P w K mg base "things_in" kU [] 1 false [Md.bw] fO:=
 bM (m':=[Md.bw]) A Pv fun f cdv A outer s H g E hr hu1=>(ak (aX (eT (by rfl) T.b_len (bf (xB hu1 (af 0) iB) bh)))
   ay)
abbrev lD:Stmt:=top 25
abbrev mY:List Str:=["wishes","owns","order","line","things","told","rings","got","taken"]
abbrev qJ:List Str:=["wishes","owns","order"]
theorem jQ:FnScope mY qJ (az lD):=bu
abbrev Fu:FQ:=(cB (gv 3))
abbrev EV:FS:=(aa (al gb 6 (aC (ai (gv 0) (ai (gv 1) (ai (gv 3) (ai (gv 4) ae)))) [] sF)) (aa (al gb 7 (aC (ai (gv 6) ae) [] iz)) (aa (al gb 8 (f1 (gv 7) qa)) (aa (al gb 3 (cg 1 [7] (aF bv (gv 3)) (aD 0) (aV (f2 (gv 0) (gv 1) cF)) (gv 0))) (aa (al pf 4 (cg 1 [8] (aF bv (gv 4)) (aD 0) (aV (f2 (gv 0) (gv 1) cF)) (gv 0))) (aa (cm "list" pe 5 (ai (gv 6) ae) appD) ax))))))
def qH:FS:=(aa (al iO 3 (aC (ai (gv 0) (ai (gv 2) ae)) [] jm)) (aa (al iO 4 (fC (ai (aC (ai (gv 0) ae) [] fO) ae) ku)) (aa (al iO 5 (fQ ae)) (aa (dz gb Fu EV 64) (aa (aw iO (gv 5)) ax)))))
def jR:List D->Res D:=fun ds=>aB false (qH (aS mY.length ds))
theorem Iz(T:Txt K mg)(A:DefAtD K mg "rounds" lD [Value.none])(c_order_of:Callee P w K mg base "order_of" oF [] 6 false q0 jm)(c_things_in:Callee P w K mg base "things_in" kU [] 1 false [Md.bw] fO)(c_rings_of_round:Callee P w K mg base "rings_of_round" zl [] 3 false fm sF)(c_got_in:Callee P w K mg base "got_in" mZ [] 1 false [Md.bw] iz):Callee P w K mg base "rounds" qJ [] 7 false bx jR:=by
 refine mT (ds:=[]) (k:=6) (fs:=qH) (m':=iO) A jQ rfl 3 rfl (fun _ _ _ _ _ _ _ us hl=>by obtain⟨u0,u1,u2,rfl⟩:=pF us hl;exact⟨_,rfl,rfl⟩) fun f cdv A outer s H g E hr=>?_;have hu1:=kx hr;have hu64:=hr.units;exact(ak (br 3 jQ.nd (aJ c_order_of (ag (af 0) (ag (af 2) aI))))
   (ak (br 4 jQ.nd (SO.toE (qz rfl (by rfl) T.b_list (by rfl) T.b_range (bf (bE (aJ c_things_in (ag (af 0) aI))) bh))))
   (ak (dL 5 jQ.nd (by rfl) (di rfl) (hJ bU))
   (ak (n8 64 G_ (ip (af 3)) (q8 (m':=[.bw,.bw,.bw,.sh,.ow,.ow,.sh,.sh,.sh]) 4 (q8 (m':=pe) 3 (ak (br 6 jQ.nd (aJ c_rings_of_round (ag (af 0) (ag (af 1) (ag (af 3) (ag (af 4) aI))))))
   (ak (br 7 jQ.nd (aJ c_got_in (ag (af 6) aI)))
   (ak (br 8 jQ.nd (SO.toE (BW rfl (by rfl) T.b_list (af 7))))
   (ak (ii 3 (X:=(aT bR P w K mg base mY "rounds" (az lD) f cdv A outer s H E).nox) (m:=gb) (N':=["hand","got"]) (nl:=1) (cap:=[7]) jQ.nd rfl (by rfl) (by rfl) (dA (osc:=(az lD)) (ON:=mY) rfl rfl (by decide+kernel)) (dP (af 3)) (fun _ _ _ _ _ _=>(aW 0 (show QO (["hand","got"]:List Str)by decide+kernel))) (cS (by decide)) (fun _ _ _ _ _ _=>(kG (lq hu1 (af 0) (af 1)))) (fun _ _ _ _ _ _=>(v_ 0)))
   (ak (ii 4 (X:=(aT bR P w K mg base mY "rounds" (az lD) f cdv A outer s H E).nox) (m:=pf) (N':=["thing","taken"]) (nl:=1) (cap:=[8]) jQ.nd rfl (by rfl) (by rfl) (dA (osc:=(az lD)) (ON:=mY) rfl rfl (by decide+kernel)) (dP (af 4)) (fun _ _ _ _ _ _=>(aW 0 (show QO (["thing","taken"]:List Str)by decide+kernel))) (cS (by decide)) (fun _ _ _ _ _ _=>(kG (lq hu1 (af 0) (af 1)))) (fun _ _ _ _ _ _=>(v_ 0)))
   (ak (hU 5 rfl M_ Q7 Q8 jP kz (by rfl) (da rfl) (bF (v_ 6) bU))
   ay)))))) rfl) rfl))
   (ak (kn 5 rfl (aX (v_ 5)))
   ay)))))
abbrev oM:Stmt:=top 20
abbrev rP:List Str:=["got"]
abbrev oO:List Str:=["got"]
theorem Ga:FnScope rP oO (az oM):=bu
def yI:FS:=(aa (aw [Md.bw] (fC (ai (cg 1 [0] (dG de (ai (fC (ai (gv 0) ae) lenD) ae)) (aD 0) (fun _=>Res.ok true) (f2 (gv 1) (gv 0) aH)) ae) tupD)) ax)
def kS:List D->Res D:=fun ds=>aB false (yI (aS rP.length ds))
theorem Mu(T:Txt K mg)(A:DefAt K mg "dealing_of" oM):Callee P w K mg base "dealing_of" oO [] 1 false [Md.bw] kS:=
 bM (m':=[Md.bw]) A Ga fun f cdv A outer s H g E hr hu1=>(ak (aX (gA (by rfl) T.b_tuple (bf (SO.toB (hZ (X:=(aT bR P w K mg base rP "dealing_of" (az oM) f cdv A outer s H E).nox) (N':=["hand","got"]) (nl:=1) (cap:=[0]) Ga.nd rfl (dA (osc:=(az oM)) (ON:=rP) rfl rfl (by decide+kernel)) (ju.toC (kO (by rfl) T.b_range (bf (bE (eT (by rfl) T.b_len (bf (af 0) bh))) bh))) (fun _ _ _ _ _ _=>(aW 0 (show QO (["hand","got"]:List Str)by decide+kernel))) (cS (by decide)) (fun _ _ _ _ _ _=>fI) (fun _ _ _ _ _ _=>(dy hu1 (af 1) (af 0))))) bh)))
   ay)
abbrev xk:Stmt:=top 26
abbrev EY:List Str:=["wishes","owns","order","got","rings"]
abbrev xL:List Str:=["wishes","owns","order"]
theorem yh:FnScope EY xL (az xk):=bu
abbrev FU:FS:=(aa (cm "dict" j9 3 (ai (aC (ai (gv 4) ae) [] iz) ae) updD) ax)
def rK:FS:=(aa (al [.bw,.bw,.bw,.sh,.sh] 3 (fun _=>Res.ok (D.dic []))) (aa (cK j9 (aF bv (aC (ai (gv 0) (ai (gv 1) (ai (gv 2) ae))) [] jR)) (aD 4) FU) (aa (aw j9 (aC (ai (gv 3) ae) [] kS)) ax)))
def kY:List D->Res D:=fun ds=>aB false (rK (aS EY.length ds))
theorem Kl(T:Txt K mg)(A:DefAtD K mg "by_rings" xk [Value.none])(c_rounds:Callee P w K mg base "rounds" qJ [] 7 false bx jR)(c_got_in:Callee P w K mg base "got_in" mZ [] 1 false [Md.bw] iz)(c_dealing_of:Callee P w K mg base "dealing_of" oO [] 1 false [Md.bw] kS):Callee P w K mg base "by_rings" xL [] 8 false bx kY:=by
 refine mT (ds:=[]) (k:=7) (fs:=rK) (m':=j9) A yh rfl 3 rfl (fun _ _ _ _ _ _ _ us hl=>by obtain⟨u0,u1,u2,rfl⟩:=pF us hl;exact⟨_,rfl,rfl⟩) fun f cdv A outer s H g E hr=>?_;have hu1:=kx hr;have hu64:=hr.units;exact(ak (dL 3 yh.nd (by rfl) (di rfl) jG)
   (ak (jz G_ rfl (sX (aJ c_rounds (ag (af 0) (ag (af 1) (ag (af 2) aI))))) (aW 4 yh.nd) (ak (hU 3 rfl U_ U3 PySem.F.type_dict_update NM KS (by rfl) (da rfl) (bF (aJ c_got_in (ag (af 4) aI)) bU))
   ay))
   (ak (aX (aJ c_dealing_of (ag (af 3) aI)))
   ay)))
abbrev oJ:Stmt:=top 58
abbrev r6:List Str:=["_law_dealing","_law_hands","_law_things","_law_got","_law_hand","_law_thing"]
abbrev yL:List Str:=["_law_dealing","_law_hands","_law_things"]
theorem sk:FnScope r6 yL (az oJ):=bu
abbrev FZ:FS:=(aa (cE cU 3 (f2 (gv 1) (gv 4) aH) (f2 (gv 2) (gv 5) aH)) ax)
def yE:FS:=(aa (al gP 3 (cg 1 [] (aF bv (gv 1)) (aD 0) (fun _=>Res.ok true) (fun _=>Res.ok D.non))) (aa (cK cU (gr (gv 0)) (dW (bK (aD 4) (bK (aD 5) dN))) FZ) (aa (aw cU (fC (ai (gv 3) ae) tupD)) ax)))
def nh:List D->Res D:=fun ds=>aB false (yE (aS r6.length ds))
theorem Mp(T:Txt K mg)(A:DefAt K mg "_law_dealt" oJ):Callee P w K mg base "_law_dealt" yL [] 1 false bx nh:=
 bM (m':=cU) A sk fun f cdv A outer s H g E hr hu1=>(ak (ii 3 (X:=(aT bR P w K mg base r6 "_law_dealt" (az oJ) f cdv A outer s H E).nox) (m:=gP) (N':=["_law_hand"]) (nl:=1) (cap:=[]) sk.nd rfl (by rfl) (by rfl) (dA (osc:=(az oJ)) (ON:=r6) rfl rfl (by decide+kernel)) (dP (af 1)) (fun _ _ _ _ _ _=>(aW 0 (show QO (["_law_hand"]:List Str)by decide+kernel))) (cS (by decide)) (fun _ _ _ _ _ _=>fI) (fun _ _ _ _ _ _=>jd))
   (ak (jH G_ rfl (qu (by rfl) T.b_enumerate (jV 0)) (gK rfl (cR (aW 4 sk.nd) (cR (aW 5 sk.nd) gJ))) (ak (hV 3 hu1 rfl (by rfl) (da rfl) (xB hu1 (af 1) (af 4)) (dy hu1 (af 2) (af 5)))
   ay))
   (ak (aX (gA (by rfl) T.b_tuple (bf (af 3) bh)))
   ay)))
abbrev xr:Stmt:=top 30
abbrev Ft:List Str:=["deed"]
abbrev rE:List Str:=["deed"]
theorem Pa:FnScope Ft rE (az xr):=bu
def xJ:FS:=(aa (cA [Md.bw] (aV (f2 (f2 (gv 0) (ci 0) aH) (fun _=>Res.ok (D.str "ahead")) eqD)) (aa (aw [Md.bw] (d6 ae)) ax) ax) (aa (aw [Md.bw] (kd (aV (f2 (f2 (gv 0) (ci 0) aH) (fun _=>Res.ok (D.str "ring")) eqD)) (f2 (gv 0) (ci 1) aH) (d6 (ai (js (gv 0) (jB (ci 1)) (fun _=>Res.ok none)) ae)))) ax))
def na:List D->Res D:=fun ds=>aB false (xJ (aS Ft.length ds))
theorem LS(T:Txt K mg)(A:DefAt K mg "pairs_of" xr):Callee P w K mg base "pairs_of" rE [] 1 false [Md.bw] na:=
 bM (m':=[Md.bw]) A Pa fun f cdv A outer s H g E hr hu1=>have hu64:=hr.units;(ak (bq (eG hu64 (xB hu1 (af 0) iB) (bE mw)) (ak (aX (fU bU))
   ay)
   ay)
   (ak (aX (tz (eG hu64 (xB hu1 (af 0) iB) (bE mw)) (dy hu1 (af 0) iB) (fU (bF (mv (af 0) (mM iB) mL) bU))))
   ay))
abbrev yQ:Stmt:=top 18
abbrev Gf:List Str:=["hands"]
abbrev za:List Str:=["hands"]
theorem PU:FnScope Gf za (az yQ):=bu
def yB:FS:=(aa (aw [Md.bw] (f2 (js (gv 0) (jB (ci 1)) (fun _=>Res.ok none)) (js (gv 0) (fun _=>Res.ok none) (jB (ci 1))) addE)) ax)
def sw:List D->Res D:=fun ds=>aB false (yB (aS Gf.length ds))
theorem M5(T:Txt K mg)(A:DefAt K mg "ones_behind" yQ):Callee P w K mg base "ones_behind" za [] 1 false [Md.bw] sw:=
 bM (m':=[Md.bw]) A PU fun f cdv A outer s H g E hr hu1=>(ak (aX (Bp (bE (mv (af 0) (mM iB) mL)) (bE (mv (af 0) mL (mM iB)))))
   ay)
abbrev oW:Stmt:=top 28
abbrev sG:List Str:=["owns","askers","turn","hands"]
abbrev zk:List Str:=["owns","askers"]
theorem sH:FnScope sG zk (az oW):=bu
def zi:FS:=(aa (al cx 2 (fM "list" (gv 1) (ai (fC (ai (gv 1) ae) mJ) ae) qv)) (aa (al cx 3 (f2 (js (gv 1) (jB (gv 2)) (fun _=>Res.ok none)) (js (gv 1) (fun _=>Res.ok none) (jB (gv 2))) addE)) (aa (aw cx (fC (ai (cg 2 [0] (iW (gv 3) (aC (ai (gv 3) ae) [] sw)) (dW (bK (aD 0) (bK (aD 1) dN))) (fun _=>Res.ok true) (d6 (ai (gv 0) (ai (f2 (gv 2) (gv 1) aH) ae)))) ae) tupD)) ax)))
def sE:List D->Res D:=fun ds=>aB false (zi (aS sG.length ds))
theorem OZ(T:Txt K mg)(A:DefAt K mg "ring_of_askers" oW)(c_ones_behind:Callee P w K mg base "ones_behind" za [] 1 false [Md.bw] sw):Callee P w K mg base "ring_of_askers" zk [] 2 false q0 sE:=
 bM (m':=cx) A sH fun f cdv A outer s H g E hr hu1=>(ak (br 2 sH.nd (j3 M_ TU Ve EH ER (af 1) (bf (bE (Jr rfl (by rfl) T.b_min (bf (af 1) bh))) bh)))
   (ak (br 3 sH.nd (Bp (bE (mv (af 1) (mM (af 2)) mL)) (bE (mv (af 1) mL (mM (af 2))))))
   (ak (aX (gA (by rfl) T.b_tuple (bf (SO.toB (hZ (X:=(aT bR P w K mg base sG "ring_of_askers" (az oW) f cdv A outer s H E).nox) (N':=["hand","behind","owns"]) (nl:=2) (cap:=[0]) sH.nd rfl (dA (osc:=(az oW)) (ON:=sG) rfl rfl (by decide+kernel)) (ju.toC (AG (by rfl) T.b_zip (v_ 3) (aJ c_ones_behind (ag (af 3) aI)))) (fun _ _ _ _ _ _=>(gK rfl (cR (aW 0 (show QO (["hand","behind","owns"]:List Str)by decide+kernel)) (cR (aW 1 (show QO (["hand","behind","owns"]:List Str)by decide+kernel)) gJ)))) (tZ (m3 (cS (by decide)) (m3 (cS (by decide)) wG))) (fun _ _ _ _ _ _=>fI) (fun _ _ _ _ _ _=>(fU (bF (v_ 0) (bF (dy hu1 (af 2) (af 1)) bU)))))) bh)))
   ay)))
abbrev xX:Stmt:=top 29
abbrev E7:List Str:=["wishes","owns","line","things","askers","hand","thing","owner"]
abbrev yb:List Str:=["wishes","owns","line","things","askers"]
theorem rS:FnScope E7 yb (az xX):=bu
def lL:FS:=(aa (al cN 5 (f2 (gv 4) (f1 (ci 1) iT) aH)) (aa (al cN 6 (aC (ai (f2 (gv 0) (gv 5) aH) (ai (gv 3) ae)) [] fN)) (aa (al cN 7 (aC (ai (gv 1) (ai (gv 2) (ai (gv 6) ae))) [] lK)) (aa (cA cN (gS (aV (f2 (gv 7) (fun _=>Res.ok D.non) jr)) (aV (f2 (gv 7) (gv 5) eqD))) (aa (aw cN (d6 (ai (fun _=>Res.ok (D.str "takes")) (ai (gv 5) (ai (gv 6) ae))))) ax) ax) (aa (cA cN (aV (f2 (gv 7) (gv 4) cF)) (aa (aw cN (d6 (ai (fun _=>Res.ok (D.str "ahead")) (ai (gv 7) (ai (gv 6) ae))))) ax) ax) (aa (aw cN (d6 (ai (fun _=>Res.ok (D.str "ring")) (ai (aC (ai (gv 1) (ai (js (gv 4) (jB (fM "list" (gv 4) (ai (gv 7) ae) qv)) (fun _=>Res.ok none)) ae)) [] sE) ae)))) ax))))))
def jn:List D->Res D:=fun ds=>aB false (lL (aS E7.length ds))
theorem L7(T:Txt K mg)(A:DefAt K mg "next_deed" xX)(c_best_left:Callee P w K mg base "best_left" m4 [] 1 false q0 fN)(c_owner_left:Callee P w K mg base "owner_left" rQ [] 1 false bx lK)(c_ring_of_askers:Callee P w K mg base "ring_of_askers" zk [] 2 false q0 sE):Callee P w K mg base "next_deed" yb [] 3 false [.bw,.bw,.bw,.bw,.bw] jn:=
 bM (m':=cN) A rS fun f cdv A outer s H g E hr hu1=>have hu64:=hr.units;(ak (br 5 rS.nd (dy hu1 (af 4) (bE (AM iB))))
   (ak (br 6 rS.nd (aJ c_best_left (ag (xB hu1 (af 0) (af 5)) (ag (af 3) aI))))
   (ak (br 7 rS.nd (aJ c_owner_left (ag (af 1) (ag (af 2) (ag (af 6) aI)))))
   (ak (bq (SW.toQ (iI (lV (af 7) (bE jd)) (qb (eG hu64 (af 7) (af 5))))) (ak (aX (fU (bF mw (bF (v_ 5) (bF (v_ 6) bU)))))
   ay)
   ay)
   (ak (bq (lq hu1 (af 7) (af 4)) (ak (aX (fU (bF mw (bF (v_ 7) (bF (v_ 6) bU)))))
   ay)
   ay)
   (ak (aX (fU (bF mw (bF (aJ c_ring_of_askers (ag (af 1) (ag (bE (mv (af 4) (mM (bE (j3 M_ TU Ve EH ER (af 4) (bf (af 7) bh)))) mL)) aI))) bU))))
   ay))))))
abbrev jN:Stmt:=top 31
abbrev kL:List Str:=["wishes","owns","order","line","things","askers","told","deed","got","taken"]
abbrev uU:List Str:=["wishes","owns","order"]
theorem ik:FnScope kL uU (az jN):=bu
abbrev Ea:FQ:=(cB (gv 3))
abbrev wR:FS:=(aa (cA dh (dm (cB (gv 5))) (aa (al dh 5 (fQ (ai (f2 (gv 3) (ci 0) aH) ae))) ax) ax) (aa (al dh 7 (aC (ai (gv 0) (ai (gv 1) (ai (gv 3) (ai (gv 4) (ai (gv 5) ae))))) [] jn)) (aa (cm "list" dh 6 (ai (gv 7) ae) appD) (aa (cA dh (aV (f2 (f2 (gv 7) (ci 0) aH) (fun _=>Res.ok (D.str "ahead")) eqD)) (aa (cm "list" dh 5 (ai (f2 (gv 7) (ci 1) aH) ae) appD) ax) ax) (aa (al dh 8 (aC (ai (fQ (ai (aC (ai (gv 7) ae) [] na) ae)) ae) [] iz)) (aa (al dh 9 (f1 (gv 8) qa)) (aa (al dh 3 (cg 1 [8] (aF bv (gv 3)) (aD 0) (aV (f2 (gv 0) (gv 1) cF)) (gv 0))) (aa (al j8 5 (cg 1 [8] (aF bv (gv 5)) (aD 0) (aV (f2 (gv 0) (gv 1) cF)) (gv 0))) (aa (al j8 4 (cg 1 [9] (aF bv (gv 4)) (aD 0) (aV (f2 (gv 0) (gv 1) cF)) (gv 0))) ax)))))))))
def ql:FS:=(aa (al lZ 3 (aC (ai (gv 0) (ai (gv 2) ae)) [] jm)) (aa (al lZ 4 (fC (ai (aC (ai (gv 0) ae) [] fO) ae) ku)) (aa (al lZ 5 (fQ ae)) (aa (al lY 6 (fQ ae)) (aa (dz dh Ea wR 64) (aa (aw lY (gv 6)) ax))))))
def qC:List D->Res D:=fun ds=>aB false (ql (aS kL.length ds))
theorem HX(T:Txt K mg)(A:DefAtD K mg "asked" jN [Value.none])(c_order_of:Callee P w K mg base "order_of" oF [] 6 false q0 jm)(c_things_in:Callee P w K mg base "things_in" kU [] 1 false [Md.bw] fO)(c_next_deed:Callee P w K mg base "next_deed" yb [] 3 false [.bw,.bw,.bw,.bw,.bw] jn)(c_pairs_of:Callee P w K mg base "pairs_of" rE [] 1 false [Md.bw] na)(c_got_in:Callee P w K mg base "got_in" mZ [] 1 false [Md.bw] iz):Callee P w K mg base "asked" uU [] 7 false bx qC:=by
 refine mT (ds:=[]) (k:=6) (fs:=ql) (m':=lY) A ik rfl 3 rfl (fun _ _ _ _ _ _ _ us hl=>by obtain⟨u0,u1,u2,rfl⟩:=pF us hl;exact⟨_,rfl,rfl⟩) fun f cdv A outer s H g E hr=>?_;have hu1:=kx hr;have hu64:=hr.units;exact(ak (br 3 ik.nd (aJ c_order_of (ag (af 0) (ag (af 2) aI))))
   (ak (br 4 ik.nd (SO.toE (qz rfl (by rfl) T.b_list (by rfl) T.b_range (bf (bE (aJ c_things_in (ag (af 0) aI))) bh))))
   (ak (dL 5 ik.nd (by rfl) (di rfl) (hJ bU))
   (ak (dL 6 ik.nd (by rfl) (di rfl) (hJ bU))
   (ak (n8 64 G_ (ip (af 3)) (q8 (m':=[.bw,.bw,.bw,.sh,.ow,.ow,.ow,.sh,.sh,.sh]) 4 (q8 (m':=[.bw,.bw,.bw,.ow,.ow,.ow,.ow,.sh,.sh,.sh]) 3 (ak (bq (lu (ip (af 5))) (ak (dL 5 ik.nd (by rfl) (di rfl) (hJ (bF (dy hu1 (af 3) iB) bU)))
   ay)
   ay)
   (ak (br 7 ik.nd (aJ c_next_deed (ag (af 0) (ag (af 1) (ag (af 3) (ag (af 4) (ag (af 5) aI)))))))
   (ak (hU 6 rfl M_ Q7 Q8 jP kz (by rfl) (da rfl) (bF (v_ 7) bU))
   (ak (bq (eG hu64 (xB hu1 (af 7) iB) (bE mw)) (ak (hU 5 rfl M_ Q7 Q8 jP kz (by rfl) (da rfl) (bF (dy hu1 (af 7) iB) bU))
   ay)
   ay)
   (ak (br 8 ik.nd (aJ c_got_in (ag (SO.toB (hJ (bF (aJ c_pairs_of (ag (af 7) aI)) bU))) aI)))
   (ak (br 9 ik.nd (SO.toE (BW rfl (by rfl) T.b_list (af 8))))
   (ak (ii 3 (X:=(aT bR P w K mg base kL "asked" (az jN) f cdv A outer s H E).nox) (m:=dh) (N':=["hand","got"]) (nl:=1) (cap:=[8]) ik.nd rfl (by rfl) (by rfl) (dA (osc:=(az jN)) (ON:=kL) rfl rfl (by decide+kernel)) (dP (af 3)) (fun _ _ _ _ _ _=>(aW 0 (show QO (["hand","got"]:List Str)by decide+kernel))) (cS (by decide)) (fun _ _ _ _ _ _=>(kG (lq hu1 (af 0) (af 1)))) (fun _ _ _ _ _ _=>(v_ 0)))
   (ak (ii 5 (X:=(aT bR P w K mg base kL "asked" (az jN) f cdv A outer s H E).nox) (m:=j8) (N':=["hand","got"]) (nl:=1) (cap:=[8]) ik.nd rfl (by rfl) (by rfl) (dA (osc:=(az jN)) (ON:=kL) rfl rfl (by decide+kernel)) (dP (af 5)) (fun _ _ _ _ _ _=>(aW 0 (show QO (["hand","got"]:List Str)by decide+kernel))) (cS (by decide)) (fun _ _ _ _ _ _=>(kG (lq hu1 (af 0) (af 1)))) (fun _ _ _ _ _ _=>(v_ 0)))
   (ak (ii 4 (X:=(aT bR P w K mg base kL "asked" (az jN) f cdv A outer s H E).nox) (m:=j8) (N':=["thing","taken"]) (nl:=1) (cap:=[9]) ik.nd rfl (by rfl) (by rfl) (dA (osc:=(az jN)) (ON:=kL) rfl rfl (by decide+kernel)) (dP (af 4)) (fun _ _ _ _ _ _=>(aW 0 (show QO (["thing","taken"]:List Str)by decide+kernel))) (cS (by decide)) (fun _ _ _ _ _ _=>(kG (lq hu1 (af 0) (af 1)))) (fun _ _ _ _ _ _=>(v_ 0)))
   ay))))))))) rfl) rfl))
   (ak (kn 6 rfl (aX (v_ 6)))
   ay))))))
abbrev oB:Stmt:=top 32
abbrev rB:List Str:=["wishes","owns","order"]
abbrev yw:List Str:=["wishes","owns","order"]
theorem FL:FnScope rB yw (az oB):=bu
def rf:FS:=(aa (aw bx (aC (ai (aC (ai (cg 1 [] (aF bv (aC (ai (gv 0) (ai (gv 1) (ai (gv 2) ae))) [] qC)) (aD 0) (fun _=>Res.ok true) (aC (ai (gv 0) ae) [] na)) ae) [] iz) ae) [] kS)) ax)
def kT:List D->Res D:=fun ds=>aB false (rf (aS rB.length ds))
theorem L5(T:Txt K mg)(A:DefAtD K mg "by_asking" oB [Value.none])(c_asked:Callee P w K mg base "asked" uU [] 7 false bx qC)(c_pairs_of:Callee P w K mg base "pairs_of" rE [] 1 false [Md.bw] na)(c_got_in:Callee P w K mg base "got_in" mZ [] 1 false [Md.bw] iz)(c_dealing_of:Callee P w K mg base "dealing_of" oO [] 1 false [Md.bw] kS):Callee P w K mg base "by_asking" yw [] 8 false bx kT:=by
 refine mT (ds:=[]) (k:=7) (fs:=rf) (m':=bx) A FL rfl 3 rfl (fun _ _ _ _ _ _ _ us hl=>by obtain⟨u0,u1,u2,rfl⟩:=pF us hl;exact⟨_,rfl,rfl⟩) fun f cdv A outer s H g E hr=>?_;have hu1:=kx hr;have hu64:=hr.units;exact(ak (aX (aJ c_dealing_of (ag (bE (aJ c_got_in (ag (SO.toB (hZ (X:=(aT bR P w K mg base rB "by_asking" (az oB) f cdv A outer s H E).nox) (N':=["deed"]) (nl:=1) (cap:=[]) FL.nd rfl (dA (osc:=(az oB)) (ON:=rB) rfl rfl (by decide+kernel)) (dP (bE (aJ c_asked (ag (af 0) (ag (af 1) (ag (af 2) aI)))))) (fun _ _ _ _ _ _=>(aW 0 (show QO (["deed"]:List Str)by decide+kernel))) (cS (by decide)) (fun _ _ _ _ _ _=>fI) (fun _ _ _ _ _ _=>(aJ c_pairs_of (ag (af 0) aI))))) aI))) aI)))
   ay)
abbrev wZ:Stmt:=top 52
abbrev EX:List Str:=["wishes","order","things","got","hand"]
abbrev xK:List Str:=["wishes","order"]
theorem rW:FnScope EX xK (az wZ):=bu
abbrev FO:FS:=(aa (cE iN 3 (gv 4) (aC (ai (f2 (gv 0) (gv 4) aH) (ai (gv 2) ae)) [] fN)) (aa (cm "list" iN 2 (ai (f2 (gv 3) (gv 4) aH) ae) remD) ax))
def rJ:FS:=(aa (al [.bw,.bw,.sh,.sh,.sh] 2 (fC (ai (aC (ai (gv 0) ae) [] fO) ae) ku)) (aa (al gl 3 (fun _=>Res.ok (D.dic []))) (aa (cK iN (aF bv (aC (ai (gv 0) (ai (gv 1) ae)) [] jm)) (aD 4) FO) (aa (aw iN (aC (ai (gv 3) ae) [] kS)) ax))))
def kW:List D->Res D:=fun ds=>aB false (rJ (aS EX.length ds))
theorem Kk(T:Txt K mg)(A:DefAtD K mg "by_order" wZ [Value.none])(c_things_in:Callee P w K mg base "things_in" kU [] 1 false [Md.bw] fO)(c_order_of:Callee P w K mg base "order_of" oF [] 6 false q0 jm)(c_best_left:Callee P w K mg base "best_left" m4 [] 1 false q0 fN)(c_dealing_of:Callee P w K mg base "dealing_of" oO [] 1 false [Md.bw] kS):Callee P w K mg base "by_order" xK [] 7 false q0 kW:=by
 refine mT (ds:=[]) (k:=6) (fs:=rJ) (m':=iN) A rW rfl 2 rfl (fun _ _ _ _ _ _ _ us hl=>by obtain⟨u0,u1,rfl⟩:=AI us hl;exact⟨_,rfl,rfl⟩) fun f cdv A outer s H g E hr=>?_;have hu1:=kx hr;have hu64:=hr.units;exact(ak (dL 2 rW.nd (by rfl) (di rfl) (qz rfl (by rfl) T.b_list (by rfl) T.b_range (bf (bE (aJ c_things_in (ag (af 0) aI))) bh)))
   (ak (dL 3 rW.nd (by rfl) (di rfl) jG)
   (ak (jz G_ rfl (sX (aJ c_order_of (ag (af 0) (ag (af 1) aI)))) (aW 4 rW.nd) (ak (hV 3 hu1 rfl (by rfl) (da rfl) (af 4) (aJ c_best_left (ag (xB hu1 (af 0) (af 4)) (ag (af 2) aI))))
   (ak (hU 2 rfl M_ U2 PySem.F.type_list_remove NL JQ (by rfl) (da rfl) (bF (dy hu1 (af 3) (af 4)) bU))
   ay)))
   (ak (aX (aJ c_dealing_of (ag (af 3) aI)))
   ay))))
abbrev yl:Stmt:=top 61
abbrev FB:List Str:=["_law_rings","_law_pairs_here","_law_ring"]
abbrev yN:List Str:=["_law_rings"]
theorem yW:FnScope FB yN (az yl):=bu
abbrev F1:FS:=(aa (cm "list" [.bw,.ow,.sh] 1 (ai (fC (ai (gv 2) ae) kt) ae) extD) ax)
def yG:FS:=(aa (al dg 1 (fQ ae)) (aa (cK [.bw,.ow,.sh] (aF bv (gv 0)) (aD 2) F1) (aa (aw [.bw,.ow,.sh] (fC (ai (gv 1) ae) nL)) ax)))
def oN:List D->Res D:=fun ds=>aB false (yG (aS FB.length ds))
theorem Ms(T:Txt K mg)(A:DefAt K mg "_law_pairs" yl):Callee P w K mg base "_law_pairs" yN [] 1 false [Md.bw] oN:=
 bM (m':=[.bw,.ow,.sh]) A yW fun f cdv A outer s H g E hr hu1=>(ak (dL 1 yW.nd (by rfl) (di rfl) (hJ bU))
   (ak (jH G_ rfl (nU (jV 0)) (aW 2 yW.nd) (ak (hU 1 rfl M_ PySem.F.slot_list_extend PySem.F.type_list_extend OY HD (by rfl) (da rfl) (bF (SO.toE (tY (by rfl) T.b_list (bf (af 2) bh))) bU))
   ay))
   (ak (aX (SO.toE (EI hr (by rfl) T.b_sorted (bf (af 1) bh))))
   ay)))
abbrev oS:Stmt:=top 62
abbrev sC:List Str:=["_law_ones","_law_others","_law_hands","_law_things","_law_one","_law_other","_law_renamed"]
abbrev zr:List Str:=["_law_ones","_law_others","_law_hands","_law_things"]
theorem oZ:FnScope sC zr (az oS):=bu
abbrev zt:FS:=(aa (al fg 6 (fC (ai (cg 2 [2,3] (aF bv (aC (ai (gv 4) ae) [] oN)) (dW (bK (aD 0) (bK (aD 1) dN))) (fun _=>Res.ok true) (d6 (ai (f2 (gv 2) (gv 0) aH) (ai (f2 (gv 3) (gv 1) aH) ae)))) ae) nL)) (aa (cA fg (aV (f2 (gv 6) (aC (ai (gv 5) ae) [] oN) neD)) (aa (aw fg (fun _=>Res.ok (D.bl false))) ax) ax) ax))
def zv:FS:=(aa (cA fg (aV (f2 (fC (ai (gv 0) ae) lenD) (fC (ai (gv 1) ae) lenD) neD)) (aa (aw fg (fun _=>Res.ok (D.bl false))) ax) ax) (aa (cK fg (iW (gv 0) (gv 1)) (dW (bK (aD 4) (bK (aD 5) dN))) zt) (aa (aw fg (fun _=>Res.ok (D.bl true))) ax)))
def sB:List D->Res D:=fun ds=>aB false (zv (aS sC.length ds))
theorem Pb(T:Txt K mg)(A:DefAt K mg "_law_rounds_alike" oS)(c__law_pairs:Callee P w K mg base "_law_pairs" yN [] 1 false [Md.bw] oN):Callee P w K mg base "_law_rounds_alike" zr [] 2 false [.sh,.sh,.bw,.bw] sB:=
 bM (m':=fg) A oZ fun f cdv A outer s H g E hr hu1=>have hu64:=hr.units;(ak (bq (e7 hu64 (bE (eT (by rfl) T.b_len (bf (af 0) bh))) (bE (eT (by rfl) T.b_len (bf (af 1) bh)))) (ak (aX eF)
   ay)
   ay)
   (ak (jz G_ rfl (AG (by rfl) T.b_zip (v_ 0) (v_ 1)) (gK rfl (cR (aW 4 oZ.nd) (cR (aW 5 oZ.nd) gJ))) (ak (br 6 oZ.nd (SO.toE (EI hr (by rfl) T.b_sorted (bf (SO.toB (hZ (X:=(aT bR P w K mg base sC "_law_rounds_alike" (az oS) f cdv A outer s H E).nox) (N':=["_law_hand","_law_thing","_law_hands","_law_things"]) (nl:=2) (cap:=[2,3]) oZ.nd rfl (dA (osc:=(az oS)) (ON:=sC) rfl rfl (by decide+kernel)) (dP (bE (aJ c__law_pairs (ag (af 4) aI)))) (fun _ _ _ _ _ _=>(gK rfl (cR (aW 0 (show QO (["_law_hand","_law_thing","_law_hands","_law_things"]:List Str)by decide+kernel)) (cR (aW 1 (show QO (["_law_hand","_law_thing","_law_hands","_law_things"]:List Str)by decide+kernel)) gJ)))) (tZ (m3 (cS (by decide)) (m3 (cS (by decide)) wG))) (fun _ _ _ _ _ _=>fI) (fun _ _ _ _ _ _=>(fU (bF (dy hu1 (af 2) (af 0)) (bF (dy hu1 (af 3) (af 1)) bU)))))) bh))))
   (ak (bq (e7 hu64 (af 6) (bE (aJ c__law_pairs (ag (af 5) aI)))) (ak (aX eF)
   ay)
   ay)
   ay)))
   (ak (aX eF)
   ay)))
abbrev xW:Stmt:=top 12
abbrev E6:List Str:=["wishes"]
abbrev ya:List Str:=["wishes"]
theorem Pu:FnScope E6 ya (az xW):=bu
def yq:FS:=(aa (aw [Md.bw] (f2 (aC (ai (gv 0) ae) [] fO) (fC (ai (gv 0) ae) lenD) eqD)) ax)
def rj:List D->Res D:=fun ds=>aB false (yq (aS E6.length ds))
theorem L6(T:Txt K mg)(A:DefAt K mg "is_square" xW)(c_things_in:Callee P w K mg base "things_in" kU [] 1 false [Md.bw] fO):Callee P w K mg base "is_square" ya [] 2 false [Md.bw] rj:=
 bM (m':=[Md.bw]) A Pu fun f cdv A outer s H g E hr hu1=>have hu64:=hr.units;(ak (aX (jY hu64 (bE (aJ c_things_in (ag (af 0) aI))) (bE (eT (by rfl) T.b_len (bf (af 0) bh)))))
   ay)
abbrev zu:Stmt:=top 13
abbrev Go:List Str:=["wishes"]
abbrev zm:List Str:=["wishes"]
theorem Qi:FnScope Go zm (az zu):=bu
def sK:FS:=(aa (cA [Md.bw] (dm (cB (aC (ai (gv 0) ae) [] rj))) (aa (fun _=>Out.stuck) ax) ax) ax)
def sL:List D->Res D:=fun ds=>aB false (sK (aS Go.length ds))
theorem PQ(T:Txt K mg)(A:DefAt K mg "refuse_unless_square" zu)(c_is_square:Callee P w K mg base "is_square" ya [] 2 false [Md.bw] rj):Callee P w K mg base "refuse_unless_square" zm [] 3 false [Md.bw] sL:=
 bM (m':=[Md.bw]) A Qi fun f cdv A outer s H g E hr hu1=>(ak (bq (lu (ip (bE (aJ c_is_square (ag (af 0) aI))))) (ak vN
   ay)
   ay)
   ay)
abbrev uE:Stmt:=top 41
abbrev BX:List Str:=["a","b"]
abbrev tU:List Str:=["a","b"]
theorem K5:FnScope BX tU (az uE):=bu
def tR:FS:=(aa (aw q0 (f2 (f2 (f2 (gv 0) (ci 0) aH) (f2 (gv 1) (ci 1) aH) cX) (f2 (f2 (gv 1) (ci 0) aH) (f2 (gv 0) (ci 1) aH) cX) iU)) ax)
def nJ:List D->Res D:=fun ds=>aB false (tR (aS BX.length ds))
theorem G6(T:Txt K mg)(A:DefAt K mg "less" uE):Callee P w K mg base "less" tU [] 1 false q0 nJ:=
 bM (m':=q0) A K5 fun f cdv A outer s H g E hr hu1=>(ak (aX (zN (bE (jh (xB hu1 (af 0) iB) (xB hu1 (af 1) iB))) (bE (jh (xB hu1 (af 1) iB) (xB hu1 (af 0) iB)))))
   ay)
abbrev uM:Stmt:=top 42
abbrev B5:List Str:=["shares","told","share"]
abbrev uW:List Str:=["shares"]
theorem qU:FnScope B5 uW (az uM):=bu
abbrev D9:FS:=(aa (cA dg (cB (aC (ai (gv 2) (ai (gv 1) ae)) [] nJ)) (aa (al dg 1 (gv 2)) ax) ax) ax)
def uR:FS:=(aa (al dg 1 (f2 (gv 0) (ci 0) aH)) (aa (cK dg (aF bv (gv 0)) (aD 2) D9) (aa (aw dg (gv 1)) ax)))
def qD:List D->Res D:=fun ds=>aB false (uR (aS B5.length ds))
theorem HZ(T:Txt K mg)(A:DefAt K mg "least" uM)(c_less:Callee P w K mg base "less" tU [] 1 false q0 nJ):Callee P w K mg base "least" uW [] 2 false [Md.bw] qD:=
 bM (m':=dg) A qU fun f cdv A outer s H g E hr hu1=>(ak (br 1 qU.nd (dy hu1 (af 0) iB))
   (ak (Bq G_ rfl (dP (af 0)) (fun _=>(aW 2 qU.nd)) (fun _=>(ak (bq (ip (bE (aJ c_less (ag (af 2) (ag (af 1) aI))))) (ak (br 1 qU.nd (v_ 2))
   ay)
   ay)
   ay)))
   (ak (aX (v_ 1))
   ay)))
abbrev yV:Stmt:=top 36
abbrev Gj:List Str:=["one","other","rest"]
abbrev zh:List Str:=["one","other"]
theorem sD:FnScope Gj zh (az yV):=bu
abbrev oY:FQ:=(aV (f2 (gv 1) (ci 0) neD))
abbrev oX:FS:=(aa (al cM 2 (f2 (gv 0) (gv 1) bH)) (aa (al cM 0 (gv 1)) (aa (al cM 1 (gv 2)) ax)))
def zf:FS:=(aa (dz cM oY oX 1000) (aa (aw cM (fC (ai (gv 0) ae) absD)) ax))
def sy:List D->Res D:=fun ds=>aB false (zf (aS Gj.length ds))
theorem Pj(T:Txt K mg)(A:DefAt K mg "greatest_divisor" yV):Callee P w K mg base "greatest_divisor" zh [] 1 false ff sy:=
 bM (m':=cM) A sD fun f cdv A outer s H g E hr hu1=>have hu64:=hr.units;(ak (n8 1000 G_ (e7 hu64 (af 1) iB) (ak (br 2 sD.nd (iq (af 0) (af 1)))
   (ak (br 0 sD.nd (v_ 1))
   (ak (br 1 sD.nd (v_ 2))
   ay))))
   (ak (aX (Im (by rfl) T.b_abs (bf (af 0) bh)))
   ay))
abbrev xl:Stmt:=top 37
abbrev EZ:List Str:=["top","bottom","divisor"]
abbrev lH:List Str:=["top","bottom"]
theorem yi:FnScope EZ lH (az xl):=bu
def xF:FS:=(aa (cA cM (gS (dm (cB (aC (ai (gv 0) ae) [] kZ))) (gS (dm (cB (aC (ai (gv 1) ae) [] kZ))) (aV (f2 (gv 1) (ci 0) eqD)))) (aa (fun _=>Out.stuck) ax) ax) (aa (al cM 2 (aC (ai (gv 0) (ai (gv 1) ae)) [] sy)) (aa (cA cM (aV (f2 (gv 1) (ci 0) iU)) (aa (al cM 2 (f1 (gv 2) iT)) ax) ax) (aa (aw cM (d6 (ai (f2 (gv 0) (gv 2) nA) (ai (f2 (gv 1) (gv 2) nA) ae)))) ax))))
def fY:List D->Res D:=fun ds=>aB false (xF (aS EZ.length ds))
theorem Km(T:Txt K mg)(A:DefAt K mg "fraction" xl)(c_is_whole:Callee P w K mg base "is_whole" rD [] 1 false [Md.bw] kZ)(c_greatest_divisor:Callee P w K mg base "greatest_divisor" zh [] 1 false ff sy):Callee P w K mg base "fraction" lH [] 2 false ff fY:=
 bM (m':=cM) A yi fun f cdv A outer s H g E hr hu1=>have hu64:=hr.units;(ak (bq (SW.toQ (iI (lu (ip (bE (aJ c_is_whole (ag (af 0) aI))))) (iI (lu (ip (bE (aJ c_is_whole (ag (af 1) aI))))) (qb (eG hu64 (af 1) iB))))) (ak vN
   ay)
   ay)
   (ak (br 2 yi.nd (aJ c_greatest_divisor (bI (v_ 0) (bI (v_ 1) aI))))
   (ak (bq (lU (af 1) iB) (ak (br 2 yi.nd (AM (af 2)))
   ay)
   ay)
   (ak (aX (fU (bF (CO (af 0) (af 2)) (bF (CO (af 1) (af 2)) bU))))
   ay))))
abbrev uO:Stmt:=top 40
abbrev B7:List Str:=["a","b"]
abbrev qF:List Str:=["a","b"]
theorem Nn:FnScope B7 qF (az uO):=bu
def uT:FS:=(aa (aw q0 (aC (ai (f2 (f2 (gv 0) (ci 0) aH) (f2 (gv 1) (ci 0) aH) cX) (ai (f2 (f2 (gv 0) (ci 1) aH) (f2 (gv 1) (ci 1) aH) cX) ae)) [] fY)) ax)
def jM:List D->Res D:=fun ds=>aB false (uT (aS B7.length ds))
theorem Ib(T:Txt K mg)(A:DefAt K mg "times" uO)(c_fraction:Callee P w K mg base "fraction" lH [] 2 false ff fY):Callee P w K mg base "times" qF [] 3 false q0 jM:=
 bM (m':=q0) A Nn fun f cdv A outer s H g E hr hu1=>(ak (aX (aJ c_fraction (bI (jh (xB hu1 (af 0) iB) (xB hu1 (af 1) iB)) (bI (jh (xB hu1 (af 0) iB) (xB hu1 (af 1) iB)) aI))))
   ay)
abbrev o3:Stmt:=top 44
abbrev sJ:List Str:=["left","targets"]
abbrev zq:List Str:=["left","targets"]
theorem Gr:FnScope sJ zq (az o3):=bu
def zo:FS:=(aa (aw q0 (aC (ai (cg 1 [0,1] (aF bv (gv 1)) (aD 0) (fun _=>Res.ok true) (aC (ai (f2 (gv 1) (gv 0) aH) (ai (aC (ai (ci 1) (ai (fM "list" (gv 2) (ai (gv 0) ae) mP) ae)) [] fY) ae)) [] jM)) ae) [] qD)) ax)
def sI:List D->Res D:=fun ds=>aB false (zo (aS sJ.length ds))
theorem P4(T:Txt K mg)(A:DefAt K mg "time_until_one_is_gone" o3)(c_fraction:Callee P w K mg base "fraction" lH [] 2 false ff fY)(c_times:Callee P w K mg base "times" qF [] 3 false q0 jM)(c_least:Callee P w K mg base "least" uW [] 2 false [Md.bw] qD):Callee P w K mg base "time_until_one_is_gone" zq [] 4 false q0 sI:=
 bM (m':=q0) A Gr fun f cdv A outer s H g E hr hu1=>(ak (aX (aJ c_least (ag (SO.toB (hZ (X:=(aT bR P w K mg base sJ "time_until_one_is_gone" (az o3) f cdv A outer s H E).nox) (N':=["thing","left","targets"]) (nl:=1) (cap:=[0,1]) Gr.nd rfl (dA (osc:=(az o3)) (ON:=sJ) rfl rfl (by decide+kernel)) (dP (af 1)) (fun _ _ _ _ _ _=>(aW 0 (show QO (["thing","left","targets"]:List Str)by decide+kernel))) (cS (by decide)) (fun _ _ _ _ _ _=>fI) (fun _ _ _ _ _ _=>(aJ c_times (ag (xB hu1 (af 1) (af 0)) (ag (bE (aJ c_fraction (bI pX (bI (j3 M_ TV Vf EG Ej (af 2) (bf (af 0) bh)) aI)))) aI)))))) aI)))
   ay)
abbrev uN:Stmt:=top 39
abbrev B6:List Str:=["a","b"]
abbrev uX:List Str:=["a","b"]
theorem Nm:FnScope B6 uX (az uN):=bu
def uS:FS:=(aa (aw q0 (aC (ai (f2 (f2 (f2 (gv 0) (ci 0) aH) (f2 (gv 1) (ci 1) aH) cX) (f2 (f2 (gv 1) (ci 0) aH) (f2 (gv 0) (ci 1) aH) cX) iG) (ai (f2 (f2 (gv 0) (ci 1) aH) (f2 (gv 1) (ci 1) aH) cX) ae)) [] fY)) ax)
def nX:List D->Res D:=fun ds=>aB false (uS (aS B6.length ds))
theorem Ia(T:Txt K mg)(A:DefAt K mg "minus" uN)(c_fraction:Callee P w K mg base "fraction" lH [] 2 false ff fY):Callee P w K mg base "minus" uX [] 3 false q0 nX:=
 bM (m':=q0) A Nm fun f cdv A outer s H g E hr hu1=>(ak (aX (aJ c_fraction (bI (AN (bE (jh (xB hu1 (af 0) iB) (xB hu1 (af 1) iB))) (bE (jh (xB hu1 (af 1) iB) (xB hu1 (af 0) iB)))) (bI (jh (xB hu1 (af 0) iB) (xB hu1 (af 1) iB)) aI))))
   ay)
abbrev yn:Stmt:=top 45
abbrev FF:List Str:=["left","targets","span","after","thing","bites"]
abbrev yP:List Str:=["left","targets","span"]
theorem sr:FnScope FF yP (az yn):=bu
abbrev F4:FS:=(aa (al cV 5 (aC (ai (fM "list" (gv 1) (ai (gv 4) ae) mP) (ai (ci 1) ae)) [] fY)) (aa (cE cV 3 (gv 4) (aC (ai (f2 (gv 0) (gv 4) aH) (ai (aC (ai (gv 5) (ai (gv 2) ae)) [] jM) ae)) [] nX)) ax))
def yJ:FS:=(aa (al ka 3 (fun _=>Res.ok (D.dic []))) (aa (cK cV (aF jL (gv 0)) (aD 4) F4) (aa (aw ka (gv 3)) ax)))
def rZ:List D->Res D:=fun ds=>aB false (yJ (aS FF.length ds))
theorem Mv(T:Txt K mg)(A:DefAt K mg "left_after" yn)(c_fraction:Callee P w K mg base "fraction" lH [] 2 false ff fY)(c_times:Callee P w K mg base "times" qF [] 3 false q0 jM)(c_minus:Callee P w K mg base "minus" uX [] 3 false q0 nX):Callee P w K mg base "left_after" yP [] 4 false gQ rZ:=
 bM (m':=ka) A sr fun f cdv A outer s H g E hr hu1=>(ak (dL 3 sr.nd (by rfl) (di rfl) jG)
   (ak (Br G_ rfl (v_ 0) (fun _=>(aW 4 sr.nd)) (fun _=>(ak (br 5 sr.nd (aJ c_fraction (bI (j3 M_ TV Vf EG Ej (af 1) (bf (af 4) bh)) (bI pX aI))))
   (ak (hV 3 hu1 rfl (by rfl) (da rfl) (af 4) (aJ c_minus (ag (xB hu1 (af 0) (af 4)) (ag (bE (aJ c_times (ag (af 5) (ag (af 2) aI)))) aI))))
   ay))))
   (ak (kn 3 rfl (aX (v_ 3)))
   ay)))
abbrev xp:Stmt:=top 46
abbrev E3:List Str:=["left","told","thing"]
abbrev xO:List Str:=["left"]
theorem yj:FnScope E3 xO (az xp):=bu
abbrev FY:FS:=(aa (cA iM (aV (f2 (f2 (gv 0) (gv 2) aH) (fun _=>Res.ok (D.tup [D.int 0,D.int 1])) neD)) (aa (cE iM 1 (gv 2) (f2 (gv 0) (gv 2) aH)) ax) ax) ax)
def xI:FS:=(aa (al cM 1 (fun _=>Res.ok (D.dic []))) (aa (cK iM (aF jL (gv 0)) (aD 2) FY) (aa (aw iM (gv 1)) ax)))
def rM:List D->Res D:=fun ds=>aB true (xI (aS E3.length ds))
theorem LQ(T:Txt K mg)(A:DefAt K mg "not_gone" xp):Callee P w K mg base "not_gone" xO [] 1 true [Md.sh] rM:=
 bM (m':=iM) A yj fun f cdv A outer s H g E hr hu1=>have hu64:=hr.units;(ak (dL 1 yj.nd (by rfl) (di rfl) jG)
   (ak (Br G_ rfl (v_ 0) (fun _=>(aW 2 yj.nd)) (fun _=>(ak (bq (e7 hu64 (xB hu1 (af 0) (af 2)) (bE (qq (by rfl) T.k_NOUGHT))) (ak (hV 1 hu1 rfl (by rfl) (da rfl) (af 2) (dy hu1 (af 0) (af 2)))
   ay)
   ay)
   ay)))
   (ak (Js 1 rfl (by rfl) (da rfl))
   ay)))
abbrev lI:Stmt:=top 47
abbrev nb:List Str:=["wishes","left","thing","told","targets","span","after"]
abbrev xN:List Str:=["wishes"]
theorem jS:FnScope nb xN (az lI):=bu
abbrev FH:FQ:=(cB (gv 1))
abbrev FV:FS:=(aa (cE iL 1 (gv 2) (fun _=>Res.ok (D.tup [D.int 1,D.int 1]))) ax)
abbrev FX:FS:=(aa (al iK 4 (cg 1 [1] (aF bv (gv 0)) (aD 0) (fun _=>Res.ok true) (aC (ai (gv 0) (ai (gv 1) ae)) [] fN))) (aa (al [.bw,.ow,.sh,.ow,.ow,.sh,.sh] 5 (aC (ai (gv 1) (ai (gv 4) ae)) [] sI)) (aa (al [.bw,.sh,.sh,.ow,.ow,.sh,.sh] 6 (aC (ai (gv 1) (ai (gv 4) (ai (gv 5) ae))) [] rZ)) (aa (al [.bw,.sh,.sh,.ow,.ow,.sh,.sh] 1 (iS (aC (ai (gv 6) ae) [] rM))) (aa (cm "list" iK 3 (ai (d6 (ai (gv 4) (ai (gv 5) (ai (fC (ai (cg 1 [1] (aF jL (gv 6)) (aD 0) (aV (f2 (gv 0) (gv 1) cF)) (gv 0)) ae) tupD) ae)))) ae) appD) ax)))))
def xH:FS:=(aa (al [.bw,.sh,.sh,.sh,.sh,.sh,.sh] 1 (fun _=>Res.ok (D.dic []))) (aa (cK iL (dG de (ai (aC (ai (gv 0) ae) [] fO) ae)) (aD 2) FV) (aa (al iL 3 (fQ ae)) (aa (dz iK FH FX 64) (aa (aw iL (gv 3)) ax)))))
def rL:List D->Res D:=fun ds=>aB false (xH (aS nb.length ds))
theorem Kp(T:Txt K mg)(A:DefAt K mg "meals_of" lI)(c_things_in:Callee P w K mg base "things_in" kU [] 1 false [Md.bw] fO)(c_best_left:Callee P w K mg base "best_left" m4 [] 1 false q0 fN)(c_time_until_one_is_gone:Callee P w K mg base "time_until_one_is_gone" zq [] 4 false q0 sI)(c_left_after:Callee P w K mg base "left_after" yP [] 4 false gQ rZ)(c_not_gone:Callee P w K mg base "not_gone" xO [] 1 true [Md.sh] rM):Callee P w K mg base "meals_of" xN [] 5 false [Md.bw] rL:=
 bM (m':=iL) A jS fun f cdv A outer s H g E hr hu1=>(ak (dL 1 jS.nd (by rfl) (di rfl) jG)
   (ak (jz G_ rfl (kO (by rfl) T.b_range (bf (bE (aJ c_things_in (ag (af 0) aI))) bh)) (aW 2 jS.nd) (ak (hV 1 hu1 rfl (by rfl) (da rfl) (af 2) (qq (by rfl) T.k_ONE))
   ay))
   (ak (dL 3 jS.nd (by rfl) (di rfl) (hJ bU))
   (ak (n8 64 G_ (ip (af 1)) (ak (ii 4 (X:=(aT bR P w K mg base nb "meals_of" (az lI) f cdv A outer s H E).nox) (m:=iK) (N':=["row","left"]) (nl:=1) (cap:=[1]) jS.nd rfl (by rfl) (by rfl) (dA (osc:=(az lI)) (ON:=nb) rfl rfl (by decide+kernel)) (dP (af 0)) (fun _ _ _ _ _ _=>(aW 0 (show QO (["row","left"]:List Str)by decide+kernel))) (cS (by decide)) (fun _ _ _ _ _ _=>fI) (fun _ _ _ _ _ _=>(aJ c_best_left (ag (af 0) (ag (af 1) aI)))))
   (ak (br 5 jS.nd (aJ c_time_until_one_is_gone (ag (af 1) (ag (af 4) aI))))
   (ak (kn 1 rfl (br 6 jS.nd (aJ c_left_after (bI (v_ 1) (ag (af 4) (ag (af 5) aI))))))
   (ak (dL 1 jS.nd (by rfl) (di rfl) (KH (dds:=[]) c_not_gone (hr.mono (by decide)) (bI (v_ 6) aI)))
   (ak (kn 4 rfl (hU 3 rfl M_ Q7 Q8 jP kz (by rfl) (da rfl) (bF (fU (bF (v_ 4) (bF (v_ 5) (bF (gA (by rfl) T.b_tuple (bf (SO.toB (hZ (X:=(aT bR P w K mg base nb "meals_of" (az lI) f cdv A outer s H E).nox) (N':=["thing","left"]) (nl:=1) (cap:=[1]) jS.nd rfl (dA (osc:=(az lI)) (ON:=nb) rfl rfl (by decide+kernel)) (J7 (v_ 6)) (fun _ _ _ _ _ _=>(aW 0 (show QO (["thing","left"]:List Str)by decide+kernel))) (cS (by decide)) (fun _ _ _ _ _ _=>(kG (lq hu1 (af 0) (af 1)))) (fun _ _ _ _ _ _=>(v_ 0)))) bh)) bU)))) bU)))
   ay))))))
   (ak (kn 3 rfl (aX (v_ 3)))
   ay)))))
abbrev uF:Stmt:=top 38
abbrev BY:List Str:=["a","b"]
abbrev qd:List Str:=["a","b"]
theorem K6:FnScope BY qd (az uF):=bu
def tT:FS:=(aa (aw q0 (aC (ai (f2 (f2 (f2 (gv 0) (ci 0) aH) (f2 (gv 1) (ci 1) aH) cX) (f2 (f2 (gv 1) (ci 0) aH) (f2 (gv 0) (ci 1) aH) cX) addA) (ai (f2 (f2 (gv 0) (ci 1) aH) (f2 (gv 1) (ci 1) aH) cX) ae)) [] fY)) ax)
def lw:List D->Res D:=fun ds=>aB false (tT (aS BY.length ds))
theorem G9(T:Txt K mg)(A:DefAt K mg "plus" uF)(c_fraction:Callee P w K mg base "fraction" lH [] 2 false ff fY):Callee P w K mg base "plus" qd [] 3 false q0 lw:=
 bM (m':=q0) A K6 fun f cdv A outer s H g E hr hu1=>(ak (aX (aJ c_fraction (bI (ic (bE (jh (xB hu1 (af 0) iB) (xB hu1 (af 1) iB))) (bE (jh (xB hu1 (af 1) iB) (xB hu1 (af 0) iB)))) (bI (jh (xB hu1 (af 0) iB) (xB hu1 (af 1) iB)) aI))))
   ay)
abbrev vY:Stmt:=top 49
abbrev Dl:List Str:=["meals","log","now","targets","span","gone"]
abbrev wN:List Str:=["meals"]
theorem lB:FnScope Dl wN (az vY):=bu
abbrev EU:FS:=(aa (al j7 2 (aC (ai (gv 2) (ai (gv 4) ae)) [] lw)) (aa (cm "list" j7 1 (ai (d6 (ai (gv 2) (ai (gv 5) ae))) ae) appD) ax))
def wM:FS:=(aa (al lX 1 (fQ ae)) (aa (al j7 2 (fun _=>Res.ok (D.tup [D.int 0,D.int 1]))) (aa (cK j7 (aF bv (gv 0)) (dW (bK (aD 3) (bK (aD 4) (bK (aD 5) dN)))) EU) (aa (aw lX (gv 1)) ax))))
def qI:List D->Res D:=fun ds=>aB false (wM (aS Dl.length ds))
theorem Iy(T:Txt K mg)(A:DefAt K mg "log_of" vY)(c_plus:Callee P w K mg base "plus" qd [] 3 false q0 lw):Callee P w K mg base "log_of" wN [] 4 false [Md.bw] qI:=
 bM (m':=lX) A lB fun f cdv A outer s H g E hr hu1=>(ak (dL 1 lB.nd (by rfl) (di rfl) (hJ bU))
   (ak (br 2 lB.nd (qq (by rfl) T.k_NOUGHT))
   (ak (jH G_ rfl (nU (jV 0)) (gK rfl (cR (aW 3 lB.nd) (cR (aW 4 lB.nd) (cR (aW 5 lB.nd) gJ)))) (ak (br 2 lB.nd (aJ c_plus (ag (af 2) (ag (af 4) aI))))
   (ak (hU 1 rfl M_ Q7 Q8 jP kz (by rfl) (da rfl) (bF (fU (bF (v_ 2) (bF (v_ 5) bU))) bU))
   ay)))
   (ak (kn 1 rfl (aX (v_ 1)))
   ay))))
abbrev xZ:Stmt:=top 48
abbrev E9:List Str:=["wishes","hand","meals","shares","targets","span","gone","thing"]
abbrev yd:List Str:=["wishes","hand","meals"]
theorem ni:FnScope E9 yd (az xZ):=bu
abbrev Gd:FS:=(aa (al iJ 7 (f2 (gv 4) (gv 1) aH)) (aa (cE iJ 3 (gv 7) (aC (ai (f2 (gv 3) (gv 7) aH) (ai (gv 5) ae)) [] lw)) ax))
def yt:FS:=(aa (al [.bw,.bw,.bw,.sh,.sh,.sh,.sh,.sh] 3 (f2 (fQ (ai (fun _=>Res.ok (D.tup [D.int 0,D.int 1])) ae)) (aC (ai (gv 0) ae) [] fO) j5)) (aa (cK iJ (aF bv (gv 2)) (dW (bK (aD 4) (bK (aD 5) (bK (aD 6) dN)))) Gd) (aa (aw iJ (fC (ai (gv 3) ae) tupD)) ax)))
def rq:List D->Res D:=fun ds=>aB false (yt (aS E9.length ds))
theorem L9(T:Txt K mg)(A:DefAt K mg "shares_of" xZ)(c_things_in:Callee P w K mg base "things_in" kU [] 1 false [Md.bw] fO)(c_plus:Callee P w K mg base "plus" qd [] 3 false q0 lw):Callee P w K mg base "shares_of" yd [] 4 false bx rq:=
 bM (m':=iJ) A ni fun f cdv A outer s H g E hr hu1=>(ak (dL 3 ni.nd (by rfl) (di rfl) (GX (hJ (bF (qq (by rfl) T.k_NOUGHT) bU)) (bE (aJ c_things_in (ag (af 0) aI)))))
   (ak (jH G_ rfl (nU (jV 2)) (gK rfl (cR (aW 4 ni.nd) (cR (aW 5 ni.nd) (cR (aW 6 ni.nd) gJ)))) (ak (br 7 ni.nd (dy hu1 (af 4) (af 1)))
   (ak (hV 3 hu1 rfl (by rfl) (da rfl) (af 7) (aJ c_plus (ag (xB hu1 (af 3) (af 7)) (ag (af 5) aI))))
   ay)))
   (ak (aX (gA (by rfl) T.b_tuple (bf (af 3) bh)))
   ay)))
abbrev n6:Stmt:=top 50
abbrev qE:List Str:=["wishes","meals","table"]
abbrev uV:List Str:=["wishes"]
theorem qT:FnScope qE uV (az n6):=bu
def uQ:FS:=(aa (pJ dg (aC (ai (gv 0) ae) [] sL)) (aa (al dg 1 (aC (ai (gv 0) ae) [] rL)) (aa (al dg 2 (fC (ai (cg 1 [0,1] (dG de (ai (fC (ai (gv 0) ae) lenD) ae)) (aD 0) (fun _=>Res.ok true) (aC (ai (gv 1) (ai (gv 0) (ai (gv 2) ae))) [] rq)) ae) tupD)) (aa (aw dg (d6 (ai (gv 2) (ai (aC (ai (gv 1) ae) [] qI) ae)))) ax))))
def nW:List D->Res D:=fun ds=>aB false (uQ (aS qE.length ds))
theorem HY(T:Txt K mg)(A:DefAt K mg "eaten" n6)(c_refuse_unless_square:Callee P w K mg base "refuse_unless_square" zm [] 3 false [Md.bw] sL)(c_meals_of:Callee P w K mg base "meals_of" xN [] 5 false [Md.bw] rL)(c_shares_of:Callee P w K mg base "shares_of" yd [] 4 false bx rq)(c_log_of:Callee P w K mg base "log_of" wN [] 4 false [Md.bw] qI):Callee P w K mg base "eaten" uV [] 6 false [Md.bw] nW:=
 bM (m':=dg) A qT fun f cdv A outer s H g E hr hu1=>(ak (JV (aJ c_refuse_unless_square (ag (af 0) aI)))
   (ak (br 1 qT.nd (aJ c_meals_of (ag (af 0) aI)))
   (ak (br 2 qT.nd (gA (by rfl) T.b_tuple (bf (SO.toB (hZ (X:=(aT bR P w K mg base qE "eaten" (az n6) f cdv A outer s H E).nox) (N':=["hand","wishes","meals"]) (nl:=1) (cap:=[0,1]) qT.nd rfl (dA (osc:=(az n6)) (ON:=qE) rfl rfl (by decide+kernel)) (ju.toC (kO (by rfl) T.b_range (bf (bE (eT (by rfl) T.b_len (bf (af 0) bh))) bh))) (fun _ _ _ _ _ _=>(aW 0 (show QO (["hand","wishes","meals"]:List Str)by decide+kernel))) (cS (by decide)) (fun _ _ _ _ _ _=>fI) (fun _ _ _ _ _ _=>(aJ c_shares_of (ag (af 1) (ag (af 0) (ag (af 2) aI))))))) bh)))
   (ak (aX (fU (bF (v_ 2) (bF (aJ c_log_of (ag (af 1) aI)) bU))))
   ay))))
abbrev np:Stmt:=top 63
abbrev sA:List Str:=["_law_wishes_here","_law_others","_law_hands","_law_things","_law_table","_law_log","_law_found","_law_other_log","_law_hand","_law_thing","_law_due"]
abbrev zg:List Str:=["_law_wishes_here","_law_others","_law_hands","_law_things"]
theorem k9:FnScope sA zg (az np):=bu
abbrev Gp:FS:=(aa (cA e8 (aV (f2 (f2 (f2 (gv 6) (f2 (gv 2) (gv 8) aH) aH) (f2 (gv 3) (gv 9) aH) aH) (f2 (f2 (gv 4) (gv 8) aH) (gv 9) aH) neD)) (aa (aw e8 (fun _=>Res.ok (D.bl false))) ax) ax) ax)
abbrev Gq:FS:=(aa (cK e8 (dG de (ai (fC (ai (gv 3) ae) lenD) ae)) (aD 9) Gp) ax)
def ze:FS:=(aa (iY e8 (aC (ai (gv 0) ae) [] nW) (dW (bK (aD 4) (bK (aD 5) dN)))) (aa (iY e8 (aC (ai (gv 1) ae) [] nW) (dW (bK (aD 6) (bK (aD 7) dN)))) (aa (cK e8 (dG de (ai (fC (ai (gv 2) ae) lenD) ae)) (aD 8) Gq) (aa (al e8 10 (cg 2 [3] (aF bv (gv 5)) (dW (bK (aD 0) (bK (aD 1) dN))) (fun _=>Res.ok true) (d6 (ai (gv 0) (ai (fC (ai (fC (ai (cg 1 [2] (aF bv (gv 1)) (aD 0) (fun _=>Res.ok true) (f2 (gv 1) (gv 0) aH)) ae) uD) ae) tupD) ae))))) (aa (aw pd (f2 (gv 7) (gv 10) eqD)) ax)))))
def sx:List D->Res D:=fun ds=>aB false (ze (aS sA.length ds))
theorem Pi(T:Txt K mg)(A:DefAt K mg "_law_eaten_alike" np)(c_eaten:Callee P w K mg base "eaten" uV [] 6 false [Md.bw] nW):Callee P w K mg base "_law_eaten_alike" zg [] 7 false fm sx:=
 bM (m':=pd) A k9 fun f cdv A outer s H g E hr hu1=>have hu64:=hr.units;(ak (A8 (aJ c_eaten (ag (af 0) aI)) (gK rfl (cR (aW 4 k9.nd) (cR (aW 5 k9.nd) gJ))))
   (ak (A8 (aJ c_eaten (ag (af 1) aI)) (gK rfl (cR (aW 6 k9.nd) (cR (aW 7 k9.nd) gJ))))
   (ak (jz G_ rfl (kO (by rfl) T.b_range (bf (bE (eT (by rfl) T.b_len (bf (af 2) bh))) bh)) (aW 8 k9.nd) (ak (jz G_ rfl (kO (by rfl) T.b_range (bf (bE (eT (by rfl) T.b_len (bf (af 3) bh))) bh)) (aW 9 k9.nd) (ak (bq (e7 hu64 (xB hu1 (xB hu1 (af 6) (xB hu1 (af 2) (af 8))) (xB hu1 (af 3) (af 9))) (xB hu1 (xB hu1 (af 4) (af 8)) (af 9))) (ak (aX eF)
   ay)
   ay)
   ay))
   ay))
   (ak (ii 10 (X:=(aT bR P w K mg base sA "_law_eaten_alike" (az np) f cdv A outer s H E).nox) (m:=e8) (N':=["_law_time","_law_over","_law_things"]) (nl:=2) (cap:=[3]) k9.nd rfl (by rfl) (by rfl) (dA (osc:=(az np)) (ON:=sA) rfl rfl (by decide+kernel)) (dP (af 5)) (fun _ _ _ _ _ _=>(gK rfl (cR (aW 0 (show QO (["_law_time","_law_over","_law_things"]:List Str)by decide+kernel)) (cR (aW 1 (show QO (["_law_time","_law_over","_law_things"]:List Str)by decide+kernel)) gJ)))) (tZ (m3 (cS (by decide)) (m3 (cS (by decide)) wG))) (fun _ _ _ _ _ _=>fI) (fun _ _ _ _ _ _=>(fU (bF (v_ 0) (bF (gA (by rfl) T.b_tuple (bf (SO.toB (NO hr (by rfl) T.b_sorted (bf (SO.toB (hZ (N':=["_law_thing","_law_things"]) (nl:=1) (cap:=[2]) (show QO (["_law_time","_law_over","_law_things"]:List Str)by decide+kernel) rfl (OS (osc:=(az np)) (ON:=(["_law_time","_law_over","_law_things"]:List Str)) rfl rfl (by decide+kernel)) (dP (af 1)) (fun _ _ _ _ _ _=>(aW 0 (show QO (["_law_thing","_law_things"]:List Str)by decide+kernel))) (cS (by decide)) (fun _ _ _ _ _ _=>fI) (fun _ _ _ _ _ _=>(dy hu1 (af 1) (af 0))))) bh))) bh)) bU)))))
   (ak (aX (jY hu64 (af 7) (af 10)))
   ay)))))
abbrev nI:Stmt:=top 64
abbrev pU:List Str:=["_law_script","_law_cell_here","_law_n","_law_m","_law_wishes_here","_law_owns_here","_law_order","_law_hands","_law_things","_law_other","_law_other_owns","_law_line"]
abbrev Ay:List Str:=["_law_script"]
theorem ie:FnScope pU Ay (az nI):=bu
def pR:FS:=(aa (al df 1 (aC (ai (gv 0) (ai (ci 1) ae)) [] gM)) (aa (al df 2 (f2 (ci 1) (f2 (gv 1) (ci 7) bH) addA)) (aa (al df 3 (f2 (gv 2) (f2 (f2 (gv 1) (ci 7) jC) (f2 (ci 9) (gv 2) iG) bH) addA)) (aa (al df 4 (aC (ai (gv 0) (ai (ci 6) (ai (gv 2) (ai (gv 3) ae)))) [] su)) (aa (al df 5 (aC (ai (aC (ai (gv 0) (ai (ci 2) ae)) [] gM) (ai (gv 2) (ai (gv 3) ae))) [] rh)) (aa (al df 6 (fC (ai (aC (ai (aC (ai (gv 0) (ai (ci 3) ae)) [] gM) (ai (gv 2) ae)) [] jT) ae) kt)) (aa (al df 7 (aC (ai (aC (ai (gv 0) (ai (ci 4) ae)) [] gM) (ai (gv 2) ae)) [] jT)) (aa (al df 8 (aC (ai (aC (ai (gv 0) (ai (ci 5) ae)) [] gM) (ai (gv 3) ae)) [] jT)) (aa (al df 9 (aC (ai (gv 4) (ai (gv 7) (ai (gv 8) ae))) [] ss)) (aa (al df 10 (aC (ai (gv 5) (ai (gv 7) (ai (gv 8) ae))) [] rX)) (aa (al df 11 (cg 1 [7] (aF bv (gv 6)) (aD 0) (fun _=>Res.ok true) (f2 (gv 1) (gv 0) aH))) (aa (cA dS (aV (f2 (aC (ai (gv 9) (ai (gv 10) (ai (gv 11) ae))) [] kY) (aC (ai (aC (ai (gv 4) (ai (gv 5) (ai (gv 6) ae))) [] kY) (ai (gv 7) (ai (gv 8) ae))) [] nh) neD)) (aa (aw dS (fun _=>Res.ok (D.bl false))) ax) ax) (aa (cA dS (aV (f2 (aC (ai (gv 9) (ai (gv 10) (ai (gv 11) ae))) [] kT) (aC (ai (aC (ai (gv 4) (ai (gv 5) (ai (gv 6) ae))) [] kT) (ai (gv 7) (ai (gv 8) ae))) [] nh) neD)) (aa (aw dS (fun _=>Res.ok (D.bl false))) ax) ax) (aa (cA dS (aV (f2 (aC (ai (gv 9) (ai (gv 11) ae)) [] kW) (aC (ai (aC (ai (gv 4) (ai (gv 6) ae)) [] kW) (ai (gv 7) (ai (gv 8) ae))) [] nh) neD)) (aa (aw dS (fun _=>Res.ok (D.bl false))) ax) ax) (aa (cA dS (dm (cB (aC (ai (aC (ai (gv 4) (ai (gv 5) (ai (gv 6) ae))) [] jR) (ai (aC (ai (gv 9) (ai (gv 10) (ai (gv 11) ae))) [] jR) (ai (gv 7) (ai (gv 8) ae)))) [] sB))) (aa (aw dS (fun _=>Res.ok (D.bl false))) ax) ax) (aa (aw dS (lN (f2 (gv 3) (gv 2) lf) (aC (ai (gv 4) (ai (gv 9) (ai (gv 7) (ai (gv 8) ae)))) [] sx))) ax))))))))))))))))
def pE:List D->Res D:=fun ds=>aB false (pR (aS pU.length ds))
theorem Hf(T:Txt K mg){fa:Addr}{fd:RM}(A:Fun K "law" "law" nI fa fd)(c__law_cell:Callee P w K mg base "_law_cell" rC [] 1 false q0 gM)(c__law_wishes:Callee P w K mg base "_law_wishes" yZ [] 2 false fm su)(c__law_owns:Callee P w K mg base "_law_owns" yv [] 1 false gQ rh)(c__law_row:Callee P w K mg base "_law_row" rN [] 1 false [.sh,.bw] jT)(c__law_wished:Callee P w K mg base "_law_wished" yD [] 1 false bx ss)(c__law_owned:Callee P w K mg base "_law_owned" yM [] 1 false bx rX)(c_by_rings:Callee P w K mg base "by_rings" xL [] 8 false bx kY)(c__law_dealt:Callee P w K mg base "_law_dealt" yL [] 1 false bx nh)(c_by_asking:Callee P w K mg base "by_asking" yw [] 8 false bx kT)(c_by_order:Callee P w K mg base "by_order" xK [] 7 false q0 kW)(c_rounds:Callee P w K mg base "rounds" qJ [] 7 false bx jR)(c__law_rounds_alike:Callee P w K mg base "_law_rounds_alike" zr [] 2 false [.sh,.sh,.bw,.bw] sB)(c__law_eaten_alike:Callee P w K mg base "_law_eaten_alike" zg [] 7 false fm sx):FnOk P w K mg base bR 9 fa fd Ay (jo K false [Md.sh] pE):=by
 refine BJ (k:=8) (fs:=pR) (m':=dS) A ie rfl fun cdv A outer s H g E hr=>?_;have hu1:=kx hr;have hu64:=hr.units;exact(ak (br 1 ie.nd (aJ c__law_cell (ag (af 0) (ag iB aI))))
   (ak (br 2 ie.nd (ic iB (bE (iq (af 1) iB))))
   (ak (br 3 ie.nd (ic (af 2) (bE (iq (bE (uC (af 1) iB)) (bE (AN iB (af 2)))))))
   (ak (br 4 ie.nd (aJ c__law_wishes (ag (af 0) (ag iB (ag (af 2) (ag (af 3) aI))))))
   (ak (br 5 ie.nd (aJ c__law_owns (bI (aJ c__law_cell (ag (af 0) (ag iB aI))) (ag (af 2) (ag (af 3) aI)))))
   (ak (br 6 ie.nd (SO.toE (tY (by rfl) T.b_list (bf (bE (aJ c__law_row (bI (aJ c__law_cell (ag (af 0) (ag iB aI))) (ag (af 2) aI)))) bh))))
   (ak (br 7 ie.nd (aJ c__law_row (bI (aJ c__law_cell (ag (af 0) (ag iB aI))) (ag (af 2) aI))))
   (ak (br 8 ie.nd (aJ c__law_row (bI (aJ c__law_cell (ag (af 0) (ag iB aI))) (ag (af 3) aI))))
   (ak (br 9 ie.nd (aJ c__law_wished (ag (af 4) (ag (af 7) (ag (af 8) aI)))))
   (ak (br 10 ie.nd (aJ c__law_owned (ag (af 5) (ag (af 7) (ag (af 8) aI)))))
   (ak (ii 11 (X:=(aT bR P w K mg base pU "law" (az nI) fa cdv A outer s H E).nox) (m:=df) (N':=["_law_hand","_law_hands"]) (nl:=1) (cap:=[7]) ie.nd rfl (by rfl) (by rfl) (dA (osc:=(az nI)) (ON:=pU) rfl rfl (by decide+kernel)) (dP (af 6)) (fun _ _ _ _ _ _=>(aW 0 (show QO (["_law_hand","_law_hands"]:List Str)by decide+kernel))) (cS (by decide)) (fun _ _ _ _ _ _=>fI) (fun _ _ _ _ _ _=>(dy hu1 (af 1) (af 0))))
   (ak (bq (e7 hu64 (bE (aJ c_by_rings (ag (af 9) (ag (af 10) (ag (af 11) aI))))) (bE (aJ c__law_dealt (ag (bE (aJ c_by_rings (ag (af 4) (ag (af 5) (ag (af 6) aI))))) (ag (af 7) (ag (af 8) aI)))))) (ak (aX eF)
   ay)
   ay)
   (ak (bq (e7 hu64 (bE (aJ c_by_asking (ag (af 9) (ag (af 10) (ag (af 11) aI))))) (bE (aJ c__law_dealt (ag (bE (aJ c_by_asking (ag (af 4) (ag (af 5) (ag (af 6) aI))))) (ag (af 7) (ag (af 8) aI)))))) (ak (aX eF)
   ay)
   ay)
   (ak (bq (e7 hu64 (bE (aJ c_by_order (ag (af 9) (ag (af 11) aI)))) (bE (aJ c__law_dealt (ag (bE (aJ c_by_order (ag (af 4) (ag (af 6) aI)))) (ag (af 7) (ag (af 8) aI)))))) (ak (aX eF)
   ay)
   ay)
   (ak (bq (lu (ip (bE (aJ c__law_rounds_alike (bI (aJ c_rounds (ag (af 4) (ag (af 5) (ag (af 6) aI)))) (bI (aJ c_rounds (ag (af 9) (ag (af 10) (ag (af 11) aI)))) (ag (af 7) (ag (af 8) aI)))))))) (ak (aX eF)
   ay)
   ay)
   (ak (aX (zM (zO (af 3) (af 2)) (pY (aJ c__law_eaten_alike (ag (af 4) (ag (af 9) (ag (af 7) (ag (af 8) aI))))))))
   ay))))))))))))))))
end Law
namespace Law
open PySem L2 DL
abbrev nD(k:Nat):D:=.int (k:Int)
abbrev LN(l:List Nat):D:=.lst (l.map nD)
abbrev TN(l:List Nat):D:=.tup (l.map nD)
def oD:Option Nat->D
|none=>.non
|some k=>nD k
abbrev WD(rz:List (List Nat)):D:=.tup (rz.map TN)
abbrev OD(owns:List (Option Nat)):D:=.tup (owns.map oD)
theorem lR{ds:List D}(h:ds.length<=1000):sz ds=some ds:=HG (O_ h (by rw[QZ];decide))
@[simp] theorem addA_int(a b:Int):addA (.int a) (.int b)=some (.int (a+b)):=rfl
theorem Kh{a b:Int}(h:gx a b):cY (.int a) (.int b)=some (.int (a*b)):=by rw[cY,intsC_int,if_pos h]
theorem vJ{a b:Int}(h:0<b):bH (.int a) (.int b)=some (.int (a%b)):=by rw[bH,intsC_int,if_pos h]
theorem MN{a b:Int}(h:g6 a b):jC (.int a) (.int b)=some (.int (a/b)):=by rw[jC,intsC_int,if_pos h]
theorem ar{s1 s2:FS}{r r':ao}(h:s1 r=.nx r'):aa s1 s2 r=s2 r':=by unfold aa;rw[h]
theorem aU{s1 s2:FS}{r:ao}{d:D}(h:s1 r=.rt d):aa s1 s2 r=.rt d:=by unfold aa;rw[h]
theorem aO{m:List Md}{i:Nat}{f:FE}{r:ao}{d:D}(h:f r=.ok d):al m i f r=.nx (r.set i (some d)):=by unfold al;rw[h];rfl
theorem bc{m:List Md}{f:FE}{r:ao}{d:D}(h:f r=.ok d):aw m f r=.rt d:=by unfold aw;rw[h];rfl
theorem mH{m:List Md}{p:FQ}{s1 s2:FS}{r:ao}{b:Bool}(h:p r=.ok b):cA m p s1 s2 r=if b=true then s1 r else s2 r:=by unfold cA;rw[h];rfl
theorem dj{m:List Md}{p:FQ}{s1 s2:FS}{r:ao}(h:p r=.ok true):cA m p s1 s2 r=s1 r:=by rw[mH h,if_pos rfl]
theorem bz{m:List Md}{p:FQ}{s1 s2:FS}{r:ao}(h:p r=.ok false):cA m p s1 s2 r=s2 r:=by rw[mH h,if_neg g_]
theorem tv{p:FQ}{f f':FE}{r:ao}(h:p r=.ok true):kd p f f' r=f r:=by unfold kd;rw[h];rfl
theorem tu{p:FQ}{f f':FE}{r:ao}(h:p r=.ok false):kd p f f' r=f' r:=by unfold kd;rw[h];rfl
theorem fV{fl:ao->Res (List D)}{r:ao}{ds:List D}(h:fl r=.ok ds)(hl:ds.length<=1000):d6 fl r=.ok (.tup ds):=by unfold d6;rw[h,bind_ok,lR hl];rfl
theorem hW{fl:ao->Res (List D)}{r:ao}{ds:List D}(h:fl r=.ok ds)(hl:ds.length<=1000):fQ fl r=.ok (.lst ds):=by unfold fQ;rw[h,bind_ok,lR hl];rfl
theorem kM{ds:List D}{d:D}(h:ds.length<=1000):appD (.lst ds) [d]=some (.lst (ds++[d])):=by show(if ds.length<sizeLine then some (D.lst (ds++[d]))else none)=_;rw[if_pos (by rw[QZ];omega)]
theorem aK{fl:ao->Res (List D)}{dds zs:List D}{F:List D->Res D}{r:ao}{d:D}(h1:fl r=.ok zs)(h2:F (zs++dds)=.ok d):aC fl dds F r=.ok d:=by unfold aC;rw[h1,bind_ok,h2];rfl
theorem Au{f:FE}{k:D->Option D}{r:ao}{a d:D}(h1:f r=.ok a)(h2:k a=some d):f1 f k r=.ok d:=by unfold f1;rw[h1,bind_ok,h2];rfl
theorem au{f f':FE}{k:D->D->Option D}{r:ao}{a b d:D}(h1:f r=.ok a)(h2:f' r=.ok b)(h3:k a b=some d):f2 f f' k r=.ok d:=by unfold f2;rw[h1,bind_ok,h2,bind_ok,h3];rfl
theorem bL{fl:ao->Res (List D)}{k:List D->Option D}{r:ao}{ds:List D}{d:D}(h1:fl r=.ok ds)(h2:k ds=some d):fC fl k r=.ok d:=by unfold fC;rw[h1,bind_ok,h2];rfl
theorem aj{f:FE}{fl:ao->Res (List D)}{r:ao}{d:D}{ds:List D}(h1:f r=.ok d)(h2:fl r=.ok ds):ai f fl r=.ok (d::ds):=by unfold ai;rw[h1,bind_ok,h2];rfl
theorem ap{r:ao}:ae r=.ok []:=rfl
theorem bD{f:FE}{r:ao}{b:Bool}(h:f r=.ok (.bl b)):aV f r=.ok b:=by unfold aV;rw[h];rfl
theorem fK{f:FE}{r:ao}{d:D}{b:Bool}(h:f r=.ok d)(h2:f6 d=some b):cB f r=.ok b:=by unfold cB;rw[h,bind_ok,h2];rfl
theorem kE{p:FQ}{r:ao}{b:Bool}(h:p r=.ok b):dm p r=.ok (! b):=by unfold dm;rw[h];rfl
theorem tt{p q:FQ}{r:ao}(h:p r=.ok true):eL p q r=q r:=by unfold eL;rw[h];rfl
theorem Ak{p q:FQ}{r:ao}(h:p r=.ok false):eL p q r=.ok false:=by unfold eL;rw[h];rfl
theorem pi{p q:FQ}{r:ao}(h:p r=.ok true):gS p q r=.ok true:=by unfold gS;rw[h];rfl
theorem gm{p q:FQ}{r:ao}(h:p r=.ok false):gS p q r=q r:=by unfold gS;rw[h];rfl
theorem BD{f f':FE}{r:ao}(h:f r=.ok (.bl true)):fZ f f' r=f' r:=by unfold fZ;rw[h];rfl
theorem dC{m:List Md}{fi:FI}{ft:FT}{b:FS}{r:ao}{ds:List D}(h:fi r=.ok ds):cK m fi ft b r=aG ft b ds r:=by unfold cK;rw[h];rfl
theorem fW{f:FE}{r:ao}{d:D}{ds:List D}(h:f r=.ok d)(h2:bv d=some ds):aF bv f r=.ok ds:=by unfold aF;rw[h,bind_ok,h2];rfl
theorem d4{ft:FT}{b:FS}{r:ao}:aG ft b [] r=.nx r:=by unfold aG;rfl
theorem dO{ft:FT}{b:FS}{r r1 r':ao}{d:D}{ds:List D}(h1:ft d r=some r1)(h2:b r1=.nx r'):aG ft b (d::ds) r=aG ft b ds r':=by
 conv=>lhs;unfold aG
 simp only[h1,h2]
theorem Jk{ft:FT}{b:FS}{r r1:ao}{d v:D}{ds:List D}(h1:ft d r=some r1)(h2:b r1=.rt v):aG ft b (d::ds) r=.rt v:=by
 conv=>lhs;unfold aG
 simp only[h1,h2]
theorem n0{m:List Md}{p:FQ}{b:FS}{n:Nat}{r:ao}(h:p r=.ok false):dz m p b (n+1) r=.nx r:=by unfold dz;rw[h];rfl
theorem n4{m:List Md}{p:FQ}{b:FS}{n:Nat}{r r':ao}(h:p r=.ok true)(h2:b r=.nx r'):dz m p b (n+1) r=dz m p b n r':=by
 conv=>lhs;unfold dz
 rw[h,onE_ok,if_pos rfl,h2]
theorem hX{T:String}{m:List Md}{i:Nat}{fl:ao->Res (List D)}{mk:D->List D->Option D}{r:ao}{d d':D}{ds:List D}(h1:r[i]? = some (some d))(h2:sN T d=true)(h3:fl r=.ok ds)(h4:mk d ds=some d'):cm T m i fl mk r=.nx (r.set i (some d')):=by unfold cm;rw[h1];simp only[h2,if_true,h3,onE_ok,h4]
theorem h9{m:List Md}{i:Nat}{fk fv:FE}{r:ao}{d k v d':D}(h1:r[i]? = some (some d))(h2:fv r=.ok v)(h3:fk r=.ok k)(h4:dD d k v=some d'):DL.cE m i fk fv r=.nx (r.set i (some d')):=by unfold DL.cE;rw[h2,onE_ok];simp only[h1,h3,onE_ok,h4]
theorem KB{fa fb fc:FE}{k k':D->D->Option D}{r:ao}{x y w d:D}(h1:fa r=.ok x)(h2:fb r=.ok y)(h3:k x y=some (.bl true))(h4:fc r=.ok w)(h5:k' y w=some d):nR fa fb fc k k' r=.ok d:=by unfold nR;rw[h1,bind_ok,h2,bind_ok,h3,opt_some,bind_ok];show(fc r).bind _=_;rw[h4,bind_ok,h5];rfl
theorem Na{ft:FT}{q:FQ}{fe:FE}{r0:ao}:fT ft q fe r0 []=.ok []:=by unfold fT;rfl
theorem Eh{ft:FT}{q:FQ}{fe:FE}{r0:ao}{α:Type}(e:α->D)(keep:α->Bool)(g:α->D):∀(l:List α),(∀a∈l,∃r1,ft (e a) r0=some r1/\q r1=.ok (keep a)/\(keep a=true->fe r1=.ok (g a)))->fT ft q fe r0 (l.map e)=.ok ((l.filter keep).map g)
|[],_=>Na
|a::l,h=>by
  obtain⟨r1,h1,h2,h3⟩:=h a d_;have ih:=Eh (ft:=ft) (q:=q) (fe:=fe) (r0:=r0) e keep g l fun b hb=>h b (i_ _ hb);rw[u_]
  conv=>lhs;unfold fT
  rw[h1,opt_some,bind_ok,h2,bind_ok];cases k:keep a with
 |true=>rw[if_pos rfl,h3 k,bind_ok,ih,bind_ok,QQ,if_pos k];rfl
 |false=>rw[if_neg g_,ih,QQ,if_neg (by rw[k];exact g_)]
theorem fX{nl:Nat}{cap:List Nat}{fi:FI}{ft:FT}{q:FQ}{fe:FE}{r:ao}{α:Type}{l:List α}(e:α->D)(keep:α->Bool)(g:α->D)(h1:fi r=.ok (l.map e))(hl:l.length<=1000)(h:∀a∈l,∃r1,ft (e a) (bA nl cap r)=some r1/\q r1=.ok (keep a)/\(keep a=true->fe r1=.ok (g a))):cg nl cap fi ft q fe r=.ok (.lst ((l.filter keep).map g)):=by unfold cg;rw[h1,bind_ok,lR (by simpa using hl),opt_some,bind_ok,Eh e keep g l h,noXL_ok,bind_ok]
theorem GR(k:Nat):zV (.int 0) (nD k)=some (.bl true):=by show some (D.bl (decide ((0:Int)<=(k:Int))))=_;rw[decide_eq_true (S9 k)]
theorem pH(a b:Nat):iU (nD a) (nD b)=some (.bl (decide (a<b))):=by show some (D.bl (decide ((a:Int)<(b:Int))))=_;simp only[Wq]
theorem pO(a b:Nat):lf (nD a) (nD b)=some (.bl (decide (b<a))):=by show some (D.bl (decide ((b:Int)<(a:Int))))=_;simp only[Wq]
theorem mE(a b:Nat):eqD (nD a) (nD b)=some (.bl (decide (a=b))):=by
 unfold eqD;rw[eqB_int];show some (D.bl ((a:Int)==(b:Int)))=_;have:((a:Int)==(b:Int))=decide (a=b):=by rw[N_,beq_iff_eq,decide_eq_true_iff];exact TB
 rw[this]
theorem AA(a b:Nat):neD (nD a) (nD b)=some (.bl (! decide (a=b))):=by
 unfold neD;rw[eqB_int];show some (D.bl (!((a:Int)==(b:Int))))=_;have:((a:Int)==(b:Int))=decide (a=b):=by rw[N_,beq_iff_eq,decide_eq_true_iff];exact TB
 rw[this]
theorem bp{B:FS}{n:Nat}{ds:List D}{d:D}(h:B (aS n ds)=.rt d):aB false (B (aS n ds))=.ok d:=by rw[h];rfl
abbrev kI(k:Nat):aA:=Sum.inl (k:Int)
theorem t5(kvs:List (Nat×D))(k:Nat):cn (kvs.map fun p=>(kI p.1,p.2)) (kI k)=decide (k∈kvs.map (·.1)):=by
 unfold cn;rw[Uw,N_,T_,decide_eq_true_iff,r_];constructor
 .rintro⟨p,h1,h2⟩
  refine⟨p,h1,?_⟩;simp only[SR,decide_eq_true_eq]at h2;have:((p.1:Nat):Int)=(k:Int):=WI h2;exact Int.ofNat.inj this
 .rintro⟨p,h1,rfl⟩
  exact⟨p,h1,by simp⟩
theorem DO(kvs:List (Nat×D))(k:Nat)(d:D)(h:k∉kvs.map (·.1)):cz (kvs.map fun p=>(kI p.1,p.2)) (kI k) d=(kvs++[(k,d)]).map fun p=>(kI p.1,p.2):=by unfold cz;have e:((kvs.map fun p=>(kI p.1,p.2)).any fun kv=>decide (kv.1=kI k))=decide (k∈kvs.map (·.1)):=t5 kvs k;rw[e,decide_eq_false h,if_neg g_,QL];rfl
@[simp] theorem e_seq(s1 s2:FS)(r:ao):aa s1 s2 r=(match s1 r with|.nx r'=>s2 r'|o=>o):=rfl
@[simp] theorem e_skip(r:ao):ax r=.nx r:=rfl
@[simp] theorem e_set(m:List Md)(i:Nat)(f:FE)(r:ao):al m i f r=fP m r (f r) fun d=>.nx (r.set i (some d)):=rfl
@[simp] theorem e_ret(m:List Md)(f:FE)(r:ao):aw m f r=fP m r (f r) fun d=>.rt d:=rfl
@[simp] theorem e_if(m:List Md)(p:FQ)(s1 s2:FS)(r:ao):cA m p s1 s2 r=fP m r (p r) fun c=>if c=true then s1 r else s2 r:=rfl
@[simp] theorem e_getV(r:ao)(i:Nat):dk r i=(match r[i]? with|some (some d)=>.ok d|_=>.stuck):=rfl
@[simp] theorem e_f1(f:FE)(k:D->Option D)(r:ao):f1 f k r=(f r).bind fun d=>bX (k d):=rfl
@[simp] theorem e_f2(f f':FE)(k:D->D->Option D)(r:ao):f2 f f' k r=(f r).bind fun a=>(f' r).bind fun b=>bX (k a b):=rfl
@[simp] theorem e_fC(fl:ao->Res (List D))(k:List D->Option D)(r:ao):fC fl k r=(fl r).bind fun ds=>bX (k ds):=rfl
@[simp] theorem e_lN(r:ao):ae r=.ok []:=rfl
@[simp] theorem e_lC(f:FE)(fl:ao->Res (List D))(r:ao):ai f fl r=(f r).bind fun d=>(fl r).bind fun ds=>.ok (d::ds):=rfl
@[simp] theorem e_test(f:FE)(r:ao):aV f r=(f r).bind fun d=>bX (iZ d):=rfl
@[simp] theorem e_tru(f:FE)(r:ao):cB f r=(f r).bind fun d=>bX (f6 d):=rfl
@[simp] theorem e_not(p:FQ)(r:ao):dm p r=(p r).bind fun c=>.ok (! c):=rfl
@[simp] theorem e_and(p q:FQ)(r:ao):eL p q r=(p r).bind fun c=>if c=true then q r else .ok false:=rfl
@[simp] theorem e_or(p q:FQ)(r:ao):gS p q r=(p r).bind fun c=>if c=true then .ok true else q r:=rfl
@[simp] theorem e_vand(f f':FE)(r:ao):fZ f f' r=(f r).bind fun d=>(bX (iZ d)).bind fun c=>if c=true then f' r else .ok (.bl false):=rfl
@[simp] theorem e_vor(f f':FE)(r:ao):lN f f' r=(f r).bind fun d=>(bX (iZ d)).bind fun c=>if c=true then .ok (.bl true)else f' r:=rfl
@[simp] theorem e_vnot(f:FE)(r:ao):lO f r=(f r).bind fun d=>(bX (iZ d)).bind fun c=>.ok (.bl (! c)):=rfl
@[simp] theorem e_fIf(p:FQ)(f f':FE)(r:ao):kd p f f' r=(p r).bind fun c=>if c=true then f r else f' r:=rfl
@[simp] theorem e_call(fl:ao->Res (List D))(dds:List D)(F:List D->Res D)(r:ao):aC fl dds F r=(fl r).bind fun ds=>nu (F (ds++dds)):=rfl
@[simp] theorem e_asB(b:Bool):iZ (.bl b)=some b:=rfl
@[simp] theorem e_truB(b:Bool):f6 (.bl b)=some b:=rfl
@[simp] theorem e_truL(ds:List D):f6 (.lst ds)=some (! ds.isEmpty):=rfl
@[simp] theorem e_loop(m:List Md)(fi:FI)(ft:FT)(b:FS)(r:ao):cK m fi ft b r=fP m r (fi r) fun ds=>aG ft b ds r:=rfl
@[simp] theorem e_fSeq(k:D->Option (List D))(f:FE)(r:ao):aF k f r=(f r).bind fun d=>bX (k d):=rfl
@[simp] theorem e_asL(ds:List D):bv (.lst ds)=some ds:=rfl
@[simp] theorem e_asT(ds:List D):bv (.tup ds)=some ds:=rfl
@[simp] theorem e_mkT(fl:ao->Res (List D))(r:ao):d6 fl r=(fl r).bind fun ds=>(bX (sz ds)).bind fun ds=>.ok (.tup ds):=rfl
@[simp] theorem e_mkL(fl:ao->Res (List D))(r:ao):fQ fl r=(fl r).bind fun ds=>(bX (sz ds)).bind fun ds=>.ok (.lst ds):=rfl
@[simp] theorem e_lenL(ds:List D):lenD [.lst ds]=some (.int ds.length):=rfl
@[simp] theorem e_lenT(ds:List D):lenD [.tup ds]=some (.int ds.length):=rfl
@[simp] theorem e_lenK(ds:List (aA×D)):lenD [.dic ds]=some (.int ds.length):=rfl
@[simp] theorem e_tupL(ds:List D):tupD [.lst ds]=some (.tup ds):=rfl
@[simp] theorem e_listL(ds:List D):kt [.lst ds]=some (.lst ds):=rfl
@[simp] theorem e_listT(ds:List D):kt [.tup ds]=some (.lst ds):=rfl
@[simp] theorem e_isNN:jr .non .non=some (.bl true):=rfl
@[simp] theorem e_isLN(ds:List D):jr (.lst ds) .non=some (.bl false):=rfl
@[simp] theorem e_isn1:fu .non .non=some (.bl false):=rfl
@[simp] theorem e_isn2(i:Int):fu (.int i) .non=some (.bl true):=rfl
@[simp] theorem e_isn3(ds:List D):fu (.tup ds) .non=some (.bl true):=rfl
@[simp] theorem e_valsD(kvs:List (aA×D)):qa (.dic kvs)=some (.lst (kvs.map (·.2))):=rfl
theorem dw{ds:List D}{i:Nat}{d:D}(h:ds[i]? = some d):aH (.tup ds) (nD i)=some d:=by have hl:i<ds.length:=(e_.mp h).1;show eS ds (i:Int)=some d;unfold eS gC;rw[if_pos (S9 i),if_pos (by omega)];simpa using h
theorem pQ{ds:List D}{i:Nat}{d:D}(h:ds[i]? = some d):aH (.lst ds) (nD i)=some d:=by have hl:i<ds.length:=(e_.mp h).1;show eS ds (i:Int)=some d;unfold eS gC;rw[if_pos (S9 i),if_pos (by omega)];simpa using h
@[simp] theorem ixA_L0(d:D)(ds:List D):aH (.lst (d::ds)) (.int 0)=some d:=pQ (i:=0) rfl
@[simp] theorem ixA_T0(d:D)(ds:List D):aH (.tup (d::ds)) (.int 0)=some d:=dw (i:=0) rfl
theorem pP{kvs:List (aA×D)}{k:Nat}{d:D}(h:bj kvs (kI k)=some d):aH (.dic kvs) (nD k)=some d:=h
theorem pr(l:List Nat)(k:Nat):(l.map nD).any (fun y=>eqs y (nD k))=decide (k∈l):=by
 rw[Uw,N_,T_,decide_eq_true_iff];constructor
 .rintro⟨x,h1,h2⟩
  have:(((x:Nat):Int)==(k:Int))=true:=h2;have:=TB.mp (Sn this);subst this;exact h1
 .intro h;exact⟨k,h,by show(((k:Nat):Int)==(k:Int))=true;simp⟩
theorem pM(l:List Nat):(l.map nD).all bY=true:=by rw[R_];intro x hx;obtain⟨k,_,rfl⟩:=r_.mp hx;rfl
theorem GL(l:List Nat)(k:Nat):gE (nD k) (LN l)=some (.bl (decide (k∈l))):=by show(if bY (nD k)=true/\(l.map nD).all bY=true then some ((l.map nD).any fun y=>eqs y (nD k))else none).map D.bl=_;rw[if_pos ⟨rfl,pM l⟩,pr];rfl
theorem tX(l:List Nat)(k:Nat):cF (nD k) (LN l)=some (.bl (! decide (k∈l))):=by show(if bY (nD k)=true/\(l.map nD).all bY=true then some ((l.map nD).any fun y=>eqs y (nD k))else none).map (fun b=>D.bl (! b))=_;rw[if_pos ⟨rfl,pM l⟩,pr];rfl
theorem Pt(k:Nat):kZ [nD k]=.ok (.bl true):=rfl
theorem Ps(k b:Nat):oE [nD k,nD b]=.ok (.bl (decide (k<b))):=by refine bp (B:=xG) (n:=2) ?_;unfold xG;refine aU (bc ?_);rw[BD (aK (aj (d:=nD k) rfl ap) (Pt k))];exact KB rfl rfl (GR k) rfl (pH k b)
theorem lE{α:Type}(f:α->D)(l:List α):lenD [.tup (l.map f)]=some (nD l.length):=by show some (D.int ((l.map f).length:Int))=_;rw[m_]
theorem kP{α:Type}(f:α->D)(l:List α):lenD [.lst (l.map f)]=some (nD l.length):=by show some (D.int ((l.map f).length:Int))=_;rw[m_]
theorem DG{α:Type}(f:α->aA×D)(l:List α):lenD [.dic (l.map f)]=some (nD l.length):=by show some (D.int ((l.map f).length:Int))=_;rw[m_]
theorem wE(n:Nat):eqD (nD n) (nD n)=some (.bl true):=by have e:=mE n n;rw[decide_eq_true rfl]at e;exact e
theorem Bo(n:Nat):dc 0 n=(a_ n).map nD:=by unfold dc;refine QI fun i _=>?_;show D.int (0+(i:Int))=D.int (i:Int);rw[Int.zero_add]
theorem Mj(j:Int):ku [.int j]=if-(2^62)<=j/\j<2^62/\j.toNat<=sizeLine then some (.lst (dc 0 j.toNat))else none:=rfl
theorem qx{n:Nat}(h:n<=1000):ku [nD n]=some (LN (a_ n)):=by
 have hs:(n:Int).toNat<=sizeLine:=by rw[Ry,QZ];omega
 rw[Mj,if_pos ⟨by omega,by omega,hs⟩,Ry,Bo]
theorem LO(j:Int):de [.int j]=if-(2^62)<=j/\j<2^62 then some (dc 0 j.toNat)else none:=rfl
theorem kJ{n:Nat}(h:n<=1000):de [nD n]=some ((a_ n).map nD):=by rw[LO,if_pos ⟨by omega,by omega⟩,Ry,Bo]
theorem kN{fl:ao->Res (List D)}{k:List D->Option (List D)}{r:ao}{ds es:List D}(h1:fl r=.ok ds)(h2:k ds=some es):dG k fl r=.ok es:=by unfold dG;rw[h1,bind_ok,h2];rfl
theorem ye{p:Nat->Bool}:∀(l:List Nat),l.find? p=(l.filter p).head?
|[]=>rfl
|a::l=>by rw[QK,QQ];cases h:p a with
 |true=>simp
 |false=>simpa using ye l
theorem Ap(o:Option Nat)(x:Nat):eqD (oD o) (nD x)=some (.bl (decide (o=some x))):=by cases o with
|none=>unfold eqD oD;rw[eqB_non_int];simp
|some k=>show eqD (nD k) (nD x)=_;rw[mE];simp
def own(owns:List (Option Nat))(h:Nat):Option Nat:=(owns[h]?).join
theorem Bf{owns:List (Option Nat)}{h:Nat}(hh:h<owns.length):(owns.map oD)[h]? = some (oD (own owns h)):=by rw[t_,b_ hh];unfold own;rw[b_ hh];rfl
theorem rG{row:List Nat}{rest:List (List Nat)}:fO [WD (row::rest)]=.ok (nD row.length):=by refine bp (B:=yu) (n:=1) ?_;unfold yu;exact aU (bc (bL (aj (au (a:=WD (row::rest)) (b:=.int 0) rfl rfl (ixA_T0 _ _)) ap) (lE _ _)))
theorem DT{row things:List Nat}(h:∃x∈row,x∈things)(hl:row.length<=1000):fN [TN row,LN things]=.ok (nD (Rg.best row things)):=by
 refine bp (B:=oC) (n:=2) ?_;unfold oC;have hc:(cg 1 [1] (aF bv (gv 0)) (aD 0) (aV (f2 (gv 0) (gv 1) gE)) (gv 0)) [some (TN row),some (LN things)]=.ok (LN (row.filter fun x=>decide (x∈things))):=by
  refine fX nD (fun x=>decide (x∈things)) nD (l:=row) rfl hl fun a _=>⟨[some (nD a),some (LN things)],rfl,?_,fun _=>rfl⟩
  exact bD (au (a:=nD a) (b:=LN things) rfl rfl (GL _ _))
 have hb:∃t,(row.filter fun x=>decide (x∈things))=Rg.best row things::t:=by unfold Rg.best;rw[ye];cases e:row.filter fun x=>decide (x∈things)with
 |nil=>obtain⟨x,h1,h2⟩:=h;have:x∈row.filter fun x=>decide (x∈things):=l_.mpr ⟨h1,by simpa using h2⟩;rw[e]at this;cases this
 |cons a t=>exact⟨t,rfl⟩
 obtain⟨t,ht⟩:=hb;rw[ht]at hc;exact aU (bc (au hc (b:=.int 0) rfl (ixA_L0 _ _)))
abbrev i9(pre:List Nat):D:=.dic ((pre.map fun k=>(k,D.bl true)).map fun p=>(kI p.1,p.2))
theorem Cw(b:Nat)(num:D):∀(suf pre:List Nat)(x y:Option D),(pre++suf).Nodup->(∀k∈suf,k<b)->(pre++suf).length<=1000 ->∃x' y',aG (dW (bK (aD 3) (bK (aD 4) dN))) yT (cZ pre.length (suf.map nD)) [some num,some (nD b),some (i9 pre),x,y]=.nx [some num,some (nD b),some (i9 (pre++suf)),x',y']
|[],pre,x,y,_,_,_=>⟨x,y,by rw[Q0];exact d4⟩
|k::suf,pre,x,y,hn,hb,hl=>by
  have hk:k∉pre:=fun z=>(Rp.mp hn).2.2 k z k d_ rfl;obtain⟨x',y',ih⟩:=Cw b num suf (pre++[k]) (some (nD pre.length)) (some (nD k)) (by simpa using hn) (fun j hj=>hb j (i_ _ hj)) (by simpa using hl);refine⟨x',y',?_⟩;rw[show(pre++[k]).length=pre.length+1 by simp]at ih;rw[show pre++k::suf=(pre++[k])++suf by simp,<-ih];show aG _ _ (.tup [.int ((pre.length:Nat):Int),nD k]::cZ (pre.length+1) (suf.map nD)) _=_;refine dO (r1:=[some num,some (nD b),some (i9 pre),some (nD pre.length),some (nD k)]) rfl ?_;have c2:gE (nD k) (i9 pre)=some (.bl false):=by
   show(some (cn _ (kI k))).map D.bl=_;rw[t5,y_];have:decide (k∈pre.map ((fun p:Nat×D=>p.1)∘fun k=>(k,D.bl true)))=false:=by rw[decide_eq_false_iff_not];simpa[T2]using hk
   rw[this];rfl
  have c3:dD (i9 pre) (nD k) (.bl true)=some (i9 (pre++[k])):=by show(if _ then some (D.dic (cz _ (kI k) (.bl true)))else none)=_;rw[if_pos (by rw[m_,m_,QZ];simp at hl;omega),DO _ _ _ (by rw[y_];simpa[T2]using hk)];simp
  have c1:decide (k<b)=true:=decide_eq_true (hb k d_);unfold yT;have hif:(gS (dm (cB (aC (ai (gv 4) (ai (gv 1) ae)) [] oE))) (aV (f2 (gv 4) (gv 2) gE))) [some num,some (nD b),some (i9 pre),some (nD pre.length),some (nD k)]=.ok false:=by have h0:=Ps k b;rw[c1]at h0;rw[gm (kE (fK (b:=true) (aK (aj (d:=nD k) rfl (aj (d:=nD b) rfl ap)) h0) rfl))];exact bD (au (a:=nD k) (b:=i9 pre) rfl rfl c2)
  refine(ar (mH hif)).trans ?_;exact ar (h9 (d:=i9 pre) (k:=nD k) rfl rfl rfl c3)
theorem Qc{l:List Nat}{b:Nat}(hn:l.Nodup)(hb:∀k∈l,k<b)(hl:l.length<=1000):sv [LN l,nD b]=.ok (nD l.length):=by obtain⟨x',y',h⟩:=Cw b (LN l) l [] none none hn hb hl;refine bp (B:=yA) (n:=5) ?_;unfold yA;refine(ar (r':=[some (LN l),some (nD b),some (i9 []),none,none]) rfl).trans ?_;refine(ar ((dC (ds:=cZ 0 (l.map nD)) rfl).trans h)).trans ?_;exact aU (bc (bL (aj (d:=LN l) rfl ap) (kP _ _)))
theorem Ox{l:List Nat}{n:Nat}(hn:l.Nodup)(hb:∀k∈l,k<n)(h8:l.length<=1000):rY [LN l,nD n]=.ok (.bl true):=by refine bp (B:=yH) (n:=2) ?_;unfold yH;exact aU (bc (au (a:=nD l.length) (b:=nD l.length) (aK (aj (d:=LN l) rfl (aj (d:=nD n) rfl ap)) (Qc hn hb h8)) (bL (aj (d:=LN l) rfl ap) (kP _ _)) (wE _)))
theorem K0{l:List Nat}{n:Nat}(hn:l.Nodup)(hb:∀k∈l,k<n)(hl:l.length=n)(h8:n<=1000):sg [LN l,nD n]=.ok (.bl true):=by refine bp (B:=yS) (n:=2) ?_;unfold yS;subst hl;refine aU (bc ?_);rw[BD (au (a:=nD l.length) (b:=nD l.length) (bL (aj (d:=LN l) rfl ap) (kP _ _)) rfl (wE _))];exact aK (aj (d:=LN l) rfl (aj (d:=nD l.length) rfl ap)) (Ox hn hb h8)
theorem P7{rz:List (List Nat)}(h:rz.length<=1000):jm [WD rz,.non]=.ok (LN (a_ rz.length)):=by refine bp (B:=m9) (n:=2) ?_;unfold m9;refine aU ((mH (b:=true) rfl).trans ?_);rw[if_pos rfl];exact aU (bc (bL (ds:=[nD rz.length]) (aj (bL (aj (d:=WD rz) rfl ap) (lE _ _)) ap) (qx h)))
theorem Em{rz:List (List Nat)}{l:List Nat}(hn:l.Nodup)(hb:∀k∈l,k<rz.length)(hl:l.length=rz.length)(h8:rz.length<=1000):jm [WD rz,LN l]=.ok (LN l):=by refine bp (B:=m9) (n:=2) ?_;unfold m9;refine(ar (r':=[some (WD rz),some (LN l)]) ((mH (b:=false) rfl).trans rfl)).trans ?_;refine(ar (r':=[some (WD rz),some (LN l)]) ((mH (b:=false) (kE (b:=true) (fK (aK (aj (d:=LN l) rfl (aj (bL (aj (d:=WD rz) rfl ap) (lE _ _)) ap)) (K0 hn hb hl h8)) rfl))).trans rfl)).trans ?_;exact aU (bc (bL (aj (d:=LN l) rfl ap) rfl))
theorem Cz(owns:List (Option Nat))(line:List Nat)(x:Nat):∀(l:List Nat)(y:Option D),(∀h∈l,h<owns.length) ->(match l.find? (fun h=>decide (own owns h=some x))with
  |some h=>aG (aD 3) oU (l.map nD) [some (OD owns),some (LN line),some (nD x),y]=.rt (nD h)
  |none=>∃y',aG (aD 3) oU (l.map nD) [some (OD owns),some (LN line),some (nD x),y]=.nx [some (OD owns),some (LN line),some (nD x),y'])
|[],y,_=>⟨y,d4⟩
|h::l,y,hl=>by have c:(aV (f2 (f2 (gv 0) (gv 3) aH) (gv 2) eqD)) [some (OD owns),some (LN line),some (nD x),some (nD h)]=.ok (decide (own owns h=some x)):=bD (au (au (a:=OD owns) (b:=nD h) rfl rfl (dw (Bf (hl h d_)))) (b:=nD x) rfl (Ap _ _));rw[QK];cases e:decide (own owns h=some x)with
 |true=>rw[e]at c;refine Jk (r1:=[some (OD owns),some (LN line),some (nD x),some (nD h)]) rfl ?_;exact aU ((dj c).trans (aU (bc (d:=nD h) rfl)))
 |false=>rw[e]at c;have ih:=Cz owns line x l (some (nD h)) fun k hk=>hl k (i_ _ hk);have st:aG (aD 3) oU ((h::l).map nD) [some (OD owns),some (LN line),some (nD x),y]=aG (aD 3) oU (l.map nD) [some (OD owns),some (LN line),some (nD x),some (nD h)]:=dO (r1:=[some (OD owns),some (LN line),some (nD x),some (nD h)]) rfl ((ar (bz c)).trans rfl);rw[st];exact ih
theorem En{owns:List (Option Nat)}{line:List Nat}{x:Nat}(hl:∀h∈line,h<owns.length):lK [OD owns,LN line,nD x]=.ok (oD (line.find? fun h=>decide (own owns h=some x))):=by refine bp (B:=yK) (n:=4) ?_;unfold yK;have h:=Cz owns line x line none hl;cases e:line.find? fun h=>decide (own owns h=some x)with
|some k=>rw[e]at h;exact aU ((dC (ds:=line.map nD) rfl).trans h)
|none=>rw[e]at h;obtain⟨y',h⟩:=h;exact(ar ((dC (ds:=line.map nD) rfl).trans h)).trans (aU (bc (d:=.non) rfl))
theorem AH(o:Option Nat):jr (oD o) .non=some (.bl (decide (o=none))):=by cases o <;> rfl
theorem Ot{owns:List (Option Nat)}{line:List Nat}{x:Nat}(hl:∀h∈line,h<owns.length)(hne:line≠[]):oR [OD owns,LN line,nD x]=.ok (nD ((line.find? fun h=>decide (own owns h=some x)).getD (line.headD 0))):=by refine bp (B:=zc) (n:=4) ?_;unfold zc;refine(ar (aO (aK (aj (d:=OD owns) rfl (aj (d:=LN line) rfl (aj (d:=nD x) rfl ap))) (En hl)))).trans ?_;refine aU (bc ?_);have c:=bD (au (f:=gv 3) (f':=fun _=>Res.ok D.non) (r:=[some (OD owns),some (LN line),some (nD x),some (oD (line.find? fun h=>decide (own owns h=some x)))]) rfl rfl (AH (line.find? fun h=>decide (own owns h=some x))));cases e:line.find? fun h=>decide (own owns h=some x)with
|some k=>rw[e,decide_eq_false (by simp)]at c;exact(tu c).trans rfl
|none=>rw[e,decide_eq_true rfl]at c;refine(tv c).trans ?_;cases line with
 |nil=>exact absurd rfl hne
 |cons a l=>exact au (a:=LN (a::l)) (b:=.int 0) rfl rfl (ixA_L0 _ _)
abbrev KD(kvs:List (Nat×Nat)):D:=.dic (kvs.map fun p=>(kI p.1,nD p.2))
abbrev FD(l:List Nat)(f:Nat->Nat):List (Nat×Nat):=l.map fun h=>(h,f h)
theorem qf{a b:Nat}(h:kI a=kI b):a=b:=TB.mp (WI h)
theorem rc:∀{kvs:List (Nat×Nat)}{h:Nat}{f:Nat->Nat},(∀p∈kvs,p.2=f p.1)->h∈kvs.map (·.1)->bj (kvs.map fun p=>(kI p.1,nD p.2)) (kI h)=some (nD (f h))
|[],_,_,_,hh=>by cases hh
|p::kvs,h,f,hf,hh=>by
  by_cases e:p.1=h
  .have:=hf p d_;subst e;simp[bj,QK,this]
  .have hne:¬ kI p.1=kI h:=fun z=>e (qf z);have hh':h∈kvs.map (·.1):=by
    rcases w_.mp hh with z|z
    .exact absurd z.symm e
    .exact z
   have ih:=rc (f:=f) (fun q hq=>hf q (i_ _ hq)) hh';have e1:bj ((p::kvs).map fun p=>(kI p.1,nD p.2)) (kI h)=bj (kvs.map fun p=>(kI p.1,nD p.2)) (kI h):=by simp only[bj,u_,QK];rw[decide_eq_false hne]
   rw[e1];exact ih
theorem vT(l:List Nat)(f:Nat->Nat):(FD l f).map (·.1)=l:=by simp[FD,T2]
theorem nS{l:List Nat}{f:Nat->Nat}{h:Nat}(hh:h∈l):aH (KD (FD l f)) (nD h)=some (nD (f h)):=pP (rc (f:=f) (fun p hp=>by obtain⟨x,_,rfl⟩:=r_.mp hp;rfl) (by rw[vT];exact hh))
def putN(kvs:List (Nat×Nat))(k v:Nat):List (Nat×Nat):=if k∈kvs.map (·.1)then kvs.map fun p=>if p.1=k then(p.1,v)else p else kvs++[(k,v)]
theorem pq(kvs:List (Nat×Nat))(k:Nat):((kvs.map fun p=>(kI p.1,nD p.2)).any fun kv=>decide (kv.1=kI k))=decide (k∈kvs.map (·.1)):=by
 rw[Uw,N_,T_,decide_eq_true_iff,r_];constructor
 .rintro⟨p,h1,h2⟩
  simp only[SR,decide_eq_true_eq]at h2;exact⟨p,h1,qf h2⟩
 .rintro⟨p,h1,rfl⟩
  exact⟨p,h1,by simp⟩
theorem Bl(kvs:List (Nat×Nat))(k v:Nat):cz (kvs.map fun p=>(kI p.1,nD p.2)) (kI k) (nD v)=(putN kvs k v).map fun p=>(kI p.1,nD p.2):=by
 unfold cz putN;rw[pq];by_cases h:k∈kvs.map (·.1)
 .rw[decide_eq_true h,if_pos rfl,if_pos h,y_,y_];refine QI fun p _=>?_;simp only[SR];by_cases e:p.1=k
  .rw[if_pos (by rw[e]),if_pos e]
  .rw[if_neg (fun z=>e (qf z)),if_neg e]
 .rw[decide_eq_false h,if_neg g_,if_neg h,QL];rfl
theorem Oh(kvs:List (Nat×Nat))(k v j:Nat):j∈(putN kvs k v).map (·.1)↔j∈kvs.map (·.1)\/j=k:=by
 unfold putN;by_cases h:k∈kvs.map (·.1)
 .rw[if_pos h,y_];have:((fun p:Nat×Nat=>p.1)∘fun p=>if p.1=k then(p.1,v)else p)=fun p=>p.1:=by funext p;simp only[SR];split <;> rfl
  rw[this];constructor
  .exact .inl
  .rintro(z|rfl)
   .exact z
   .exact h
 .rw[if_neg h];simp
theorem NE{kvs:List (Nat×Nat)}{k v:Nat}{f:Nat->Nat}(h:∀p∈kvs,p.2=f p.1)(hv:v=f k):∀p∈putN kvs k v,p.2=f p.1:=by
 intro p hp;unfold putN at hp;split at hp
 .obtain⟨q,h1,rfl⟩:=r_.mp hp;split
  .rename_i e;simp only;rw[e];exact hv
  .exact h q h1
 .rcases Rc.mp hp with z|z
  .exact h p z
  .rw[D_.mp z];exact hv
theorem qe{kvs:List (Nat×Nat)}{k v:Nat}(hl:kvs.length<=1000):dD (KD kvs) (nD k) (nD v)=some (KD (putN kvs k v)):=by show(if (kvs.map fun p=>(kI p.1,nD p.2)).length<sizeLine then some (D.dic (cz _ (kI k) (nD v)))else none)=_;rw[if_pos (by rw[m_,QZ];omega),Bl]
structure GI(t:Nat->Nat)(kvs:List (Nat×Nat))(L:List Nat):Prop where
 nd:(kvs.map (·.1)).Nodup
 val:∀p∈kvs,p.2=t p.1
 key:∀h,h∈kvs.map (·.1)↔h∈L
theorem LC{kvs:List (Nat×Nat)}{k v:Nat}(h:(kvs.map (·.1)).Nodup):((putN kvs k v).map (·.1)).Nodup:=by
 unfold putN;split
 .rw[y_];have:((fun p:Nat×Nat=>p.1)∘fun p=>if p.1=k then(p.1,v)else p)=fun p=>p.1:=by funext p;simp only[SR];split <;> rfl
  rw[this];exact h
 .rename_i hk;rw[QL];refine Rp.mpr ⟨h,by simp,fun a ha b hb=>?_⟩;simp at hb
  rintro rfl
  exact hk (hb▸ha)
theorem GI.put{t:Nat->Nat}{kvs:List (Nat×Nat)}{L:List Nat}(g:GI t kvs L)(k:Nat):GI t (putN kvs k (t k)) (L++[k]):=⟨LC g.nd,NE g.val rfl,fun h=>by rw[Oh,g.key];simp⟩
theorem GI.len{t:Nat->Nat}{kvs:List (Nat×Nat)}{L line:List Nat}(g:GI t kvs L)(hs:∀h∈L,h∈line):kvs.length<=line.length:=by have:=Rg.iD (m:=line) g.nd fun h hh=>hs h ((g.key h).mp hh);simpa using this
theorem GI.congr{t t':Nat->Nat}{kvs:List (Nat×Nat)}{L:List Nat}(g:GI t kvs L)(h:∀x∈L,t' x=t x):GI t' kvs L:=⟨g.nd,fun p hp=>by rw[g.val p hp,h p.1 ((g.key _).mp (r_.mpr ⟨p,hp,rfl⟩))],g.key⟩
theorem GI.mem{t:Nat->Nat}{kvs:List (Nat×Nat)}{L M:List Nat}(g:GI t kvs L)(h:∀x,x∈L↔x∈M):GI t kvs M:=⟨g.nd,g.val,fun x=>(g.key x).trans (h x)⟩
theorem GI.nil(t:Nat->Nat):GI t [] []:=⟨by simp,fun _ hp=>(nomatch hp),fun h=>by simp⟩
theorem kQ{α:Type}(l:List α):l.filter (fun _=>true)=l:=VV.mpr fun _ _=>rfl
theorem GI.full{t:Nat->Nat}{kvs:List (Nat×Nat)}{L:List Nat}{n:Nat}(g:GI t kvs L)(h:∀x,x∈L↔x<n):kvs.length=n:=by have h1:=g.len (line:=a_ n) fun x hx=>n_.mpr ((h x).mp hx);have h2:=Rg.iD (l:=a_ n) (m:=kvs.map (·.1)) QU fun x hx=>(g.key x).mpr ((h x).mpr (n_.mp hx));simp at h1 h2;omega
def Wr(rz:List (List Nat))(h:Nat):List Nat:=(rz[h]?).getD []
theorem qj{rz:List (List Nat)}{h:Nat}(hh:h<rz.length):(rz.map TN)[h]? = some (TN (Wr rz h)):=by rw[t_];unfold Wr;rw[b_ hh];rfl
theorem DP{kvs:List (Nat×Nat)}{k v:Nat}(h:k∉kvs.map (·.1)):putN kvs k v=kvs++[(k,v)]:=by unfold putN;rw[if_neg h]
theorem yY{a:Nat->Nat}{kvs:List (Nat×Nat)}{L:List Nat}{n:Nat}(g:GI a kvs L)(h:∀x,x∈L↔x<n)(h8:n<=60):kS [KD kvs]=.ok (TN ((a_ n).map a)):=by have hl:=g.full h;refine bp (B:=yI) (n:=1) ?_;unfold yI;refine aU (bc (bL (aj (fX (l:=a_ n) nD (fun _=>true) (fun h=>nD (a h)) (kN (ds:=[nD n]) (aj (bL (aj (d:=KD kvs) rfl ap) (by rw[DG,hl])) ap) (kJ (by omega))) (by simp;omega) fun x hx=>⟨[some (nD x),some (KD kvs)],rfl,rfl,fun _=>au (a:=KD kvs) (b:=nD x) rfl rfl (pP (rc g.val ((g.key x).mpr ((h x).mpr (n_.mp hx)))))⟩) ap) ?_));rw[kQ,e_tupL];show some (D.tup _)=some (D.tup _);rw[y_];rfl
abbrev cr(t:Nat->Nat)(h:Nat):D:=.tup [nD h,nD (t h)]
abbrev bZ(t:Nat->Nat)(ring:List Nat):D:=.tup (ring.map (cr t))
def jJ(t:Nat->Nat):Option (List Nat)->D
|some ring=>bZ t ring
|none=>.non
section
variable{t f:Nat->Nat}{line:List Nat}{first:Nat}(hcl:∀h∈line,f h∈line)(hn:line.length<=60)
include hcl hn
theorem LK:∀(j:Nat)(ring:List Nat)(hand:Nat),hand∈line->ring.length<=line.length->line.length<j+ring.length ->∃ring' hand',dz gj zb Gc j [some (nD first),some (KD (FD line t)),some (KD (FD line f)),some (.lst (ring.map (cr t))),some (nD hand)]=.nx [some (nD first),some (KD (FD line t)),some (KD (FD line f)),some (.lst (ring'.map (cr t))),some (nD hand')] /\∀k,line.length<k+ring.length->Rg.gz f line.length first k ring hand=if hand'=first then some ring' else none:=by
 intro j
 induction j with
|zero=>intro ring hand _ h1 h2;omega
|succ j ih=>
  intro ring hand hh h1 h2;have c1:(aV (f2 (gv 4) (gv 0) lf)) [some (nD first),some (KD (FD line t)),some (KD (FD line f)),some (.lst (ring.map (cr t))),some (nD hand)]=.ok (decide (first<hand)):=bD (au (a:=nD hand) (b:=nD first) rfl rfl (pO _ _));have c2:(aV (f2 (fC (ai (gv 3) ae) lenD) (fC (ai (gv 1) ae) lenD) iU)) [some (nD first),some (KD (FD line t)),some (KD (FD line f)),some (.lst (ring.map (cr t))),some (nD hand)]=.ok (decide (ring.length<line.length)):=by refine bD (au (a:=nD ring.length) (b:=nD line.length) (bL (aj rfl ap) (kP _ _)) (bL (aj (d:=KD (FD line t)) rfl ap) ?_) (pH _ _));rw[DG,m_]
  by_cases hc:first<hand/\ring.length<line.length
  .have cq:zb [some (nD first),some (KD (FD line t)),some (KD (FD line f)),some (.lst (ring.map (cr t))),some (nD hand)]=.ok true:=by rw[decide_eq_true hc.1]at c1;rw[decide_eq_true hc.2]at c2;exact(tt c1).trans c2
   obtain⟨ring',hand',i1,i2⟩:=ih (ring++[hand]) (f hand) (hcl hand hh) (by simp;omega) (by simp;omega);refine⟨ring',hand',?_,fun k hk=>?_⟩
   .rw[n4 cq (r':=[some (nD first),some (KD (FD line t)),some (KD (FD line f)),some (.lst ((ring++[hand]).map (cr t))),some (nD (f hand))]) ?_]
    .exact i1
    .refine(ar (hX (d:=.lst (ring.map (cr t))) (ds:=[cr t hand]) rfl rfl (aj (fV (aj (d:=nD hand) rfl (aj (au (a:=KD (FD line t)) (b:=nD hand) rfl rfl (nS hh)) ap)) (by simp)) ap) (kM (by simp;omega)))).trans ?_;refine(ar (aO (d:=nD (f hand)) (au (a:=KD (FD line f)) (b:=nD hand) rfl rfl (nS hh)))).trans ?_;show Out.nx [_,_,_,some (D.lst (ring.map (cr t)++[cr t hand])),_]=_;rw[QL];rfl
   .cases k with
   |zero=>omega
   |succ k=>unfold Rg.gz;rw[if_pos hc];exact i2 k (by simp;omega)
  .refine⟨ring,hand,n0 ?_,fun k hk=>?_⟩
   .by_cases hc1:first<hand
    .rw[decide_eq_true hc1]at c1;rw[decide_eq_false (fun z=>hc ⟨hc1,z⟩)]at c2;exact(tt c1).trans c2
    .rw[decide_eq_false hc1]at c1;exact Ak c1
   .cases k with
   |zero=>omega
   |succ k=>unfold Rg.gz;rw[if_neg hc]
theorem Nh(hf:first∈line):rn [nD first,KD (FD line t),KD (FD line f)]=.ok (jJ t (Rg.gL f line.length first)):=by
 refine bp (B:=yr) (n:=5) ?_;unfold yr;have hpos:=R7 hf;obtain⟨ring',hand',h1,h2⟩:=LK (t:=t) (first:=first) hcl hn 64 [first] (f first) (hcl first hf) (by show 1<=_;omega) (by simp;omega);refine(ar (aO (d:=.lst ([first].map (cr t))) (hW (aj (fV (aj (d:=nD first) rfl (aj (au (a:=KD (FD line t)) (b:=nD first) rfl rfl (nS hf)) ap)) (by simp)) ap) (by simp)))).trans ?_;refine(ar (aO (d:=nD (f first)) (au (a:=KD (FD line f)) (b:=nD first) rfl rfl (nS hf)))).trans ?_;refine(ar h1).trans ?_;have hr:Rg.gL f line.length first=if hand'=first then some ring' else none:=h2 _ (by simp;omega)
 rw[hr];have c:=bD (au (f:=gv 4) (f':=gv 0) (r:=[some (nD first),some (KD (FD line t)),some (KD (FD line f)),some (.lst (ring'.map (cr t))),some (nD hand')]) (a:=nD hand') (b:=nD first) rfl rfl (mE hand' first));by_cases e:hand'=first
 .rw[decide_eq_true e]at c;rw[if_pos e];exact aU (bc ((tv c).trans (bL (aj (d:=.lst (ring'.map (cr t))) rfl ap) rfl)))
 .rw[decide_eq_false e]at c;rw[if_neg e];exact aU (bc ((tu c).trans rfl))
end
structure Snd(rz:List (List Nat))(owns:List (Option Nat))(s:Rg.S):Prop where
 ok:Rg.Ok (Wr rz) (own owns) s
 inr:∀h∈s.line,h<rz.length
 ino:∀h∈s.line,h<owns.length
 wid:∀h∈s.line,(Wr rz h).length<=1000
 nl:s.line.length<=60
 nt:s.things.length<=60
section
variable{rz:List (List Nat)}{owns:List (Option Nat)}{s:Rg.S}
theorem Snd.tg(S:Snd rz owns s){h:Nat}(hh:h∈s.line):fN [TN (Wr rz h),LN s.things]=.ok (nD (Rg.bB (Wr rz) s h)):=DT (S.ok.some_thing hh) (S.wid h hh)
theorem Snd.pts(S:Snd rz owns s){x h:Nat}(hh:h∈s.line):oR [OD owns,LN s.line,nD x]=.ok (nD (Rg.pt (own owns) s x)):=Ot S.ino (QW hh)
abbrev tS(rz:List (List Nat))(s:Rg.S):Nat->Nat:=Rg.bB (Wr rz) s
abbrev fS(rz:List (List Nat))(owns:List (Option Nat))(s:Rg.S):Nat->Nat:=Rg.nxt (Wr rz) (own owns) s
theorem Df(S:Snd rz owns s):∀(suf pre:List Nat)(y:Option D),pre++suf=s.line ->
  ∃y',aG (aD 6) Gn (suf.map nD) [some (WD rz),some (OD owns),some (LN s.line),some (LN s.things),some (KD (FD pre (tS rz s))),some (KD (FD pre (fS rz owns s))),y,none]
   = .nx [some (WD rz),some (OD owns),some (LN s.line),some (LN s.things),some (KD (FD s.line (tS rz s))),some (KD (FD s.line (fS rz owns s))),y',none]
|[],pre,y,e=>⟨y,by rw[Q0]at e;rw[e];exact d4⟩
|h::suf,pre,y,e=>by
  obtain⟨y',ih⟩:=Df S suf (pre++[h]) (some (nD h)) (by simpa using e);have hh:h∈s.line:=by rw[<-e];simp
  have hn:=S.ok.nl;rw[<-e]at hn;have hk:h∉pre:=fun z=>(Rp.mp hn).2.2 h z h d_ rfl;have hpl:pre.length<=1000:=by have:=S.nl;rw[<-e]at this;simp at this;omega
  refine⟨y',?_⟩;rw[<-ih];refine dO (r1:=[some (WD rz),some (OD owns),some (LN s.line),some (LN s.things),some (KD (FD pre (tS rz s))),some (KD (FD pre (fS rz owns s))),some (nD h),none]) rfl ?_;have c1:dD (KD (FD pre (tS rz s))) (nD h) (nD (tS rz s h))=some (KD (FD (pre++[h]) (tS rz s))):=by rw[qe (by simpa using hpl),DP (by rw[vT];exact hk)];unfold FD;rw[QL];rfl
  have c2:dD (KD (FD pre (fS rz owns s))) (nD h) (nD (fS rz owns s h))=some (KD (FD (pre++[h]) (fS rz owns s))):=by rw[qe (by simpa using hpl),DP (by rw[vT];exact hk)];unfold FD;rw[QL];rfl
  refine(ar (h9 (d:=KD (FD pre (tS rz s))) (k:=nD h) (v:=nD (tS rz s h)) rfl (aK (aj (au (a:=WD rz) (b:=nD h) rfl rfl (dw (qj (S.inr h hh)))) (aj (d:=LN s.things) rfl ap)) (S.tg hh)) rfl c1)).trans ?_;refine(ar (h9 (d:=KD (FD pre (fS rz owns s))) (k:=nD h) (v:=nD (fS rz owns s h)) rfl (aK (aj (d:=OD owns) rfl (aj (d:=LN s.line) rfl (aj (au (a:=KD (FD (pre++[h]) (tS rz s))) (b:=nD h) rfl rfl (nS (by simp))) ap))) (S.pts hh)) rfl c2)).trans ?_;rfl
theorem vW{α:Type}(t:Nat->Nat)(f:α->Option (List Nat)):∀(l:List α),(((l.map f).filter XV).map (jJ t))=(l.filterMap f).map (bZ t)
|[]=>rfl
|a::l=>by rw[u_,QQ,SN];cases e:f a with
 |none=>simpa using vW t f l
 |some r=>simpa[jJ]using vW t f l
theorem Pf(t:Nat->Nat)(h:Nat):kA (cr t h)=some [(h:Int),(t h:Int)]:=rfl
theorem Dy(t:Nat->Nat):∀(ring:List Nat),ja (ring.map (cr t))=some (ring.map fun h:Nat=>[(h:Int),(t h:Int)])
|[]=>rfl
|h::ring=>by show(kA (cr t h)).bind _=_;rw[Pf,Dy t ring];rfl
theorem EL(t:Nat->Nat):∀(rs:List (List Nat)),(∀r∈rs,r≠[])->∃kss,kH (rs.map (bZ t))=some kss
|[],_=>⟨[],rfl⟩
|r::rs,h=>by obtain⟨kss,e⟩:=EL t rs fun x hx=>h x (i_ _ hx);have hr:=h r d_;cases r with
 |nil=>exact absurd rfl hr
 |cons a r=>refine⟨((a::r).map fun h:Nat=>[(h:Int),(t h:Int)])::kss,?_⟩;show(ja ((a::r).map (cr t))).bind _=_;rw[Dy,e];rfl
theorem OC(t:Nat->Nat)(rs:List (List Nat))(h:∀r∈rs,r≠[])(hl:rs.length<64):∃rs':List (List Nat),rs'.Perm rs/\pZ [.lst (rs.map (bZ t))]=some (.lst (rs'.map (bZ t))):=by
 obtain⟨kss,e⟩:=EL t rs h;refine⟨(d8 (rs.map (bZ t)).length fun i j=>dU (kss.getD i []) (kss.getD j [])).map fun i=>rs.getD i [],?_,?_⟩
 .have:=(oH (rs.map (bZ t)).length fun i j=>dU (kss.getD i []) (kss.getD j [])).map fun i=>rs.getD i [];refine this.trans ?_;rw[m_];have e2:(a_ rs.length).map (fun i=>rs.getD i [])=rs:=by
   refine RA fun i=>?_;rw[t_];by_cases hi:i<rs.length
   .rw[QH hi];simp[b_ hi]
   .rw[z_ (by simp;omega),z_ (by omega)];rfl
  rw[e2]
 .show(kH (rs.map (bZ t))).bind _=_;rw[e];show(if _ then _ else _)=_;rw[if_pos (by rw[m_];exact hl)];unfold ko;rw[y_];congr 2;refine QI fun i hi=>?_;have hi:=kR hi;rw[m_]at hi;simp[List.getD,b_ hi]
theorem Oi{W:Nat->List Nat}{O:Nat->Option Nat}:∀r∈Rg.gy W O s,r≠[]:=by intro r hr;obtain⟨x,_,h2⟩:=Rb.mp hr;exact Rg.Dc h2
theorem MS(t:Nat->Nat)(o:Option (List Nat)):fu (jJ t o) .non=some (.bl o.isSome):=by cases o <;> rfl
theorem Ob(S:Snd rz owns s):∃rs:List (List Nat),rs.Perm (Rg.gy (Wr rz) (own owns) s)/\sF [WD rz,OD owns,LN s.line,LN s.things]=.ok (.lst (rs.map (bZ (tS rz s)))):=by
 obtain⟨y',hloop⟩:=Df S s.line [] none rfl;have hcl:∀h∈s.line,fS rz owns s h∈s.line:=fun h hh=>Rg.nV (QW hh);have hlen:(Rg.gy (Wr rz) (own owns) s).length<=s.line.length:=List.length_filterMap_le _ _;obtain⟨rs',hp,hs⟩:=OC (tS rz s) (Rg.gy (Wr rz) (own owns) s) Oi (by have:=S.nl;omega);refine⟨rs',hp,bp (B:=zj) (n:=8) ?_⟩;unfold zj;refine(ar (r':=[some (WD rz),some (OD owns),some (LN s.line),some (LN s.things),some (KD (FD [] (tS rz s))),none,none,none]) rfl).trans ?_;refine(ar (r':=[some (WD rz),some (OD owns),some (LN s.line),some (LN s.things),some (KD (FD [] (tS rz s))),some (KD (FD [] (fS rz owns s))),none,none]) rfl).trans ?_;refine(ar ((dC (ds:=s.line.map nD) rfl).trans hloop)).trans ?_;refine(ar (aO (fX (l:=s.line) nD (fun _=>true) (fun h=>jJ (tS rz s) (Rg.gL (fS rz owns s) s.line.length h)) rfl (by have:=S.nl;omega) fun h hh=>⟨[some (nD h),some (KD (FD s.line (tS rz s))),some (KD (FD s.line (fS rz owns s)))],rfl,rfl,fun _=>aK (aj (d:=nD h) rfl (aj (d:=KD (FD s.line (tS rz s))) rfl (aj (d:=KD (FD s.line (fS rz owns s))) rfl ap))) (Nh hcl S.nl hh)⟩))).trans ?_;rw[kQ];refine aU (bc (bL (aj (fX (l:=s.line.map (Rg.gL (fS rz owns s) s.line.length)) (jJ (tS rz s)) XV (jJ (tS rz s)) ?_ (by have:=S.nl;simp;omega) fun o _=>⟨[some (jJ (tS rz s) o)],rfl,bD (au (a:=jJ (tS rz s) o) (b:=.non) rfl rfl (MS _ _)),fun _=>rfl⟩) ap) ?_))
 .rw[y_];rfl
 .rw[vW];exact hs
theorem AL{t:Nat->Nat}{line:List Nat}(hl:line.length<=60)(rg d:D):∀(ring L:List Nat)(kvs:List (Nat×Nat))(x y:Option D),GI t kvs L->(∀h∈L++ring,h∈line) ->∃kvs' x' y',GI t kvs' (L++ring)/\aG (dW (bK (aD 3) (bK (aD 4) dN))) ES (ring.map (cr t)) [some rg,some (KD kvs),some d,x,y]=.nx [some rg,some (KD kvs'),some d,x',y']
|[],L,kvs,x,y,g,hs=>⟨kvs,x,y,by rw[Q0];exact g,d4⟩
|h::ring,L,kvs,x,y,g,hs=>by obtain⟨kvs',x',y',g',ih⟩:=AL hl rg d ring (L++[h]) (putN kvs h (t h)) (some (nD h)) (some (nD (t h))) (g.put h) (by simpa using hs);refine⟨kvs',x',y',by simpa using g',?_⟩;rw[<-ih];have hk:=g.len (line:=line) fun x hx=>hs x (RL _ hx);exact dO (r1:=[some rg,some (KD kvs),some d,some (nD h),some (nD (t h))]) rfl (ar (h9 (d:=KD kvs) (k:=nD h) (v:=nD (t h)) rfl rfl rfl (qe (by omega))))
theorem BM{t:Nat->Nat}{line:List Nat}(hl:line.length<=60)(rg:D):∀(rs:List (List Nat))(L:List Nat)(kvs:List (Nat×Nat))(z x y:Option D),GI t kvs L->(∀h∈L++rs.flatten,h∈line) ->∃kvs' z' x' y',GI t kvs' (L++rs.flatten)/\aG (aD 2) ET (rs.map (bZ t)) [some rg,some (KD kvs),z,x,y]=.nx [some rg,some (KD kvs'),z',x',y']
|[],L,kvs,z,x,y,g,hs=>⟨kvs,z,x,y,by simpa using g,d4⟩
|r::rs,L,kvs,z,x,y,g,hs=>by
  obtain⟨kvs1,x1,y1,g1,h1⟩:=AL hl rg (bZ t r) r L kvs x y g fun h hh=>hs h (by
   rw[Ra];rcases Rc.mp hh with q|q
   .exact RL _ q
   .exact QV _ (RL _ q))
  obtain⟨kvs',z',x',y',g',ih⟩:=BM hl rg rs (L++r) kvs1 (some (bZ t r)) x1 y1 g1 (by rw[Q2];simpa using hs);refine⟨kvs',z',x',y',by rw[Q2]at g';simpa using g',?_⟩;rw[<-ih];exact dO (r1:=[some rg,some (KD kvs),some (bZ t r),x,y]) rfl (ar ((dC (ds:=r.map (cr t)) rfl).trans h1))
theorem qm{t:Nat->Nat}{line:List Nat}{rs:List (List Nat)}(hl:line.length<=60)(hs:∀h∈rs.flatten,h∈line):∃kvs,GI t kvs rs.flatten/\iz [.lst (rs.map (bZ t))]=.ok (KD kvs):=by obtain⟨kvs',z',x',y',g',h⟩:=BM hl (.lst (rs.map (bZ t))) rs [] [] none none none ⟨by simp,fun _ hp=>(nomatch hp),fun h=>by simp⟩ (by simpa using hs);refine⟨kvs',by simpa using g',bp (B:=vZ) (n:=5) ?_⟩;unfold vZ;refine(ar (r':=[some (.lst (rs.map (bZ t))),some (KD []),none,none,none]) rfl).trans ?_;refine(ar ((dC (ds:=rs.map (bZ t)) rfl).trans h)).trans ?_;exact aU (bc (d:=KD kvs') rfl)
end
section
variable{rz:List (List Nat)}{owns:List (Option Nat)}
inductive Ch(rz:List (List Nat))(owns:List (Option Nat)):Rg.S->List (List (List Nat)×Rg.S)->Prop where
 |nil {s:Rg.S}:s.line=[]->Ch rz owns s []
 |cons {s:Rg.S} {rs:List (List Nat)} {l:List (List (List Nat)×Rg.S)}:s.line≠[]->rs.Perm (Rg.gy (Wr rz) (own owns) s)->Ch rz owns (Rg.minus (Wr rz) s rs.flatten) l->Ch rz owns s ((rs,s)::l)
abbrev cG(rz:List (List Nat))(p:List (List Nat)×Rg.S):D:=.lst (p.1.map (bZ (tS rz p.2)))
theorem qP{s:Rg.S}{rs:List (List Nat)}(hp:rs.Perm (Rg.gy (Wr rz) (own owns) s)):Rg.Cyc (Wr rz) (own owns) s rs.flatten:=Rg.De (fun h hh=>by obtain⟨r,h1,h2⟩:=RI.mp hh;exact⟨r,hp.mem_iff.mp h1,h2⟩) (fun r hr h hh=>RI.mpr ⟨r,hp.mem_iff.mpr hr,hh⟩)
theorem Snd.minus{s:Rg.S}(S:Snd rz owns s){C:List Nat}(c:Rg.Cyc (Wr rz) (own owns) s C):Snd rz owns (Rg.minus (Wr rz) s C) where
 ok:=Rg.kK S.ok c
 inr:=fun h hh=>S.inr h (l_.mp hh).1
 ino:=fun h hh=>S.ino h (l_.mp hh).1
 wid:=fun h hh=>S.wid h (l_.mp hh).1
 nl:=O_ (Rq _ _) S.nl
 nt:=O_ (Rq _ _) S.nt
theorem Mm{s:Rg.S}{C:List Nat}(c:Rg.Cyc (Wr rz) (own owns) s C)(hne:C≠[]):(Rg.minus (Wr rz) s C).line.length<s.line.length:=by obtain⟨x,hx⟩:=Rm _ hne;have:=Rg.rH (fun h=>decide (h∉C)) s.line;have h3:0<(s.line.filter fun h=>! decide (h∉C)).length:=R7 (l_.mpr ⟨c.sub x hx,by simpa using hx⟩);show(s.line.filter _).length<_;omega
theorem PB{s:Rg.S}{rs:List (List Nat)}(hp:rs.Perm (Rg.gy (Wr rz) (own owns) s))(hne:s.line≠[]):rs.flatten≠[]:=by obtain⟨x,hx⟩:=Rm _ (Rg.Cy (W:=Wr rz) (O:=own owns) hne);obtain⟨r,h1,h2⟩:=RI.mp hx;exact QW (RI.mpr ⟨r,hp.mem_iff.mpr h1,h2⟩)
theorem tj{kvs:List (Nat×Nat)}{L:List Nat}{t:Nat->Nat}(g:GI t kvs L)(h:Nat):cF (nD h) (KD kvs)=some (.bl (decide (h∉L))):=by
 show(some (cn _ (kI h))).map (fun b=>D.bl (! b))=_;have e:cn (kvs.map fun p=>(kI p.1,nD p.2)) (kI h)=decide (h∈kvs.map (·.1)):=pq kvs h;rw[e];have:decide (h∈kvs.map (·.1))=decide (h∈L):=by rw[decide_eq_decide];exact g.key h
 rw[this];show some (D.bl (! decide (h∈L)))=_;rw[decide_not]
theorem GI.vals{kvs:List (Nat×Nat)}{L:List Nat}{t:Nat->Nat}(g:GI t kvs L)(x:Nat):x∈kvs.map (·.2)↔x∈L.map t:=by
 constructor
 .intro hx;obtain⟨p,h1,rfl⟩:=r_.mp hx;exact r_.mpr ⟨p.1,(g.key _).mp (r_.mpr ⟨p,h1,rfl⟩),(g.val p h1).symm⟩
 .intro hx;obtain⟨h,h1,rfl⟩:=r_.mp hx;obtain⟨p,h2,rfl⟩:=r_.mp ((g.key h).mpr h1);exact r_.mpr ⟨p,h2,g.val p h2⟩
theorem AB{kvs:List (Nat×Nat)}{L:List Nat}{t:Nat->Nat}(g:GI t kvs L)(x:Nat):cF (nD x) (LN (kvs.map (·.2)))=some (.bl (decide (x∉L.map t))):=by rw[tX,decide_not];congr 3;rw[decide_eq_decide];exact g.vals x
theorem LI(od:D):∀(j:Nat)(s:Rg.S)(told:List D)(x y z:Option D),Snd rz owns s->s.line.length<j->told.length+s.line.length<=60 ->
  ∃(s':Rg.S)(l:List (List (List Nat)×Rg.S))(x' y' z':Option D),Ch rz owns s l/\l.length<=s.line.length /\
   dz gb Fu EV j [some (WD rz),some (OD owns),some od,some (LN s.line),some (LN s.things),some (.lst told),x,y,z]
    = .nx [some (WD rz),some (OD owns),some od,some (LN s'.line),some (LN s'.things),some (.lst (told++l.map (cG rz))),x',y',z']:=by
 intro j
 induction j with
|zero=>intro s told x y z _ h;omega
|succ j ih=>
  intro s told x y z S hj ht;by_cases hne:s.line=[]
  .refine⟨s,[],x,y,z,.nil hne,QX _,?_⟩;rw[R5,Q0];refine n0 (fK (d:=LN s.line) rfl ?_);rw[hne];rfl
  .obtain⟨rs,hp,hr⟩:=Ob S;have c:=qP hp;obtain⟨kvs,g,hg⟩:=qm (t:=tS rz s) S.nl c.sub;have hlt:=Mm c (PB hp hne);obtain⟨s',l,x',y',z',h1,h2,h3⟩:=ih (Rg.minus (Wr rz) s rs.flatten) (told++[cG rz (rs,s)]) (some (cG rz (rs,s))) (some (KD kvs)) (some (LN (kvs.map (·.2)))) (S.minus c) (by omega) (by simp;omega);refine⟨s',(rs,s)::l,x',y',z',.cons hne hp h1,by simp;omega,?_⟩;rw[Q2]at h3;rw[u_];refine Ws (n4 (fK (b:=true) (d:=LN s.line) rfl ?_) ?_) h3
   .cases q:s.line with
   |nil=>exact absurd q hne
   |cons a t=>rfl
   .refine(ar (aO (aK (aj (d:=WD rz) rfl (aj (d:=OD owns) rfl (aj (d:=LN s.line) rfl (aj (d:=LN s.things) rfl ap)))) hr))).trans ?_;refine(ar (aO (aK (aj (d:=.lst (rs.map (bZ (tS rz s)))) rfl ap) hg))).trans ?_;refine(ar (aO (d:=LN (kvs.map (·.2))) (Au (a:=KD kvs) rfl ?_))).trans ?_
    .rw[e_valsD,y_];show some (D.lst _)=some (D.lst ((kvs.map (·.2)).map nD));rw[y_];rfl
    refine(ar (aO (fX (l:=s.line) nD (fun h=>decide (h∉rs.flatten)) nD rfl (by have:=S.nl;omega) fun h hh=>⟨[some (nD h),some (KD kvs)],rfl,bD (au (a:=nD h) (b:=KD kvs) rfl rfl (tj g h)),fun _=>rfl⟩))).trans ?_;refine(ar (aO (fX (l:=s.things) nD (fun x=>decide (x∉rs.flatten.map (tS rz s))) nD rfl (by have:=S.nt;omega) fun h hh=>⟨[some (nD h),some (LN (kvs.map (·.2)))],rfl,bD (au (a:=nD h) (b:=LN (kvs.map (·.2))) rfl rfl (AB g h)),fun _=>rfl⟩))).trans ?_;refine(ar (hX (d:=.lst told) (ds:=[cG rz (rs,s)]) rfl rfl (aj (d:=cG rz (rs,s)) rfl ap) (kM (by omega)))).trans ?_;rfl
def cW:Option (List Nat)->D
|none=>.non
|some l=>LN l
def s0(rz:List (List Nat))(o:Option (List Nat)):Rg.S:=⟨o.getD (a_ rz.length),a_ (rz.headD []).length⟩
theorem Fo{o:Option (List Nat)}(ho:∀l,o=some l->l.Nodup/\(∀k∈l,k<rz.length)/\l.length=rz.length)(h8:rz.length<=60):jm [WD rz,cW o]=.ok (LN (s0 rz o).line):=by cases o with
|none=>exact P7 (by omega)
|some l=>obtain⟨h1,h2,h3⟩:=ho l rfl;exact Em h1 h2 h3 (by omega)
theorem xS{o:Option (List Nat)}(ho:∀l,o=some l->l.Nodup/\(∀k∈l,k<rz.length)/\l.length=rz.length)(hr:rz≠[])(h8:rz.length<=60)(S:Snd rz owns (s0 rz o)):∃l,Ch rz owns (s0 rz o) l/\l.length<=60/\jR [WD rz,OD owns,cW o]=.ok (.lst (l.map (cG rz))):=by obtain⟨s',l,x',y',z',h1,h2,h3⟩:=LI (rz:=rz) (owns:=owns) (cW o) 64 (s0 rz o) [] none none none S (by have:=S.nl;omega) (by have:=S.nl;simp;omega);refine⟨l,h1,by have:=S.nl;omega,bp (B:=qH) (n:=9) ?_⟩;unfold qH;cases rz with
|nil=>exact absurd rfl hr
|cons row rest=>refine(ar (aO (aK (aj (d:=WD (row::rest)) rfl (aj (d:=cW o) rfl ap)) (Fo ho h8)))).trans ?_;refine(ar (aO (d:=LN (s0 (row::rest) o).things) (bL (aj (aK (aj (d:=WD (row::rest)) rfl ap) rG) ap) (qx (by have:=S.nt;unfold s0 at this;simp at this;omega))))).trans ?_;refine(ar (aO (d:=.lst []) (hW ap (by simp)))).trans ?_;refine(ar h3).trans ?_;exact aU (bc (d:=.lst (l.map (cG (row::rest)))) rfl)
theorem Cp:∀(more kvs:List (Nat×Nat)),nO (kvs.map fun p=>(kI p.1,nD p.2)) (more.map fun p=>(kI p.1,nD p.2))=(more.foldl (fun acc p=>putN acc p.1 p.2) kvs).map fun p=>(kI p.1,nD p.2)
|[],kvs=>rfl
|p::more,kvs=>by have ih:=Cp more (putN kvs p.1 p.2);rw[So,<-ih,<-Bl];rfl
theorem DJ{t:Nat->Nat}:∀(more kvs:List (Nat×Nat))(L:List Nat),GI t kvs L->(∀p∈more,p.2=t p.1)->GI t (more.foldl (fun acc p=>putN acc p.1 p.2) kvs) (L++more.map (·.1))
|[],kvs,L,g,_=>by simpa using g
|p::more,kvs,L,g,h=>by have:=DJ more (putN kvs p.1 p.2) (L++[p.1]) (by rw[h p d_];exact g.put p.1) fun q hq=>h q (i_ _ hq);rw[Q2]at this;exact this
theorem Cc{a:Nat->Nat}{line:List Nat}(hl:line.length<=60)(od:D):∀(l:List (List (List Nat)×Rg.S))(L:List Nat)(kvs:List (Nat×Nat))(z:Option D),GI a kvs L->(∀h∈L,h∈line) ->(∀p∈l,∀h∈p.1.flatten,a h=tS rz p.2 h/\h∈line) ->∃kvs' z',GI a kvs' (L++l.flatMap fun p=>p.1.flatten)/\aG (aD 4) FU (l.map (cG rz)) [some (WD rz),some (OD owns),some od,some (KD kvs),z]=.nx [some (WD rz),some (OD owns),some od,some (KD kvs'),z']
|[],L,kvs,z,g,_,_=>⟨kvs,z,by simpa using g,d4⟩
|p::l,L,kvs,z,g,hL,hp=>by
  have h0:=hp p d_;obtain⟨more,g1,hg⟩:=qm (t:=tS rz p.2) (rs:=p.1) hl fun h hh=>(h0 h hh).2;have g2:=g1.congr (t':=a) fun x hx=>(h0 x hx).1;have g3:=(DJ more kvs L g g2.val).mem (M:=L++p.1.flatten) fun x=>by rw[Rc,Rc,g2.key]
  obtain⟨kvs',z',g',ih⟩:=Cc hl od l (L++p.1.flatten) _ (some (cG rz p)) g3 (fun h hh=>by
   rcases Rc.mp hh with q|q
   .exact hL h q
   .exact(h0 h q).2) fun q hq=>hp q (i_ _ hq)
  refine⟨kvs',z',by rw[Q2]at g';simpa using g',?_⟩;rw[<-ih];refine dO (r1:=[some (WD rz),some (OD owns),some od,some (KD kvs),some (cG rz p)]) rfl (ar (hX (d:=KD kvs) (ds:=[KD more]) rfl rfl (aj (aK (aj (d:=cG rz p) rfl ap) hg) ap) ?_));have l1:=g.len hL;have l2:=g1.len (line:=line) fun h hh=>(h0 h hh).2;show(if _ then some (D.dic (nO _ _))else none)=_;rw[if_pos (by rw[m_,m_,QZ];omega),Cp]
theorem KA{a:Nat->Nat}{s:Rg.S}{l:List (List (List Nat)×Rg.S)}(c:Ch rz owns s l):Rg.Ok (Wr rz) (own owns) s->Rg.TTC (Wr rz) (own owns) a s->(∀p∈l,∀h∈p.1.flatten,a h=tS rz p.2 h/\h∈s.line)/\∀h∈s.line,∃p∈l,h∈p.1.flatten:=by induction c with
|nil h0=>exact fun _ _=>⟨fun _ hp=>(nomatch hp),fun h hh=>by rw[h0]at hh;cases hh⟩
|@cons s rs l _ hp c ih=>
  intro k t;have cy:=qP hp;obtain⟨t1,t2⟩:=Rg.uP t k cy;obtain⟨i1,i2⟩:=ih (Rg.kK k cy) t1;refine⟨fun p hp' h hh=>?_,fun h hh=>?_⟩
  .rcases w_.mp hp' with rfl|q
   .exact⟨t2 h hh,cy.sub h hh⟩
   .exact⟨(i1 p q h hh).1,(l_.mp (i1 p q h hh).2).1⟩
  .by_cases hc:h∈rs.flatten
   .exact⟨(rs,s),d_,hc⟩
   .obtain⟨p,h1,h2⟩:=i2 h (l_.mpr ⟨hh,by simpa using hc⟩);exact⟨p,i_ _ h1,h2⟩
theorem PF{o:Option (List Nat)}{a:Nat->Nat}(ho:∀l,o=some l->l.Nodup/\(∀k∈l,k<rz.length)/\l.length=rz.length)(hr:rz≠[])(h8:rz.length<=60)(S:Snd rz owns (s0 rz o))(hall:∀h,h<rz.length->h∈(s0 rz o).line)(t:Rg.TTC (Wr rz) (own owns) a (s0 rz o)):kY [WD rz,OD owns,cW o]=.ok (TN ((a_ rz.length).map a)):=by
 obtain⟨l,hc,hl,hrun⟩:=xS ho hr h8 S;obtain⟨c1,c2⟩:=KA hc S.ok t;obtain⟨kvs',z',g,hloop⟩:=Cc (rz:=rz) (owns:=owns) (a:=a) S.nl (cW o) l [] [] none ⟨by simp,fun _ hp=>(nomatch hp),fun h=>by simp⟩ (fun _ hh=>(nomatch hh)) c1;refine bp (B:=rK) (n:=5) ?_;unfold rK;refine(ar (r':=[some (WD rz),some (OD owns),some (cW o),some (KD []),none]) rfl).trans ?_;refine(ar ((dC (ds:=l.map (cG rz)) (fW (aK (aj (d:=WD rz) rfl (aj (d:=OD owns) rfl (aj (d:=cW o) rfl ap))) hrun) rfl)).trans hloop)).trans ?_;refine aU (bc (aK (aj (d:=KD kvs') rfl ap) (yY g (n:=rz.length) (fun x=>?_) h8)));rw[Sr,List.mem_flatMap];constructor
 .rintro⟨p,h1,h2⟩
  exact S.inr x (c1 p h1 x h2).2
 .intro hx;obtain⟨p,h1,h2⟩:=c2 x (hall x hx);exact⟨p,h1,h2⟩
end
theorem qg{a b:Nat}(h:0<b):bH (nD a) (nD b)=some (nD (a%b)):=by rw[vJ (by omega:(0:Int)<(b:Int))];show some (D.int _)=some (D.int _);rw[Int.natCast_emod]
theorem vU{a b:Nat}(h:0<b)(h2:b<1000):jC (nD a) (nD b)=some (nD (a/b)):=by rw[MN (⟨by omega,by omega⟩:g6 (a:Int) (b:Int))];show some (D.int _)=some (D.int _);rw[Vb]
theorem lx(a b:Nat):addA (nD a) (nD b)=some (nD (a+b)):=by rw[addA_int];show some (D.int _)=some (D.int _);rw[VA]
section
variable{f f':FE}{r:ao}
theorem mG{b:Int}(h:∃i:Int,f r=.ok (.int i))(h':f' r=.ok (.int b))(hb:0<b):∃c:Nat,f2 f f' bH r=.ok (nD c):=by obtain⟨i,hi⟩:=h;refine⟨(i%b).toNat,au hi h' ?_⟩;rw[vJ hb];show some (D.int _)=some (D.int _);rw[Us (VD _ (by omega))]
theorem Gv(h:∃c:Nat,f r=.ok (nD c)):∃i:Int,f r=.ok (.int i):=let⟨c,e⟩:=h;⟨c,e⟩
theorem lz{b:Int}(h:∃i:Int,f r=.ok (.int i))(h':f' r=.ok (.int b))(hb : -(2^64)<b/\b<2^64):∃i:Int,f2 f f' cY r=.ok (.int i):=by obtain⟨i,hi⟩:=h;exact⟨i*b,au hi h' (Kh (.inr hb))⟩
theorem pK(h:∃i:Int,f r=.ok (.int i))(h':∃i:Int,f' r=.ok (.int i)):∃i:Int,f2 f f' addA r=.ok (.int i):=by obtain⟨i,hi⟩:=h;obtain⟨j,hj⟩:=h';exact⟨i+j,au hi hj rfl⟩
end
theorem As{m:List Md}{i:Nat}{f:FE}{s2:FS}{r:ao}(h:∃c:Nat,f r=.ok (nD c))(k:∀c:Nat,∃d:Nat,s2 (r.set i (some (nD c)))=.rt (nD d)):∃d:Nat,aa (al m i f) s2 r=.rt (nD d):=by obtain⟨c,hc⟩:=h;obtain⟨d,hd⟩:=k c;exact⟨d,(ar (aO hc)).trans hd⟩
abbrev IN(ns:List Int):D:=.lst (ns.map .int)
theorem mX(ns:List Int)(k:Nat)(hk:k<=1000):∃c:Nat,gM [IN ns,nD k]=.ok (nD c):=by
 suffices h:∃c:Nat,re (aS 4 [IN ns,nD k])=.rt (nD c)by obtain⟨c,hc⟩:=h;exact⟨c,bp (B:=re) (n:=4) hc⟩
 unfold re;have st:aa (al cx 2 (ci 0))=aa (al cx 2 (fun _=>Res.ok (nD 0))):=rfl;rw[st];refine As ⟨0,rfl⟩ fun c1=>?_;show ∃d:Nat,aa _ _ [some (IN ns),some (nD k),some (nD c1),none]=_;have key:∃c2:Nat,(cA cx (aV (f2 (gv 1) (fC (ai (gv 0) ae) lenD) iU)) (aa (al cx 2 (f2 (f2 (gv 0) (gv 1) aH) (f2 (ci 10) (ci 60) iR) bH)) ax) ax) [some (IN ns),some (nD k),some (nD c1),none]=.nx [some (IN ns),some (nD k),some (nD c2),none]:=by
  have t:=bD (au (f:=gv 1) (r:=[some (IN ns),some (nD k),some (nD c1),none]) (a:=nD k) rfl (bL (aj (f:=gv 0) (d:=IN ns) rfl ap) (kP _ _)) (pH k ns.length));by_cases hlt:k<ns.length
  .rw[decide_eq_true hlt]at t;have hx:(ns.map D.int)[k]? = some (.int ns[k]):=by rw[t_,b_ hlt];rfl
   have hp:iR (.int 10) (.int 60)=some (.int (10^60)):=by show jb g0 _ _ _=_;rw[intsC_int,if_pos (by unfold g0;decide)];rfl
   obtain⟨c2,h2⟩:=mG (f:=f2 (gv 0) (gv 1) aH) (f':=f2 (ci 10) (ci 60) iR) (r:=[some (IN ns),some (nD k),some (nD c1),none]) ⟨ns[k],au (a:=IN ns) (b:=nD k) rfl rfl (pQ hx)⟩ (au rfl rfl hp) (by decide);exact⟨c2,(dj t).trans ((ar (aO h2)).trans rfl)⟩
  .rw[decide_eq_false hlt]at t;exact⟨c1,(bz t).trans rfl⟩
 obtain⟨c2,h2⟩:=key;rw[ar h2];have kq:∃b,(eL (aV (f2 (fC (ai (gv 0) ae) lenD) (ci 0) lf)) (aV (f2 (f2 (f2 (gv 0) (ci 0) aH) (ci 2) bH) (ci 0) eqD))) [some (IN ns),some (nD k),some (nD c2),none]=.ok b:=by have t:=bD (au (f:=fC (ai (gv 0) ae) lenD) (f':=fun _=>Res.ok (D.int 0)) (r:=[some (IN ns),some (nD k),some (nD c2),none]) (b:=nD 0) (bL (aj (d:=IN ns) rfl ap) (kP _ _)) rfl (pO ns.length 0));cases ns with
 |nil=>exact⟨false,Ak t⟩
 |cons a ns=>rw[decide_eq_true (by simp)]at t;obtain⟨c3,h3⟩:=mG (f:=f2 (gv 0) (ci 0) aH) (f':=fun _=>Res.ok (D.int 2)) (r:=[some (IN (a::ns)),some (nD k),some (nD c2),none]) ⟨a,au (a:=IN (a::ns)) (b:=.int 0) rfl rfl (ixA_L0 _ _)⟩ rfl (by decide);exact⟨_,(tt t).trans (bD (au h3 (b:=nD 0) rfl (mE c3 0)))⟩
 obtain⟨b,hb⟩:=kq;cases b with
|true=>exact⟨c2,aU ((dj hb).trans (aU (bc (d:=nD c2) rfl)))⟩
|false=>rw[ar ((bz (s2:=ax) hb).trans (e_skip _))];refine As (mG (lz (Gv (mG (lz (pK (pK (pK ⟨(c2:Int),rfl⟩ (lz (b:=(k:Int)) (lz (b:=(k:Int)) ⟨7,rfl⟩ rfl (by omega)) rfl (by omega))) (lz (b:=(k:Int)) ⟨13,rfl⟩ rfl (by omega))) ⟨5,rfl⟩) rfl (by decide)) rfl (by decide))) rfl (by decide)) rfl (by decide)) fun c3=>?_;obtain⟨c4,h4⟩:=mG (f:=(f2 (f2 (f2 (f2 (gv 3) (ci 1) addA) (ci 40692) cY) (ci 2147483629) bH) (ci 39373) cY)) (f':=fun _=>Res.ok (D.int 999999937)) (r:=[some (IN ns),some (nD k),some (nD c2),some (nD c3)]) (lz (Gv (mG (lz (pK ⟨(c3:Int),rfl⟩ ⟨1,rfl⟩) rfl (by decide)) rfl (by decide))) rfl (by decide)) rfl (by decide);exact⟨c4,aU (bc h4)⟩
theorem MR{row:List Nat}{i:Int}{x:Nat}:cb (row.map nD) i (nD x)=(cb row i x).map nD:=by unfold cb;rw[m_,QL,u_,XY,XZ]
theorem NU{row:List Nat}{i:Int}{x:Nat}:(cb row i x).Perm (x::row):=by unfold cb;refine List.perm_middle.trans ?_;rw[Th]
theorem DS(m:Nat):∀(j i c:Nat)(row:List Nat)(x:Option D),row.Perm (a_ i)->i+j<=60 ->∃(c':Nat)(row':List Nat)(x':Option D),row'.Perm (a_ (i+j))/\aG (aD 3) FN ((VQ i j).map nD) [some (nD c),some (nD m),some (LN row),x]=.nx [some (nD c'),some (nD m),some (LN row'),x']
|0,i,c,row,x,hp,_=>⟨c,row,x,hp,d4⟩
|j+1,i,c,row,x,hp,hl=>by
  have hlen:row.length=i:=by rw[hp.length_eq];simp
  obtain⟨c',row',x',h1,h2⟩:=DS m j (i+1) (c/(i+1)) (cb row ((c%(i+1):Nat):Int) i) (some (nD i)) (by refine NU.trans ?_;rw[TD];exact(List.Perm.cons i hp).trans (List.perm_append_singleton i _).symm) (by omega);refine⟨c',row',x',by rw[show i+(j+1)=i+1+j by omega];exact h1,?_⟩;rw[<-h2];have hmod:c%(i+1)<i+1:=TM _ (by omega);refine dO (r1:=[some (nD c),some (nD m),some (LN row),some (nD i)]) rfl ?_;refine(ar (hX (d:=LN row) (ds:=[nD (c%(i+1)),nD i]) (d':=LN (cb row ((c%(i+1):Nat):Int) i)) rfl rfl (aj (au (a:=nD c) (b:=nD (i+1)) rfl (au (a:=nD i) (b:=nD 1) rfl rfl (lx i 1)) (qg (by omega))) (aj (d:=nD i) rfl ap)) ?_)).trans ?_
  .show(if _ then some (D.lst (cb _ _ _))else none)=_;rw[if_pos ⟨by rw[m_,QZ];omega,by omega,by omega⟩,MR]
  .exact ar (aO (d:=nD (c/(i+1))) (au (a:=nD c) (b:=nD (i+1)) rfl (au (a:=nD i) (b:=nD 1) rfl rfl (lx i 1)) (vU (by omega) (by omega))))
theorem qo(c m:Nat)(hm:m<=60):∃row:List Nat,row.Perm (a_ m)/\jT [nD c,nD m]=.ok (TN row):=by obtain⟨c',row',x',h1,h2⟩:=DS m m 0 c [] none (by simp) (by omega);rw[TZ]at h1;rw[<-Sw]at h2;refine⟨row',h1,bp (B:=xE) (n:=4) ?_⟩;unfold xE;refine(ar (aO (d:=LN []) (hW ap (by simp)))).trans ?_;refine(ar ((dC (ds:=(a_ m).map nD) (kN (aj (d:=nD m) rfl ap) (kJ (by omega)))).trans h2)).trans ?_;exact aU (bc (bL (aj (d:=LN row') rfl ap) rfl))
theorem Oz(ns:List Int)(at' n m:Nat)(ha:at'<=60)(hn:n<=60)(hm:m<=60):∃rz:List (List Nat),rz.length=n/\(∀row∈rz,row.Perm (a_ m))/\su [IN ns,nD at',nD n,nD m]=.ok (WD rz):=by
 have h:∀h:Nat,∃row:List Nat,h<=60->row.Perm (a_ m)/\∃c:Nat,gM [IN ns,nD (at'+h)]=.ok (nD c)/\jT [nD c,nD m]=.ok (TN row):=by
  intro h;by_cases hh:h<=60
  .obtain⟨c,hc⟩:=mX ns (at'+h) (by omega);obtain⟨row,h1,h2⟩:=qo c m hm;exact⟨row,fun _=>⟨h1,c,hc,h2⟩⟩
  .exact⟨[],fun z=>absurd z hh⟩
 obtain⟨g,hg⟩:=Classical.axiomOfChoice h;refine⟨(a_ n).map g,by simp,fun row hr=>?_,bp (B:=yz) (n:=4) ?_⟩
 .obtain⟨i,hi,rfl⟩:=r_.mp hr;exact(hg i (by have:=n_.mp hi;omega)).1
 .unfold yz;refine aU (bc (bL (aj (fX (l:=a_ n) nD (fun _=>true) (fun h=>TN (g h)) (kN (aj (d:=nD n) rfl ap) (kJ (by omega))) (by simp;omega) fun h hh=>⟨[some (nD h),some (nD m),some (IN ns),some (nD at')],rfl,rfl,fun _=>?_⟩) ap) ?_))
  .obtain⟨_,c,h1,h2⟩:=hg h (by have:=n_.mp hh;omega);exact aK (aj (aK (aj (d:=IN ns) rfl (aj (au (a:=nD at') (b:=nD h) rfl rfl (lx at' h)) ap)) h1) (aj (d:=nD m) rfl ap)) h2
  .rw[kQ,e_tupL];show some (D.tup _)=some (D.tup _);rw[y_];rfl
structure Own(owns:List (Option Nat))(m:Nat):Prop where
 lt:∀x,some x∈owns->x<m
 inj:∀h k x,own owns h=some x->own owns k=some x->h=k
theorem og{owns:List (Option Nat)}{h x:Nat}(e:own owns h=some x):some x∈owns/\h<owns.length:=by unfold own at e;cases q:owns[h]? with
|none=>rw[q]at e;cases e
|some o=>rw[q]at e;have:o=some x:=e;subst this;exact⟨RN q,(e_.mp q).1⟩
theorem CY{owns:List (Option Nat)}{o:Option Nat}{h:Nat}:own (owns++[o]) h=if h<owns.length then own owns h else if h=owns.length then o else none:=by
 unfold own;by_cases q:h<owns.length
 .rw[if_pos q,QJ q]
 .rw[if_neg q,Rj (by omega)];by_cases z:h=owns.length
  .subst z;simp
  .rw[if_neg z,z_ (by simp;omega)];rfl
theorem Own.app_none{owns:List (Option Nat)}{m:Nat}(w:Own owns m):Own (owns++[none]) m where
 lt:=fun x hx=>w.lt x (by simpa using hx)
 inj:=fun h k x h1 h2=>by
  rw[CY]at h1 h2;have f:∀h,(if h<owns.length then own owns h else if h=owns.length then none else none)=some x->own owns h=some x:=by
   intro h e;split at e
   .exact e
   .split at e <;> cases e
  exact w.inj h k x (f h h1) (f k h2)
theorem Own.app_some{owns:List (Option Nat)}{m t:Nat}(w:Own owns m)(ht:t<m)(hn:some t∉owns):Own (owns++[some t]) m where
 lt:=fun x hx=>by
  rcases Rc.mp hx with z|z
  .exact w.lt x z
  .simp at z;omega
 inj:=fun h k x h1 h2=>by
  rw[CY]at h1 h2;split at h1 <;> split at h2
  .exact w.inj h k x h1 h2
  .split at h2
   .cases h2;exact absurd (og h1).1 hn
   .cases h2
  .split at h1
   .cases h1;exact absurd (og h2).1 hn
   .cases h1
  .split at h1
   .split at h2
    .omega
    .cases h2
   .cases h1
theorem Aa(l:List (Option Nat))(k:Nat):(l.map oD).any (fun y=>eqs y (nD k))=decide (some k∈l):=by
 rw[Uw,N_,T_,decide_eq_true_iff];constructor
 .rintro⟨x,h1,h2⟩
  cases x with
 |none=>cases h2
 |some x=>have:(((x:Nat):Int)==(k:Int))=true:=h2;have:=TB.mp (Sn this);subst this;exact h1
 .intro h;exact⟨some k,h,by show(((k:Nat):Int)==(k:Int))=true;simp⟩
theorem GG(l:List (Option Nat)):(l.map oD).all bY=true:=by rw[R_];intro x hx;obtain⟨k,_,rfl⟩:=r_.mp hx;cases k <;> rfl
theorem GM(l:List (Option Nat))(k:Nat):gE (nD k) (.lst (l.map oD))=some (.bl (decide (some k∈l))):=by show(if bY (nD k)=true/\(l.map oD).all bY=true then some ((l.map oD).any fun y=>eqs y (nD k))else none).map D.bl=_;rw[if_pos ⟨rfl,GG l⟩,Aa];rfl
structure Scene(rz:List (List Nat))(owns:List (Option Nat))(o:Option (List Nat))(n m:Nat):Prop where
 n1:1<=n
 n7:n<=7
 nm:n<=m
 m8:m<=8
 rl:rz.length=n
 rp:∀row∈rz,row.Perm (a_ m)
 ow:Own owns m
 ol:owns.length=n
 op:∀l,o=some l->l.Perm (a_ n)
theorem Dj(n m:Nat)(hm:m<=60):∀(l:List Nat)(c:Nat)(owns:List (Option Nat))(x y:Option D),Own owns m->owns.length+l.length<=60 ->∃(c':Nat)(owns':List (Option Nat))(x' y':Option D),Own owns' m/\owns'.length=owns.length+l.length/\aG (aD 4) yC (l.map nD) [some (nD c),some (nD n),some (nD m),some (.lst (owns.map oD)),x,y]=.nx [some (nD c'),some (nD n),some (nD m),some (.lst (owns'.map oD)),x',y']
|[],c,owns,x,y,w,_=>⟨c,owns,x,y,w,rfl,d4⟩
|h::l,c,owns,x,y,w,hl=>by
  have hmod:c%(m+1)<m+1:=TM _ (by omega);have step:∃o,Own (owns++[o]) m/\yC [some (nD c),some (nD n),some (nD m),some (.lst (owns.map oD)),some (nD h),y]=.nx [some (nD (c/(m+1))),some (nD n),some (nD m),some (.lst ((owns++[o]).map oD)),some (nD h),some (nD (c%(m+1)))]:=by
   have t1:=bD (au (f:=gv 5) (f':=gv 2) (r:=[some (nD (c/(m+1))),some (nD n),some (nD m),some (.lst (owns.map oD)),some (nD h),some (nD (c%(m+1)))]) (a:=nD (c%(m+1))) (b:=nD m) rfl rfl (mE (c%(m+1)) m));have t2:=bD (au (f:=gv 5) (f':=gv 3) (r:=[some (nD (c/(m+1))),some (nD n),some (nD m),some (.lst (owns.map oD)),some (nD h),some (nD (c%(m+1)))]) (a:=nD (c%(m+1))) (b:=.lst (owns.map oD)) rfl rfl (GM owns (c%(m+1))));have pre:∀s2:FS,aa (al cV 5 (f2 (gv 0) (f2 (gv 2) (ci 1) addA) bH)) (aa (al cV 0 (f2 (gv 0) (f2 (gv 2) (ci 1) addA) jC)) s2) [some (nD c),some (nD n),some (nD m),some (.lst (owns.map oD)),some (nD h),y]=s2 [some (nD (c/(m+1))),some (nD n),some (nD m),some (.lst (owns.map oD)),some (nD h),some (nD (c%(m+1)))]:=by intro s2;refine(ar (aO (d:=nD (c%(m+1))) (au (a:=nD c) (b:=nD (m+1)) rfl (au (a:=nD m) (b:=nD 1) rfl rfl (lx m 1)) (qg (by omega))))).trans ?_;exact ar (aO (d:=nD (c/(m+1))) (au (a:=nD c) (b:=nD (m+1)) rfl (au (a:=nD m) (b:=nD 1) rfl rfl (lx m 1)) (vU (by omega) (by omega))))
   have hlo:(owns.map oD).length<=1000:=by rw[m_];omega
   by_cases q:c%(m+1)=m\/some (c%(m+1))∈owns
   .refine⟨none,w.app_none,(pre _).trans ((ar ((dj ?_).trans (ar (hX (d:=.lst (owns.map oD)) (ds:=[.non]) rfl rfl (aj (d:=.non) rfl ap) (kM hlo))))).trans ?_)⟩
    .by_cases z:c%(m+1)=m
     .rw[decide_eq_true z]at t1;exact pi t1
     .rw[decide_eq_false z]at t1;rw[decide_eq_true (q.resolve_left z)]at t2;exact(gm t1).trans t2
    .show Out.nx [_,_,_,some (D.lst (owns.map oD++[.non])),_,_]=_;rw[QL];rfl
   .have z1:¬ c%(m+1)=m:=fun z=>q (.inl z);have z2:some (c%(m+1))∉owns:=fun z=>q (.inr z);rw[decide_eq_false z1]at t1;rw[decide_eq_false z2]at t2;refine⟨some (c%(m+1)),w.app_some (by omega) z2,(pre _).trans ((ar ((bz ((gm t1).trans t2)).trans (ar (hX (d:=.lst (owns.map oD)) (ds:=[nD (c%(m+1))]) rfl rfl (aj (d:=nD (c%(m+1))) rfl ap) (kM hlo))))).trans ?_)⟩;show Out.nx [_,_,_,some (D.lst (owns.map oD++[nD (c%(m+1))])),_,_]=_;rw[QL];rfl
  obtain⟨o,w',hs⟩:=step;obtain⟨c',owns',x',y',h1,h2,h3⟩:=Dj n m hm l (c/(m+1)) (owns++[o]) (some (nD h)) (some (nD (c%(m+1)))) w' (by simp at hl ⊢;omega);refine⟨c',owns',x',y',h1,by rw[h2];simp;omega,?_⟩;rw[<-h3];exact dO (r1:=[some (nD c),some (nD n),some (nD m),some (.lst (owns.map oD)),some (nD h),y]) rfl hs
theorem Nf(c n m:Nat)(hn:n<=60)(hm:m<=60):∃owns:List (Option Nat),Own owns m/\owns.length=n/\rh [nD c,nD n,nD m]=.ok (OD owns):=by obtain⟨c',owns',x',y',h1,h2,h3⟩:=Dj n m hm (a_ n) c [] none none ⟨fun x hx=>(nomatch hx),fun h k x e=>by unfold own at e;simp at e⟩ (by simp;omega);refine⟨owns',h1,by rw[h2];simp,bp (B:=yp) (n:=6) ?_⟩;unfold yp;refine(ar (aO (d:=.lst []) (hW ap (by simp)))).trans ?_;refine(ar ((dC (ds:=(a_ n).map nD) (kN (aj (d:=nD n) rfl ap) (kJ (by omega)))).trans h3)).trans ?_;exact aU (bc (bL (aj (d:=.lst (owns'.map oD)) rfl ap) rfl))
end Law
namespace Law
open PySem PyProof.Rows L2 DL
theorem Ar(a b:Nat):eqs (nD a) (nD b)=decide (a=b):=by show(((a:Nat):Int)==(b:Int))=_;rw[N_,beq_iff_eq,decide_eq_true_iff];exact TB
theorem vV(k:Nat):∀l:List Nat,k∈l->gI (nD k) (l.map nD)=some (l.idxOf k)
|[],h=>by cases h
|a::l,h=>by
  show(if eqs (nD a) (nD k)=true then some 0 else(gI (nD k) (l.map nD)).map (· + 1))=_;rw[Ar];by_cases e:a=k
  .rw[if_pos (by simpa using e)];subst e;simp
  .rw[if_neg (by simpa using e),vV k l ((w_.mp h).resolve_left fun z=>e z.symm)];have hf:(a==k)=false:=by simpa using e
   rw[WY,hf];rfl
theorem Ct(k:Nat):∀l:List Nat,(l.map nD).eraseIdx (l.idxOf k)=(l.erase k).map nD
|[]=>rfl
|a::l=>by
  by_cases e:a=k
  .subst e;simp
  .rw[WY,VN (by simpa using e)];have:(a==k)=false:=by simpa using e
   rw[this];show nD a::(l.map nD).eraseIdx (l.idxOf k)=_;rw[Ct k l];rfl
theorem JP{k:Nat}{l:List Nat}(h:k∈l):remD (LN l) [nD k]=some (LN (l.erase k)):=by show(if (l.map nD).all isInt=true then(gI (nD k) (l.map nD)).map fun j=>D.lst ((l.map nD).eraseIdx j)else none)=_;rw[if_pos (by rw[R_];intro x hx;obtain⟨y,_,rfl⟩:=r_.mp hx;rfl),vV k l h];show some (D.lst _)=some (D.lst _);rw[Ct]
theorem pL{T:String}{fo:FE}{fl:ao->Res (List D)}{k:D->List D->Option D}{r:ao}{d d':D}{ds:List D}(h1:fo r=.ok d)(ht:sM T d=true)(h2:fl r=.ok ds)(h3:k d ds=some d'):fM T fo fl k r=.ok d':=by unfold fM;rw[h1,bind_ok,if_pos ht,h2,bind_ok,h3];rfl
section
variable{rz:List (List Nat)}{owns:List (Option Nat)}{o:Option (List Nat)}{n m:Nat}
theorem Scene.ne(S:Scene rz owns o n m):rz≠[]:=by
 rintro rfl
 have:=S.rl;have:=S.n1;simp at *;omega
theorem Scene.row(S:Scene rz owns o n m){h:Nat}(hh:h<n):(Wr rz h).Perm (a_ m):=by unfold Wr;rw[b_ (by rw[S.rl];exact hh)];exact S.rp _ (QS _)
theorem Scene.row0(S:Scene rz owns o n m):(rz.headD []).length=m:=by cases rz with
|nil=>exact absurd rfl S.ne
|cons r t=>rw[List.headD_cons,(S.rp r d_).length_eq];simp
theorem Scene.line_perm(S:Scene rz owns o n m):(s0 rz o).line.Perm (a_ n):=by unfold s0;cases o with
|none=>rw[S.rl];exact List.Perm.refl _
|some l=>exact S.op l rfl
theorem Scene.mem(S:Scene rz owns o n m){h:Nat}:h∈(s0 rz o).line↔h<n:=by rw[S.line_perm.mem_iff];exact n_
theorem Scene.things(S:Scene rz owns o n m):(s0 rz o).things=a_ m:=by unfold s0;rw[S.row0]
theorem Scene.ok(S:Scene rz owns o n m):Rg.Ok (Wr rz) (own owns) (s0 rz o) where
 nl:=S.line_perm.nodup_iff.mpr QU
 nt:=by rw[S.things];exact QU
 le:=by rw[S.things,S.line_perm.length_eq];simp;exact S.nm
 row:=fun h hh x hx=>by rw[S.things]at hx;exact(S.row (S.mem.mp hh)).mem_iff.mpr hx
 inj:=S.ow.inj
 own:=fun h hh x hx=>by rw[S.things];exact n_.mpr (S.ow.lt x (og hx).1)
theorem Scene.snd(S:Scene rz owns o n m):Snd rz owns (s0 rz o) where
 ok:=S.ok
 inr:=fun h hh=>by rw[S.rl];exact S.mem.mp hh
 ino:=fun h hh=>by rw[S.ol];exact S.mem.mp hh
 wid:=fun h hh=>by have:=(S.row (S.mem.mp hh)).length_eq;have:=S.m8;simp at *;omega
 nl:=by have:=S.line_perm.length_eq;have:=S.n7;simp at *;omega
 nt:=by rw[S.things];have:=S.m8;simp;omega
theorem Scene.ord(S:Scene rz owns o n m):∀l,o=some l->l.Nodup/\(∀k∈l,k<rz.length)/\l.length=rz.length:=by
 intro l hl;have p:=S.op l hl;refine⟨p.nodup_iff.mpr QU,fun k hk=>?_,?_⟩
 .rw[S.rl];exact n_.mp (p.mem_iff.mp hk)
 .rw[p.length_eq,S.rl];simp
theorem B0{mm:List Md}{f:FE}{ft:FT}{r r':ao}{d:D}(h:f r=.ok d)(h2:ft d r=some r'):iY mm f ft r=.nx r':=by unfold iY;rw[h,onE_ok];simp only[h2]
end
theorem wT:∀l l':List Nat,Rt (zc9 (l.map nD)) (zc9 (l'.map nD))=decide (l=l')
|[],[]=>by simp[zc9,Rt]
|[],k::l=>by simp[zc9,Rt]
|k::l,[]=>by simp[zc9,Rt]
|k::l,k'::l'=>by have ih:=wT l l';simp only[u_,zc9,bb,Rt,TK,ih];rw[N_];simp;omega
theorem tF{l:List Nat}{k:Nat}:∀d∈l.map nD,bQ k d:=by intro d hd;obtain⟨x,_,rfl⟩:=r_.mp hd;cases k <;> trivial
theorem HC(l l':List Nat):fA (TN l) (TN l')=some (decide (l=l')):=by rw[qL rfl (jO.mpr tF) (jO.mpr tF)];unfold ke;simp only[bb,TK,wT]
theorem GD(l:List Nat):fA (TN l) (TN l)=some true:=by rw[HC,decide_eq_true rfl]
theorem tf(l:List Nat):neD (TN l) (TN l)=some (.bl false):=by unfold neD;rw[GD];rfl
theorem DE{k:Nat}{l:List Nat}(h:k∈l):qv (LN l) [nD k]=some (nD (l.idxOf k)):=by show(if bY (nD k)=true/\(l.map nD).all bY=true then(gI (nD k) (l.map nD)).map fun j=>D.int j else none)=_;rw[if_pos ⟨rfl,pM l⟩,vV k l h];rfl
theorem vB{l:List Nat}{i:Nat}(h:i<=l.length):o6 (LN l) (some (i:Int)) none=some (LN (l.drop i)):=by show some (D.lst (dX (l.map nD) (some (i:Int)) none))=_;unfold dX;rw[HT.gB,HT.eY,m_,Nat.min_eq_left h];rw[Vr (by simp)];show some (D.lst _)=some (D.lst ((l.drop i).map nD));rw[XZ]
theorem mV{f:FE}{r:ao}{i:Int}(h:f r=.ok (.int i)):jB f r=.ok (some i):=by unfold jB;rw[h];rfl
theorem mz{fa:FE}{fl fh:FP}{r:ao}{d d':D}{lo hi:Option Int}(h1:fa r=.ok d)(h2:fl r=.ok lo)(h3:fh r=.ok hi)(h4:o6 d lo hi=some d'):js fa fl fh r=.ok d':=by unfold js;rw[h1,bind_ok,h2,bind_ok,h3,bind_ok,h4];rfl
theorem HU{f f':FE}{r:ao}(h:f r=.ok (.bl true)):lN f f' r=.ok (.bl true):=by unfold lN;rw[h];rfl
theorem HS{f f':FE}{r:ao}(h:f r=.ok (.bl false)):lN f f' r=f' r:=by unfold lN;rw[h];rfl
theorem qk{ds:List D}{i:Nat}{v:D}(h:i<ds.length):dD (.lst ds) (nD i) v=some (.lst (ds.set i v)):=by show(gC ds.length (i:Int)).map _=_;unfold gC;rw[if_pos (S9 i),if_pos (by omega)];simp
theorem iA{nl:Nat}{cap:List Nat}{fi:FI}{ft:FT}{fe:FE}{r:ao}{α:Type}{l:List α}(e:α->D)(g:α->D)(h1:fi r=.ok (l.map e))(hl:l.length<=1000)(h:∀a∈l,∃r1,ft (e a) (bA nl cap r)=some r1/\fe r1=.ok (g a)):cg nl cap fi ft (fun _=>Res.ok true) fe r=.ok (.lst (l.map g)):=by
 have:=fX (q:=fun _=>Res.ok true) e (fun _=>true) g h1 hl fun a ha=>by obtain⟨r1,q1,q2⟩:=h a ha;exact⟨r1,q1,rfl,fun _=>q2⟩
 rw[this,kQ]
end Law
namespace Law
open PySem L2 DL
theorem AQ(l:List Nat)(i:Nat):o6 (LN l) none (some (i:Int))=some (LN (l.take i)):=by show some (D.lst (dX (l.map nD) none (some (i:Int))))=_;unfold dX;rw[HT.gB,HT.eY,m_,T1,Nat.sub_zero,<-XY];show some (D.lst _)=some (D.lst ((l.take i).map nD));rw[List.take_eq_take_iff.mpr (by omega:min (min i l.length) l.length=min i l.length)]
theorem BZ{a b:List Nat}(h:a.length+b.length<=1000):addE (LN a) (LN b)=some (LN (a++b)):=by show addA (LN a) (LN b)=_;show(if (a.map nD).length+(b.map nD).length<=sizeLine then some (D.lst (a.map nD++b.map nD))else none)=_;rw[if_pos (by rw[m_,m_,QZ];omega),<-QL]
abbrev j4(l:List Nat):List Nat:=l.drop 1++l.take 1
theorem Oq{l:List Nat}(h1:1<=l.length)(hl:l.length<=900):sw [LN l]=.ok (LN (j4 l)):=by refine bp (B:=yB) (n:=1) ?_;unfold yB;exact aU (bc (au (mz (d:=LN l) rfl (mV (i:=((1:Nat):Int)) rfl) rfl (vB h1)) (mz (d:=LN l) rfl rfl (mV (i:=((1:Nat):Int)) rfl) (AQ l 1)) (BZ (by simp;omega))))
theorem Dm:∀l:List Nat,fH (l.map nD)=some (l.map fun k:Nat=>(k:Int))
|[]=>rfl
|k::l=>by show(fH (l.map nD)).map _=_;rw[Dm l];rfl
theorem K2{l:List Nat}(h:l≠[]):∃k∈l,(∀x∈l,k<=x)/\mJ [LN l]=some (nD k):=by cases l with
|nil=>exact absurd rfl h
|cons a l=>
  have e:mJ [LN (a::l)]=some (.int (fq ((a::l).map fun k:Nat=>(k:Int)))):=by show(fH ((a::l).map nD)).map _=_;rw[Dm];rfl
  have hm:=Ml (ks:=(a::l).map fun k:Nat=>(k:Int)) (by simp);obtain⟨k,k1,k2⟩:=r_.mp hm;refine⟨k,k1,fun x hx=>?_,by rw[e,<-k2]⟩;have:=Kg (ks:=(a::l).map fun k:Nat=>(k:Int)) (r_.mpr ⟨x,hx,rfl⟩);rw[<-k2]at this;exact Int.ofNat_le.mp this
theorem vM{A:List Nat}{i j:Nat}(hi:i<=A.length)(hj:j<A.length):(A.drop i++A.take i)[j]? = A[(i+j)%A.length]?:=by
 by_cases h:j<A.length-i
 .rw[QJ (by rw[Q5];exact h),Sf,Vg (by omega)]
 .rw[Rj (by rw[Q5];omega),Q5,RJ,if_pos (by omega)];congr 1;have:i+j=(i+j-A.length)+A.length:=by omega
  rw[this,Nat.add_mod_right,Vg (by omega)];omega
theorem Mb{A:List Nat}{i:Nat}(hi:i<A.length){j h l:Nat}(hz:((A.drop i++A.take i).zip (j4 (A.drop i++A.take i)))[j]? = some (h,l)):∃k,A[k]? = some h/\A[(k+1)%A.length]? = some l:=by
 have hl:(A.drop i++A.take i).length=A.length:=by rw[L_,Q5,Rf];omega
 have hj:j<A.length:=by have:=(e_.mp hz).1;rw[WZ]at this;omega
 rw[List.getElem?_zip_eq_some]at hz;obtain⟨z1,z2⟩:=hz;rw[vM (by omega) hj]at z1;rw[vM (by omega) (by omega),hl,vM (by omega) (TM _ (by omega))]at z2;refine⟨(i+j)%A.length,z1,?_⟩;rw[Nat.add_mod_mod]at z2;rw[Nat.mod_add_mod,show i+j+1=i+(1+j)by omega];exact z2
theorem DA:∀(l r:List Nat),S4 (fun a b=>D.tup [a,b]) (l.map nD) (r.map nD)=(l.zip r).map fun p=>D.tup [nD p.1,nD p.2]
|[],_=>rfl
|_::_,[]=>rfl
|a::l,b::r=>by show D.tup [nD a,nD b]::S4 _ (l.map nD) (r.map nD)=_;rw[DA l r];rfl
theorem Cu{fa fb:FE}{r:ao}{d e:D}{ds es:List D}(h1:fa r=.ok d)(h2:fb r=.ok e)(h3:bv d=some ds)(h4:bv e=some es):iW fa fb r=.ok (S4 (fun a b=>D.tup [a,b]) ds es):=by unfold iW;rw[h1,bind_ok,h2,bind_ok,h3,opt_some,bind_ok,h4,opt_some,bind_ok]
theorem Pn{owns:List (Option Nat)}{A:List Nat}{t:Nat->Nat}(hA:A≠[])(hl:A.length<=60)(ho:∀h∈A,h<owns.length)(hn:∀i h l,A[i]? = some h->A[(i+1)%A.length]? = some l->own owns l=some (t h)):∃k,k∈A/\(∀x∈A,k<=x)/\sE [OD owns,LN A]=.ok (bZ t (A.drop (A.idxOf k)++A.take (A.idxOf k))):=by
 obtain⟨k,k1,k2,k3⟩:=K2 hA;have hi:=R8 k1;refine⟨k,k1,k2,bp (B:=zi) (n:=4) ?_⟩;generalize hi':A.idxOf k=i at hi;have hlen:(A.drop i++A.take i).length=A.length:=by rw[L_,Q5,Rf];omega
 have hpos:=Rh.mpr hA;unfold zi;refine(ar (aO (d:=nD i) (pL (d:=LN A) rfl rfl (aj (bL (aj (d:=LN A) rfl ap) k3) ap) (by rw[DE k1,hi'])))).trans ?_;refine(ar (aO (au (mz (d:=LN A) rfl (mV (i:=(i:Int)) rfl) rfl (vB (by omega))) (mz (d:=LN A) rfl rfl (mV (i:=(i:Int)) rfl) (AQ A i)) (BZ (by simp;omega))))).trans ?_;have hm:∀p∈(A.drop i++A.take i).zip (j4 (A.drop i++A.take i)),p.2∈A/\own owns p.2=some (t p.1):=fun p hp=>by obtain⟨j,hj⟩:=Su hp;obtain⟨q,q1,q2⟩:=Mb hi (h:=p.1) (l:=p.2) hj;exact⟨RN q2,hn q p.1 p.2 q1 q2⟩
 refine aU (bc (bL (aj (fX (l:=(A.drop i++A.take i).zip (j4 (A.drop i++A.take i))) (fun p=>D.tup [nD p.1,nD p.2]) (fun _=>true) (fun p=>cr t p.1) ?_ ?_ fun p hp=>⟨[some (nD p.1),some (nD p.2),some (OD owns)],rfl,rfl,fun _=>?_⟩) ap) ?_))
 .rw[<-DA];exact Cu (d:=LN (A.drop i++A.take i)) rfl (aK (aj (d:=LN (A.drop i++A.take i)) rfl ap) (Oq (by omega) (by omega))) rfl rfl
 .rw[WZ];omega
 .obtain⟨p1,p2⟩:=hm p hp;have:=Bf (ho p.2 p1);rw[p2]at this;exact fV (aj (d:=nD p.1) rfl (aj (au (a:=OD owns) (b:=nD p.2) rfl rfl (dw this)) ap)) (by simp)
 .rw[kQ,e_tupL];show some (D.tup _)=some (D.tup _);congr 2;rw[show(fun p:Nat×Nat=>cr t p.1)=cr t∘Prod.fst from rfl,<-y_];congr 1;rw[List.map_fst_zip];simp;omega
theorem Mc{A:List Nat}{z:Nat}(h:A[A.length-1]? = some z):aH (LN A) (.int (-1))=some (nD z):=by have hl:A.length-1<A.length:=(e_.mp h).1;show eS (A.map nD) (-1)=some (nD z);unfold eS gC;rw[if_neg (by omega),if_pos (by rw[m_];omega),m_];show(A.map nD)[(-1+(A.length:Int)).toNat]? = _;rw[show(-1+(A.length:Int)).toNat=A.length-1 by omega,t_,h];rfl
section
variable{rz:List (List Nat)}{owns:List (Option Nat)}{s:Rg.S}{A:List Nat}{z:Nat}
abbrev g9(owns:List (Option Nat))(s:Rg.S)(x:Nat):Option Nat:=s.line.find? fun h=>decide (own owns h=some x)
theorem wB(S:Snd rz owns s)(hz:A[A.length-1]? = some z)(hm:z∈s.line)(s2:FS):(aa (al cN 5 (f2 (gv 4) (f1 (ci 1) iT) aH)) (aa (al cN 6 (aC (ai (f2 (gv 0) (gv 5) aH) (ai (gv 3) ae)) [] fN)) (aa (al cN 7 (aC (ai (gv 1) (ai (gv 2) (ai (gv 6) ae))) [] lK)) s2))) [some (WD rz),some (OD owns),some (LN s.line),some (LN s.things),some (LN A),none,none,none]
  = s2 [some (WD rz),some (OD owns),some (LN s.line),some (LN s.things),some (LN A),some (nD z),some (nD (tS rz s z)),some (oD (g9 owns s (tS rz s z)))]:=by refine(ar (aO (d:=nD z) (au (a:=LN A) (b:=.int (-1)) rfl rfl (Mc hz)))).trans ?_;refine(ar (aO (aK (aj (au (a:=WD rz) (b:=nD z) rfl rfl (dw (qj (S.inr z hm)))) (aj (d:=LN s.things) rfl ap)) (S.tg hm)))).trans ?_;exact ar (aO (aK (aj (d:=OD owns) rfl (aj (d:=LN s.line) rfl (aj (d:=nD (tS rz s z)) rfl ap))) (En S.ino)))
abbrev sP(rz:List (List Nat))(owns:List (Option Nat))(s:Rg.S)(A:List Nat)(z:Nat):ao:=[some (WD rz),some (OD owns),some (LN s.line),some (LN s.things),some (LN A),some (nD z),some (nD (tS rz s z)),some (oD (g9 owns s (tS rz s z)))]
theorem AS(S:Snd rz owns s):(aV (f2 (gv 7) (fun _=>Res.ok D.non) jr)) (sP rz owns s A z)=.ok (decide (g9 owns s (tS rz s z)=none)):=bD (au rfl rfl (AH _))
theorem AT(S:Snd rz owns s):(aV (f2 (gv 7) (gv 5) eqD)) (sP rz owns s A z)=.ok (decide (g9 owns s (tS rz s z)=some z)):=bD (au rfl (b:=nD z) rfl (Ap _ _))
theorem F8(S:Snd rz owns s)(hz:A[A.length-1]? = some z)(hm:z∈s.line)(h:g9 owns s (tS rz s z)=none\/g9 owns s (tS rz s z)=some z):jn [WD rz,OD owns,LN s.line,LN s.things,LN A]=.ok (.tup [.str "takes",nD z,nD (tS rz s z)]):=by
 refine bp (B:=lL) (n:=8) ?_;unfold lL;refine(wB S hz hm _).trans ?_;have t1:=AS (A:=A) (z:=z) S;have t2:=AT (A:=A) (z:=z) S;refine aU ((dj ?_).trans (aU (bc (fV (aj (d:=.str "takes") rfl (aj (d:=nD z) rfl (aj (d:=nD (tS rz s z)) rfl ap))) (by simp)))));rcases h with h|h
 .rw[decide_eq_true h]at t1;exact pi t1
 .rw[decide_eq_false (by rw[h];simp)]at t1;rw[decide_eq_true h]at t2;exact(gm t1).trans t2
theorem EM(S:Snd rz owns s){l:Nat}(h:g9 owns s (tS rz s z)=some l)(hl:l≠z)(s2:FS):(aa (cA cN (gS (aV (f2 (gv 7) (fun _=>Res.ok D.non) jr)) (aV (f2 (gv 7) (gv 5) eqD))) (aa (aw cN (d6 (ai (fun _=>Res.ok (D.str "takes")) (ai (gv 5) (ai (gv 6) ae))))) ax) ax) s2) (sP rz owns s A z)=s2 (sP rz owns s A z):=by have t1:=AS (A:=A) (z:=z) S;have t2:=AT (A:=A) (z:=z) S;rw[decide_eq_false (by rw[h];simp)]at t1;rw[decide_eq_false (by rw[h];simpa using hl)]at t2;exact ar ((bz ((gm t1).trans t2)).trans (e_skip _))
theorem P6(S:Snd rz owns s)(hz:A[A.length-1]? = some z)(hm:z∈s.line){l:Nat}(h:g9 owns s (tS rz s z)=some l)(hl:l≠z)(hn:l∉A):jn [WD rz,OD owns,LN s.line,LN s.things,LN A]=.ok (.tup [.str "ahead",nD l,nD (tS rz s z)]):=by refine bp (B:=lL) (n:=8) ?_;unfold lL;refine(wB S hz hm _).trans ((EM S h hl _).trans ?_);show aa _ _ [some (WD rz),some (OD owns),some (LN s.line),some (LN s.things),some (LN A),some (nD z),some (nD (tS rz s z)),some (oD (g9 owns s (tS rz s z)))]=_;rw[h];have t3:=bD (au (f:=gv 7) (f':=gv 4) (r:=[some (WD rz),some (OD owns),some (LN s.line),some (LN s.things),some (LN A),some (nD z),some (nD (tS rz s z)),some (nD l)]) (a:=nD l) (b:=LN A) rfl rfl (tX A l));rw[decide_eq_false hn]at t3;exact aU ((dj t3).trans (aU (bc (fV (aj (d:=.str "ahead") rfl (aj (d:=nD l) rfl (aj (d:=nD (tS rz s z)) rfl ap))) (by simp)))))
theorem OQ(S:Snd rz owns s)(c:Rg.Chain (Wr rz) (own owns) s A)(hz:A[A.length-1]? = some z){i l:Nat}(hi:A[i]? = some l)(hO:own owns l=some (tS rz s z)):∀j h k,(A.drop i)[j]? = some h->(A.drop i)[(j+1)%(A.drop i).length]? = some k->own owns k=some (tS rz s h):=by
 intro j h k e1 e2;have hil:i<A.length:=(e_.mp hi).1;have hj:=(e_.mp e1).1;rw[Q5]at hj e2;rw[Sf]at e1;by_cases q:j+1<A.length-i
 .rw[Vg q,Sf]at e2;exact c.nx (i+j) h k e1 (by rw[show i+j+1=i+(j+1)by omega];exact e2)
 .have:j+1=A.length-i:=by omega
  rw[this,Nat.mod_self,Sf,Wo,hi]at e2;cases e2;have:i+j=A.length-1:=by omega
  rw[this,hz]at e1;cases e1;exact hO
theorem PJ(S:Snd rz owns s)(c:Rg.Chain (Wr rz) (own owns) s A)(hz:A[A.length-1]? = some z){i l:Nat}(h:g9 owns s (tS rz s z)=some l)(hl:l≠z)(hi:A.idxOf l=i)(hm:l∈A)(h60:A.length<=60):∃k,k∈A.drop i/\jn [WD rz,OD owns,LN s.line,LN s.things,LN A]=.ok (.tup [.str "ring",bZ (tS rz s) ((A.drop i).drop ((A.drop i).idxOf k)++(A.drop i).take ((A.drop i).idxOf k))]):=by
 have hil:i<A.length:=by rw[<-hi];exact R8 hm
 have hil':A[i]? = some l:=by rw[b_ hil];congr 1;have:=UR (R8 hm);subst hi;exact this
 have hO:own owns l=some (tS rz s z):=by have:=S_ h;simpa using this
 obtain⟨k,k1,_,k2⟩:=Pn (owns:=owns) (A:=A.drop i) (t:=tS rz s) (List.ne_nil_of_length_pos (by rw[Q5];omega)) (by rw[Q5];omega) (fun h hh=>S.ino h (c.sub h (Ui hh))) (OQ S c hz hil' hO);refine⟨k,k1,bp (B:=lL) (n:=8) ?_⟩;unfold lL;refine(wB S hz (c.sub z (c.at hz)) _).trans ((EM S h hl _).trans ?_);show aa _ _ [some (WD rz),some (OD owns),some (LN s.line),some (LN s.things),some (LN A),some (nD z),some (nD (tS rz s z)),some (oD (g9 owns s (tS rz s z)))]=_;rw[h];have t3:=bD (au (f:=gv 7) (f':=gv 4) (r:=[some (WD rz),some (OD owns),some (LN s.line),some (LN s.things),some (LN A),some (nD z),some (nD (tS rz s z)),some (nD l)]) (a:=nD l) (b:=LN A) rfl rfl (tX A l));rw[decide_eq_true hm]at t3;refine(ar ((bz t3).trans (e_skip _))).trans ?_;refine aU (bc (fV (aj (d:=.str "ring") rfl (aj (aK (aj (d:=OD owns) rfl (aj (d:=LN (A.drop i)) (mz (d:=LN A) rfl (mV (i:=(i:Int)) (pL (d:=LN A) rfl rfl (aj (d:=nD l) rfl ap) (by rw[DE hm,hi]))) rfl (vB (by omega))) ap)) k2) ap)) (by simp)))
inductive Dd where
 |tk (h:Nat)|ah (h x:Nat)|rg (r:List Nat)
def Dd.hands:Dd->List Nat
|.tk h=>[h]
|.ah _ _=>[]
|.rg r=>r
def cI(a:Nat->Nat):Dd->D
|.tk h=>.tup [.str "takes",nD h,nD (a h)]
|.ah h x=>.tup [.str "ahead",nD h,nD x]
|.rg r=>.tup [.str "ring",bZ a r]
theorem Eo(a:Nat->Nat)(d:Dd):na [cI a d]=.ok (bZ a d.hands):=by refine bp (B:=xJ) (n:=1) ?_;unfold xJ;cases d with
|tk h=>refine(ar ((bz (bD (au (a:=.str "takes") (b:=.str "ahead") (au (a:=cI a (.tk h)) (b:=.int 0) rfl rfl (ixA_T0 _ _)) rfl (d:=.bl false) (by unfold eqD;rw[eqB_str];rfl)))).trans (e_skip _))).trans ?_;refine aU (bc ((tu (bD (au (a:=.str "takes") (b:=.str "ring") (au (a:=cI a (.tk h)) (b:=.int 0) rfl rfl (ixA_T0 _ _)) rfl (d:=.bl false) (by unfold eqD;rw[eqB_str];rfl)))).trans ?_));exact fV (aj (mz (d:=cI a (.tk h)) (d':=.tup [nD h,nD (a h)]) rfl (mV (i:=1) rfl) rfl rfl) ap) (by simp[Dd.hands])
|ah h x=>exact aU ((dj (bD (au (a:=.str "ahead") (b:=.str "ahead") (au (a:=cI a (.ah h x)) (b:=.int 0) rfl rfl (ixA_T0 _ _)) rfl (d:=.bl true) (by unfold eqD;rw[eqB_str];rfl)))).trans (aU (bc (fV ap (by simp[Dd.hands])))))
|rg r=>refine(ar ((bz (bD (au (a:=.str "ring") (b:=.str "ahead") (au (a:=cI a (.rg r)) (b:=.int 0) rfl rfl (ixA_T0 _ _)) rfl (d:=.bl false) (by unfold eqD;rw[eqB_str];rfl)))).trans (e_skip _))).trans ?_;refine aU (bc ((tv (bD (au (a:=.str "ring") (b:=.str "ring") (au (a:=cI a (.rg r)) (b:=.int 0) rfl rfl (ixA_T0 _ _)) rfl (d:=.bl true) (by unfold eqD;rw[eqB_str];rfl)))).trans ?_));exact au (a:=cI a (.rg r)) (b:=nD 1) rfl rfl (dw rfl)
theorem Fc{A:List Nat}(h:A.Nodup)(i:Nat){C:List Nat}(hC:∀x,x∈C↔x∈A.drop i):(A.filter fun x=>decide (x∉C))=A.take i:=by
 have h':(A.take i++A.drop i).Nodup:=by rw[Th];exact h
 conv=>lhs;rw[<-Th i A]
 rw[List.filter_append];have e1:((A.take i).filter fun x=>decide (x∉C))=A.take i:=VV.mpr fun x hx=>by simp only[decide_eq_true_eq];rw[hC];exact fun z=>(Rp.mp h').2.2 x hx x z rfl
 have e2:((A.drop i).filter fun x=>decide (x∉C))=[]:=List.filter_eq_nil_iff.mpr fun x hx=>by simp only[decide_eq_true_eq,Classical.not_not];exact(hC x).mpr hx
 rw[e1,e2,Q0]
theorem EE{W:Nat->List Nat}{C E:List Nat}(h:∀x,x∈C↔x∈E):Rg.minus W s C=Rg.minus W s E:=by
 unfold Rg.minus;congr 1
 .exact Rg.jl fun x _=>by rw[N_];simp[h x]
 .refine Rg.jl fun x _=>?_;rw[N_];simp only[decide_eq_true_eq];have:x∈C.map (Rg.bB W s)↔x∈E.map (Rg.bB W s):=by simp only[r_,h]
  rw[this]
end
theorem Fg:∀{l m:List Nat},l.Nodup->m.Nodup->(∀x,x∈l↔x∈m)->l.Perm m
|[],m,_,_,h=>by cases m with
 |nil=>exact .nil
 |cons a m=>exact absurd ((h a).mpr d_) (fun z=>nomatch z)
|a::l,m,hl,hm,h=>by
  have ha:a∈m:=(h a).mp d_;have hl':=Q1.mp hl;refine(List.Perm.cons a (Fg hl'.2 (hm.erase a) fun x=>?_)).trans (VP ha).symm;constructor
  .intro hx;have hne:x≠a:=by rintro rfl;exact hl'.1 hx
   exact(Ug hne).mpr ((h x).mp (i_ _ hx))
  .intro hx;obtain⟨h1,h2⟩:=(Tz hm).mp hx;exact(w_.mp ((h x).mpr h2)).resolve_left h1
theorem Fk{l C:List Nat}(hl:l.Nodup)(hC:C.Nodup)(hs:∀x∈C,x∈l):(C++l.filter fun x=>decide (x∉C)).Perm l:=by
 refine Fg (Rp.mpr ⟨hC,Rg.m7 hl,fun a ha b hb=>?_⟩) hl fun x=>?_
 .rintro rfl
  have:=(l_.mp hb).2;simp only[decide_eq_true_eq]at this;exact this ha
 .rw[Rc,l_];simp only[decide_eq_true_eq];constructor
  .rintro(h|h)
   .exact hs x h
   .exact h.1
  .intro h;by_cases c:x∈C
   .exact .inl c
   .exact .inr ⟨h,c⟩
section
variable{rz:List (List Nat)}{owns:List (Option Nat)}{s:Rg.S}{A A1 A2:List Nat}{a:Nat->Nat}
def me(dd:Dd)(A:List Nat):List Nat:=match dd with
|.ah h _=>A++[h]
|_=>A
abbrev mA:List Md:=dh
theorem Kv(S:Snd rz owns s)(od:D){told:List D}{x7 x8 x9:Option D}{dd:Dd}(hne:s.line≠[])(hA1:A1=if A=[]then[s.line.headD 0]else A)(h60:A1.length<=60)(ht:told.length<=900)(hd:jn [WD rz,OD owns,LN s.line,LN s.things,LN A1]=.ok (cI a dd))(hs:∀h∈dd.hands,h∈s.line) :
  ∃y8 y9,wR [some (WD rz),some (OD owns),some od,some (LN s.line),some (LN s.things),some (LN A),some (.lst told),x7,x8,x9]
   = .nx [some (WD rz),some (OD owns),some od,some (LN (s.line.filter fun h=>decide (h∉dd.hands))),some (LN (s.things.filter fun x=>decide (x∉dd.hands.map a))),some (LN ((me dd A1).filter fun h=>decide (h∉dd.hands))),some (.lst (told++[cI a dd])),some (cI a dd),y8,y9]:=by
 obtain⟨kvs,g,hg⟩:=qm (t:=a) (line:=s.line) (rs:=[dd.hands]) S.nl (by simpa using hs);rw[show[dd.hands].flatten=dd.hands by simp]at g;refine⟨some (KD kvs),some (LN (kvs.map (·.2))),?_⟩;refine(ar (r':=[some (WD rz),some (OD owns),some od,some (LN s.line),some (LN s.things),some (LN A1),some (.lst told),x7,x8,x9]) ?_).trans ?_
 .cases hA:A with
 |nil=>rw[hA,if_pos rfl]at hA1;subst hA1;refine(dj (kE (b:=false) (fK (d:=LN []) rfl rfl))).trans ?_;refine(ar (aO (d:=LN [s.line.headD 0]) (hW (ds:=[nD (s.line.headD 0)]) (aj (au (a:=LN s.line) (b:=.int 0) rfl rfl ?_) ap) (by simp)))).trans rfl;cases e:s.line with
  |nil=>exact absurd e hne
  |cons b t=>exact ixA_L0 _ _
 |cons b t=>rw[hA,if_neg (by simp)]at hA1;subst hA1;exact(bz (kE (b:=true) (fK (d:=LN (b::t)) rfl rfl))).trans rfl
 refine(ar (aO (aK (aj (d:=WD rz) rfl (aj (d:=OD owns) rfl (aj (d:=LN s.line) rfl (aj (d:=LN s.things) rfl (aj (d:=LN A1) rfl ap))))) hd))).trans ?_;refine(ar (hX (d:=.lst told) (ds:=[cI a dd]) rfl rfl (aj (d:=cI a dd) rfl ap) (kM (by omega)))).trans ?_;refine(ar (r':=[some (WD rz),some (OD owns),some od,some (LN s.line),some (LN s.things),some (LN (me dd A1)),some (.lst (told++[cI a dd])),some (cI a dd),x8,x9]) ?_).trans ?_
 .cases dd with
 |tk h=>exact(bz (bD (au (a:=.str "takes") (b:=.str "ahead") (au (a:=cI a (.tk h)) (b:=.int 0) rfl rfl (ixA_T0 _ _)) rfl (d:=.bl false) (by unfold eqD;rw[eqB_str];rfl)))).trans rfl
 |rg r=>exact(bz (bD (au (a:=.str "ring") (b:=.str "ahead") (au (a:=cI a (.rg r)) (b:=.int 0) rfl rfl (ixA_T0 _ _)) rfl (d:=.bl false) (by unfold eqD;rw[eqB_str];rfl)))).trans rfl
 |ah h x=>refine(dj (bD (au (a:=.str "ahead") (b:=.str "ahead") (au (a:=cI a (.ah h x)) (b:=.int 0) rfl rfl (ixA_T0 _ _)) rfl (d:=.bl true) (by unfold eqD;rw[eqB_str];rfl)))).trans ?_;refine(ar (hX (d:=LN A1) (ds:=[nD h]) rfl rfl (aj (au (a:=cI a (.ah h x)) (b:=nD 1) rfl rfl (dw rfl)) ap) (kM (by simp;omega)))).trans ?_;show Out.nx [_,_,_,_,_,some (D.lst (A1.map nD++[nD h])),_,_,_,_]=Out.nx [_,_,_,_,_,some (D.lst ((A1++[h]).map nD)),_,_,_,_];rw[QL];rfl
 have h61:(me dd A1).length<=61:=by cases dd <;> simp[me] <;> omega
 refine(ar (aO (aK (aj (hW (aj (aK (aj (d:=cI a dd) rfl ap) (Eo a dd)) ap) (by simp)) ap) hg))).trans ?_;refine(ar (aO (d:=LN (kvs.map (·.2))) (Au (a:=KD kvs) rfl ?_))).trans ?_
 .rw[e_valsD,y_];show some (D.lst _)=some (D.lst ((kvs.map (·.2)).map nD));rw[y_];rfl
 refine(ar (aO (fX (l:=s.line) nD (fun h=>decide (h∉dd.hands)) nD rfl (by have:=S.nl;omega) fun h hh=>⟨[some (nD h),some (KD kvs)],rfl,bD (au (a:=nD h) (b:=KD kvs) rfl rfl (tj g h)),fun _=>rfl⟩))).trans ?_;refine(ar (aO (fX (l:=me dd A1) nD (fun h=>decide (h∉dd.hands)) nD rfl (by omega) fun h hh=>⟨[some (nD h),some (KD kvs)],rfl,bD (au (a:=nD h) (b:=KD kvs) rfl rfl (tj g h)),fun _=>rfl⟩))).trans ?_;refine(ar (aO (fX (l:=s.things) nD (fun x=>decide (x∉dd.hands.map a)) nD rfl (by have:=S.nt;omega) fun h hh=>⟨[some (nD h),some (LN (kvs.map (·.2)))],rfl,bD (au (a:=nD h) (b:=LN (kvs.map (·.2))) rfl rfl (AB g h)),fun _=>rfl⟩))).trans ?_;rfl
theorem Bt{s':Rg.S}(S:Snd rz owns s)(k:Rg.Ok (Wr rz) (own owns) s')(hl:∀h∈s'.line,h∈s.line)(h1:s'.line.length<=s.line.length)(h2:s'.things.length<=s.things.length):Snd rz owns s':=⟨k,fun h hh=>S.inr h (hl h hh),fun h hh=>S.ino h (hl h hh),fun h hh=>S.wid h (hl h hh),O_ h1 S.nl,O_ h2 S.nt⟩
theorem MW(S:Snd rz owns s)(t:Rg.TTC (Wr rz) (own owns) a s)(c:Rg.Chain (Wr rz) (own owns) s A1)(hA:A1≠[])(h60:A1.length<=60):∃(dd:Dd)(s':Rg.S)(A':List Nat),jn [WD rz,OD owns,LN s.line,LN s.things,LN A1]=.ok (cI a dd)/\(∀h∈dd.hands,h∈s.line)/\dd.hands.Nodup/\s'=⟨s.line.filter fun h=>decide (h∉dd.hands),s.things.filter fun x=>decide (x∉dd.hands.map a)⟩/\A'=(me dd A1).filter (fun h=>decide (h∉dd.hands)) /\Snd rz owns s'/\Rg.TTC (Wr rz) (own owns) a s'/\Rg.Chain (Wr rz) (own owns) s' A'/\2*s'.line.length+A1.length+1<=2*s.line.length+A'.length:=by
 have hp:=Rh.mpr hA;have hz:A1[A1.length-1]? = some A1[A1.length-1]:=b_ (by omega);generalize A1[A1.length-1]=z at hz;have hzm:=c.sub z (c.at hz);have hAl:A1.length<=s.line.length:=Rg.iD c.nd c.sub;have len:∀{C:List Nat},C.Nodup->(∀h∈C,h∈s.line)->(s.line.filter fun h=>decide (h∉C)).length+C.length=s.line.length:=fun hC hs=>by have:=(Fk S.ok.nl hC hs).length_eq;rw[L_]at this;omega
 have things:∀{C:List Nat},(∀h∈C,a h=tS rz s h)->C.map a=C.map (tS rz s):=fun h=>QI h;have tk:∀{s':Rg.S}{A':List Nat},s'=Rg.minus (Wr rz) s [z]->A'=A1.take (A1.length-1)->a z=tS rz s z->jn [WD rz,OD owns,LN s.line,LN s.things,LN A1]=.ok (.tup [.str "takes",nD z,nD (tS rz s z)])->Rg.Ok (Wr rz) (own owns) s'->Rg.TTC (Wr rz) (own owns) a s'->Rg.Chain (Wr rz) (own owns) s' A' ->∃(dd:Dd)(s':Rg.S)(A':List Nat),jn [WD rz,OD owns,LN s.line,LN s.things,LN A1]=.ok (cI a dd)/\(∀h∈dd.hands,h∈s.line)/\dd.hands.Nodup/\s'=⟨s.line.filter fun h=>decide (h∉dd.hands),s.things.filter fun x=>decide (x∉dd.hands.map a)⟩/\A'=(me dd A1).filter (fun h=>decide (h∉dd.hands)) /\Snd rz owns s'/\Rg.TTC (Wr rz) (own owns) a s'/\Rg.Chain (Wr rz) (own owns) s' A'/\2*s'.line.length+A1.length+1<=2*s.line.length+A'.length:=by
  intro s' A' es eA ea hd k' t' c';have hz1:∀h∈[z],h∈s.line:=fun h hh=>by rw[D_.mp hh];exact hzm
  have l1:=len (C:=[z]) (by simp) hz1;have ll:s'.line.length+1=s.line.length:=by rw[es];exact l1
  refine⟨.tk z,s',A',by rw[hd];show _=Res.ok (D.tup [.str "takes",nD z,nD (a z)]);rw[ea],hz1,by simp[Dd.hands],?_,?_,Bt S k' (fun h hh=>by rw[es]at hh;exact(l_.mp hh).1) (by omega) (by rw[es];exact Rq _ _),t',c',?_⟩
  .rw[es];show(⟨_,s.things.filter fun x=>decide (x∉[z].map (tS rz s))⟩:Rg.S)=⟨_,s.things.filter fun x=>decide (x∉[z].map a)⟩
   rw[things (C:=[z]) fun h hh=>by rw[D_.mp hh];exact ea];rfl
  .rw[eA];refine(Fc c.nd (A1.length-1) fun x=>?_).symm;constructor
   .intro hx;have:=D_.mp hx;subst this;exact Rg.qG (q_ _) hz
   .intro hx;obtain⟨j,h1,h2⟩:=Rg.oh hx;have hj:=(e_.mp h2).1;have:j=A1.length-1:=by omega
    subst this;rw[hz]at h2;cases h2;exact D_.mpr rfl
  .rw[eA,Rf];omega
 cases hf:g9 owns s (tS rz s z)with
|none=>
  obtain⟨k',t',c',ea⟩:=Rg.HW t S.ok c hz fun h hh=>by simpa using Q3.mp hf h hh
  exact tk rfl rfl ea (F8 S hz hzm (.inl hf)) k' t' c'
|some l=>
  have hO:own owns l=some (tS rz s z):=by simpa using S_ hf
  have hll:=Sj hf;by_cases hlz:l=z
  .subst hlz;obtain⟨k',t',c',ea,cy⟩:=Rg.Av t S.ok c hz hz hO;have ed:∀x,x∈A1.drop (A1.length-1)↔x∈[l]:=fun x=>by
    constructor
    .intro hx;obtain⟨j,h1,h2⟩:=Rg.oh hx;have hj:=(e_.mp h2).1;have:j=A1.length-1:=by omega
     subst this;rw[hz]at h2;cases h2;exact D_.mpr rfl
    .intro hx;rw[D_.mp hx];exact Rg.qG (q_ _) hz
   exact tk (EE ed) rfl (ea l ((ed l).mpr (D_.mpr rfl))) (F8 S hz hzm (.inr hf)) k' t' c'
  .by_cases hm:l∈A1
   .obtain⟨k,k1,hd⟩:=PJ S c hz hf hlz rfl hm h60;have hil:=R8 hm;have hi:A1[A1.idxOf l]? = some l:=by rw[b_ hil];congr 1;exact UR hil
    obtain⟨k',t',c',ea,cy⟩:=Rg.Av t S.ok c hz hi hO;generalize A1.idxOf l=i at hd hil k' t' c' ea cy k1;generalize hr:(A1.drop i).drop ((A1.drop i).idxOf k)++(A1.drop i).take ((A1.drop i).idxOf k)=r at hd;have hperm:r.Perm (A1.drop i):=by rw[<-hr];exact List.perm_append_comm.trans (by rw[Th])
    have hrm:∀x,x∈r↔x∈A1.drop i:=fun x=>hperm.mem_iff;have er:bZ (tS rz s) r=bZ a r:=by show D.tup _=D.tup _;congr 1;refine QI fun x hx=>?_;show D.tup [nD x,nD _]=D.tup [nD x,nD _];rw[ea x ((hrm x).mp hx)]
    have hrs:∀h∈r,h∈s.line:=fun h hh=>c.sub h (Ui ((hrm h).mp hh));have hrn:r.Nodup:=hperm.nodup_iff.mpr (c.nd.sublist (List.drop_sublist _ _));have l1:=len hrn hrs;have l2:r.length=A1.length-i:=by rw[hperm.length_eq,Q5]
    have e':Rg.minus (Wr rz) s (A1.drop i)=Rg.minus (Wr rz) s r:=EE fun x=>(hrm x).symm;have ll:(Rg.minus (Wr rz) s (A1.drop i)).line.length+r.length=s.line.length:=by rw[e'];exact l1
    refine⟨.rg r,_,_,by rw[hd];show Res.ok (D.tup [.str "ring",bZ (tS rz s) r])=Res.ok (D.tup [.str "ring",bZ a r]);rw[er],hrs,hrn,?_,?_,Bt S k' (fun h hh=>(l_.mp hh).1) (by omega) (Rq _ _),t',c',?_⟩
    .rw[e'];show(⟨_,s.things.filter fun x=>decide (x∉r.map (tS rz s))⟩:Rg.S)=⟨_,s.things.filter fun x=>decide (x∉r.map a)⟩
     rw[things (C:=r) fun h hh=>ea h ((hrm h).mp hh)];rfl
    .exact(Fc c.nd i hrm).symm
    .rw[Rf];omega
   .have c':=Rg.Hr c hz hll hm hO;refine⟨.ah l (tS rz s z),s,A1++[l],P6 S hz hzm hf hlz hm,fun h hh=>(nomatch hh),VO,?_,?_,S,t,c',by rw[L_,Te];omega⟩
    .show s=⟨s.line.filter fun h=>decide (h∉[]),s.things.filter fun x=>decide (x∉[])⟩
     simp[kQ]
    .show _=(A1++[l]).filter fun h=>decide (h∉[]);simp[kQ]
theorem Kw(od:D):∀(j:Nat)(s:Rg.S)(A:List Nat)(told:List D)(x7 x8 x9:Option D),Snd rz owns s->Rg.TTC (Wr rz) (own owns) a s->Rg.Chain (Wr rz) (own owns) s A->2*s.line.length<j+A.length->told.length+2*s.line.length<=300+A.length ->
  ∃(s':Rg.S)(A':List Nat)(l:List Dd)(x7' x8' x9':Option D),(l.flatMap Dd.hands).Perm s.line/\l.length+A.length<=2*s.line.length /\
   dz mA Ea wR j [some (WD rz),some (OD owns),some od,some (LN s.line),some (LN s.things),some (LN A),some (.lst told),x7,x8,x9]
    = .nx [some (WD rz),some (OD owns),some od,some (LN s'.line),some (LN s'.things),some (LN A'),some (.lst (told++l.map (cI a))),x7',x8',x9']:=by
 intro j
 induction j with
|zero=>intro s A told x7 x8 x9 S t c h;have:=Rg.iD c.nd c.sub;omega
|succ j ih=>
  intro s A told x7 x8 x9 S t c hj ht;have hAl:A.length<=s.line.length:=Rg.iD c.nd c.sub;have hnl:=S.nl;by_cases hne:s.line=[]
  .refine⟨s,A,[],x7,x8,x9,by rw[hne];exact .nil,by simp;omega,?_⟩;rw[R5,Q0];refine n0 (fK (d:=LN s.line) rfl ?_);rw[hne];rfl
  .have hpos:=Rh.mpr hne;generalize hA1:(if A=[]then[s.line.headD 0]else A)=A1;have c1:Rg.Chain (Wr rz) (own owns) s A1:=by
    rw[<-hA1];split
    .exact Rg.Hw hne
    .exact c
   have hA1n:A1≠[]:=by
    rw[<-hA1];split
    .simp
    .assumption
   have hA1l:A.length<=A1.length:=by
    rw[<-hA1];split
    .rename_i e;rw[e];simp
    .exact q_ _
   have hA1s:A1.length<=s.line.length:=Rg.iD c1.nd c1.sub;obtain⟨dd,s1,A2,hd,hs,hn,es,eA,S',t',c',hm⟩:=MW S t c1 hA1n (by omega);obtain⟨y8,y9,hb⟩:=Kv (told:=told) (x7:=x7) (x8:=x8) (x9:=x9) S od hne hA1.symm (by omega) (by omega) hd hs;obtain⟨s',A',l,x7',x8',x9',h1,h2,h3⟩:=ih s1 A2 (told++[cI a dd]) (some (cI a dd)) y8 y9 S' t' c' (by omega) (by rw[L_];simp;omega);refine⟨s',A',dd::l,x7',x8',x9',?_,by simp;omega,?_⟩
   .rw[List.flatMap_cons];have e1:s1.line=s.line.filter fun h=>decide (h∉dd.hands):=by rw[es]
    rw[e1]at h1;exact(List.Perm.append_left _ h1).trans (Fk S.ok.nl hn hs)
   .rw[Q2]at h3;rw[u_];refine Ws (n4 (fK (b:=true) (d:=LN s.line) rfl ?_) ?_) h3
    .cases q:s.line with
    |nil=>exact absurd q hne
    |cons b t=>rfl
    .rw[hb,es,eA]
theorem N4{o:Option (List Nat)}(ho:∀l,o=some l->l.Nodup/\(∀k∈l,k<rz.length)/\l.length=rz.length)(hr:rz≠[])(h8:rz.length<=30)(S:Snd rz owns (s0 rz o))(h30:(s0 rz o).line.length<=30)(t:Rg.TTC (Wr rz) (own owns) a (s0 rz o)):∃l:List Dd,(l.flatMap Dd.hands).Perm (s0 rz o).line/\l.length<=60/\qC [WD rz,OD owns,cW o]=.ok (.lst (l.map (cI a))):=by obtain⟨s',A',l,x7',x8',x9',h1,h2,h3⟩:=Kw (rz:=rz) (owns:=owns) (a:=a) (cW o) 64 (s0 rz o) [] [] none none none S t Rg.Hv (by simp;omega) (by simp;omega);refine⟨l,h1,by simp at h2;omega,bp (B:=ql) (n:=10) ?_⟩;unfold ql;cases rz with
|nil=>exact absurd rfl hr
|cons row rest=>refine(ar (aO (aK (aj (d:=WD (row::rest)) rfl (aj (d:=cW o) rfl ap)) (Fo ho (by omega))))).trans ?_;refine(ar (aO (d:=LN (s0 (row::rest) o).things) (bL (aj (aK (aj (d:=WD (row::rest)) rfl ap) rG) ap) (qx (by have:=S.nt;unfold s0 at this;simp at this;omega))))).trans ?_;refine(ar (aO (d:=.lst []) (hW ap (by simp)))).trans ?_;refine(ar (aO (d:=.lst []) (hW ap (by simp)))).trans ?_;refine(ar h3).trans ?_;exact aU (bc (d:=.lst (l.map (cI a))) rfl)
theorem PH{o:Option (List Nat)}(ho:∀l,o=some l->l.Nodup/\(∀k∈l,k<rz.length)/\l.length=rz.length)(hr:rz≠[])(h8:rz.length<=30)(S:Snd rz owns (s0 rz o))(h30:(s0 rz o).line.length<=30)(hall:∀h,h∈(s0 rz o).line↔h<rz.length)(t:Rg.TTC (Wr rz) (own owns) a (s0 rz o)):kT [WD rz,OD owns,cW o]=.ok (TN ((a_ rz.length).map a)):=by
 obtain⟨l,h1,h2,h3⟩:=N4 ho hr h8 S h30 t;obtain⟨kvs,g,hg⟩:=qm (t:=a) (line:=(s0 rz o).line) (rs:=l.map Dd.hands) S.nl (fun h hh=>h1.mem_iff.mp (by rw[WG];exact hh));refine bp (B:=rf) (n:=3) ?_;unfold rf;refine aU (bc (aK (aj (aK (aj (fX (l:=l) (cI a) (fun _=>true) (fun d=>bZ a d.hands) (fW (aK (aj (d:=WD rz) rfl (aj (d:=OD owns) rfl (aj (d:=cW o) rfl ap))) h3) rfl) (by omega) fun d hd=>⟨[some (cI a d)],rfl,rfl,fun _=>aK (aj (d:=cI a d) rfl ap) (Eo a d)⟩) ap) ?_) ap) (yY g (n:=rz.length) (fun x=>?_) (by omega))))
 .rw[kQ];show iz [.lst (l.map fun d=>bZ a d.hands)]=_;rw[show(l.map fun d=>bZ a d.hands)=(l.map Dd.hands).map (bZ a)by rw[y_];rfl];exact hg
 .rw[<-hall x,<-h1.mem_iff,WG]
end
end Law
section
set_option exponentiation.threshold 3000
namespace Law
open PySem PyProof.Rows L2 DL Fq
abbrev FR(x:Int×Nat):D:=.tup [.int x.1,nD x.2]
abbrev LF(l:List (Int×Nat)):D:=.lst (l.map FR)
abbrev TF(l:List (Int×Nat)):D:=.tup (l.map FR)
theorem Kx:mq=2^2000:=rfl
theorem tW{a k:Nat}(h:a<2^k)(hk:k<=2000):a<mq:=by rw[Kx];exact C_ h (Tl (by omega) hk)
theorem jk{a b:Int}{k l:Nat}(h1:a.natAbs<2^k)(h2:b.natAbs<2^l)(hk:k<=2000)(hl:l<=2000):cX (.int a) (.int b)=some (.int (a*b)):=by rw[cX,intsC_int,if_pos ⟨tW h1 hk,tW h2 hl⟩]
theorem D6{a:Int}{b k:Nat}(h0:0<b)(h1:b<2^k)(hk:k<=2000):nA (.int a) (nD b)=some (.int (a/(b:Int))):=by rw[nA,intsC_int,if_pos ⟨by omega,by rw[P_];exact tW h1 hk⟩]
theorem Az(b:Nat):neD (nD b) (.int 0)=some (.bl (! decide (b=0))):=AA b 0
theorem MO{m:List Md}:∀(k n:Nat)(a:Int)(b:Nat)(x:Option D),b<2^k->2*k+1<=n ->∃(a':Int)(y:Option D),dz m oY oX n [some (.int a),some (nD b),x]=.nx [some (.int a'),some (nD 0),y]/\a'.natAbs=RY a b:=by
 have z0:∀(n:Nat)(a:Int)(x:Option D),1<=n->∃(a':Int)(y:Option D),dz m oY oX n [some (.int a),some (nD 0),x]=.nx [some (.int a'),some (nD 0),y]/\a'.natAbs=RY a 0:=by
  intro n a x hn;obtain⟨n,rfl⟩:∃k,n=k+1:=⟨n-1,by omega⟩
  exact⟨a,x,n0 (bD (au (a:=nD 0) (b:=.int 0) rfl rfl (Az 0))),by simp⟩
 have st:∀(n:Nat)(a:Int)(b:Nat)(x:Option D),0<b->dz m oY oX (n+1) [some (.int a),some (nD b),x]=dz m oY oX n [some (nD b),some (nD (a%(b:Int)).toNat),some (nD (a%(b:Int)).toNat)]:=by
  intro n a b x hb;have hne:=Az b;rw[decide_eq_false (by omega)]at hne;refine n4 (bD (au (a:=nD b) (b:=.int 0) rfl rfl hne)) ?_;refine(ar (aO (d:=nD (a%(b:Int)).toNat) (au (a:=.int a) (b:=nD b) rfl rfl ?_))).trans ?_
  .rw[vJ (by omega)];show some (D.int _)=some (D.int _);rw[Us (VD _ (by omega))]
  refine(ar (aO (d:=nD b) rfl)).trans ?_;exact ar (aO (d:=nD (a%(b:Int)).toNat) rfl)
 have hr:∀(a:Int)(b:Nat),0<b->(((a%(b:Int)).toNat:Nat):Int)=a%(b:Int)/\(a%(b:Int)).toNat<b:=by intro a b hb;have h1:=VD a (show(b:Int)≠0 by omega);have h2:=Int.emod_lt_of_pos a (show(0:Int)<b by omega);exact⟨Us h1,by omega⟩
 intro k
 induction k with
|zero=>
  intro n a b x hb hn;have:b=0:=by have:(2:Nat)^0=1:=rfl;omega
  subst this;exact z0 n a x (by omega)
|succ k ih=>
  intro n a b x hb hn;by_cases h0:b=0
  .subst h0;exact z0 n a x (by omega)
  .have hbp:0<b:=by omega
   obtain⟨n,rfl⟩:∃j,n=j+2:=⟨n-2,by omega⟩
   obtain⟨r1,r2⟩:=hr a b hbp;have e1:=st (n+1) a b x hbp;generalize(a%(b:Int)).toNat=r at r1 r2 e1;rw[e1,D8 a b,<-r1];by_cases hz:r=0
   .subst hz;exact z0 (n+1) b _ (by omega)
   .obtain⟨s1,s2⟩:=hr (b:Int) r (by omega);have e2:=st n (b:Int) r (some (nD r)) (by omega);have hs:((b:Int)%(r:Int)).toNat=b%r:=by omega
    rw[hs]at s1 s2 e2;rw[e2,D8 (b:Int) r,<-s1];refine ih n (r:Int) (b%r) _ ?_ (by omega);have h3:b%r<r:=TM _ (by omega);have h4:b%r<=b-r:=by have:=Nat.mod_eq_sub_mod (show r<=b by omega);rw[this];exact Nat.mod_le _ _
    rw[Vv]at hb;omega
theorem Os{a:Int}{b k:Nat}(hb:b<2^k)(hk:k<=499):sy [.int a,nD b]=.ok (nD (RY a b)):=by obtain⟨a',y,h1,h2⟩:=MO (m:=cM) k 1000 a b none hb (by omega);refine bp (B:=zf) (n:=3) ?_;unfold zf;refine(ar h1).trans (aU (bc (bL (aj (d:=.int a') rfl ap) ?_)));show some (D.int (if a'<0 then-a' else a'))=some (D.int _);rw[<-h2];split <;> congr 2 <;> omega
theorem kB(x:Int×Nat):aH (FR x) (.int 0)=some (.int x.1):=rfl
theorem kC(x:Int×Nat):aH (FR x) (.int 1)=some (nD x.2):=dw (i:=1) rfl
theorem D4:∀l:List (Int×Nat),Rt (zc9 (l.map FR)) (zc9 (l.map FR))=true
|[]=>by simp[zc9,Rt]
|x::l=>by have ih:=D4 l;simp only[u_,zc9,bb,Rt,TK,ih];simp
theorem AO{l:List (Int×Nat)}{k:Nat}:∀d∈l.map FR,bQ (k+1) d:=by intro d hd;obtain⟨x,_,rfl⟩:=r_.mp hd;refine jO.mpr ?_;intro e he;simp at he;rcases he with rfl|rfl <;> (cases k <;> trivial)
theorem HB(l:List (Int×Nat)):fA (LF l) (LF l)=some true:=by rw[qL rfl (n9.mpr AO) (n9.mpr AO)];unfold ke;simp only[bb,TK,D4]
theorem Iq(l:List (Int×Nat)):neD (LF l) (LF l)=some (.bl false):=by unfold neD;rw[HB];rfl
theorem K3{B:FS}{n:Nat}{ds:List D}{d:D}(h:B (aS n ds)=.rt d):aB true (B (aS n ds))=.ok d:=by rw[h];rfl
theorem Er(i:Int):kZ [.int i]=.ok (.bl true):=rfl
theorem oP{t:Int}{b k:Nat}(h0:0<b)(hb:b<2^k)(hk:k<=499):fY [.int t,nD b]=.ok (FR (low t b)):=by
 refine bp (B:=xF) (n:=3) ?_;unfold xF;have hg:=vG t h0;have hgb:RY t b<2^k:=by have h1:RY t b∣b:=Vc.mp (Sv t b);have:=XU h0 h1;omega
 refine(ar ((bz ?_).trans (e_skip _))).trans ?_
 .rw[gm (kE (b:=true) (fK (aK (aj (d:=.int t) rfl ap) (Er t)) rfl)),gm (kE (b:=true) (fK (aK (aj (d:=nD b) rfl ap) (Er b)) rfl))];have:=mE b 0;rw[decide_eq_false (by omega)]at this;exact bD (au (a:=nD b) (b:=nD 0) rfl rfl this)
 refine(ar (aO (aK (aj (d:=.int t) rfl (aj (d:=nD b) rfl ap)) (Os hb hk)))).trans ?_;refine(ar ((bz ?_).trans (e_skip _))).trans ?_
 .have:=pH b 0;rw[decide_eq_false (by omega)]at this;exact bD (au (a:=nD b) (b:=nD 0) rfl rfl this)
 refine aU (bc (fV (aj (au (a:=.int t) (b:=nD (RY t b)) rfl rfl (D6 hg hgb (by omega))) (aj (au (a:=nD b) (b:=nD (RY t b)) rfl rfl (D6 hg hgb (by omega))) ap)) (by simp)))
end Law
end
section
set_option exponentiation.threshold 3000
namespace Law
open PySem PyProof.Rows L2 DL Fq
abbrev QF(z:Nat):D:=FR (Qd (z:Int))
section
variable{k l:Nat}{a b:Int×Nat}
theorem Ng(ha:Bd k a)(hb:Bd l b)(hl:k+l<=498):lw [FR a,FR b]=.ok (FR (nF a b)):=by
 refine bp (B:=tT) (n:=2) ?_;unfold tT;have i0:=kB a;have i1:=kC a;have j0:=kB b;have j1:=kC b;refine aU (bc (aK (aj (au (au (au (a:=FR a) rfl rfl i0) (au (a:=FR b) rfl rfl j1) (jk ha.top (by rw[P_];exact hb.bot) (by omega) (by omega))) (au (au (a:=FR b) rfl rfl j0) (au (a:=FR a) rfl rfl i1) (jk hb.top (by rw[P_];exact ha.bot) (by omega) (by omega))) rfl)
  (aj (d:=nD (a.2*b.2)) (au (au (a:=FR a) rfl rfl i1) (au (a:=FR b) rfl rfl j1) ?_) ap)) ?_))
 .rw[jk (k:=k) (l:=l) (by rw[P_];exact ha.bot) (by rw[P_];exact hb.bot) (by omega) (by omega)];show some (D.int _)=some (D.int _);rw[Re]
 .exact oP (lC ha hb).1 (lC ha hb).2 (by omega)
theorem N9(ha:Bd k a)(hb:Bd l b)(hl:k+l<=498):nX [FR a,FR b]=.ok (FR (BR a b)):=by
 refine bp (B:=uS) (n:=2) ?_;unfold uS;have i0:=kB a;have i1:=kC a;have j0:=kB b;have j1:=kC b;refine aU (bc (aK (aj (au (au (au (a:=FR a) rfl rfl i0) (au (a:=FR b) rfl rfl j1) (jk ha.top (by rw[P_];exact hb.bot) (by omega) (by omega))) (au (au (a:=FR b) rfl rfl j0) (au (a:=FR a) rfl rfl i1) (jk hb.top (by rw[P_];exact ha.bot) (by omega) (by omega))) rfl)
  (aj (d:=nD (a.2*b.2)) (au (au (a:=FR a) rfl rfl i1) (au (a:=FR b) rfl rfl j1) ?_) ap)) ?_))
 .rw[jk (k:=k) (l:=l) (by rw[P_];exact ha.bot) (by rw[P_];exact hb.bot) (by omega) (by omega)];show some (D.int _)=some (D.int _);rw[Re]
 .exact oP (lC ha hb).1 (lC ha hb).2 (by omega)
theorem Ep(ha:Bd k a)(hb:Bd l b)(hl:k+l<=498):jM [FR a,FR b]=.ok (FR (uH a b)):=by
 refine bp (B:=uT) (n:=2) ?_;unfold uT;have i0:=kB a;have i1:=kC a;have j0:=kB b;have j1:=kC b;refine aU (bc (aK (aj (au (au (a:=FR a) rfl rfl i0) (au (a:=FR b) rfl rfl j0) (jk ha.top hb.top (by omega) (by omega)))
  (aj (d:=nD (a.2*b.2)) (au (au (a:=FR a) rfl rfl i1) (au (a:=FR b) rfl rfl j1) ?_) ap)) ?_))
 .rw[jk (k:=k) (l:=l) (by rw[P_];exact ha.bot) (by rw[P_];exact hb.bot) (by omega) (by omega)];show some (D.int _)=some (D.int _);rw[Re]
 .exact oP (lC ha hb).1 (lC ha hb).2 (by omega)
theorem Nd(ha:Bd k a)(hb:Bd l b)(hk:k<=2000)(hl:l<=2000):nJ [FR a,FR b]=.ok (.bl (pG a b)):=by refine bp (B:=tR) (n:=2) ?_;unfold tR;have i0:=kB a;have i1:=kC a;have j0:=kB b;have j1:=kC b;exact aU (bc (au (au (au (a:=FR a) rfl rfl i0) (au (a:=FR b) rfl rfl j1) (jk ha.top (by rw[P_];exact hb.bot) (by omega) (by omega))) (au (au (a:=FR b) rfl rfl j0) (au (a:=FR a) rfl rfl i1) (jk hb.top (by rw[P_];exact ha.bot) (by omega) (by omega))) rfl))
end
theorem rp{a b:Nat}(ha:a<=DD)(hb:b<=DD):lw [QF a,QF b]=.ok (QF (a+b)):=by have:=Ng (km ha) (km hb) (by omega);rw[Kt,<-VA]at this;exact this
theorem rm{a b:Nat}(ha:a<=DD)(hb:b<=a):nX [QF a,QF b]=.ok (QF (a-b)):=by have:=N9 (km ha) (km (O_ hb ha)) (by omega);rw[MT,<-Int.natCast_sub hb]at this;exact this
theorem z8{c:Nat}(h:c<=7):Bd 3 ((c:Int),1):=⟨by show 0<1;decide,by show 1<8;decide,by rw[P_];show c<8;omega⟩
theorem z9{c:Nat}(h0:0<c)(h:c<=7):Bd 3 ((1:Int),c):=⟨h0,by show c<8;omega,by show 1<8;decide⟩
theorem rt{c a:Nat}(hc:c<=7)(ha:a<=DD):jM [FR ((c:Int),1),QF a]=.ok (QF (c*a)):=by have:=Ep (z8 hc) (km ha) (by omega);rw[MU,<-Re]at this;exact this
theorem rd{c a:Nat}(h0:0<c)(hc:c<=7)(ha:a<=DD)(hd:c∣a):jM [QF a,FR ((1:Int),c)]=.ok (QF (a/c)):=by have:=Ep (km ha) (z9 h0 hc) (by omega);rw[Ic h0 hd]at this;exact this
theorem rl{a b:Nat}(ha:a<=DD)(hb:b<=DD):nJ [QF a,QF b]=.ok (.bl (decide (a<b))):=by have:=Nd (km ha) (km hb) (by omega) (by omega);rw[Ks]at this;rw[this];simp only[Wq]
theorem Qz{c:Nat}(h0:0<c)(hc:c<=7):fY [.int 1,nD c]=.ok (FR ((1:Int),c)):=by have:=oP (t:=1) (b:=c) (k:=3) h0 (by show c<8;omega) (by omega);rw[GS]at this;exact this
theorem Qy(c:Nat):fY [nD c,.int 1]=.ok (FR ((c:Int),1)):=by have:=oP (t:=(c:Int)) (b:=1) (k:=1) (by decide) (by decide) (by omega);rw[l8]at this;exact this
theorem Fy{d0:D}:∀(l:List Nat)(m:Nat)(x:Option D),m<=DD->(∀y∈l,y<=DD)->∃x',aG (aD 2) D9 (l.map QF) [some d0,some (QF m),x]=.nx [some d0,some (QF (l.foldl (fun m y=>if y<m then y else m) m)),x']
|[],m,x,_,_=>⟨x,d4⟩
|y::l,m,x,hm,hl=>by
  have hy:=hl y d_;obtain⟨x',ih⟩:=Fy (d0:=d0) l (if y<m then y else m) (some (QF y)) (by split <;> assumption) (fun z hz=>hl z (i_ _ hz));refine⟨x',?_⟩;rw[u_,So,<-ih];refine dO (r1:=[some d0,some (QF m),some (QF y)]) rfl ?_;have t:=rl hy hm;by_cases h:y<m
  .rw[decide_eq_true h]at t;rw[if_pos h];exact ar ((dj (fK (aK (aj (d:=QF y) rfl (aj (d:=QF m) rfl ap)) t) rfl)).trans (ar (aO (d:=QF y) rfl)))
  .rw[decide_eq_false h]at t;rw[if_neg h];exact ar ((bz (fK (aK (aj (d:=QF y) rfl (aj (d:=QF m) rfl ap)) t) rfl)).trans (e_skip _))
theorem N7{l:List Nat}(h:l≠[])(hl:∀y∈l,y<=DD):qD [.lst (l.map QF)]=.ok (QF (Et.bi l)):=by cases l with
|nil=>exact absurd rfl h
|cons x l=>obtain⟨x',e⟩:=Fy (d0:=.lst ((x::l).map QF)) (x::l) x none (hl x d_) hl;rw[So,if_neg (Q_ x)]at e;refine bp (B:=uR) (n:=3) ?_;unfold uR;refine(ar (aO (d:=QF x) (au (a:=.lst ((x::l).map QF)) (b:=.int 0) rfl rfl (ixA_L0 _ _)))).trans ?_;refine(ar ((dC (fW (d:=.lst ((x::l).map QF)) rfl rfl)).trans e)).trans ?_;exact aU (bc (d:=QF (Et.bi (x::l))) rfl)
abbrev LD(T:List Nat)(a:Nat->Nat):D:=.dic (T.map fun x=>(kI x,QF (a x)))
theorem BL(f:Nat->D):∀{T:List Nat}{x:Nat},x∈T->bj (T.map fun x=>(kI x,f x)) (kI x)=some (f x)
|[],_,h=>by cases h
|y::T,x,h=>by
  by_cases e:y=x
  .subst e;simp[bj,QK]
  .have hne:¬ kI y=kI x:=fun z=>e (qf z);have ih:=BL f (T:=T) (x:=x) ((w_.mp h).resolve_left fun z=>e z.symm);have e1:bj ((y::T).map fun x=>(kI x,f x)) (kI x)=bj (T.map fun x=>(kI x,f x)) (kI x):=by simp only[bj,u_,QK];rw[decide_eq_false hne]
   rw[e1];exact ih
theorem nz{T:List Nat}{a:Nat->Nat}{x:Nat}(h:x∈T):aH (LD T a) (nD x)=some (QF (a x)):=pP (BL (fun x=>QF (a x)) h)
theorem BN(f:Nat->D)(T:List Nat)(x:Nat):cn (T.map fun x=>(kI x,f x)) (kI x)=decide (x∈T):=by
 have:=t5 (T.map fun y=>(y,f y)) x;rw[y_,y_]at this;have e:List.map ((fun p:Nat×D=>p.1)∘fun y=>(y,f y)) T=T:=by have:((fun p:Nat×D=>p.1)∘fun y=>(y,f y))=id:=rfl;rw[this,List.map_id]
 rw[e]at this;exact this
theorem GN(T:List Nat)(a:Nat->Nat)(x:Nat):gE (nD x) (LD T a)=some (.bl (decide (x∈T))):=by show(Yr _ ((dF (nD x)).map (cn (T.map fun x=>(kI x,QF (a x))))))=_;show some (D.bl (cn (T.map fun x=>(kI x,QF (a x))) (kI x)))=_;rw[BN]
theorem Iu(T:List Nat)(a:Nat->Nat)(x:Nat):cF (nD x) (LD T a)=some (.bl (! decide (x∈T))):=by show(Yr _ ((dF (nD x)).map (cn (T.map fun x=>(kI x,QF (a x))))))=_;show some (D.bl (! cn (T.map fun x=>(kI x,QF (a x))) (kI x)))=_;rw[BN]
theorem vH(T:List Nat)(f:Nat->D):jL (.dic (T.map fun x=>(kI x,f x)))=some (T.map nD):=by show some ((T.map fun x=>(kI x,f x)).map fun kv=>l9 kv.1)=_;rw[y_];rfl
theorem vI{f:FE}{r:ao}{d:D}{ds:List D}(h:f r=.ok d)(h2:jL d=some ds):aF jL f r=.ok ds:=by unfold aF;rw[h,bind_ok,h2];rfl
theorem uG{T:List Nat}{f:Nat->D}{x:Nat}(h:x∉T)(hl:T.length<=1000):dD (.dic (T.map fun x=>(kI x,f x))) (nD x) (f x)=some (.dic ((T++[x]).map fun x=>(kI x,f x))):=by
 show(if (T.map fun x=>(kI x,f x)).length<sizeLine then some (D.dic (cz _ (kI x) (f x)))else none)=_;rw[if_pos (by rw[m_,QZ];omega)];have:=DO (T.map fun y=>(y,f y)) x (f x) (by rw[y_];simpa[T2]using h);rw[y_]at this;show some (D.dic (cz (T.map fun x=>(kI x,f x)) (kI x) (f x)))=_;have e:cz (T.map fun x=>(kI x,f x)) (kI x) (f x)=(T++[x]).map fun x=>(kI x,f x):=by refine Ws this ?_;rw[QL,y_,QL];rfl
 rw[e]
theorem N5{row T:List Nat}{a:Nat->Nat}(h:∃x∈row,x∈T)(hl:row.length<=1000):fN [TN row,LD T a]=.ok (nD (Rg.best row T)):=by
 refine bp (B:=oC) (n:=2) ?_;unfold oC;have hc:(cg 1 [1] (aF bv (gv 0)) (aD 0) (aV (f2 (gv 0) (gv 1) gE)) (gv 0)) [some (TN row),some (LD T a)]=.ok (LN (row.filter fun x=>decide (x∈T))):=by
  refine fX nD (fun x=>decide (x∈T)) nD (l:=row) rfl hl fun x _=>⟨[some (nD x),some (LD T a)],rfl,?_,fun _=>rfl⟩
  exact bD (au (a:=nD x) (b:=LD T a) rfl rfl (GN _ _ _))
 have hb:∃t,(row.filter fun x=>decide (x∈T))=Rg.best row T::t:=by unfold Rg.best;rw[ye];cases e:row.filter fun x=>decide (x∈T)with
 |nil=>obtain⟨x,h1,h2⟩:=h;have:x∈row.filter fun x=>decide (x∈T):=l_.mpr ⟨h1,by simpa using h2⟩;rw[e]at this;cases this
 |cons a t=>exact⟨t,rfl⟩
 obtain⟨t,ht⟩:=hb;rw[ht]at hc;exact aU (bc (au hc (b:=.int 0) rfl (ixA_L0 _ _)))
theorem CH(l:List Nat)(t:Nat):mP (LN l) [nD t]=some (nD (l.count t)):=by
 show(if bY (nD t)=true/\(l.map nD).all bY=true then some (D.int (((l.map nD).countP fun z=>eqs z (nD t):Nat):Int))else none)=_;rw[if_pos ⟨rfl,pM l⟩,WV];show some (D.int ((l.countP ((fun z=>eqs z (nD t))∘nD):Nat):Int))=some (D.int ((l.count t:Nat):Int));have:(fun z=>eqs z (nD t))∘nD=fun z=>z==t:=by funext z;show eqs (nD z) (nD t)=_;rw[Ar];by_cases h:z=t <;> simp[h]
 rw[this];rfl
theorem HA(p q:Int×Nat):fA (FR p) (FR q)=some (decide (p=q)):=by
 have sh:∀x:Int×Nat,bQ 60 (FR x):=fun x=>jO.mpr fun e he=>by simp at he;rcases he with rfl|rfl <;> trivial
 rw[qL rfl (sh p) (sh q)];unfold ke;simp only[bb,zc9,TK,Rt];congr 1;rw[N_];simp;constructor
 .rintro⟨h1,h2⟩
  exact W6 h1 (by omega)
 .rintro rfl
  exact⟨rfl,rfl⟩
theorem BU(p q:Int×Nat):neD (FR p) (FR q)=some (.bl (! decide (p=q))):=by unfold neD;rw[HA];rfl
theorem Ir(a:Nat):neD (QF a) (.tup [.int 0,.int 1])=some (.bl (decide (a≠0))):=by
 have:=BU (Qd (a:Int)) (0,1);rw[<-kj]at this;have e:decide (Qd (a:Int)=Qd 0)=decide (a=0):=by
  rw[N_,decide_eq_true_iff,decide_eq_true_iff];constructor
  .intro h;have:=Hn h;omega
  .rintro rfl;rfl
 rw[e]at this;rw[kj]at this;refine Ws this ?_;simp
end Law
end
section
set_option exponentiation.threshold 3000
namespace Law
open PySem PyProof.Rows L2 DL Fq
structure Sq(rz:List (List Nat))(n:Nat):Prop where
 n1:1<=n
 n7:n<=7
 rl:rz.length=n
 rp:∀row∈rz,row.Perm (a_ n)
section
variable{rz:List (List Nat)}{n:Nat}
theorem Sq.row(R:Sq rz n){h:Nat}(hh:h<n):(Wr rz h).Perm (a_ n):=by unfold Wr;rw[b_ (by rw[R.rl];exact hh)];exact R.rp _ (QS _)
theorem Sq.rw(R:Sq rz n):Et.Rw (Wr rz) n:=⟨R.n1,R.n7,fun h x hh hx=>(R.row hh).mem_iff.mpr (n_.mpr hx)⟩
theorem Sq.len(R:Sq rz n):lenD [WD rz]=some (nD n):=by rw[lE,R.rl]
theorem Sq.things(R:Sq rz n):fO [WD rz]=.ok (nD n):=by cases e:rz with
|nil=>have:=R.rl;have:=R.n1;rw[e]at *;simp at *;omega
|cons r rest=>rw[rG,(R.rp r (by rw[e];exact d_)).length_eq,QR]
theorem Sq.at(R:Sq rz n){h:Nat}(hh:h<n):aH (WD rz) (nD h)=some (TN (Wr rz h)):=dw (qj (by rw[R.rl];exact hh))
theorem Sq.map(R:Sq rz n):rz=(a_ n).map (Wr rz):=by
 refine RA fun i=>?_;rw[t_];by_cases hi:i<n
 .rw[QH hi,b_ (by rw[R.rl];exact hi)];unfold Wr;rw[Sl,b_ (by rw[R.rl];exact hi)];rfl
 .rw[z_ (by rw[R.rl];omega),z_ (by simp;omega)];rfl
end
theorem Nj{T ts:List Nat}{a:Nat->Nat}(hne:ts≠[])(hl:ts.length<=7)(h:∀x∈ts,x∈T/\ts.count x∣a x/\a x<=DD):sI [LD T a,LN ts]=.ok (QF (Et.bi (ts.map fun x=>a x/ts.count x))):=by
 refine bp (B:=zo) (n:=2) ?_;unfold zo;have hc:(cg 1 [0,1] (aF bv (gv 1)) (aD 0) (fun _=>Res.ok true) (aC (ai (f2 (gv 1) (gv 0) aH) (ai (aC (ai (ci 1) (ai (fM "list" (gv 2) (ai (gv 0) ae) mP) ae)) [] fY) ae)) [] jM)) [some (LD T a),some (LN ts)]=.ok (.lst ((ts.map fun x=>a x/ts.count x).map QF)):=by
  rw[y_];refine iA (l:=ts) nD (fun x=>QF (a x/ts.count x)) rfl (by omega) fun x hx=>⟨[some (nD x),some (LD T a),some (LN ts)],rfl,?_⟩
  obtain⟨h1,h2,h3⟩:=h x hx;have h4:0<ts.count x:=Wb.mpr hx;have h5:ts.count x<=7:=O_ Uk hl;exact aK (aj (au (a:=LD T a) (b:=nD x) rfl rfl (nz h1)) (aj (aK (aj (d:=.int 1) rfl (aj (pL (d:=LN ts) rfl rfl (aj (d:=nD x) rfl ap) (CH ts x)) ap)) (Qz h4 h5)) ap)) (rd h4 h5 h3 h2)
 refine aU (bc (aK (aj hc ap) (N7 (by simpa using hne) fun y hy=>?_)));obtain⟨x,hx,rfl⟩:=r_.mp hy;exact O_ (Vz _ _) (h x hx).2.2
theorem Cf{T ts:List Nat}{a:Nat->Nat}{s:Nat}(hs:s<=DD)(hts:ts.length<=7)(hT:T.length<=60)(ha:∀x∈T,a x<=DD)(hm:∀x,ts.count x*s<=a x):∀(l done:List Nat)(x4 x5:Option D),(done++l).Nodup->(∀x∈done++l,x∈T)->done.length+l.length<=60 ->∃y4 y5,aG (aD 4) F4 (l.map nD) [some (LD T a),some (LN ts),some (QF s),some (LD done fun x=>a x-ts.count x*s),x4,x5]=.nx [some (LD T a),some (LN ts),some (QF s),some (LD (done++l) fun x=>a x-ts.count x*s),y4,y5]
|[],done,x4,x5,_,_,_=>⟨x4,x5,by rw[Q0];exact d4⟩
|x::l,done,x4,x5,hn,hin,hl=>by have hx:x∈T:=hin x (by simp);have hxd:x∉done:=fun z=>(Rp.mp hn).2.2 x z x d_ rfl;have h5:ts.count x<=7:=O_ Uk hts;obtain⟨y4,y5,ih⟩:=Cf hs hts hT ha hm l (done++[x]) (some (nD x)) (some (FR ((ts.count x:Int),1))) (by simpa using hn) (by simpa using hin) (by simp at hl ⊢;omega);refine⟨y4,y5,?_⟩;rw[Q2,T4]at ih;rw[u_,<-ih];refine dO (r1:=[some (LD T a),some (LN ts),some (QF s),some (LD done fun x=>a x-ts.count x*s),some (nD x),x5]) rfl ?_;refine(ar (aO (aK (aj (pL (d:=LN ts) rfl rfl (aj (d:=nD x) rfl ap) (CH ts x)) (aj (d:=.int 1) rfl ap)) (Qy _)))).trans ?_;exact ar (h9 (d:=LD done fun x=>a x-ts.count x*s) (k:=nD x) (v:=QF (a x-ts.count x*s)) rfl (aK (aj (au (a:=LD T a) (b:=nD x) rfl rfl (nz hx)) (aj (aK (aj (d:=FR ((ts.count x:Int),1)) rfl (aj (d:=QF s) rfl ap)) (rt h5 hs)) ap)) (rm (ha x hx) (hm x))) rfl (uG (f:=fun x=>QF (a x-ts.count x*s)) hxd (by omega)))
theorem Oj{T ts:List Nat}{a:Nat->Nat}{s:Nat}(hn:T.Nodup)(hs:s<=DD)(hts:ts.length<=7)(hT:T.length<=60)(ha:∀x∈T,a x<=DD)(hm:∀x,ts.count x*s<=a x):rZ [LD T a,LN ts,QF s]=.ok (LD T fun x=>a x-ts.count x*s):=by obtain⟨y4,y5,e⟩:=Cf hs hts hT ha hm T [] none none (by simpa using hn) (by simp) (by simpa using hT);rw[Sr]at e;refine bp (B:=yJ) (n:=6) ?_;unfold yJ;refine(ar (aO (d:=LD [] fun x=>a x-ts.count x*s) rfl)).trans ?_;refine(ar ((dC (vI (d:=LD T a) rfl (vH T _))).trans e)).trans ?_;exact aU (bc (d:=LD T fun x=>a x-ts.count x*s) rfl)
theorem vK{T:List Nat}{a:Nat->Nat}:∀(l done:List Nat)(x2:Option D),(done++l).Nodup->(∀x∈l,x∈T)->done.length+l.length<=60 ->∃y2,aG (aD 2) FY (l.map nD) [some (LD T a),some (LD done a),x2]=.nx [some (LD T a),some (LD (done++l.filter fun x=>decide (a x≠0)) a),y2]
|[],done,x2,_,_,_=>⟨x2,by rw[List.filter_nil,Q0];exact d4⟩
|x::l,done,x2,hn,hin,hl=>by
  have hx:x∈T:=hin x (by simp);have hxd:x∉done:=fun z=>(Rp.mp hn).2.2 x z x d_ rfl;have t:=Ir (a x);by_cases h:a x=0
  .rw[decide_eq_false (fun z=>z h)]at t;obtain⟨y2,ih⟩:=vK (T:=T) (a:=a) l done (some (nD x)) (hn.sublist (X1 (List.sublist_cons_self x l) done)) (fun z hz=>hin z (i_ _ hz)) (by simp at hl;omega);refine⟨y2,?_⟩;rw[u_,QQ,if_neg (by simpa using h),<-ih];refine dO (r1:=[some (LD T a),some (LD done a),some (nD x)]) rfl ?_;exact ar ((bz (bD (au (au (a:=LD T a) (b:=nD x) rfl rfl (nz hx)) rfl t))).trans (e_skip _))
  .rw[decide_eq_true h]at t;obtain⟨y2,ih⟩:=vK (T:=T) (a:=a) l (done++[x]) (some (nD x)) (by simpa using hn) (fun z hz=>hin z (i_ _ hz)) (by simp at hl ⊢;omega);refine⟨y2,?_⟩;rw[Q2,T4]at ih;rw[u_,QQ,if_pos (by simpa using h),<-ih];refine dO (r1:=[some (LD T a),some (LD done a),some (nD x)]) rfl ?_;refine ar ((dj (bD (au (au (a:=LD T a) (b:=nD x) rfl rfl (nz hx)) rfl t))).trans ?_);exact ar (h9 (d:=LD done a) (k:=nD x) (v:=QF (a x)) rfl (au (a:=LD T a) (b:=nD x) rfl rfl (nz hx)) rfl (uG (f:=fun x=>QF (a x)) hxd (by omega)))
theorem Pm{T:List Nat}{a:Nat->Nat}(hn:T.Nodup)(hT:T.length<=60):rM [LD T a]=.ok (LD (T.filter fun x=>decide (a x≠0)) a):=by obtain⟨y2,e⟩:=vK (T:=T) (a:=a) T [] none (by simpa using hn) (fun _ h=>h) (by simpa using hT);rw[Sr]at e;refine K3 (B:=xI) (n:=3) ?_;unfold xI;refine(ar (aO (d:=LD [] a) rfl)).trans ?_;refine(ar ((dC (vI (d:=LD T a) rfl (vH T _))).trans e)).trans ?_;exact aU (bc (d:=LD (T.filter fun x=>decide (a x≠0)) a) rfl)
abbrev mD(p:List Nat×Nat×List Nat):D:=.tup [LN p.1,QF p.2.1,TN p.2.2]
abbrev LM(ms:List (List Nat×Nat×List Nat)):D:=.lst (ms.map mD)
section
variable{rz:List (List Nat)}{n:Nat}
theorem HR(T:List Nat)(a:Nat->Nat):f6 (LD T a)=some (! T.isEmpty):=by show some (!(T.map fun x=>(kI x,QF (a x))).isEmpty)=_;rw[List.isEmpty_map]
theorem Ff(R:Sq rz n):∀(k:Nat)(T:List Nat)(a:Nat->Nat)(ms:List (List Nat×Nat×List Nat))(x2 x4 x5 x6:Option D),Et.Ok n T a->(∀x∈T,a x<=DD)->T.length<k->T.length<=7->ms.length+T.length<=60 ->∃d1 y2 y4 y5 y6,dz iK FH FX k [some (WD rz),some (LD T a),x2,some (LM ms),x4,x5,x6]=.nx [some (WD rz),d1,y2,some (LM (ms++Et.cQ (Wr rz) n k T a)),y4,y5,y6]
|0,T,a,ms,x2,x4,x5,x6,_,_,hk,_,_=>absurd hk (by omega)
|k+1,T,a,ms,x2,x4,x5,x6,S,ha,hk,h7,hms=>by
  by_cases hT:T=[]
  .subst hT;refine⟨some (LD [] a),x2,x4,x5,x6,?_⟩;have e:Et.cQ (Wr rz) n (k+1) [] a=[]:=rfl;rw[e,Q0];exact n0 (fK (d:=LD [] a) rfl rfl)
  .have RW:=R.rw;have hn1:=R.n1;have hn7:=R.n7;have e:Et.cQ (Wr rz) n (k+1) T a=(Et.tgs (Wr rz) n T,Et.cH (Wr rz) n T a,T.filter fun x=>decide (x∉Et.bT (Wr rz) n T a))::Et.cQ (Wr rz) n k (Et.bT (Wr rz) n T a) (Et.cf (Wr rz) n T a):=by show(if T=[]then[]else _)=_;rw[if_neg hT]
   have hlt:=Et.eI RW S hT;have hts:(Et.tgs (Wr rz) n T).length=n:=Et.cL;have hin:∀x∈Et.tgs (Wr rz) n T,x∈T:=fun x hx=>Et.bV RW S hT hx;have hsp:Et.cH (Wr rz) n T a<=DD:=by obtain⟨x,h1,h2⟩:=Et.f8 (T:=T) (a:=a) RW;rw[h2];exact O_ (Vz _ _) (ha x (hin x h1))
   obtain⟨d1,y2,y4,y5,y6,ih⟩:=Ff R k (Et.bT (Wr rz) n T a) (Et.cf (Wr rz) n T a) (ms++[(Et.tgs (Wr rz) n T,Et.cH (Wr rz) n T a,T.filter fun x=>decide (x∉Et.bT (Wr rz) n T a))]) x2 (some (LN (Et.tgs (Wr rz) n T))) (some (QF (Et.cH (Wr rz) n T a))) (some (LD T (Et.cf (Wr rz) n T a))) (S.next RW hT) (fun x hx=>O_ (Nat.sub_le _ _) (ha x (l_.mp hx).1)) (by omega) (by omega) (by simp;omega);refine⟨d1,y2,y4,y5,y6,?_⟩;rw[Q2,T4,<-e]at ih;refine Ws ?_ ih;refine n4 (fK (d:=LD T a) rfl (by rw[HR];cases T with|nil=>exact absurd rfl hT|cons _ _=>rfl)) ?_;have htg:cg 1 [1] (aF bv (gv 0)) (aD 0) (fun _=>Res.ok true) (aC (ai (gv 0) (ai (gv 1) ae)) [] fN) [some (WD rz),some (LD T a),x2,some (LM ms),x4,x5,x6]=.ok (LN (Et.tgs (Wr rz) n T)):=by
    have hc:=iA (nl:=1) (cap:=[1]) (fi:=aF bv (gv 0)) (ft:=aD 0) (fe:=aC (ai (gv 0) (ai (gv 1) ae)) [] fN) (r:=[some (WD rz),some (LD T a),x2,some (LM ms),x4,x5,x6]) (l:=a_ n) (fun h=>TN (Wr rz h)) (fun h=>nD (Rg.best (Wr rz h) T)) (by
     refine fW (d:=WD rz) rfl ?_;show some (rz.map TN)=_
     conv=>lhs;rw[R.map]
     rw[y_];rfl) (by simp;omega) fun h hh=>⟨[some (TN (Wr rz h)),some (LD T a)],rfl,?_⟩
    .rw[hc];show Res.ok (D.lst _)=Res.ok (D.lst ((Et.tgs (Wr rz) n T).map nD));unfold Et.tgs;rw[y_];rfl
    .have hh':=n_.mp hh;have hp:=Rh.mpr hT;refine aK (aj (d:=TN (Wr rz h)) rfl (aj (d:=LD T a) rfl ap)) (N5 ⟨T[0],RW.has h _ hh' (S.lt _ (QS _)),QS _⟩ ?_);rw[(R.row hh').length_eq];simp;omega
   refine(ar (aO htg)).trans ?_;refine(ar (aO (d:=QF (Et.cH (Wr rz) n T a)) (aK (aj (d:=LD T a) rfl (aj (d:=LN (Et.tgs (Wr rz) n T)) rfl ap)) (Nj (by intro z;have:=congrArg US z;rw[hts]at this;simp at this;omega) (by omega) fun x hx=>⟨hin x hx,(Et.eN RW S hT hx).1,ha x (hin x hx)⟩)))).trans ?_;refine(ar (aO (d:=LD T (Et.cf (Wr rz) n T a)) (aK (aj (d:=LD T a) rfl (aj (d:=LN (Et.tgs (Wr rz) n T)) rfl (aj (d:=QF (Et.cH (Wr rz) n T a)) rfl ap))) (Oj S.nd hsp (by omega) (by omega) ha (fun x=>Et.eB x))))).trans ?_;refine(ar (aO (d:=LD (Et.bT (Wr rz) n T a) (Et.cf (Wr rz) n T a)) ?_)).trans ?_
   .show iS _ _=_;unfold iS;rw[aK (aj (d:=LD T (Et.cf (Wr rz) n T a)) rfl ap) (Pm S.nd (by omega))];rfl
   have em:LM (ms++[(Et.tgs (Wr rz) n T,Et.cH (Wr rz) n T a,T.filter fun x=>decide (x∉Et.bT (Wr rz) n T a))])=.lst (ms.map mD++[mD (Et.tgs (Wr rz) n T,Et.cH (Wr rz) n T a,T.filter fun x=>decide (x∉Et.bT (Wr rz) n T a))]):=by show D.lst (List.map mD _)=_;rw[QL];rfl
   rw[em];refine ar (hX (d:=LM ms) (ds:=[mD (Et.tgs (Wr rz) n T,Et.cH (Wr rz) n T a,T.filter fun x=>decide (x∉Et.bT (Wr rz) n T a))]) rfl rfl (aj (fV (aj (d:=LN (Et.tgs (Wr rz) n T)) rfl (aj (d:=QF (Et.cH (Wr rz) n T a)) rfl (aj (bL (aj (fX (l:=T) nD (fun x=>decide (x∉Et.bT (Wr rz) n T a)) nD (vI (d:=LD T (Et.cf (Wr rz) n T a)) rfl (vH T _)) (by omega) fun x hx=>⟨[some (nD x),some (LD (Et.bT (Wr rz) n T a) (Et.cf (Wr rz) n T a))],rfl,?_,fun _=>rfl⟩) ap) rfl) ap))) (by simp)) ap) (kM (by rw[m_];omega)));have:=Iu (Et.bT (Wr rz) n T a) (Et.cf (Wr rz) n T a) x;have e2:(! decide (x∈Et.bT (Wr rz) n T a))=decide (x∉Et.bT (Wr rz) n T a):=by simp
   rw[e2]at this;exact bD (au (a:=nD x) (b:=LD (Et.bT (Wr rz) n T a) (Et.cf (Wr rz) n T a)) rfl rfl this)
def c7(rz:List (List Nat))(n:Nat):List (List Nat×Nat×List Nat):=Et.cQ (Wr rz) n 64 (a_ n) fun _=>DD
theorem Ey(d0:D):∀(j i:Nat)(x2:Option D),i+j<=60->∃y2,aG (aD 2) FV ((VQ i j).map nD) [some d0,some (LD (a_ i) fun _=>DD),x2,none,none,none,none]=.nx [some d0,some (LD (a_ (i+j)) fun _=>DD),y2,none,none,none,none]
|0,i,x2,_=>⟨x2,d4⟩
|j+1,i,x2,h=>by
  obtain⟨y2,ih⟩:=Ey d0 j (i+1) (some (nD i)) (by omega);refine⟨y2,?_⟩;rw[show i+(j+1)=i+1+j by omega,<-ih,WH,u_];refine dO (r1:=[some d0,some (LD (a_ i) fun _=>DD),some (nD i),none,none,none,none]) rfl ?_;rw[TD];have e1:(.tup [.int 1,.int 1]:D)=QF DD:=by show _=FR (Qd (DD:Int));rw[Af];rfl
  exact ar (h9 (d:=LD (a_ i) fun _=>DD) (k:=nD i) (v:=QF DD) rfl (by rw[<-e1]) rfl (uG (f:=fun _=>QF DD) (by simp) (by simp;omega)))
theorem N8(R:Sq rz n):rL [WD rz]=.ok (LM (c7 rz n)):=by have hn7:=R.n7;obtain⟨y2,h1⟩:=Ey (WD rz) n 0 none (by omega);rw[TZ,<-Sw]at h1;obtain⟨d1,z2,z4,z5,z6,h2⟩:=Ff R 64 (a_ n) (fun _=>DD) [] y2 none none none (Et.Ok.init R.rw) (fun _ _=>q_ _) (by simp;omega) (by simpa using hn7) (by simp;omega);rw[Sr]at h2;refine bp (B:=xH) (n:=7) ?_;unfold xH;refine(ar (aO (d:=LD (a_ 0) fun _=>DD) rfl)).trans ?_;refine(ar ((dC (kN (aj (aK (aj (d:=WD rz) rfl ap) R.things) ap) (kJ (by omega)))).trans h1)).trans ?_;refine(ar (aO (d:=LM []) (hW ap (by simp)))).trans ?_;refine(ar h2).trans ?_;exact aU (bc (d:=LM (c7 rz n)) rfl)
end
end Law
end
section
set_option exponentiation.threshold 3000
namespace Law
open PySem PyProof.Rows L2 DL Fq
abbrev SL(n:Nat)(s:Nat->Nat):D:=.lst ((a_ n).map fun x=>QF (s x))
theorem GQ{n x:Nat}{s:Nat->Nat}(h:x<n):aH (SL n s) (nD x)=some (QF (s x)):=by refine pQ ?_;rw[t_,QH h];rfl
theorem Jz{n x v:Nat}{s:Nat->Nat}(h:x<n):dD (SL n s) (nD x) (QF v)=some (SL n fun y=>if y=x then v else s y):=by
 rw[qk (by simpa using h)];show some (D.lst _)=some (D.lst _);congr 2;refine RA fun i=>?_;by_cases hi:i<n
 .by_cases e:x=i
  .subst e;rw[p_ (by simpa using h),t_,QH h];simp
  .rw[j_ e,t_,t_,QH hi];simp[S0 e]
 .rw[z_ (by simp;omega),z_ (by simp;omega)]
theorem CS{d0 d2:D}{n h:Nat}(hh:h<n):∀(ms:List (List Nat×Nat×List Nat))(s:Nat->Nat)(x4 x5 x6 x7:Option D),(∀p∈ms,p.1.length=n/\∀t∈p.1,t<n)->(∀x,s x+Et.jW ms<=DD) ->∃y4 y5 y6 y7,aG (dW (bK (aD 4) (bK (aD 5) (bK (aD 6) dN)))) Gd (ms.map mD) [some d0,some (nD h),some d2,some (SL n s),x4,x5,x6,x7]=.nx [some d0,some (nD h),some d2,some (SL n fun x=>s x+Et.eV ms h x),y4,y5,y6,y7]
|[],s,x4,x5,x6,x7,_,_=>⟨x4,x5,x6,x7,d4⟩
|p::ms,s,x4,x5,x6,x7,hp,hs=>by
  obtain⟨h1,h2⟩:=hp p d_;have hhl:h<p.1.length:=by omega
  have ht:p.1.getD h 0<n:=by rw[x_,b_ hhl];exact h2 _ (QS _)
  have hb:=hs (p.1.getD h 0);rw[Et.cj]at hb;obtain⟨y4,y5,y6,y7,ih⟩:=CS (d0:=d0) (d2:=d2) hh ms (fun y=>if y=p.1.getD h 0 then s (p.1.getD h 0)+p.2.1 else s y) (some (LN p.1)) (some (QF p.2.1)) (some (TN p.2.2)) (some (nD (p.1.getD h 0))) (fun q hq=>hp q (i_ _ hq)) (fun x=>by
   have:=hs x;rw[Et.cj]at this;show(if x=p.1.getD h 0 then _ else _)+_<=_;by_cases e:x=p.1.getD h 0
   .rw[if_pos e];omega
   .rw[if_neg e];omega)
  refine⟨y4,y5,y6,y7,?_⟩;have ef:(fun x=>s x+Et.eV (p::ms) h x)=fun x=>(if x=p.1.getD h 0 then s (p.1.getD h 0)+p.2.1 else s x)+Et.eV ms h x:=by
   funext x;rw[Et.ck];by_cases e:x=p.1.getD h 0
   .rw[if_pos e,if_pos e.symm,e];omega
   .rw[if_neg e,if_neg (S0 e)];omega
  rw[ef,u_,<-ih];refine dO (r1:=[some d0,some (nD h),some d2,some (SL n s),some (LN p.1),some (QF p.2.1),some (TN p.2.2),x7]) rfl ?_;refine(ar (aO (d:=nD (p.1.getD h 0)) (au (a:=LN p.1) (b:=nD h) rfl rfl (pQ ?_)))).trans ?_
  .rw[t_,b_ hhl,x_,b_ hhl];rfl
  exact ar (h9 (d:=SL n s) (k:=nD (p.1.getD h 0)) (v:=QF (s (p.1.getD h 0)+p.2.1)) rfl (aK (aj (au (a:=SL n s) (b:=nD (p.1.getD h 0)) rfl rfl (GQ ht)) (aj (d:=QF p.2.1) rfl ap)) (rp (by omega) (by omega))) rfl (Jz ht))
section
variable{rz:List (List Nat)}{n:Nat}
theorem BH(R:Sq rz n):∀(k:Nat)(T:List Nat)(a:Nat->Nat),Et.Ok n T a->∀p∈Et.cQ (Wr rz) n k T a,p.1.length=n/\∀t∈p.1,t<n
|0,T,a,S,p,hp=>by cases hp
|k+1,T,a,S,p,hp=>by
  by_cases hT:T=[]
  .subst hT;cases hp
  .have e:Et.cQ (Wr rz) n (k+1) T a=(Et.tgs (Wr rz) n T,Et.cH (Wr rz) n T a,T.filter fun x=>decide (x∉Et.bT (Wr rz) n T a))::Et.cQ (Wr rz) n k (Et.bT (Wr rz) n T a) (Et.cf (Wr rz) n T a):=by show(if T=[]then[]else _)=_;rw[if_neg hT]
   rw[e]at hp;rcases w_.mp hp with rfl|hp
   .exact⟨Et.cL,fun t ht=>S.lt t (Et.bV R.rw S hT ht)⟩
   .exact BH R k _ _ (S.next R.rw hT) p hp
theorem CL(R:Sq rz n):∀(k:Nat)(T:List Nat)(a:Nat->Nat),Et.Ok n T a->(Et.cQ (Wr rz) n k T a).length<=T.length
|0,T,a,S=>by show 0<=_;omega
|k+1,T,a,S=>by
  by_cases hT:T=[]
  .subst hT;exact q_ _
  .have e:Et.cQ (Wr rz) n (k+1) T a=(Et.tgs (Wr rz) n T,Et.cH (Wr rz) n T a,T.filter fun x=>decide (x∉Et.bT (Wr rz) n T a))::Et.cQ (Wr rz) n k (Et.bT (Wr rz) n T a) (Et.cf (Wr rz) n T a):=by show(if T=[]then[]else _)=_;rw[if_neg hT]
   have:=CL R k _ _ (S.next R.rw hT);have hlt:=Et.eI R.rw S hT;rw[e,Rl];omega
theorem Jj(R:Sq rz n):∀p∈c7 rz n,p.1.length=n/\∀t∈p.1,t<n:=BH R 64 _ _ (Et.Ok.init R.rw)
theorem Cr(R:Sq rz n):Et.jW (c7 rz n)=DD:=Et.kg R.rw (by have:=R.n7;omega)
theorem Cq(R:Sq rz n):(c7 rz n).length<=7:=by have:=CL R 64 _ _ (Et.Ok.init R.rw);have:=R.n7;unfold c7;simp at *;omega
def tbN(rz:List (List Nat))(n h x:Nat):Nat:=Et.eV (c7 rz n) h x
def lQ(rz:List (List Nat))(n h:Nat):List (Int×Nat):=(a_ n).map fun x=>Qd ((tbN rz n h x:Nat):Int)
theorem Il(n:Nat):(F_ n [FR (0,1)]).flatten=(a_ n).map fun _=>QF 0:=by
 have e:QF 0=FR (0,1):=by show FR (Qd ((0:Nat):Int))=_;rw[show((0:Nat):Int)=0 from rfl,kj]
 rw[e]
 induction n with
|zero=>rfl
|succ n ih=>rw[List.replicate_succ',List.flatten_append,ih,TD,QL];rfl
theorem LJ(ds:List D)(k:Int):j5 (.lst ds) (.int k)=if-(2^62)<=k/\k<2^62/\ds.length*k.toNat<=sizeLine then some (.lst ((F_ k.toNat ds).flatten))else none:=rfl
theorem Ov(R:Sq rz n){h:Nat}(hh:h<n):rq [WD rz,nD h,LM (c7 rz n)]=.ok (TF (lQ rz n h)):=by
 have hn7:=R.n7;obtain⟨y4,y5,y6,y7,e⟩:=CS (d0:=WD rz) (d2:=LM (c7 rz n)) hh (c7 rz n) (fun _=>0) none none none none (Jj R) (fun _=>by rw[Cr R];omega);refine bp (B:=yt) (n:=8) ?_;unfold yt;refine(ar (aO (d:=SL n fun _=>0) (au (a:=.lst [FR (0,1)]) (b:=nD n) (hW (aj (d:=FR (0,1)) rfl ap) (by simp)) (aK (aj (d:=WD rz) rfl ap) R.things) ?_))).trans ?_
 .rw[LJ,if_pos ⟨by omega,by omega,by rw[QZ,Ry,Te];omega⟩,Ry,Il]
 refine(ar ((dC (fW (d:=LM (c7 rz n)) rfl rfl)).trans e)).trans ?_;refine aU (bc (bL (aj (d:=SL n fun x=>0+Et.eV (c7 rz n) h x) rfl ap) ?_));rw[e_tupL];show some (D.tup _)=some (D.tup ((lQ rz n h).map FR));unfold lQ tbN;rw[y_];congr 2;refine QI fun x _=>?_;show QF (0+Et.eV (c7 rz n) h x)=_;rw[TZ];rfl
abbrev eD(e:Nat×List Nat):D:=.tup [QF e.1,TN e.2]
theorem Ck{d0:D}:∀(ms:List (List Nat×Nat×List Nat))(lg:List D)(s:Nat)(x3 x4 x5:Option D),s+Et.jW ms<=DD->lg.length+ms.length<=100 ->∃s' y3 y4 y5,aG (dW (bK (aD 3) (bK (aD 4) (bK (aD 5) dN)))) EU (ms.map mD) [some d0,some (.lst lg),some (QF s),x3,x4,x5]=.nx [some d0,some (.lst (lg++(Et.cO s ms).map eD)),some (QF s'),y3,y4,y5]
|[],lg,s,x3,x4,x5,_,_=>⟨s,x3,x4,x5,by rw[show(Et.cO s []).map eD=[]from rfl,Q0];exact d4⟩
|p::ms,lg,s,x3,x4,x5,hs,hl=>by
  rw[Et.cj]at hs;rw[Rl]at hl;obtain⟨s',y3,y4,y5,ih⟩:=Ck (d0:=d0) ms (lg++[.tup [QF (s+p.2.1),TN p.2.2]]) (s+p.2.1) (some (LN p.1)) (some (QF p.2.1)) (some (TN p.2.2)) (by omega) (by simp;omega);refine⟨s',y3,y4,y5,?_⟩;have e:lg++(Et.cO s (p::ms)).map eD=lg++[.tup [QF (s+p.2.1),TN p.2.2]]++(Et.cO (s+p.2.1) ms).map eD:=by rw[Q2];rfl
  rw[u_,e,<-ih];refine dO (r1:=[some d0,some (.lst lg),some (QF s),some (LN p.1),some (QF p.2.1),some (TN p.2.2)]) rfl ?_;refine(ar (aO (d:=QF (s+p.2.1)) (aK (aj (d:=QF s) rfl (aj (d:=QF p.2.1) rfl ap)) (rp (by omega) (by omega))))).trans ?_;exact ar (hX (d:=.lst lg) (ds:=[.tup [QF (s+p.2.1),TN p.2.2]]) rfl rfl (aj (fV (aj (d:=QF (s+p.2.1)) rfl (aj (d:=TN p.2.2) rfl ap)) (by simp)) ap) (kM (by omega)))
abbrev jq(rz:List (List Nat))(n:Nat):D:=.lst ((Et.cO 0 (c7 rz n)).map eD)
theorem K1(R:Sq rz n):qI [LM (c7 rz n)]=.ok (jq rz n):=by
 obtain⟨s',y3,y4,y5,e⟩:=Ck (d0:=LM (c7 rz n)) (c7 rz n) [] 0 none none none (by rw[Cr R];omega) (by have:=Cq R;simp;omega);have e0:QF 0=.tup [.int 0,.int 1]:=by show FR (Qd ((0:Nat):Int))=_;rw[show((0:Nat):Int)=0 from rfl,kj];rfl
 refine bp (B:=wM) (n:=6) ?_;unfold wM;refine(ar (aO (d:=.lst []) (hW ap (by simp)))).trans ?_;refine(ar (aO (d:=QF 0) (by rw[e0]))).trans ?_;refine(ar ((dC (fW (d:=LM (c7 rz n)) rfl rfl)).trans e)).trans ?_;exact aU (bc (d:=jq rz n) rfl)
abbrev i4(l:List (List (Int×Nat))):D:=.tup (l.map TF)
def tbl(rz:List (List Nat))(n:Nat):List (List (Int×Nat)):=(a_ n).map (lQ rz n)
theorem Ow(R:Sq rz n):rj [WD rz]=.ok (.bl true):=by refine bp (B:=yq) (n:=1) ?_;unfold yq;exact aU (bc (au (a:=nD n) (b:=nD n) (aK (aj (d:=WD rz) rfl ap) R.things) (bL (aj (d:=WD rz) rfl ap) R.len) (wE n)))
theorem Ou(R:Sq rz n):sL [WD rz]=.ok .non:=by
 show aB false (sK (aS 1 [WD rz]))=_;have:sK (aS 1 [WD rz])=.nx [some (WD rz)]:=by unfold sK;exact ar ((bz (kE (b:=true) (fK (aK (aj (d:=WD rz) rfl ap) (Ow R)) rfl))).trans (e_skip _))
 rw[this];rfl
theorem KM{m:List Md}{f:FE}{r:ao}{d:D}(h:f r=.ok d):pJ m f r=.nx r:=by unfold pJ;rw[h];rfl
theorem El(R:Sq rz n):nW [WD rz]=.ok (.tup [i4 (tbl rz n),jq rz n]):=by
 have hn7:=R.n7;have hd:=K1 R;refine bp (B:=uQ) (n:=3) ?_;unfold uQ;refine(ar (KM (aK (aj (d:=WD rz) rfl ap) (Ou R)))).trans ?_;refine(ar (aO (aK (aj (d:=WD rz) rfl ap) (N8 R)))).trans ?_;refine(ar (aO (d:=i4 (tbl rz n)) (bL (aj (iA (l:=a_ n) nD (fun h=>TF (lQ rz n h)) (kN (aj (bL (aj (d:=WD rz) rfl ap) R.len) ap) (kJ (by omega))) (by simp;omega) fun h hh=>⟨[some (nD h),some (WD rz),some (LM (c7 rz n))],rfl,aK (aj (d:=WD rz) rfl (aj (d:=nD h) rfl (aj (d:=LM (c7 rz n)) rfl ap))) (Ov R (n_.mp hh))⟩) ap) ?_))).trans ?_
 .rw[e_tupL];show some (D.tup _)=some (D.tup ((tbl rz n).map TF));unfold tbl;rw[y_];rfl
 exact aU (bc (fV (aj (d:=i4 (tbl rz n)) rfl (aj (aK (aj (d:=LM (c7 rz n)) rfl ap) hd) ap)) (by simp)))
end
end Law
end
namespace Law
open PySem PyProof.Rows L2 DL Rg
theorem ij{l:List Nat}{i:Nat}(h:i<l.length):(l.map nD)[i]? = some (nD (aL l i)):=by unfold aL;rw[t_,b_ h];rfl
section
variable{p q:Nat->Nat}
def cT(p:Nat->Nat)(w:Nat->Bool)(v:Nat->D)(g:List D)(i:Nat):List D:=if w i=true then g.set (p i) (v i)else g
theorem Cv(b:Bij p q)(w:Nat->Bool)(v:Nat->D):∀(l:List Nat)(g:List D),l.Nodup->(∀i∈l,p i<g.length) ->∀k,(l.foldl (cT p w v) g)[k]? = if q k∈l/\w (q k)=true then some (v (q k))else g[k]?
|[],g,_,_,k=>by simp
|i::l,g,hn,hl,k=>by
  have hn':=Q1.mp hn;have h0:=hl i d_;have hg:(cT p w v g i).length=g.length:=by unfold cT;split <;> simp
  rw[So,Cv b w v l (cT p w v g i) hn'.2 (fun j hj=>by rw[hg];exact hl j (i_ _ hj)) k];by_cases e:q k=i
  .have hk:k=p i:=by rw[<-e,b.r]
   subst hk;rw[b.l]at e ⊢;rw[if_neg fun z=>hn'.1 z.1];unfold cT;by_cases hw:w i=true
   .rw[if_pos hw,if_pos ⟨d_,hw⟩,p_ h0]
   .rw[if_neg hw,if_neg fun z=>hw z.2]
  .have hk:p i≠k:=fun z=>e (by rw[<-z,b.l]);have h1:(cT p w v g i)[k]? = g[k]?:=by
    unfold cT;split
    .exact j_ hk
    .rfl
   rw[h1];have:(q k∈i::l)↔q k∈l:=by simp[e]
   simp only[this]
theorem wA(b:Bij p q){n:Nat}(hp:∀x,p x<n↔x<n)(w:Nat->Bool)(v:Nat->D)(z:D):(a_ n).foldl (cT p w v) ((a_ n).map fun _=>z)=(a_ n).map fun k=>if w (q k)=true then v (q k)else z:=by
 refine RA fun k=>?_;rw[Cv b w v _ _ QU fun i hi=>by simp;exact(hp i).mpr (n_.mp hi)];by_cases hk:k<n
 .have hq:q k<n:=(hp _).mp (by rw[b.r];exact hk);rw[t_,t_,QH hk];by_cases hw:w (q k)=true
  .rw[if_pos ⟨n_.mpr hq,hw⟩];simp[hw]
  .rw[if_neg fun y=>hw y.2];simp[hw]
 .have hq:¬ q k<n:=fun z=>hk (by rw[<-b.r k];exact(hp _).mpr z);rw[if_neg fun y=>hq (n_.mp y.1),z_ (by simp;omega),z_ (by simp;omega)]
end
theorem qr{b:FS}{d0 d1 d2:D}{n:Nat}{p:Nat->Nat}{w:Nat->Bool}{v e:Nat->D}(hb:∀(i:Nat)(g:List D),i<n->g.length=n->b [some d0,some d1,some d2,some (.lst g),some (nD i),some (e i)]=.nx [some d0,some d1,some d2,some (.lst (cT p w v g i)),some (nD i),some (e i)]):∀(j i:Nat)(g:List D)(x y:Option D),i+j=n->g.length=n->∃x' y',aG (dW (bK (aD 4) (bK (aD 5) dN))) b (cZ i ((VQ i j).map e)) [some d0,some d1,some d2,some (.lst g),x,y]=.nx [some d0,some d1,some d2,some (.lst ((VQ i j).foldl (cT p w v) g)),x',y']
|0,i,g,x,y,_,_=>⟨x,y,d4⟩
|j+1,i,g,x,y,h,hg=>by obtain⟨x',y',ih⟩:=qr hb j (i+1) (cT p w v g i) (some (nD i)) (some (e i)) (by omega) (by rw[<-hg];unfold cT;split <;> simp);refine⟨x',y',?_⟩;rw[WH,u_,So,<-ih];exact dO (r1:=[some d0,some d1,some d2,some (.lst g),some (nD i),some (e i)]) rfl (hb i g (by omega) hg)
theorem vS{f:FE}{r:ao}{d:D}{ds:List D}(h1:f r=.ok d)(h2:bv d=some ds):gr f r=.ok (cZ 0 ds):=by unfold gr;rw[h1,bind_ok,h2,opt_some,bind_ok]
section
variable{hs ts:List Nat}{n m:Nat}
def j6(hs ts:List Nat)(n:Nat)(a:Nat->Nat)(k:Nat):Nat:=aL ts (a (dJ hs k))
def aM(hs ts:List Nat)(n:Nat)(rz:List (List Nat)):List (List Nat):=(a_ n).map fun k=>(Wr rz (dJ hs k)).map (aL ts)
def cw(hs ts:List Nat)(n:Nat)(owns:List (Option Nat)):List (Option Nat):=(a_ n).map fun k=>(own owns (dJ hs k)).map (aL ts)
theorem d5{l:List Nat}{n:Nat}(h:l.Perm (a_ n)):l.length=n:=by rw[h.length_eq,QR]
theorem wV(hh:hs.Perm (a_ n))(ht:ts.Perm (a_ m))(h60:n<=60){a:Nat->Nat}(ha:∀h,h<n->a h<m):nh [TN ((a_ n).map a),TN hs,TN ts]=.ok (TN ((a_ n).map (j6 hs ts n a))):=by have b:=iw hh;have hl:=d5 hh;obtain⟨x',y',e⟩:=qr (b:=FZ) (d0:=TN ((a_ n).map a)) (d1:=TN hs) (d2:=TN ts) (n:=n) (p:=aL hs) (w:=fun _=>true) (v:=fun i=>nD (aL ts (a i))) (e:=fun i=>nD (a i)) (fun i g hi hg=>ar (h9 (d:=.lst g) (k:=nD (aL hs i)) (v:=nD (aL ts (a i))) rfl (au (a:=TN ts) (b:=nD (a i)) rfl rfl (dw (ij (by rw[d5 ht];exact ha i hi)))) (au (a:=TN hs) (b:=nD i) rfl rfl (dw (ij (by omega)))) (qk (by rw[hg];exact(eQ hh).mpr hi)))) n 0 ((a_ n).map fun _=>.non) none none (by omega) (by simp);rw[<-Sw,wA b (fun x=>eQ hh)]at e;refine bp (B:=yE) (n:=6) ?_;unfold yE;refine(ar (aO (iA (l:=hs) nD (fun _=>.non) (fW (d:=TN hs) rfl rfl) (by omega) fun x hx=>⟨[some (nD x)],rfl,rfl⟩))).trans ?_;rw[show hs.map (fun _=>D.non)=(a_ n).map fun _=>D.non by rw[R0,R0,hl,QR]];refine(ar ((dC (vS (d:=TN ((a_ n).map a)) (ds:=(a_ n).map fun i=>nD (a i)) rfl (by show some (((a_ n).map a).map nD)=_;rw[y_];rfl))).trans e)).trans ?_;refine aU (bc (bL (aj (d:=.lst _) rfl ap) ?_));rw[e_tupL];show some (D.tup _)=some (D.tup _);rw[y_];rfl
theorem HV{rz:List (List Nat)}{i:Nat}(h:i<rz.length):rz[i]? = some (Wr rz i):=by unfold Wr;rw[b_ h];rfl
theorem Lm{owns:List (Option Nat)}{i:Nat}(h:i<owns.length):owns[i]? = some (own owns i):=by unfold own;rw[b_ h];rfl
theorem LP{rz:List (List Nat)}{n:Nat}(h:rz.length=n):rz=(a_ n).map (Wr rz):=by
 refine RA fun i=>?_;by_cases hi:i<n
 .rw[HV (by omega),t_,QH hi];rfl
 .rw[z_ (by omega),z_ (by simp;omega)]
theorem Lo{owns:List (Option Nat)}{n:Nat}(h:owns.length=n):owns=(a_ n).map (own owns):=by
 refine RA fun i=>?_;by_cases hi:i<n
 .rw[Lm (by omega),t_,QH hi];rfl
 .rw[z_ (by omega),z_ (by simp;omega)]
theorem Oy(hh:hs.Perm (a_ n))(ht:ts.Perm (a_ m))(h60:n<=60)(m60:m<=60){rz:List (List Nat)}(hr:rz.length=n)(hp:∀row∈rz,row.Perm (a_ m)):ss [WD rz,TN hs,TN ts]=.ok (WD (aM hs ts n rz)):=by
 have b:=iw hh;have hl:=d5 hh;have hrow:∀i,i<n->(Wr rz i).Perm (a_ m):=fun i hi=>by unfold Wr;rw[b_ (by omega)];exact hp _ (QS _)
 obtain⟨x',y',e⟩:=qr (b:=Gh) (d0:=WD rz) (d1:=TN hs) (d2:=TN ts) (n:=n) (p:=aL hs) (w:=fun _=>true) (v:=fun i=>TN ((Wr rz i).map (aL ts))) (e:=fun i=>TN (Wr rz i)) (fun i g hi hg=>ar (h9 (d:=.lst g) (k:=nD (aL hs i)) (v:=TN ((Wr rz i).map (aL ts))) rfl (bL (aj (iA (l:=Wr rz i) nD (fun x=>nD (aL ts x)) (fW (d:=TN (Wr rz i)) rfl rfl) (by rw[d5 (hrow i hi)];omega) fun x hx=>⟨[some (nD x),some (TN ts)],rfl,au (a:=TN ts) (b:=nD x) rfl rfl (dw (ij (by rw[d5 ht];exact n_.mp ((hrow i hi).mem_iff.mp hx))))⟩) ap) (by rw[e_tupL];show some (D.tup _)=some (D.tup _);rw[y_];rfl)) (au (a:=TN hs) (b:=nD i) rfl rfl (dw (ij (by omega)))) (qk (by rw[hg];exact(eQ hh).mpr hi)))) n 0 ((a_ n).map fun _=>.tup []) none none (by omega) (by simp);rw[<-Sw,wA b (fun x=>eQ hh)]at e;refine bp (B:=yy) (n:=6) ?_;unfold yy;refine(ar (aO (iA (l:=hs) nD (fun _=>.tup []) (fW (d:=TN hs) rfl rfl) (by omega) fun x hx=>⟨[some (nD x)],rfl,fV ap (by simp)⟩))).trans ?_;rw[show hs.map (fun _=>D.tup [])=(a_ n).map fun _=>D.tup []by rw[R0,R0,hl,QR]];refine(ar ((dC (vS (d:=WD rz) (ds:=(a_ n).map fun i=>TN (Wr rz i)) rfl (by
  show some (rz.map TN)=_
  conv=>lhs;rw[LP hr]
  rw[y_];rfl))).trans e)).trans ?_
 refine aU (bc (bL (aj (d:=.lst _) rfl ap) ?_));rw[e_tupL];show some (D.tup _)=some (D.tup ((aM hs ts n rz).map TN));unfold aM;rw[y_];rfl
theorem Oa(hh:hs.Perm (a_ n))(ht:ts.Perm (a_ m))(h60:n<=60){owns:List (Option Nat)}(hr:owns.length=n)(ho:∀x,some x∈owns->x<m):rX [OD owns,TN hs,TN ts]=.ok (OD (cw hs ts n owns)):=by
 have b:=iw hh;have hl:=d5 hh;have hi2:∀i x,own owns i=some x->x<m:=fun i x hx=>ho x (og hx).1;obtain⟨x',y',e⟩:=qr (b:=F0) (d0:=OD owns) (d1:=TN hs) (d2:=TN ts) (n:=n) (p:=aL hs) (w:=fun i=>(own owns i).isSome) (v:=fun i=>oD ((own owns i).map (aL ts))) (e:=fun i=>oD (own owns i)) (fun i g hi hg=>by unfold cT;cases ex:own owns i with
 |none=>rw[if_neg (by simp[ex])];exact ar ((bz (bD (au (a:=.non) (b:=.non) rfl rfl rfl))).trans (e_skip _))
 |some x=>rw[if_pos (by simp[ex])];simp only[ex,Sl];exact ar ((dj (bD (au (a:=nD x) (b:=.non) rfl rfl rfl))).trans (ar (h9 (d:=.lst g) (k:=nD (aL hs i)) (v:=nD (aL ts x)) rfl (au (a:=TN ts) (b:=nD x) rfl rfl (dw (ij (by rw[d5 ht];exact hi2 i x ex)))) (au (a:=TN hs) (b:=nD i) rfl rfl (dw (ij (by omega)))) (qk (by rw[hg];exact(eQ hh).mpr hi)))))) n 0 ((a_ n).map fun _=>.non) none none (by omega) (by simp)
 rw[<-Sw,wA b (fun x=>eQ hh)]at e;refine bp (B:=yF) (n:=6) ?_;unfold yF;refine(ar (aO (iA (l:=hs) nD (fun _=>.non) (fW (d:=TN hs) rfl rfl) (by omega) fun x hx=>⟨[some (nD x)],rfl,rfl⟩))).trans ?_;rw[show hs.map (fun _=>D.non)=(a_ n).map fun _=>D.non by rw[R0,R0,hl,QR]];refine(ar ((dC (vS (d:=OD owns) (ds:=(a_ n).map fun i=>oD (own owns i)) rfl (by
  show some (owns.map oD)=_
  conv=>lhs;rw[Lo hr]
  rw[y_];rfl))).trans e)).trans ?_
 refine aU (bc (bL (aj (d:=.lst _) rfl ap) ?_));rw[e_tupL];show some (D.tup _)=some (D.tup ((cw hs ts n owns).map oD));unfold cw;rw[y_];refine congrArg (fun l=>some (D.tup l)) (QI fun k _=>?_);show(if (own owns (dJ hs k)).isSome=true then oD ((own owns (dJ hs k)).map (aL ts))else .non)=oD ((own owns (dJ hs k)).map (aL ts));cases own owns (dJ hs k) <;> rfl
end
end Law
namespace Law
open PySem PyProof.Rows L2 DL
section
structure Rws(rz:List (List Nat))(n m:Nat):Prop where
 n1:1<=n
 n7:n<=7
 nm:n<=m
 m8:m<=8
 rl:rz.length=n
 rp:∀row∈rz,row.Perm (a_ m)
section
variable{rz:List (List Nat)}{n m:Nat}
theorem Rws.row(R:Rws rz n m){h:Nat}(hh:h<n):(Wr rz h).Perm (a_ m):=by unfold Wr;rw[b_ (by rw[R.rl];exact hh)];exact R.rp _ (QS _)
theorem Rws.has(R:Rws rz n m){h x:Nat}(hh:h<n)(hx:x<m):x∈Wr rz h:=(R.row hh).mem_iff.mpr (n_.mpr hx)
theorem Rws.one(R:Rws rz n m){h:Nat}{T:List Nat}(hh:h<n)(hT:0<T.length)(hm:∀x∈T,x<m):∃x∈Wr rz h,x∈T:=⟨T[0],R.has hh (hm _ (QS _)),QS _⟩
theorem Rws.best(R:Rws rz n m){h:Nat}{T:List Nat}(hh:h<n)(hT:0<T.length)(hm:∀x∈T,x<m):fN [TN (Wr rz h),LN T]=.ok (nD (Rg.best (Wr rz h) T)):=DT (R.one hh hT hm) (by rw[(R.row hh).length_eq];have:=R.m8;simp;omega)
theorem Rws.inT(R:Rws rz n m){h:Nat}{T:List Nat}(hh:h<n)(hT:0<T.length)(hm:∀x∈T,x<m):Rg.best (Wr rz h) T∈T:=Rg.n5 (R.one hh hT hm)
theorem Rws.at0(R:Rws rz n m):∃r rest,rz=r::rest/\r.length=m:=by cases e:rz with
|nil=>have:=R.rl;have:=R.n1;rw[e]at *;simp at *;omega
|cons r rest=>exact⟨r,rest,rfl,by rw[(R.rp r (by rw[e];exact d_)).length_eq];simp⟩
theorem Rws.things(R:Rws rz n m):fO [WD rz]=.ok (nD m):=by obtain⟨r,rest,e,hl⟩:=R.at0;rw[e,rG,hl]
theorem Rws.len(R:Rws rz n m):lenD [WD rz]=some (nD n):=by rw[lE,R.rl]
theorem Cb(R:Rws rz n m)(d:Nat->Nat)(od:Option D):∀(o L T:List Nat)(kvs:List (Nat×Nat))(y:Option D),Rg.i5 (Wr rz) d o T->GI d kvs L->(∀h∈L++o,h<n)->o.length<=T.length->(∀x∈T,x<m) ->∃kvs' T' y',GI d kvs' (L++o)/\aG (aD 4) FO (o.map nD) [some (WD rz),od,some (LN T),some (KD kvs),y]=.nx [some (WD rz),od,some (LN T'),some (KD kvs'),y']
|[],L,T,kvs,y,_,g,_,_,_=>⟨kvs,T,y,by rw[Q0];exact g,d4⟩
|h::o,L,T,kvs,y,s,g,hL,hl,hT=>by
  have hh:h<n:=hL h (by simp);have hp:0<T.length:=by simp at hl;omega
  have hb:=R.best hh hp hT;have hin:=R.inT hh hp hT;rw[s.1]at hb hin;obtain⟨kvs',T',y',g',ih⟩:=Cb R d od o (L++[h]) (T.erase (d h)) (putN kvs h (d h)) (some (nD h)) s.2 (g.put h) (by simpa using hL) (by rw[Rs hin];simp at hl;omega) (fun x hx=>hT x (Tg hx));refine⟨kvs',T',y',by simpa using g',?_⟩;rw[<-ih];have hk:=g.len (line:=a_ n) fun x hx=>n_.mpr (hL x (RL _ hx));have hn7:=R.n7;refine dO (r1:=[some (WD rz),od,some (LN T),some (KD kvs),some (nD h)]) rfl ?_;refine(ar (h9 (d:=KD kvs) (k:=nD h) (v:=nD (d h)) rfl (aK (aj (au (a:=WD rz) (b:=nD h) rfl rfl (dw (qj (by rw[R.rl];exact hh)))) (aj (d:=LN T) rfl ap)) hb) rfl (qe (by simp at hk;omega)))).trans ?_;exact ar (hX (d:=LN T) (ds:=[nD (d h)]) rfl rfl (aj (au (a:=KD (putN kvs h (d h))) (b:=nD h) rfl rfl (pP (rc (g.put h).val (((g.put h).key h).mpr (by simp))))) ap) (JP hin))
theorem PC(R:Rws rz n m){d:Nat->Nat}{o:List Nat}(hp:o.Perm (a_ n))(s:Rg.i5 (Wr rz) d o (a_ m)):kW [WD rz,LN o]=.ok (TN ((a_ n).map d)):=by
 have hn7:=R.n7;have hm8:=R.m8;have hnm:=R.nm;have hlt:∀h∈o,h<n:=fun h hh=>n_.mp (hp.mem_iff.mp hh);have hlen:o.length=n:=by rw[hp.length_eq];simp
 obtain⟨kvs',T',y',g,hl⟩:=Cb R d (some (LN o)) o [] (a_ m) [] none s (GI.nil d) (by simpa using hlt) (by simp;omega) (fun x hx=>n_.mp hx);refine bp (B:=rJ) (n:=5) ?_;unfold rJ;refine(ar (aO (d:=LN (a_ m)) (bL (aj (aK (aj (d:=WD rz) rfl ap) R.things) ap) (qx (by omega))))).trans ?_;refine(ar (r':=[some (WD rz),some (LN o),some (LN (a_ m)),some (KD []),none]) rfl).trans ?_;refine(ar ((dC (ds:=o.map nD) (fW (aK (aj (d:=WD rz) rfl (aj (d:=LN o) rfl ap)) (Em (hp.nodup_iff.mpr QU) (by rw[R.rl];exact hlt) (by rw[R.rl];exact hlen) (by rw[R.rl];omega))) rfl)).trans hl)).trans ?_;exact aU (bc (aK (aj (d:=KD kvs') rfl ap) (yY g (fun x=>by rw[Sr,hp.mem_iff];exact n_) (by omega))))
end
open Rg
section
variable{hs ts:List Nat}{n m:Nat}{rz:List (List Nat)}{owns:List (Option Nat)}{line:List Nat}
theorem Fj{l:List Nat}(ht:ts.Perm (a_ m))(h:l.Perm (a_ m)):(l.map (aL ts)).Perm (a_ m):=by
 refine(h.map _).trans ?_;have:(a_ m).map (aL ts)=ts:=by
  refine RA fun i=>?_;rw[t_];by_cases hi:i<m
  .rw[QH hi];unfold aL;rw[b_ (by rw[d5 ht];exact hi),Sl,b_ (by rw[d5 ht];exact hi)];rfl
  .rw[z_ (by simp;omega),z_ (by rw[d5 ht];omega)];rfl
 rw[this];exact ht
theorem Np{l:List Nat}{n:Nat}(h:l.Perm (a_ n)){x:Nat}:dJ l x<n↔x<n:=by rw[<-eQ h,(iw h).r]
theorem B4(hh:hs.Perm (a_ n))(hr:rz.length=n)(h:Nat):Wr (aM hs ts n rz) (aL hs h)=(Wr rz h).map (aL ts):=by
 unfold aM;by_cases hi:h<n
 .conv=>lhs;unfold Wr
  rw[t_,QH ((eQ hh).mpr hi)];show(Wr rz (dJ hs (aL hs h))).map _=_;rw[(iw hh).l]
 .have:¬ aL hs h<n:=fun z=>hi ((eQ hh).mp z);unfold Wr;rw[z_ (by simp;omega),z_ (by omega)];rfl
theorem Ln(hh:hs.Perm (a_ n))(hr:owns.length=n)(h:Nat):own (cw hs ts n owns) (aL hs h)=(own owns h).map (aL ts):=by
 unfold cw;by_cases hi:h<n
 .conv=>lhs;unfold own
  rw[t_,QH ((eQ hh).mpr hi)];show(own owns (dJ hs (aL hs h))).map _=_;rw[(iw hh).l]
 .have:¬ aL hs h<n:=fun z=>hi ((eQ hh).mp z);unfold own;rw[z_ (by simp;omega),z_ (by omega)];rfl
theorem uJ(hh:hs.Perm (a_ n))(ht:ts.Perm (a_ m))(S:Scene rz owns (some line) n m):Ren (aL hs) (dJ hs) (aL ts) (dJ ts) (Wr rz) (Wr (aM hs ts n rz)) (own owns) (own (cw hs ts n owns)):=⟨iw hh,iw ht,B4 hh S.rl,Ln hh S.ol⟩
theorem qY(hh:hs.Perm (a_ n))(ht:ts.Perm (a_ m))(S:Scene rz owns (some line) n m):Scene (aM hs ts n rz) (cw hs ts n owns) (some (line.map (aL hs))) n m where
 n1:=S.n1
 n7:=S.n7
 nm:=S.nm
 m8:=S.m8
 rl:=by simp[aM]
 rp:=fun row hrow=>by obtain⟨k,hk,rfl⟩:=r_.mp hrow;exact Fj ht (S.row ((Np hh).mpr (n_.mp hk)))
 ow:=by
  have R:=uJ hh ht S;have key:∀h x,own (cw hs ts n owns) h=some x->∃y,own owns (dJ hs h)=some y/\x=aL ts y:=fun h x e=>by rw[<-R.b.r h,R.own]at e;cases z:own owns (dJ hs h)with
  |none=>rw[z]at e;cases e
  |some y=>rw[z]at e;cases e;exact⟨y,rfl,rfl⟩
  refine⟨fun x hx=>?_,fun h k x h1 h2=>?_⟩
  .obtain⟨h,hh',e⟩:=r_.mp hx;cases z:own owns (dJ hs h)with
  |none=>rw[z]at e;cases e
  |some y=>rw[z]at e;cases e;exact(eQ ht).mpr (S.ow.lt y (og z).1)
  .obtain⟨y,e1,rfl⟩:=key h x h1;obtain⟨y',e2,e3⟩:=key k _ h2;have:=R.c.inj e3;subst this;have:=S.ow.inj _ _ _ e1 e2;rw[<-R.b.r h,this,R.b.r]
 ol:=by simp[cw]
 op:=fun l hl=>by cases hl;exact Fj hh (S.op line rfl)
theorem A7(hh:hs.Perm (a_ n))(ht:ts.Perm (a_ m))(S:Scene rz owns (some line) n m):RS (aL hs) (aL ts) (s0 rz (some line)) (s0 (aM hs ts n rz) (some (line.map (aL hs)))) where
 line:=rfl
 th:=fun x=>by have h1:=S.things;have h2:=(qY hh ht S).things;show _∈Rg.S.things (s0 (aM hs ts n rz) (some (line.map (aL hs))))↔_;rw[h2];show _↔_∈Rg.S.things (s0 rz (some line));rw[h1,n_,n_];exact eQ ht
theorem Scene.rings(S:Scene rz owns (some line) n m){a:Nat->Nat}(t:TTC (Wr rz) (own owns) a (s0 rz (some line))):kY [WD rz,OD owns,LN line]=.ok (TN ((a_ n).map a)):=by have:=PF S.ord S.ne (by rw[S.rl];have:=S.n7;omega) S.snd (fun h hh=>S.mem.mpr (by rw[<-S.rl];exact hh)) t;rw[S.rl]at this;exact this
theorem Scene.asks(S:Scene rz owns (some line) n m){a:Nat->Nat}(t:TTC (Wr rz) (own owns) a (s0 rz (some line))):kT [WD rz,OD owns,LN line]=.ok (TN ((a_ n).map a)):=by have:=PH S.ord S.ne (by rw[S.rl];have:=S.n7;omega) S.snd (by rw[S.line_perm.length_eq];have:=S.n7;simp;omega) (fun h=>by rw[S.rl];exact S.mem) t;rw[S.rl]at this;exact this
theorem Scene.rws(S:Scene rz owns (some line) n m):Rws rz n m:=⟨S.n1,S.n7,S.nm,S.m8,S.rl,S.rp⟩
theorem Scene.by(S:Scene rz owns (some line) n m){d:Nat->Nat}(s:i5 (Wr rz) d line (a_ m)):kW [WD rz,LN line]=.ok (TN ((a_ n).map d)):=PC S.rws (S.op line rfl) s
theorem Hj(hh:hs.Perm (a_ n))(ht:ts.Perm (a_ m))(S:Scene rz owns (some line) n m):∃a d:Nat->Nat,(∀h,h<n->a h<m)/\(∀h,h<n->d h<m) /\kY [WD rz,OD owns,LN line]=.ok (TN ((a_ n).map a))/\kT [WD rz,OD owns,LN line]=.ok (TN ((a_ n).map a))/\kW [WD rz,LN line]=.ok (TN ((a_ n).map d)) /\kY [WD (aM hs ts n rz),OD (cw hs ts n owns),LN (line.map (aL hs))]=.ok (TN ((a_ n).map (j6 hs ts n a)))/\kT [WD (aM hs ts n rz),OD (cw hs ts n owns),LN (line.map (aL hs))]=.ok (TN ((a_ n).map (j6 hs ts n a)))/\kW [WD (aM hs ts n rz),LN (line.map (aL hs))]=.ok (TN ((a_ n).map (j6 hs ts n d))):=by
 have R:=uJ hh ht S;have S':=qY hh ht S;have t:=MK (W:=Wr rz) (O:=own owns) ((s0 rz (some line)).line.length+1) (s0 rz (some line)) (by omega);generalize deal (Wr rz) (own owns) ((s0 rz (some line)).line.length+1) (s0 rz (some line))=a at t;have hp:=S.op line rfl;have hn:=hp.nodup_iff.mpr QU;have hl:=d5 hp;have s:=Bs (W:=Wr rz) line (a_ m) hn;generalize serD (Wr rz) line (a_ m)=d at s;have hw:∀h∈line,∀x∈a_ m,x∈Wr rz h:=fun h hm x hx=>(S.row (n_.mp (hp.mem_iff.mp hm))).mem_iff.mpr hx;have hll:line.length<=(a_ m).length:=by rw[hl,QR];exact S.nm
 have sm:=CP s QU hll hw;have t':=Lj R t S.ok (A7 hh ht S);have s':=CQ R (T':=a_ m) QU QU hll hw (fun x=>by rw[n_,n_];exact eQ ht) s;refine⟨a,d,fun h hh'=>?_,fun h hh'=>n_.mp (sm.1 h (hp.mem_iff.mpr (n_.mpr hh'))),S.rings t,S.asks t,S.by s,S'.rings t',S'.asks t',S'.by s'⟩;have:=Li t S.ok h (S.mem.mpr hh');have h1:=S.things;have:a h∈Rg.S.things (s0 rz (some line)):=this;rw[h1]at this;exact n_.mp this
end
end
end Law
namespace Law
open PySem PyProof.Rows L2 DL Rg
abbrev PD(p:Nat×Nat):D:=.tup [nD p.1,nD p.2]
def kk(p:Nat×Nat):List Int:=[(p.1:Int),(p.2:Int)]
def pv(P:List (Nat×Nat)):Prop:=P.Pairwise fun a b=>aZ (kk b) (kk a)=false
theorem Je{a b:Nat×Nat}(h:kk a=kk b):a=b:=by unfold kk at h;simp at h;exact W6 (by omega) (by omega)
theorem KR{P Q:List (Nat×Nat)}(p:P.Perm Q)(h1:pv P)(h2:pv Q):P=Q:=F6 (fun a b x y=>Je (EB _ _ y x)) p h1 h2
theorem Dq:∀P:List (Nat×Nat),jA (P.map PD)=some (P.map kk)
|[]=>rfl
|p::P=>by show(iF (PD p)).bind (fun k=>(jA (P.map PD)).map (k::·))=_;rw[Dq P];rfl
theorem xw{α β:Type}(f:α->β){l:List α}{i:Nat}(h:i<l.length)(x:β)(y:α):(l.map f).getD i x=f (l.getD i y):=by simp[List.getD,b_ h]
theorem Eu(P:List (Nat×Nat))(hl:P.length<64):∃P',P'.Perm P/\pv P'/\nL [.lst (P.map PD)]=some (.lst (P'.map PD)):=by
 let c:Nat->Nat->Bool:=fun i j=>aZ ((P.map kk).getD i []) ((P.map kk).getD j []);refine⟨(d8 P.length c).map fun i=>P.getD i (0,0),?_,?_,?_⟩
 .refine((oH P.length c).map fun i=>P.getD i (0,0)).trans ?_;have e:(a_ P.length).map (fun i=>P.getD i (0,0))=P:=by
   refine RA fun i=>?_;rw[t_];by_cases hi:i<P.length
   .rw[QH hi];simp[b_ hi]
   .rw[z_ (by simp;omega),z_ (by omega)];rfl
  rw[e]
 .unfold pv;rw[T0];have:=Px (n:=P.length) (c:=c) (fun i j=>EC _ _) (fun i j k=>Fe _ _ _);refine this.imp_of_mem fun{i j} hi hj h=>?_;have hi:=kR hi;have hj:=kR hj;have h:aZ ((P.map kk).getD j []) ((P.map kk).getD i [])=false:=h;rw[xw kk hj [] (0,0),xw kk hi [] (0,0)]at h;exact h
 .show(jA (P.map PD)).bind _=_;rw[Dq];show(if _ then _ else _)=_;rw[if_pos (by rw[m_];exact hl)];unfold kr;rw[y_,m_];congr 2;refine QI fun i hi=>?_;exact xw PD (kR hi) .non (0,0)
theorem GU(P:List (Nat×Nat)):neD (.lst (P.map PD)) (.lst (P.map PD))=some (.bl false):=by have:=Iq (P.map fun p=>((p.1:Int),p.2));unfold LF at this;rw[y_]at this;exact this
theorem C0(d0:D)(t:Nat->Nat):∀(rs:List (List Nat))(acc:List Nat)(y:Option D),acc.length+rs.flatten.length<=60 ->∃y',aG (aD 2) F1 (rs.map (bZ t)) [some d0,some (.lst (acc.map (cr t))),y]=.nx [some d0,some (.lst ((acc++rs.flatten).map (cr t))),y']
|[],acc,y,_=>⟨y,by simp[d4]⟩
|r::rs,acc,y,h=>by rw[Ra,L_]at h;obtain⟨y',ih⟩:=C0 d0 t rs (acc++r) (some (bZ t r)) (by rw[L_];omega);refine⟨y',?_⟩;rw[Ra,<-Q2,<-ih,u_];refine dO (r1:=[some d0,some (.lst (acc.map (cr t))),some (bZ t r)]) rfl ?_;refine ar (hX (d:=.lst (acc.map (cr t))) (ds:=[.lst (r.map (cr t))]) rfl rfl (aj (bL (aj (d:=bZ t r) rfl ap) rfl) ap) ?_);show(if (acc.map (cr t)).length+(r.map (cr t)).length<=sizeLine then some (D.lst (acc.map (cr t)++r.map (cr t)))else none)=_;rw[if_pos (by rw[QZ,m_,m_];omega),QL]
theorem Fm{t:Nat->Nat}{rs:List (List Nat)}(h:rs.flatten.length<=60):∃P,P.Perm (rs.flatten.map fun h=>(h,t h))/\pv P/\oN [.lst (rs.map (bZ t))]=.ok (.lst (P.map PD)):=by obtain⟨P,h1,h2,h3⟩:=Eu (rs.flatten.map fun h=>(h,t h)) (by rw[m_];omega);obtain⟨y',e⟩:=C0 (.lst (rs.map (bZ t))) t rs [] none (by simpa using h);refine⟨P,h1,h2,bp (B:=yG) (n:=3) ?_⟩;unfold yG;refine(ar (aO (d:=.lst []) (hW ap (by simp)))).trans ?_;refine(ar ((dC (ds:=rs.map (bZ t)) rfl).trans e)).trans ?_;rw[Sr];refine aU (bc (bL (aj (d:=.lst (rs.flatten.map (cr t))) rfl ap) ?_));rw[<-h3,y_];rfl
section
variable{hs ts:List Nat}{n m:Nat}{rz rows':List (List Nat)}{owns owns':List (Option Nat)}
structure RR(hs ts:List Nat)(n m:Nat)(rz rows':List (List Nat))(x x':List (List Nat)×S):Prop where
 len:x.1.flatten.length<=60
 lt:∀h∈x.1.flatten,h<n/\tS rz x.2 h<m
 perm:(x.1.flatten.map fun h=>(aL hs h,aL ts (tS rz x.2 h))).Perm (x'.1.flatten.map fun k=>(k,tS rows' x'.2 k))
theorem Fi{a b:List (List Nat)}(h:a.Perm b):a.flatten.Perm b.flatten:=Rg.J3 h
theorem Hu(R:Ren (aL hs) (dJ hs) (aL ts) (dJ ts) (Wr rz) (Wr rows') (own owns) (own owns')){s:S}{l:List (List (List Nat)×S)}(c:Ch rz owns s l):∀{s':S}{l':List (List (List Nat)×S)},Ch rows' owns' s' l'->Ok (Wr rz) (own owns) s->Ok (Wr rows') (own owns') s'->RS (aL hs) (aL ts) s s'->s.line.length<=60->(∀h∈s.line,h<n)->(∀x∈s.things,x<m)->Et.Two (RR hs ts n m rz rows') l l':=by induction c with
|nil e=>intro s' l' c' _ _ r _ _ _;cases c' with
 |nil _=>exact .nil
 |cons hne _ _=>exact absurd (by rw[r.line,e];rfl) hne
|@cons s rs l hne hp c ih=>intro s' l' c' k k' r h60 hn hm;cases c' with
 |nil e'=>rw[r.line]at e';exact absurd (List.map_eq_nil_iff.mp e') hne
 |@cons _ rs' l' hne' hp' c'=>
   have f1:=Fi hp;have f2:=Fi hp';have g1:∀h,h∈rs.flatten↔h∈gone (Wr rz) (own owns) s:=fun h=>f1.mem_iff;have g2:∀h,h∈rs'.flatten↔h∈gone (Wr rows') (own owns') s':=fun h=>f2.mem_iff;have hC:∀h,aL hs h∈rs'.flatten↔h∈rs.flatten:=fun h=>by rw[g1,g2,MP R r k]
   have n1:rs.flatten.Nodup:=f1.nodup_iff.mpr (yg k.nl);have n2:rs'.flatten.Nodup:=f2.nodup_iff.mpr (yg k'.nl);have cy:=qP hp;have cy':=qP hp';refine .cons ⟨?_,fun h hh=>⟨hn h (cy.sub h hh),hm _ (k.tgt_mem (cy.sub h hh))⟩,?_⟩ (ih c' (kK k cy) (kK k' cy') (EF R r k hC cy.sub) (O_ (Rq _ _) h60) (fun h hh=>hn h (l_.mp hh).1) fun x hx=>hm x (l_.mp hx).1)
   .exact O_ (iD n1 cy.sub) h60
   .have p1:(rs.flatten.map (aL hs)).Perm rs'.flatten:=by refine se (UX _ (fun x y h e=>h (R.b.inj e)) n1) n2 fun x=>?_;rw[<-R.b.r x,R.b.mem,hC]
    refine List.Perm.trans ?_ (p1.map _);rw[y_];refine WX (QI fun h hh=>?_);show _=(aL hs h,bB (Wr rows') s' (aL hs h))
    rw[oa R r k (cy.sub h hh)]
theorem LH(hh:hs.Perm (a_ n))(ht:ts.Perm (a_ m)){x x':List (List Nat)×S}(r:RR hs ts n m rz rows' x x')(d0 d1:D)(y:Option D):∃z,zt [some d0,some d1,some (TN hs),some (TN ts),some (cG rz x),some (cG rows' x'),y]=.nx [some d0,some d1,some (TN hs),some (TN ts),some (cG rz x),some (cG rows' x'),z]:=by
 obtain⟨P,p1,p2,p3⟩:=Fm (t:=tS rz x.2) (rs:=x.1) r.len;obtain⟨Q,q1,q2,q3⟩:=Fm (t:=tS rows' x'.2) (rs:=x'.1) (by have:=r.perm.length_eq;rw[m_,m_]at this;rw[<-this];exact r.len);have hl:P.length<=60:=by rw[p1.length_eq,m_];exact r.len
 obtain⟨P',r1,r2,r3⟩:=Eu (P.map fun p=>(aL hs p.1,aL ts p.2)) (by rw[m_];omega);have e:P'=Q:=by refine KR (r1.trans ?_) r2 q2;refine((p1.map _).trans ?_).trans q1.symm;rw[y_];exact r.perm
 subst e;have hP:∀p∈P,p.1<n/\p.2<m:=fun p hp=>by obtain⟨h,h1,h2⟩:=r_.mp (p1.mem_iff.mp hp);subst h2;exact r.lt h h1
 refine⟨some (.lst (P'.map PD)),?_⟩;refine(ar (aO (d:=.lst (P'.map PD)) (bL (aj (iA (l:=P) PD (fun p=>PD (aL hs p.1,aL ts p.2)) (fW (aK (aj (d:=cG rz x) rfl ap) p3) rfl) (by omega) fun p hp=>⟨[some (nD p.1),some (nD p.2),some (TN hs),some (TN ts)],rfl,fV (aj (au (a:=TN hs) (b:=nD p.1) rfl rfl (dw (ij (by rw[d5 hh];exact(hP p hp).1)))) (aj (au (a:=TN ts) (b:=nD p.2) rfl rfl (dw (ij (by rw[d5 ht];exact(hP p hp).2)))) ap)) (by simp)⟩) ap) (by rw[<-r3,y_];rfl)))).trans ?_;exact ar ((bz (bD (au (a:=.lst (P'.map PD)) (b:=.lst (P'.map PD)) rfl (aK (aj (d:=cG rows' x') rfl ap) q3) (GU P')))).trans (e_skip _))
end
end Law
namespace Law
open PySem PyProof.Rows L2 DL Rg Fq
section
variable{hs ts:List Nat}{n m:Nat}{rz rows':List (List Nat)}{owns owns':List (Option Nat)}{line:List Nat}
theorem Da(hh:hs.Perm (a_ n))(ht:ts.Perm (a_ m))(d0 d1:D):∀{l l':List (List (List Nat)×S)}(x y z:Option D),Et.Two (RR hs ts n m rz rows') l l' ->∃x' y' z',aG (dW (bK (aD 4) (bK (aD 5) dN))) zt (S4 (fun a b=>D.tup [a,b]) (l.map (cG rz)) (l'.map (cG rows'))) [some d0,some d1,some (TN hs),some (TN ts),x,y,z]=.nx [some d0,some d1,some (TN hs),some (TN ts),x',y',z']
|_,_,x,y,z,.nil=>⟨x,y,z,d4⟩
|_,_,x,y,z,.cons (x:=a) (y:=b) r t=>by obtain⟨w,e⟩:=LH hh ht r d0 d1 z;obtain⟨x',y',z',ih⟩:=Da hh ht d0 d1 (some (cG rz a)) (some (cG rows' b)) w t;refine⟨x',y',z',?_⟩;rw[<-ih];exact dO (r1:=[some d0,some d1,some (TN hs),some (TN ts),some (cG rz a),some (cG rows' b),z]) rfl e
theorem Dr{α β:Type}{P:α->β->Prop}:∀{l:List α}{l':List β},Et.Two P l l'->l.length=l'.length
|_,_,.nil=>rfl
|_,_,.cons _ t=>congrArg (· + 1) (Dr t)
theorem N1(hh:hs.Perm (a_ n))(ht:ts.Perm (a_ m))(S:Scene rz owns (some line) n m):∃R R',jR [WD rz,OD owns,LN line]=.ok R/\jR [WD (aM hs ts n rz),OD (cw hs ts n owns),LN (line.map (aL hs))]=.ok R'/\sB [R,R',TN hs,TN ts]=.ok (.bl true):=by have S':=qY hh ht S;have hn7:=S.n7;obtain⟨l,c,l60,e⟩:=xS S.ord S.ne (by rw[S.rl];omega) S.snd;obtain⟨l',c',l60',e'⟩:=xS S'.ord S'.ne (by rw[S'.rl];omega) S'.snd;have h1:=S.things;have t:=Hu (n:=n) (m:=m) (uJ hh ht S) c c' S.ok S'.ok (A7 hh ht S) (by rw[S.line_perm.length_eq];simp;omega) (fun h hm=>S.mem.mp hm) (fun x hx=>by have hx:x∈Rg.S.things (s0 rz (some line)):=hx;rw[h1]at hx;exact n_.mp hx);refine⟨_,_,e,e',bp (B:=zv) (n:=7) ?_⟩;obtain⟨x',y',z',lp⟩:=Da hh ht (.lst (l.map (cG rz))) (.lst (l'.map (cG (aM hs ts n rz)))) none none none t;have hl:=Dr t;unfold zv;refine(ar ((bz (bD (au (a:=nD l.length) (b:=nD l'.length) (bL (aj (d:=.lst (l.map (cG rz))) rfl ap) (kP _ _)) (bL (aj (d:=.lst (l'.map (cG (aM hs ts n rz)))) rfl ap) (kP _ _)) (by rw[AA,decide_eq_true hl];rfl)))).trans (e_skip _))).trans ?_;refine(ar ((dC (Cu (d:=.lst (l.map (cG rz))) (e:=.lst (l'.map (cG (aM hs ts n rz)))) rfl rfl rfl rfl)).trans lp)).trans ?_;exact aU (bc rfl)
theorem AR(S:Scene rz owns (some line) n n):Sq rz n:=⟨S.n1,S.n7,S.rl,S.rp⟩
theorem A6(hh:hs.Perm (a_ n))(ht:ts.Perm (a_ n))(S:Sq rz n):Et.Rn (aL hs) (dJ hs) (aL ts) (dJ ts) (Wr rz) (Wr (aM hs ts n rz)) n:=⟨iw hh,iw ht,B4 hh S.rl,fun _=>eQ hh,S.rw⟩
theorem BS(hh:hs.Perm (a_ n))(ht:ts.Perm (a_ n))(S:Sq rz n):Et.Two (Et.Mr (aL hs) (aL ts) n) (c7 rz n) (c7 (aM hs ts n rz) n):=Et.iX (A6 hh ht S) 64 ⟨fun x=>by rw[n_,n_];exact eQ ht,fun _=>rfl⟩ (Et.Ok.init S.rw)
theorem DR(n:Nat):(a_ n).Pairwise (· < ·):=Vu
theorem AU{rz:List (List Nat)}{h x:Nat}(hh:h<n)(hx:x<n):∃d,aH (i4 (tbl rz n)) (nD h)=some d/\aH d (nD x)=some (QF (tbN rz n h x)):=by
 refine⟨TF (lQ rz n h),dw ?_,dw ?_⟩
 .unfold tbl;rw[y_,t_,QH hh];rfl
 .unfold lQ;rw[y_,t_,QH hx];rfl
abbrev ea(rz rows':List (List Nat))(hs ts:List Nat)(n:Nat)(x y z:Option D):ao:=[some (WD rz),some (WD rows'),some (TN hs),some (TN ts),some (i4 (tbl rz n)),some (jq rz n),some (i4 (tbl rows' n)),some (jq rows' n),x,y,z]
theorem Ao(hh:hs.Perm (a_ n))(ht:ts.Perm (a_ n))(S:Sq rz n){h:Nat}(hn:h<n)(z:Option D):∀(l:List Nat)(y:Option D),(∀x∈l,x<n) ->∃y',aG (aD 9) Gp (l.map nD) (ea rz (aM hs ts n rz) hs ts n (some (nD h)) y z)=.nx (ea rz (aM hs ts n rz) hs ts n (some (nD h)) y' z)
|[],y,_=>⟨y,d4⟩
|x::l,y,hx=>by have h0:=hx x d_;obtain⟨y',ih⟩:=Ao hh ht S hn z l (some (nD x)) fun k hk=>hx k (i_ _ hk);refine⟨y',?_⟩;rw[<-ih];refine dO (r1:=ea rz (aM hs ts n rz) hs ts n (some (nD h)) (some (nD x)) z) rfl ?_;obtain⟨d,e1,e2⟩:=AU (rz:=rz) hn h0;obtain⟨d',f1,f2⟩:=AU (rz:=aM hs ts n rz) ((eQ hh).mpr hn) ((eQ ht).mpr h0);have e:tbN (aM hs ts n rz) n (aL hs h) (aL ts x)=tbN rz n h x:=Et.iH (A6 hh ht S) hn x (BS hh ht S);rw[e]at f2;refine ar ((bz (bD (au (a:=QF (tbN rz n h x)) (b:=QF (tbN rz n h x)) (au (au (a:=i4 (tbl (aM hs ts n rz) n)) rfl (au (a:=TN hs) (b:=nD h) rfl rfl (dw (ij (by rw[d5 hh];exact hn)))) f1) (au (a:=TN ts) (b:=nD x) rfl rfl (dw (ij (by rw[d5 ht];exact h0)))) f2) (au (au (a:=i4 (tbl rz n)) (b:=nD h) rfl rfl e1) (b:=nD x) rfl e2) ?_))).trans (e_skip _));rw[BU,decide_eq_true rfl];rfl
theorem BF(hh:hs.Perm (a_ n))(ht:ts.Perm (a_ n))(S:Sq rz n)(z:Option D):∀(l:List Nat)(x y:Option D),(∀h∈l,h<n) ->∃x' y',aG (aD 8) Gq (l.map nD) (ea rz (aM hs ts n rz) hs ts n x y z)=.nx (ea rz (aM hs ts n rz) hs ts n x' y' z)
|[],x,y,_=>⟨x,y,d4⟩
|h::l,x,y,hx=>by obtain⟨y1,e1⟩:=Ao hh ht S (hx h d_) z (a_ n) y fun k hk=>n_.mp hk;obtain⟨x',y',ih⟩:=BF hh ht S z l (some (nD h)) y1 fun k hk=>hx k (i_ _ hk);refine⟨x',y',?_⟩;rw[<-ih];refine dO (r1:=ea rz (aM hs ts n rz) hs ts n (some (nD h)) y z) rfl ?_;exact ar ((dC (kN (aj (bL (aj (d:=TN ts) rfl ap) (lE nD ts)) ap) (by rw[d5 ht];exact kJ (by have:=S.n7;omega)))).trans e1)
end
section
variable{hs ts:List Nat}{n m:Nat}{rz:List (List Nat)}
theorem Do:∀l:List Nat,fH (l.map nD)=some (l.map fun k:Nat=>(k:Int))
|[]=>rfl
|k::l=>by show(fH (l.map nD)).map _=_;rw[Do l];rfl
theorem Cm:∀(s:Nat)(ms:List (List Nat×Nat×List Nat)),(Et.cO s ms).length=ms.length
|_,[]=>rfl
|s,p::ms=>congrArg (· + 1) (Cm _ ms)
theorem Ds{α β γ:Type}{P:α->β->Prop}{f:α->γ}{g:β->γ}(h:∀x y,P x y->f x=g y):∀{l:List α}{l':List β},Et.Two P l l'->l.map f=l'.map g
|_,_,.nil=>rfl
|_,_,.cons r t=>by rw[u_,u_,h _ _ r,Ds h t]
theorem Dt{α β:Type}{P:α->β->Prop}:∀{l:List α}{l':List β},Et.Two P l l'->∀x∈l,∃y∈l',P x y
|_,_,.nil,_,h=>nomatch h
|_,_,.cons r t,x,h=>by
  rcases w_.mp h with rfl|h
  .exact⟨_,d_,r⟩
  .obtain⟨y,h1,h2⟩:=Dt t x h;exact⟨y,i_ _ h1,h2⟩
abbrev sR(ts:List Nat)(e:Nat×List Nat):D:=.tup [QF e.1,.tup ((db ((e.2.map (aL ts)).map fun k:Nat=>(k:Int))).map .int)]
theorem Hm(ht:ts.Perm (a_ n)){e e':Nat×List Nat}(h:e'.1=e.1/\(∀x,aL ts x∈e'.2↔x∈e.2)/\e.2.Pairwise (· < ·)/\e'.2.Pairwise (· < ·)):sR ts e=eD e':=by
 obtain⟨h1,h2,h3,h4⟩:=h;have b:=iw ht;have nd:∀{l:List Nat},l.Pairwise (· < ·)->l.Nodup:=fun h=>h.imp fun x y=>by omega
 have p:(e.2.map (aL ts)).Perm e'.2:=by refine se (UX _ (fun x y h e=>h (b.inj e)) (nd h3)) (nd h4) fun x=>?_;rw[<-b.r x,b.mem,h2]
 have e2:db ((e.2.map (aL ts)).map fun k:Nat=>(k:Int))=e'.2.map fun k:Nat=>(k:Int):=by refine tN ((wX _).trans (p.map _)) (vC _) ?_;rw[T0];exact h4.imp fun h=>by omega
 unfold sR eD;rw[e2,h1,y_];rfl
theorem D3:∀l:List (Nat×List Nat),Rt (zc9 (l.map eD)) (zc9 (l.map eD))=true
|[]=>by simp[zc9,Rt]
|x::l=>by have ih:=D3 l;simp only[u_,zc9,bb,Rt,TK,ih,wT];simp
theorem KN(l:List (Nat×List Nat)):eqD (.lst (l.map eD)) (.lst (l.map eD))=some (.bl true):=by
 have sh:bQ 60 (.lst (l.map eD)):=n9.mpr fun d hd=>by
  obtain⟨x,_,rfl⟩:=r_.mp hd;refine jO.mpr fun e he=>?_;simp at he;rcases he with rfl|rfl
  .refine jO.mpr fun e he=>?_;simp at he;rcases he with rfl|rfl <;> trivial
  .exact jO.mpr tF
 unfold eqD;rw[qL rfl sh sh];unfold ke;simp only[bb,TK,D3];rfl
theorem BG{W:Nat->List Nat}:∀(k:Nat){T:List Nat}{a:Nat->Nat},∀m∈Et.cQ W n k T a,∀x∈m.2.2,x∈T
|0,_,_,_,h,_,_=>nomatch h
|k+1,T,a,m,h,x,hx=>by
  by_cases e:T=[]
  .subst e;cases h
  .rw[Et.eM k e]at h;rcases w_.mp h with rfl|h
   .exact(l_.mp hx).1
   .exact(l_.mp (BG k m h x hx)).1
theorem log_of:∀(s:Nat)(ms:List (List Nat×Nat×List Nat)),∀e∈Et.cO s ms,∃m∈ms,e.2=m.2.2
|_,[],_,h=>nomatch h
|s,p::ms,e,h=>by
  rcases w_.mp h with rfl|h
  .exact⟨p,d_,rfl⟩
  .obtain⟨m,h1,h2⟩:=log_of _ ms e h;exact⟨m,i_ _ h1,h2⟩
theorem Qb(hh:hs.Perm (a_ n))(ht:ts.Perm (a_ n))(S:Sq rz n)(S':Sq (aM hs ts n rz) n):sx [WD rz,WD (aM hs ts n rz),TN hs,TN ts]=.ok (.bl true):=by
 have hn7:=S.n7;have lg:=Et.iV 0 (BS hh ht S) (Et.gs 64 (DR n)) (Et.gs 64 (DR n));have lt:∀e∈Et.cO 0 (c7 rz n),∀x∈e.2,x<n:=fun e he x hx=>by obtain⟨m,h1,h2⟩:=log_of _ _ e he;rw[h2]at hx;exact n_.mp (BG 64 m h1 x hx)
 have len:∀e∈Et.cO 0 (c7 rz n),e.2.length<=7:=fun e he=>by obtain⟨_,_,_,_,h3,_⟩:=Dt lg e he;have:=iD (h3.imp fun{x y} (h:x<y)=>(by omega:x≠y)) fun x hx=>n_.mpr (lt e he x hx);rw[QR]at this;omega
 obtain⟨x',y',lp⟩:=BF hh ht S none (a_ n) none none fun k hk=>n_.mp hk;refine bp (B:=ze) (n:=11) ?_;unfold ze;refine(ar (B0 (d:=.tup [i4 (tbl rz n),jq rz n]) (r':=[some (WD rz),some (WD (aM hs ts n rz)),some (TN hs),some (TN ts),some (i4 (tbl rz n)),some (jq rz n),none,none,none,none,none]) (aK (aj (d:=WD rz) rfl ap) (El S)) rfl)).trans ?_;refine(ar (B0 (d:=.tup [i4 (tbl (aM hs ts n rz) n),jq (aM hs ts n rz) n]) (r':=ea rz (aM hs ts n rz) hs ts n none none none) (aK (aj (d:=WD (aM hs ts n rz)) rfl ap) (El S')) rfl)).trans ?_;refine(ar ((dC (kN (aj (bL (aj (d:=TN hs) rfl ap) (lE nD hs)) ap) (by rw[d5 hh];exact kJ (by omega)))).trans lp)).trans ?_;refine(ar (aO (iA (l:=Et.cO 0 (c7 rz n)) eD (sR ts) (fW (d:=jq rz n) rfl rfl) (by rw[Cm];have:=Cq S;omega) fun e he=>⟨[some (QF e.1),some (TN e.2),some (TN ts)],rfl,fV (aj (d:=QF e.1) rfl (aj (bL (aj (bL (aj (iA (l:=e.2) nD (fun x=>nD (aL ts x)) (fW (d:=TN e.2) rfl rfl) ?_ fun x hx=>⟨[some (nD x),some (TN ts)],rfl,au (a:=TN ts) (b:=nD x) rfl rfl (dw (ij (by rw[d5 ht];exact lt e he x hx)))⟩) ap) (d:=.lst ((db ((e.2.map (aL ts)).map fun k:Nat=>(k:Int))).map .int)) ?_) ap) (e_tupL _)) ap)) (by simp)⟩))).trans ?_
 .have:=len e he;omega
 .have:=len e he;show(fH (e.2.map fun x=>nD (aL ts x))).bind _=_;rw[show(e.2.map fun x=>nD (aL ts x))=(e.2.map (aL ts)).map nD by rw[y_];rfl,Do];show(if _ then _ else _)=_;rw[if_pos (by rw[m_,m_];omega)]
 .have hm:=Ds (f:=sR ts) (g:=eD) (fun x y h=>Hm ht h) lg;rw[hm];exact aU (bc (au (a:=jq (aM hs ts n rz) n) rfl rfl (KN _)))
end
end Law
namespace Law
open PySem PyProof.Rows L2 DL Rg
theorem GT(ns:List Int):pE [IN ns]=.ok (.bl true):=by
 obtain⟨c1,h1⟩:=mX ns 1 (by decide);obtain⟨c2,h2⟩:=mX ns 2 (by decide);obtain⟨c3,h3⟩:=mX ns 3 (by decide);obtain⟨c4,h4⟩:=mX ns 4 (by decide);obtain⟨c5,h5⟩:=mX ns 5 (by decide);have hn:c1%7<7:=TM _ (by decide);have hm:c1/7%(9-(1+c1%7))<9-(1+c1%7):=TM _ (by omega);have e1:f2 (ci 1) (f2 (gv 1) (ci 7) bH) addA [some (IN ns),some (nD c1),none,none,none,none,none,none,none,none,none,none]=.ok (nD (1+c1%7)):=au (a:=nD 1) (b:=nD (c1%7)) rfl (au (a:=nD c1) (b:=nD 7) rfl rfl (qg (by decide))) (lx _ _);have e2:f2 (gv 2) (f2 (f2 (gv 1) (ci 7) jC) (f2 (ci 9) (gv 2) iG) bH) addA [some (IN ns),some (nD c1),some (nD (1+c1%7)),none,none,none,none,none,none,none,none,none]=.ok (nD (1+c1%7+c1/7%(9-(1+c1%7)))):=by
  have hsub:iG (.int 9) (nD (1+c1%7))=some (nD (9-(1+c1%7))):=by
   have e:(9:Int)-((1+c1%7:Nat):Int)=((9-(1+c1%7):Nat):Int):=by omega
   show some (D.int ((9:Int)-((1+c1%7:Nat):Int)))=some (D.int _);rw[e]
  exact au (a:=nD (1+c1%7)) (b:=nD (c1/7%(9-(1+c1%7)))) rfl (au (a:=nD (c1/7)) (b:=nD (9-(1+c1%7))) (au (a:=nD c1) (b:=nD 7) rfl rfl (vU (by decide) (by decide))) (au (a:=.int 9) (b:=nD (1+c1%7)) rfl rfl hsub) (qg (by omega))) (lx _ _)
 have b1:1<=1+c1%7:=by omega
 have b7:1+c1%7<=7:=by omega
 have b8:1+c1%7+c1/7%(9-(1+c1%7))<=8:=by omega
 have bm:1+c1%7<=1+c1%7+c1/7%(9-(1+c1%7)):=by omega
 generalize 1+c1%7+c1/7%(9-(1+c1%7))=m at *;generalize 1+c1%7=n at *;obtain⟨rz,r1,r2,r3⟩:=Oz ns 6 n m (by omega) (by omega) (by omega);obtain⟨owns,w1,w2,w3⟩:=Nf c2 n m (by omega) (by omega);obtain⟨line,l1,l2⟩:=qo c3 n (by omega);obtain⟨hs,hh,g2⟩:=qo c4 n (by omega);obtain⟨ts,ht,t2⟩:=qo c5 m (by omega);have S:Scene rz owns (some line) n m:=⟨b1,b7,bm,b8,r1,r2,w1,w2,fun l hl=>by cases hl;exact l1⟩
 obtain⟨a,d,ha,hd,a1,a2,a3,a4,a5,a6⟩:=Hj hh ht S;obtain⟨R,R',q1,q2,q3⟩:=N1 hh ht S;have cl:∀k:Nat,∀{c:Nat}{r:ao},r[0]? = some (some (IN ns))->gM [IN ns,nD k]=.ok (nD c)->aC (ai (gv 0) (ai (fun _=>Res.ok (D.int (k:Int))) ae)) [] gM r=.ok (nD c):=fun k c r hr e=>aK (aj (d:=IN ns) (by show dk r 0=_;unfold dk;rw[hr]) (aj (d:=nD k) rfl ap)) e;refine bp (B:=pR) (n:=12) ?_;unfold pR;refine(ar (aO (cl 1 rfl h1))).trans ?_;refine(ar (aO e1)).trans ?_;refine(ar (aO e2)).trans ?_;refine(ar (aO (aK (aj (d:=IN ns) rfl (aj (d:=nD 6) rfl (aj (d:=nD n) rfl (aj (d:=nD m) rfl ap)))) r3))).trans ?_;refine(ar (aO (aK (aj (cl 2 rfl h2) (aj (d:=nD n) rfl (aj (d:=nD m) rfl ap))) w3))).trans ?_;refine(ar (aO (d:=LN line) (bL (aj (aK (aj (cl 3 rfl h3) (aj (d:=nD n) rfl ap)) l2) ap) rfl))).trans ?_;refine(ar (aO (aK (aj (cl 4 rfl h4) (aj (d:=nD n) rfl ap)) g2))).trans ?_;refine(ar (aO (aK (aj (cl 5 rfl h5) (aj (d:=nD m) rfl ap)) t2))).trans ?_;refine(ar (aO (aK (aj (d:=WD rz) rfl (aj (d:=TN hs) rfl (aj (d:=TN ts) rfl ap))) (Oy hh ht (by omega) (by omega) r1 r2)))).trans ?_;refine(ar (aO (aK (aj (d:=OD owns) rfl (aj (d:=TN hs) rfl (aj (d:=TN ts) rfl ap))) (Oa hh ht (by omega) w2 w1.lt)))).trans ?_;refine(ar (aO (d:=LN (line.map (aL hs))) ?_)).trans ?_
 .have:=iA (nl:=1) (cap:=[7]) (fi:=aF bv (gv 6)) (ft:=aD 0) (fe:=f2 (gv 1) (gv 0) aH) (r:=[some (IN ns),some (nD c1),some (nD n),some (nD m),some (WD rz),some (OD owns),some (LN line),some (TN hs),some (TN ts),some (WD (aM hs ts n rz)),some (OD (cw hs ts n owns)),none]) (l:=line) nD (fun h=>nD (aL hs h)) (fW (d:=LN line) rfl rfl) (by rw[d5 l1];omega) fun h hm=>⟨[some (nD h),some (TN hs)],rfl,au (a:=TN hs) (b:=nD h) rfl rfl (dw (ij (by rw[d5 hh];exact n_.mp (l1.mem_iff.mp hm))))⟩
  rw[show(line.map fun h=>nD (aL hs h))=(line.map (aL hs)).map nD by rw[y_];rfl]at this;exact this
 refine(ar ((bz (bD (au (aK (aj (d:=WD (aM hs ts n rz)) rfl (aj (d:=OD (cw hs ts n owns)) rfl (aj (d:=LN (line.map (aL hs))) rfl ap))) a4) (aK (aj (aK (aj (d:=WD rz) rfl (aj (d:=OD owns) rfl (aj (d:=LN line) rfl ap))) a1) (aj (d:=TN hs) rfl (aj (d:=TN ts) rfl ap))) (wV hh ht (by omega) ha)) (tf _)))).trans (e_skip _))).trans ?_;refine(ar ((bz (bD (au (aK (aj (d:=WD (aM hs ts n rz)) rfl (aj (d:=OD (cw hs ts n owns)) rfl (aj (d:=LN (line.map (aL hs))) rfl ap))) a5) (aK (aj (aK (aj (d:=WD rz) rfl (aj (d:=OD owns) rfl (aj (d:=LN line) rfl ap))) a2) (aj (d:=TN hs) rfl (aj (d:=TN ts) rfl ap))) (wV hh ht (by omega) ha)) (tf _)))).trans (e_skip _))).trans ?_;refine(ar ((bz (bD (au (aK (aj (d:=WD (aM hs ts n rz)) rfl (aj (d:=LN (line.map (aL hs))) rfl ap)) a6) (aK (aj (aK (aj (d:=WD rz) rfl (aj (d:=LN line) rfl ap)) a3) (aj (d:=TN hs) rfl (aj (d:=TN ts) rfl ap))) (wV hh ht (by omega) hd)) (tf _)))).trans (e_skip _))).trans ?_;refine(ar ((bz (kE (b:=true) (fK (aK (aj (aK (aj (d:=WD rz) rfl (aj (d:=OD owns) rfl (aj (d:=LN line) rfl ap))) q1) (aj (aK (aj (d:=WD (aM hs ts n rz)) rfl (aj (d:=OD (cw hs ts n owns)) rfl (aj (d:=LN (line.map (aL hs))) rfl ap))) q2) (aj (d:=TN hs) rfl (aj (d:=TN ts) rfl ap)))) q3) rfl))).trans (e_skip _))).trans ?_;refine aU (bc ?_);by_cases z:n<m
 .exact HU (au (a:=nD m) (b:=nD n) rfl rfl (by rw[pO,decide_eq_true z]))
 .have:m=n:=by omega
  subst this;rw[HS (au (a:=nD m) (b:=nD m) rfl rfl (by rw[pO,decide_eq_false z]))];exact aK (aj (d:=WD rz) rfl (aj (d:=WD (aM hs ts m rz)) rfl (aj (d:=TN hs) rfl (aj (d:=TN ts) rfl ap)))) (Qb hh ht (AR S) (AR (qY hh ht S)))
theorem main(ns:List Int)(_:ns.length<=63):pE [.lst (ns.map .int)]=.ok (.bl true):=GT ns
end Law
open PySem PySem.W PyProof.Rows
abbrev P0:=T5.prog
namespace PySem.W.Fast
def tw15666809860714417804:=0
def tw15581039272760499745:=0
def tw1629369793103326520:=0
def tw2364672668936723164:=0
def tw1545935619660062351:=0
def tw10299019522002042455:=0
def tw1696568786580709582:=0
def tw8119135352571793995:=0
def tw526255203780900271:=0
def tw235010776375002135:=0
def tw7399265364720728402:=0
def tw4036221267445791803:=0
def tw4318264854381699468:=0
def tw15774516965703818365:=0
def tw5993385093245989139:=0
def tw16615970021083834459:=0
def tw2544911559454903462:=0
def tw9723034643281571595:=0
def tw6657792732254573293:=0
def tw14447240197839586049:=0
def tw15425662001710156784:=0
def tw10647856112498162156:=0
def tw123156730185726592:=0
def tw4548730920320260836:=0
def tw16299095851736221416:=0
def tw12146871553286861702:=0
def tw5198803399563336990:=0
def tw10209140540426183912:=0
def tw10390347541853880998:=0
def tw15246706370420610066:=0
def tw16792804884604593027:=0
def tw8260869156604191575:=0
def tw8000911605015728600:=0
def tw500832901644335410:=0
def tw1905834797587324159:=0
def tw11789272664414027341:=0
def tw2084486821356465337:=0
def tw3502988443594246815:=0
def tw5338451621601706538:=0
def tw8426984467230970869:=0
def tw12774778776623970398:=0
def tw3154506275500248618:=0
def tw8043191265262556033:=0
def tw10334072093198436211:=0
def tw3006535732569116768:=0
def tw4032154699799851387:=0
def tw18319458250614989514:=0
def tw16194677183510182781:=0
def tw4605582366740241912:=0
def tw13209726109969625444:=0
def tw2029851286937254803:=0
def tw17858428997529662823:=0
def tw18399349928293293700:=0
def tw9709801171567391863:=0
def tw16980420481925210134:=0
def tw7842156269259889679:=0
def tw15530899104038192131:=0
def tw16720400871499691860:=0
def tw9064046516299312108:=0
def tw3627629952420887981:=0
def tw13999983080951062766:=0
def tw6794611016639820149:=0
def tw14294869351167532910:=0
def tw18359520319638559468:=0
def tw2620766273453550452:=0
def tw17306767216183840728:=0
def tw1123452382871369312:=0
def tw3135141905633295155:=0
def tw6867496577935218154:=0
def tw18137131327530333943:=0
def tw17738711595837061776:=0
def tw5946861844217529080:=0
def tw1668916583166201188:=0
def tw162220476831843964:=0
def tw14543244935177291157:=0
def tw14562190100456562898:=0
def tw13656600309160256218:=0
def tw6462963728559113920:=0
def tw7436575645525078098:=0
def tw17784935893435307907:=0
def tw17458478623032371524:=0
def tw17710689294443081725:=0
def tw6026910260069496034:=0
def tw10858608337576339861:=0
def tw2916144758197072663:=0
def tw17719246713480077707:=0
def tw11793770974312266493:=0
def tw2629788319788792225:=0
def tw6633623869062710584:=0
def tw11334720072999568888:=0
def tw2842282942743506886:=0
def tw10697404983722802084:=0
def tw2932152603289422441:=0
def tw13852119224683909498:=0
def tw5258668885370266298:=0
def tw5879691636648634284:=0
def tw1921052060914847594:=0
def tw2657838554431354228:=0
def tw10257371881396194886:=0
def tw2886597191654311608:=0
def tw11575499724291200343:=0
def tw12714757804174339087:=0
def tw213671261939549025:=0
def tw16397704927396469374:=0
def tw14546015058077571954:=0
def tw16063202232001103927:=0
def tw6094076319386014109:=0
def tw2425455015087149737:=0
def tw6592469243206656639:=0
def tw3588681909326861292:=0
def tw2250567756308512738:=0
def tw2168205243237282999:=0
def tw6739715276888567030:=0
def tw9738250228985400166:=0
def tw12402982496189204626:=0
def tw1715366688942382181:=0
def tw14788161553591741212:=0
def tw1345578257572041915:=0
def tw14081893659053055040:=0
def tw15505960127142642993:=0
def tw3582918163178885540:=0
def tw3435919405716734500:=0
def tw717587796401141108:=0
def tw4027042880579709369:=0
def tw5684933015094323021:=0
def tw4819262460877006527:=0
def tw9268815971424076538:=0
def tw8975322816898920656:=0
def tw13114092972666375084:=0
def tw9648998264811248940:=0
def tw13779125362488510744:=0
def tw14520846276729319634:=0
def tw2959893409492735909:=0
def tw12588248531040004562:=0
def tw8887745889457166232:=0
def tw9467570760873525264:=0
def tw7916552132747152997:=0
def tw7963317587573813736:=0
def tw4373942206389552128:=0
def tw17079118730060794684:=0
def tw9152368327966024141:=0
def tw11730925510483061026:=0
def tw1611944799684138145:=0
def tw12899004348336211088:=0
def tw4954808685535111647:=0
def tw872238730311585080:=0
def tw12467048327206334142:=0
def tw14759667124555275729:=0
def tw2412844969402368196:=0
def tw14940898010906350107:=0
def tw9348839566603522190:=0
def tw3024740446760224732:=0
def tw6907096108659360790:=0
def tw15233836313311288655:=0
def tw12911965000210980714:=0
def tw16661691298194409998:=0
def tw9342433884084375469:=0
def tw15982026932784150156:=0
def tw12036442442430489592:=0
def tw11737974487699354225:=0
def tw3613123303527879641:=0
def tw11102812405553812213:=0
def tw3311466552124071644:=0
def tw7212024704885899804:=0
def tw12081849877398106621:=0
def tw3696165789271263799:=0
def tw16037798397921115436:=0
def tw7599460161471806771:=0
def tw1539085730775277918:=0
def tw14378293975084955254:=0
def tw4795815729862043907:=0
def tw2526220007417914216:=0
def tw16903764900284781177:=0
def tw10229863500542456460:=0
def tw1733621250188557245:=0
def tw2963404877803203777:=0
def tw1270134607286061417:=0
def tw11742198231499323148:=0
def tw9468582299850489127:=0
def tw8468665052294218347:=0
def tw14413385548898329755:=0
def tw7620728639711834629:=0
def tw15984489409842771237:=0
def tw9679845786076718866:=0
def tw2204919859905872076:=0
def tw17234538639880549315:=0
def tw2061514455427277922:=0
def tw4345446539012296862:=0
def tw1587839571871339991:=0
def tw4283067319094964367:=0
def tw14623475166116315461:=0
def tw541284603042538101:=0
def tw8785285990275382396:=0
def tw9122396223382968846:=0
def tw5878573609951334444:=0
def tw12768150604311718545:=0
def tw6565787241849798938:=0
def tw5087674895127207157:=0
def tw3699408512964463508:=0
def tw448514850814749597:=0
def tw15441749445570339596:=0
def tw1011742234294165214:=0
def tw15729505232074654338:=0
def tw11589229504842614491:=0
def tw13869281273719963347:=0
def tw17695944439887701230:=0
def tw10944341046642807988:=0
def tw7233767742853538625:=0
def tw13782091042691167300:=0
def tw4050507780448331845:=0
def tw358703663396418270:=0
def tw10696667446069685341:=0
def tw13730967272280572825:=0
end PySem.W.Fast
set_option maxRecDepth 100000 in
set_option maxHeartbeats 0 in
theorem PySem.Challenge.cw_ringtrade_k49_whole_hands_and_things_ren_holds : PySem.Challenge.rw_ringtrade_k49_whole_hands_and_things_ren.Holds := by
 w_on; o_law; k_head; (case hw=>w_witness2)
 k_fill
 refine DL.Hd (l:=PySem.Challenge.rw_ringtrade_k49_whole_hands_and_things_ren) (k:=9) (x := "_law_script") (F:=Law.pE) rfl rfl ⟨rfl,by decide,by decide,rfl⟩ (fun w h Y=>PySem.W.kIn_of Y) Law.main ?C
 intro w mg fa h KX G hmg
 have T:Law.Txt (L2.aE KX) mg:=by
  dsimp only [L2.aE]
  refine ⟨?uo,?up,?uq,?ur,?ut,?uu,?uv,?uw,?ux,?uy,?uz,?u0,?u1,?u2⟩
  case uo|up|uq|ur|ut|uu|uv|uw|ux|uy|uz|u0=>(refine' PySem.W.mg_none_of KX G ?_; k_is)
  case u1=>(refine' DL.Aj KX G ?u3 ?u4; (case u3=>k_is); (case u4=>k_is))
  case u2=>(refine' DL.Aj KX G ?u5 ?u6; (case u5=>k_is); (case u6=>k_is))
 have u7:DL.DefAt (L2.aE KX) mg "_law_cell" Law.xU:=by
  dsimp only [L2.aE]
  refine' DL.bJ KX G ?a ?l ?c ?k
  case a|l|c|k=>k_is
 have u8:DL.DefAt (L2.aE KX) mg "_law_row" Law.wY:=by
  dsimp only [L2.aE]
  refine' DL.bJ KX G ?a ?l ?c ?k
  case a|l|c|k=>k_is
 have u9:DL.DefAt (L2.aE KX) mg "_law_wishes" Law.oI:=by
  dsimp only [L2.aE]
  refine' DL.bJ KX G ?a ?l ?c ?k
  case a|l|c|k=>k_is
 have va:DL.DefAt (L2.aE KX) mg "_law_owns" Law.xV:=by
  dsimp only [L2.aE]
  refine' DL.bJ KX G ?a ?l ?c ?k
  case a|l|c|k=>k_is
 have vb:DL.DefAt (L2.aE KX) mg "_law_wished" Law.lJ:=by
  dsimp only [L2.aE]
  refine' DL.bJ KX G ?a ?l ?c ?k
  case a|l|c|k=>k_is
 have vc:DL.DefAt (L2.aE KX) mg "_law_owned" Law.oK:=by
  dsimp only [L2.aE]
  refine' DL.bJ KX G ?a ?l ?c ?k
  case a|l|c|k=>k_is
 have vd:DL.DefAt (L2.aE KX) mg "is_whole" Law.xo:=by
  dsimp only [L2.aE]
  refine' DL.bJ KX G ?a ?l ?c ?k
  case a|l|c|k=>k_is
 have ve:DL.DefAt (L2.aE KX) mg "is_below" Law.xm:=by
  dsimp only [L2.aE]
  refine' DL.bJ KX G ?a ?l ?c ?k
  case a|l|c|k=>k_is
 have vf:DL.DefAt (L2.aE KX) mg "first_wrong" Law.yk:=by
  dsimp only [L2.aE]
  refine' DL.bJ KX G ?a ?l ?c ?k
  case a|l|c|k=>k_is
 have vg:DL.DefAt (L2.aE KX) mg "are_unlike" Law.ym:=by
  dsimp only [L2.aE]
  refine' DL.bJ KX G ?a ?l ?c ?k
  case a|l|c|k=>k_is
 have vh:DL.DefAt (L2.aE KX) mg "has_each_once" Law.yx:=by
  dsimp only [L2.aE]
  refine' DL.bJ KX G ?a ?l ?c ?k
  case a|l|c|k=>k_is
 have vi:DL.DefAtD (L2.aE KX) mg "order_of" Law.xq [Value.none]:=by
  dsimp only [L2.aE]
  refine' DL.mr KX G ?a ?l ?t ?c ?k
  case a|l|t|c|k=>k_is
 have vj:DL.DefAt (L2.aE KX) mg "best_left" Law.oA:=by
  dsimp only [L2.aE]
  refine' DL.bJ KX G ?a ?l ?c ?k
  case a|l|c|k=>k_is
 have vk:DL.DefAt (L2.aE KX) mg "owner_left" Law.yo:=by
  dsimp only [L2.aE]
  refine' DL.bJ KX G ?a ?l ?c ?k
  case a|l|c|k=>k_is
 have vl:DL.DefAt (L2.aE KX) mg "hand_pointed_at" Law.yR:=by
  dsimp only [L2.aE]
  refine' DL.bJ KX G ?a ?l ?c ?k
  case a|l|c|k=>k_is
 have vm:DL.DefAt (L2.aE KX) mg "ring_from" Law.xY:=by
  dsimp only [L2.aE]
  refine' DL.bJ KX G ?a ?l ?c ?k
  case a|l|c|k=>k_is
 have vn:DL.DefAt (L2.aE KX) mg "rings_of_round" Law.lM:=by
  dsimp only [L2.aE]
  refine' DL.bJ KX G ?a ?l ?c ?k
  case a|l|c|k=>k_is
 have vo:DL.DefAt (L2.aE KX) mg "got_in" Law.vX:=by
  dsimp only [L2.aE]
  refine' DL.bJ KX G ?a ?l ?c ?k
  case a|l|c|k=>k_is
 have vp:DL.DefAt (L2.aE KX) mg "things_in" Law.xC:=by
  dsimp only [L2.aE]
  refine' DL.bJ KX G ?a ?l ?c ?k
  case a|l|c|k=>k_is
 have vq:DL.DefAtD (L2.aE KX) mg "rounds" Law.lD [Value.none]:=by
  dsimp only [L2.aE]
  refine' DL.mr KX G ?a ?l ?t ?c ?k
  case a|l|t|c|k=>k_is
 have vr:DL.DefAt (L2.aE KX) mg "dealing_of" Law.oM:=by
  dsimp only [L2.aE]
  refine' DL.bJ KX G ?a ?l ?c ?k
  case a|l|c|k=>k_is
 have vs:DL.DefAtD (L2.aE KX) mg "by_rings" Law.xk [Value.none]:=by
  dsimp only [L2.aE]
  refine' DL.mr KX G ?a ?l ?t ?c ?k
  case a|l|t|c|k=>k_is
 have vt:DL.DefAt (L2.aE KX) mg "_law_dealt" Law.oJ:=by
  dsimp only [L2.aE]
  refine' DL.bJ KX G ?a ?l ?c ?k
  case a|l|c|k=>k_is
 have vu:DL.DefAt (L2.aE KX) mg "pairs_of" Law.xr:=by
  dsimp only [L2.aE]
  refine' DL.bJ KX G ?a ?l ?c ?k
  case a|l|c|k=>k_is
 have vv:DL.DefAt (L2.aE KX) mg "ones_behind" Law.yQ:=by
  dsimp only [L2.aE]
  refine' DL.bJ KX G ?a ?l ?c ?k
  case a|l|c|k=>k_is
 have vw:DL.DefAt (L2.aE KX) mg "ring_of_askers" Law.oW:=by
  dsimp only [L2.aE]
  refine' DL.bJ KX G ?a ?l ?c ?k
  case a|l|c|k=>k_is
 have vx:DL.DefAt (L2.aE KX) mg "next_deed" Law.xX:=by
  dsimp only [L2.aE]
  refine' DL.bJ KX G ?a ?l ?c ?k
  case a|l|c|k=>k_is
 have vy:DL.DefAtD (L2.aE KX) mg "asked" Law.jN [Value.none]:=by
  dsimp only [L2.aE]
  refine' DL.mr KX G ?a ?l ?t ?c ?k
  case a|l|t|c|k=>k_is
 have vz:DL.DefAtD (L2.aE KX) mg "by_asking" Law.oB [Value.none]:=by
  dsimp only [L2.aE]
  refine' DL.mr KX G ?a ?l ?t ?c ?k
  case a|l|t|c|k=>k_is
 have v0:DL.DefAtD (L2.aE KX) mg "by_order" Law.wZ [Value.none]:=by
  dsimp only [L2.aE]
  refine' DL.mr KX G ?a ?l ?t ?c ?k
  case a|l|t|c|k=>k_is
 have v1:DL.DefAt (L2.aE KX) mg "_law_pairs" Law.yl:=by
  dsimp only [L2.aE]
  refine' DL.bJ KX G ?a ?l ?c ?k
  case a|l|c|k=>k_is
 have v2:DL.DefAt (L2.aE KX) mg "_law_rounds_alike" Law.oS:=by
  dsimp only [L2.aE]
  refine' DL.bJ KX G ?a ?l ?c ?k
  case a|l|c|k=>k_is
 have v3:DL.DefAt (L2.aE KX) mg "is_square" Law.xW:=by
  dsimp only [L2.aE]
  refine' DL.bJ KX G ?a ?l ?c ?k
  case a|l|c|k=>k_is
 have v4:DL.DefAt (L2.aE KX) mg "refuse_unless_square" Law.zu:=by
  dsimp only [L2.aE]
  refine' DL.bJ KX G ?a ?l ?c ?k
  case a|l|c|k=>k_is
 have v5:DL.DefAt (L2.aE KX) mg "less" Law.uE:=by
  dsimp only [L2.aE]
  refine' DL.bJ KX G ?a ?l ?c ?k
  case a|l|c|k=>k_is
 have v6:DL.DefAt (L2.aE KX) mg "least" Law.uM:=by
  dsimp only [L2.aE]
  refine' DL.bJ KX G ?a ?l ?c ?k
  case a|l|c|k=>k_is
 have v7:DL.DefAt (L2.aE KX) mg "greatest_divisor" Law.yV:=by
  dsimp only [L2.aE]
  refine' DL.bJ KX G ?a ?l ?c ?k
  case a|l|c|k=>k_is
 have v8:DL.DefAt (L2.aE KX) mg "fraction" Law.xl:=by
  dsimp only [L2.aE]
  refine' DL.bJ KX G ?a ?l ?c ?k
  case a|l|c|k=>k_is
 have v9:DL.DefAt (L2.aE KX) mg "times" Law.uO:=by
  dsimp only [L2.aE]
  refine' DL.bJ KX G ?a ?l ?c ?k
  case a|l|c|k=>k_is
 have wa:DL.DefAt (L2.aE KX) mg "time_until_one_is_gone" Law.o3:=by
  dsimp only [L2.aE]
  refine' DL.bJ KX G ?a ?l ?c ?k
  case a|l|c|k=>k_is
 have wb:DL.DefAt (L2.aE KX) mg "minus" Law.uN:=by
  dsimp only [L2.aE]
  refine' DL.bJ KX G ?a ?l ?c ?k
  case a|l|c|k=>k_is
 have wc:DL.DefAt (L2.aE KX) mg "left_after" Law.yn:=by
  dsimp only [L2.aE]
  refine' DL.bJ KX G ?a ?l ?c ?k
  case a|l|c|k=>k_is
 have wd:DL.DefAt (L2.aE KX) mg "not_gone" Law.xp:=by
  dsimp only [L2.aE]
  refine' DL.bJ KX G ?a ?l ?c ?k
  case a|l|c|k=>k_is
 have we:DL.DefAt (L2.aE KX) mg "meals_of" Law.lI:=by
  dsimp only [L2.aE]
  refine' DL.bJ KX G ?a ?l ?c ?k
  case a|l|c|k=>k_is
 have wf:DL.DefAt (L2.aE KX) mg "plus" Law.uF:=by
  dsimp only [L2.aE]
  refine' DL.bJ KX G ?a ?l ?c ?k
  case a|l|c|k=>k_is
 have wg:DL.DefAt (L2.aE KX) mg "log_of" Law.vY:=by
  dsimp only [L2.aE]
  refine' DL.bJ KX G ?a ?l ?c ?k
  case a|l|c|k=>k_is
 have wh:DL.DefAt (L2.aE KX) mg "shares_of" Law.xZ:=by
  dsimp only [L2.aE]
  refine' DL.bJ KX G ?a ?l ?c ?k
  case a|l|c|k=>k_is
 have wi:DL.DefAt (L2.aE KX) mg "eaten" Law.n6:=by
  dsimp only [L2.aE]
  refine' DL.bJ KX G ?a ?l ?c ?k
  case a|l|c|k=>k_is
 have wj:DL.DefAt (L2.aE KX) mg "_law_eaten_alike" Law.np:=by
  dsimp only [L2.aE]
  refine' DL.bJ KX G ?a ?l ?c ?k
  case a|l|c|k=>k_is
 have wk:DL.DefAt (L2.aE KX) mg "law" Law.nI:=by
  dsimp only [L2.aE]
  refine' DL.bJ KX G ?a ?l ?c ?k
  case a|l|c|k=>k_is
 refine DL.He hmg wk (fun _ _ _ _ _ _ us hl=>match us,hl with | [_],_=>rfl) fun f fd Fn base=>?_
 have ug:=Law.L1 (P:=P0) (w:=w) (base:=base) T u7
 have uh:=Law.Kj (P:=P0) (w:=w) (base:=base) T u8
 have wl:=Law.M3 (P:=P0) (w:=w) (base:=base) T u9 ug uh
 have wm:=Law.L3 (P:=P0) (w:=w) (base:=base) T va
 have wn:=Law.M0 (P:=P0) (w:=w) (base:=base) T vb
 have wo:=Law.Mq (P:=P0) (w:=w) (base:=base) T vc
 have ui:=Law.Ko (P:=P0) (w:=w) (base:=base) T vd
 have wp:=Law.Kn (P:=P0) (w:=w) (base:=base) T ve ui
 have wq:=Law.M4 (P:=P0) (w:=w) (base:=base) T vf wp
 have wr:=Law.Mt (P:=P0) (w:=w) (base:=base) T vg wq
 have ws:=Law.OK (P:=P0) (w:=w) (base:=base) T vh wr
 have ue:=Law.LR (P:=P0) (w:=w) (base:=base) T vi ws
 have uc:=Law.L4 (P:=P0) (w:=w) (base:=base) T vj
 have uj:=Law.Mw (P:=P0) (w:=w) (base:=base) T vk
 have wt:=Law.O8 (P:=P0) (w:=w) (base:=base) T vl uj
 have wu:=Law.L8 (P:=P0) (w:=w) (base:=base) T vm
 have wv:=Law.O0 (P:=P0) (w:=w) (base:=base) T vn uc wt wu
 have ud:=Law.Ix (P:=P0) (w:=w) (base:=base) T vo
 have ua:=Law.L0 (P:=P0) (w:=w) (base:=base) T vp
 have uk:=Law.Iz (P:=P0) (w:=w) (base:=base) T vq ue ua wv ud
 have uf:=Law.Mu (P:=P0) (w:=w) (base:=base) T vr
 have ww:=Law.Kl (P:=P0) (w:=w) (base:=base) T vs uk ud uf
 have wx:=Law.Mp (P:=P0) (w:=w) (base:=base) T vt
 have ul:=Law.LS (P:=P0) (w:=w) (base:=base) T vu
 have wy:=Law.M5 (P:=P0) (w:=w) (base:=base) T vv
 have wz:=Law.OZ (P:=P0) (w:=w) (base:=base) T vw wy
 have w0:=Law.L7 (P:=P0) (w:=w) (base:=base) T vx uc uj wz
 have w1:=Law.HX (P:=P0) (w:=w) (base:=base) T vy ue ua w0 ul ud
 have w2:=Law.L5 (P:=P0) (w:=w) (base:=base) T vz w1 ul ud uf
 have w3:=Law.Kk (P:=P0) (w:=w) (base:=base) T v0 ua ue uc uf
 have w4:=Law.Ms (P:=P0) (w:=w) (base:=base) T v1
 have w5:=Law.Pb (P:=P0) (w:=w) (base:=base) T v2 w4
 have w6:=Law.L6 (P:=P0) (w:=w) (base:=base) T v3 ua
 have w7:=Law.PQ (P:=P0) (w:=w) (base:=base) T v4 w6
 have w8:=Law.G6 (P:=P0) (w:=w) (base:=base) T v5
 have w9:=Law.HZ (P:=P0) (w:=w) (base:=base) T v6 w8
 have xa:=Law.Pj (P:=P0) (w:=w) (base:=base) T v7
 have ub:=Law.Km (P:=P0) (w:=w) (base:=base) T v8 ui xa
 have um:=Law.Ib (P:=P0) (w:=w) (base:=base) T v9 ub
 have xb:=Law.P4 (P:=P0) (w:=w) (base:=base) T wa ub um w9
 have xc:=Law.Ia (P:=P0) (w:=w) (base:=base) T wb ub
 have xd:=Law.Mv (P:=P0) (w:=w) (base:=base) T wc ub um xc
 have xe:=Law.LQ (P:=P0) (w:=w) (base:=base) T wd
 have xf:=Law.Kp (P:=P0) (w:=w) (base:=base) T we ua uc xb xd xe
 have un:=Law.G9 (P:=P0) (w:=w) (base:=base) T wf ub
 have xg:=Law.Iy (P:=P0) (w:=w) (base:=base) T wg un
 have xh:=Law.L9 (P:=P0) (w:=w) (base:=base) T wh ua un
 have xi:=Law.HY (P:=P0) (w:=w) (base:=base) T wi w7 xf xh xg
 have xj:=Law.Pi (P:=P0) (w:=w) (base:=base) T wj xi
 exact Law.Hf T Fn ug wl wm uh wn wo ww wx w2 w3 uk w5 xj
end
