import PyProof.Rows.All
import Wide.All
import OpenK.AllK
import Wide.FinOn
import Lean
import PyProof.EqAt
import PyProof.EqKinds
import PyProof.TupleCall
import PyProof.Rows.SetFrom
import KE.KSortTup
import PyProof.Draws
import PyProof.EnumMake
import PyProof.ListRange
import PyProof.Rows.EnumRows
import PyProof.SetRoads
import PyProof.Rows.MinMaxN
import PyProof.Rows.MaxTwoN
import PyProof.ZipIter
import KE.LcSums
import PyProof.TupleKey
import PyProof.InstSpecial
import PySem.Challenge.RW_ringtrade_k39_whole_any_table_parted
noncomputable section
open List renaming range->a_,getElem?_set_ne->c_,mem_cons_of_mem->f_,mem_cons_self->g_,getElem?_eq_getElem->i_,getElem?_eq_some_iff->k_,length_map->m_,getElem?_map->n_,getElem?_set_self->o_,map_cons->p_,mem_cons->q_,mem_range->r_,size_toArray->s_,mem_singleton->y_,mem_map->A_,length_cons->C_,getD_eq_getElem?_getD->E_,replicate->I_,map_append->L_,map_map->M_,getElem?_append_left->N_,sum_cons->PL,getElem?_range->PM,length_append->PN,mem_append_left->PU,mem_append_right->PV,map_congr_left->PY,nodup_cons->PZ,getElem?_eq_none->P3,getElem?_append_right->P4,find?_cons->P7,getElem_mem->Qc,Nodup->Qe,nodup_range->Qi,mem_append->Qk,not_mem_nil->Ql,range_eq_range'->Qq,all_eq_true->Qs,filterMap_cons->Qt,append_assoc->Qv,length_range->Qw,nodup_append->Qx,getElem?_replicate->Qy,mem_filter->QB,append_nil->QC,filter_cons->QD,drop_eq_getElem_cons->QE,ext_getElem?->QS,replicate_succ->QX,range_succ->QZ,length_take->Q2,range'_succ->Q4,length_erase_of_mem->Q9,length->Q_,range'->Rb,nil_append->Ro,all_cons->Ru,length_replicate->Rz,singleton_append->RC,flatten_cons->RH,pairwise_map->RK,drop_length->RS,lookup_cons->RT,foldl_cons->R3,any_cons->R5,perm_append_singleton->Sd,countP_cons->Si,getElem?_eq_none_iff->Sj,length_pos_iff->Sr,length_set->Sw,mem_filterMap->Sy,getElem?_cons_succ->SJ,reverse_cons->S9,zipWith->S_,take_of_length_le->Ta,length_singleton->Th,getElem?_zipWith->Ti,mem_of_mem_erase->Tj,length_drop->Tq,any_eq_true->Tt,mem_of_getElem?->TC,mem_erase_of_ne->TK,map->TM,count_le_length->TQ,forIn_cons->TX,sum_append->T0,length_zipWith->T4,getElem_of_mem->T5,any_map->T_,nodup_nil->Uo,getElem_inj->UF,getElem_map->UK,perm_middle->UR,map_nil->UV,length_pos_of_mem->U4,of_mem_zip->U9,length_nil->U_,getElem?_toArray->Vi,set_append_right->Vj,take_append_drop->Vl,mem_of_mem_drop->Vv,mem_of_mem_take->Vw,filterMap_map->VO,foldl->VQ,find?_eq_none->VW,map_filterMap->VY,count_pos_iff->V3,count_eq_zero->V4,zipIdx_cons->Ws,map_const'->WF,zipIdx_nil->WI,countP_map->WJ,find?_some->WK,count_cons->WM,idxOf_cons->WO,forIn_nil->W_,map_take->XQ,map_drop->XR
open PySem renaming Value->b_,wpAny_bind->d_,Shared->h_,starEach->l_,wpAny_pure->t_,Program->B_,wpAny->D_,model->O_,World->PP,Around->P8,compareOp->Qb,sizeLine_eq->Qf,mainGlobals->Qo,wpAny_pyIter_tuple->Qz,wpAny_field->QG,wpAny_truthy_bool->QM,assignEach->QN,foldedSetIterable->QO,wpAny_seqItems->QR,mem_of_lookup->QW,FuncData->Q0,wpAny_holding->Q6,wpAny_callSpecial?_slot->Re,wpAny_newObj_type->Rf,wpAny_mono->Rk,binaryOp->Rq,cLine->Rt,wpAny_setField_rec->Ry,wpAny_passesOwn->RE,wpAny_pyIter_list->RI,wpAny_setState_of->RJ,sysModules->RL,behindInMarks->RM,IsPair->RP,scanBound->RQ,SetTable->RX,wpAny_Call_Name_kw->RZ,Scope->R9,NameKind->R_,bootBuiltins->Sf,codeAny_mono->Sg,wpAny_call_entry->Sh,holding->Sv,codeAny_builtin->Sx,tupleKind_room_in1->Sz,wpAny_pyIter_enum->Tc,ofAClassStatement->Tf,swapsWith->Tl,assign->Tn,PassesOwn->To,Keyword->Tv,attributeBase->Tw,Builtin->Tx,wpAny_updateSeq_pair->TH,letOwnedTupleGo->TV,wpAny_loadPart'->TY,codeAny->T7,callType_new->Ub,call_meets->Ug,wpAny_letOwnedTupleGo_enum->Ui,IsZip->Uj,slot_list_getitem->Up,keywordEach->Uq,wpAny_standAt->Uu,IsPart->Uv,wpAny_getItem_list_slice->Uw,wpAny_comprehension_free->Ux,wpAny_onRaise->UA,bindArgs->UH,noFill_tuple_add->UI,wpAny_pyNext_enum_itemD->UJ,wpAny_forIn_list->UM,rawInt->US,concat_meets->UU,callerA->UZ,notedBy->U0,wpAny_pyNext_enum_endD->U1,wpAny_execs_nil->U8,codeAny_of_tree->Va,weight_type_call_type->Vg,wpAny_eqIsQuiet_tuple->Vk,pyNext->Vm,codeAny_call_builtin->Vo,compEnvC->Vp,carriedByValue->Vr,hashByValue->Vs,tupleKind->Vz,BindsTo->VA,getItem->VB,valueAt->VC,swapsWithSole->VD,swappedStores->VE,seq_tuple_add->VF,Draws->VH,wpAny_eqBool_tuple->V0,intKind->V5,standAt->V7,wpAny_assign_Name->V8,backToKw->Wc,relabel->Wd,searchCouldBeSeen->Wf,setRelay->Wg,wpAny_storeSet_of->Wh,lastMarks->Wk,slicePick->Wm,DictEntry->Wn,check_set_init_1->Wo,wpAny_pyIter_zip->Wu,CmpOp->Wy,seqIndex_of->Wz,atKey->WA,wpAny_letGo->WC,setItem->WQ,builtinsNs->WR,GenState->WS,wpAny_Name->WT,pyIter->WU,Result->WV,wpAny_call->WW,bindL->WX,bindC->WY,typeIs_int->W1,PlainAttrs->W2,call->W3,boot_len->W5,closureFor->W6,field->W7,wpAny_rule->W8,cellsFrom->XV,isSubtype->XZ,seqItems?->X2,cellOf->X9,sub_zip->Ya
open PySem.Heap renaming get?_push_of_some->e_,get?_push_size->w_,lt_size->x_,size_push->Qj,SameBut->SY,get?_update_self->Tg,IsTuple->Ua,get?_update_other->UY,IsList->Vq,FunFrames->W4,ExtBut->Yg
open Bool renaming false_ne_true->j_,and_eq_true->PR,false_eq_true->PX,eq_iff_iff->P6,not_true->Tz,and_false->Vt,and_self->XH,true_or->X7
open Nat renaming le_refl->u_,lt_of_lt_of_le->G_,ne_of_lt->PH,le_trans->PQ,zero_le->Qa,mul_pos->Qp,zero_add->QJ,lt_of_le_of_lt->Q3,lt_irrefl->Q5,ne_of_gt->Q7,mul_comm->Q8,lt_succ_of_lt->Rh,lt_succ_self->Rv,le_of_lt_succ->R7,pow_le_pow_right->Sa,mul_le_mul->Se,mod_lt->SF,add_mul->SR,le_of_eq->SZ,pow_succ->Td,add_zero->Te,dvd_mul_left->Ts,dvd_trans->TB,zero_mul->Uc,mul_assoc->UD,mul_div_cancel_left->UP,mod_eq_of_lt->UQ,lt_of_succ_lt_succ->U2,sub_self->U3,le_of_succ_le_succ->U5,div_le_self->Vd,pow_dvd_pow->Ve,le_of_dvd->VI,pos_of_ne_zero->V2,le_of_lt->V6,succ_pos->We,succ_le_succ->Wp,le_add_right->Wv,dvd_antisymm->Ww,le_succ->WB,strongRecOn->WL,mul_add_mod->WN,min_eq_left->WP,add_assoc->XS,succ_mul->X5,add_comm->X6,gcd_comm->Yb,log2_lt->Yh,Coprime->Yj,mul_add->Yk
open Int renaming mul_assoc->z_,mul_left_comm->H_,natAbs_natCast->J_,natCast_mul->K_,mul_comm->PF,gcd->QH,mul_lt_mul_of_pos_right->QL,toNat_natCast->QP,eq_of_mul_eq_mul_right->QU,lt_of_mul_lt_mul_right->QV,gcd_dvd_right->Ri,natCast_nonneg->R1,natCast_add->R4,ofNat_inj->R6,add_mul->Sb,natCast_dvd_natCast->SN,gcd_dvd_left->Tr,emod_nonneg->TZ,toNat_of_nonneg->T6,fdiv_eq_ediv_of_nonneg->Ue,natAbs_mul->Um,mul_ediv_cancel_left->UC,natCast_ediv->UO,le_of_lt->U6,ofNat_lt->U7,natCast_sub->Vf,sub_mul->Vx,emod_lt_of_pos->VV,dvd_mul_right->Wi,dvd_trans->XM,mul_one->Yd,dvd_gcd->Yi
open PySem.PassesOwn renaming never->F_
open Option.some renaming inj->PJ,injEq->SV
open PySem.F renaming plainAttrs_list->PK,slot_list_append->P9,type_list_append->P_,slot_list_count->RU,args_tuple_add_2->Ss,entry_tuple_add->SH,type_list_count->SU,slot_tuple_add->S4,slot_list_insert->Uy,slot_list_remove->Uz
open PySem.Builtin.SmallTypes renaming nextOf->Qg,ownedTupleIsFree->QI,ownedTupleHandOut->Sn
open Classical renaming byContradiction->Qh,axiomOfChoice->Rj
open PySem.SetTable renaming insertAt->Qm,grown->Ul,advance->UL,fits->XI,fill->XJ
open PySem.SetTable.layClean renaming free->Qr
open Array renaming length_toList->Qu,getElem?_toList->Q1,getD_eq_getD_getElem?->R8,getElem?_eq_getElem->Sl,getElem_mem_toList->UB,replicate->Vc,toList_extract->Vu,append_assoc->VM,forIn_toList->VZ,size_extract->V1,size_map->Xb,toList->X3
open PySem.PyData renaming canLay0->QA,depth->QQ,eqv->SD,canLayAll0->Us,eqvAll->UE,depthAll->Vb
open PyProof.Rows renaming callWith_type1->QK,slot_tuple_getitem->Rp,envOfC->S0,callWith_builtin1->Tp,AllBare->Tu,IntsAre->T9,subscriptTail_builtinR->UW,firstMet->Vn,subscriptTail->VG,step_dedup->VU,tail_any->Wb,boot_isinstance->WH,Subscript_->W0,assign_Tuple->Xo,IsTup->XU
open PySem.SetTable.probe renaming go->QT
open Option renaming map_some->QY,isSome_map->Ur,getD_some->UN,map->VX,getD_none->Wl,map_none->WG
open PySem.Builtin.Str renaming occurrences->Rc
open Function renaming comp_apply->Rr,comp_def->Ut
open Ne renaming symm->Rs
open False renaming elim->Rx
open List.Pairwise renaming and_mem->RA
open PySem.Builtin.Slice renaming slicePlaces->RD,sliceAdjust->Sk,sliceApplied->Uf,slicePartIndex->WE,sliceFields->Xn
open LawfulBEq renaming eq_of_beq->RF
open PySem.Builtin.Tuple renaming tupleExact->RN,tupleItemsOf->WZ
open PySem.Shared renaming heap->RY,TypeIs->XG
open PySem.Heap.SameBut renaming update->Sm
open PySem.Builtin.Int renaming intBits->So,intTooBig->Vh
open PySem.Builtin.List renaming listTooLong->Su,listFitsIndex->Uh
open PySem.Around renaming under_plainId->TJ,under->UT,under_plain->VS
open PySem.Challenge renaming pw_ringtrade_k39_whole_any_table_parted->TR,rw_ringtrade_k39_whole_any_table_parted->TU
open PySem.Builtin.Frozenset renaming updateFrom->TW,newClass->Xa
open PySem.Str renaming ofString->T8
open PySem.Calls renaming Name_function_global->Ud,spliced_cons->VN,spliced_nil->V_
open PySem.Obj renaming putSet->Uk,mapSeq->UX,data_mapFields->VT
open PySem.Builtin.Range renaming rangeSize->UG
open Eq renaming trans->Vy
open PySem.SeqAt.EqAt renaming int_str->VJ,str_int->VL
open PySem.Heap.IsSliceOf renaming new->VP
open PySem.Code renaming quiet_builtin->VR,isFrame->V9,isGuard->X4,frames->Ye
open Prod renaming ext->Wa,snd->Wj,fst->Xc
open PySem.MeetsSeq renaming EqGives->Wq
open PySem.Heap.IsList renaming push->Wt
open Sum.inl renaming inj->Wx
open PySem.Draws renaming list->W9
open PySem.EqNone renaming eq_none_none->Xd,eq_none_bool->Xe,eq_bool_none->Xf,ne_none_none->Xi,ne_none_bool->Xj,ne_bool_none->Xk,eq_none_int->Xr,eq_none_str->Xs,eq_int_none->Xt,eq_str_none->Xv,ne_none_int->Xx,ne_none_str->Xy,ne_int_none->Xz,ne_str_none->XD
open PySem.EqMixed renaming eq_bool_str->Xg,eq_str_bool->Xh,ne_bool_str->Xl,ne_str_bool->Xm,eq_int_str->Xu,eq_str_int->Xw,ne_int_str->XB,ne_str_int->XE
open PyProof.Rows.LSm renaming sum_ints->Xp
open PySem.Value renaming isStrOf->Xq,isInt->Yc
open List.Sublist renaming append_left->XT
open PyProof.Rows.IsTup renaming new->XY
open PySem.W renaming hideAll->X8
open PySem.SeqAt renaming shaped->X_,EqAt->Yl
open ForIn renaming forIn->Yf
open PySem.W.WShape renaming has->Ym
open PySem.Walks renaming list->Yn
set_option Elab.async false
set_option linter.all false
set_option maxRecDepth 100000
set_option maxHeartbeats 4000000
section
namespace L2
open PySem PySem.Spec PyProof.Rows
abbrev aB:=Sum Int Str
def l5:aB->b_->Bool
|.inl k,v=>Yc k v
|.inr x,v=>Xq x v
def y9(w:PP):aB->Int
|.inl k=>hashInt k
|.inr x=>hashStr w x
theorem keyIs_shape:∀{k:aB}{v:b_},l5 k v=true->(∃i t,k=Sum.inl i/\v=Value.int i t)\/(∃x t,k=Sum.inr x/\v=Value.str x t)
|.inl i,v,h=>by obtain⟨t,e⟩:=Value.isInt_shape (k:=i) (v:=v) h;exact .inl ⟨i,t,rfl,e⟩
|.inr x,v,h=>by obtain⟨t,e⟩:=Value.isStrOf_shape (x:=x) (v:=v) h;exact .inr ⟨x,t,rfl,e⟩
theorem M4(i:Int)(t:Tok):l5 (.inl i) (.int i t)=true:=by simp[l5,Yc]
theorem M5(x:Str)(t:Tok):l5 (.inr x) (.str x t)=true:=by simp[l5,Xq]
theorem ID(a b:Int):decide ((Sum.inl a:aB)=Sum.inl b)=(a==b):=by
 by_cases e:a=b
 .subst e;simp
 .have h:¬ (Sum.inl a:aB)=Sum.inl b:=fun q=>e (Wx q);rw[decide_eq_false h];exact(beq_eq_false_iff_ne.mpr e).symm
theorem IG(a b:Str):decide ((Sum.inr a:aB)=Sum.inr b)=decide (a=b):=by
 by_cases e:a=b
 .subst e;simp
 .have h:¬ (Sum.inr a:aB)=Sum.inr b:=fun q=>e (Sum.inr.inj q);rw[decide_eq_false h,decide_eq_false e]
theorem IE(a:Int)(b:Str):decide ((Sum.inl a:aB)=Sum.inr b)=false:=decide_eq_false (fun q=>nomatch q)
theorem IF(a:Str)(b:Int):decide ((Sum.inr a:aB)=Sum.inl b)=false:=decide_eq_false (fun q=>nomatch q)
def fN(prog:B_)(w:PP):PySem.KeyKind prog w aB where
 is:=l5
 hash:=y9 w
 inj:=fun v a b ha hb=>by
  rcases keyIs_shape ha with⟨i,t,rfl,rfl⟩|⟨x,t,rfl,rfl⟩
  .rcases keyIs_shape hb with⟨j,u,rfl,e⟩|⟨y,u,rfl,e⟩
   .injection e with e1 _;rw[e1]
   .exact nomatch e
  .rcases keyIs_shape hb with⟨j,u,rfl,e⟩|⟨y,u,rfl,e⟩
   .exact nomatch e
   .injection e with e1 _;rw[e1]
 byValue:=fun k v h=>by rcases keyIs_shape h with⟨i,t,rfl,rfl⟩|⟨x,t,rfl,rfl⟩ <;> rfl
 pyHash:=fun hv h=>by
  rcases keyIs_shape hv with⟨i,t,rfl,rfl⟩|⟨x,t,rfl,rfl⟩
  .exact wpAny_pyHash_int h
  .exact wpAny_pyHash_str h
 eqBool:=fun hu hv h=>by
  rcases keyIs_shape hu with⟨i,t,rfl,rfl⟩|⟨x,t,rfl,rfl⟩
  .rcases keyIs_shape hv with⟨j,u,rfl,rfl⟩|⟨y,u,rfl,rfl⟩
   .rw[ID]at h;exact wpAny_eqBool_int h
   .rw[IE]at h;exact VJ i t y u _ _ _ _ h
  .rcases keyIs_shape hv with⟨j,u,rfl,rfl⟩|⟨y,u,rfl,rfl⟩
   .rw[IF]at h;exact VL x t j u _ _ _ _ h
   .rw[IG]at h;exact wpAny_eqBool_str h
 «strs»:=fun k x t v h=>by
  rcases keyIs_shape h with⟨i,u,rfl,e⟩|⟨y,u,rfl,e⟩
  .exact nomatch e
  .injection e with e1 _
   subst e1;cases v <;> rfl
theorem N9(prog:B_)(w:PP)(i:Int)(t:Tok):(fN prog w).is (.inl i) (.int i t)=true:=M4 i t
theorem Oa(prog:B_)(w:PP)(x:Str)(t:Tok):(fN prog w).is (.inr x) (.str x t)=true:=M5 x t
inductive V where
 |non|bl (b:Bool)|int (i:Int)|str (x:Str)|byt (b:Array UInt8)|flt (b:UInt64)|ref (a:Addr)|ty (n:String)
 deriving DecidableEq
def ar:V->b_->Prop
|.non,u=>u=Value.none
|.bl b,u=>u=Value.bool b
|.int i,u=>∃t,u=Value.int i t
|.str x,u=>∃t,u=Value.str x t
|.byt b,u=>∃t,u=Value.bytes b t
|.flt b,u=>∃t,u=Value.float b t
|.ref a,u=>u=Value.ref a
|.ty n,u=>u=Value.type n
abbrev al:List V->List b_->Prop:=Paired ar
theorem al.length{xs:List V}{us:List b_}(r:al xs us):xs.length=us.length:=Paired.length r
theorem al.get:∀{xs:List V}{us:List b_}{i:Nat}{x:V},al xs us->xs[i]? = some x->∃u,us[i]? = some u/\ar x u
|_,_,_,_,.nil,e=>by simp at e
|_,_,0,_,.cons r _,e=>by simp at e;subst e;exact⟨_,rfl,r⟩
|_,_,i+1,x,.cons _ t,e=>by obtain⟨u,h1,h2⟩:=al.get (i:=i) (x:=x) t (by simpa using e);exact⟨u,by simpa using h1,h2⟩
theorem al.set{x:V}{u:b_}(r:ar x u):∀{xs:List V}{us:List b_}(i:Nat),al xs us->al (xs.set i x) (us.set i u)
|_,_,_,.nil=>.nil
|_,_,0,.cons _ t=>.cons r t
|_,_,i+1,.cons q t=>.cons q (al.set r i t)
theorem al.append{xs ys:List V}{us ws:List b_}(h:al xs us)(h':al ys ws):al (xs++ys) (us++ws):=by induction h with
|nil=>exact h'
|cons r _ ih=>exact .cons r ih
theorem al.take:∀{xs:List V}{us:List b_}(n:Nat),al xs us->al (xs.take n) (us.take n)
|_,_,0,_=>.nil
|_,_,_+1,.nil=>.nil
|_,_,n+1,.cons r t=>.cons r (al.take n t)
theorem al.drop:∀{xs:List V}{us:List b_}(n:Nat),al xs us->al (xs.drop n) (us.drop n)
|_,_,0,r=>r
|_,_,_+1,.nil=>.nil
|_,_,n+1,.cons _ t=>al.drop n t
theorem al.none_of:∀{xs:List V}{us:List b_}{i:Nat},al xs us->xs[i]? = none->us[i]? = none:=fun{xs us i} r e=>by have h1:=r.length;have h2:xs.length<=i:=Sj.mp e;exact Sj.mpr (by omega)
def cK:Option V->Option b_->Prop
|some v,some u=>ar v u
|none,none=>True
|_,_=>False
def KV{κ:Type}:List (κ×V)->List (κ×b_)->Prop:=Paired fun(p:κ×V)(q:κ×b_)=>p.1=q.1/\ar p.2 q.2
def kV:aB->V
|.inl i=>.int i
|.inr x=>.str x
inductive HO where
 |lst (xs:List V)
 |tup (xs:List V)
 |dK (kvs:List (aB×V))|dT (kvs:List (List aB×V))
 |set (S:Int->Bool) (n:Nat)
 |ins (C dx:Addr) (fs:List (Str×V))
 |own (x:Addr)
 |xd (fs:List (Str×V))
 |met (f x:Addr)
 |rng (lo hi:Int)
 |frz (o:Obj) (u:HO)
 |tbl (ps:Array b_)
 |ext (φ:Heap->Prop)
abbrev Hp:=Addr->Option HO
def upd(H:Hp)(a:Addr)(o:HO):Hp:=fun b=>if b=a then some o else H b
theorem ce{H:Hp}{a:Addr}{o:HO}:upd H a o a=some o:=by unfold upd;rw[if_pos rfl]
theorem bf{H:Hp}{a b:Addr}{o:HO}(h:b≠a):upd H a o b=H b:=by unfold upd;rw[if_neg h]
theorem Gx{H:Hp}{a b:Addr}{o u:HO}(h:H a=some o)(h':H b=some u)(d:o≠u):a≠b:=by intro e;subst e;rw[h]at h';exact d (PJ h')
theorem kZ{H:Hp}{a b:Addr}{o:HO}(h:H a=some o)(h':H b=none):a≠b:=by intro e;subst e;rw[h]at h';cases h'
section
variable(P:B_)(w:PP)
def bZ(H:Hp)(h:Heap)(a:Addr):HO->Prop
|.lst xs=>xs.length<=sizeLine/\∃(its:List b_)(n:Nat),al xs its/\h.get? a=some { cls:=.type "list",data:=.seq its.toArray n }
|.tup xs=>xs.length<=sizeLine/\∃its:List b_,al xs its/\XU h a its.toArray/\∃o,h.get? a=some o/\o.dict=none
|.dK kvs=>kvs.length<=sizeLine/\(a==RL)=false/\∃vs,KV kvs vs/\h.DictOf (fN P w) a vs
| .dT kvs=>kvs.length<=sizeLine/\(a == RL)=false/\∃xs:List (List aB × Addr × b_),
   Paired (fun(p:List aB×V)(q:List aB×Addr×b_)=>p.1=q.1/\H q.2.1=some (.tup (p.1.map kV))/\ar p.2 q.2.2) kvs xs /\∃o es ep,h.get? a=some o/\o.ExactDict/\o.data=.dict es ep/\es.toList=xs.map (entryOfKey (Vz (fN P w)))/\(xs.map (·.1)).Nodup
|.set S n=>h.SetOf (V5 P w) a S n
| .ins C dx fs=>H dx=some (.own a)/\fs.length<=1000/\dx≠a/\h.get? a=some (W.instObj C dx) /\
   ∃mA,h.Ns1 dx mA/\(∀f,cK (fs.lookup f) (mA f))/\PySem.Within mA (fs.map (·.1))
|.own _=>∃o,h.get? a=some o
|.xd fs=>∃mA,h.Ns1 a mA/\∀f,cK (fs.lookup f) (mA f)
|.rng lo hi=>∃t u v,h.get? a=some { cls:=.type "range",data:=.fields #[.int lo t,.int hi u,.int 1 v] }
|.frz o u=>h.get? a=some o/\bZ H h a u
|.tbl ps=>h.get? a=some { cls:=.none,data:=.fields ps }
|.met f x=>h.get? a=some (W.methodObj (.ref f) (.ref x))
|.ext φ=>φ h/\(∃o,h.get? a=some o)/\∀h1 h2:Heap,φ h1->(∀o,h1.get? a=some o->h2.get? a=some o)->φ h2
def cB(H:Hp)(h:Heap):Prop:=∀a o,H a=some o->bZ P w H h a o
end
section
variable{P:B_}{w:PP}{H H':Hp}{h h':Heap}{a:Addr}{o:HO}
theorem bZ.lt(x:bZ P w H h a o):a<h.objs.size:=by cases o with
|lst xs=>obtain⟨_,_,_,_,e⟩:=x;exact x_ e
|tup xs=>obtain⟨_,_,_,p,_⟩:=x;exact p.lt
|dK kvs=>obtain⟨_,_,_,_,o,_,_,e,_⟩:=x;exact x_ e
|dT kvs=>obtain⟨_,_,_,_,o,_,_,e,_⟩:=x;exact x_ e
|set S n=>obtain⟨o,_,_,_,e,_⟩:=x;exact x_ e
|ins C dx fs=>obtain⟨_,_,_,e,_⟩:=x;exact x_ e
|own y=>obtain⟨_,e⟩:=x;exact x_ e
|xd fs=>obtain⟨_,⟨_,_,_,e,_⟩,_⟩:=x;exact x_ e
|rng lo hi=>obtain⟨_,_,_,e⟩:=x;exact x_ e
|frz ob u=>obtain⟨e,_⟩:=x;exact x_ e
|tbl ps=>exact x_ (show h.get? a=some _ from x)
|met f y=>exact x_ (show h.get? a=some _ from x)
|ext φ=>obtain⟨_,⟨_,e⟩,_⟩:=x;exact x_ e
theorem Paired.mapP{α β:Type}{F G:α->β->Prop}{l₁:List α}{l₂:List β}(h:Paired F l₁ l₂)(f:∀a b,F a b->G a b):Paired G l₁ l₂:=by induction h with
|nil=>exact .nil
|cons r _ ih=>exact .cons (f _ _ r) ih
theorem bZ.stay(x:bZ P w H h a o)(k:∀b u,(b=a\/H b=some (.own a))->h.get? b=some u->h'.get? b=some u)(ho:∀b,H b=some (.own a)->H' b=some (.own a))(ht:∀b xs,H b=some (.tup xs)->H' b=some (.tup xs)):bZ P w H' h' a o:=by induction o with
|lst xs=>obtain⟨z,its,n,r,e⟩:=x;exact⟨z,its,n,r,k _ _ (.inl rfl) e⟩
|tup xs=>obtain⟨z,its,r,⟨ob,e,c⟩,ob2,e2,c2⟩:=x;exact⟨z,its,r,⟨ob,k _ _ (.inl rfl) e,c⟩,ob2,k _ _ (.inl rfl) e2,c2⟩
|dK kvs=>obtain⟨z,y,vs,r,ob,es,ep,e,c⟩:=x;exact⟨z,y,vs,r,ob,es,ep,k _ _ (.inl rfl) e,c⟩
|dT kvs=>obtain⟨z,y,xs,r,ob,es,ep,e,c⟩:=x;exact⟨z,y,xs,Paired.mapP r fun p q z=>⟨z.1,ht _ _ z.2.1,z.2.2⟩,ob,es,ep,k _ _ (.inl rfl) e,c⟩
|set S n=>obtain⟨ob,es,ep,t,e,c⟩:=x;exact⟨ob,es,ep,t,k _ _ (.inl rfl) e,c⟩
|ins C dx fs=>obtain⟨d,z,ne,e,mA,⟨od,es,ep,e2,c⟩,r⟩:=x;exact⟨ho _ d,z,ne,k _ _ (.inl rfl) e,mA,⟨od,es,ep,k _ _ (.inr d) e2,c⟩,r⟩
|own y=>obtain⟨ob,e⟩:=x;exact⟨ob,k _ _ (.inl rfl) e⟩
|xd fs=>obtain⟨mA,⟨od,es,ep,e,c⟩,r⟩:=x;exact⟨mA,⟨od,es,ep,k _ _ (.inl rfl) e,c⟩,r⟩
|rng lo hi=>obtain⟨t,u,v,e⟩:=x;exact⟨t,u,v,k _ _ (.inl rfl) e⟩
|frz ob u ih=>obtain⟨e,q⟩:=x;exact⟨k _ _ (.inl rfl) e,ih q⟩
|tbl ps=>have e:h.get? a=some { cls:=.none,data:=.fields ps }:=x;show h'.get? a=some { cls:=.none,data:=.fields ps };exact k a _ (.inl rfl) e
|met f y=>have e:h.get? a=some (W.methodObj (.ref f) (.ref y)):=x;show h'.get? a=some (W.methodObj (.ref f) (.ref y));exact k a _ (.inl rfl) e
|ext φ=>obtain⟨p,⟨o,e⟩,st⟩:=x;exact⟨st _ _ p fun o q=>k _ _ (.inl rfl) q,⟨o,k _ _ (.inl rfl) e⟩,st⟩
theorem cB.lt(x:cB P w H h)(e:H a=some o):a<h.objs.size:=(x a o e).lt
theorem cB.fresh(x:cB P w H h)(e:h.objs.size<=a):H a=none:=by cases q:H a with
|none=>rfl
|some u=>exact absurd (G_ (x.lt q) e) (Q5 _)
theorem cB.kept(x:cB P w H h)(k:∀b u,h.get? b=some u->h'.get? b=some u):cB P w H h':=fun a o e=>(x a o e).stay (fun b u _ q=>k b u q) (fun _ q=>q) fun _ _ q=>q
theorem cB.laid(x:cB P w H h)(k:∀b u,h.get? b=some u->h'.get? b=some u)(hp:h.objs.size<=a)(new:bZ P w (upd H a o) h' a o):cB P w (upd H a o) h':=fun b u e=>by
 have hn:=x.fresh hp;by_cases hb:b=a
 .subst hb;rw[ce]at e;cases e;exact new
 .rw[bf hb]at e;exact(x b u e).stay (fun c v _ q=>k c v q) (fun c q=>by rw[bf (kZ q hn)];exact q) fun c xs q=>by rw[bf (kZ q hn)];exact q
end
def Rd(H:Hp)(a:Addr)(u:HO):Prop:=H a=some u\/∃o,H a=some (.frz o u)
theorem Rd.of{H:Hp}{a:Addr}{u:HO}(h:H a=some u):Rd H a u:=.inl h
theorem Rd.ok{P:B_}{w:PP}{H:Hp}{h:Heap}{a:Addr}{u:HO}(r:Rd H a u)(x:cB P w H h):bZ P w H h a u:=by
 rcases r with r|⟨o,r⟩
 .exact x a u r
 .obtain⟨_,q⟩:=x a _ r;exact q
def ph:Option HO->Prop
|some (.lst _)=>True
|some (.dK _)=>True
|some (.dT _)=>True
|some (.set _ _)=>True
|some (.ins _ _ _)=>True
|some (.ext _)=>True
|_=>False
section
variable{P:B_}{w:PP}{H:Hp}{h h':Heap}{x e:Addr}{o':HO}
theorem cB.write(ok:cB P w H h)(mu:ph (H x))(he:e=x\/H e=some (.own x))(k:∀b u,b≠e->h.get? b=some u->h'.get? b=some u)(heo:∃u,h'.get? e=some u)(new:bZ P w (upd H x o') h' x o'):cB P w (upd H x o') h':=fun b u q=>by
 have nown:∀c y,H c=some (.own y)->c≠x:=fun c y r z=>by subst z;rw[r]at mu;exact mu
 have ntup:∀c xs,H c=some (.tup xs)->c≠x:=fun c xs r z=>by subst z;rw[r]at mu;exact mu
 by_cases hb:b=x
 .subst hb;rw[ce]at q;cases q;exact new
 .rw[bf hb]at q;by_cases hbe:b=e
  .have q':H b=some (.own x):=by
    rcases he with z|z
    .exact absurd (hbe.trans z) hb
    .rw[hbe];exact z
   rw[q]at q';cases q';obtain⟨v,hv⟩:=heo;exact⟨v,by rw[hbe];exact hv⟩
  .refine(ok b u q).stay (fun c v hc r=>k c v ?_ r) (fun c r=>by rw[bf (nown c b r)];exact r) fun c xs r=>by rw[bf (ntup c xs r)];exact r
   rcases hc with rfl|hc
   .exact hbe
   .rintro rfl
    rcases he with z|z
    .exact nown c b hc z
    .rw[hc]at z;cases z;exact hb rfl
end
structure Un(fs ex:List Addr)(H H':Hp)(h h':Heap):Prop where
 keep:∀b o,h.get? b=some o->H b=none->b∉fs->b∉ex->h'.get? b=some o
 slot:∀b o,h.get? b=some o->H b=none->b∈fs->b∉ex->∃sl,h'.get? b=some { o with slots:=sl }
 free:∀b o,h.get? b=some o->H b=none->b∉ex->H' b=none
 there:∀b o,h.get? b=some o->b∉ex->∃o',h'.get? b=some o'
 tups:∀b xs,H b=some (.tup xs)->H' b=some (.tup xs)
 frzs:∀b o u,H b=some (.frz o u)->H' b=some (.frz o u)
 tbls:∀b ps,H b=some (.tbl ps)->∃more,H' b=some (.tbl (ps++more))
section
variable{fs fs' ex ex':List Addr}{H H1 H2:Hp}{h h1 h2 h':Heap}{a x e:Addr}{o:HO}
theorem Un.any(u:Un fs ex H H1 h h1){b:Addr}{ob:Obj}(q:h.get? b=some ob)(n:H b=none)(hx:b∉ex):∃sl,h1.get? b=some { ob with slots:=sl }:=by
 by_cases hb:b∈fs
 .exact u.slot b ob q n hb hx
 .exact⟨ob.slots,u.keep b ob q n hb hx⟩
theorem Un.trans(a:Un fs ex H H1 h h1)(b:Un fs ex H1 H2 h1 h2):Un fs ex H H2 h h2 where
 keep:=fun c ob q n hc hx=>b.keep c ob (a.keep c ob q n hc hx) (a.free c ob q n hx) hc hx
 slot:=fun c ob q n hc hx=>by obtain⟨sl,e1⟩:=a.slot c ob q n hc hx;obtain⟨sl',e2⟩:=b.slot c _ e1 (a.free c ob q n hx) hc hx;exact⟨sl',e2⟩
 free:=fun c ob q n hx=>by obtain⟨o',e1⟩:=a.there c ob q hx;exact b.free c o' e1 (a.free c ob q n hx) hx
 there:=fun c ob q hx=>by obtain⟨o',e1⟩:=a.there c ob q hx;exact b.there c o' e1 hx
 tups:=fun c xs q=>b.tups c xs (a.tups c xs q)
 frzs:=fun c ob xs q=>b.frzs c ob xs (a.frzs c ob xs q)
 tbls:=fun c ps q=>by obtain⟨m1,e1⟩:=a.tbls c ps q;obtain⟨m2,e2⟩:=b.tbls c _ e1;exact⟨m1++m2,by rw[e2,VM]⟩
theorem Un.kept(k:∀b u,h.get? b=some u->h'.get? b=some u):Un fs ex H H h h':=⟨fun b ob q _ _ _=>k b ob q,fun b ob q _ _ _=>⟨ob.slots,k b ob q⟩,fun _ _ _ n _=>n,fun b ob q _=>⟨ob,k b ob q⟩,fun _ _ q=>q,fun _ _ _ q=>q,fun _ ps q=>⟨#[],by rw[q];simp⟩⟩
theorem Un.refl:Un fs ex H H h h:=Un.kept fun _ _ q=>q
theorem Un.laid(k:∀b u,h.get? b=some u->h'.get? b=some u)(hp:h.objs.size<=a)(hn:H a=none):Un fs ex H (upd H a o) h h' where
 keep:=fun b u q _ _ _=>k b u q
 slot:=fun b u q _ _ _=>⟨u.slots,k b u q⟩
 free:=fun b u q n _=>by rw[bf (PH (G_ (x_ q) hp))];exact n
 there:=fun b u q _=>⟨u,k b u q⟩
 tups:=fun b xs q=>by rw[bf (kZ q hn)];exact q
 frzs:=fun b u xs q=>by rw[bf (kZ q hn)];exact q
 tbls:=fun b ps q=>⟨#[],by rw[bf (kZ q hn),q];simp⟩
theorem Un.write(mu:ph (H x))(he:e=x\/H e=some (.own x))(k:∀b u,b≠e->h.get? b=some u->h'.get? b=some u)(heo:∃u,h'.get? e=some u):Un fs ex H (upd H x o) h h':=by
 have hx:∀b,H b=none->b≠x:=fun b n z=>by subst z;rw[n]at mu;exact mu
 have hb:∀b,H b=none->b≠e:=fun b n z=>by
  subst z;rcases he with r|r
  .exact hx b n r
  .rw[n]at r;cases r
 have hm:∀b u,H b=some u->¬ ph (some u)->b≠x:=fun b u q nm z=>by subst z;rw[q]at mu;exact nm mu
 refine⟨fun b u q n _ _=>k b u (hb b n) q,fun b u q n _ _=>⟨u.slots,k b u (hb b n) q⟩,fun b u q n _=>by rw[bf (hx b n)];exact n,fun b u q _=>?_,fun b xs q=>by rw[bf (hm b _ q fun z=>z)];exact q,fun b u xs q=>by rw[bf (hm b _ q fun z=>z)];exact q,fun b ps q=>⟨#[],by rw[bf (hm b _ q fun z=>z),q];simp⟩⟩;by_cases hbe:b=e
 .subst hbe;exact heo
 .exact⟨u,k b u hbe q⟩
theorem Un.mono(u:Un fs ex H H1 h h1)(hs:∀b∈fs,b∈fs')(hx:∀b∈ex,b∈ex'):Un fs' ex' H H1 h h1:=⟨fun b ob q n hb he=>u.keep b ob q n (fun z=>hb (hs b z)) fun z=>he (hx b z),fun _ _ q n _ he=>u.any q n fun z=>he (hx _ z),fun b ob q n he=>u.free b ob q n fun z=>he (hx b z),fun b ob q he=>u.there b ob q fun z=>he (hx b z),u.tups,u.frzs,u.tbls⟩
end
def trk(h:Heap)(H:Hp):List Addr:=(a_ h.objs.size).filter fun a=>(H a).isSome
def eD(h:Heap)(H:Hp):Heap:=W.hideAll h (trk h H)
theorem Nd(h:Heap)(H:Hp):(eD h H).objs.size=h.objs.size:=W.hideAll_size _ _
theorem Mr{h:Heap}{H:Hp}{b:Addr}{o:Obj}(e:h.get? b=some o)(n:H b=none):(eD h H).get? b=some o:=W.hideAll_get _ e fun hm=>by have q:(H b).isSome=true:=(QB.mp hm).2;rw[n]at q;simp at q
theorem JH{h:Heap}{H:Hp}{b:Addr}{o:Obj}(e:(eD h H).get? b=some o):h.get? b=some o/\H b=none:=by have e':h.get? b=some o:=W.of_hideAll (trk h H) e;refine⟨e',?_⟩;cases q:H b with
|none=>rfl
|some x=>have hm:b∈trk h H:=QB.mpr ⟨r_.mpr (x_ e'),by simp[q]⟩;have z:(eD h H).get? b=none:=W.hideAll_none (trk h H) hm;rw[z]at e;cases e
def nL(g h:Heap)(L:Addr):List (Addr×Obj):=(a_ h.objs.size).filterMap fun a=>if a=L\/(g.get? a).isSome=true then none else(h.get? a).map fun o=>(a,o)
theorem N8{g h:Heap}{L a:Addr}{o:Obj}(h1:a≠L)(h2:g.get? a=none)(h3:h.get? a=some o):(a,o)∈nL g h L:=Sy.mpr ⟨a,r_.mpr (x_ h3),by simp[h1,h2,h3]⟩
theorem OT{g h:Heap}{L:Addr}{p:Addr×Obj}(hp:p∈nL g h L):p.1≠L/\g.get? p.1=none/\h.get? p.1=some p.2:=by
 obtain⟨b,_,e⟩:=Sy.mp hp;split at e
 .cases e
 .rename_i hn;cases q:h.get? b with
 |none=>rw[q]at e;simp at e
 |some u=>rw[q]at e;simp only[QY,SV]at e;subst e;refine⟨fun z=>hn (.inl z),?_,q⟩;show g.get? b=none;cases r:g.get? b with
  |none=>rfl
  |some v=>exact(hn (.inr (by simp[r]))).elim
def rest(g h:Heap)(L d:Addr):List (Addr×Obj):=(nL g h L).filter fun p=>decide (p.1≠d)
theorem L6{g h:Heap}{L:Addr}:News g L h (nL g h L):=fun p hp=>let⟨a,b,c⟩:=OT hp;⟨c,a,b⟩
structure Mod(K:W.Frag)(mg:Str->Option b_)(base:Heap):Prop where
 kin:K.In base
 glob:base.Ns Qo mg
 blt:∃mb,base.Ns WR mb/\∀x:Str,x≠"__name__"->mb x=Sf x
 nolimit:base.NoLimit
structure Cx where
 prog:B_
 w:PP
 K:W.Frag
 mg:Str->Option b_
 base:Heap
 A:P8
 N:List Str
 s₀:h_
 H₀:Hp
 env:Env
 outer:List Env
 stack:List Env
 ex:List Addr
 fn:Str->Bool
 calm:Bool
 pn:List (Addr×Obj)
 xe:b_->h_->Prop
def dC(l:List Env):List Addr:=l.filterMap (·.frame)
abbrev Cx.fs(X:Cx):List Addr:=dC X.outer
def fQ(sc:R9)(x:Str):Prop:=sc.names.lookup x=some .local\/sc.names.lookup x=some .cell\/sc.names.lookup x=some .free
def io(sc:R9)(x:Str):Prop:=sc.names.lookup x=some .local\/sc.names.lookup x=some .cell
theorem cO{sc:R9}{x:Str}(h:(match sc.names.lookup x with|some .local=>true|some .cell=>true|some .free=>true|_=>false)=true):fQ sc x:=by
 revert h;unfold fQ;split<;>intro h
 .exact .inl (by assumption)
 .exact .inr (.inl (by assumption))
 .exact .inr (.inr (by assumption))
 .cases h
def zv(env:Env)(h:Heap)(m:Str->Option b_)(x:Str)(u:b_):Prop:=(env.kindOf x=some .local/\m x=some u)\/((env.kindOf x=some .cell\/env.kindOf x=some .free)/\∃c,env.cells.lookup x=some c/\h.IsCell c (some u))
structure Cx.Ok(X:Cx):Prop where
 mod:Mod X.K X.mg X.base
 kind:X.env.scope.kind=.function
 glob:X.env.globals=Qo
 blt:X.env.builtins=WR
 above:X.s₀.heap.objs.size<=X.env.locals
 inj:∀x y c,X.env.cells.lookup x=some c->X.env.cells.lookup y=some c->x=y
 has:∀x,(X.env.kindOf x=some .cell\/X.env.kindOf x=some .free)->∃c,X.env.cells.lookup x=some c
 cab:∀x c,X.fn x=true->X.env.cells.lookup x=some c->X.s₀.heap.objs.size<=c
 hd:X.calm=true->X.A.handled=none
 frames:X.A.frames=some X.stack
 stk:X.stack=X.outer\/(X.stack=X.env::X.outer/\X.env.frame=some X.env.locals)
 exf:∀b∈X.ex,b≠X.env.locals/\∀x c,X.env.cells.lookup x=some c->c≠b
 bs:∀b o,X.base.get? b=some o->X.s₀.heap.get? b=some o/\X.H₀ b=none
 bsz:X.base.objs.size<=X.s₀.heap.objs.size
 noex:∀b o,X.base.get? b=some o->b∉X.ex
 exfs:∀b∈X.ex,b∉X.fs
 funs:X.s₀.heap.FunFrames X.base X.outer
 frf:∀b∈X.fs,X.H₀ b=none
structure Inv(X:Cx)(pz:List (Addr×Obj))(σ:List (Option V))(H:Hp)(s:h_):Prop where
 ok:X.Ok
 os:s.os=X.s₀.os
 bare:Tu s.gens
 base:Un X.fs X.ex X.H₀ H X.s₀.heap s.heap
 loc:∃m,s.heap.Ns X.env.locals m/\∀(i:Nat)(x:Str)(v:V),X.N[i]? = some x->σ[i]? = some (some v)->fQ X.env.scope x->∃u,ar v u/\zv X.env s.heap m x u
 cell:∀x c,X.env.cells.lookup x=some c->∃v,s.heap.IsCell c v
 free:H X.env.locals=none
 freeC:∀x c,X.env.cells.lookup x=some c->H c=none
 pin:∀p∈X.pn++pz,s.heap.get? p.1=some p.2/\H p.1=none/\p.1≠X.env.locals/\p.1∉X.fs/\∀v,p.2.data≠.cell v
 hok:cB X.prog X.w H s.heap
 len:σ.length=X.N.length
section
variable{X:Cx}{pz:List (Addr×Obj)}{σ:List (Option V)}{H H':Hp}{s:h_}{h':Heap}
theorem Cx.Ok.nofr(ok:X.Ok){b:Addr}{o:Obj}(e:X.base.get? b=some o):b∉X.fs:=fun hb=>by have:=(ok.funs.mem hb).1;rw[e]at this;cases this
theorem Inv.bs(I:Inv X pz σ H s):∀b o,X.base.get? b=some o->s.heap.get? b=some o/\H b=none:=fun b o e=>⟨I.base.keep b o (I.ok.bs b o e).1 (I.ok.bs b o e).2 (I.ok.nofr e) (I.ok.noex b o e),I.base.free b o (I.ok.bs b o e).1 (I.ok.bs b o e).2 (I.ok.noex b o e)⟩
theorem Inv.bk(I:Inv X pz σ H s):∀b o,X.base.get? b=some o->s.heap.get? b=some o:=fun b o e=>(I.bs b o e).1
theorem Inv.mod(I:Inv X pz σ H s):Mod X.K X.mg X.base:=I.ok.mod
theorem Inv.kIn(I:Inv X pz σ H s):X.K.In s.heap:=I.ok.mod.kin.keeps I.bk
theorem Inv.nolimit(I:Inv X pz σ H s):s.heap.NoLimit:=I.ok.mod.nolimit.keeps I.bk
theorem Inv.fr(I:Inv X pz σ H s):∃m,Fr X.base X.env.locals s.heap m:=let⟨m,hn,_⟩:=I.loc
 ⟨m,hn,I.bk,PQ I.ok.bsz I.ok.above⟩
theorem Inv.lt(I:Inv X pz σ H s):X.env.locals<s.heap.objs.size:=let⟨_,hn,_⟩:=I.loc;hn.lt
theorem Inv.sz(I:Inv X pz σ H s):X.s₀.heap.objs.size<=s.heap.objs.size:=PQ I.ok.above (V6 I.lt)
theorem Inv.nofs(I:Inv X pz σ H s){a:Addr}(h:s.heap.objs.size<=a):a∉X.fs:=fun hb=>by obtain⟨_,o,ho,_⟩:=I.ok.funs.mem hb;exact absurd (G_ (x_ ho) (PQ I.sz h)) (Q5 _)
theorem Inv.cne(I:Inv X pz σ H s):∀x c,X.env.cells.lookup x=some c->c≠X.env.locals:=fun x c e z=>by obtain⟨v,o,ho,hd⟩:=I.cell x c e;obtain⟨m,⟨o',es,ep,ho',hd',_⟩,_⟩:=I.loc;rw[z,ho']at ho;cases ho;rw[hd']at hd;cases hd
theorem Inv.funs(I:Inv X pz σ H s):s.heap.FunFrames X.base X.outer:=by
 have all:∀(l:List Env),(∀b∈dC l,b∈X.fs)->X.s₀.heap.FunFrames X.base l->s.heap.FunFrames X.base l:=by
  intro l
  induction l with
 |nil=>intro _ _;trivial
 |cons env r ih=>intro hs hl;obtain⟨hk,⟨L,o,hf,hn,ho,hd⟩,hr⟩:=hl;have hL:L∈X.fs:=hs L (by unfold dC;rw[Qt,hf];exact g_);obtain⟨sl,e⟩:=I.base.slot L o ho (I.ok.frf L hL) hL fun z=>I.ok.exfs L z hL;exact⟨hk,⟨L,_,hf,hn,e,hd⟩,ih (fun b hb=>hs b (by unfold dC;rw[Qt,hf];exact f_ _ hb)) hr⟩
 exact all X.outer (fun _ hb=>hb) I.ok.funs
theorem Inv.stack(I:Inv X pz σ H s):s.heap.FunFrames X.base X.stack:=by
 rcases I.ok.stk with e|⟨e,hf⟩
 .rw[e];exact I.funs
 .rw[e];obtain⟨m,hn,_⟩:=I.loc;refine .cons (by rw[I.ok.kind];decide) hf hn ?_ I.funs;exact Heap.get?_none_of_le (PQ I.ok.bsz I.ok.above)
theorem Inv.stkSub(I:Inv X pz σ H s):∀b∈dC X.stack,b∈X.env.locals::X.fs:=fun b hb=>by
 rcases I.ok.stk with e|⟨e,hf⟩
 .rw[e]at hb;exact f_ _ hb
 .rw[e]at hb;unfold dC at hb;rw[Qt,hf]at hb;exact hb
theorem Inv.stkFree(I:Inv X pz σ H s):∀b∈dC X.stack,H b=none:=fun b hb=>by
 rcases q_.mp (I.stkSub b hb)with e|hb
 .rw[e];exact I.free
 .obtain⟨_,o,ho,_⟩:=I.ok.funs.mem hb;exact I.base.free b o ho (I.ok.frf b hb) fun z=>I.ok.exfs b z hb
theorem Inv.step{g':Array WS}{t':Nat}{d':Drawn}{ch:List Addr}(I:Inv X pz σ H s)(hch:∀b∈ch,(b∈X.ex\/X.s₀.heap.objs.size<=b)/\b≠X.env.locals/\(∀x c,X.env.cells.lookup x=some c->c≠b)/\∀p∈X.pn++pz,p.1≠b)(keep:∀b o,b≠X.env.locals->b∉X.fs->b∉ch->s.heap.get? b=some o->H b=none->h'.get? b=some o)(slot:∀b o,b≠X.env.locals->b∈X.fs->b∉ch->s.heap.get? b=some o->H b=none->∃sl,h'.get? b=some { o with slots:=sl })(free:∀b o,b∉ch->s.heap.get? b=some o->H b=none->H' b=none)(there:∀b o,b∉ch->s.heap.get? b=some o->∃o',h'.get? b=some o')(tups:∀b xs,H b=some (.tup xs)->H' b=some (.tup xs))(frzs:∀b o u,H b=some (.frz o u)->H' b=some (.frz o u))(tbls:∀b ps,H b=some (.tbl ps)->∃more,H' b=some (.tbl (ps++more)))(ns:∀m,s.heap.Ns X.env.locals m->h'.Ns X.env.locals m)(hok:cB X.prog X.w H' h')(hg:Tu g'):Inv X pz σ H' { s with heap:=h',gens:=g',drawn:=d',toks:=t' }:=by
 have neL:∀b o,X.s₀.heap.get? b=some o->b≠X.env.locals:=fun b o e=>PH (G_ (x_ e) I.ok.above);have neC:∀b o,X.s₀.heap.get? b=some o->b∉X.ex->b∉ch:=fun b o e hx hb=>by
  rcases(hch b hb).1 with z|z
  .exact hx z
  .exact absurd (G_ (x_ e) z) (Q5 _)
 have cellK:∀x c,X.env.cells.lookup x=some c->∀v,s.heap.IsCell c v->h'.IsCell c v:=fun x c e v ⟨o,ho,hd⟩=>by
  have nch:c∉ch:=fun z=>(hch c z).2.2.1 x c e rfl;by_cases hc:c∈X.fs
  .obtain⟨sl,q⟩:=slot c o (I.cne x c e) hc nch ho (I.freeC x c e);exact⟨_,q,hd⟩
  .exact⟨o,keep c o (I.cne x c e) hc nch ho (I.freeC x c e),hd⟩
 refine⟨I.ok,I.os,hg,⟨fun b o e n hb hx=>?_,fun b o e n hb hx=>?_,fun b o e n hx=>?_,fun b o e hx=>?_,fun b xs e=>tups b xs (I.base.tups b xs e),fun b o xs e=>frzs b o xs (I.base.frzs b o xs e),fun b ps e=>?_⟩,?_,fun x c e=>?_,?_,fun x c e=>?_,fun p hp=>?_,hok,I.len⟩
 .exact keep b o (neL b o e) hb (neC b o e hx) (I.base.keep b o e n hb hx) (I.base.free b o e n hx)
 .obtain⟨sl,e1⟩:=I.base.slot b o e n hb hx;obtain⟨sl',e2⟩:=slot b _ (neL b o e) hb (neC b o e hx) e1 (I.base.free b o e n hx);exact⟨sl',e2⟩
 .obtain⟨o',e1⟩:=I.base.there b o e hx;exact free b o' (neC b o e hx) e1 (I.base.free b o e n hx)
 .obtain⟨o',e1⟩:=I.base.there b o e hx;exact there b o' (neC b o e hx) e1
 .obtain⟨m1,e1⟩:=I.base.tbls b ps e;obtain⟨m2,e2⟩:=tbls b _ e1;exact⟨m1++m2,by rw[e2,VM]⟩
 .obtain⟨m,hn,hl⟩:=I.loc;refine⟨m,ns m hn,fun i x v e1 e2 e3=>?_⟩;obtain⟨u,r,l⟩:=hl i x v e1 e2 e3;refine⟨u,r,?_⟩;rcases l with l|⟨k,c,e,z⟩
  .exact .inl l
  .exact .inr ⟨k,c,e,cellK x c e _ z⟩
 .obtain⟨v,z⟩:=I.cell x c e;exact⟨v,cellK x c e v z⟩
 .obtain⟨m,⟨o,_,_,ho,_⟩,_⟩:=I.loc;exact free _ o (fun z=>(hch _ z).2.1 rfl) ho I.free
 .obtain⟨v,o,ho,hd⟩:=I.cell x c e;exact free c o (fun z=>(hch c z).2.2.1 x c e rfl) ho (I.freeC x c e)
 .obtain⟨e,n,ne,nf,d⟩:=I.pin p hp;have nch:p.1∉ch:=fun z=>(hch p.1 z).2.2.2 p hp rfl;exact⟨keep p.1 p.2 ne nf nch e n,free p.1 p.2 nch e n,ne,nf,d⟩
theorem Inv.un{t':Nat}(I:Inv X pz σ H s)(u:Un X.fs [] H H' s.heap h')(hok:cB X.prog X.w H' h'):Inv X pz σ H' { s with heap:=h',toks:=t' }:=by obtain⟨m,⟨o,es,ep,ho,r⟩,_⟩:=id I.loc;obtain⟨sl,hL⟩:=u.any ho I.free (by simp);exact I.step (g':=s.gens) (d':=s.drawn) (ch:=[]) (fun _ z=>nomatch z) (fun b o _ hb _ e n=>u.keep b o e n hb (by simp)) (fun b o _ hb _ e n=>u.slot b o e n hb (by simp)) (fun b o _ e n=>u.free b o e n (by simp)) (fun b o _ e=>u.there b o e (by simp)) u.tups u.frzs u.tbls (fun m' hm=>by obtain⟨o',es',ep',ho',r'⟩:=hm;rw[ho]at ho';cases ho';exact⟨_,es',ep',hL,r'⟩) hok I.bare
theorem Inv.call{g':Array WS}{t':Nat}{d':Drawn}{ch:List Addr}(I:Inv X pz σ H s)(u:Un (dC X.stack) ch H H' s.heap h')(hok:cB X.prog X.w H' h')(hg:Tu g')(hch:∀b∈ch,(b∈X.ex\/X.s₀.heap.objs.size<=b)/\b≠X.env.locals/\(∀x c,X.env.cells.lookup x=some c->c≠b)/\∀p∈X.pn++pz,p.1≠b):Inv X pz σ H' { s with heap:=h',gens:=g',drawn:=d',toks:=t' }:=by obtain⟨m,⟨o,es,ep,ho,r⟩,_⟩:=id I.loc;obtain⟨sl,hL⟩:=u.any ho I.free fun z=>(hch _ z).2.1 rfl;exact I.step (ch:=ch) hch (fun b o hL hb hc e n=>u.keep b o e n (fun z=>(q_.mp (I.stkSub b z)).elim hL hb) hc) (fun b o _ _ hc e n=>u.any e n hc) (fun b o hc e n=>u.free b o e n hc) (fun b o hc e=>u.there b o e hc) u.tups u.frzs u.tbls (fun m' hm=>by obtain⟨o',es',ep',ho',r'⟩:=hm;rw[ho]at ho';cases ho';exact⟨_,es',ep',hL,r'⟩) hok hg
theorem Inv.turned{t':Nat}{it:Addr}(I:Inv X pz σ H s)(k:∀b o,b≠it->s.heap.get? b=some o->h'.get? b=some o)(hn:H it=none)(hL:it≠X.env.locals)(h1:it∈X.ex\/X.s₀.heap.objs.size<=it)(h2:∀x c,X.env.cells.lookup x=some c->c≠it)(h3:∀p∈X.pn++pz,p.1≠it):Inv X pz σ H { s with heap:=h',toks:=t' }:=by
 have nit:∀b u,H b=some u->b≠it:=fun b u e z=>by rw[z,hn]at e;cases e
 refine I.step (g':=s.gens) (d':=s.drawn) (ch:=[it]) (fun b hb=>?_) (fun b o _ _ hc e _=>k b o (fun z=>hc (by simp[z])) e) (fun b o _ _ hc e _=>⟨o.slots,k b o (fun z=>hc (by simp[z])) e⟩) (fun _ _ _ _ n=>n)
  (fun b o hc e=>⟨o,k b o (fun z=>hc (by simp[z])) e⟩) (fun _ _ e=>e) (fun _ _ _ e=>e) (fun b ps e=>⟨#[],by rw[e];simp⟩) (fun m hm=>?_) (fun b u e=>?_) I.bare
 .have e:b=it:=by simpa using hb
  subst e;exact⟨h1,hL,h2,h3⟩
 .obtain⟨o,es,ep,ho,r⟩:=hm;exact⟨o,es,ep,k _ o (Rs hL) ho,r⟩
 .refine(I.hok b u e).stay (fun c v hc q=>k c v ?_ q) (fun _ q=>q) fun _ _ q=>q;rcases hc with z|z
  .rw[z];exact nit b u e
  .exact nit c _ z
theorem Inv.tok(I:Inv X pz σ H s)(t:Nat):Inv X pz σ H { s with toks:=t }:=I.un (h':=s.heap) (t':=t) Un.refl I.hok
theorem Inv.kept{t':Nat}(I:Inv X pz σ H s)(k:∀b u,s.heap.get? b=some u->h'.get? b=some u):Inv X pz σ H { s with heap:=h',toks:=t' }:=I.un (Un.kept k) (I.hok.kept k)
theorem Inv.laid{a:Addr}{o:HO}{t':Nat}(I:Inv X pz σ H s)(k:∀b u,s.heap.get? b=some u->h'.get? b=some u)(hp:s.heap.objs.size<=a)(new:bZ X.prog X.w (upd H a o) h' a o):Inv X pz σ (upd H a o) { s with heap:=h',toks:=t' }:=I.un (Un.laid k hp (I.hok.fresh hp)) (I.hok.laid k hp new)
theorem Inv.write{x e:Addr}{o:HO}{t':Nat}(I:Inv X pz σ H s)(mu:ph (H x))(he:e=x\/H e=some (.own x))(k:∀b u,b≠e->s.heap.get? b=some u->h'.get? b=some u)(heo:∃u,h'.get? e=some u)(new:bZ X.prog X.w (upd H x o) h' x o):Inv X pz σ (upd H x o) { s with heap:=h',toks:=t' }:=I.un (Un.write mu he k heo) (I.hok.write mu he k heo new)
theorem Inv.pins_of{pins':List (Addr×Obj)}(I:Inv X pz σ H s)(h:∀p∈pins',s.heap.get? p.1=some p.2/\H p.1=none/\p.1≠X.env.locals/\p.1∉X.fs/\∀v,p.2.data≠.cell v):Inv X pins' σ H s:=⟨I.ok,I.os,I.bare,I.base,I.loc,I.cell,I.free,I.freeC,fun p hp=>(Qk.mp hp).elim (fun z=>I.pin p (PU _ z)) (h p),I.hok,I.len⟩
theorem CY{N:List Str}(hN:N.Nodup){i j:Nat}{x:Str}(a:N[i]? = some x)(b:N[j]? = some x):i=j:=by obtain⟨h1,e1⟩:=k_.mp a;obtain⟨h2,e2⟩:=k_.mp b;exact(UF hN).mp (e1.trans e2.symm)
theorem DQ{M:Model}{A:P8}{E:b_->h_->Prop}{i:Nat}{x:Str}{v:V}{u:b_}{Q:Unit->h_->Prop}(I:Inv X pz σ H s)(hN:X.N.Nodup)(hi:X.N[i]? = some x)(hx:io X.env.scope x)(r:ar v u)(h:∀s',Inv X pz (σ.set i (some v)) H s'->(∃a,SY a s.heap s'.heap/\(a=X.env.locals\/X.env.cells.lookup x=some a))->Q () s')(hf:X.fn x=true\/X.env.scope.names.lookup x=some .local:=by first|exact .inl rfl|exact .inr rfl|assumption):D_ M A (storeName X.env x u) Q E s:=by
 obtain⟨m,hn,hl⟩:=id I.loc;have hcls:(X.env.scope.kind==.class || (X.env.scope.kind==.module&&X.env.locals != X.env.globals))=false:=by rw[I.ok.kind];rfl
 have hiσ:i<σ.length:=by rw[I.len];exact(k_.mp hi).1
 have cne:=I.cne;have tracked:∀{a:Addr}{h':Heap},(∃o,s.heap.get? a=some o/\H a=none)->SY a s.heap h'->cB X.prog X.w H h':=fun{a h'} ha hs b ob e=>by
  obtain⟨_,_,hfree⟩:=ha;refine(I.hok b ob e).stay (fun c w' hc q=>(hs.2 c ?_).trans q) (fun _ q=>q) fun _ _ q=>q
  rintro rfl
  rcases hc with rfl|hc
  .rw[hfree]at e;cases e
  .rw[hfree]at hc;cases hc
 rcases hx with hk|hk
 .refine wpAny_storeName_local hk hn (fun h' hn' hs=>?_) hcls;obtain⟨oL,_,_,hoL,_⟩:=id hn;refine h _ ⟨I.ok,I.os,I.bare,⟨fun b o e n hb hx=>?_,fun b o e n hb hx=>?_,I.base.free,fun b o e hx=>?_,I.base.tups,I.base.frzs,I.base.tbls⟩,⟨_,hn',fun j y v' e1 e2 e3=>?_⟩,fun y c e=>?_,I.free,I.freeC,fun p hp=>?_,tracked ⟨oL,hoL,I.free⟩ hs,by simpa using I.len⟩ ⟨_,hs,.inl rfl⟩
  .exact(hs.2 b (PH (G_ (x_ e) I.ok.above))).trans (I.base.keep b o e n hb hx)
  .obtain⟨sl,e1⟩:=I.base.slot b o e n hb hx;exact⟨sl,(hs.2 b (PH (G_ (x_ e) I.ok.above))).trans e1⟩
  .obtain⟨o',e1⟩:=I.base.there b o e hx;exact⟨o',(hs.2 b (PH (G_ (x_ e) I.ok.above))).trans e1⟩
  .by_cases hj:j=i
   .subst hj;rw[hi]at e1;cases e1;rw[o_ hiσ]at e2;cases e2;exact⟨u,r,.inl ⟨hk,by simp⟩⟩
   .rw[c_ (Rs hj)]at e2;obtain⟨u',r',q⟩:=hl j y v' e1 e2 e3;refine⟨u',r',?_⟩;rcases q with⟨k,e⟩|⟨k,c,e,z⟩
    .refine .inl ⟨k,?_⟩;have:y≠x:=fun e=>hj (CY hN e1 (e▸hi));simp[this,e]
    .exact .inr ⟨k,c,e,z.sameBut hs (cne y c e)⟩
  .obtain⟨w',z⟩:=I.cell y c e;exact⟨w',z.sameBut hs (cne y c e)⟩
  .obtain⟨e,n,ne,nf,d⟩:=I.pin p hp;exact⟨(hs.2 p.1 ne).trans e,n,ne,nf,d⟩
 .have hfn:X.fn x=true:=by
   rcases hf with z|z
   .exact z
   .rw[z]at hk;cases hk
  obtain⟨c,hc⟩:=I.ok.has x (.inl hk);obtain⟨w',z⟩:=I.cell x c hc;refine wpAny_storeName_cell I.ok.kind hk hc z (fun h' hc' hs=>?_);obtain⟨oc,hoc,hocd⟩:=id z;refine h { s with heap:=h' } ⟨I.ok,I.os,I.bare,⟨fun b o e n hb hx=>?_,fun b o e n hb hx=>?_,I.base.free,fun b o e hx=>?_,I.base.tups,I.base.frzs,I.base.tbls⟩,⟨m,hn.sameBut hs (Rs (cne x c hc)),fun j y v' e1 e2 e3=>?_⟩,fun y c' e=>?_,I.free,I.freeC,fun p hp=>?_,tracked ⟨oc,hoc,I.freeC x c hc⟩ hs,by simpa using I.len⟩ ⟨c,hs,.inr hc⟩
  .exact(hs.2 b (PH (G_ (x_ e) (I.ok.cab x c hfn hc)))).trans (I.base.keep b o e n hb hx)
  .obtain⟨sl,e1⟩:=I.base.slot b o e n hb hx;exact⟨sl,(hs.2 b (PH (G_ (x_ e) (I.ok.cab x c hfn hc)))).trans e1⟩
  .obtain⟨o',e1⟩:=I.base.there b o e hx;exact⟨o',(hs.2 b (PH (G_ (x_ e) (I.ok.cab x c hfn hc)))).trans e1⟩
  .by_cases hj:j=i
   .subst hj;rw[hi]at e1;cases e1;rw[o_ hiσ]at e2;cases e2;exact⟨u,r,.inr ⟨.inl hk,c,hc,hc'⟩⟩
   .rw[c_ (Rs hj)]at e2;obtain⟨u',r',q⟩:=hl j y v' e1 e2 e3;refine⟨u',r',?_⟩;rcases q with q|⟨k,c',e,z'⟩
    .exact .inl q
    .refine .inr ⟨k,c',e,z'.sameBut hs ?_⟩
     rintro rfl
     exact hj (CY hN e1 (I.ok.inj _ _ _ e hc▸hi))
  .by_cases hcc:c'=c
   .subst hcc;exact⟨_,hc'⟩
   .obtain⟨w2,z2⟩:=I.cell y c' e;exact⟨w2,z2.sameBut hs hcc⟩
  .obtain⟨e,n,ne,nf,d⟩:=I.pin p hp;refine⟨(hs.2 p.1 ?_).trans e,n,ne,nf,d⟩;intro q;rw[q,hoc]at e;have q':oc=p.2:=PJ e;exact d w' (by rw[<-q'];exact hocd)
theorem Dd{M:Model}{A:P8}{E:b_->h_->Prop}{i:Nat}{x:Str}{v:V}{u:b_}{Q:Unit->h_->Prop}(I:Inv X pz σ H s)(hN:X.N.Nodup)(hi:X.N[i]? = some x)(hx:io X.env.scope x)(r:ar v u)(h:∀s',Inv X pz (σ.set i (some v)) H s'->Q () s')(hf:X.fn x=true\/X.env.scope.names.lookup x=some .local:=by first|exact .inl rfl|exact .inr rfl|assumption):D_ M A (storeName X.env x u) Q E s:=DQ I hN hi hx r (fun s' I' _=>h s' I') hf
theorem Inv.call'{s':h_}{ch:List Addr}(I:Inv X pz σ H s)(ho:s'.os=s.os)(u:Un (dC X.stack) ch H H' s.heap s'.heap)(hok:cB X.prog X.w H' s'.heap)(hg:Tu s'.gens)(hch:∀b∈ch,(b∈X.ex\/X.s₀.heap.objs.size<=b)/\b≠X.env.locals/\(∀x c,X.env.cells.lookup x=some c->c≠b)/\∀p∈X.pn++pz,p.1≠b):Inv X pz σ H' s':=by obtain⟨h',g',d',t',o'⟩:=s';have e:o'=s.os:=ho;subst e;exact I.call (g':=g') (t':=t') (d':=d') u hok hg hch
end
abbrev XK:=b_->Option Addr->Hp->Prop
abbrev St:=List (Option V)
abbrev VK:=V->Hp->Prop
abbrev TE:=St->Hp->VK->Prop
abbrev TT:=St->Hp->(Bool->Hp->Prop)->Prop
abbrev TA:=St->Hp->(List V->Hp->Prop)->Prop
structure Ends where
 nx:St->Hp->Prop
 rt:VK
 bk:St->Hp->Prop:=fun _ _=>False
 ct:St->Hp->Prop:=fun _ _=>False
abbrev TS:=Ends->St->Hp->Prop
def EP(X:Cx)(pz:List (Addr×Obj))(σ:St)(Q:VK)(u:b_)(s':h_):Prop:=∃v H',Inv X pz σ H' s'/\ar v u/\Q v H'
def TP(X:Cx)(pz:List (Addr×Obj))(σ:St)(Q:Bool->Hp->Prop)(b:Bool)(s':h_):Prop:=∃H',Inv X pz σ H' s'/\Q b H'
def AP(X:Cx)(pz:List (Addr×Obj))(σ:St)(Q:List V->Hp->Prop)(us:List b_)(s':h_):Prop:=∃vs H',Inv X pz σ H' s'/\al vs us/\Q vs H'
def SP(X:Cx)(pz:List (Addr×Obj))(D:Ends)(f:Flow)(s':h_):Prop:=match f with
|.next=>∃σ' H',Inv X pz σ' H' s'/\D.nx σ' H'
|.brk=>∃σ' H',Inv X pz σ' H' s'/\D.bk σ' H'
|.cont=>∃σ' H',Inv X pz σ' H' s'/\D.ct σ' H'
|.ret u=>∃v σ' H',Inv X pz σ' H' s'/\ar v u/\D.rt v H'
def PE(X:Cx)(e:Expr)(t:TE):Prop:=∀(pz:List (Addr×Obj))(s:h_)(σ:St)(H:Hp)(Q:VK),Inv X pz σ H s->t σ H Q->D_ (O_ X.prog X.w) X.A (eval e X.env) (EP X pz σ Q) X.xe s
def PT(X:Cx)(e:Expr)(t:TT):Prop:=∀(pz:List (Addr×Obj))(s:h_)(σ:St)(H:Hp)(Q:Bool->Hp->Prop),Inv X pz σ H s->t σ H Q->D_ (O_ X.prog X.w) X.A (isTrue e X.env (eval e X.env)) (TP X pz σ Q) X.xe s
def PW(X:Cx)(e:Expr)(t:TT):Prop:=∀(whole:Sem b_)(pz:List (Addr×Obj))(s:h_)(σ:St)(H:Hp)(Q:Bool->Hp->Prop),Inv X pz σ H s->t σ H Q->D_ (O_ X.prog X.w) X.A (isTrue e X.env whole) (TP X pz σ Q) X.xe s
theorem PW.pt{X:Cx}{e:Expr}{t:TT}(h:PW X e t):PT X e t:=h _
def PA(X:Cx)(es:List Expr)(t:TA):Prop:=∀(pos:Pos)(pz:List (Addr×Obj))(s:h_)(σ:St)(H:Hp)(Q:List V->Hp->Prop),Inv X pz σ H s->t σ H Q->D_ (O_ X.prog X.w) X.A (spliced (backTo pos (l_ es X.env))) (AP X pz σ Q) X.xe s
def PS(X:Cx)(st:Stmt)(t:TS):Prop:=∀(pz:List (Addr×Obj))(s:h_)(σ:St)(H:Hp)(D:Ends),Inv X pz σ H s->t D σ H->D_ (O_ X.prog X.w) X.A (exec st X.env) (SP X pz D) X.xe s
def cY(X:Cx)(st:List Stmt)(t:TS):Prop:=∀(pz:List (Addr×Obj))(s:h_)(σ:St)(H:Hp)(D:Ends),Inv X pz σ H s->t D σ H->D_ (O_ X.prog X.w) X.A (execs st X.env) (SP X pz D) X.xe s
theorem aL{α:Type}{t:Sem α}{Q Q':α->h_->Prop}{M:Model}{A:P8}{E:b_->h_->Prop}{s:h_}(h:D_ M A t Q E s)(hQ:∀a s,Q a s->Q' a s):D_ M A t Q' E s:=Rk h hQ fun _ _ x=>x
section
variable{X:Cx}
def yA(i:Nat):TE:=fun σ H Q=>∃v,σ[i]? = some (some v)/\Q v H
def tC(v:V):TE:=fun _ H Q=>Q v H
theorem iY{i:Nat}{x:Str}{pos:Pos}(hN:X.N[i]? = some x)(hv:fQ X.env.scope x)(hd:(x==("__debug__" : Str))=false:=by decide)(hcd:(x==("__classdict__" : Str))=false:=by decide):PE X (.Name x pos) (yA i):=by
 intro pz s σ H Q I h;obtain⟨v,e,h⟩:=h;obtain⟨m,hn,hl⟩:=I.loc;obtain⟨u,r,l⟩:=hl i x v hN e hv;have fin:EP X pz σ Q u s:=⟨v,H,I,r,h⟩
 rcases l with⟨hk,hm⟩|⟨hk,c,hc,hcell⟩
 .exact WT (wpAny_loadName_local I.ok.kind hk hn hm fin) hd
 .rcases hk with hk|hk
  .exact WT (wpAny_loadName_cell I.ok.kind hk hc hcell fin) hd
  .exact WT (wpAny_loadName_free I.ok.kind hk hc hcell fin hcd) hd
theorem HJ{i j pos}:PE X (.Constant (.int i) j pos) (tC (.int i)):=fun _ _ _ H _ I h=>wpAny_Constant_int ⟨.int i,H,I.tok _,⟨_,rfl⟩,h⟩
theorem FG{b j pos}:PE X (.Constant (.bool b) j pos) (tC (.bl b)):=fun _ _ _ H _ I h=>Constant_bool ⟨.bl b,H,I,rfl,h⟩
theorem HL{j pos}:PE X (.Constant .none j pos) (tC .non):=fun _ _ _ H _ I h=>Constant_none ⟨.non,H,I,rfl,h⟩
def Gl(X:Cx)(x:Str):Prop:=X.env.kindOf x=some .globalImplicit
theorem Cd{E:b_->h_->Prop}{pz:List (Addr×Obj)}{s:h_}{σ:St}{H:Hp}{x:Str}{u:b_}{pos:Pos}{Q:b_->h_->Prop}(I:Inv X pz σ H s)(hg:Gl X x)(hm:X.mg x=some u)(h:Q u s)(hd:(x==("__debug__" : Str))=false:=by decide):D_ (O_ X.prog X.w) X.A (eval (.Name x pos) X.env) Q E s:=Ud I.ok.kind hg (Calls.loadGlobal_global (by rw[I.ok.glob];exact I.mod.glob.keeps I.bk) hm h) hd
theorem kg{E:b_->h_->Prop}{pz:List (Addr×Obj)}{s:h_}{σ:St}{H:Hp}{x:Str}{u:b_}{pos:Pos}{Q:b_->h_->Prop}(I:Inv X pz σ H s)(hg:Gl X x)(hm:X.mg x=none)(hv:Sf x=some u)(h:Q u s)(hn:x≠"__name__" := by decide)(hd:(x==("__debug__" : Str))=false:=by decide):D_ (O_ X.prog X.w) X.A (eval (.Name x pos) X.env) Q E s:=by obtain⟨mb,h1,h2⟩:=I.mod.blt;exact Ud I.ok.kind hg (Calls.loadGlobal_builtin (by rw[I.ok.glob];exact I.mod.glob.keeps I.bk) hm (by rw[I.ok.blt];exact h1.keeps I.bk) ((h2 x hn).trans hv) h) hd
theorem B4{x:Str}{v:V}{u:b_}{pos:Pos}(hg:Gl X x)(hm:X.mg x=some u)(r:ar v u)(hd:(x==("__debug__" : Str))=false:=by decide):PE X (.Name x pos) (tC v):=fun _ _ _ H _ I h=>Cd I hg hm ⟨v,H,I,r,h⟩ hd
theorem JY{x:Str}{v:V}{u:b_}{pos:Pos}(hg:Gl X x)(hm:X.mg x=none)(hv:Sf x=some u)(r:ar v u)(hn:x≠"__name__" := by decide)(hd:(x==("__debug__" : Str))=false:=by decide):PE X (.Name x pos) (tC v):=fun _ _ _ H _ I h=>kg I hg hm hv ⟨v,H,I,r,h⟩ hn hd
variable{a b:Expr}{ta tb:TE}{pos:Pos}
def tB(t:TE):TT:=fun σ H Q=>t σ H fun x H1=>∃c,x=.bl c/\Q c H1
theorem HY{e:Expr}{t:TE}(h:PE X e t)(he:∀whole,isTrue e X.env whole=(do let v <-whole;V7 e.pos;Sv [v] (truthy v)):=by intro _;rfl):PT X e (tB t):=by intro pz s σ H Q I hw;refine isTrue_plain (aL (h pz s σ H _ I hw) fun v s1 ⟨x,H1,I1,r1,q1⟩=>?_) (he _);obtain⟨d,rfl,q⟩:=q1;cases r1;exact QM ⟨H1,I1,q⟩
variable{tA tB':TT}{rest:List Expr}
def yM(t u:TT):TT:=fun σ H Q=>t σ H fun c H1=>if c=true then u σ H1 Q else Q false H1
def Pd(t u:TT):TT:=fun σ H Q=>t σ H fun c H1=>if c=true then Q true H1 else u σ H1 Q
def yF(t:TT):TT:=fun σ H Q=>t σ H fun c H1=>Q (! c) H1
theorem KU(ha:PT X a tA):PW X (.BoolOp .And [a] pos) tA:=by intro wh pz s σ H Q I h;refine isTrue_and (aL (ha pz s σ H Q I h) fun c s1 e=>?_);cases c with
|true=>exact isTrue_and_nil e
|false=>exact e
theorem A7(ha:PT X a tA):PW X (.BoolOp .Or [a] pos) tA:=by intro wh pz s σ H Q I h;refine isTrue_or (aL (ha pz s σ H Q I h) fun c s1 e=>?_);cases c with
|false=>exact isTrue_or_nil e
|true=>exact e
theorem Ia(ha:PT X a tA)(hb:PW X (.BoolOp .And (b::rest) pos) tB'):PW X (.BoolOp .And (a::b::rest) pos) (yM tA tB'):=by intro wh pz s σ H Q I h;refine isTrue_and (aL (ha pz s σ H _ I h) fun c s1 ⟨H1,I1,q1⟩=>?_);cases c with
|true=>exact hb wh pz s1 σ H1 Q I1 q1
|false=>exact⟨H1,I1,q1⟩
theorem zW(ha:PT X a tA)(hb:PW X (.BoolOp .Or (b::rest) pos) tB'):PW X (.BoolOp .Or (a::b::rest) pos) (Pd tA tB'):=by intro wh pz s σ H Q I h;refine isTrue_or (aL (ha pz s σ H _ I h) fun c s1 ⟨H1,I1,q1⟩=>?_);cases c with
|true=>exact⟨H1,I1,q1⟩
|false=>exact hb wh pz s1 σ H1 Q I1 q1
theorem HX(ha:PT X a tA):PT X (.UnaryOp .Not a pos) (yF tA):=by intro pz s σ H Q I h;exact isTrue_not (ha pz s σ H (fun c H1=>Q (! c) H1) I h)
def F9(ta tb:TE):TE:=fun σ H Q=>ta σ H fun x H1=>∃c,x=.bl c/\if c=true then tb σ H1 Q else Q (.bl false) H1
def Ht(ta:TE):TE:=fun σ H Q=>ta σ H fun x H1=>∃c,x=.bl c/\Q (.bl (! c)) H1
theorem HN{op}{t:TE}(h:PE X a t):PE X (.BoolOp op [a] pos) t:=fun pz s σ H Q I hw=>BoolOp_one (h pz s σ H Q I hw)
theorem HI(ha:PE X a ta)(hb:PE X (.BoolOp .And (b::rest) pos) tb):PE X (.BoolOp .And (a::b::rest) pos) (F9 ta tb):=by intro pz s σ H Q I h;refine BoolOp_and (aL (ha pz s σ H _ I h) fun v s1 ⟨x,H1,I1,r1,q1⟩=>?_);obtain⟨c,rfl,q1⟩:=q1;cases r1;refine QM ?_;cases c with
|true=>exact hb pz s1 σ H1 Q I1 q1
|false=>exact⟨.bl false,H1,I1,rfl,q1⟩
theorem HM(ha:PE X a ta):PE X (.UnaryOp .Not a pos) (Ht ta):=by intro pz s σ H Q I h;refine UnaryOp_ (aL (ha pz s σ H _ I h) fun v s1 ⟨x,H1,I1,r1,q1⟩=>?_);obtain⟨c,rfl,q1⟩:=q1;cases r1;exact not_of (QM ⟨.bl (! c),H1,I1,rfl,q1⟩)
def Pf(t:TT)(ta tb:TE):TE:=fun σ H Q=>t σ H fun c H1=>if c=true then ta σ H1 Q else tb σ H1 Q
theorem Ml{c:Expr}(hc:PT X c tA)(ha:PE X a ta)(hb:PE X b tb):PE X (.IfExp c a b pos) (Pf tA ta tb):=by intro pz s σ H Q I h;refine wpAny_IfExp (aL (hc pz s σ H _ I h) fun d s1 ⟨H1,I1,q1⟩=>?_);cases d with
|true=>exact ha pz s1 σ H1 Q I1 q1
|false=>exact hb pz s1 σ H1 Q I1 q1
end
def aV(K:W.Frag)(H:Hp)(a:Addr)(xs:List V):Prop:=Rd H a (.lst xs) \/∃(o:Obj)(its:Array b_)(n:Nat),K.lookup a=some o/\o.cls=.type "list"/\o.dict=none/\o.data=.seq its n/\its.size<=sizeLine/\al xs its.toList
def bO(K:W.Frag)(H:Hp)(a:Addr)(xs:List V):Prop:=Rd H a (.tup xs) \/∃(o:Obj)(its:Array b_)(n:Nat),K.lookup a=some o/\o.cls=.type "tuple"/\o.data=.seq its n/\its.size<=sizeLine/\al xs its.toList
def zm:b_->Option V
|.none=>some .non
|.bool b=>some (.bl b)
|.int i _=>some (.int i)
|.str x _=>some (.str x)
|.bytes b _=>some (.byt b)
|.float b _=>some (.flt b)
|.ref a=>some (.ref a)
|.type n=>some (.ty n)
|_=>none
theorem ar.abs{x:V}{u:b_}(r:ar x u):zm u=some x:=by cases x with
|non=>cases r;rfl
|bl _=>cases r;rfl
|int _=>obtain⟨t,rfl⟩:=r;rfl
|str _=>obtain⟨t,rfl⟩:=r;rfl
|byt _=>obtain⟨t,rfl⟩:=r;rfl
|flt _=>obtain⟨t,rfl⟩:=r;rfl
|ref _=>cases r;rfl
|ty _=>cases r;rfl
theorem ar.inj{x y:V}{u:b_}(r:ar x u)(q:ar y u):x=y:=PJ (r.abs.symm.trans q.abs)
theorem al.inj{xs ys:List V}{us:List b_}(h:al xs us)(h':al ys us):xs=ys:=by induction h generalizing ys with
|nil=>cases h';rfl
|cons r t ih=>cases h' with
 |cons r' t'=>rw[r.inj r',ih t']
section
variable{X:Cx}{pz:List (Addr×Obj)}{σ:St}{H:Hp}{s:h_}{a:Addr}{xs ys:List V}
theorem aV.of{K:W.Frag}(h:H a=some (.lst xs)):aV K H a xs:=.inl (.inl h)
theorem bO.of{K:W.Frag}(h:H a=some (.tup xs)):bO K H a xs:=.inl (.inl h)
theorem Inv.list(I:Inv X pz σ H s)(h:aV X.K H a xs):∃its:List b_,al xs its/\PlainL s.heap a its.toArray/\xs.length<=sizeLine:=by
 rcases h with h|⟨o,its,n,hk,hc,hd,hs,hz,r⟩
 .obtain⟨z,its,n,r,e⟩:=h.ok I.hok;exact⟨its,r,⟨_,n,e,rfl,rfl,rfl⟩,z⟩
 .refine⟨its.toList,r,⟨o,n,I.kIn a o hk,hc,hd,by simpa using hs⟩,?_⟩;have e:=r.length;simp only[Qu]at e;omega
theorem Inv.tuple(I:Inv X pz σ H s)(h:bO X.K H a xs):∃its:List b_,al xs its/\XU s.heap a its.toArray/\xs.length<=sizeLine:=by
 rcases h with h|⟨o,its,n,hk,hc,hs,hz,r⟩
 .obtain⟨z,its,r,p,_⟩:=h.ok I.hok;exact⟨its,r,p,z⟩
 .refine⟨its.toList,r,⟨o,I.kIn a o hk,hc,n,by simpa using hs⟩,?_⟩;have e:=r.length;simp only[Qu]at e;omega
theorem Inv.list_inj(I:Inv X pz σ H s)(h:aV X.K H a xs)(h':aV X.K H a ys):xs=ys:=by
 obtain⟨its,r,⟨o,n,e,_,_,d⟩,_⟩:=I.list h;obtain⟨its',r',⟨o',n',e',_,_,d'⟩,_⟩:=I.list h';rw[e]at e';cases e';rw[d]at d';injection d' with d1 _
 have:its=its':=by simpa using congrArg X3 d1
 subst this;exact r.inj r'
theorem Inv.tuple_inj(I:Inv X pz σ H s)(h:bO X.K H a xs)(h':bO X.K H a ys):xs=ys:=by
 obtain⟨its,r,⟨o,e,_,n,d⟩,_⟩:=I.tuple h;obtain⟨its',r',⟨o',e',_,n',d'⟩,_⟩:=I.tuple h';rw[e]at e';cases e';rw[d]at d';injection d' with d1 _
 have:its=its':=by simpa using congrArg X3 d1
 subst this;exact r.inj r'
end
abbrev Cx.wish(X:Cx)(E:b_->h_->Prop):Cx:={ X with xe:=E }
abbrev Cx.nox(X:Cx):Cx:=X.wish fun _ _=>False
theorem Cx.Ok.wish{X:Cx}(ok:X.Ok)(E:b_->h_->Prop):(X.wish E).Ok:=⟨ok.mod,ok.kind,ok.glob,ok.blt,ok.above,ok.inj,ok.has,ok.cab,ok.hd,ok.frames,ok.stk,ok.exf,ok.bs,ok.bsz,ok.noex,ok.exfs,ok.funs,ok.frf⟩
theorem Cx.Ok.unwish{X:Cx}{E:b_->h_->Prop}(ok:(X.wish E).Ok):X.Ok:=⟨ok.mod,ok.kind,ok.glob,ok.blt,ok.above,ok.inj,ok.has,ok.cab,ok.hd,ok.frames,ok.stk,ok.exf,ok.bs,ok.bsz,ok.noex,ok.exfs,ok.funs,ok.frf⟩
section
variable{X:Cx}{pz:List (Addr×Obj)}{σ:St}{H:Hp}{s:h_}{E:b_->h_->Prop}
theorem Inv.wish(I:Inv X pz σ H s)(E:b_->h_->Prop):Inv (X.wish E) pz σ H s:=⟨I.ok.wish E,I.os,I.bare,I.base,I.loc,I.cell,I.free,I.freeC,I.pin,I.hok,I.len⟩
theorem Inv.unwish(I:Inv (X.wish E) pz σ H s):Inv X pz σ H s:=⟨I.ok.unwish,I.os,I.bare,I.base,I.loc,I.cell,I.free,I.freeC,I.pin,I.hok,I.len⟩
theorem SP.unwish{D:Ends}{f:Flow}{s':h_}(h:SP (X.wish E) pz D f s'):SP X pz D f s':=by cases f with
|next=>obtain⟨σ',H',I,q⟩:=h;exact⟨σ',H',I.unwish,q⟩
|brk=>obtain⟨σ',H',I,q⟩:=h;exact⟨σ',H',I.unwish,q⟩
|cont=>obtain⟨σ',H',I,q⟩:=h;exact⟨σ',H',I.unwish,q⟩
|ret u=>obtain⟨v,σ',H',I,r,q⟩:=h;exact⟨v,σ',H',I.unwish,r,q⟩
theorem PE.nox{e:Expr}{t:TE}(h:PE X.nox e t):PE X e t:=fun pz s σ H Q I hw=>Rk (h pz s σ H Q (I.wish _) hw) (fun _ _ ⟨v,H',I',r,q⟩=>⟨v,H',I'.unwish,r,q⟩) fun _ _ z=>Rx z
theorem PT.nox{e:Expr}{t:TT}(h:PT X.nox e t):PT X e t:=fun pz s σ H Q I hw=>Rk (h pz s σ H Q (I.wish _) hw) (fun _ _ ⟨H',I',q⟩=>⟨H',I'.unwish,q⟩) fun _ _ z=>Rx z
theorem cY.nox{st:List Stmt}{t:TS}(h:cY X.nox st t):cY X st t:=fun pz s σ H D I hw=>Rk (h pz s σ H D (I.wish _) hw) (fun _ _ q=>q.unwish) fun _ _ z=>Rx z
end
section
variable{X:Cx}{st:Stmt}{rest:List Stmt}{t u:TS}{e:Expr}{te:TE}{pos:Pos}
def Hs:TS:=fun D σ H=>D.nx σ H
def yD(t u:TS):TS:=fun D σ H=>t { D with nx:=u D } σ H
theorem B9:cY X [] Hs:=fun _ _ σ H _ I h=>U8 ⟨σ,H,I,h⟩
theorem C0(h1:PS X st t)(h2:cY X rest u):cY X (st::rest) (yD t u):=by intro pz s σ H D I h;refine wpAny_execs_cons (aL (h1 pz s σ H { D with nx:=u D } I h) fun f s1 q=>?_);cases f with
|next=>obtain⟨σ',H',I',q⟩:=q;exact h2 pz s1 σ' H' D I' q
|ret v=>exact q
|brk=>exact q
|cont=>exact q
theorem Inv.quiet{pz:List (Addr×Obj)}{σ:St}{H:Hp}{s:h_}(I:Inv X pz σ H s):interactive X.env=false:=by simp[interactive,I.ok.kind]
def Gc(te:TE):TS:=fun D σ H=>te σ H fun _ H1=>D.nx σ H1
theorem t5(he:PE X e te)(hs:Tl e none pos.line X.env=pure false:=by rfl):PS X (.Expr e pos) (Gc te):=by intro pz s σ H D I h;exact wpAny_Expr_any (aL (he pz s σ H _ I h) fun v s1 ⟨x,H1,I1,r1,q1⟩=>⟨σ,H1,I1,q1⟩) I.quiet hs
def yE(te:TE):TS:=fun D σ H=>te σ H D.rt
theorem sX(he:PE X e te):PS X (.Return (some e) pos) (yE te):=by intro pz s σ H D I h;exact wpAny_Return_some (aL (he pz s σ H _ I h) fun v s1 ⟨x,H1,I1,r1,q1⟩=>⟨x,σ,H1,I1,r1,q1⟩)
def yJ(c:TT)(t u:TS):TS:=fun D σ H=>c σ H fun b H1=>if b=true then t D σ H1 else u D σ H1
theorem pE{c:Expr}{a b:List Stmt}{tc:TT}(hc:PT X c tc)(ha:cY X a t)(hb:cY X b u):PS X (.If c a b pos) (yJ tc t u):=by intro pz s σ H D I h;refine wpAny_If (aL (hc pz s σ H _ I h) fun d s1 ⟨H1,I1,q1⟩=>?_);cases d with
|true=>exact ha pz s1 σ H1 D I1 q1
|false=>exact hb pz s1 σ H1 D I1 q1
def Bi:TS:=fun _ _ _=>False
theorem Lz:PS X st Bi:=fun _ _ _ _ _ _ h=>h.elim
theorem gS{sts:List Stmt}:cY X sts Bi:=fun _ _ _ _ _ _ h=>h.elim
end
abbrev TG:=V->St->Hp->(St->Hp->Prop)->Prop
abbrev jf:=List V->St->Hp->(St->Hp->Prop)->Prop
def PG(X:Cx)(target:Expr)(t:TG):Prop:=∀(pz:List (Addr×Obj))(s:h_)(σ:St)(H:Hp)(v:V)(u:b_)(Q:St->Hp->Prop),Inv X pz σ H s->ar v u->t v σ H Q ->D_ (O_ X.prog X.w) X.A (Tn target X.env u) (fun _ s'=>∃σ' H',Inv X pz σ' H' s'/\Q σ' H') X.xe s
def iQ(X:Cx)(ts:List Expr)(t:jf):Prop:=∀(pz:List (Addr×Obj))(s:h_)(σ:St)(H:Hp)(vs:List V)(us:List b_)(Q:St->Hp->Prop),Inv X pz σ H s->al vs us->t vs σ H Q ->D_ (O_ X.prog X.w) X.A (assignInOrder ((QN ts X.env).map (·.2)) us) (fun _ s'=>∃σ' H',Inv X pz σ' H' s'/\Q σ' H') X.xe s
abbrev jX:=V->V->V->Hp->(Hp->Prop)->Prop
def eI(X:Cx)(t:jX):Prop:=∀(pz:List (Addr×Obj))(s:h_)(σ:St)(H:Hp)(o i v:V)(ov iv u:b_)(Q:Hp->Prop),Inv X pz σ H s->ar o ov->ar i iv->ar v u->t o i v H Q ->D_ (O_ X.prog X.w) X.A (WQ ov iv u) (fun _ s'=>∃H',Inv X pz σ H' s'/\Q H') X.xe s
section
variable{X:Cx}{pos:Pos}
def zA(i:Nat):TG:=fun v σ H Q=>Q (σ.set i (some v)) H
theorem B5{i:Nat}{x:Str}(hN:X.N.Nodup)(hi:X.N[i]? = some x)(hx:io X.env.scope x)(hf:X.fn x=true\/X.env.scope.names.lookup x=some .local:=by first|exact .inl rfl|exact .inr rfl|assumption):PG X (.Name x pos) (zA i):=by intro pz s σ H v u Q I r h;exact V8 (Dd I hN hi hx r (fun s' I'=>⟨_,H,I',h⟩) hf)
def zf:jf:=fun vs σ H Q=>vs=[]/\Q σ H
def Gi(t:TG)(u:jf):jf:=fun vs σ H Q=>∃v r,vs=v::r/\t v σ H fun σ' H'=>u r σ' H' Q
theorem J0:iQ X [] zf:=by intro pz s σ H vs us Q I r h;obtain⟨e,h⟩:=h;subst e;cases r;exact assignInOrder_nil ⟨σ,H,I,h⟩
theorem Mo{e:Expr}{es:List Expr}{t:TG}{u:jf}(h1:PG X e t)(h2:iQ X es u)(hs:(QN (e::es) X.env).map (·.2)=Tn e X.env::(QN es X.env).map (·.2):=by rfl):iQ X (e::es) (Gi t u):=by intro pz s σ H vs us Q I r h;obtain⟨v,vr,e1,h⟩:=h;subst e1;cases r with
|cons r rr=>rw[hs];refine assignInOrder_cons (aL (h1 pz s σ H _ _ _ I r h) fun _ s1 ⟨σ1,H1,I1,q1⟩=>?_);exact h2 pz s1 σ1 H1 _ _ Q I1 rr q1
def zd(K:W.Frag)(n:Nat)(t:jf):TG:=fun v σ H Q=>∃a xs,v=.ref a/\bO K H a xs/\xs.length=n/\t xs σ H Q
theorem HQ{es:List Expr}{k:Nat}{t:jf}{n:Nat}(hc:X.calm=true)(h:iQ X es t)(hn:(QN es X.env).length=n:=by rfl)(hst:(QN es X.env).findIdx? (·.1)=none:=by rfl):PG X (.Tuple es k pos) (zd X.K n t):=by intro pz s σ H v u Q I r hw;obtain⟨a,xs,e1,hq,hl,hw⟩:=hw;subst e1;cases r;obtain⟨its,rv,ht,hz⟩:=I.tuple hq;refine assign_Tuple_tuple (I.ok.hd hc) ht (by simp[hn,<-hl,rv.length]) hst fun h' hx=>?_;have I1:Inv X pz σ H { s with heap:=h' }:=I.kept (t':=s.toks) fun b o e=>hx b o (PH (x_ e)) e;exact h pz _ σ H xs _ Q I1 (by simpa using rv) hw
def ze(to ti:TE)(t:jX):TG:=fun v σ H Q=>to σ H fun o H1=>ti σ H1 fun i H2=>t o i v H2 fun H3=>Q σ H3
theorem AY{o i:Expr}{to ti:TE}{t:jX}(ho:PE X o to)(hi:PE X i ti)(hs:eI X t)(ha:∀v,Tn (.Subscript o i pos) X.env v=(do
   let ov <-Sv [v] (eval o X.env);let iv <-Sv [v,ov] (eval i X.env)
   V7 pos
   Sv [v,ov,iv] (WQ ov iv v)
   release [v,ov,iv] []):=by intro _;rfl):PG X (.Subscript o i pos) (ze to ti t):=by intro pz s σ H v u Q I r h;rw[ha];refine d_ (Q6 (aL (ho pz s σ H _ I h) fun ov s1 ⟨x,H1,I1,r1,q1⟩=>?_));refine d_ (Q6 (aL (hi pz s1 σ H1 _ I1 q1) fun iv s2 ⟨y,H2,I2,r2,q2⟩=>?_));refine d_ (Uu (d_ (Q6 (aL (hs pz s2 σ H2 x y v ov iv u _ I2 r1 r2 r q2) fun _ s3 ⟨H3,I3,q3⟩=>?_))));exact wpAny_release ⟨σ,H3,I3,q3⟩
def oQ(te:TE)(g:TG):TS:=fun D σ H=>te σ H fun x H1=>g x σ H1 D.nx
theorem A3{tg e:Expr}{te:TE}{g:TG}(he:PE X e te)(hg:PG X tg g)(hs:VD [tg] e pos.line X.env=pure false:=by rfl)(hw:VE [tg] e X.env=pure none:=by rfl)(h1:(QN [tg] X.env).map (·.2)=[Tn tg X.env]:=by rfl):PS X (.Assign [tg] e pos) (oQ te g):=by intro pz s σ H D I h;refine wpAny_Assign_stores (aL (he pz s σ H _ I h) fun v s1 ⟨x,H1,I1,r1,q1⟩=>?_) hs hw;rw[h1];exact aL (hg pz s1 σ H1 x v _ I1 r1 q1) fun _ s2 q=>q
theorem A4{i:Nat}{x:Str}{e:Expr}{te:TE}{pos':Pos}(hN:X.N.Nodup)(hi:X.N[i]? = some x)(hx:io X.env.scope x)(he:PE X e te)(hs:Tl e (some (.Name x pos')) pos.line X.env=pure false:=by rfl)(hf:X.fn x=true\/X.env.scope.names.lookup x=some .local:=by first|exact .inl rfl|exact .inr rfl|assumption):PS X (.Assign [.Name x pos'] e pos) (oQ te (zA i)):=by intro pz s σ H D I h;refine wpAny_Assign_Name (aL (he pz s σ H _ I h) fun v s1 ⟨y,H1,I1,r1,q1⟩=>?_) hs;exact Dd I1 hN hi hx r1 (fun s2 I2=>⟨_,H1,I2,q1⟩) hf
end
section
variable{X:Cx}{pos:Pos}
def IP(c:TT)(tb:TS):TS:=fun D σ H=>∃W:Nat->St->Hp->Prop,(∃m,W m σ H)/\∀m σ H,W m σ H ->c σ H fun b H1=>if b=true then ∃N:St->Hp->Prop,(∀σ' H',N σ' H'->∃m',m'<m/\W m' σ' H')/\tb { D with nx:=N,ct:=N,bk:=D.nx } σ H1 else D.nx σ H1
theorem LA{c:Expr}{body:List Stmt}{tc:TT}{tb:TS}(hp:To (O_ X.prog X.w) X.A X.env X.xe)(hc:PT X c tc)(hb:cY X body tb):PS X (.While c body [] pos) (IP tc tb):=by
 intro pz s σ H D I h;obtain⟨W,⟨m0,w0⟩,turn⟩:=h;refine wpAny_While (codeAny_whileLoop (fun n s'=>∃σ' H',Inv X pz σ' H' s'/\W n σ' H') ?_ m0 ⟨σ,H,I,w0⟩)
 rintro n s1 ⟨σ1,H1,I1,w1⟩
 refine RE hp (aL (hc pz s1 σ1 H1 _ I1 (turn n σ1 H1 w1)) fun b s2 ⟨H2,I2,q2⟩=>?_);cases b with
|true=>obtain⟨N,hN,q2⟩:=q2;rw[if_pos rfl];refine RE hp (aL (hb pz s2 σ1 H2 _ I2 q2) fun f s3 q3=>?_);cases f with
 |next=>obtain⟨σ3,H3,I3,n3⟩:=q3;obtain⟨m',hm,w3⟩:=hN σ3 H3 n3;exact⟨m',hm,σ3,H3,I3,w3⟩
 |cont=>obtain⟨σ3,H3,I3,n3⟩:=q3;obtain⟨m',hm,w3⟩:=hN σ3 H3 n3;exact⟨m',hm,σ3,H3,I3,w3⟩
 |brk=>exact q3
 |ret v=>exact q3
|false=>rw[if_neg j_];exact U8 ⟨σ1,H2,I2,q2⟩
end
structure It where
 go:Nat->Hp->Prop
 yld:Nat->Hp->V->Hp->Prop
 stop:Nat->Hp->Prop
def cS(X:Cx)(pz:List (Addr×Obj))(H:Hp)(b:Addr):Prop:=H b=none/\b≠X.env.locals/\b∉X.fs/\(b∈X.ex\/X.s₀.heap.objs.size<=b)/\(∀x c,X.env.cells.lookup x=some c->c≠b)/\∀p∈X.pn++pz,p.1≠b
theorem Inv.fpOk{X:Cx}{pz:List (Addr×Obj)}{σ:St}{H H':Hp}{s:h_}{b:Addr}(I:Inv X pz σ H s)(hb:s.heap.objs.size<=b)(hn:H' b=none):cS X pz H' b:=by
 refine⟨hn,Q7 (G_ I.lt hb),I.nofs hb,.inr (PQ I.sz hb),fun x c e z=>?_,fun p hp z=>?_⟩
 .obtain⟨v,q⟩:=I.cell x c e;exact absurd (G_ q.lt (by rw[z];exact hb)) (Q5 _)
 .exact absurd (G_ (x_ (I.pin p hp).1) (by rw[z];exact hb)) (Q5 _)
structure Turn(P:B_)(w:PP)(K:W.Frag)(tg:Expr)(J:It)(fp:List Addr)(it:Addr)(tn:Nat->Heap->Prop):Prop where
 mem:it∈fp
 obj:∀i h,tn i h->∀b∈fp,∃o,h.get? b=some o/\∀v,o.data≠.cell v
 keep:∀i h h',tn i h->(∀b∈fp,∀o,h.get? b=some o->h'.get? b=some o)->tn i h'
 item:∀(X:Cx),X.prog=P->X.w=w->X.K=K->X.calm=true->∀(i:Nat)(pz:List (Addr×Obj))(s:h_)(σ:St)(H:Hp)(E:b_->h_->Prop),Inv X pz σ H s->(∀b∈fp,cS X pz H b)->tn i s.heap->J.go i H ->D_ (O_ P w) X.A (Vm (.ref it)) (fun r s1=>∃u,r=some u /\D_ (O_ P w) X.A (TV tg (.ref it) u) (fun _ s2=>∃x H',Inv X pz σ H' s2/\ar x u/\J.yld i H x H'/\tn (i+1) s2.heap/\∀b∈fp,H' b=none) E s1) E s
 done:∀(X:Cx),X.prog=P->X.w=w->X.K=K->X.calm=true->∀(i:Nat)(pz:List (Addr×Obj))(s:h_)(σ:St)(H:Hp)(E:b_->h_->Prop),Inv X pz σ H s->(∀b∈fp,cS X pz H b)->tn i s.heap->J.stop i H ->D_ (O_ P w) X.A (Vm (.ref it)) (fun r s1=>r=none/\Inv X pz σ H s1) E s
 self:∀(A:P8)(i:Nat)(s:h_)(Q:b_->h_->Prop)(E:b_->h_->Prop),tn i s.heap->Q (.ref it) s->D_ (O_ P w) A (WU (.ref it)) Q E s
abbrev TI:=St->Hp->(It->Hp->Prop)->Prop
def Fw(X:Cx)(pz:List (Addr×Obj))(σ:St)(tg:Expr)(R:It->Hp->Prop)(itv:b_)(s2:h_):Prop:=∃(it:Addr)(fp:List Addr)(tn:Nat->Heap->Prop)(J:It)(H':Hp),itv=.ref it/\Inv X pz σ H' s2/\Turn X.prog X.w X.K tg J fp it tn/\tn 0 s2.heap/\(∀b∈fp,cS X pz H' b)/\R J H'
def PI(X:Cx)(tg iter:Expr)(wi:TI):Prop:=∀(pz:List (Addr×Obj))(s:h_)(σ:St)(H:Hp)(R:It->Hp->Prop),Inv X pz σ H s->wi σ H R ->D_ (O_ X.prog X.w) X.A (eval iter X.env) (fun v s1=>D_ (O_ X.prog X.w) X.A (WU v) (Fw X pz σ tg R) X.xe s1) X.xe s
theorem pC{M:Model}{A:P8}{E:b_->h_->Prop}{s:h_}{tg:Expr}{it:Addr}{u:b_}{o:Obj}{n:String}{vs:Array b_}{Q:Unit->h_->Prop}(ho:s.heap.get? it=some o)(hc:o.cls=.type n)(hd:o.data=.fields vs)(hn : ["enumerate","zip","dict_itemiterator","dict_reverseitemiterator","odict_iterator","itertools.zip_longest","itertools.pairwise"].contains n=false)(hQ:Q () s):D_ M A (TV tg (.ref it) u) Q E s:=by
  unfold TV;cases tg <;> first
    |exact t_ hQ
    |(cases u <;> first
        |exact t_ hQ
        | (refine d_ (wpAny_load ho ?_)
           rw[hc,hd];show D_ M A (if (["enumerate","zip","dict_itemiterator","dict_reverseitemiterator","odict_iterator","itertools.zip_longest","itertools.pairwise"].contains n&&vs[0]? == some (US _))=true then _ else _) Q E s;rw[if_neg (by intro h;rw[hn,Bool.false_and]at h;cases h)];exact t_ hQ))
def pj(K:W.Frag)(a:Addr):It:=⟨fun i H=>∃xs x,aV K H a xs/\xs[i]? = some x,fun i H x H'=>H'=H/\∀xs,aV K H a xs->xs[i]? = some x,fun i H=>∃xs,aV K H a xs/\xs.length<=i⟩
def zw(K:W.Frag)(a:Addr):It:=⟨fun i H=>∃xs x,bO K H a xs/\xs[i]? = some x,fun i H x H'=>H'=H/\∀xs,bO K H a xs->xs[i]? = some x,fun i H=>∃xs,bO K H a xs/\xs.length<=i⟩
def se(lo:Int)(n:Nat):It:=⟨fun i _=>i<n,fun i H x H'=>H'=H/\x=.int (lo+i),fun i _=>n<=i⟩
theorem Nl{P:B_}{w:PP}{K:W.Frag}{tg:Expr}(a it:Addr):Turn P w K tg (pj K a) [it] it (fun i h=>h.IsListIter it a i) where
 mem:=by simp
 obj:=fun i h st b hb=>by
  have e:b=it:=by simpa using hb
  subst e;obtain⟨o,e,c,d⟩:=st;exact⟨o,e,fun v z=>by rw[d]at z;cases z⟩
 keep:=fun i h h' st k=>st.at fun o e=>k it (by simp) o e
 item:=by intro X hP hw hK hc i pz s σ H E I hf st hg;subst hP hw hK;obtain⟨xs,x,hq,hx⟩:=hg;obtain⟨its,rv,p,hz⟩:=I.list hq;obtain⟨u,hu,ru⟩:=rv.get hx;obtain⟨f0,f1,f2,f3,f4,f5⟩:=hf it (by simp);refine wpAny_pyNext_list_item st p.isList (x:=u) (by simpa using hu) fun h' st' sb=>?_;have I1:Inv X pz σ H { s with heap:=h' }:=I.turned (t':=s.toks) (fun b o hb e=>(sb.2 b hb).trans e) f0 f1 f3 f4 f5;obtain⟨o,e,c,d⟩:=id st';exact⟨u,rfl,pC (s:={ s with heap:=h' }) e c d (by decide) ⟨x,H,I1,ru,⟨rfl,fun ys hy=>by rw[I.list_inj hy hq];exact hx⟩,st',fun b hb=>(hf b hb).1⟩⟩
 done:=by intro X hP hw hK hc i pz s σ H E I hf st hg;subst hP hw hK;obtain⟨xs,hq,hx⟩:=hg;obtain⟨its,rv,p,hz⟩:=I.list hq;obtain⟨f0,f1,f2,f3,f4,f5⟩:=hf it (by simp);have hl:=rv.length;exact wpAny_pyNext_list_end (I.ok.hd hc) st p.isList (by simp;omega) fun h' eb=>⟨rfl,I.turned (t':=s.toks) (fun b o hb e=>eb b o hb e) f0 f1 f3 f4 f5⟩
 self:=fun _ _ _ _ _ st h=>wpAny_pyIter_listiter st h
theorem N2{P:B_}{w:PP}{K:W.Frag}{tg:Expr}(a it:Addr):Turn P w K tg (zw K a) [it] it (fun i h=>h.IsTupleIter it a i) where
 mem:=by simp
 obj:=fun i h st b hb=>by
  have e:b=it:=by simpa using hb
  subst e;obtain⟨o,e,c,d⟩:=st;exact⟨o,e,fun v z=>by rw[d]at z;cases z⟩
 keep:=fun i h h' st k=>st.at fun o e=>k it (by simp) o e
 item:=by intro X hP hw hK hc i pz s σ H E I hf st hg;subst hP hw hK;obtain⟨xs,x,hq,hx⟩:=hg;obtain⟨its,rv,p,hz⟩:=I.tuple hq;obtain⟨u,hu,ru⟩:=rv.get hx;obtain⟨f0,f1,f2,f3,f4,f5⟩:=hf it (by simp);refine wpAny_pyNext_tuple_item st (show s.heap.IsTuple a its.toArray from p) (x:=u) (by simpa using hu) fun h' st' sb=>?_;have I1:Inv X pz σ H { s with heap:=h' }:=I.turned (t':=s.toks) (fun b o hb e=>(sb.2 b hb).trans e) f0 f1 f3 f4 f5;obtain⟨o,e,c,d⟩:=id st';exact⟨u,rfl,pC (s:={ s with heap:=h' }) e c d (by decide) ⟨x,H,I1,ru,⟨rfl,fun ys hy=>by rw[I.tuple_inj hy hq];exact hx⟩,st',fun b hb=>(hf b hb).1⟩⟩
 done:=by intro X hP hw hK hc i pz s σ H E I hf st hg;subst hP hw hK;obtain⟨xs,hq,hx⟩:=hg;obtain⟨its,rv,p,hz⟩:=I.tuple hq;obtain⟨f0,f1,f2,f3,f4,f5⟩:=hf it (by simp);have hl:=rv.length;exact wpAny_pyNext_tuple_end (I.ok.hd hc) st (show s.heap.IsTuple a its.toArray from p) (by simp;omega) fun h' eb=>⟨rfl,I.turned (t':=s.toks) (fun b o hb e=>eb b o hb e) f0 f1 f3 f4 f5⟩
 self:=fun _ _ _ _ _ st h=>wpAny_pyIter_tupleiter st h
theorem N1{P:B_}{w:PP}{K:W.Frag}{tg:Expr}(it:Addr)(lo:Int)(n:Nat):Turn P w K tg (se lo n) [it] it (fun i h=>IsRangeIter h it (lo+(i:Nat)*1) ((n:Int)-(i:Nat)) 1) where
 mem:=by simp
 obj:=fun i h st b hb=>by
  have e:b=it:=by simpa using hb
  subst e;exact⟨_,st,fun v z=>by have z':Data.fields _=Data.cell v:=z;cases z'⟩
 keep:=fun i h h' st k=>k it (by simp) _ st
 item:=by intro X hP hw hK hc i pz s σ H E I hf st hg;subst hP hw hK;obtain⟨f0,f1,f2,f3,f4,f5⟩:=hf it (by simp);have W:=Walks.range (prog:=X.prog) (w:=X.w) (I.ok.hd hc) it lo 1 n;refine W.item i s _ _ hg st fun v h' tk hv st' kk=>?_;obtain⟨t,rfl⟩:=hv;have I1:Inv X pz σ H { s with heap:=h',toks:=tk }:=I.turned (fun b o hb e=>kk b o (by simpa using hb) e) f0 f1 f3 f4 f5;refine⟨_,rfl,pC (s:={ s with heap:=h',toks:=tk }) (n := "range_iterator") st' rfl rfl (by decide) ⟨.int (lo+i),H,I1,⟨t,?_⟩,⟨rfl,rfl⟩,st',fun b hb=>(hf b hb).1⟩⟩;rw[Yd]
 done:=by intro X hP hw hK hc i pz s σ H E I hf st hg;subst hP hw hK;obtain⟨f0,f1,f2,f3,f4,f5⟩:=hf it (by simp);exact wpAny_pyNext_range_end (I.ok.hd hc) st (by have:n<=i:=hg;omega) fun h' eb=>⟨rfl,I.turned (t':=s.toks) (fun b o hb e=>eb b o hb e) f0 f1 f3 f4 f5⟩
 self:=fun _ _ _ _ _ st h=>wpAny_pyIter_rangeiter st h
section
variable{X:Cx}{tg:Expr}
theorem LG{pz:List (Addr×Obj)}{σ:St}{H:Hp}{s:h_}{R:It->Hp->Prop}{E:b_->h_->Prop}{lo hi:Int}{t u v:Tok}{tk:Nat}(I:Inv X pz σ H s)(h1 : -(2^62)<=lo)(h2:lo<2^62)(h3 : -(2^62)<=hi)(h4:hi<2^62)(q:R (se lo (hi-lo).toNat) H):D_ (O_ X.prog X.w) X.A (WU (.ref s.heap.objs.size)) (Fw X pz σ tg R) E { s with heap:=s.heap.push { cls:=.type "range",data:=.fields #[.int lo t,.int hi u,.int 1 v] },toks:=tk }:=by
 refine wpAny_pyIter_range (IsRange.new ..) (small_one h1 h2 h3 h4) ?_;have I1:Inv X pz σ H { s with heap:=s.heap.push { cls:=.type "range",data:=.fields #[.int lo t,.int hi u,.int 1 v] },toks:=tk }:=I.kept fun b o e=>e_ _ e;refine⟨(s.heap.push { cls:=.type "range",data:=.fields #[.int lo t,.int hi u,.int 1 v] }).objs.size,[(s.heap.push { cls:=.type "range",data:=.fields #[.int lo t,.int hi u,.int 1 v] }).objs.size],_,_,H,rfl,I1.kept (t':=tk) fun b o e=>e_ _ e,N1 _ lo (hi-lo).toNat,?_,fun b hb=>?_,q⟩
 .have e1:lo+((0:Nat):Int)*1=lo:=by simp
  have e2:(((hi-lo).toNat:Nat):Int)-((0:Nat):Int)=UG lo hi 1:=by rw[rangeSize_one];split <;> omega
  show IsRangeIter _ _ (lo+((0:Nat):Int)*1) ((((hi-lo).toNat:Nat):Int)-((0:Nat):Int)) 1;rw[e1,e2];exact w_ _ rfl
 .have e:b=(s.heap.push { cls:=.type "range",data:=.fields #[.int lo t,.int hi u,.int 1 v] }).objs.size:=by simpa using hb
  subst e;exact I1.fpOk (u_ _) (I1.hok.fresh (u_ _))
def Gj(ta:TA):TI:=fun σ H R=>ta σ H fun vs H1=>∃j:Int,vs=[.int j]/\-(2^62)<=j/\j<2^62/\R (se 0 j.toNat) H1
theorem MY{a:Expr}{ta:TA}{p pos:Pos}(hg:Gl X "range")(hm:X.mg "range" = none)(ha:PA X [a] ta)(hs:l_ [a] X.env=[(false,eval a X.env)]:=by rfl):PI X tg (.Call (.Name "range" p) [a] [] pos) (Gj ta):=by intro pz s σ H R I h;refine Call_ (kg I hg hm boot_range (QK (aL (ha pos pz s σ H _ I h) fun us s1 ⟨vs,H1,I1,r1,q1⟩=>?_) hs rfl));obtain⟨j,e,q1,q2,q⟩:=q1;subst e;cases r1 with
|cons r rr=>cases rr;obtain⟨t,rfl⟩:=r;exact call_range_1 (LG I1 (by omega) (by omega) q1 q2 (by simpa using q))
def yK(wi:TI)(g:TG)(tb:TS):TS:=fun D σ H=>wi σ H fun J H1=>∃W:Nat->Nat->St->Hp->Prop,(∃m,W 0 m σ H1)/\∀i m σ H,W i m σ H ->(J.stop i H/\D.nx σ H)\/(J.go i H/\∃N:St->Hp->Prop,(∀σ' H',N σ' H'->∃m',m'<m/\W (i+1) m' σ' H')/\∀x H',J.yld i H x H'->g x σ H' fun σ2 H2=>tb { D with nx:=N,ct:=N,bk:=D.nx } σ2 H2)
def nC(fp:List Addr)(h:Heap):List (Addr×Obj):=fp.filterMap fun b=>(h.get? b).map fun o=>(b,o)
theorem qN{fp:List Addr}{h:Heap}{b:Addr}{o:Obj}(hb:b∈fp)(e:h.get? b=some o):(b,o)∈nC fp h:=Sy.mpr ⟨b,hb,by rw[e];rfl⟩
theorem MR{fp:List Addr}{h:Heap}{p:Addr×Obj}(hp:p∈nC fp h):p.1∈fp/\h.get? p.1=some p.2:=by obtain⟨b,hb,e⟩:=Sy.mp hp;cases q:h.get? b with
|none=>rw[q]at e;cases e
|some o=>rw[q]at e;have e':(b,o)=p:=PJ e;subst e';exact⟨hb,q⟩
theorem Inv.pinned{pz:List (Addr×Obj)}{σ:St}{H:Hp}{s:h_}{fp:List Addr}(I:Inv X pz σ H s)(hf:∀b∈fp,cS X pz H b)(ho:∀b∈fp,∃o,s.heap.get? b=some o/\∀v,o.data≠.cell v):Inv X (pz++nC fp s.heap) σ H s:=I.pins_of fun p hp=>(Qk.mp hp).elim (fun z=>I.pin p (PV _ z)) fun z=>by obtain⟨hb,e⟩:=MR z;obtain⟨f0,f1,f2,_⟩:=hf p.1 hb;obtain⟨o,e',d⟩:=ho p.1 hb;rw[e]at e';cases e';exact⟨e,f0,f1,f2,d⟩
theorem Inv.unpinned{pz pl:List (Addr×Obj)}{σ:St}{H:Hp}{s:h_}(I:Inv X (pz++pl) σ H s):Inv X pz σ H s:=I.pins_of fun p hp=>I.pin p (PV _ (PU _ hp))
theorem nE{iter:Expr}{body:List Stmt}{wi:TI}{g:TG}{tb:TS}{pos:Pos}(hp:To (O_ X.prog X.w) X.A X.env X.xe)(hc:X.calm=true)(hi:PI X tg iter wi)(hg:PG X tg g)(hb:cY X body tb)(hs:∀x,QO iter X.env x=pure x:=by intro _;rfl):PS X (.For tg iter body [] pos) (yK wi g tb):=by
 intro pz s σ H D I h;refine wpAny_For (aL (hi pz s σ H _ I h) fun v s1 h1=>aL h1 fun itv s2 h2=>?_) hs;obtain⟨it,fp,tn,J,H2,e,I2,T,st2,f2,W,⟨m0,w0⟩,turn⟩:=h2;subst e;have stat:∀{H':Hp},(∀b∈fp,H' b=none)->∀b∈fp,cS X pz H' b:=fun hn b hb=>⟨hn b hb,(f2 b hb).2⟩
 refine codeAny_forLoop_any (fun n s'=>∃i σ' H',Inv X pz σ' H' s'/\tn i s'.heap/\(∀b∈fp,H' b=none)/\W i n σ' H') ?_ m0 ⟨0,σ,H2,I2,st2,fun b hb=>(f2 b hb).1,w0⟩
 rintro n s3 ⟨i,σ3,H3,I3,st3,fr3,w3⟩
 rcases turn i n σ3 H3 w3 with⟨stop,qn⟩|⟨go,N,hN,step⟩
 .refine RE hp (aL (T.done X rfl rfl rfl hc i pz s3 σ3 H3 X.xe I3 (stat fr3) st3 stop) fun r s4 ⟨hr,I4⟩=>?_);subst hr;exact U8 ⟨σ3,H3,I4,qn⟩
 .refine RE hp (aL (T.item X rfl rfl rfl hc i pz s3 σ3 H3 X.xe I3 (stat fr3) st3 go) fun r s4 ⟨u,hr,h4⟩=>?_);subst hr;refine RE hp (aL h4 fun _ s5 ⟨x,H5,I5,r5,y5,st5,fr5⟩=>?_);have I5':=I5.pinned (stat fr5) (T.obj _ _ st5);refine RE hp (aL (hg _ s5 σ3 H5 x u _ I5' r5 (step x H5 y5)) fun _ s6 ⟨σ6,H6,I6,q6⟩=>?_);refine RE hp (aL (hb _ s6 σ6 H6 _ I6 q6) fun f s7 q7=>?_);have again:∀{σ7:St}{H7:Hp},Inv X (pz++nC fp s5.heap) σ7 H7 s7->N σ7 H7->∃m,m<n/\∃i σ' H',Inv X pz σ' H' s7/\tn i s7.heap/\(∀b∈fp,H' b=none)/\W i m σ' H':=fun{σ7 H7} I7 n7=>by obtain⟨m',hm,w7⟩:=hN σ7 H7 n7;refine⟨m',hm,i+1,σ7,H7,I7.unpinned,T.keep _ _ _ st5 fun b hb o e=>(I7.pin (b,o) (PV _ (PV _ (qN hb e)))).1,fun b hb=>?_,w7⟩;obtain⟨o,e,d⟩:=T.obj _ _ st5 b hb;exact(I7.pin (b,o) (PV _ (PV _ (qN hb e)))).2.1
  cases f with
 |next=>obtain⟨σ7,H7,I7,n7⟩:=q7;exact again I7 n7
 |cont=>obtain⟨σ7,H7,I7,n7⟩:=q7;exact again I7 n7
 |brk=>obtain⟨σ7,H7,I7,q7⟩:=q7;exact⟨σ7,H7,I7.unpinned,q7⟩
 |ret v=>obtain⟨x7,σ7,H7,I7,r7,q7⟩:=q7;exact⟨x7,σ7,H7,I7.unpinned,r7,q7⟩
end
abbrev R2:=V->V->Hp->VK->Prop
def aT(X:Cx)(f:b_->b_->Sem b_)(r:R2):Prop:=∀(pz:List (Addr×Obj))(s:h_)(σ:St)(H:Hp)(x y:V)(v u:b_)(Q:VK),Inv X pz σ H s->ar x v->ar y u->r x y H Q ->D_ (O_ X.prog X.w) X.A (f v u) (EP X pz σ Q) X.xe s
def zn(X:Cx)(f:b_->Sem b_)(r:V->Hp->VK->Prop):Prop:=∀(pz:List (Addr×Obj))(s:h_)(σ:St)(H:Hp)(x:V)(v:b_)(Q:VK),Inv X pz σ H s->ar x v->r x H Q ->D_ (O_ X.prog X.w) X.A (f v) (EP X pz σ Q) X.xe s
def d5(X:Cx)(f:b_)(r:List V->Hp->VK->Prop):Prop:=∀(pz:List (Addr×Obj))(s:h_)(σ:St)(H:Hp)(xs:List V)(us:List b_)(Q:VK),Inv X pz σ H s->al xs us->r xs H Q ->D_ (O_ X.prog X.w) X.A (call f us) (EP X pz σ Q) X.xe s
def zo(X:Cx)(r:V->Hp->(Bool->Hp->Prop)->Prop):Prop:=∀(pz:List (Addr×Obj))(s:h_)(σ:St)(H:Hp)(x:V)(v:b_)(Q:Bool->Hp->Prop),Inv X pz σ H s->ar x v->r x H Q ->D_ (O_ X.prog X.w) X.A (truthy v) (TP X pz σ Q) X.xe s
def mN(r:R2)(ta tb:TE):TE:=fun σ H Q=>ta σ H fun x H1=>tb σ H1 fun y H2=>r x y H2 Q
def Pb(r:V->Hp->VK->Prop)(ta:TE):TE:=fun σ H Q=>ta σ H fun x H1=>r x H1 Q
def rI(C:Int->Int->Prop)(g:Int->Int->V):R2:=fun x y H Q=>∃i j,x=.int i/\y=.int j/\C i j/\Q (g i j) H
def jb(g:Int->Int->V):R2:=fun x y H Q=>∃i j,x=.int i/\y=.int j/\Q (g i j) H
def rU(g:Int->V):V->Hp->VK->Prop:=fun x H Q=>∃i,x=.int i/\Q (g i) H
section
variable{X:Cx}{a b c:Expr}{ta tb tc:TE}{pos:Pos}
theorem lL(ha:PE X a ta)(hb:PE X b tb){pz:List (Addr×Obj)}{s:h_}{σ:St}{H:Hp}{R:V->V->Hp->Prop}(I:Inv X pz σ H s)(h:ta σ H fun x H1=>tb σ H1 fun y H2=>R x y H2){Q:b_->h_->Prop}{f:b_->b_->Sem b_}(hf:∀v u s2 x y H2,Inv X pz σ H2 s2->ar x v->ar y u->R x y H2->D_ (O_ X.prog X.w) X.A (f v u) Q X.xe s2):D_ (O_ X.prog X.w) X.A (eval a X.env) (fun v s₁=>D_ (O_ X.prog X.w) X.A (eval b X.env) (fun u s₂=>D_ (O_ X.prog X.w) X.A (f v u) Q X.xe s₂) X.xe s₁) X.xe s:=by refine aL (ha pz s σ H _ I h) fun v s1 ⟨x,H1,I1,r1,q1⟩=>?_;refine aL (hb pz s1 σ H1 _ I1 q1) fun u s2 ⟨y,H2,I2,r2,q2⟩=>?_;exact hf v u s2 x y H2 I2 r1 r2 q2
theorem ss{op:Operator}{r:R2}(ho:aT X (Rq op) r)(ha:PE X a ta)(hb:PE X b tb):PE X (.BinOp a op b pos) (mN r ta tb):=by intro pz s σ H Q I h;exact wpAny_BinOp (lL ha hb I h fun v u s2 x y H2 I2 rx ry q=>ho pz s2 σ H2 x y v u Q I2 rx ry q)
theorem FJ{op:UnaryOp}{r:V->Hp->VK->Prop}(ho:zn X (unaryOp op) r)(ha:PE X a ta):PE X (.UnaryOp op a pos) (Pb r ta):=by intro pz s σ H Q I h;exact UnaryOp_ (aL (ha pz s σ H _ I h) fun v s1 ⟨x,H1,I1,r1,q1⟩=>ho pz s1 σ H1 x v Q I1 r1 q1)
theorem mP{f:b_->b_->Sem b_}{C:Int->Int->Prop}{g:Int->Int->Int}(rule:∀(i j:Int)(t u:Tok)(s:h_)(Q:b_->h_->Prop)(E:b_->h_->Prop),C i j->Q (.int (g i j) s.toks) { s with toks:=s.toks+1 }->D_ (O_ X.prog X.w) X.A (f (.int i t) (.int j u)) Q E s):aT X f (rI C fun i j=>.int (g i j)):=by intro pz s σ H x y v u Q I rx ry h;obtain⟨i,j,rfl,rfl,hc,q⟩:=h;obtain⟨t,rfl⟩:=rx;obtain⟨t',rfl⟩:=ry;exact rule i j t t' s _ _ hc ⟨.int (g i j),H,I.tok _,⟨_,rfl⟩,q⟩
theorem o6{f:b_->b_->Sem b_}{g:Int->Int->Int}(rule:∀(i j:Int)(t u:Tok)(s:h_)(Q:b_->h_->Prop)(E:b_->h_->Prop),Q (.int (g i j) s.toks) { s with toks:=s.toks+1 }->D_ (O_ X.prog X.w) X.A (f (.int i t) (.int j u)) Q E s):aT X f (jb fun i j=>.int (g i j)):=by intro pz s σ H x y v u Q I rx ry h;obtain⟨i,j,rfl,rfl,q⟩:=h;obtain⟨t,rfl⟩:=rx;obtain⟨t',rfl⟩:=ry;exact rule i j t t' s _ _ ⟨.int (g i j),H,I.tok _,⟨_,rfl⟩,q⟩
theorem lF{f:b_->b_->Sem b_}{g:Int->Int->Bool}(rule:∀(i j:Int)(t u:Tok)(s:h_)(Q:b_->h_->Prop)(E:b_->h_->Prop),Q (.bool (g i j)) s->D_ (O_ X.prog X.w) X.A (f (.int i t) (.int j u)) Q E s):aT X f (jb fun i j=>.bl (g i j)):=by intro pz s σ H x y v u Q I rx ry h;obtain⟨i,j,rfl,rfl,q⟩:=h;obtain⟨t,rfl⟩:=rx;obtain⟨t',rfl⟩:=ry;exact rule i j t t' s _ _ ⟨.bl (g i j),H,I,rfl,q⟩
def hV(i j:Int):Prop:=0<j/\j<1073741824
def fE(i j:Int):Prop:=0<=j/\j<=1000000/\i.natAbs<2^64
def gx(i j:Int):Prop:=(-(2^64)<i/\i<2^64)\/(-(2^64)<j/\j<2^64)
theorem gx.ok{i j:Int}(h:gx i j):IntMulOk i j:=by
 rcases h with⟨h1,h2⟩|⟨h1,h2⟩
 .exact .of_left (intBits_le_64 h1 h2)
 .exact .of_right (intBits_le_64 h1 h2)
theorem AV:aT X (Rq .Add) (jb fun i j=>.int (i+j)):=o6 fun _ _ _ _ _ _ _ q=>add_int q
theorem HG:aT X (Rq .Sub) (jb fun i j=>.int (i-j)):=o6 fun _ _ _ _ _ _ _ q=>sub_int q
theorem HD:aT X (Rq .Mult) (rI gx fun i j=>.int (i*j)):=mP fun _ _ _ _ _ _ _ hc q=>mul_int q hc.ok
theorem JT:aT X (Rq .FloorDiv) (rI hV fun i j=>.int (i/j)):=mP fun i j _ _ _ _ _ hc q=>by have h1:(0:Int)<j:=hc.1;have h2:j<1073741824:=hc.2;exact floordiv_int (by omega) (by rw[Ue i (by omega)];exact q) (.inl (PyProof.noPylong_small (by omega)))
theorem HC:aT X (Rq .Mod) (rI (fun _ j=>0<j) fun i j=>.int (i%j)):=mP fun i j _ _ _ _ _ hc q=>by have h1:(0:Int)<j:=hc;exact mod_int' (by omega) (by rw[Int.fmod_eq_emod_of_nonneg i (by omega)];exact q)
theorem HE:aT X (Rq .Pow) (rI fE fun i j=>.int (i^j.toNat)):=mP fun _ _ _ _ _ _ _ hc q=>pow_int_small hc.1 hc.2.1 hc.2.2 q
theorem Pa{f:b_->Sem b_}{g:Int->Int}(rule:∀(i:Int)(t:Tok)(s:h_)(Q:b_->h_->Prop)(E:b_->h_->Prop),Q (.int (g i) s.toks) { s with toks:=s.toks+1 }->D_ (O_ X.prog X.w) X.A (f (.int i t)) Q E s):zn X f (rU fun i=>.int (g i)):=by intro pz s σ H x v Q I rx h;obtain⟨i,rfl,q⟩:=h;obtain⟨t,rfl⟩:=rx;exact rule i t s _ _ ⟨.int (g i),H,I.tok _,⟨_,rfl⟩,q⟩
theorem IY:zn X (unaryOp .USub) (rU fun i=>.int (-i)):=Pa fun _ _ _ _ _ q=>neg_int q
end
def jL:V->V->Bool
|.non,.non=>true|.non,.int _=>true|.int _,.non=>true|.non,.bl _=>true|.bl _,.non=>true|.non,.str _=>true|.str _,.non=>true
|.int _,.int _=>true|.bl _,.bl _=>true|.str _,.str _=>true|.byt _,.byt _=>true
|.int _,.str _=>true|.str _,.int _=>true|.bl _,.str _=>true|.str _,.bl _=>true
|_,_=>false
def Fj:R2:=fun x y H Q=>jL x y=true/\Q (.bl (decide (x=y))) H
def Fi:R2:=fun x y H Q=>jL x y=true/\Q (.bl (! decide (x=y))) H
theorem uM{i j:Int}:decide (V.int i=V.int j)=(i==j):=by rw[P6];simp
theorem sO{i j:Bool}:decide (V.bl i=V.bl j)=(i==j):=by rw[P6];simp
theorem uN{i j:Str}:decide (V.str i=V.str j)=(i==j):=by rw[P6];simp
theorem Bv{i j:Array UInt8}:decide (V.byt i=V.byt j)=(i.toList==j.toList):=by rw[P6];cases i;cases j;simp
section
variable{X:Cx}{a b c:Expr}{ta tb tc:TE}{pos:Pos}
theorem cz{pz:List (Addr×Obj)}{σ:St}{H:Hp}{s:h_}{Q:VK}{k k':Bool}(I:Inv X pz σ H s)(q:Q (.bl k) H)(e:k=k'):EP X pz σ Q (.bool k') s:=by subst e;exact⟨.bl k,H,I,rfl,q⟩
theorem z9:aT X (Qb .Eq) Fj:=by intro pz s σ H x y v u Q I rx ry h;obtain⟨hs,q⟩:=h;cases x with
|non=>cases rx;cases y with
 |non=>cases ry;exact Xd (cz I q (by simp))
 |bl j=>cases ry;exact Xe (cz I q (by simp))
 |int j=>obtain⟨t',rfl⟩:=ry;exact Xr (cz I q (by simp))
 |str j=>obtain⟨t',rfl⟩:=ry;exact Xs (cz I q (by simp))
 |_=>exact absurd (show false=true from hs) j_
|bl i=>cases rx;cases y with
 |non=>cases ry;exact Xf (cz I q (by simp))
 |bl j=>cases ry;exact eq_bool (cz I q sO)
 |str j=>obtain⟨t',rfl⟩:=ry;exact Xg (cz I q (by simp))
 |_=>exact absurd (show false=true from hs) j_
|int i=>obtain⟨t,rfl⟩:=rx;cases y with
 |non=>cases ry;exact Xt (cz I q (by simp))
 |int j=>obtain⟨t',rfl⟩:=ry;exact eq_int (cz I q uM)
 |str j=>obtain⟨t',rfl⟩:=ry;exact Xu (cz I q (by simp))
 |_=>exact absurd (show false=true from hs) j_
|str i=>obtain⟨t,rfl⟩:=rx;cases y with
 |non=>cases ry;exact Xv (cz I q (by simp))
 |bl j=>cases ry;exact Xh (cz I q (by simp))
 |int j=>obtain⟨t',rfl⟩:=ry;exact Xw (cz I q (by simp))
 |str j=>obtain⟨t',rfl⟩:=ry;exact eq_str (cz I q uN)
 |_=>exact absurd (show false=true from hs) j_
|byt i=>obtain⟨t,rfl⟩:=rx;cases y with
 |byt j=>obtain⟨t',rfl⟩:=ry;exact W.eq_bytes (cz I q Bv)
 |_=>exact absurd (show false=true from hs) j_
|_=>cases y <;> exact absurd (show false=true from hs) j_
theorem FC:aT X (Qb .NotEq) Fi:=by intro pz s σ H x y v u Q I rx ry h;obtain⟨hs,q⟩:=h;cases x with
|non=>cases rx;cases y with
 |non=>cases ry;exact Xi (cz I q (by simp))
 |bl j=>cases ry;exact Xj (cz I q (by simp))
 |int j=>obtain⟨t',rfl⟩:=ry;exact Xx (cz I q (by simp))
 |str j=>obtain⟨t',rfl⟩:=ry;exact Xy (cz I q (by simp))
 |_=>exact absurd (show false=true from hs) j_
|bl i=>cases rx;cases y with
 |non=>cases ry;exact Xk (cz I q (by simp))
 |bl j=>cases ry;exact ne_bool (cz I q (congrArg not sO))
 |str j=>obtain⟨t',rfl⟩:=ry;exact Xl (cz I q (by simp))
 |_=>exact absurd (show false=true from hs) j_
|int i=>obtain⟨t,rfl⟩:=rx;cases y with
 |non=>cases ry;exact Xz (cz I q (by simp))
 |int j=>obtain⟨t',rfl⟩:=ry;exact ne_int (cz I q (congrArg not uM))
 |str j=>obtain⟨t',rfl⟩:=ry;exact XB (cz I q (by simp))
 |_=>exact absurd (show false=true from hs) j_
|str i=>obtain⟨t,rfl⟩:=rx;cases y with
 |non=>cases ry;exact XD (cz I q (by simp))
 |bl j=>cases ry;exact Xm (cz I q (by simp))
 |int j=>obtain⟨t',rfl⟩:=ry;exact XE (cz I q (by simp))
 |str j=>obtain⟨t',rfl⟩:=ry;exact ne_str (cz I q (congrArg not uN))
 |_=>exact absurd (show false=true from hs) j_
|byt i=>obtain⟨t,rfl⟩:=rx;cases y with
 |byt j=>obtain⟨t',rfl⟩:=ry;exact W.ne_bytes (cz I q (congrArg not Bv))
 |_=>exact absurd (show false=true from hs) j_
|_=>cases y <;> exact absurd (show false=true from hs) j_
theorem pI:aT X (Qb .Lt) (jb fun i j=>.bl (decide (i<j))):=lF fun _ _ _ _ _ _ _ q=>lt_int q
theorem m7:aT X (Qb .LtE) (jb fun i j=>.bl (decide (i<=j))):=lF fun _ _ _ _ _ _ _ q=>le_int q
theorem Aa:aT X (Qb .Gt) (jb fun i j=>.bl (decide (j<i))):=lF fun _ _ _ _ _ _ _ q=>gt_int q
theorem MU:aT X (Qb .In) (fun x y H Q=>∃i j,x=.str i/\y=.str j/\Q (.bl (!(Rc j i 0 j.length 1).isEmpty)) H):=by intro pz s σ H x y v u Q I rx ry h;obtain⟨i,j,rfl,rfl,q⟩:=h;obtain⟨t,rfl⟩:=rx;obtain⟨t',rfl⟩:=ry;exact in_str (cz I q rfl)
theorem IB:aT X (Qb .Is) (fun x y H Q=>y=.non/\Q (.bl (decide (x=.non))) H):=by
 intro pz s σ H x y v u Q I rx ry h;obtain⟨rfl,q⟩:=h;cases ry;refine is_none_gen (cz I q ?_);cases x <;> first
  |(cases rx;rfl)
  |(obtain⟨t,rfl⟩:=rx;rfl)
theorem aT.or{f:b_->b_->Sem b_}{r r':R2}(h:aT X f r)(h':aT X f r'):aT X f (fun x y H Q=>r x y H Q\/r' x y H Q):=by
 intro pz s σ H x y v u Q I rx ry q;rcases q with q|q
 .exact h pz s σ H x y v u Q I rx ry q
 .exact h' pz s σ H x y v u Q I rx ry q
theorem jv(b:Expr){op:Wy}(h:op≠.In:=by decide)(h2:op≠.NotIn:=by decide):RM op b=false:=by
 have e1:(op==CmpOp.In)=false:=by cases op <;> first|rfl|exact absurd rfl h
 have e2:(op==CmpOp.NotIn)=false:=by cases op <;> first|rfl|exact absurd rfl h2
 cases b <;> simp[RM,e1,e2]
theorem JZ{op:Wy}{r:R2}(ho:aT X (Qb op) r)(ha:PE X a ta)(hb:PE X b tb)(hm:RM op b=false):PE X (.Compare a [op] [b] pos) (mN r ta tb):=by intro pz s σ H Q I h;exact wpAny_Compare1 (lL ha hb I h fun v u s2 x y H2 I2 rx ry q=>ho pz s2 σ H2 x y v u Q I2 rx ry q) hm
def Af(t:TE):TT:=fun σ H Q=>t σ H fun x H'=>∃k,x=.bl k/\Q k H'
theorem KS{op:Wy}{r:R2}(ho:aT X (Qb op) r)(ha:PE X a ta)(hb:PE X b tb)(hm:RM op b=false):PT X (.Compare a [op] [b] pos) (Af (mN r ta tb)):=by intro pz s σ H Q I h;refine wpAny_isTrue_Compare1 (aL (ha pz s σ H _ I h) fun v s1 ⟨x,H1,I1,r1,q1⟩=>aL (hb pz s1 σ H1 _ I1 q1) fun u s2 ⟨y,H2,I2,r2,q2⟩=>aL (ho pz s2 σ H2 x y v u _ I2 r1 r2 q2) fun c s3 ⟨z,H3,I3,r3,k,e,q3⟩=>?_) hm;subst e;cases r3;exact QM ⟨H3,I3,q3⟩
def tt(r r':R2)(ta tb tc:TE):TE:=fun σ H Q=>ta σ H fun x H1=>tb σ H1 fun y H2=>r x y H2 fun z H3=>∃k,z=.bl k /\(if k=true then tc σ H3 fun w' H4=>r' y w' H4 Q else Q (.bl false) H3)
theorem Mi{op op':Wy}{r r':R2}(ho:aT X (Qb op) r)(ho':aT X (Qb op') r')(ha:PE X a ta)(hb:PE X b tb)(hc:PE X c tc)(hm:Wk [op,op'] [b,c]=false:=by with_unfolding_all rfl):PE X (.Compare a [op,op'] [b,c] pos) (tt r r' ta tb tc):=by intro pz s σ H Q I h;refine Compare_chain (aL (ha pz s σ H _ I h) fun v s1 ⟨x,H1,I1,r1,q1⟩=>chain_link (aL (hb pz s1 σ H1 _ I1 q1) fun u s2 ⟨y,H2,I2,r2,q2⟩=>aL (ho pz s2 σ H2 x y v u _ I2 r1 r2 q2) fun d s3 ⟨z,H3,I3,r3,k,e,q3⟩=>?_)) hm;subst e;cases r3;refine QM ?_;cases k with
|false=>exact ite_ff ⟨.bl false,H3,I3,rfl,q3⟩
|true=>exact ite_tt (chain_last (aL (hc pz s3 σ H3 _ I3 q3) fun w' s4 ⟨z',H4,I4,r4,q4⟩=>ho' pz s4 σ H4 y z' u w' Q I4 r2 r4 q4))
theorem LB{op op':Wy}{r r':R2}(ho:aT X (Qb op) r)(ho':aT X (Qb op') r')(ha:PE X a ta)(hb:PE X b tb)(hc:PE X c tc)(hm:Wk [op,op'] [b,c]=false:=by with_unfolding_all rfl):PT X (.Compare a [op,op'] [b,c] pos) (Af (tt r r' ta tb tc)):=by intro pz s σ H Q I h;refine isTrue_chain (aL (ha pz s σ H _ I h) fun v s1 ⟨x,H1,I1,r1,q1⟩=>test_link (aL (hb pz s1 σ H1 _ I1 q1) fun u s2 ⟨y,H2,I2,r2,q2⟩=>aL (ho pz s2 σ H2 x y v u _ I2 r1 r2 q2) fun d s3 ⟨z,H3,I3,r3,k,e,q3⟩=>?_)) hm;subst e;cases r3;refine QM ?_;cases k with
|false=>obtain⟨k',e',q'⟩:=q3;cases e';exact ite_ff ⟨H3,I3,q'⟩
|true=>refine ite_tt (test_last (aL (hc pz s3 σ H3 _ I3 q3) fun w' s4 ⟨z',H4,I4,r4,q4⟩=>aL (ho' pz s4 σ H4 y z' u w' _ I4 r2 r4 q4) fun d' s5 ⟨z2,H5,I5,r5,k2,e2,q5⟩=>?_));subst e2;cases r5;exact QM ⟨H5,I5,q5⟩
def lM(K:W.Frag)(x:V)(H:Hp)(k:Bool):Prop:=match x with
|.non=>k=false
|.bl b=>k=b
|.int i=>k=(i != 0)
|.str y=>y.length<=sizeLine/\k=((y.length:Int) != 0)
|.byt y=>y.size<=sizeLine/\k=((y.size:Int) != 0)
|.ref p=>(∃xs,aV K H p xs/\k = ! xs.isEmpty)\/(∃xs,bO K H p xs/\k = ! xs.isEmpty)\/∃kvs,Rd H p (.dK kvs)/\k = ! kvs.isEmpty
|_=>False
theorem N4{κ:Type}{kvs:List (κ×V)}{vs:List (κ×b_)}(r:KV kvs vs):(! vs.isEmpty) = ! kvs.isEmpty:=by cases r <;> rfl
theorem DY{xs:List V}{its:List b_}(r:al xs its):(! its.toArray.isEmpty) = ! xs.isEmpty:=by cases r <;> simp
theorem ma:(sizeLine:Nat)<2^63:=by rw[Qf];decide
theorem IS:zo X (fun x H Q=>∃k,lM X.K x H k/\Q k H):=by intro pz s σ H x v Q I rx h;obtain⟨k,e,q⟩:=h;have hl:=ma;have hs:sizeLine=16777216:=Qf;cases x with
|non=>cases rx;have e':k=false:=e;subst e';exact truthy_none ⟨H,I,q⟩
|bl b=>cases rx;have e':k=b:=e;subst e';exact QM ⟨H,I,q⟩
|int i=>obtain⟨t,rfl⟩:=rx;have e':k=(i != 0):=e;subst e';exact PySem.P.truthy_int ⟨H,I,q⟩
|str y=>obtain⟨t,rfl⟩:=rx;obtain⟨hy,e'⟩:y.length<=sizeLine/\k=((y.length:Int) != 0):=e;subst e';exact PySem.P.truthy_str (by omega) ⟨H,I.tok _,q⟩
|byt y=>obtain⟨t,rfl⟩:=rx;obtain⟨hy,e'⟩:y.size<=sizeLine/\k=((y.size:Int) != 0):=e;subst e';exact W.truthy_bytes (by omega) ⟨H,I.tok _,q⟩
|ref p=>
  cases rx;have e':(∃xs,aV X.K H p xs/\k = ! xs.isEmpty)\/(∃xs,bO X.K H p xs/\k = ! xs.isEmpty)\/∃kvs,Rd H p (.dK kvs)/\k = ! kvs.isEmpty:=e;rcases e' with⟨xs,hx,e'⟩|⟨xs,hx,e'⟩|⟨kvs,hx,e'⟩
  .subst e';obtain⟨its,r,pl,hz⟩:=I.list hx;have hlen:=r.length;exact wpAny_truthy_list pl.isList (by simp only[s_];omega) ⟨H,I.tok _,by rw[DY r];exact q⟩
  .subst e';obtain⟨its,r,pl,hz⟩:=I.tuple hx;have hlen:=r.length;exact truthy_tuple pl (by simp only[s_];omega) ⟨H,I.tok _,by rw[DY r];exact q⟩
  .subst e';obtain⟨hz,hS,vs,r,m⟩:kvs.length<=sizeLine/\(p==RL)=false/\∃vs,KV kvs vs/\s.heap.DictOf (fN X.prog X.w) p vs:=hx.ok I.hok;have hlen:kvs.length=vs.length:=Paired.length r;exact wpAny_truthy_dict hS m (by omega) ⟨H,I.tok _,by rw[N4 r];exact q⟩
|_=>exact(show False from e).elim
theorem LC(ha:PE X a ta)(he:∀whole,isTrue a X.env whole=(do let v <-whole;V7 a.pos;Sv [v] (truthy v))):PT X a (fun σ H Q=>ta σ H fun x H'=>∃k,lM X.K x H' k/\Q k H'):=by intro pz s σ H Q I h;exact isTrue_plain (aL (ha pz s σ H _ I h) fun v s1 ⟨x,H1,I1,r1,q1⟩=>IS pz s1 σ H1 x v Q I1 r1 q1) (he _)
theorem D6:aT X (Rq .Add) (fun x y H Q=>∃i j,x=.str i/\y=.str j/\i.length+j.length<=sizeLine/\Q (.str (i++j)) H):=by intro pz s σ H x y v u Q I rx ry h;obtain⟨i,j,rfl,rfl,hz,q⟩:=h;obtain⟨t,rfl⟩:=rx;obtain⟨t',rfl⟩:=ry;exact add_str (fun t' tk=>⟨.str (i++j),H,I.tok _,⟨_,rfl⟩,q⟩) hz
theorem bI{x:V}{us:List b_}(r:al [x] us):∃u,us=[u]/\ar x u:=by cases r with
|cons r1 r2=>cases r2;exact⟨_,rfl,r1⟩
theorem Ah{x y:V}{us:List b_}(r:al [x,y] us):∃u w',us=[u,w']/\ar x u/\ar y w':=by cases r with
|cons r1 r2=>cases r2 with
 |cons r3 r4=>cases r4;exact⟨_,_,rfl,r1,r3⟩
theorem K8:d5 X (.builtin "abs") (fun xs H Q=>∃i,xs=[.int i]/\Q (.int (if i<0 then-i else i)) H):=by intro pz s σ H xs us Q I r h;obtain⟨i,rfl,q⟩:=h;obtain⟨u,rfl,t,rfl⟩:=bI r;exact call_abs_int fun u tk=>⟨.int (if i<0 then-i else i),H,I.tok _,⟨_,rfl⟩,q⟩
def pi(K:W.Frag)(x:V)(H:Hp)(n:Nat):Prop:=match x with
|.str y=>y.length<=sizeLine/\n=y.length
|.byt y=>y.size<=sizeLine/\n=y.size
|.ref p=>(∃xs,aV K H p xs/\n=xs.length)\/∃xs,bO K H p xs/\n=xs.length
|_=>False
theorem Lb:d5 X (.builtin "len") (fun xs H Q=>∃x n,xs=[x]/\pi X.K x H n/\Q (.int n) H):=by intro pz s σ H xs us Q I r h;obtain⟨x,n,rfl,e,q⟩:=h;obtain⟨u,rfl,rx⟩:=bI r;have hl:=ma;have hs:sizeLine=16777216:=Qf;cases x with
|str y=>obtain⟨t,rfl⟩:=rx;obtain⟨hy,e'⟩:y.length<=sizeLine/\n=y.length:=e;subst e';exact len_str (by omega) ⟨.int _,H,I.tok _,⟨_,rfl⟩,q⟩
|byt y=>obtain⟨t,rfl⟩:=rx;obtain⟨hy,e'⟩:y.size<=sizeLine/\n=y.size:=e;subst e';exact W.len_bytes (by omega) ⟨.int _,H,I.tok _,⟨_,rfl⟩,q⟩
|ref p=>
  cases rx;have e':(∃xs,aV X.K H p xs/\n=xs.length)\/∃xs,bO X.K H p xs/\n=xs.length:=e;rcases e' with⟨xs,hx,e'⟩|⟨xs,hx,e'⟩
  .subst e';obtain⟨its,r',pl,hz⟩:=I.list hx;have hlen:=r'.length;exact Calls.call_len_list pl.isList (by simp only[s_];omega) ⟨.int xs.length,H,I.tok _,⟨_,by simp only[s_];rw[hlen]⟩,q⟩
  .subst e';obtain⟨its,r',pl,hz⟩:=I.tuple hx;have hlen:=r'.length;exact len_tuple pl (by simp only[s_];omega) ⟨.int xs.length,H,I.tok _,⟨_,by simp only[s_];rw[hlen]⟩,q⟩
|_=>exact(show False from e).elim
end
structure ObjM(h:Heap)(x dx C:Addr)(mA:Str->Option b_):Prop where
 obj:h.get? x=some (W.instObj C dx)
 ns:h.Ns1 dx mA
 ne:dx≠x
def putF(f:Str)(v:V):List (Str×V)->List (Str×V)
|[]=>[(f,v)]
|(g,x)::r=>if g=f then(g,v)::r else(g,x)::putF f v r
theorem cK.some_of{v:V}{o:Option b_}(r:cK (some v) o):∃u,o=some u/\ar v u:=by cases o with
|none=>exact(show False from r).elim
|some u=>exact⟨u,rfl,r⟩
theorem cK.none_of{o:Option b_}(r:cK none o):o=none:=by cases o with
|none=>rfl
|some u=>exact(show False from r).elim
structure Cls(K:W.Frag)(C:Addr):Prop where
 pg:W.plainGet K C Str.empty=true
 hd:W.hasDictIn K C=true
 po:W.plainOver K C=true
 sa:W.findIn K (.ref C) "__setattr__" = some (some (.builtin "object.__setattr__"))
theorem Cls.get{K:W.Frag}{C:Addr}(c:Cls K C)(f:Str):W.plainGet K C f=true:=c.pg
structure Con(K:W.Frag)(C:Addr)(f:Str)(v:V)(u:b_):Prop where
 at_:W.findIn K (.ref C) f=some (some u)
 rel:ar v u
 get:W.specialIn K u "__get__" = some none
 cp:W.copiedNames.contains f=false
structure Meth(K:W.Frag)(C:Addr)(m:Str)(f:Addr):Prop where
 at_:W.findIn K (.ref C) m=some (some (.ref f))
 fn:W.isFn K (.ref f)=true
 kp:W.keepIn K (.ref f)=true
section
variable{X:Cx}{pz:List (Addr×Obj)}{σ:St}{H:Hp}{s:h_}{a C dx:Addr}{fs:List (Str×V)}{f:Str}{v:V}{A:P8}{E:b_->h_->Prop}
theorem Inv.made(I:Inv X pz σ H s):Inv X pz σ (upd (upd H s.heap.objs.size (.own (s.heap.objs.size+1))) (s.heap.objs.size+1) (.ins C s.heap.objs.size []))
  { s with heap:=(s.heap.push W.emptyDict).push (W.instObj C s.heap.objs.size) }:=by
 have e1:(s.heap.push W.emptyDict).get? s.heap.objs.size=some W.emptyDict:=w_ s.heap rfl;have e2:((s.heap.push W.emptyDict).push (W.instObj C s.heap.objs.size)).get? (s.heap.objs.size+1)=some (W.instObj C s.heap.objs.size):=by have:=w_ (s.heap.push W.emptyDict) (o:=W.instObj C s.heap.objs.size) rfl;rwa[Qj]at this
 have e3:(s.heap.push W.emptyDict).Ns s.heap.objs.size (fun _=>none):=⟨W.emptyDict,#[],_,e1,rfl,(fun e he=>absurd he (by simp)),fun _=>rfl⟩
 have I1:=I.laid (a:=s.heap.objs.size) (o:=.own (s.heap.objs.size+1)) (h':=s.heap.push W.emptyDict) (t':=s.toks) (fun b u q=>e_ _ q) (u_ _) ⟨_,e1⟩;refine I1.laid (a:=s.heap.objs.size+1) (o:=.ins C s.heap.objs.size []) (t':=s.toks) (fun b u q=>e_ _ q) (SZ (Qj _ _)) ?_;have ne:s.heap.objs.size≠s.heap.objs.size+1:=PH (Rv _);refine⟨by rw[bf ne,ce],Qa _,ne,e2,fun _=>none,(Heap.Ns1.of_empty e3).at fun o q=>e_ _ q,fun _=>True.intro,fun y hy=>absurd rfl hy⟩
end
section
variable{X:Cx}{pz:List (Addr×Obj)}{σ:St}{H:Hp}{s:h_}{A:P8}{E:b_->h_->Prop}{Q:b_->h_->Prop}{c:b_}{b:Bool}
inductive TyOf(K:W.Frag)(H:Hp):V->b_->Prop where
 |non:TyOf K H .non (.type "NoneType")
 |bl (x:Bool):TyOf K H (.bl x) (.type "bool")
 |int (i:Int):TyOf K H (.int i) (.type "int")
 |str (x:Str):TyOf K H (.str x) (.type "str")
 |flt (x:UInt64):TyOf K H (.flt x) (.type "float")
 |lst {a:Addr} {xs:List V} (e:H a=some (.lst xs)):TyOf K H (.ref a) (.type "list")
 |frz {a:Addr} {o:Obj} {xs:List V} (e:H a=some (.frz o (.lst xs))):TyOf K H (.ref a) (.type "list")
 |tup {a:Addr} {xs:List V} (e:H a=some (.tup xs)):TyOf K H (.ref a) (.type "tuple")
 |dK {a:Addr} {kvs:List (aB×V)} (e:H a=some (.dK kvs)):TyOf K H (.ref a) (.type "dict")
 |dT {a:Addr} {kvs:List (List aB×V)} (e:H a=some (.dT kvs)):TyOf K H (.ref a) (.type "dict")
 | ins {a C dx:Addr} {fs:List (Str × V)} (e:H a=some (.ins C dx fs)) (cl:Cls K C) (ha:W.findIn K (.ref C) "__class__" = some (some (.builtin "object.__class__")))
   (hn:W.specialIn K (.builtin "object.__class__") "__get__" = some (some (.builtin "getset_descriptor.__get__"))) (htk:W.takesIn K (.builtin "object.__class__")=some true)
   (hm:W.mroIn K C (.type "object")=some true):TyOf K H (.ref a) (.ref C)
end
structure Room(k:Nat)(A:P8):Prop where
 hd:A.handled=none
 dp:A.depth+3*k+5<recursionLimit
 un:A.units+16*k+200<Rt
 gd:A.guards=some []
theorem Room.mono{j k:Nat}{A:P8}(r:Room k A)(h:j<=k):Room j A:=⟨r.hd,by have:=r.dp;omega,by have:=r.un;omega,r.gd⟩
theorem Room.deeper{k:Nat}{A:P8}(r:Room (k+1) A)(env:Env):Room k (A.deeper env):=⟨r.hd,by have:=r.dp;show A.depth+1+3*k+5<_;omega,by have:=r.un;show A.units+3+16*k+200<_;omega,r.gd⟩
theorem Room.in1{k:Nat}{A:P8}(r:Room (k+1) A):Room k A.in1:=⟨r.hd,by have:=r.dp;show A.depth+3*k+5<_;omega,by have:=r.un;show A.units+1+16*k+200<_;omega,r.gd⟩
theorem N6{A:P8}{C:Addr}{us:List b_}{kw:List (Str×b_)}:(A.under (.builtin "type.__call__" ⟨.ref C::us,kw⟩)).depth=A.depth+1:=by first|rfl|simp[UT,Code.weight,Code.isCreation,X4,Code.isCaller,Ye,V9,guardIds]
theorem N7{A:P8}{C:Addr}{us:List b_}{kw:List (Str×b_)}:(A.under (.builtin "type.__call__" ⟨.ref C::us,kw⟩)).units=A.units+1:=by first|rfl|simp[UT,Code.cUnits,Ye,V9]
theorem Room.make{k:Nat}{A:P8}(r:Room (k+1) A)(C:Addr)(us:List b_)(kw:List (Str×b_)):Room k (A.under (.builtin "type.__call__" ⟨.ref C::us,kw⟩)):=⟨r.hd,by have:=r.dp;rw[N6];omega,by have:=r.un;rw[N7];omega,(by have:=r.gd;first|exact this|(simp[UT,X4,guardIds];exact this))⟩
theorem Room.depth{k:Nat}{A:P8}(r:Room k A):A.depth<recursionLimit:=by have:=r.dp;omega
theorem Room.units{k:Nat}{A:P8}(r:Room k A):A.units+64<Rt:=by have:=r.un;omega
def yG:TA:=fun _ H Q=>Q [] H
def Gb(ta:TE)(tr:TA):TA:=fun σ H Q=>ta σ H fun x H1=>tr σ H1 fun xs H2=>Q (x::xs) H2
section
variable{X:Cx}{e:Expr}{es:List Expr}{te:TE}{t:TA}{pos:Pos}
theorem iz:PA X [] yG:=fun _ _ _ _ H Q I h=>V_ ⟨[],H,I,.nil,h⟩
theorem dS(ha:PE X e te)(hr:PA X es t)(hs:l_ (e::es) X.env=(false,eval e X.env)::l_ es X.env:=by rfl):PA X (e::es) (Gb te t):=by intro pos pz s σ H Q I h;rw[hs];show D_ _ _ (spliced ((false,eval e X.env)::backTo pos (l_ es X.env))) _ _ s;refine VN (aL (ha pz s σ H _ I h) fun u s1 ⟨x,H1,I1,r1,q1⟩=>?_);exact aL (hr pos pz s1 σ H1 _ I1 q1) fun us s2 ⟨xs,H2,I2,r2,q2⟩=>⟨x::xs,H2,I2,.cons r1 r2,q2⟩
def yB(t:TA):TE:=fun σ H Q=>t σ H fun xs H1=>xs.length<=sizeLine/\∀p,H1 p=none->Q (.ref p) (upd H1 p (.tup xs))
def yH(t:TA):TE:=fun σ H Q=>t σ H fun xs H1=>xs.length<=sizeLine/\∀p,H1 p=none->Q (.ref p) (upd H1 p (.lst xs))
theorem HP{x1}(h:PA X es t):PE X (.Tuple es x1 pos) (yB t):=by intro pz s σ H Q I hq;refine wpAny_Tuple_spliced (aL (h pos pz s σ H _ I hq) fun us s1 ⟨xs,H1,I1,r,z,q⟩=>⟨by rw[<-r.length];exact z,?_⟩);have hf:H1 s1.heap.objs.size=none:=I1.hok.fresh (u_ _);refine⟨.ref s1.heap.objs.size,upd H1 s1.heap.objs.size (.tup xs),I1.laid (t':=s1.toks) (fun b u e=>e_ _ e) (u_ _) ?_,rfl,q _ hf⟩;exact⟨z,us,r,⟨_,w_ _ rfl,rfl,_,rfl⟩,_,w_ _ rfl,rfl⟩
theorem HK(h:PA X es t):PE X (.List es pos) (yH t):=by intro pz s σ H Q I hq;refine wpAny_List_spliced (aL (h pos pz s σ H _ I hq) fun us s1 ⟨xs,H1,I1,r,z,q⟩=>⟨by rw[<-r.length];exact z,?_⟩);have hf:H1 s1.heap.objs.size=none:=I1.hok.fresh (u_ _);refine⟨.ref s1.heap.objs.size,upd H1 s1.heap.objs.size (.lst xs),I1.laid (t':=s1.toks) (fun b u e=>e_ _ e) (u_ _) ?_,rfl,q _ hf⟩;exact⟨z,us,0,r,w_ _ rfl⟩
end
abbrev Sp:=List V->Hp->VK->XK->Prop
abbrev gI:=List Env->Hp->h_->XK->b_->h_->Prop
structure Env0(P:B_)(w:PP)(K:W.Frag)(mg:Str->Option b_)(base:Heap)(A:P8)(outer:List Env)(s:h_)(H:Hp):Prop where
 frames:A.frames=some outer
 mod:Mod K mg base
 bs:∀b o,base.get? b=some o->s.heap.get? b=some o/\H b=none
 bsz:base.objs.size<=s.heap.objs.size
 funs:s.heap.FunFrames base outer
 frf:∀b∈dC outer,H b=none
 hok:cB P w H s.heap
 bare:Tu s.gens
def CE(outer:List Env)(P:B_)(w:PP)(H:Hp)(s:h_)(Q:VK)(u:b_)(s':h_):Prop:=∃v H',s'.os=s.os/\Tu s'.gens/\Un (dC outer) [] H H' s.heap s'.heap/\cB P w H' s'.heap/\ar v u/\Q v H'
def CR(CX:gI)(outer:List Env)(P:B_)(w:PP)(H:Hp)(s:h_)(Q:VK)(E:XK)(r:WV)(s':h_):Prop:=match r with
|.ok (.ret u)=>CE outer P w H s Q u s'
|.ok _=>False
|.error e=>CX outer H s E e s'
structure FnOk(P:B_)(w:PP)(K:W.Frag)(mg:Str->Option b_)(base:Heap)(CX:gI)(k:Nat)(f:Addr)(fd:Q0)(ps:List Str)(sp:Sp):Prop where
 len:∀vs H Q E,sp vs H Q E->vs.length=ps.length
 run:∀(A:P8)(outer:List Env)(s:h_)(H:Hp)(args:Args)(us:List b_)(vs:List V)(Q:VK)(E:XK),Room k A->Env0 P w K mg base A outer s H->VA s fd args (ps.zip us)->al vs us->sp vs H Q E ->T7 (O_ P w) A (.call (.ref f) args) (CR CX outer P w H s Q E) s
theorem FnOk.mono{P:B_}{w:PP}{K:W.Frag}{mg:Str->Option b_}{base:Heap}{CX:gI}{j k:Nat}{f:Addr}{fd:Q0}{ps:List Str}{sp:Sp}(F:FnOk P w K mg base CX j f fd ps sp)(h:j<=k):FnOk P w K mg base CX k f fd ps sp:=⟨F.len,fun A outer s H args us vs Q E hr=>F.run A outer s H args us vs Q E (hr.mono h)⟩
theorem FnOk.imp{P:B_}{w:PP}{K:W.Frag}{mg:Str->Option b_}{base:Heap}{CX:gI}{k:Nat}{f:Addr}{fd:Q0}{ps:List Str}{sp sp':Sp}(F:FnOk P w K mg base CX k f fd ps sp)(h:∀vs H Q E,sp' vs H Q E->sp vs H Q E):FnOk P w K mg base CX k f fd ps sp':=⟨fun vs H Q E q=>F.len vs H Q E (h _ _ _ _ q),fun A outer s H args us vs Q E hr he hb hv hs=>F.run A outer s H args us vs Q E hr he hb hv (h _ _ _ _ hs)⟩
theorem Env0.make{P:B_}{w:PP}{K:W.Frag}{mg:Str->Option b_}{base:Heap}{A:P8}{outer:List Env}{s:h_}{H:Hp}(e:Env0 P w K mg base A outer s H)(C:Addr)(us:List b_)(kw:List (Str×b_)):Env0 P w K mg base (A.under (.builtin "type.__call__" ⟨.ref C::us,kw⟩)) outer s H:=⟨by first|exact e.frames|(simpa[UT,Code.envs,V9,pushEnvs]using e.frames),e.mod,e.bs,e.bsz,e.funs,e.frf,e.hok,e.bare⟩
theorem Env0.in1{P:B_}{w:PP}{K:W.Frag}{mg:Str->Option b_}{base:Heap}{A:P8}{outer:List Env}{s:h_}{H:Hp}(e:Env0 P w K mg base A outer s H):Env0 P w K mg base A.in1 outer s H:=⟨e.frames,e.mod,e.bs,e.bsz,e.funs,e.frf,e.hok,e.bare⟩
section
variable{X:Cx}{pz:List (Addr×Obj)}{σ:St}{H:Hp}{s s':h_}
theorem Inv.env0(I:Inv X pz σ H s):Env0 X.prog X.w X.K X.mg X.base X.A X.stack s H:=⟨I.ok.frames,I.ok.mod,I.bs,PQ I.ok.bsz I.sz,I.stack,I.stkFree,I.hok,I.bare⟩
theorem Inv.after{Q:VK}{u:b_}(I:Inv X pz σ H s)(h:CE X.stack X.prog X.w H s Q u s'):EP X pz σ Q u s':=by obtain⟨v,H',os,bare,un,hok,r,q⟩:=h;obtain⟨hh,g,d,t,os'⟩:=s';obtain rfl:os'=s.os:=os;exact⟨v,H',I.call (h':=hh) (g':=g) (d':=d) (t':=t) (ch:=[]) un hok bare (fun b z=>absurd z (by simp)),r,q⟩
end
def Ga(sp:Sp)(dvs:List V)(E:XK)(t:TA):TE:=fun σ H Q=>t σ H fun vs H1=>sp (vs++dvs) H1 Q E
def fF(K:W.Frag)(fd:Q0)(ps:List Str)(ds:List b_):Prop:=∀(s:h_)(us:List b_),K.In s.heap->(us++ds).length=ps.length->VA s fd ⟨us,[]⟩ (ps.zip (us++ds))
theorem fF.all{K:W.Frag}{fd:Q0}{ps:List Str}(h:∀us:List b_,us.length=ps.length->UH fd ⟨us,[]⟩=pure (ps.zip us)):fF K fd ps []:=fun s us _ hl=>by rw[QC]at hl ⊢;exact .of_eq (h us hl)
def sR(CX:gI)(X:Cx)(E:XK):Prop:=∀(pz:List (Addr×Obj))(σ:St)(H:Hp)(s:h_)(e:b_)(s':h_),Inv X pz σ H s->CX X.stack H s E e s'->X.xe e s'
section
variable{X:Cx}{CX:gI}{k:Nat}{f C:Addr}{fd:Q0}{ps:List Str}{sp:Sp}{dvs:List V}{ds:List b_}{E:XK}{x m:Str}{p pos apos:Pos}{e o:Expr}{es:List Expr}{ta:TE}{t:TA}
theorem Jh{pz:List (Addr×Obj)}{σ:St}{H:Hp}{s:h_}{Q:VK}{us:List b_}{vs:List V}(F:FnOk X.prog X.w X.K X.mg X.base CX k f fd ps sp)(hr:Room k X.A)(hb:fF X.K fd ps ds)(hd:al dvs ds)(hx:sR CX X E)(I:Inv X pz σ H s)(r:al vs us)(h:sp (vs++dvs) H Q E):D_ (O_ X.prog X.w) X.A (call (.ref f) us) (EP X pz σ Q) X.xe s:=by
 have r2:al (vs++dvs) (us++ds):=r.append hd;have hl:(us++ds).length=ps.length:=by rw[<-r2.length];exact F.len _ _ _ _ h
 refine WW (Sg (F.run X.A X.stack s H ⟨us,[]⟩ (us++ds) (vs++dvs) Q E hr I.env0 (hb s us I.kIn hl) r2 h) fun r s' hq=>?_);cases r with
|error e=>exact hx pz σ H s e s' I hq
|ok fl=>cases fl with
 |ret u=>exact I.after hq
 |next=>exact Rx hq
 |brk=>exact Rx hq
 |cont=>exact Rx hq
theorem pZ(F:FnOk X.prog X.w X.K X.mg X.base CX k f fd ps sp)(hr:Room k X.A)(hg:Gl X x)(hm:X.mg x=some (.ref f))(hk:W.keepIn X.K (.ref f)=true)(hb:fF X.K fd ps ds)(hd:al dvs ds)(hx:sR CX X E)(ha:PA X (e::es) t)(hdb:(x==("__debug__" : Str))=false:=by decide)(he:l_ (e::es) X.env=(false,eval e X.env)::l_ es X.env:=by rfl)(hpl:(backTo pos (l_ es X.env)).any (·.1)=false:=by rfl):PE X (.Call (.Name x p) (e::es) [] pos) (Ga sp dvs E t):=by intro pz s σ H Q I h;refine RZ (Cd I hg hm ?_ hdb);refine W.callWith_K (h₀:=X.base) I.ok.mod.kin hk (aL (ha pos pz s σ H _ I h) fun us s1 ⟨vs,H1,I1,r,q⟩=>⟨I1.kIn,?_⟩) he hpl;exact Jh F hr hb hd hx I1 r q
structure Mk(K:W.Frag)(C f:Addr):Prop where
 makes:W.makesIn K C=true
 init:W.findIn K (.ref C) "__init__" = some (some (.ref f))
 fn:W.isFn K (.ref f)=true
 kp:W.keepIn K (.ref C)=true
end
section
variable{X:Cx}{CX:gI}{k:Nat}{f C:Addr}{fd:Q0}{ps ks:List Str}{sp:Sp}{E:XK}{x m:Str}{p pos apos kpos:Pos}{e o:Expr}{es:List Expr}{kws:List Tv}{te ta:TE}{t tk:TA}{nm:Option Str}
structure KBinds(K:W.Frag)(fd:Q0)(ps ks:List Str)(g:List b_->List b_->List b_)(gV:List V->List V->List V):Prop where
 to:∀(s:h_)(us ws:List b_),K.In s.heap->(g us ws).length=ps.length->VA s fd ⟨us,ks.zip ws⟩ (ps.zip (g us ws))
 rel:∀{vs:List V}{us:List b_}{zs:List V}{ws:List b_},al vs us->al zs ws->al (gV vs zs) (g us ws)
variable{g:List b_->List b_->List b_}{gV:List V->List V->List V}
end
structure FnScope(N P:List Str)(sc:R9):Prop where
 kind:sc.kind=.function
 co:sc.isCoroutine=false
 gen:sc.isGenerator=false
 nd:N.Nodup
 pre:N.take P.length=P
 par:∀x∈P,sc.names.lookup x=some .local\/sc.names.lookup x=some .cell
 nofree:∀y∈sc.names,y.2≠.free
theorem Dw{kindOf:Str->Option R_}{x:Str}:∀{binds:List (Str×b_)}{m:Str->Option b_},(∀v,(x,v)∉binds)->WX kindOf binds m x=m x
|[],_,_=>rfl
|(n,v)::r,m,h=>by
  unfold WX;rw[Dw fun w hw=>h w (f_ _ hw)];split
  .have:x≠n:=by rintro rfl;exact h v g_
   simp[this]
  .rfl
theorem Du{kindOf:Str->Option R_}{x:Str}:∀{binds:List (Str×b_)}{m:Str->Option b_},(∀v,(x,v)∉binds)->WY kindOf binds m x=m x
|[],_,_=>rfl
|(n,v)::r,m,h=>by
  unfold WY;rw[Du fun w hw=>h w (f_ _ hw)];split
  .rfl
  .have:x≠n:=by rintro rfl;exact h v g_
   simp[this]
theorem Dv{kindOf:Str->Option R_}{x:Str}{v:b_}:∀{P:List Str}{vs:List b_}{i:Nat}{m:Str->Option b_},P.Nodup->P[i]? = some x->vs[i]? = some v->kindOf x=some .local ->WX kindOf (P.zip vs) m x=some v
|[],_,_,_,_,h,_,_=>by simp at h
|_::_,[],_,_,_,_,h,_=>by simp at h
|p::P,w::vs,0,m,nd,h1,h2,hk=>by simp at h1 h2;subst h1;subst h2;show WX kindOf ((p,w)::P.zip vs) m p=_;unfold WX;rw[Dw fun v hv=>(PZ.mp nd).1 (U9 hv).1,if_pos hk];simp
|p::P,w::vs,i+1,m,nd,h1,h2,hk=>by show WX kindOf ((p,w)::P.zip vs) m x=_;unfold WX;exact Dv (i:=i) (PZ.mp nd).2 (by simpa using h1) (by simpa using h2) hk
theorem Dt{kindOf:Str->Option R_}{x:Str}{v:b_}:∀{P:List Str}{vs:List b_}{i:Nat}{m:Str->Option b_},P.Nodup->P[i]? = some x->vs[i]? = some v->kindOf x≠some .local ->WY kindOf (P.zip vs) m x=some v
|[],_,_,_,_,h,_,_=>by simp at h
|_::_,[],_,_,_,_,h,_=>by simp at h
|p::P,w::vs,0,m,nd,h1,h2,hk=>by simp at h1 h2;subst h1;subst h2;show WY kindOf ((p,w)::P.zip vs) m p=_;unfold WY;rw[Du fun v hv=>(PZ.mp nd).1 (U9 hv).1,if_neg hk];simp
|p::P,w::vs,i+1,m,nd,h1,h2,hk=>by show WY kindOf ((p,w)::P.zip vs) m x=_;unfold WY;exact Dt (i:=i) (PZ.mp nd).2 (by simpa using h1) (by simpa using h2) hk
def start(N:List Str)(vs:List V):St:=vs.map some++I_ (N.length-vs.length) none
def aW(CX:gI)(P:B_)(w:PP)(K:W.Frag)(mg:Str->Option b_)(base:Heap)(N:List Str)(qual:Str)(scope:R9)(f:Addr)(cd:b_)(A:P8)(outer:List Env)(s:h_)(H:Hp)(E:XK):Cx where
 prog:=P
 w:=w
 K:=K
 mg:=mg
 base:=base
 A:=A.deeper (S0 qual scope s.heap.objs.size f cd)
 N:=N
 s₀:=s
 H₀:=H
 env:=S0 qual scope s.heap.objs.size f cd
 outer:=outer
 stack:=S0 qual scope s.heap.objs.size f cd::outer
 ex:=[]
 calm:=true
 fn:=fun _=>true
 pn:=[]
 xe:=fun e s'=>D_ (O_ P w) (A.deeper (S0 qual scope s.heap.objs.size f cd)) (leaving (S0 qual scope s.heap.objs.size f cd) e) (fun _ s''=>CX outer H s E e s'') (fun e' s''=>CX outer H s E e' s'') s'
theorem Db{sc:R9}{n:Nat}{x:Str}(h:sc.names.lookup x=some .cell):∃c,(XV n sc.names []).lookup x=some c:=by have q:=W.cellsFrom_some sc.names n [] (.inl h);exact Option.isSome_iff_exists.mp q
theorem Ng{CX:gI}{P:B_}{w:PP}{K:W.Frag}{mg:Str->Option b_}{base:Heap}{N ps:List Str}{qual:Str}{scope:R9}{f:Addr}{cd:b_}{A:P8}{outer:List Env}{s s1:h_}{H:Hp}{E:XK}{us:List b_}{vs:List V}(S:FnScope N ps scope)(hd:A.handled=none)(e0:Env0 P w K mg base A outer s H)(hl:vs.length=ps.length)(r:al vs us)(x:InCallC s s.heap.objs.size (WX (S0 qual scope s.heap.objs.size f cd).kindOf (ps.zip us) fun _=>none) (XV (s.heap.objs.size+1) scope.names []) (WY (S0 qual scope s.heap.objs.size f cd).kindOf (ps.zip us) fun _=>none) s1):Inv (aW CX P w K mg base N qual scope f cd A outer s H E) [] (start N vs) H s1:=by
 have hpl:ps.length<=N.length:=by have:=congrArg Q_ S.pre;rw[Q2]at this;omega
 obtain⟨h1,tk,rfl,hk⟩:=x.done;have noA:∀b:Addr,b∉(aW CX P w K mg base N qual scope f cd A outer s H E).ex:=fun b z=>absurd (show b∈([]:List Addr)from z) (by simp);refine⟨⟨e0.mod,S.kind,rfl,rfl,u_ _,fun y z c h1 h2=>?_,fun y hy=>?_,fun y c _ h=>?_,fun _=>hd,Around.frames_deeper e0.frames,.inr ⟨rfl,rfl⟩,fun b z=>absurd z (noA b),e0.bs,e0.bsz,fun b _ _=>noA b,fun b z=>absurd z (noA b),e0.funs,e0.frf⟩,rfl,e0.bare,Un.kept hk,⟨_,x.toInCall.ns,fun i y v h1 h2 h3=>?_⟩,fun y c h=>⟨_,x.cell y c h⟩,e0.hok.fresh (u_ _),fun y c h=>?_,fun p hp=>absurd (show p∈([]:List (Addr×Obj))from hp) (by simp),e0.hok.kept hk,?_⟩
 .exact name_of_addr x.apart (QW h1) (QW h2)
 .have hy:scope.names.lookup y=some .cell\/scope.names.lookup y=some .free:=hy;rcases hy with hy|hy
  .exact Db hy
  .exact absurd rfl (S.nofree _ (QW hy))
 .exact V6 (x.above y c (QW h))
 .have hi:i<vs.length:=by
   unfold start at h2;by_cases hi:i<vs.length
   .exact hi
   .rw[P4 (by simpa using hi)]at h2;rw[Qy]at h2;split at h2 <;> cases h2
  have ha:vs[i]? = some v:=by unfold start at h2;rw[N_ (by simpa using hi),n_]at h2;cases e:vs[i]? with
  |none=>rw[e]at h2;cases h2
  |some a=>rw[e]at h2;cases h2;rfl
  obtain⟨u,hu,rv⟩:=r.get ha;have hp:ps[i]? = some y:=by rw[<-S.pre,List.getElem?_take_of_lt (by omega)];exact h1
  have ndP:ps.Nodup:=by rw[<-S.pre];exact S.nd.sublist (List.take_sublist _ _)
  refine⟨u,rv,?_⟩;rcases S.par y (TC hp)with k|k
  .exact .inl ⟨k,Dv ndP hp hu k⟩
  .obtain⟨c,e⟩:=Db (n:=s.heap.objs.size+1) k;refine .inr ⟨.inl k,c,e,?_⟩;have q:=x.cell y c e;rw[Dt ndP hp hu (by show scope.names.lookup y≠_;rw[k];decide)]at q;exact q
 .exact e0.hok.fresh (V6 (x.above y c (QW h)))
 .unfold start;show _=N.length;rw[PN,m_,Rz];omega
theorem zz{CX:gI}{P:B_}{w:PP}{K:W.Frag}{mg:Str->Option b_}{base:Heap}{k:Nat}{f:Addr}{name qual:Str}{params:Arguments}{body:List Stmt}{scope:R9}{dV kV doc pm cdv ct oc:b_}{an od:Option Addr}{osl:Array (Option b_)}{N ps:List Str}{sp:Sp}(lk:K.lookup f=some ⟨oc,od,.func (W.fnOf name qual params body scope dV kV doc pm an cdv ct),osl⟩)(hcd:W.codeIn K cdv qual=true)(S:FnScope N ps scope)(len:∀vs H Q E,sp vs H Q E->vs.length=ps.length)(hbody:∀(A:P8)(outer:List Env)(s:h_)(H:Hp)(vs:List V)(Q:VK)(E:XK),Room k (A.deeper (S0 qual scope s.heap.objs.size f cdv))->sp vs H Q E ->∃t,cY (aW CX P w K mg base N qual scope f cdv A outer s H E) body t/\t { nx:=fun _ H'=>Q .non H',rt:=Q } (start N vs) H):FnOk P w K mg base CX (k+1) f (W.fnOf name qual params body scope dV kV doc pm an cdv ct) ps sp:=by
 refine⟨len,fun A outer s H args us vs Q E hr e0 hb r hsp=>?_⟩;have hl:=len _ _ _ _ hsp;have KX:K.In s.heap:=e0.mod.kin.keeps fun b o e=>(e0.bs b o e).1;have lim:s.heap.NoLimit:=e0.mod.nolimit.keeps fun b o e=>(e0.bs b o e).1;have hkind:∀y∈ps.zip us,scope.names.lookup y.1=some .local\/(scope.names.lookup y.1=some .cell/\((XV (s.heap.objs.size+1) scope.names []).lookup y.1).isSome=true):=fun⟨n,v⟩ hy=>by
  rcases S.par n (U9 hy).1 with q|q
  .exact .inl q
  .exact .inr ⟨q,W.cellsFrom_some _ _ _ (.inl q)⟩
 refine codeAny_call_function hr.depth (KX _ _ lk) rfl S.co S.gen rfl (W.codeRec_of KX hcd) (hb _ _ _ _ ?_);refine wpAny_newFunctionEnv_cells S.kind hkind fun env he s1 x=>?_;subst he;refine⟨lim.keeps x.toInCall.keep,codeAny_func ?_⟩;obtain⟨t,ht,hq⟩:=hbody A outer s H vs Q E (hr.deeper _) hsp;have I:Inv (aW CX P w K mg base N qual scope f cdv A outer s H E) [] (start N vs) H s1:=Ng S hr.hd e0 hl r x;refine Rk (ht [] s1 (start N vs) H _ I hq) (fun fl s' hs=>?_) fun e s' hs=>hs;have fin:∀{σ':St}{H':Hp}{v:V}{u:b_},Inv (aW CX P w K mg base N qual scope f cdv A outer s H E) [] σ' H' s'->ar v u->Q v H'->CE outer P w H s Q u s':=fun{σ' H' v u} J rv q=>⟨v,H',J.os,J.bare,J.base,J.hok,rv,q⟩
 cases fl with
|ret u=>obtain⟨v,σ',H',J,rv,q⟩:=hs;exact fin J rv q
|next=>obtain⟨σ',H',J,q⟩:=hs;exact fin (v:=V.non) (u:=Value.none) J rfl q
|brk=>obtain⟨_,_,_,q⟩:=hs;exact Rx q
|cont=>obtain⟨_,_,_,q⟩:=hs;exact Rx q
section
variable{X:Cx}{x:Str}{p pos:Pos}{e:Expr}{es:List Expr}{t:TA}{id T:String}{r:List V->Hp->VK->Prop}
def oP(r:List V->Hp->VK->Prop)(t:TA):TE:=fun σ H Q=>t σ H fun vs H1=>r vs H1 Q
theorem my(hc:d5 X (.builtin id) r)(hg:Gl X x)(hm:X.mg x=none)(hv:Sf x=some (.builtin id))(ha:PA X (e::es) t)(hn:x≠"__name__" := by decide)(hdb:(x==("__debug__" : Str))=false:=by decide)(he:l_ (e::es) X.env=(false,eval e X.env)::l_ es X.env:=by rfl)(hpl:(backTo pos (l_ es X.env)).any (·.1)=false:=by rfl):PE X (.Call (.Name x p) (e::es) [] pos) (oP r t):=by intro pz s σ H Q I h;refine RZ (kg I hg hm hv ?_ hn hdb);exact Tp (aL (ha pos pz s σ H _ I h) fun us s1 ⟨vs,H1,I1,r1,q1⟩=>hc pz s1 σ H1 vs us Q I1 r1 q1) he hpl
theorem om(hc:d5 X (.type T) r)(hg:Gl X x)(hm:X.mg x=none)(hv:Sf x=some (.type T))(ha:PA X (e::es) t)(hn:x≠"__name__" := by decide)(hdb:(x==("__debug__" : Str))=false:=by decide)(he:l_ (e::es) X.env=(false,eval e X.env)::l_ es X.env:=by rfl)(hpl:(backTo pos (l_ es X.env)).any (·.1)=false:=by rfl):PE X (.Call (.Name x p) (e::es) [] pos) (oP r t):=by intro pz s σ H Q I h;refine RZ (kg I hg hm hv ?_ hn hdb);exact QK (aL (ha pos pz s σ H _ I h) fun us s1 ⟨vs,H1,I1,r1,q1⟩=>hc pz s1 σ H1 vs us Q I1 r1 q1) he hpl
end
end L2
namespace HT
open PySem PyProof.Rows
section
open PySem.SeqAt
open PySem.AutoSeq1 (wpAny_loadPart')
open PySem.MeetsSeq PySem.MeetsSeq2 PySem.MeetsSeq3
end
section
variable{prog:B_}{w:PP}{A:P8}{E:b_->h_->Prop}{s:h_}
theorem jW{t b:Addr}{vs ws:List b_}{Q:b_->h_->Prop}(ht:XU s.heap t vs.toArray)(hb:XU s.heap b ws.toArray)(hv:vs≠[])(h1:ws=[]->Q (.ref t) s)(h2:ws≠[]->Q (.ref s.heap.objs.size) { s with heap:=s.heap.push { cls:=.type "tuple",data:=.seq (vs++ws).toArray } })(hsz:vs.length+ws.length<=sizeLine):D_ (O_ prog w) A (Rq .Add (.ref t) (.ref b)) Q E s:=by
 obtain⟨⟨cls,dd,data,sl⟩,ho,hc,n,hd⟩:=id ht;obtain⟨⟨cls2,dd2,data2,sl2⟩,ho2,hc2,n2,hd2⟩:=id hb;simp only at hc hd hc2 hd2;subst hc hd hc2 hd2;have e:vs.toArray++ws.toArray=(vs++ws).toArray:=by simp
 by_cases hw:ws=[]
 .exact UU ⟨_,ho,rfl⟩ ⟨_,ho2,rfl⟩ UI VF S4 SH (Ss _ _)
   (tuple_addW1 t b vs.toArray ws.toArray n n2 dd dd2 sl sl2 (by simpa using hv) (by simp[hw])) ⟨ho,ho2,h1 hw⟩
 .refine UU ⟨_,ho,rfl⟩ ⟨_,ho2,rfl⟩ UI VF S4 SH (Ss _ _)
   (tuple_addW2 t b vs.toArray ws.toArray n n2 dd dd2 sl sl2 (by simpa using hv) (by simpa using hw) (by rw[s_,s_];exact hsz)) ⟨ho,ho2,?_⟩
  rw[e];exact h2 hw
def sIx(n d:Nat):Option Int->Nat
|none=>d
|some v=>if v<0 then(v+(n:Int)).toNat else min v.toNat n
theorem fg(n d:Nat):sIx n d none=d:=rfl
theorem gF(n d k:Nat):sIx n d (some (k:Int))=min k n:=by show(if (k:Int)<0 then((k:Int)+(n:Int)).toNat else min (k:Int).toNat n)=min k n;rw[if_neg (by omega),QP]
theorem Jj(n d:Nat)(hd:d<=n)(o:Option Int):sIx n d o<=n:=by cases o with
|none=>exact hd
|some v=>
  show(if v<0 then(v+(n:Int)).toNat else min v.toNat n)<=n;by_cases hv:v<0
  .rw[if_pos hv];omega
  .rw[if_neg hv];exact Nat.min_le_right _ _
theorem BU(v:Int)(n d:Nat):(if v<0 then max (v+(n:Int)) 0 else min v (n:Int))=((sIx n d (some v):Nat):Int):=by
 show(if v<0 then max (v+(n:Int)) 0 else min v (n:Int))=(((if v<0 then(v+(n:Int)).toNat else min v.toNat n):Nat):Int)
 by_cases hv:v<0
 .simp only[if_pos hv];omega
 .simp only[if_neg hv];omega
theorem Nv(lo hi:Option Int)(n:Nat):Sk lo hi 1 (n:Int)=(((sIx n 0 lo:Nat):Int),((sIx n n hi:Nat):Int)):=by
 have h1:¬ ((1:Int)<0):=by omega
 unfold Sk;simp only[h1,if_false];refine Wa ?_ ?_
 .cases lo with
 |none=>rfl
 |some v=>exact BU v n 0
 .cases hi with
 |none=>rfl
 |some v=>exact BU v n n
theorem NQ(i j:Nat):RD (i:Int) (j:Int) 1=j-i:=by
 unfold RD;have h1:(1:Int)>0:=by omega
 simp only[h1,if_true,Int.ediv_one];split <;> omega
theorem D9{v:b_}{o:Option Int}{Q:Option Int->h_->Prop}(p:Uv v o)(h:Q o s):D_ (O_ prog w) A (WE v) Q E s:=by cases p with
|none=>exact slicePart_none h
|int i t=>exact slicePart_int h
theorem OX{sl:Addr}{vl vu:b_}{lo hi:Option Int}{n:Nat}{Q:Int×Int×Nat->h_->Prop}(hs:s.heap.IsSliceOf sl vl vu .none)(pl:Uv vl lo)(pu:Uv vu hi)(h:Q (((sIx n 0 lo:Nat):Int),1,sIx n n hi-sIx n 0 lo) s):D_ (O_ prog w) A (Uf (.ref sl) (pure (n:Int))) Q E s:=by obtain⟨os,hos,hcs,hds⟩:=id hs;unfold Uf Xn;refine d_ (d_ (QG hos hds (x:=vl) rfl (d_ (QG hos hds (x:=vu) rfl (d_ (QG hos hds (x:=.none) rfl (t_ ?_)))))));refine d_ (slicePart_none ?_);show D_ _ _ (if ((1:Int)==0)=true then _ else _) _ _ s;rw[if_neg (by decide)];refine d_ (D9 pl (d_ (D9 pu (d_ (t_ ?_)))));show D_ _ _ (match Sk lo hi 1 (n:Int)with|(lo,hi)=>pure (lo,(1:Int),RD lo hi 1)) _ _ s;rw[Nv lo hi n];show D_ _ _ (pure (((sIx n 0 lo:Nat):Int),(1:Int),RD ((sIx n 0 lo:Nat):Int) ((sIx n n hi:Nat):Int) 1)) _ _ s;rw[NQ];exact t_ h
theorem Mp(xs:Array b_)(i k:Nat):((a_ k).filterMap fun(m:Nat)=>xs[((i:Int)+(m:Int)*1).toNat]?).toArray=((xs.toList.drop i).take k).toArray:=by
 have e:(fun(m:Nat)=>xs[((i:Int)+(m:Int)*1).toNat]?)=fun m=>xs[i+m]?:=by
  funext m;have:((i:Int)+(m:Int)*1).toNat=i+m:=by omega
  rw[this]
 rw[e];have:=pick_run xs i k;rw[VO]at this;have e2:((fun x=>xs[x]?)∘fun x=>i+x)=fun m=>xs[i+m]?:=rfl;rw[e2]at this;rw[this]
theorem cJ{t sl:Addr}{items:Array b_}{vl vu:b_}{lo hi:Option Int}{Q:b_->h_->Prop}(ht:XU s.heap t items)(hs:s.heap.IsSliceOf sl vl vu .none)(pl:Uv vl lo)(pu:Uv vu hi)(hw:¬ (sIx items.size 0 lo=0/\sIx items.size items.size hi=items.size))(h:Q (.ref s.heap.objs.size) { s with heap:=s.heap.push { cls:=.type "tuple",data:=.seq ((items.toList.drop (sIx items.size 0 lo)).take (sIx items.size items.size hi-sIx items.size 0 lo)).toArray } })(hsz:items.size<=sizeLine):D_ (O_ prog w) A (VB (.ref t) (.ref sl)) Q E s:=by
 have htake:sizeOk (.seq ((items.toList.drop (sIx items.size 0 lo)).take (sIx items.size items.size hi-sIx items.size 0 lo)).toArray):=by show((items.toList.drop (sIx items.size 0 lo)).take (sIx items.size items.size hi-sIx items.size 0 lo)).toArray.size<=sizeLine;rw[s_,Q2,Tq,Qu];omega
 have hj:sIx items.size items.size hi<=items.size:=Jj _ _ (u_ _) hi;obtain⟨os,hos,hcs,hds⟩:=id hs;have hTs:s.TypeIs (.ref sl) "slice" := ⟨os,hos,hcs⟩
 unfold VB
 try with_reducible refine Q6 ?_
 first|refine d_ (t_ ?_)|skip
 refine d_ (wpAny_sequenceKey ht.typeIs (by decide) ?_);refine d_ (Re (name:=T8 "__getitem__") ht.typeIs Rp
  (Sh Rp ht.typeIs entry_tuple_getitem ?_ (args_tuple_getitem _ _)))
 show D_ _ _ (WZ (.ref t) >>= _) _ _ s;refine d_ (tupleItemsOf_ ht ?_);refine d_ (wpAny_typeOf hTs ?_);rw[if_pos (by decide)];refine d_ (OX hs pl pu ?_);have hno:¬ ((((sIx items.size 0 lo:Nat):Int)==0&&(1:Int)==1&&(sIx items.size items.size hi-sIx items.size 0 lo)==items.size)=true):=by intro q;rw[PR,PR]at q;have q1:((sIx items.size 0 lo:Nat):Int)=0:=RF q.1.1;have q2:sIx items.size items.size hi-sIx items.size 0 lo=items.size:=RF q.2;exact hw ⟨by omega,by omega⟩
 show D_ _ _ (if (((sIx items.size 0 lo:Nat):Int)==0&&(1:Int)==1&&(sIx items.size items.size hi-sIx items.size 0 lo)==items.size)=true then _ else _) _ _ s;rw[if_neg hno,Mp]
 first
  |exact d_ (m:=RN _) (Rf (t_ ⟨_,rfl,t_ h⟩) htake)
  |exact d_ (m:=RN _) (Rf (d_ (t_ (t_ ⟨_,rfl,t_ h⟩))) htake)
  |exact d_ (d_ (m:=RN _) (Rf (t_ (t_ ⟨_,rfl,t_ h⟩)) htake))
  |exact d_ (d_ (m:=RN _) (Rf (t_ ⟨_,rfl,t_ h⟩) htake))
end
end HT
namespace L2
open PySem PySem.Spec PyProof.Rows
abbrev TO:=St->Hp->(Option Int->Hp->Prop)->Prop
def PO(X:Cx)(e:Option Expr)(t:TO):Prop:=∀(pz:List (Addr×Obj))(s:h_)(σ:St)(H:Hp)(Q:Option Int->Hp->Prop),Inv X pz σ H s->t σ H Q ->D_ (O_ X.prog X.w) X.A (evalPart e X.env) (fun u s'=>∃o H',Inv X pz σ H' s'/\Uv u o/\Q o H') X.xe s
def KO:TO:=fun _ H Q=>Q none H
def Hu(t:TE):TO:=fun σ H Q=>t σ H fun x H1=>∃i,x=.int i/\Q (some i) H1
theorem xo{ns:List Int}:∀{us:List b_},al (ns.map V.int) us->T9 us ns:=by induction ns with
|nil=>intro us r;rw[UV]at r;cases r;exact .nil
|cons n ns ih=>intro us r;rw[p_]at r;cases r with
 |cons r1 r2=>obtain⟨t,e⟩:=r1;subst e;exact .cons n t (ih r2)
section
variable{X:Cx}{e:Expr}{te:TE}{lo hi:Option Expr}{tl th:TO}{pos p2:Pos}
theorem J2:PO X none KO:=by intro pz s σ H Q I h;rw[evalPart_none];exact t_ ⟨none,H,I,.none,h⟩
theorem KR(h:PE X e te):PO X (some e) (Hu te):=by intro pz s σ H Q I hw;rw[evalPart_some];refine aL (h pz s σ H _ I hw) fun u s1 ⟨x,H1,I1,r1,q1⟩=>?_;obtain⟨i,rfl,q⟩:=q1;obtain⟨t,rfl⟩:=r1;exact⟨some i,H1,I1,.int i t,q⟩
def kE(X:Cx)(r:V->Option Int->Option Int->Hp->VK->Prop):Prop:=∀(pz:List (Addr×Obj))(s:h_)(σ:St)(H:Hp)(x:V)(v vl vu:b_)(lo hi:Option Int)(sl:Addr)(Q:VK),Inv X pz σ H s->ar x v->s.heap.IsSliceOf sl vl vu .none->Uv vl lo->Uv vu hi->r x lo hi H Q ->∃T id,typeLookup (.type T) "__getitem__" = pure (some (.builtin id))/\s.TypeIs v T/\D_ (O_ X.prog X.w) X.A (VB v (.ref sl)) (EP X pz σ Q) X.xe s
theorem kE.or{r r':V->Option Int->Option Int->Hp->VK->Prop}(h:kE X r)(h':kE X r'):kE X (fun x lo hi H Q=>r x lo hi H Q\/r' x lo hi H Q):=by
 intro pz s σ H x v vl vu lo hi sl Q I rx hs pl pu q;rcases q with q|q
 .exact h pz s σ H x v vl vu lo hi sl Q I rx hs pl pu q
 .exact h' pz s σ H x v vl vu lo hi sl Q I rx hs pl pu q
def Pc(r:V->Option Int->Option Int->Hp->VK->Prop)(te:TE)(tl th:TO):TE:=fun σ H Q=>te σ H fun x H1=>tl σ H1 fun l H2=>th σ H2 fun u H3=>r x l u H3 Q
theorem Mm{r:V->Option Int->Option Int->Hp->VK->Prop}(hr:kE X r)(he:PE X e te)(hl:PO X lo tl)(hu:PO X hi th):PE X (.Subscript e (.Slice lo hi none p2) pos) (Pc r te tl th):=by intro pz s σ H Q I h;refine W0 (aL (he pz s σ H _ I h) fun v s1 ⟨x,H1,I1,r1,q1⟩=>?_);refine wpAny_Slice (aL (hl pz s1 σ H1 _ I1 q1) fun vl s2 ⟨l,H2,I2,pl,q2⟩=>aL (hu pz s2 σ H2 _ I2 q2) fun vu s3 ⟨u,H3,I3,pu,q3⟩=>?_);rw[evalPart_none];refine t_ ?_;have I4:Inv X pz σ H3 { s3 with heap:=s3.heap.push { cls:=.type "slice",data:=.fields #[vl,vu,.none] } }:=I3.kept (t':=s3.toks) fun b ob q=>e_ _ q;obtain⟨T,id,hT,ht,hg⟩:=hr pz { s3 with heap:=s3.heap.push { cls:=.type "slice",data:=.fields #[vl,vu,.none] } } σ H3 x v vl vu l u s3.heap.objs.size Q I4 r1 (VP ..) pl pu q3;show D_ (O_ X.prog X.w) X.A (VG e (.Slice lo hi none p2) v (.ref s3.heap.objs.size)) (EP X pz σ Q) X.xe { s3 with heap:=s3.heap.push { cls:=.type "slice",data:=.fields #[vl,vu,.none] } };exact Wb (ops:=[.ref s3.heap.objs.size,v]) ht hT hg (by with_unfolding_all rfl)
def gX(xs:List V)(lo hi:Option Int):List V:=(xs.drop (HT.sIx xs.length 0 lo)).take (HT.sIx xs.length xs.length hi-HT.sIx xs.length 0 lo)
theorem DT(xs:List V)(lo hi:Option Int):(gX xs lo hi).length<=xs.length:=by unfold gX;rw[Q2,Tq];omega
def yP(K:W.Frag):V->Option Int->Option Int->Hp->VK->Prop:=fun x lo hi H Q=>∃a xs,x=.ref a/\bO K H a xs /\¬ (HT.sIx xs.length 0 lo=0/\HT.sIx xs.length xs.length hi=xs.length)/\∀p,H p=none->Q (.ref p) (upd H p (.tup (gX xs lo hi)))
theorem Ju:kE X (yP X.K):=by
 intro pz s σ H x v vl vu lo hi sl Q I rx hs pl pu h;obtain⟨a,xs,rfl,hx,hw,q⟩:=h;cases rx;obtain⟨its,r,ht,hz⟩:=I.tuple hx;have hlen:its.toArray.size=xs.length:=by rw[s_];exact r.length.symm
 refine⟨"tuple",_,Rp.lookup,ht.typeIs,?_⟩;refine HT.cJ ht hs pl pu (by rw[hlen];exact hw) ?_ (by rw[hlen];exact hz);rw[hlen];refine⟨.ref s.heap.objs.size,_,I.laid (t':=s.toks) (o:=.tup (gX xs lo hi)) (fun b ob q=>e_ _ q) (u_ _) ?_,rfl,q _ (I.hok.fresh (u_ _))⟩;exact⟨PQ (DT xs lo hi) hz,_,(r.drop (HT.sIx xs.length 0 lo)).take (HT.sIx xs.length xs.length hi-HT.sIx xs.length 0 lo),XY _ _,_,w_ _ rfl,rfl⟩
def sN(K:W.Frag):R2:=fun x y H Q=>∃a b xs ys,x=.ref a/\y=.ref b/\bO K H a xs/\bO K H b ys/\xs≠[]/\xs.length+ys.length<=sizeLine /\(ys=[]->Q (.ref a) H)/\(ys≠[]->∀p,H p=none->Q (.ref p) (upd H p (.tup (xs++ys))))
theorem al.nil_iff{xs:List V}{us:List b_}(r:al xs us):us=[]↔xs=[]:=by cases r with
|nil=>simp
|cons _ _=>simp
theorem BZ:aT X (Rq .Add) (sN X.K):=by intro pz s σ H x y v u Q I rx ry h;obtain⟨a,b,xs,ys,rfl,rfl,ha,hb,hx,hz,q1,q2⟩:=h;cases rx;cases ry;obtain⟨its,r1,p1,_⟩:=I.tuple ha;obtain⟨its2,r2,p2,_⟩:=I.tuple hb;refine HT.jW p1 p2 (fun z=>hx (r1.nil_iff.mp z)) (fun z=>⟨.ref a,H,I,rfl,q1 (r2.nil_iff.mp z)⟩) (fun z=>?_) (by rw[<-r1.length,<-r2.length];exact hz);refine⟨.ref s.heap.objs.size,_,I.laid (t':=s.toks) (o:=.tup (xs++ys)) (fun b ob q=>e_ _ q) (u_ _) ?_,rfl,q2 (fun w=>z (r2.nil_iff.mpr w)) _ (I.hok.fresh (u_ _))⟩;exact⟨by rw[PN];exact hz,_,r1.append r2,XY _ _,_,w_ _ rfl,rfl⟩
end
def gT(n:Nat)(i:Int):Option Nat:=if 0<=i then(if i<n then some i.toNat else none)else if-(n:Int)<=i then some (i+n).toNat else none
def fP{α:Type}(xs:List α)(i:Int):Option α:=(gT xs.length i).bind fun j=>xs[j]?
theorem Cb{n:Nat}{i:Int}{j:Nat}(h:gT n i=some j):seqIndex? i n=some j/\j<n/\-(n:Int)<=i/\i<n:=by
 unfold gT at h;by_cases h0:0<=i
 .rw[if_pos h0]at h;by_cases h1:i<n
  .rw[if_pos h1]at h;have e:i.toNat=j:=PJ h;exact⟨by rw[Wz h0 h1,e],by omega,by omega,h1⟩
  .rw[if_neg h1]at h;cases h
 .rw[if_neg h0]at h;by_cases h1 : -(n:Int)<=i
  .rw[if_pos h1]at h;have e:(i+n).toNat=j:=PJ h;exact⟨by rw[seqIndex_neg (by omega) h1,e],by omega,h1,by omega⟩
  .rw[if_neg h1]at h;cases h
theorem uI{α:Type}{xs:List α}{i:Int}{v:α}(h:fP xs i=some v):∃j,seqIndex? i xs.length=some j/\xs[j]? = some v/\j<xs.length/\-(xs.length:Int)<=i/\i<xs.length:=by unfold fP at h;cases e:gT xs.length i with
|none=>rw[e]at h;cases h
|some j=>rw[e]at h;obtain⟨h1,h2,h3,h4⟩:=Cb e;exact⟨j,h1,h,h2,h3,h4⟩
def uH(b:Expr):Prop:=∀o i,subscripted b false o i=operate [o,i] (VB o i)
def iS(X:Cx)(r:R2):Prop:=∀(value slice:Expr)(pz:List (Addr×Obj))(s:h_)(σ:St)(H:Hp)(x y:V)(v u:b_)(Q:VK),Inv X pz σ H s->ar x v->ar y u->r x y H Q ->subscripted slice false v u=operate [v,u] (VB v u)->D_ (O_ X.prog X.w) X.A (VG value slice v u) (EP X pz σ Q) X.xe s
def jh(X:Cx)(id:String)(r:V->List V->Hp->VK->Prop):Prop:=∀(pz:List (Addr×Obj))(s:h_)(σ:St)(H:Hp)(x:V)(xs:List V)(v:b_)(us:List b_)(Q:VK),Inv X pz σ H s->ar x v->al xs us->r x xs H Q ->D_ (O_ X.prog X.w) X.A (call (.builtin id) (v::us)) (EP X pz σ Q) X.xe s
section
variable{X:Cx}{a b:Expr}{ta tb:TE}{pos:Pos}
theorem iS.or{r r':R2}(h:iS X r)(h':iS X r'):iS X (fun x y H Q=>r x y H Q\/r' x y H Q):=by
 intro value slice pz s σ H x y v u Q I rx ry q hs;rcases q with q|q
 .exact h value slice pz s σ H x y v u Q I rx ry q hs
 .exact h' value slice pz s σ H x y v u Q I rx ry q hs
theorem jh.or{id:String}{r r':V->List V->Hp->VK->Prop}(h:jh X id r)(h':jh X id r'):jh X id (fun x xs H Q=>r x xs H Q\/r' x xs H Q):=by
 intro pz s σ H x xs v us Q I rx rs q;rcases q with q|q
 .exact h pz s σ H x xs v us Q I rx rs q
 .exact h' pz s σ H x xs v us Q I rx rs q
theorem FH{r:R2}(hr:iS X r)(ha:PE X a ta)(hb:PE X b tb)(hs:uH b):PE X (.Subscript a b pos) (mN r ta tb):=by intro pz s σ H Q I h;exact W0 (lL ha hb I h fun v u s2 x y H2 I2 rx ry q=>hr a b pz s2 σ H2 x y v u Q I2 rx ry q (hs _ _))
def oX(K:W.Frag):R2:=fun x y H Q=>∃p xs i v,x=.ref p/\y=.int i/\aV K H p xs/\fP xs i=some v/\Q v H
def oV(K:W.Frag):R2:=fun x y H Q=>∃p xs i v,x=.ref p/\y=.int i/\bO K H p xs/\fP xs i=some v/\Q v H
def oW:R2:=fun x y H Q=>∃z i c,x=.str z/\y=.int i/\z.length<=sizeLine/\fP z.cps.toList i=some c/\Q (.str ⟨#[c]⟩) H
theorem Kc:iS X (oX X.K):=by
 intro value slice pz s σ H x y v u Q I rx ry h hs;obtain⟨p,xs,i,z,rfl,rfl,hq,he,q⟩:=h;cases rx;obtain⟨t,rfl⟩:=ry;obtain⟨its,r,pl,hz⟩:=I.list hq;obtain⟨j,h1,h2,h3,h4,h5⟩:=uI he;obtain⟨w,ew,rw'⟩:=r.get h2;have hl:=r.length;have hn:=ma;have fin:EP X pz σ Q w s:=⟨z,H,I,rw',q⟩
 by_cases h0:0<=i
 .have hj:i.toNat=j:=by rw[Wz h0 h5]at h1;exact PJ h1
  exact item_listR pl.isList h0 (by omega) (by rw[hj];simpa using ew) fin hs
 .have hj:(i+(its.toArray.size:Int)).toNat=j:=by rw[seqIndex_neg (by omega) h4]at h1;rw[s_,<-hl];exact PJ h1
  exact UW (x:=w) pl.isList.typeIs Up.lookup
   (wpAny_getItem_list_neg (Q:=fun r s'=>r=w/\EP X pz σ Q r s') pl.isList (by omega) (by rw[s_] <;> omega) (by omega) (by rw[hj];simpa using ew) ⟨rfl,fin⟩) hs
theorem Hd:iS X (oV X.K):=by
 intro value slice pz s σ H x y v u Q I rx ry h hs;obtain⟨p,xs,i,z,rfl,rfl,hq,he,q⟩:=h;cases rx;obtain⟨t,rfl⟩:=ry;obtain⟨its,r,pl,hz⟩:=I.tuple hq;obtain⟨j,h1,h2,h3,h4,h5⟩:=uI he;obtain⟨w,ew,rw'⟩:=r.get h2;have hl:=r.length;have hn:=ma;have fin:EP X pz σ Q w s:=⟨z,H,I,rw',q⟩
 exact UW (x:=w) pl.typeIs Rp.lookup
  (getItem_tuple (j:=j) (Q:=fun r s'=>r=w/\EP X pz σ Q r s') pl (by omega) (by omega) (by rw[s_,<-hl];exact h1) (by simpa using ew) ⟨rfl,fin⟩) hs
theorem Hc:iS X oW:=by
 intro value slice pz s σ H x y v u Q I rx ry h hs;obtain⟨z,i,c,rfl,rfl,hz,he,q⟩:=h;obtain⟨t,rfl⟩:=rx;obtain⟨t',rfl⟩:=ry;obtain⟨j,h1,h2,h3,h4,h5⟩:=uI he;have hl:z.cps.toList.length=z.length:=by simp[Str.length]
 rw[hl]at h1 h4 h5;have hn:=ma;exact Wb (typeIs_str s z t) slot_str_getitem.lookup (getItem_str (c:=c) (by have e1:decide (i < -(2^63:Int))=false:=decide_eq_false (by omega);have e2:decide (i>=2^63)=false:=decide_eq_false (by omega);rw[e1,e2,Bool.or_false]) (by rw[h1];simpa using h2) ⟨.str ⟨#[c]⟩,H,I.tok _,⟨_,rfl⟩,q⟩) hs
def yT(K:W.Frag):R2:=fun x y H Q=>oX K x y H Q\/oV K x y H Q\/oW x y H Q
theorem Hb:iS X (yT X.K):=Kc.or (Hd.or Hc)
theorem NN(its:List b_)(n j:Nat)(u:b_):UX (·.setIfInBounds j u) { cls:=.type "list",data:=.seq its.toArray n }={ cls:=.type "list",data:=.seq (its.set j u).toArray n }:=by simp[UX]
theorem Inv.lst{pz:List (Addr×Obj)}{σ:St}{H:Hp}{s:h_}{p:Addr}{xs:List V}(I:Inv X pz σ H s)(h:H p=some (.lst xs)):∃(its:List b_)(n:Nat),al xs its/\s.heap.get? p=some { cls:=.type "list",data:=.seq its.toArray n }/\xs.length<=sizeLine:=by obtain⟨z,its,n,r,e⟩:=I.hok p _ h;exact⟨its,n,r,e,z⟩
theorem Inv.lstUpd{pz:List (Addr×Obj)}{σ:St}{H:Hp}{s:h_}{p:Addr}{xs ys:List V}{its its':List b_}{n n':Nat}{f:Obj->Obj}(I:Inv X pz σ H s)(h:H p=some (.lst xs))(ho:s.heap.get? p=some { cls:=.type "list",data:=.seq its.toArray n })(hf:f { cls:=.type "list",data:=.seq its.toArray n }={ cls:=.type "list",data:=.seq its'.toArray n' })(r:al ys its')(hz:ys.length<=sizeLine)(t:Nat):Inv X pz σ (upd H p (.lst ys)) { s with heap:=s.heap.update p f,toks:=t }:=by
 have e:(s.heap.update p f).get? p=some { cls:=.type "list",data:=.seq its'.toArray n' }:=by rw[Tg f ho (by rw[hf] <;> rfl),hf]
 refine I.write (x:=p) (e:=p) (by rw[h];trivial) (.inl rfl) (fun b u hb q=>(UY _ _ (Rs hb)).trans q) ⟨_,e⟩ ?_;exact⟨hz,its',n',r,e⟩
def Aq:V->V->V->Hp->(Hp->Prop)->Prop:=fun o i v H Q=>∃p xs k j,o=.ref p/\i=.int k/\H p=some (.lst xs)/\gT xs.length k=some j/\Q (upd H p (.lst (xs.set j v)))
theorem C7:eI X Aq:=by
 intro pz s σ H o i v ov iv u Q I ro ri rv h;obtain⟨p,xs,k,j,rfl,rfl,hp,hj,q⟩:=h;cases ro;obtain⟨t,rfl⟩:=ri;obtain⟨its,n,r,ho,hz⟩:=I.lst hp;obtain⟨h1,h2,h3,h4⟩:=Cb hj;have hl:=r.length;have hn:=ma;have I':Inv X pz σ (upd H p (.lst (xs.set j v))) { s with heap:=s.heap.update p (UX (·.setIfInBounds j u)) }:=I.lstUpd hp ho (NN its n j u) (r.set rv j) (by rw[Sw];exact hz) s.toks;by_cases h0:0<=k
 .have hk:k.toNat=j:=by rw[Wz h0 h4]at h1;exact PJ h1
  exact W.ki_setAt ho h0 (by omega) (by rw[s_,<-hl];exact h4) (by rw[hk];exact⟨_,I',q⟩)
 .have hk:(k+(its.toArray.size:Int)).toNat=j:=by rw[seqIndex_neg (by omega) h3]at h1;rw[s_,<-hl];exact PJ h1
  exact W.ki_setBack ho (by omega) (by rw[s_,<-hl];exact h3) (by omega) (by rw[hk];exact⟨_,I',q⟩)
theorem OL(lo hi:Option Int)(n:Nat):(sliceBounds lo hi none n).1=((HT.sIx n 0 lo:Nat):Int)/\(sliceBounds lo hi none n).2.1=((HT.sIx n n hi:Nat):Int)/\(sliceBounds lo hi none n).2.2=1:=by
 refine⟨?_,?_,rfl⟩
 .cases lo with
 |none=>simp[sliceBounds,HT.sIx]
 |some i=>
   simp only[sliceBounds,HT.sIx,Wl,show(1:Int)>0 by decide,if_true];by_cases h:i<0
   .simp only[h,if_true] <;> omega
   .simp only[h,if_false] <;> omega
 .cases hi with
 |none=>simp[sliceBounds,HT.sIx]
 |some i=>
   simp only[sliceBounds,HT.sIx,Wl,show(1:Int)>0 by decide,if_true];by_cases h:i<0
   .simp only[h,if_true] <;> omega
   .simp only[h,if_false] <;> omega
theorem OH(its:List b_)(lo hi:Option Int):Wm its.toArray lo hi none=((its.drop (HT.sIx its.length 0 lo)).take (HT.sIx its.length its.length hi-HT.sIx its.length 0 lo)).toArray:=by obtain⟨h1,h2,h3⟩:=OL lo hi its.toArray.size;unfold Wm;rw[h1,h2,h3];simp only[sliceRange_one,pick_run,s_] <;> rfl
def yR(K:W.Frag):V->Option Int->Option Int->Hp->VK->Prop:=fun x lo hi H Q=>∃a xs,x=.ref a/\aV K H a xs/\∀p,H p=none->Q (.ref p) (upd H p (.lst (gX xs lo hi)))
theorem KL:kE X (yR X.K):=by intro pz s σ H x v vl vu lo hi sl Q I rx hs pl pu h;obtain⟨a,xs,rfl,hx,q⟩:=h;cases rx;obtain⟨its,r,ht,hz⟩:=I.list hx;have hlen:=r.length;refine⟨"list",_,Up.lookup,ht.isList.typeIs,?_⟩;refine Uw ht.isList hs pl pu .none (by simp) ?_ (by rw[s_] <;> omega);rw[OH,<-hlen];refine⟨.ref s.heap.objs.size,_,I.laid (t':=s.toks) (o:=.lst (gX xs lo hi)) (fun b ob q=>e_ _ q) (u_ _) ?_,rfl,q _ (I.hok.fresh (u_ _))⟩;exact⟨PQ (DT xs lo hi) hz,_,0,(r.drop (HT.sIx xs.length 0 lo)).take (HT.sIx xs.length xs.length hi-HT.sIx xs.length 0 lo),w_ _ rfl⟩
def fT:V->Bool
|.non=>true
|.bl _=>true
|.int _=>true
|.str _=>true
|_=>false
def fw:V->V->Bool
|.non,.non=>true
|.bl a,.bl b=>a==b
|.bl a,.int b=>(if a then 1 else 0)==b
|.int a,.bl b=>a==(if b then 1 else 0)
|.int a,.int b=>a==b
|.str a,.str b=>a==b
|_,_=>false
theorem Hq{A:P8}{s:h_}{y x:V}{u v:b_}(ry:ar y u)(rx:ar x v)(fy:fT y=true)(fx:fT x=true):Yl A s u v (fw y x):=by cases y with
|non=>cases ry;cases x with
 |non=>cases rx;exact SeqAt.EqAt.same _
 |bl b=>cases rx;exact SeqAt.EqAt.none_bool b
 |int b=>obtain⟨t,rfl⟩:=rx;exact SeqAt.EqAt.none_int b t
 |str b=>obtain⟨t,rfl⟩:=rx;exact SeqAt.EqAt.none_str b t
 |_=>exact absurd (show false=true from fx) j_
|bl a=>cases ry;cases x with
 |non=>cases rx;exact SeqAt.EqAt.bool_none a
 |bl b=>cases rx;exact SeqAt.EqAt.bool_bool a b
 |int b=>obtain⟨t,rfl⟩:=rx;exact SeqAt.EqAt.bool_int a b t
 |str b=>obtain⟨t,rfl⟩:=rx;exact SeqAt.EqAt.bool_str a b t
 |_=>exact absurd (show false=true from fx) j_
|int a=>obtain⟨t',rfl⟩:=ry;cases x with
 |non=>cases rx;exact SeqAt.EqAt.int_none a t'
 |bl b=>cases rx;exact SeqAt.EqAt.int_bool a t' b
 |int b=>obtain⟨t,rfl⟩:=rx;exact SeqAt.EqAt.int_int a t' b t
 |str b=>obtain⟨t,rfl⟩:=rx;exact VJ a t' b t
 |_=>exact absurd (show false=true from fx) j_
|str a=>obtain⟨t',rfl⟩:=ry;cases x with
 |non=>cases rx;exact SeqAt.EqAt.str_none a t'
 |bl b=>cases rx;exact SeqAt.EqAt.str_bool a t' b
 |int b=>obtain⟨t,rfl⟩:=rx;exact VL a t' b t
 |str b=>obtain⟨t,rfl⟩:=rx;exact SeqAt.EqAt.str_str a t' b t
 |_=>exact absurd (show false=true from fx) j_
|_=>exact absurd (show false=true from fy) j_
def c8(x:V)(u:b_):Bool:=match u with
|.none=>fw .non x
|.bool b=>fw (.bl b) x
|.int i _=>fw (.int i) x
|.str z _=>fw (.str z) x
|_=>false
theorem nI{x y:V}{u:b_}(r:ar y u)(f:fT y=true):c8 x u=fw y x:=by cases y with
|non=>cases r;rfl
|bl b=>cases r;rfl
|int i=>obtain⟨t,rfl⟩:=r;rfl
|str z=>obtain⟨t,rfl⟩:=r;rfl
|_=>exact absurd (show false=true from f) j_
theorem nM{x:V}:∀{xs:List V}{us:List b_},al xs us->xs.all fT=true->us.any (c8 x)=xs.any fun y=>fw y x
|_,_,.nil,_=>rfl
|y::xs,u::us,.cons r t,f=>by rw[Ru,PR]at f;rw[R5,R5,nI r f.1,nM t f.2]
theorem mr{A:P8}{s:h_}{x:V}{v:b_}(rx:ar x v)(fx:fT x=true):∀{xs:List V}{us:List b_},al xs us->xs.all fT=true->∀u∈us,Yl A s u v (c8 x u)
|_,_,.nil,_=>fun u hu=>by cases hu
|y::xs,u::us,.cons r t,f=>fun u' hu=>by
  rw[Ru,PR]at f;rcases q_.mp hu with rfl|hu
  .rw[nI r f.1];exact Hq r rx f.1 fx
  .exact mr rx fx t f.2 u' hu
def r6(x:V)(xs:List V):Bool:=xs.any fun y=>fw y x
def yU(K:W.Frag)(neg:Bool):R2:=fun x y H Q=>∃p xs,y=.ref p/\(aV K H p xs\/bO K H p xs)/\fT x=true/\xs.all fT=true/\Q (.bl (if neg then ! r6 x xs else r6 x xs)) H
theorem MT:aT X (Qb .In) (yU X.K false):=by
 intro pz s σ H x y v u Q I rx ry h;obtain⟨p,xs,rfl,hq,fx,fs,q⟩:=h;cases ry;rcases hq with hq|hq
 .obtain⟨its,r,pl,hz⟩:=I.list hq;refine SeqAt.in_listAt (c8 x) pl.isList (fun w hw=>mr rx fx r fs w (by simpa using hw)) ⟨.bl _,H,I,rfl,?_⟩;rw[show its.toArray.any (c8 x)=its.any (c8 x)by simp,nM r fs];exact q
 .obtain⟨its,r,pl,hz⟩:=I.tuple hq;refine SeqAt.in_tupleAt (c8 x) pl (fun w hw=>mr rx fx r fs w (by simpa using hw)) ⟨.bl _,H,I,rfl,?_⟩;rw[show its.toArray.any (c8 x)=its.any (c8 x)by simp,nM r fs];exact q
theorem Op:aT X (Qb .NotIn) (yU X.K true):=by
 intro pz s σ H x y v u Q I rx ry h;obtain⟨p,xs,rfl,hq,fx,fs,q⟩:=h;cases ry;rcases hq with hq|hq
 .obtain⟨its,r,pl,hz⟩:=I.list hq;refine SeqAt.notIn_listAt (c8 x) pl.isList (fun w hw=>mr rx fx r fs w (by simpa using hw)) ⟨.bl _,H,I,rfl,?_⟩;rw[show its.toArray.any (c8 x)=its.any (c8 x)by simp,nM r fs];exact q
 .obtain⟨its,r,pl,hz⟩:=I.tuple hq;refine SeqAt.notIn_tupleAt (c8 x) pl (fun w hw=>mr rx fx r fs w (by simpa using hw)) ⟨.bl _,H,I,rfl,?_⟩;rw[show its.toArray.any (c8 x)=its.any (c8 x)by simp,nM r fs];exact q
theorem Oq:aT X (Qb .NotIn) (fun x y H Q=>∃i j,x=.str i/\y=.str j/\Q (.bl (!(!(Rc j i 0 j.length 1).isEmpty))) H):=by intro pz s σ H x y v u Q I rx ry h;obtain⟨i,j,rfl,rfl,q⟩:=h;obtain⟨t,rfl⟩:=rx;obtain⟨t',rfl⟩:=ry;exact notIn_str ⟨.bl _,H,I,rfl,q⟩
theorem d5.or{f:b_}{r r':List V->Hp->VK->Prop}(h:d5 X f r)(h':d5 X f r'):d5 X f (fun xs H Q=>r xs H Q\/r' xs H Q):=by
 intro pz s σ H xs us Q I rs q;rcases q with q|q
 .exact h pz s σ H xs us Q I rs q
 .exact h' pz s σ H xs us Q I rs q
theorem Oy:d5 X (.type "list") (fun xs H Q=>∃p ys,xs=[.ref p]/\(aV X.K H p ys\/bO X.K H p ys)/\∀l,H l=none->Q (.ref l) (upd H l (.lst ys))):=by
 intro pz s σ H xs us Q I r h;obtain⟨p,ys,rfl,hq,q⟩:=h;obtain⟨u,rfl,rx⟩:=bI r;cases rx;have fin:∀(its:List b_),al ys its->ys.length<=sizeLine->∀(h':Heap)(c':Nat),(∀b o',s.heap.get? b=some o'->h'.get? b=some o') ->h'.get? s.heap.objs.size=some { cls:=.type "list",dict:=none,data:=.seq its.toArray c',slots:=#[] }->EP X pz σ Q (.ref s.heap.objs.size) { s with heap:=h' }:=fun its r' hz h' c' kp e=>⟨.ref s.heap.objs.size,_,I.laid (t':=s.toks) kp (u_ _) (show bZ X.prog X.w _ h' _ (.lst ys)from⟨hz,its,c',r',e⟩),rfl,q _ (I.hok.fresh (u_ _))⟩
 rcases hq with hq|hq
 .obtain⟨its,r',pl,hz⟩:=I.list hq;have hlen:=r'.length;obtain⟨o,ho,hc,n,hd⟩:=pl.isList;exact call_list_seq p (.inl rfl) ho hc hd (fun h' c' kp e=>fin its r' hz h' c' kp e) (by simp only[s_] <;> omega)
 .obtain⟨its,r',pl,hz⟩:=I.tuple hq;have hlen:=r'.length;obtain⟨o,ho,hc,n,hd⟩:=pl;exact call_list_seq p (.inr rfl) ho hc hd (fun h' c' kp e=>fin its r' hz h' c' kp e) (by simp only[s_] <;> omega)
theorem OJ:d5 X (.type "tuple") (fun xs H Q=>∃p ys,xs=[.ref p]/\((aV X.K H p ys/\∀l,H l=none->Q (.ref l) (upd H l (.tup ys)))\/(bO X.K H p ys/\Q (.ref p) H))):=by
 intro pz s σ H xs us Q I r h;obtain⟨p,ys,rfl,h⟩:=h;obtain⟨u,rfl,rx⟩:=bI r;cases rx;rcases h with⟨hq,q⟩|⟨hq,q⟩
 .obtain⟨its,r',pl,hz⟩:=I.list hq;have hlen:=r'.length;refine call_tuple_list pl.isList (fun h' kp=>?_) (by simp only[s_] <;> omega);have I1:Inv X pz σ H { s with heap:=h' }:=I.kept (t':=s.toks) kp;have I2:Inv X pz σ (upd H h'.objs.size (.tup ys)) { s with heap:=h'.push { cls:=.type "tuple",data:=.seq its.toArray } }:=I1.laid (t':=s.toks) (fun b o e=>e_ _ e) (u_ _) (show bZ X.prog X.w _ _ _ (.tup ys)from⟨hz,its,r',XY _ _,_,w_ _ rfl,rfl⟩);exact⟨.ref h'.objs.size,_,I2,rfl,q _ (I1.hok.fresh (u_ _))⟩
 .obtain⟨its,r',pl,hz⟩:=I.tuple hq;exact call_tuple_same pl ⟨.ref p,H,I,rfl,q⟩
def oN(K:W.Frag)(T:String)(x:V)(H:Hp):Prop:=match x with
|.str _=>T = "str"
|.int _=>T = "int"
| .ref p=>(T = "list"/\∃xs,aV K H p xs)\/(T = "tuple"/\((∃o,K.lookup p=some o/\o.cls=.type "tuple"/\o.dict=none)\/∃xs,Rd H p (.tup xs))) \/
   (T = "dict"/\((∃kvs,Rd H p (.dK kvs))\/∃kvs,H p=some (.dT kvs)))\/(T = "set"/\∃S n,H p=some (.set S n))
|_=>False
theorem IW{pz:List (Addr×Obj)}{σ:St}{H:Hp}{s:h_}{T:String}{x:V}{v:b_}(I:Inv X pz σ H s)(r:ar x v)(ty:oN X.K T x H):s.TypeIs v T/\∀a,v=.ref a->∃ob,s.heap.get? a=some ob/\ob.dict=none:=by cases x with
|str z=>obtain⟨t,rfl⟩:=r;cases(show T = "str" from ty);exact⟨typeIs_str s z t,fun _ e=>nomatch e⟩
|int i=>obtain⟨t,rfl⟩:=r;cases(show T = "int" from ty);exact⟨W1 s i t,fun _ e=>nomatch e⟩
|ref p=>
  cases r;rcases ty with⟨rfl,xs,hq⟩|⟨rfl,⟨o,hk,hc,hd⟩|⟨xs,hq⟩⟩|⟨rfl,hk⟩|⟨rfl,S,n,hk⟩
  .obtain⟨its,_,pl,_⟩:=I.list hq;refine⟨pl.isList.typeIs,fun a e=>?_⟩;cases e;obtain⟨o,n,e,c,hd,_⟩:=pl;exact⟨o,e,hd⟩
  .refine⟨⟨o,I.kIn p o hk,hc⟩,fun a e=>?_⟩;cases e;exact⟨o,I.kIn _ o hk,hd⟩
  .obtain⟨_,its,_,⟨o,ho,hc,_⟩,o2,ho2,hd2⟩:=hq.ok I.hok;refine⟨⟨o,ho,hc⟩,fun a e=>?_⟩;cases e;exact⟨o2,ho2,hd2⟩
  .have z:∃o,s.heap.get? p=some o/\o.ExactDict:=by
    rcases hk with⟨kvs,hk⟩|⟨kvs,hk⟩
    .obtain⟨_,_,_,_,o,_,_,e,ex,_⟩:=(show bZ X.prog X.w H s.heap p (.dK kvs)from hk.ok I.hok)
     exact⟨o,e,ex⟩
    .obtain⟨_,_,_,_,o,_,_,e,ex,_⟩:=I.hok p _ hk;exact⟨o,e,ex⟩
   obtain⟨o,e,ex⟩:=z;refine⟨⟨o,e,ex.1⟩,fun a e2=>?_⟩;cases e2;exact⟨o,e,ex.2.1⟩
  .obtain⟨o,_,_,_,e,ex,_⟩:=I.hok p _ hk;refine⟨⟨o,e,ex.1⟩,fun a e2=>?_⟩;cases e2;exact⟨o,e,ex.2.1⟩
|_=>exact Rx ty
def Pm(K:W.Frag)(T:String)(r:V->List V->Hp->VK->Prop)(to:TE)(t:TA):TE:=fun σ H Q=>to σ H fun x H1=>oN K T x H1/\t σ H1 fun xs H2=>r x xs H2 Q
variable{o e:Expr}{es:List Expr}{to:TE}{t:TA}{name:Str}{apos cpos:Pos}{T id:String}{r:V->List V->Hp->VK->Prop}
theorem zV(pa:W2 T)(slot:Slot T name id)(hty:typeOf (.builtin id)=pure (.type "method_descriptor"))(hm:jh X id r)(ho:PE X o to)(ha:PA X (e::es) t)(hbase:Tw o name X.env (eval o X.env)=eval o X.env:=by rfl)(hfew:((backTo cpos (l_ (e::es) X.env)).all (fun x=>! x.1)&&(Wc cpos (Uq [] X.env)).all (fun x=>x.1.isSome)
   && decide ((e::es).length+([]:List Tv).length+(if ([]:List Tv).isEmpty then 0 else 1)<30))=true:=by rfl)(hline:(apos.endLine==cpos.line)=true:=by rfl)(hs:l_ (e::es) X.env=(false,eval e X.env)::l_ es X.env:=by rfl)(hplain:(backTo cpos (l_ es X.env)).any (·.1)=false:=by rfl):PE X (.Call (.Attribute o name apos) (e::es) [] cpos) (Pm X.K T r to t):=by intro pz s σ H Q I h;refine wpAny_Call_method_late hbase hfew hline rfl (aL (ho pz s σ H _ I h) fun v s1 ⟨x,H1,I1,r1,ty,q1⟩=>?_);obtain⟨h1,h2⟩:=IW I1 r1 ty;refine⟨T,id,pa,slot,hty,h1,h2,?_⟩;have hA:=ha cpos pz s1 σ H1 _ I1 q1;rw[hs]at hA ⊢;refine Calls.callWith_builtin (by show(false || (backTo cpos (l_ es X.env)).any (·.1))=false;rw[hplain] <;> rfl) (Calls.evalArgs_plain ?_);exact aL hA fun us s2 ⟨vs,H2,I2,r2,q2⟩=>hm pz s2 σ H2 x vs v us Q I2 r1 r2 q2
end
def PC(X:Cx)(id:String)(r:V->List V->Hp->VK->Prop):Prop:=∀(pz:List (Addr×Obj))(s:h_)(σ:St)(H:Hp)(x:V)(xs:List V)(v:b_)(us:List b_)(Q:VK),Inv X pz σ H s->ar x v->al xs us->r x xs H Q ->D_ (O_ X.prog X.w) X.A (call (.builtin id) (v::us)) (EP X pz σ Q) X.xe s
theorem al.one{x:V}{us:List b_}(h:al [x] us):∃u,us=[u]/\ar x u:=by cases h with
|cons r t=>cases t;exact⟨_,rfl,r⟩
theorem al.zero:∀{us:List b_},al [] us->us=[]
|_,.nil=>rfl
theorem al.eraseIdx:∀{xs:List V}{us:List b_}(i:Nat),al xs us->al (xs.eraseIdx i) (us.eraseIdx i)
|_,_,_,.nil=>.nil
|_,_,0,.cons _ t=>t
|_,_,i+1,.cons r t=>.cons r (al.eraseIdx i t)
theorem al.reverse{xs:List V}{us:List b_}(h:al xs us):al xs.reverse us.reverse:=by induction h with
|nil=>exact .nil
|cons r t ih=>rw[S9,S9];exact al.append ih (.cons r .nil)
theorem al.rep{xs:List V}{us:List b_}(h:al xs us):∀k:Nat,al (I_ k xs).flatten (I_ k us).flatten
|0=>.nil
|k+1=>by rw[QX,QX,RH,RH];exact al.append h (al.rep h k)
theorem DE(its:List b_):∀(k:Nat)(acc:List b_),VQ (fun x1 x2=>x1++x2) acc.toArray (I_ k its.toArray)=(acc++(I_ k its).flatten).toArray
|0,acc=>by simp
|k+1,acc=>by
  have e:acc.toArray++its.toArray=(acc++its).toArray:=by simp
  have e2:(acc++its)++(I_ k its).flatten=acc++(I_ (k+1) its).flatten:=by rw[QX,RH,Qv]
  rw[<-e2,<-DE its k (acc++its),<-e,QX,R3]
section
variable{X:Cx}{pz:List (Addr×Obj)}{σ:St}{H:Hp}{s:h_}{l b:Addr}{xs ys zs:List V}
theorem Inv.lset{its its':List b_}{n:Nat}{f:Array b_->Array b_}{t':Nat}(I:Inv X pz σ H s)(hH:H l=some (.lst xs))(e:s.heap.get? l=some { cls:=.type "list",data:=.seq its.toArray n })(hf:f its.toArray=its'.toArray)(hv:al ys its')(hz:ys.length<=sizeLine):Inv X pz σ (upd H l (.lst ys)) { s with heap:=s.heap.update l (UX f),toks:=t' }:=by have q:=PySem.IsL.update e f;rw[hf]at q;refine I.write (x:=l) (e:=l) (by rw[hH];exact trivial) (.inl rfl) (fun b' u hb hu=>(UY s.heap (UX f) (Rs hb)).trans hu) ⟨_,q⟩ ?_;exact⟨hz,its',_,hv,q⟩
theorem Inv.lnew{its:List b_}{t':Nat}(I:Inv X pz σ H s)(hv:al ys its)(hz:ys.length<=sizeLine):Inv X pz σ (upd H s.heap.objs.size (.lst ys)) { s with heap:=s.heap.push { cls:=.type "list",data:=.seq its.toArray },toks:=t' }:=I.laid (fun _ _ q=>e_ _ q) (u_ _) ⟨hz,its,0,hv,w_ _ rfl⟩
theorem Inv.fresh(I:Inv X pz σ H s):H s.heap.objs.size=none:=I.hok.fresh (u_ _)
theorem Inv.lstM(I:Inv X pz σ H s)(hH:H l=some (.lst xs)):xs.length<=sizeLine/\∃(its:List b_)(n:Nat),al xs its/\xs.length=its.length/\s.heap.get? l=some { cls:=.type "list",data:=.seq its.toArray n }:=by obtain⟨z,its,n,r,e⟩:=I.hok l _ hH;exact⟨z,its,n,r,r.length,e⟩
theorem L7{n:Nat}(h:n<=sizeLine):Su n=false:=by unfold Su;exact decide_eq_false (by omega)
end
section
variable{X:Cx}
def CG:V->List V->Hp->VK->Prop:=fun x vs H Q=>∃l xs y,x=.ref l/\vs=[y]/\H l=some (.lst xs)/\xs.length<sizeLine/\Q .non (upd H l (.lst (xs++[y])))
theorem iC:PC X "list.append" CG:=by intro pz s σ H x vs v us Q I rx rv h;obtain⟨l,xs,y,rfl,rfl,hH,hz,q⟩:=h;cases rx;obtain⟨u,rfl,ru⟩:=rv.one;obtain⟨z,its,n,r,hl,e⟩:=I.lstM hH;refine Ug F.slot_list_append ⟨_,e,rfl⟩ F.entry_list_append (F.args_list_append_2 _ _) (PySem.list_append l its.toArray n u (by rw[s_];omega)) ⟨e,?_⟩;refine⟨.non,_,I.lset (its':=its++[u]) hH e (by simp) (r.append (.cons ru .nil)) ?_,rfl,q⟩;rw[PN,Th];omega
def yS:R2:=fun x y H Q=>∃l k xs,x=.ref l/\y=.int k/\H l=some (.lst xs)/\-(2^63)<=k/\k<2^63/\xs.length*k.toNat<=sizeLine /\∀p,H p=none->Q (.ref p) (upd H p (.lst (I_ k.toNat xs).flatten))
theorem Kf{α:Type}(xs:List α)(k:Nat):(I_ k xs).flatten.length=k*xs.length:=by induction k with
|zero=>simp
|succ k ih=>rw[QX,RH,PN,ih,X5,X6]
theorem HF:aT X (Rq .Mult) yS:=by
 intro pz s σ H x y v u Q I rx ry h;obtain⟨l,k,xs,rfl,rfl,hH,h1,h2,hz,q⟩:=h;cases rx;obtain⟨t,rfl⟩:=ry;obtain⟨z,its,n,r,hl,e⟩:=I.lstM hH;have hlen:its.toArray.size*k.toNat<=sizeLine:=by rw[s_,<-hl];exact hz
 have hcap:¬ its.toArray.size*k.toNat>(2^63-1)/8:=by
  have:(sizeLine:Nat)<=(2^63-1)/8:=by decide
  omega
 have hfit:¬ (! Uh k)=true:=by rw[fitsIndex_both h1 h2];exact j_
 have hlong:¬ Su (its.toArray.size*k.toNat)=true:=by rw[L7 hlen];exact j_
 have hnew:VQ (fun x1 x2=>x1++x2) #[] (I_ (if its.toArray.isEmpty=true then 0 else k.toNat) its.toArray)=(I_ k.toNat its).flatten.toArray:=by
  have f0:∀m:Nat,VQ (fun x1 x2=>x1++x2) #[] (I_ m its.toArray)=(I_ m its).flatten.toArray:=fun m=>by have:=DE its m [];rw[Ro]at this;exact this
  rw[f0];cases its with
 |nil=>simp
 |cons a r'=>rw[if_neg (by simp)]
 refine wpAny_binaryOp_repeat_ref (T := "list") (U := "int") (by decide) ⟨_,e,rfl⟩ (fun s'=>W1 s' k t) noFill_list_mul F.fills_int_mul F.slot_int_rmul repeat_list F.slot_int_index.lookup
  (Ug F.slot_int_rmul (W1 s k t) F.entry_int_rmul (F.args_int_rmul_2 _ _) (int___rmul___int_list k t l its.toArray n)
   ⟨e,rfl,⟨_,e,rfl⟩,Ug F.slot_list_mul ⟨_,e,rfl⟩ F.entry_list_mul (F.args_list_mul_2 _ _) (AutoListH.list___mul___list_int_3 l its.toArray n k t hfit hcap hlong) ⟨e,?_⟩⟩)
 rw[hnew];exact⟨.ref _,_,I.lnew (t':=s.toks) (r.rep k.toNat) (by rw[Kf,Q8];exact hz),rfl,q _ I.fresh⟩
end
section
variable{κ:Type}[DecidableEq κ]
def cv(kvs:List (κ×V))(k:κ):Option V:=(kvs.find? fun kv=>decide (kv.1=k)).map (·.2)
def putK(kvs:List (κ×V))(k:κ)(v:V):List (κ×V):=if (kvs.any fun kv=>decide (kv.1=k))=true then kvs.map (fun kv=>if kv.1=k then(kv.1,v)else kv)else kvs++[(k,v)]
def zP(kvs:List (κ×V))(k:κ):List (κ×V):=kvs.filter fun kv=>decide (kv.1≠k)
theorem qC{p:κ×V}{r:List (κ×V)}{k:κ}(e:p.1=k):cv (p::r) k=some p.2:=by simp[cv,P7,e]
theorem nW{p:κ×V}{r:List (κ×V)}{k:κ}(e:¬ p.1=k):cv (p::r) k=cv r k:=by simp[cv,P7,e]
theorem Dg(k:κ):∀kvs:List (κ×V),(kvs.any fun kv=>decide (kv.1=k))=(cv kvs k).isSome
|[]=>rfl
|p::r=>by
  rw[R5];by_cases e:p.1=k
  .simp only[qC e,decide_eq_true e,X7,Option.isSome_some]
  .rw[nW e,decide_eq_false e,Bool.false_or];exact Dg k r
theorem DU(kvs:List (κ×V))(k:κ)(v:V):(putK kvs k v).length<=kvs.length+1:=by
 unfold putK;split
 .rw[m_];omega
 .rw[PN,C_,U_];omega
theorem cK.isSome_eq{o:Option V}{u:Option b_}(r:cK o u):o.isSome=u.isSome:=by cases o with
|none=>cases u with
 |none=>rfl
 |some _=>exact(show False from r).elim
|some _=>cases u with
 |none=>exact(show False from r).elim
 |some _=>rfl
theorem cK.getD{o:Option V}{u:Option b_}{d:V}{d':b_}(r:cK o u)(rd:ar d d'):ar (o.getD d) (u.getD d'):=by cases o with
|none=>cases u with
 |none=>exact rd
 |some _=>exact(show False from r).elim
|some _=>cases u with
 |none=>exact(show False from r).elim
 |some _=>exact r
theorem KV.val{kvs:List (κ×V)}{vs:List (κ×b_)}(r:KV kvs vs)(k:κ):cK (cv kvs k) (VC vs k):=by
 unfold KV at r
 induction r with
|nil=>exact True.intro
|@cons p q ps qs h t ih=>
  obtain⟨h1,h2⟩:=h;by_cases e:p.1=k
  .have e':q.1=k:=h1.symm.trans e;have b:VC (q::qs) k=some q.2:=by simp[VC,P7,e']
   rw[qC e,b];exact h2
  .have e':¬ q.1=k:=fun z=>e (h1.trans z);have b:VC (q::qs) k=VC qs k:=by simp[VC,P7,e']
   rw[nW e,b];exact ih
theorem KV.any{kvs:List (κ×V)}{vs:List (κ×b_)}(r:KV kvs vs)(k:κ):(kvs.any fun kv=>decide (kv.1=k))=vs.any fun kv=>decide (kv.1=k):=by
 unfold KV at r
 induction r with
|nil=>rfl
|cons h t ih=>rw[R5,R5,ih,h.1]
theorem KV.repl{kvs:List (κ×V)}{vs:List (κ×b_)}(r:KV kvs vs)(k:κ){y:V}{u:b_}(ry:ar y u):KV (kvs.map fun kv=>if kv.1=k then(kv.1,y)else kv) (vs.map fun kv=>if kv.1=k then(kv.1,u)else kv):=by
 unfold KV at r ⊢
 induction r with
|nil=>exact .nil
|@cons p q ps qs h t ih=>
  rw[p_,p_];refine .cons ?_ ih;obtain⟨h1,h2⟩:=h;by_cases e:p.1=k
  .rw[if_pos e,if_pos (h1.symm.trans e)];exact⟨h1,ry⟩
  .rw[if_neg e,if_neg (fun z=>e (h1.trans z))];exact⟨h1,h2⟩
theorem KV.put{kvs:List (κ×V)}{vs:List (κ×b_)}(r:KV kvs vs)(k:κ){y:V}{u:b_}(ry:ar y u):KV (putK kvs k y) (stored vs k u):=by
 unfold putK stored;rw[r.any k];by_cases e:(vs.any fun kv=>decide (kv.1=k))=true
 .rw[if_pos e,if_pos e];exact r.repl k ry
 .rw[if_neg e,if_neg e];exact Paired.snoc r ⟨rfl,ry⟩
theorem KV.drop{kvs:List (κ×V)}{vs:List (κ×b_)}(r:KV kvs vs)(k:κ):KV (zP kvs k) (without vs k):=by
 unfold KV at r ⊢;unfold zP without
 induction r with
|nil=>exact .nil
|@cons p q ps qs h t ih=>
  obtain⟨h1,h2⟩:=h;rw[QD,QD];by_cases e:p.1=k
  .have a:¬ decide (p.1≠k)=true:=by simp[e]
   have b:¬ decide (q.1≠k)=true:=by simp[h1.symm.trans e]
   rw[if_neg a,if_neg b];exact ih
  .have e':¬ q.1=k:=fun z=>e (h1.trans z);have a:decide (p.1≠k)=true:=by simp[e]
   have b:decide (q.1≠k)=true:=by simp[e']
   rw[if_pos a,if_pos b];exact .cons ⟨h1,h2⟩ ih
theorem KV.keys{kvs:List (κ×V)}{vs:List (κ×b_)}(r:KV kvs vs):kvs.map (·.1)=vs.map (·.1):=by
 unfold KV at r
 induction r with
|nil=>rfl
|cons h t ih=>rw[p_,p_,ih,h.1]
theorem KV.length{kvs:List (κ×V)}{vs:List (κ×b_)}(r:KV kvs vs):kvs.length=vs.length:=Paired.length r
end
theorem m9{P:B_}{w:PP}{k:aB}{u:b_}(r:ar (kV k) u):(fN P w).is k u=true:=by cases k with
|inl i=>obtain⟨t,e⟩:=(show ∃t,u=Value.int i t from r);subst e;exact N9 P w i t
|inr x=>obtain⟨t,e⟩:=(show ∃t,u=Value.str x t from r);subst e;exact Oa P w x t
theorem DH{P:B_}{w:PP}:∀{ks:List aB}{us:List b_},al (ks.map kV) us->ItemsAre (fN P w) ks us
|[],_,r=>by rw[UV]at r;cases r;exact .nil
|k::ks,_,r=>by rw[p_]at r;cases r with
 |cons h t=>exact .cons (m9 h) (DH t)
abbrev KT(H:Hp):List (List aB×V)->List (List aB×Addr×b_)->Prop:=Paired fun p q=>p.1=q.1/\H q.2.1=some (.tup (p.1.map kV))/\ar p.2 q.2.2
theorem KT.val{H:Hp}{kvs:List (List aB×V)}{xs:List (List aB×Addr×b_)}(r:KT H kvs xs)(k:List aB):cK (cv kvs k) ((WA xs k).map (·.2)):=by induction r with
|nil=>exact True.intro
|@cons p q ps qs h t ih=>
  obtain⟨h1,_,h2⟩:=h;by_cases e:p.1=k
  .have e':q.1=k:=h1.symm.trans e;have b:WA (q::qs) k=some q.2:=by simp[WA,P7,e']
   rw[qC e,b];exact h2
  .have e':¬ q.1=k:=fun z=>e (h1.trans z);have b:WA (q::qs) k=WA qs k:=by simp[WA,P7,e']
   rw[nW e,b];exact ih
theorem KT.repl{H:Hp}{kvs:List (List aB×V)}{xs:List (List aB×Addr×b_)}(r:KT H kvs xs)(k:List aB){y:V}{u:b_}(ry:ar y u):KT H (kvs.map fun kv=>if kv.1=k then(kv.1,y)else kv) (xs.map (putAt k u)):=by induction r with
|nil=>exact .nil
|@cons p q ps qs h t ih=>
  rw[p_,p_];refine .cons ?_ ih;obtain⟨h1,h2,h3⟩:=h;unfold putAt;by_cases e:p.1=k
  .rw[if_pos e,if_pos (h1.symm.trans e)];exact⟨h1,h2,ry⟩
  .rw[if_neg e,if_neg (fun z=>e (h1.trans z))];exact⟨h1,h2,h3⟩
theorem KT.put{H:Hp}{kvs:List (List aB×V)}{xs:List (List aB×Addr×b_)}(r:KT H kvs xs)(k:List aB){b:Addr}{y:V}{u:b_}(hb:H b=some (.tup (k.map kV)))(ry:ar y u):KT H (putK kvs k y) (storedH xs k b u):=by
 have e:(kvs.any fun kv=>decide (kv.1=k))=(WA xs k).isSome:=by rw[Dg,(r.val k).isSome_eq,Ur]
 unfold putK storedH;rw[e];by_cases q:(WA xs k).isSome=true
 .rw[if_pos q,if_pos q];exact r.repl k ry
 .rw[if_neg q,if_neg q];exact Paired.snoc r ⟨rfl,hb,ry⟩
theorem KT.keeps{H H':Hp}{kvs:List (List aB×V)}{xs:List (List aB×Addr×b_)}(r:KT H kvs xs)(ht:∀b ys,H b=some (.tup ys)->H' b=some (.tup ys)):KT H' kvs xs:=Paired.mapP r fun _ _ z=>⟨z.1,ht _ _ z.2.1,z.2.2⟩
section
variable{P:B_}{w:PP}{H:Hp}{h:Heap}{a:Addr}
theorem Ar{u:HO}(ok:cB P w H h)(e:Rd H a u):bZ P w H h a u:=e.ok ok
theorem lY{kvs:List (aB×V)}(ok:cB P w H h)(e:Rd H a (.dK kvs)):kvs.length<=sizeLine/\(a==RL)=false/\∃vs,KV kvs vs/\h.DictOf (fN P w) a vs:=show bZ P w H h a (.dK kvs)from Ar ok e
theorem GP{kvs:List (aB×V)}(ok:cB P w H h)(e:H a=some (.dK kvs)):kvs.length<=sizeLine/\(a==RL)=false/\∃vs,KV kvs vs/\h.DictOf (fN P w) a vs:=lY ok (.inl e)
theorem nz{ks:List aB}(ok:cB P w H h)(e:H a=some (.tup (ks.map kV))):(Vz (fN P w)).is h ks a:=by
 obtain⟨_,its,r,⟨o,h1,h2,n,h3⟩,_⟩:=(show bZ P w H h a (.tup (ks.map kV))from ok a _ e)
 exact⟨o,its.toArray,n,h1,h2,h3,by simpa using DH r⟩
theorem mW{kvs:List (List aB×V)}(ok:cB P w H h)(e:Rd H a (.dT kvs)):kvs.length<=sizeLine/\(a==RL)=false /\∃xs,KT H kvs xs/\h.DictOfH (Vz (fN P w)) a xs:=by
 obtain⟨z,y,xs,r,o,es,ep,h1,h2,h3,h4,h5⟩:=(show bZ P w H h a (.dT kvs)from Ar ok e)
 refine⟨z,y,xs,r,o,es,ep,h1,h2,h3,h4,fun x hx=>?_,h5⟩;have all:∀{l:List (List aB×V)}{m:List (List aB×Addr×b_)},KT H l m->∀x∈m,(Vz (fN P w)).is h x.1 x.2.1:=by
  intro l m q
  induction q with
 |nil=>intro x hx;exact nomatch hx
 |@cons p q ps qs hq t ih=>
   intro x hx;rcases q_.mp hx with e|hx
   .subst e;exact nz ok (by rw[<-hq.1];exact hq.2.1)
   .exact ih x hx
 exact all r x hx
theorem Gd{kvs:List (List aB×V)}(ok:cB P w H h)(e:H a=some (.dT kvs)):kvs.length<=sizeLine/\(a==RL)=false /\∃xs,KT H kvs xs/\h.DictOfH (Vz (fN P w)) a xs:=mW ok (.inl e)
end
def dQ(H:Hp)(a:Addr)(y:V)(r:Option V):Prop:=(∃kvs k,Rd H a (.dK kvs)/\y=kV k/\r=cv kvs k)\/∃kvs k b,Rd H a (.dT kvs)/\y=.ref b/\H b=some (.tup (k.map kV))/\r=cv kvs k
def gu(H:Hp)(a:Addr)(y v:V)(H':Hp):Prop:=(∃kvs k,H a=some (.dK kvs)/\y=kV k/\kvs.length<sizeLine/\H'=upd H a (.dK (putK kvs k v))) \/∃kvs k b,H a=some (.dT kvs)/\y=.ref b/\H b=some (.tup (k.map kV))/\kvs.length<sizeLine/\H'=upd H a (.dT (putK kvs k v))
theorem dQ.k{H:Hp}{a:Addr}{kvs:List (aB×V)}{k:aB}(e:H a=some (.dK kvs)):dQ H a (kV k) (cv kvs k):=.inl ⟨kvs,k,.inl e,rfl,rfl⟩
theorem dQ.t{H:Hp}{a b:Addr}{kvs:List (List aB×V)}{k:List aB}(e:H a=some (.dT kvs))(eb:H b=some (.tup (k.map kV))):dQ H a (.ref b) (cv kvs k):=.inr ⟨kvs,k,b,.inl e,rfl,eb,rfl⟩
theorem gu.k{H:Hp}{a:Addr}{kvs:List (aB×V)}{k:aB}{v:V}(e:H a=some (.dK kvs))(hl:kvs.length<sizeLine):gu H a (kV k) v (upd H a (.dK (putK kvs k v))):=.inl ⟨kvs,k,e,rfl,hl,rfl⟩
theorem gu.t{H:Hp}{a b:Addr}{kvs:List (List aB×V)}{k:List aB}{v:V}(e:H a=some (.dT kvs))(eb:H b=some (.tup (k.map kV)))(hl:kvs.length<sizeLine):gu H a (.ref b) v (upd H a (.dT (putK kvs k v))):=.inr ⟨kvs,k,b,e,rfl,eb,hl,rfl⟩
section
variable{X:Cx}{pz:List (Addr×Obj)}{σ:St}{H:Hp}{s:h_}{a:Addr}{y v:V}{u r:b_}{o:Option V}{A:P8}{E:b_->h_->Prop}
theorem Inv.big(I:Inv X pz σ H s):RL<s.heap.objs.size:=by have h:Qo<s.heap.objs.size:=(I.mod.glob.keeps I.bk).lt;exact Nat.lt_trans (by decide) h
theorem MK{Q:b_->h_->Prop}(hu:A.units+1<Rt)(I:Inv X pz σ H s)(g:dQ H a y (some v))(ry:ar y u)(h:∀w' s',Inv X pz σ H s'->ar v w'->Q w' s'):D_ (O_ X.prog X.w) A (VB (.ref a) u) Q E s:=by
 rcases g with⟨kvs,k,e,ey,l⟩|⟨kvs,k,b,e,ey,eb,l⟩
 .subst ey;obtain⟨z,hd,vs,rel,dd⟩:=lY I.hok e;obtain⟨w',hw,rw'⟩:=cK.some_of (v:=v) (o:=VC vs k) (by rw[l];exact rel.val k);exact wpAny_getItem_of (m9 ry) dd.mapOf hw (h w' _ (I.tok _) rw')
 .subst ey;cases(show u=Value.ref b from ry);obtain⟨z,hd,xs,rel,dd⟩:=mW I.hok e;obtain⟨w',hw,rw'⟩:=cK.some_of (v:=v) (o:=(WA xs k).map (·.2)) (by rw[l];exact rel.val k);obtain⟨p,hp,hp2⟩:=Option.map_eq_some_iff.mp hw;refine wpAny_getItem_heap (Sz hu) (nz I.hok eb) dd hp ?_;rw[hp2];exact h w' _ (I.tok _) rw'
theorem zg{Q:b_->h_->Prop}(hu:A.units+1<Rt)(I:Inv X pz σ H s)(g:dQ H a y o)(ry:ar y u)(h:∀s',Inv X pz σ H s'->Q (.bool o.isSome) s'):D_ (O_ X.prog X.w) A (Qb .In u (.ref a)) Q E s:=by
 rcases g with⟨kvs,k,e,ey,l⟩|⟨kvs,k,b,e,ey,eb,l⟩
 .subst ey;obtain⟨z,hd,vs,rel,dd⟩:=lY I.hok e;refine wpAny_in_of (m9 ry) hd dd.mapOf ?_;rw[<-(rel.val k).isSome_eq,<-l];exact h _ (I.tok _)
 .subst ey;cases(show u=Value.ref b from ry);obtain⟨z,hd,xs,rel,dd⟩:=mW I.hok e;refine wpAny_in_heap (Sz hu) (nz I.hok eb) hd dd ?_;have q:=(rel.val k).isSome_eq;rw[Ur]at q;rw[<-q,<-l];exact h _ (I.tok _)
theorem J7{Q:b_->h_->Prop}(hu:A.units+1<Rt)(I:Inv X pz σ H s)(g:dQ H a y o)(ry:ar y u)(h:∀s',Inv X pz σ H s'->Q (.bool (! o.isSome)) s'):D_ (O_ X.prog X.w) A (Qb .NotIn u (.ref a)) Q E s:=by
 rcases g with⟨kvs,k,e,ey,l⟩|⟨kvs,k,b,e,ey,eb,l⟩
 .subst ey;obtain⟨z,hd,vs,rel,dd⟩:=lY I.hok e;refine wpAny_notIn_of (m9 ry) hd dd.mapOf ?_;rw[<-(rel.val k).isSome_eq,<-l];exact h _ (I.tok _)
 .subst ey;cases(show u=Value.ref b from ry);obtain⟨z,hd,xs,rel,dd⟩:=mW I.hok e;refine wpAny_notIn_heap (Sz hu) (nz I.hok eb) hd dd ?_;have q:=(rel.val k).isSome_eq;rw[Ur]at q;rw[<-q,<-l];exact h _ (I.tok _)
theorem Bu{h':Heap}{t':Nat}{ob:HO}(I:Inv X pz σ H s)(mu:ph (H a))(hs:SY a s.heap h')(he:∃q,h'.get? a=some q)(new:bZ X.prog X.w (upd H a ob) h' a ob):Inv X pz σ (upd H a ob) { s with heap:=h',toks:=t' }:=I.write (x:=a) (e:=a) mu (.inl rfl) (fun b q hb z=>(hs.2 b hb).trans z) he new
theorem Hn{P:B_}{w:PP}{H':Hp}{h':Heap}{kvs:List (aB×V)}{vs:List (aB×b_)}(z:kvs.length<=sizeLine)(hd:(a==RL)=false)(rel:KV kvs vs)(dd:h'.DictOf (fN P w) a vs):bZ P w H' h' a (.dK kvs):=⟨z,hd,vs,rel,dd⟩
theorem My{H':Hp}{Q:Unit->h_->Prop}(hu:A.units+1<Rt)(I:Inv X pz σ H s)(g:gu H a y v H')(ry:ar y u)(rv:ar v r)(h:∀s',Inv X pz σ H' s'->Q () s'):D_ (O_ X.prog X.w) A (WQ (.ref a) u r) Q E s:=by
 rcases g with⟨kvs,k,e,ey,l,eH⟩|⟨kvs,k,b,e,ey,eb,l,eH⟩
 .subst ey eH;obtain⟨z,hd,vs,rel,dd⟩:=GP I.hok e;have hz:vs.length<=sizeLine:=by rw[<-rel.length];exact z
  have hl:(putK kvs k v).length<=sizeLine:=by have:=DU kvs k v;omega
  refine wpAny_setItem_pairs (hsz:=hz) (m9 ry) dd fun h' dd' hs=>h _ ?_;have he:∃q,h'.get? a=some q:=let⟨q,_,_,hq,_⟩:=dd';⟨q,hq⟩;exact Bu I (by rw[e];exact True.intro) hs he (Hn hl hd (rel.put k rv) dd')
 .subst ey eH;cases(show u=Value.ref b from ry);obtain⟨z,hd,xs,rel,dd⟩:=Gd I.hok e;have hz:xs.length<=sizeLine:=by rw[<-Paired.length rel];exact z
  have hl:(putK kvs k v).length<=sizeLine:=by have:=DU kvs k v;omega
  refine wpAny_setItem_heap (hsz:=hz) (Sz hu) (nz I.hok eb) dd fun h' dd' hs=>h _ ?_;obtain⟨q,es,ep,hq,h2,h3,h4,_,h5⟩:=dd';refine Bu I (by rw[e];exact True.intro) hs ⟨q,hq⟩ ⟨hl,hd,_,(rel.put k eb rv).keeps fun c ys ec=>?_,q,es,ep,hq,h2,h3,h4,h5⟩;rw[bf (Gx ec e (fun z=>nomatch z))];exact ec
end
section
variable{X:Cx}{pz:List (Addr×Obj)}{σ:St}{H:Hp}{s:h_}{a:Addr}{kvs:List (aB×V)}{k:aB}{u:b_}{A:P8}{E:b_->h_->Prop}
theorem GO{Q:b_->h_->Prop}(I:Inv X pz σ H s)(e:Rd H a (.dK kvs))(h:∀t s',Inv X pz σ H s'->Q (.int kvs.length t) s'):D_ (O_ X.prog X.w) A (call (.builtin "len") [.ref a]) Q E s:=by obtain⟨z,hd,vs,rel,dd⟩:=lY I.hok e;refine call_len_dict hd dd (by rw[<-rel.length];rw[Qf]at z;omega) ?_;rw[<-rel.length];exact h _ _ (I.tok _)
end
theorem On{X:Cx}{pz:List (Addr×Obj)}{σ:St}{H:Hp}{s:h_}{a:Addr}{y:V}{o:Option V}(I:Inv X pz σ H s)(g:dQ H a y o):s.TypeIs (.ref a) "dict" := by
 rcases g with⟨kvs,k,e,_,_⟩|⟨kvs,k,b,e,_,_,_⟩
 .obtain⟨_,_,vs,_,dd⟩:=lY I.hok e;exact dd.typeIs
 .obtain⟨_,_,xs,_,dd⟩:=mW I.hok e;exact dd.typeIs
theorem Lj{P:B_}{w:PP}{H:Hp}(h:Heap)(hb:RL<h.objs.size):bZ P w H (h.push { cls:=.type "dict",data:=.dict #[] }) h.objs.size (.dK []):=⟨Qa _,beq_eq_false_iff_ne.mpr (Rs (PH hb)),[],.nil,Heap.DictOf.new h⟩
def IM:TE:=fun _ H Q=>∀p,H p=none->Q (.ref p) (upd H p (.dK []))
section
variable{X:Cx}{pos:Pos}
theorem Mj:PE X (.Dict [] [] pos) IM:=fun pz s σ H Q I h=>wpAny_Dict_empty ⟨.ref s.heap.objs.size,_,I.laid (a:=s.heap.objs.size) (o:=.dK []) (t':=s.toks) (fun _ _ q=>e_ _ q) (u_ _) (Lj s.heap I.big),rfl,h _ (I.hok.fresh (u_ _))⟩
end
structure M1(X:Cx)(o:Expr)(m:Str)(apos:Pos)(e:Expr)(cpos:Pos):Prop where
 base:Tw o m X.env (eval o X.env)=eval o X.env
 few:((backTo cpos (l_ [e] X.env)).all (fun x=>! x.1)&&(Wc cpos (Uq [] X.env)).all (fun x=>x.1.isSome)
  && decide (([e]:List Expr).length+([]:List Tv).length+(if ([]:List Tv).isEmpty then 0 else 1)<30))=true
 line:(apos.endLine==cpos.line)=true
 trees:backTo cpos (l_ [e] X.env)=[(false,eval e X.env)]
structure M2(X:Cx)(o:Expr)(m:Str)(apos:Pos)(e f:Expr)(cpos:Pos):Prop where
 base:Tw o m X.env (eval o X.env)=eval o X.env
 few:((backTo cpos (l_ [e,f] X.env)).all (fun x=>! x.1)&&(Wc cpos (Uq [] X.env)).all (fun x=>x.1.isSome)
  && decide (([e,f]:List Expr).length+([]:List Tv).length+(if ([]:List Tv).isEmpty then 0 else 1)<30))=true
 line:(apos.endLine==cpos.line)=true
 trees:backTo cpos (l_ [e,f] X.env)=[(false,eval e X.env),(false,eval f X.env)]
end L2
namespace Att
open PySem PySem.W PySem.Calls PyProof.Rows
theorem OP{P:Params}{h:Heap}:∀(ns:List Int)(vs:List b_),WellAll P h vs (ns.map WData.int)->T9 vs ns:=by
 intro ns
 induction ns with
|nil=>intro vs w;rw[UV]at w;cases w;exact .nil
|cons n ns ih=>intro vs w;rw[p_]at w;cases w with
 |cons a b=>cases a;exact .cons _ _ (ih _ b)
theorem NH{l:OpenLaw}{n:Nat}(hn:l.most=some n){P:Params}{h:Heap}{args:List WData}{vals:List b_}(hpre:l.row.toRowW.claim.pre args=true)(hwl:WellAll P h vals args):∃a vs ns,vals=[Value.ref a]/\args=[WData.list (ns.map WData.int)]/\h.get? a=some { cls:=.type "list",data:=.seq vs.toArray }/\T9 vs ns/\ns.length<=n:=by
 have hsh:WShape.hasAll [] args [.list .int]=true:=(pre_splitW hpre).1;have hc:l.pre.holds [] { args:=args }=true:=(pre_splitW hpre).2;obtain⟨d,r,rfl,h1,h2⟩:=hasAllW_cons hsh;obtain rfl:=hasAllW_nil h2;obtain⟨xs,rfl,h3⟩:=hasW_list h1;obtain⟨ns,rfl⟩:=items_int h3;have hlen:ns.length<=n:=by
  unfold OpenLaw.pre at hc;have h4:(WTm.not (.lt (.lit (.int (n:Int))) (.len (.arg 0)))).holds [] { args:=[.list (ns.map .int)] }=true:=by have h4:=(holds_andW hc).1;rw[hn]at h4;exact h4
  have h5:=condW_of h4 (w_not (w_lt w_lit (w_len_list (w_arg rfl))));rw[m_]at h5;refine Nat.le_of_not_lt fun q=>?_;have q':(n:Int)<((ns.length:Nat):Int):=by omega
  first
   |(rw[decide_eq_true q']at h5;exact absurd h5 (by decide))
   |(simp at h5;omega)
 cases hwl with
|cons w1 w2=>cases w2;cases w1 with
 |list ho hall=>exact⟨_,_,ns,rfl,rfl,ho,OP ns _ hall,hlen⟩
theorem MZ(l:OpenLaw)(args:List WData):l.row.toRowW.claim.post args (.bool true) args=true:=
 postW_of (r:=l.row.toRowW) (X:=(true==true))
  (show Ym [] (.bool true) .bool=true by first|rfl|decide|simp[Ym,WShape.arms,WShape.armsAll])
  (show(WTm.eq .res (.lit (.bool true))).value [] { args:=args,res:=some (.bool true),after:=args }=some (.bool (true==true))from w_eq_bool (w_res rfl) w_lit) rfl
theorem attach_call{l:OpenLaw}{n:Nat}{q:B_}{loose:List Str}{XP:(Str->Option b_)->Heap->Prop}{YP:PP->Heap->Prop}{d:DefRec}(hn:l.most=some n)(hdf:d.params.defaults=[])(call:∀(w:PP)(s₀ s₁:h_)(mg mb:Str->Option b_)(fa:Addr)(o:Obj)(pm cd doc:b_)(a:Addr)(vs:List b_)(ns:List Int),Ground q loose [] XP w s₀ mg mb s₁.heap->YP w s₁.heap ->s₁.heap.get? fa=some o->o.data=.func (docDef d.name d.params d.body d.scope pm cd doc)->s₁.heap.CodeRec cd d.name->mg d.name=some (.ref fa) ->s₁.heap.get? a=some { cls:=.type "list",data:=.seq vs.toArray }->T9 vs ns->ns.length<=n->s₁.gens = #[] ->T7 (O_ l.prog w) UZ (.call (.ref fa) ⟨[.ref a],[]⟩) (fun r s'=>r=.ok (.ret (.bool true))/\OldK s₁.heap s'.heap/\s'.os=s₁.os/\Tu s'.gens) s₁):WalkO q loose XP YP l.row.toRowW d [] (fun f vs=>W3 f vs):=by intro w s₀ s₁ mg mb G Y fa o pm cd doc dV kV ho hd hcd hD hmg hg args vals as hpre hlay hrd hwl hlo;obtain rfl:dV=.none:=Dflts.none hD hdf;obtain rfl:kV=.none:=Dflts.noKw hD;obtain⟨a,vs,ns,rfl,rfl,hobj,hints,hlen⟩:=NH hn hpre hwl;refine enter_call (Sg (call w s₀ s₁ mg mb fa o pm cd doc a vs ns G Y ho (fd_plain hd) hcd hmg hobj hints hlen hg) fun r s' hq=>?_);obtain⟨rfl,h2,h3,h4⟩:=hq;exact⟨.inl ⟨.bool true,.bool true,[],rfl,fun _=>rfl,.bool true,MZ l _,fun _=>⟨List.Pairwise.nil,fun _ hm=>(nomatch hm)⟩⟩,h2,h3,h4⟩
end Att
namespace L2
open PySem PySem.Spec PyProof.Rows
theorem DN:∀{vs:List b_}{ns:List Int},T9 vs ns->al (ns.map V.int) vs
|_,_,.nil=>.nil
|_,_,.cons n t h=>.cons ⟨t,rfl⟩ (DN h)
def lR(H:Hp):Prop:=∀b,H b=none\/∃o xs,H b=some (.frz o (.lst xs))
theorem Mu{P:B_}{w:PP}{K:W.Frag}{mg mb:Str->Option b_}{CX:gI}{k:Nat}{fa a:Addr}{fd:Q0}{x:Str}{sp:Sp}{s₁:h_}{vs:List b_}{ns:List Int}(KX:K.In s₁.heap)(hns:s₁.heap.Ns Qo mg)(hb:s₁.heap.Ns WR mb)(hbb:∀x:Str,x≠"__name__"->mb x=Sf x)(hlim:s₁.heap.NoLimit)(hg:s₁.gens = #[])(ha:s₁.heap.get? a=some { cls:=.type "list",data:=.seq vs.toArray })(hi:T9 vs ns)(hl:ns.length<=sizeLine)(hr:Room k UZ)(F:∀base:Heap,K.In base->base.Ns Qo mg->FnOk P w K mg base CX k fa fd [x] sp)(hbind:∀(s:h_)(u:b_),VA s fd ⟨[u],[]⟩ [(x,u)])(hsp:∀H:Hp,lR H->aV K H a (ns.map V.int)->sp [.ref a] H (fun v _=>v=.bl true) fun _ _ _=>False)(hCX:∀H e s',CX [] H s₁ (fun _ _ _=>False) e s'->False):T7 (O_ P w) UZ (.call (.ref fa) ⟨[.ref a],[]⟩) (fun r s'=>r=.ok (.ret (.bool true))/\OldK s₁.heap s'.heap/\s'.os=s₁.os/\Tu s'.gens) s₁:=by
 have rv:=DN hi;have lenV:=hi.length;have core:∀H:Hp,lR H->aV K H a (ns.map V.int)->cB P w H s₁.heap->(∀b,H b≠none->b=a)->(H a≠none->K.lookup a=none) ->T7 (O_ P w) UZ (.call (.ref fa) ⟨[.ref a],[]⟩) (fun r s'=>r=.ok (.ret (.bool true))/\OldK s₁.heap s'.heap/\s'.os=s₁.os/\Tu s'.gens) s₁:=by
  intro H hO hS hok hA hK;have base_of:∀{b:Addr}{o:Obj},s₁.heap.get? b=some o->H b=none->(eD s₁.heap H).get? b=some o:=fun e n=>Mr e n;have noA:∀{b:Addr}{o:Obj}{es:Array Wn}{ep:Nat},s₁.heap.get? b=some o->o.data=.dict es ep->H b=none:=fun{b o es ep} e d=>by cases q:H b with
  |none=>rfl
  |some u=>have e':b=a:=hA b (by rw[q];simp);subst e';rw[ha]at e;cases e;have d':Data.seq vs.toArray _=Data.dict es ep:=d;cases d'
  have nsK:∀{b:Addr}{m:Str->Option b_},s₁.heap.Ns b m->(eD s₁.heap H).Ns b m:=fun{b m} ⟨o,es,ep,e,d,r⟩=>⟨o,es,ep,base_of e (noA e d),d,r⟩
  have hKb:K.In (eD s₁.heap H):=fun b o e=>base_of (KX b o e) (by cases q:H b with
  |none=>rfl
  |some u=>have e':b=a:=hA b (by rw[q];simp);subst e';rw[hK (by rw[q];simp)]at e;cases e)
  have hM:Mod K mg (eD s₁.heap H):=⟨hKb,nsK hns,⟨mb,nsK hb,hbb⟩,let⟨mc,h1,h2⟩:=hlim;⟨mc,nsK h1,h2⟩⟩
  have e0:Env0 P w K mg (eD s₁.heap H) UZ [] s₁ H:=⟨rfl,hM,fun b o e=>JH e,SZ (Nd _ _),trivial,fun b hb=>absurd (show b∈([]:List Addr)from hb) (by simp),hok,.of_eq hg⟩
  refine Sg ((F _ hKb (nsK hns)).run UZ [] s₁ H ⟨[.ref a],[]⟩ [.ref a] [.ref a] _ _ hr e0 (hbind s₁ (.ref a)) (.cons rfl .nil) (hsp H hO hS)) fun r s' h=>?_;cases r with
 |error e=>exact(hCX H e s' h).elim
 |ok fl=>cases fl with
  |next=>exact Rx h
  |brk=>exact Rx h
  |cont=>exact Rx h
  |ret u=>obtain⟨v,H',os,bare,un,hok',r',q⟩:=h;have q':v=.bl true:=q;subst q';obtain rfl:u=Value.bool true:=r';refine⟨rfl,OldK.of_keep fun b o e=>?_,os,bare⟩;cases q:H b with
   |none=>exact un.keep b o e q (by intro z;exact absurd (show b∈([]:List Addr)from z) (by simp)) (by simp)
   |some u=>
     rcases hO b with z|⟨ob,xs,z⟩
     .rw[q]at z;cases z
     .have z2:=un.frzs b ob _ z;obtain⟨e1,_⟩:=hok b _ z;obtain⟨e2,_⟩:=hok' b _ z2;rw[e]at e1;cases e1;exact e2
 cases hk:K.lookup a with
|some o=>have e:=KX a o hk;rw[ha]at e;cases e;refine core (fun _=>none) (fun _=>.inl rfl) (.inr ⟨_,vs.toArray,_,hk,rfl,rfl,rfl,by rw[s_,lenV];exact hl,by simpa using rv⟩) (fun b u z=>by have z':(none:Option HO)=some u:=z;cases z') (fun b z=>absurd rfl z) fun z=>absurd rfl z
|none=>
  refine core (fun b=>if b=a then some (.frz { cls:=.type "list",data:=.seq vs.toArray } (.lst (ns.map V.int)))else none) (fun b=>?_) (.inl (.inr ⟨{ cls:=.type "list",data:=.seq vs.toArray },if_pos rfl⟩)) (fun b u z=>?_) (fun b z=>?_) fun _=>hk
  .by_cases hb:b=a
   .exact .inr ⟨_,_,if_pos hb⟩
   .exact .inl (if_neg hb)
  .by_cases hb:b=a
   .have z':=(if_pos hb).symm.trans z;cases z';subst hb;exact⟨ha,by rw[m_];exact hl,vs,_,rv,ha⟩
   .have z':=(if_neg hb).symm.trans z;cases z'
  .by_cases hb:b=a
   .exact hb
   .exact absurd (if_neg hb) z
abbrev aD{K:W.Frag}{h:Heap}(_:K.In h):W.Frag:=K
theorem jG{l:W.OpenLaw}{n k:Nat}{q:B_}{loose:List Str}{XP:(Str->Option b_)->Heap->Prop}{YP:PP->Heap->Prop}{d:DefRec}{K:Params->W.Frag}{CX:PP->gI}{sp:PP->Sp}{x:Str}(hn:l.most=some n)(hn2:n<=sizeLine)(hdf:d.params.defaults=[])(hr:Room k UZ)(hY:∀(w:PP)(h:Heap),YP w h->(K w.params).In h)(F:∀(w:PP)(mg:Str->Option b_)(fa:Addr)(h:Heap),(K w.params).In h->h.Ns Qo mg->mg d.name=some (.ref fa) ->∃fd:Q0,(∀(s:h_)(u:b_),VA s fd ⟨[u],[]⟩ [(x,u)]) /\∀base:Heap,(K w.params).In base->base.Ns Qo mg->FnOk l.prog w (K w.params) mg base (CX w) k fa fd [x] (sp w))(hsp:∀(w:PP)(H:Hp)(a:Addr)(ns:List Int),ns.length<=n->lR H->aV (K w.params) H a (ns.map V.int)->sp w [.ref a] H (fun v _=>v=.bl true) fun _ _ _=>False)(hCX:∀(w:PP)(H:Hp)(s:h_)(e:b_)(s':h_),CX w [] H s (fun _ _ _=>False) e s'->False):W.WalkO q loose XP YP l.row.toRowW d [] (fun f vs=>W3 f vs):=by refine Att.attach_call hn hdf fun w s₀ s₁ mg mb fa o pm cd doc a vs ns G Y ho hd hcd hmg hobj hints hlen hg=>?_;have KX:=hY w _ Y;obtain⟨fd,hb,hF⟩:=F w mg fa _ KX G.T.g hmg;exact Mu KX G.T.g G.T.b G.T.builtins G.T.nolimit hg hobj hints (PQ hlen hn2) hr hF hb (fun H hO hS=>hsp w H a ns hlen hO hS) fun H e s'=>hCX w H s₁ e s'
def gM(s:Stmt):Arguments:=match s with
|.FunctionDef _ a _ _ _ _ _ _ _ _=>a
|_=>{ posonlyargs:=[],args:=[],vararg:=none,kwonlyargs:=[],kw_defaults:=[],kwarg:=none,defaults:=[] }
def d7(s:Stmt):List Stmt:=match s with
|.FunctionDef _ _ b _ _ _ _ _ _ _=>b
|_=>[]
def ax(s:Stmt):R9:=match s with
|.FunctionDef _ _ _ _ _ _ sc _ _ _=>sc
|_=>{ kind:=.function,names:=[],isGenerator:=false,isCoroutine:=false }
abbrev bN:gI:=fun _ _ _ _ _ _=>False
abbrev E0:XK:=fun _ _ _=>False
theorem pJ{X:Cx}:sR bN X E0:=fun _ _ _ _ _ _ _ h=>h.elim
structure Fun(K:W.Frag)(x qual:Str)(st:Stmt)(f:Addr)(fd:Q0):Prop where
 ex:∃(oc:b_)(od:Option Addr)(kV doc pm:b_)(an:Option Addr)(cdv ct:b_)(osl:Array (Option b_)),fd=W.fnOf x qual (gM st) (d7 st) (ax st) .none kV doc pm an cdv ct/\K.lookup f=some ⟨oc,od,.func fd,osl⟩/\W.codeIn K cdv qual=true
 kp:W.keepIn K (.ref f)=true
section
variable{P:B_}{w:PP}{K:W.Frag}{mg:Str->Option b_}{base:Heap}
theorem Fun.ok{x qual:Str}{st:Stmt}{f:Addr}{fd:Q0}{N ps:List Str}{k:Nat}{sp:Sp}(F:Fun K x qual st f fd)(S:FnScope N ps (ax st))(len:∀vs H Q E,sp vs H Q E->vs.length=ps.length)(hbody:∀(cdv:b_)(A:P8)(outer:List Env)(s:h_)(H:Hp)(vs:List V)(Q:VK)(E:XK),Room k (A.deeper (S0 qual (ax st) s.heap.objs.size f cdv))->sp vs H Q E ->∃t,cY (aW bN P w K mg base N qual (ax st) f cdv A outer s H E).nox (d7 st) t/\t { nx:=fun _ H'=>Q .non H',rt:=Q } (start N vs) H):FnOk P w K mg base bN (k+1) f fd ps sp:=by obtain⟨oc,od,kV,doc,pm,an,cdv,ct,osl,rfl,lk,hcd⟩:=F.ex;refine zz lk hcd S len fun A outer s H vs Q E hr hsp=>?_;obtain⟨t,h,q⟩:=hbody cdv A outer s H vs Q E hr hsp;exact⟨t,h.nox,q⟩
theorem Fun.binds{x qual:Str}{st:Stmt}{f:Addr}{fd:Q0}{ps:List Str}(F:Fun K x qual st f fd)(h:∀(kV doc pm:b_)(an:Option Addr)(cdv ct:b_)(us:List b_),us.length=ps.length->UH (W.fnOf x qual (gM st) (d7 st) (ax st) .none kV doc pm an cdv ct) ⟨us,[]⟩=pure (ps.zip us)):fF K fd ps []:=by obtain⟨oc,od,kV,doc,pm,an,cdv,ct,osl,rfl,lk,hcd⟩:=F.ex;exact .all (h kV doc pm an cdv ct)
theorem GR{x qual:Str}{st:Stmt}{f:Addr}{oc:b_}{od an:Option Addr}{osl:Array (Option b_)}{kV doc pm cdv ct:b_}(l:K.lookup f=some ⟨oc,od,.func (W.fnOf x qual (gM st) (d7 st) (ax st) .none kV doc pm an cdv ct),osl⟩)(c:W.codeIn K cdv qual=true)(k:W.keepIn K (.ref f)=true):Fun K x qual st f (W.fnOf x qual (gM st) (d7 st) (ax st) .none kV doc pm an cdv ct):=⟨⟨oc,od,kV,doc,pm,an,cdv,ct,osl,rfl,l,c⟩,k⟩
end
theorem ng{A:P8}{k:Nat}(hr:Room k A):A.units+1<Rt:=Q3 (Nat.add_le_add_left (by decide:1<=64) _) hr.units
section
variable{X:Cx}
theorem MC:d5 X (.builtin "len") (fun xs H Q=>∃a kvs,xs=[V.ref a]/\Rd H a (.dK kvs)/\Q (.int kvs.length) H):=by intro pz s σ H xs us Q I r h;obtain⟨a,kvs,rfl,ha,q⟩:=h;obtain⟨u,rfl,ru⟩:=bI r;cases ru;exact GO I ha fun t s' I'=>⟨.int kvs.length,H,I',⟨t,rfl⟩,q⟩
end
def Same(H H':Hp):Prop:=∀b o,H b=some o->H' b=some o
theorem Same.refl(H:Hp):Same H H:=fun _ _ h=>h
theorem Same.trans{H H1 H2:Hp}(a:Same H H1)(b:Same H1 H2):Same H H2:=fun c o h=>b c o (a c o h)
theorem Same.free{H H':Hp}(e:Same H H'){l:Addr}(h:H' l=Option.none):H l=Option.none:=by cases q:H l with
|none=>rfl
|some o=>rw[e l o q]at h;cases h
theorem Same.seq{K:W.Frag}{H H':Hp}{a:Addr}{xs:List V}(e:Same H H')(h:aV K H a xs):aV K H' a xs:=by
 rcases h with(h|⟨o,h⟩)|h
 .exact .inl (.inl (e _ _ h))
 .exact .inl (.inr ⟨o,e _ _ h⟩)
 .exact .inr h
end L2
end
namespace DL
open PySem
section
open PySem.SeqAt
open PySem.AutoSeq1 (wpAny_loadPart')
open PySem.MeetsSeq PySem.MeetsSeq2 PySem.MeetsSeq3
end
end DL
namespace DL
open PySem PyProof.Rows
theorem OD:XZ (.type "tuple") (.type "set")=pure false:=by rw[isSubtype_type];kernel_rfl
theorem OM:XZ (.type "tuple") (.type "frozenset")=pure false:=by rw[isSubtype_type];kernel_rfl
section
variable{prog:B_}{w:PP}{A:P8}{E:b_->h_->Prop}{s:h_}
abbrev dH(led:Bool):Obj:={ cls:=.type "set",dict:=none,data:=.set #[] 0 (.fresh 0 0 led) }
def sS(prog:B_)(w:PP)(s:h_)(ns:List Int)(n:Nat)(h':Heap):Prop:=h'.SetOf (V5 prog w) s.heap.objs.size (fun k=>(Vn (fun i=>ns.getD i 0) n).any (· == k)) (Vn (fun i=>ns.getD i 0) n).length/\∀b o,b<s.heap.objs.size->s.heap.get? b=some o->h'.get? b=some o
set_option maxHeartbeats 3200000 in
theorem OA{t:Addr}{items:Array b_}{ns:List Int}{led:Bool}{R:WV->h_->Prop}(hh:A.handled=none)(ht:s.heap.IsTuple t items)(hi:T9 items.toList ns)(hb:items.size+1<RQ)(hR:∀h' tk,sS prog w s ns items.size h'->R (.ok (.ret .none)) { s with heap:=h',toks:=tk }):D_ (O_ prog w) A.in1 (Tx.«set.__init__» ⟨[.ref s.heap.objs.size,.ref t],[]⟩) (fun fin s'=>match fin with|.done f=>R (.ok f) s'|.again c'=>c'.quiet=true/\T7 (O_ prog w) A c' R s') (fun e s'=>R (.error e) s') { s with heap:=s.heap.push (dH led) }:=by
 obtain⟨⟨ocls,odict,odata,oslots⟩,hol,hcl,nl,hdl⟩:=ht;simp only at hcl hdl;subst hcl;subst hdl;have hol1:=e_ (dH led) hol;have g1:=OD;have g2:=OM;have g3:(Value.type "tuple" == Value.type "dict")=false:=by decide
 have hT1:(s.heap.push (dH led)).IsTuple t items:=⟨_,hol1,rfl,nl,rfl⟩
 have hS:(s.heap.push (dH led)).get? s.heap.objs.size=some (dH led):=w_ _ rfl;unfold Tx.«set.__init__» noKeywords TW;generalize hPI:WU=PI
 wp_walk
 subst hPI;refine Qz hT1 (d_ (wpAny_runValue ?_));have ltT:t<s.heap.objs.size:=x_ hol;have z1:(s.heap.push (dH led)).objs.size=s.heap.objs.size+1:=Qj ..;have neI:t≠(s.heap.push (dH led)).objs.size:=by rw[z1];exact PH (Rh ltT)
 have hout:s.heap.objs.size∉[(s.heap.push (dH led)).objs.size,t]:=by rw[z1];simp only[q_,Ql,or_false,not_or];exact⟨PH (Rv _),Q7 ltT⟩
 have hval:∀(i:Nat)(v:b_),items[i]? = some v->∃tk,v=.int ((fun i=>ns.getD i 0) i) tk:=fun i v hv=>IntsAre.int_at hi i v (by rw[Q1];exact hv);refine codeAny_set_update_loopS ((Walks.tuple (A:=A.in1.in1) hh _ t neI items).toS) s.heap.objs.size hout (fun i=>ns.getD i 0) hval hb (items.size-0) 0 _ (by omega) (Qa _) ⟨⟨_,w_ _ rfl,rfl,rfl⟩,hT1.push _⟩ ?_ fun s' hm hS'=>?_
 .exact SetOf_congr ((setObjOf_fresh (knd:=V5 prog w) led).setOf (e_ _ hS) (by unfold RQ;omega)) (fun _=>rfl) rfl
 .obtain⟨h',g',d',tk',os'⟩:=s';obtain rfl:g'=s.gens:=hm.gens;obtain rfl:d'=s.drawn:=hm.drawn;obtain rfl:os'=s.os:=hm.os;show D_ _ _ _ _ _ _;refine t_ ?_;show D_ _ _ (ret Value.none) _ _ _;refine t_ (hR h' tk' ⟨hS',fun b o hb2 e=>?_⟩);refine hm.heap b o ?_ (e_ _ (e_ _ e));rw[z1];simp only[q_,Ql,or_false,not_or];exact⟨PH hb2,PH (Rh hb2)⟩
set_option maxHeartbeats 3200000 in
theorem Oz{t:Addr}{items:Array b_}{ns:List Int}{Q:b_->h_->Prop}(hh:A.handled=none)(ht:s.heap.IsTuple t items)(hi:T9 items.toList ns)(hb:items.size+1<RQ)(h:∀h' tk,sS prog w s ns items.size h'->Q (.ref s.heap.objs.size) { s with heap:=h',toks:=tk }):D_ (O_ prog w) A (call (.type "set") [.ref t]) Q E s:=by
 obtain⟨c,tl,hmro⟩:=F.called_set.mro;have a1:=F.called_set.made;have a2:=F.called_set.sub;refine WW (Va ?_);show D_ _ _ (callAny (.type "set") _) _ _ _;refine t_ ⟨VR _ (by decide+kernel),Sx F.entry_type_call ?_⟩;rw[VS (Vg "set" [.ref t] []) rfl];have a3:=F.called_set.notType;have a4:=F.called_set.canCreate;have a5:=F.typeCall_set_1 (.ref t)
 repeat (any_goals (first|assumption|wp_step))
 refine Sg (code_set_new_1 (.ref t) (E:=E) (Q₁:=fun obj s₁=>∃led:Bool,obj=.ref s.heap.objs.size/\s₁={ s with heap:=s.heap.push (dH led) }) fun led=>⟨led,rfl,rfl⟩) fun r s₁ hr=>?_;cases r with
|error e=>exact hr
|ok fl=>cases fl with
 |ret obj=>
   obtain⟨led,rfl,rfl⟩:=hr;have hT:XG { s with heap:=s.heap.push (dH led) } (.ref s.heap.objs.size) "set" := ⟨_,w_ _ rfl,rfl⟩
   have b1:=F.called_set.init.lookup;have b2:=F.called_set.init.bind (.ref s.heap.objs.size)
   repeat (any_goals (first|assumption|wp_step))
   refine Sg (Vo (R:=wants (fun r s₂=>r=.none/\∃h' tk,s₂={ s with heap:=h',toks:=tk }/\sS prog w s ns items.size h') E) F.called_set.init.plain F.entry_set_init (Wo hT ?_)) fun r₂ s₂ hr₂=>?_
   .refine OA (A:=A.in1) (led:=led) hh ht hi hb fun h2 tk he=>?_;exact⟨rfl,h2,tk,rfl,he⟩
   .cases r₂ with
   |error e=>exact hr₂
   |ok fl₂=>cases fl₂ with
    |ret r=>
      obtain⟨rfl,h',tk,rfl,he⟩:=hr₂
      repeat (any_goals (first|assumption|wp_step))
      exact h _ _ he
    |_=>exact hr₂.elim
 |_=>exact hr.elim
end
end DL
namespace DL
open PySem PyProof.Rows PySem.W
def AO{α:Type}(c:Nat->Nat->Bool):KasT α->α
|.ret a=>a
|.ask i j k=>AO c (k (c i j))
inductive Asks(n:Nat){α:Type}(P:α->Prop):KasT α->Prop where
 |ret {a:α}:P a->Asks n P (.ret a)
 |ask {i j:Nat} {k:Bool->KasT α}:i<n->j<n->(∀b,Asks n P (k b))->Asks n P (.ask i j k)
theorem Asks.bind{n:Nat}{α β:Type}{P:α->Prop}{P':β->Prop}{t:KasT α}{f:α->KasT β}(h:Asks n P t)(hf:∀a,P a->Asks n P' (f a)):Asks n P' (t.bind f):=by induction h with
|ret h=>exact hf _ h
|ask h1 h2 _ ih=>exact .ask h1 h2 ih
theorem Asks.run{n:Nat}{α:Type}{P:α->Prop}{t:KasT α}(h:Asks n P t)(c:Nat->Nat->Bool):P (AO c t):=by induction h with
|ret h=>exact h
|ask _ _ _ ih=>exact ih _
theorem Asks.mono{n:Nat}{α:Type}{P P':α->Prop}{t:KasT α}(h:Asks n P t)(hp:∀a,P a->P' a):Asks n P' t:=by induction h with
|ret h=>exact .ret (hp _ h)
|ask h1 h2 _ ih=>exact .ask h1 h2 ih
def sD(n:Nat)(p:Array Nat):Prop:=p.toList.Perm (a_ n)
theorem sD.rev{n:Nat}{p:Array Nat}(h:sD n p)(i j:Nat):sD n (kas_rev p i j):=(Array.perm_iff_toList_perm.mp (mirror_perm p i j ((j-i)/2))).trans h
section
variable{n:Nat}(hn:0<n)
include hn
end
end DL
namespace DL
open PySem PyProof.Rows PySem.W PySem.Calls
end DL
namespace DL
open PySem PySem.Spec PyProof.Rows L2 PySem.W PySem.Calls
structure Lft(fr:List Addr)(a:Addr)(oe:Obj)(vs:Array b_)(T:Option Addr)(v:b_)(h h':Heap):Prop where
 keep:∀b o,b∉fr->b≠a->T≠some b->h.get? b=some o->h'.get? b=some o
 slot:∀b o,h.get? b=some o->(∀vs:Array b_,o.data≠Data.fields vs)->∃sl,h'.get? b=some { cls:=o.cls,dict:=o.dict,data:=o.data,slots:=sl }
 obj:∃tb ot ts,(h.get? tb=none\/T=some tb)/\tb≠a/\h'.get? a=some { cls:=oe.cls,dict:=oe.dict,data:=.fields (vs.setIfInBounds 1 (.ref tb)),slots:=oe.slots }/\h'.get? tb=some ot/\ot.data=.fields ts/\ts[3]? = some v
def GL(h B:Heap)(a:Addr)(cls:b_)(od L:Option Addr):Prop:=∃oe vs,h.get? a=some oe/\oe.cls=cls/\(∀dx,od=some dx->oe.dict=some dx)/\oe.data=.fields vs /\(vs[1]? = some Value.none\/(∃T oT ts,vs[1]? = some (.ref T)/\B.get? T=none/\T≠a/\h.get? T=some oT/\oT.data=.fields ts/\ts[3]? = some Value.none) \/∃l T oT ts,L=some l/\vs[1]? = some (.ref T)/\B.get? T=none/\T≠a/\h.get? T=some oT/\oT.data=.fields ts/\ts[3]? = some (US ↑l))
def yy(st:List Env):Option Addr:=st.head?.bind (·.frame)
structure Fly(P:B_)(w:PP)(st:List Env)(H:Hp)(s:h_)(H':Hp)(a:Addr)(cls:b_)(od:Option Addr)(s':h_):Prop where
 os:s'.os=s.os
 bare:Tu s'.gens
 un:Un (dC st) [] H H' s.heap s'.heap
 hok:cB P w H' s'.heap
 ex:∃B:Heap,B.StaysIn s'.heap/\B.get? a=none/\s'.heap.FunFrames B st/\GL s'.heap B a cls od (yy st) /\(∀b o,s.heap.get? b=some o->b∉dC st->∃o',B.get? b=some o')/\∀b u,H' b=some u->∃o',B.get? b=some o'
def PD(P:B_)(w:PP):gI:=fun outer H s E e s'=>∃a cls H' od,e=.ref a/\Fly P w outer H s H' a cls od s'/\E cls od H'
theorem Iw{P:B_}{w:PP}{H:Hp}{h:Heap}{a:Addr}{o:HO}(x:bZ P w H h a o):∃u,h.get? a=some u:=by cases o with
|lst xs=>obtain⟨_,_,_,_,e⟩:=x;exact⟨_,e⟩
|tup xs=>obtain⟨_,_,_,_,o,e,_⟩:=x;exact⟨_,e⟩
|dK kvs=>obtain⟨_,_,_,_,o,_,_,e,_⟩:=x;exact⟨_,e⟩
|dT kvs=>obtain⟨_,_,_,_,o,_,_,e,_⟩:=x;exact⟨_,e⟩
|set S n=>obtain⟨o,_,_,_,e,_⟩:=x;exact⟨_,e⟩
|ins C dx fs=>obtain⟨_,_,_,e,_⟩:=x;exact⟨_,e⟩
|own y=>exact x
|xd fs=>obtain⟨_,⟨_,_,_,e,_⟩,_⟩:=x;exact⟨_,e⟩
|rng lo hi=>obtain⟨_,_,_,e⟩:=x;exact⟨_,e⟩
|frz ob u=>obtain⟨e,_⟩:=x;exact⟨_,e⟩
|tbl ps=>exact⟨_,(show h.get? a=some _ from x)⟩
|met f y=>exact⟨_,(show h.get? a=some _ from x)⟩
|ext φ=>exact x.2.1
abbrev yw:List b_:=[Value.type "ValueError",Value.type "Exception",Value.type "BaseException",Value.type "object"]
structure XC(K:W.Frag)(mg:Str->Option b_)(x:Str)(C:Addr):Prop where
 bound:mg x=some (.ref C)
 exc:excIn K C yw "ValueError.__new__" = true
section
variable{X:Cx}{pz:List (Addr×Obj)}{σ:L2.St}{H:Hp}{s:h_}{x:Str}{C:Addr}{np cpos pos:Pos}{e₀:Expr}{rest:List Expr}{t:TA}
theorem Fly.made{h':Heap}{e:Addr}{cls:b_}{vs:List b_}(I:Inv X pz σ H s)(m:s.heap.MadeExcOf h' e cls vs):Fly X.prog X.w X.stack H s H e cls none { heap:=h',gens:=s.gens,drawn:=s.drawn,toks:=s.toks,os:=s.os }:=by
 obtain⟨t,m1,m2,m3⟩:=m.there;have hst:∀b o,(X8 s.heap (dC X.stack)).get? b=some o->h'.get? b=some o:=fun b o e=>m.keeps b o (of_hideAll _ e);refine⟨rfl,I.bare,Un.kept m.keeps,I.hok.kept m.keeps,X8 s.heap (dC X.stack),hst,?_,?_,⟨_,_,m1,rfl,(fun _ e=>nomatch e),rfl,.inl rfl⟩,fun b o e n=>⟨o,hideAll_get _ e n⟩,fun b u e=>?_⟩
 .cases q:(X8 s.heap (dC X.stack)).get? e with
 |none=>rfl
 |some o=>have:=of_hideAll _ q;rw[m.new]at this;cases this
 .have ff:=I.stack;have key:∀l:List Env,(∀b∈dC l,b∈dC X.stack)->s.heap.FunFrames X.base l->h'.FunFrames (X8 s.heap (dC X.stack)) l:=by
   intro l
   induction l with
  |nil=>intro _ _;unfold W4;trivial
  |cons env l ih=>
    intro hs hf;unfold W4 at hf ⊢;obtain⟨f1,⟨L,o,f2,f3,f4,f5⟩,f6⟩:=hf;refine⟨f1,⟨L,o,f2,hideAll_none _ (hs L ?_),m.keeps _ _ f4,f5⟩,ih (fun b hb=>hs b ?_) f6⟩
    .unfold dC;rw[Qt,f2];exact g_
    .unfold dC;rw[Qt,f2];exact f_ _ hb
  exact key X.stack (fun _ hb=>hb) ff
 .obtain⟨o,eo⟩:=Iw (I.hok b u e);exact⟨o,hideAll_get _ eo fun z=>by rw[I.stkFree b z]at e;cases e⟩
end
end DL
namespace DL
open PySem PySem.Spec PyProof.Rows L2
inductive D where
 |non|bl (b:Bool)|int (i:Int)|str (x:Str)
 |tup (ds:List D)|lst (ds:List D)
 |dic (kvs:List (aB×D))
 |obj (c:Nat) (fs:List (Str×D))
instance:Inhabited D:=⟨.non⟩
inductive Res(α:Type) where
 |ok (a:α)|exc (x:D)|stuck
def Res.bind{α β:Type}(r:Res α)(f:α->Res β):Res β:=match r with
|.ok a=>f a
|.exc x=>.exc x
|.stuck=>.stuck
@[simp] theorem bind_ok{α β:Type}(a:α)(f:α->Res β):(Res.ok a).bind f=f a:=rfl
@[simp] theorem bind_exc{α β:Type}(x:D)(f:α->Res β):(Res.exc x:Res α).bind f=.exc x:=rfl
@[simp] theorem bind_stuck{α β:Type}(f:α->Res β):(Res.stuck:Res α).bind f=.stuck:=rfl
def fin{α:Type}(r:Res α)(q:α->Prop)(x:D->Prop):Prop:=match r with
|.ok a=>q a
|.exc e=>x e
|.stuck=>False
theorem aP{α:Type}{r:Res α}{q q':α->Prop}{x:D->Prop}(h:fin r q x)(hq:∀a,q a->q' a):fin r q' x:=by cases r with
|ok a=>exact hq a h
|exc e=>exact h
|stuck=>exact h
theorem aS{α β:Type}{r:Res α}{f:α->Res β}{q:β->Prop}{x:D->Prop}(h:fin (r.bind f) q x):fin r (fun a=>fin (f a) q x) x:=by cases r with
|ok a=>exact h
|exc e=>exact h
|stuck=>exact h
abbrev GH:=Addr->Option D
inductive Scl:V->D->Prop where
 |non:Scl .non .non
 |bl (b:Bool):Scl (.bl b) (.bl b)
 |int (i:Int):Scl (.int i) (.int i)
 |str (x:Str):Scl (.str x) (.str x)
inductive KC(K:W.Frag)(a:Addr):D->Prop where
|lst {xs:List V} {ds:List D}:aV K (fun _=>none) a xs->Paired Scl xs ds->KC K a (.lst ds)
|tup {xs:List V} {ds:List D}:bO K (fun _=>none) a xs->Paired Scl xs ds->(∃o,K.lookup a=some o/\o.cls=.type "tuple"/\o.dict=none)->KC K a (.tup ds)
inductive RG(K:W.Frag)(G:GH):V->D->Prop where
 |scl {v:V} {d:D}:Scl v d->RG K G v d
 |ref {a:Addr} {d:D}:G a=some d->RG K G (.ref a) d
 |kc {a:Addr} {d:D}:KC K a d->RG K G (.ref a) d
abbrev bA(K:W.Frag)(G:GH):List V->List D->Prop:=Paired (RG K G)
abbrev d4(K:W.Frag)(G:GH):List (aB×V)->List (aB×D)->Prop:=Paired fun p q=>p.1=q.1/\RG K G p.2 q.2
abbrev xD(nm:Str)(ds:List (Str×D)):D:=.obj 0 (("__class__",.str nm)::ds)
def XN(K:W.Frag)(nm:Str)(C:Addr):Prop:=∃o cd,K.lookup C=some o/\o.data=Data.cls cd/\cd.name=nm
def Fp(a C:Addr)(od:Option Addr):Heap->Prop:=fun h=>∃oe vs,h.get? a=some oe/\oe.cls=.ref C/\(∀dx,od=some dx->oe.dict=some dx)/\oe.data=.fields vs
def XF(G:GH)(od:Option Addr)(ds:List (Str×D)):Prop:=match od with
|none=>ds=[]
|some dx=>G dx=some (.obj 1 ds)
theorem XF.mono{G G':GH}{od:Option Addr}{ds:List (Str×D)}(h:XF G od ds)(ge:∀a d,G a=some d->G' a=some d):XF G' od ds:=by cases od with
|none=>exact h
|some dx=>exact ge _ _ h
abbrev Fv(K:W.Frag)(G:GH):List (Str×V)->List (Str×D)->Prop:=Paired fun p q=>p.1=q.1/\RG K G p.2 q.2
abbrev iD(nm:Str)(ds:List (Str×D)):D:=.obj 2 (("__class__",.str nm)::ds)
inductive OB(K:W.Frag)(G:GH)(H:Hp)(a:Addr):D->Prop where
 |lst {xs:List V} {ds:List D}:Rd H a (.lst xs)->bA K G xs ds->OB K G H a (.lst ds)
 |tup {xs:List V} {ds:List D}:Rd H a (.tup xs)->bA K G xs ds->OB K G H a (.tup ds)
 |dic {ob:Obj} {ps:List (aB×V)} {kvs:List (aB×D)}:H a=some (.frz ob (.dK ps))->d4 K G ps kvs->OB K G H a (.dic kvs)
 |exc {nm:Str} {C:Addr} {od:Option Addr} {ds:List (Str×D)}:H a=some (.ext (Fp a C od))->XN K nm C->XF G od ds->OB K G H a (xD nm ds)
 |fld {fs:List (Str×V)} {ds:List (Str×D)}:H a=some (.xd fs)->Fv K G fs ds->OB K G H a (.obj 1 ds)
 |ins {nm:Str} {C dx:Addr} {fs:List (Str×V)} {ds:List (Str×D)}:H a=some (.ins C dx fs)->XN K nm C->Fv K G fs ds->OB K G H a (iD nm ds)
def aM(K:W.Frag)(G:GH)(H:Hp):Prop:=∀a d,G a=some d->OB K G H a d
inductive OwnO(K:W.Frag)(G:GH)(H:Hp)(a:Addr):D->Prop where
 |lst {xs:List V} {ds:List D}:H a=some (.lst xs)->bA K G xs ds->OwnO K G H a (.lst ds)
 |dic {ps:List (aB×V)} {kvs:List (aB×D)}:H a=some (.dK ps)->d4 K G ps kvs->OwnO K G H a (.dic kvs)
structure Own(K:W.Frag)(G:GH)(H:Hp)(a:Addr)(d:D):Prop where
 un:G a=none
 ob:OwnO K G H a d
structure Grow(K:W.Frag)(G:GH)(H:Hp)(G':GH)(H':Hp):Prop where
 ok:aM K G' H'
 he:∀a o,H a=some o->H' a=some o
 ge:∀a d,G a=some d->G' a=some d
 gf:∀a,H a≠none->G' a=G a
section
variable{K:W.Frag}{G G' G1 G2:GH}{H H' H1 H2:Hp}{a p:Addr}{d:D}{v:V}
theorem Rd.mono{u:HO}(h:Rd H a u)(he:∀a o,H a=some o->H' a=some o):Rd H' a u:=by
 rcases h with h|⟨o,h⟩
 .exact .inl (he _ _ h)
 .exact .inr ⟨o,he _ _ h⟩
theorem Rd.isS{u:HO}(h:Rd H a u):H a≠none:=by rcases h with h|⟨o,h⟩ <;> rw[h] <;> simp
theorem RG.mono(h:RG K G v d)(ge:∀a d,G a=some d->G' a=some d):RG K G' v d:=by cases h with
|scl s=>exact .scl s
|ref e=>exact .ref (ge _ _ e)
|kc k=>exact .kc k
theorem bA.mono{xs:List V}{ds:List D}(h:bA K G xs ds)(ge:∀a d,G a=some d->G' a=some d):bA K G' xs ds:=Paired.mono (fun _ _ r=>r.mono ge) h
theorem d4.mono{xs:List (aB×V)}{ds:List (aB×D)}(h:d4 K G xs ds)(ge:∀a d,G a=some d->G' a=some d):d4 K G' xs ds:=Paired.mono (fun _ _ r=>⟨r.1,r.2.mono ge⟩) h
theorem OB.mono(h:OB K G H a d)(ge:∀a d,G a=some d->G' a=some d)(he:∀o,H a=some o->H' a=some o):OB K G' H' a d:=by
 have rd:∀{u:HO},Rd H a u->Rd H' a u:=fun r=>by
  rcases r with r|⟨o,r⟩
  .exact .inl (he _ r)
  .exact .inr ⟨o,he _ r⟩
 cases h with
|lst r s=>exact .lst (rd r) (s.mono ge)
|tup r s=>exact .tup (rd r) (s.mono ge)
|dic r s=>exact .dic (he _ r) (d4.mono s ge)
|exc r n f=>exact .exc (he _ r) n (f.mono ge)
|fld r s=>exact .fld (he _ r) (Paired.mono (fun _ _ r=>⟨r.1,r.2.mono ge⟩) s)
|ins r n s=>exact .ins (he _ r) n (Paired.mono (fun _ _ r=>⟨r.1,r.2.mono ge⟩) s)
theorem OB.isS(h:OB K G H a d):H a≠none:=by cases h with
|lst r s=>exact Rd.isS r
|tup r s=>exact Rd.isS r
|dic r s=>rw[r];simp
|exc r n f=>rw[r];simp
|fld r s=>rw[r];simp
|ins r n s=>rw[r];simp
theorem aM.isN(g:aM K G H)(h:H p=none):G p=none:=by cases e:G p with
|none=>rfl
|some d=>exact absurd h (g p d e).isS
theorem OwnO.isS(h:OwnO K G H a d):H a≠none:=by cases h with
|lst r s=>rw[r];simp
|dic r s=>rw[r];simp
theorem OwnO.mono(h:OwnO K G H a d)(ge:∀a d,G a=some d->G' a=some d)(he:∀o,H a=some o->H' a=some o):OwnO K G' H' a d:=by cases h with
|lst r s=>exact .lst (he _ r) (s.mono ge)
|dic r s=>exact .dic (he _ r) (d4.mono s ge)
theorem Own.mono(h:Own K G H a d)(w:Grow K G H G' H'):Own K G' H' a d:=⟨by rw[w.gf a h.ob.isS];exact h.un,h.ob.mono w.ge fun o e=>w.he _ _ e⟩
def fz(H:Hp)(a:Addr)(ob:Obj):Hp:=match H a with
|some (.dK ps)=>upd H a (.frz ob (.dK ps))
|_=>H
theorem mY{b:Addr}{ob:Obj}(h:b≠a):fz H a ob b=H b:=by unfold fz;cases e:H a with
|none=>rfl
|some u=>cases u <;> first|rfl|exact bf h
theorem GT{xs:List V}{ob:Obj}(h:H a=some (.lst xs)):fz H a ob=H:=by unfold fz;rw[h]
theorem GS{ps:List (aB×V)}{ob:Obj}(h:H a=some (.dK ps)):fz H a ob a=some (.frz ob (.dK ps)):=by unfold fz;rw[h];exact ce
theorem OwnO.fast(h:OwnO K G H a d)(ob:Obj):OB K G (fz H a ob) a d:=by cases h with
|lst r s=>rw[GT r];exact .lst (.inl r) s
|dic r s=>exact .dic (GS r) s
theorem aM.fast(g:aM K G H)(hn:G a=none)(ob:Obj):aM K G (fz H a ob):=fun b d e=>by
 have hb:b≠a:=by rintro rfl;rw[hn]at e;cases e
 exact(g b d e).mono (fun _ _ z=>z) fun o z=>by rw[mY hb];exact z
theorem Grow.refl(g:aM K G H):Grow K G H G H:=⟨g,fun _ _ e=>e,fun _ _ e=>e,fun _ _=>rfl⟩
theorem Grow.trans(x:Grow K G H G1 H1)(y:Grow K G1 H1 G2 H2):Grow K G H G2 H2:=
 ⟨y.ok,fun a o e=>y.he _ _ (x.he _ _ e),fun a d e=>y.ge _ _ (x.ge _ _ e),fun a h=>by
  have h1:H1 a≠Option.none:=by cases e:H a with
  |none=>exact absurd e h
  |some o=>rw[x.he _ _ e];simp
  rw[y.gf a h1,x.gf a h]⟩
def gset(G:GH)(a:Addr)(d:D):GH:=fun b=>if b=a then some d else G b
theorem cM:gset G a d a=some d:=if_pos rfl
theorem df{b:Addr}(h:b≠a):gset G a d b=G b:=if_neg h
theorem dR(hn:G a=none):∀b e,G b=some e->gset G a d b=some e:=fun b e h=>by
 have:b≠a:=by rintro rfl;rw[hn]at h;cases h
 rw[df this];exact h
theorem aM.gset(g:aM K G H)(hn:G a=none)(o:OB K G H a d):aM K (gset G a d) H:=fun b e h=>by
 by_cases hb:b=a
 .subst hb;rw[cM]at h;cases h;exact o.mono (dR hn) fun _ q=>q
 .rw[df hb]at h;exact(g b e h).mono (dR hn) fun _ q=>q
theorem Bm(hn:H p=none){o:HO}:∀a u,H a=some u->upd H p o a=some u:=fun a u e=>by rw[bf (kZ e hn)];exact e
theorem Grow.new(g:aM K G H)(hn:H p=none)(o:HO):Grow K G H G (upd H p o):=⟨fun a d e=>(g a d e).mono (fun _ _ q=>q) fun u q=>Bm hn _ _ q,fun a u e=>Bm hn _ _ e,fun _ _ e=>e,fun _ _=>rfl⟩
theorem Grow.newF(g:aM K G H)(hn:H p=none){o:HO}(ob:OB K G (upd H p o) p d):Grow K G H (gset G p d) (upd H p o):=by have w:=Grow.new g hn o;have gn:=g.isN hn;exact⟨w.ok.gset gn ob,w.he,fun a e h=>dR gn a e h,fun a h=>df (by rintro rfl;exact h hn)⟩
theorem Grow.frz(w:Grow K G H G' H')(hn:H a=none)(o:Own K G' H' a d)(ob:Obj):Grow K G H (gset G' a d) (fz H' a ob):=⟨(w.ok.fast o.un ob).gset o.un (o.ob.fast ob),fun b u e=>by rw[mY (by rintro rfl;rw[hn]at e;cases e)];exact w.he b u e,fun b e h=>dR o.un b e (w.ge b e h),fun b h=>by rw[df (by rintro rfl;exact h hn)];exact w.gf b h⟩
theorem RG.lst{ds:List D}(g:aM K G H)(h:RG K G v (.lst ds)):∃a xs,v=.ref a/\aV K H a xs/\bA K G xs ds:=by cases h with
|scl s=>cases s
|ref e=>cases g _ _ e with
 |lst r s=>exact⟨_,_,rfl,.inl r,s⟩
|kc k=>cases k with
 |lst r s=>
   refine⟨_,_,rfl,?_,Paired.mono (fun _ _ z=>.scl z) s⟩;rcases r with(r|⟨o,r⟩)|r
   .cases r
   .cases r
   .exact .inr r
theorem RG.tup{ds:List D}(g:aM K G H)(h:RG K G v (.tup ds)):∃a xs,v=.ref a/\bO K H a xs/\bA K G xs ds:=by cases h with
|scl s=>cases s
|ref e=>cases g _ _ e with
 |tup r s=>exact⟨_,_,rfl,.inl r,s⟩
|kc k=>cases k with
 |tup r s _=>
   refine⟨_,_,rfl,?_,Paired.mono (fun _ _ z=>.scl z) s⟩;rcases r with(r|⟨o,r⟩)|r
   .cases r
   .cases r
   .exact .inr r
theorem RG.dic{kvs:List (aB×D)}(g:aM K G H)(h:RG K G v (.dic kvs)):∃a ps,v=.ref a/\Rd H a (.dK ps)/\d4 K G ps kvs:=by cases h with
|scl s=>cases s
|ref e=>cases g _ _ e with
 |dic r s=>exact⟨_,_,rfl,.inr ⟨_,r⟩,s⟩
|kc k=>cases k
theorem RG.int{i:Int}(g:aM K G H)(h:RG K G v (.int i)):v=.int i:=by cases h with
|scl s=>cases s;rfl
|ref e=>cases g _ _ e
|kc k=>cases k
theorem RG.str{x:Str}(g:aM K G H)(h:RG K G v (.str x)):v=.str x:=by cases h with
|scl s=>cases s;rfl
|ref e=>cases g _ _ e
|kc k=>cases k
theorem RG.bl{b:Bool}(g:aM K G H)(h:RG K G v (.bl b)):v=.bl b:=by cases h with
|scl s=>cases s;rfl
|ref e=>cases g _ _ e
|kc k=>cases k
theorem RG.non(g:aM K G H)(h:RG K G v .non):v=.non:=by cases h with
|scl s=>cases s;rfl
|ref e=>cases g _ _ e
|kc k=>cases k
def RB(K:W.Frag)(G:GH)(H:Hp)(v:V)(d:D):Prop:=RG K G v d\/∃a,v=.ref a/\Own K G H a d
theorem RG.rb(h:RG K G v d):RB K G H v d:=.inl h
theorem RB.mono(h:RB K G H v d)(w:Grow K G H G' H'):RB K G' H' v d:=by
 rcases h with h|⟨a,e,h⟩
 .exact .inl (h.mono w.ge)
 .exact .inr ⟨a,e,h.mono w⟩
theorem RB.lst{ds:List D}(g:aM K G H)(h:RB K G H v (.lst ds)):∃a xs,v=.ref a/\aV K H a xs/\bA K G xs ds:=by
 rcases h with h|⟨a,e,h⟩
 .exact h.lst g
 .cases h.ob with
 |lst r s=>exact⟨a,_,e,aV.of r,s⟩
theorem RB.tup{ds:List D}(g:aM K G H)(h:RB K G H v (.tup ds)):∃a xs,v=.ref a/\bO K H a xs/\bA K G xs ds:=by
 rcases h with h|⟨a,e,h⟩
 .exact h.tup g
 .cases h.ob
theorem RB.dic{kvs:List (aB×D)}(g:aM K G H)(h:RB K G H v (.dic kvs)):∃a ps,v=.ref a/\Rd H a (.dK ps)/\d4 K G ps kvs:=by
 rcases h with h|⟨a,e,h⟩
 .exact h.dic g
 .cases h.ob with
 |dic r s=>exact⟨a,_,e,.inl r,s⟩
theorem RB.int{i:Int}(g:aM K G H)(h:RB K G H v (.int i)):v=.int i:=by
 rcases h with h|⟨a,e,h⟩
 .exact h.int g
 .cases h.ob
theorem RB.str{x:Str}(g:aM K G H)(h:RB K G H v (.str x)):v=.str x:=by
 rcases h with h|⟨a,e,h⟩
 .exact h.str g
 .cases h.ob
theorem RB.bl{b:Bool}(g:aM K G H)(h:RB K G H v (.bl b)):v=.bl b:=by
 rcases h with h|⟨a,e,h⟩
 .exact h.bl g
 .cases h.ob
theorem RB.non(g:aM K G H)(h:RB K G H v .non):v=.non:=by
 rcases h with h|⟨a,e,h⟩
 .exact h.non g
 .cases h.ob
theorem Paired.get{α β:Type}{F:α->β->Prop}:∀{l:List α}{r:List β}{i:Nat}{b:β},Paired F l r->r[i]? = some b->∃a,l[i]? = some a/\F a b
|_,_,_,_,.nil,e=>by simp at e
|_,_,0,_,.cons h _,e=>by simp at e;subst e;exact⟨_,rfl,h⟩
|_,_,i+1,b,.cons _ t,e=>by obtain⟨a,h1,h2⟩:=Paired.get (i:=i) t (by simpa using e);exact⟨a,by simpa using h1,h2⟩
theorem Paired.app{α β:Type}{F:α->β->Prop}{l l':List α}{r r':List β}(h:Paired F l r)(q:Paired F l' r'):Paired F (l++l') (r++r'):=by induction h with
|nil=>exact q
|cons h _ ih=>exact .cons h ih
theorem Paired.tk{α β:Type}{F:α->β->Prop}{l:List α}{r:List β}(n:Nat)(h:Paired F l r):Paired F (l.take n) (r.take n):=by induction h generalizing n with
|nil=>cases n <;> exact .nil
|cons h _ ih=>cases n with
 |zero=>exact .nil
 |succ n=>exact .cons h (ih n)
theorem Paired.dr{α β:Type}{F:α->β->Prop}{l:List α}{r:List β}(n:Nat)(h:Paired F l r):Paired F (l.drop n) (r.drop n):=by induction h generalizing n with
|nil=>cases n <;> exact .nil
|cons h t ih=>cases n with
 |zero=>exact .cons h t
 |succ n=>exact ih n
theorem Paired.st{α β:Type}{F:α->β->Prop}{a:α}{b:β}(h:F a b){l:List α}{r:List β}(n:Nat)(p:Paired F l r):Paired F (l.set n a) (r.set n b):=by induction p generalizing n with
|nil=>exact .nil
|cons q t ih=>cases n with
 |zero=>exact .cons h t
 |succ n=>exact .cons q (ih n)
theorem Paired.er{α β:Type}{F:α->β->Prop}{l:List α}{r:List β}(n:Nat)(p:Paired F l r):Paired F (l.eraseIdx n) (r.eraseIdx n):=by induction p generalizing n with
|nil=>exact .nil
|cons q t ih=>cases n with
 |zero=>exact t
 |succ n=>exact .cons q (ih n)
end
inductive Md where
 |sh|ow|bw
 deriving DecidableEq
abbrev ak:=List (Option D)
structure GE where
 gh:GH
 h0:Hp
 hd:Nat->Option (Option V×Option D)
def Bw(K:W.Frag)(h0:Hp)(G:GH)(H:Hp)(v:V)(d:D):Prop:=RG K G v d\/∃a,v=V.ref a/\Own K G H a d/\h0 a≠none
theorem Bw.grow{K:W.Frag}{h0:Hp}{G G':GH}{H H':Hp}{v:V}{d:D}(h:Bw K h0 G H v d)(w:Grow K G H G' H'):Bw K h0 G' H' v d:=by
 rcases h with h|⟨a,e,h1,h2⟩
 .exact .inl (h.mono w.ge)
 .exact .inr ⟨a,e,h1.mono w,h2⟩
theorem Bw.rb{K:W.Frag}{h0:Hp}{G:GH}{H:Hp}{v:V}{d:D}(h:Bw K h0 G H v d):RB K G H v d:=by
 rcases h with h|⟨a,e,h1,h2⟩
 .exact .inl h
 .exact .inr ⟨a,e,h1⟩
def Lk(r:ak)(st:L2.St)(i:Nat)(o:Option V×Option D):Prop:=st[i]? = some o.1/\∀d,r[i]? = some (some d)->o.2=some d
structure SI(X:Cx)(g:GE)(m:List Md)(r:ak)(G:GH)(st:L2.St)(H:Hp):Prop where
 gok:aM X.K G H
 old:∀a o,g.h0 a=some o->H a=some o
 ge:∀a d,g.gh a=some d->G a=some d
 gf:∀a,g.h0 a≠none->G a=g.gh a
 lm:m.length=st.length
 lr:r.length=st.length
 sh:∀(i:Nat) d,r[i]? = some (some d)->m[i]? = some .sh->∃v,st[i]? = some (some v)/\RG X.K G v d
 ow:∀(i:Nat) d,r[i]? = some (some d)->m[i]? = some .ow->∃a,st[i]? = some (some (V.ref a))/\Own X.K G H a d/\g.h0 a=none
 bw:∀(i:Nat) d,r[i]? = some (some d)->m[i]? = some .bw->∃v,st[i]? = some (some v)/\Bw X.K g.h0 G H v d
 dis:∀(i j:Nat) a d e,i≠j->r[i]? = some (some d)->r[j]? = some (some e)->m[i]? = some .ow->m[j]? = some .ow->st[i]? = some (some (V.ref a))->st[j]? = some (some (V.ref a))->False
 lk:∀(i:Nat) o,g.hd i=some o->m[i]? = some .bw->Lk r st i o
section
variable{X:Cx}{g:GE}{m:List Md}{r:ak}{G G':GH}{st:L2.St}{H H':Hp}
theorem SI.grow(s:SI X g m r G st H)(w:Grow X.K G H G' H'):SI X g m r G' st H' where
 gok:=w.ok
 old:=fun a o e=>w.he _ _ (s.old a o e)
 ge:=fun a d e=>w.ge _ _ (s.ge a d e)
 gf:=fun a h=>by
  have h1:H a≠none:=by cases e:g.h0 a with
  |none=>exact absurd e h
  |some o=>rw[s.old _ _ e];simp
  rw[w.gf a h1,s.gf a h]
 lm:=s.lm
 lr:=s.lr
 sh:=fun i d h1 h2=>by obtain⟨v,h3,h4⟩:=s.sh i d h1 h2;exact⟨v,h3,h4.mono w.ge⟩
 ow:=fun i d h1 h2=>by obtain⟨a,h3,h4,h5⟩:=s.ow i d h1 h2;exact⟨a,h3,h4.mono w,h5⟩
 bw:=fun i d h1 h2=>by obtain⟨v,h3,h4⟩:=s.bw i d h1 h2;exact⟨v,h3,h4.grow w⟩
 dis:=s.dis
 lk:=s.lk
theorem SI.grown(s:SI X g m r G st H):Grow X.K g.gh g.h0 G H:=⟨s.gok,s.old,s.ge,s.gf⟩
theorem SI.frz(s:SI X g m r G st H)(i:Nat)(hi:m[i]? = some .ow):(∃G',(∀a d,G a=some d->G' a=some d)/\SI X g (m.set i .sh) r G' st H)\/∃a,∀ob,∃G',(∀a d,G a=some d->G' a=some d)/\SI X g (m.set i .sh) r G' st (fz H a ob):=by
 have hlt:i<m.length:=(k_.mp hi).1;by_cases hb:∃d,r[i]? = some (some d)
 .obtain⟨d,hd⟩:=hb;obtain⟨a,h1,h2,h3⟩:=s.ow i d hd hi;refine .inr ⟨a,fun ob=>⟨gset G a d,dR h2.un,(s.gok.fast h2.un ob).gset h2.un (h2.ob.fast ob),fun b o e=>by rw[mY (by rintro rfl;rw[h3]at e;cases e)];exact s.old b o e,fun b e h=>dR h2.un b e (s.ge b e h),fun b h=>?_,by simpa using s.lm,s.lr,?_,?_,?_,?_,fun j o hj hm=>?_⟩⟩
  .rw[df (by rintro rfl;exact h h3)];exact s.gf b h
  .intro j e hj hm;by_cases hij:i=j
   .subst hij;rw[hd]at hj;cases hj;exact⟨_,h1,.ref cM⟩
   .rw[c_ hij]at hm;obtain⟨v,q1,q2⟩:=s.sh j e hj hm;exact⟨v,q1,q2.mono (dR h2.un)⟩
  .intro j e hj hm;by_cases hij:i=j
   .subst hij;rw[o_ hlt]at hm;cases hm
   .rw[c_ hij]at hm;obtain⟨b,q1,q2,q3⟩:=s.ow j e hj hm;have hba:b≠a:=by
     rintro rfl
     exact s.dis i j b d e hij hd hj hi hm h1 q1
    exact⟨b,q1,⟨by rw[df hba];exact q2.un,q2.ob.mono (dR h2.un) fun _ z=>by rw[mY hba];exact z⟩,q3⟩
  .intro j e hj hm;by_cases hij:i=j
   .subst hij;rw[o_ hlt]at hm;cases hm
   .rw[c_ hij]at hm;obtain⟨v,q1,q2⟩:=s.bw j e hj hm;refine⟨v,q1,?_⟩;rcases q2 with q2|⟨b,rfl,q2,q3⟩
    .exact .inl (q2.mono (dR h2.un))
    .have hba:b≠a:=by rintro rfl;exact q3 h3
     exact .inr ⟨b,rfl,⟨by rw[df hba];exact q2.un,q2.ob.mono (dR h2.un) fun _ z=>by rw[mY hba];exact z⟩,q3⟩
  .intro j k b e e' hjk hj hk hm hm' q1 q2;have hij:i≠j:=by
    rintro rfl
    rw[o_ hlt]at hm;cases hm
   have hik:i≠k:=by
    rintro rfl
    rw[o_ hlt]at hm';cases hm'
   rw[c_ hij]at hm;rw[c_ hik]at hm';exact s.dis j k b e e' hjk hj hk hm hm' q1 q2
  .refine s.lk j o hj ?_;by_cases hij:i=j
   .subst hij;rw[o_ hlt]at hm;cases hm
   .rw[c_ hij]at hm;exact hm
 .refine .inl ⟨G,fun _ _ z=>z,s.gok,s.old,s.ge,s.gf,by simpa using s.lm,s.lr,?_,?_,?_,?_,fun j o hj hm=>?_⟩
  .intro j e hj hm;have hij:i≠j:=by rintro rfl;exact hb ⟨e,hj⟩
   rw[c_ hij]at hm;exact s.sh j e hj hm
  .intro j e hj hm;have hij:i≠j:=by rintro rfl;exact hb ⟨e,hj⟩
   rw[c_ hij]at hm;exact s.ow j e hj hm
  .intro j e hj hm;have hij:i≠j:=by rintro rfl;exact hb ⟨e,hj⟩
   rw[c_ hij]at hm;exact s.bw j e hj hm
  .intro j k b e e' hjk hj hk hm hm' q1 q2;have hij:i≠j:=by rintro rfl;exact hb ⟨e,hj⟩
   have hik:i≠k:=by rintro rfl;exact hb ⟨e',hk⟩
   rw[c_ hij]at hm;rw[c_ hik]at hm';exact s.dis j k b e e' hjk hj hk hm hm' q1 q2
  .refine s.lk j o hj ?_;by_cases hij:i=j
   .subst hij;rw[o_ hlt]at hm;cases hm
   .rw[c_ hij]at hm;exact hm
end
theorem PE.imp{X:Cx}{e:Expr}{t t':TE}(h:PE X e t)(i:∀σ H Q,t' σ H Q->t σ H Q):PE X e t':=fun pz s σ H Q I q=>h pz s σ H Q I (i σ H Q q)
theorem PT.imp{X:Cx}{e:Expr}{t t':TT}(h:PT X e t)(i:∀σ H Q,t' σ H Q->t σ H Q):PT X e t':=fun pz s σ H Q I q=>h pz s σ H Q I (i σ H Q q)
theorem PW.imp{X:Cx}{e:Expr}{t t':TT}(h:PW X e t)(i:∀σ H Q,t' σ H Q->t σ H Q):PW X e t':=fun whole pz s σ H Q I q=>h whole pz s σ H Q I (i σ H Q q)
theorem PA.imp{X:Cx}{e:List Expr}{t t':TA}(h:PA X e t)(i:∀σ H Q,t' σ H Q->t σ H Q):PA X e t':=fun pos pz s σ H Q I q=>h pos pz s σ H Q I (i σ H Q q)
theorem PS.imp{X:Cx}{e:Stmt}{t t':TS}(h:PS X e t)(i:∀D σ H,t' D σ H->t D σ H):PS X e t':=fun pz s σ H D I q=>h pz s σ H D I (i D σ H q)
theorem cY.imp{X:Cx}{e:List Stmt}{t t':TS}(h:cY X e t)(i:∀D σ H,t' D σ H->t D σ H):cY X e t':=fun pz s σ H D I q=>h pz s σ H D I (i D σ H q)
def Fz(X:Cx)(σ:L2.St)(G:GH)(H':Hp)(e:b_)(x:D)(s':h_):Prop:=∃pz s H1 a C od nm ds,e=.ref a/\x=xD nm ds/\XN X.K nm C/\XF G od ds/\Inv X pz σ H1 s/\Fly X.prog X.w X.stack H1 s H' a (.ref C) od s'
def XW(X:Cx)(σ:L2.St)(G:GH)(H:Hp)(x:D):Prop:=∀pz e s' G' H',Grow X.K G H G' H'->Inv X pz σ H' s'->Fz X σ G' H' e x s'->X.xe e s'
theorem XW.grow{X:Cx}{σ:L2.St}{G G1:GH}{H H1:Hp}{x:D}(h:XW X σ G H x)(w:Grow X.K G H G1 H1):XW X σ G1 H1 x:=fun pz e s' G' H' w' I q=>h pz e s' G' H' (w.trans w') I q
abbrev FE:=ak->Res D
def tE(X:Cx)(g:GE)(m:List Md)(f:FE):TE:=fun σ H Q=>∃r G,SI X g m r G σ H/\fin (f r) (fun d=>∀v G' H',Grow X.K G H G' H'->RG X.K G' v d->Q v H') (XW X σ G H)
def tB(X:Cx)(g:GE)(m:List Md)(f:FE):TE:=fun σ H Q=>∃r G,SI X g m r G σ H/\fin (f r) (fun d=>∀v G' H',Grow X.K G H G' H'->RB X.K G' H' v d->Q v H') (XW X σ G H)
def tO(X:Cx)(g:GE)(m:List Md)(f:FE):TE:=fun σ H Q=>∃r G,SI X g m r G σ H/\fin (f r) (fun d=>∀a G' H',Grow X.K G H G' H'->H a=none->Own X.K G' H' a d->Q (.ref a) H') (XW X σ G H)
def tQ(X:Cx)(g:GE)(m:List Md)(f:ak->Res Bool):TT:=fun σ H Q=>∃r G,SI X g m r G σ H/\fin (f r) (fun b=>∀G' H',Grow X.K G H G' H'->Q b H') (XW X σ G H)
def tL(X:Cx)(g:GE)(m:List Md)(f:ak->Res (List D)):TA:=fun σ H Q=>∃r G,SI X g m r G σ H/\fin (f r) (fun ds=>∀vs G' H',Grow X.K G H G' H'->bA X.K G' vs ds->Q vs H') (XW X σ G H)
def yI(X:Cx)(g:GE)(m:List Md)(f:ak->Res (List D)):TA:=fun σ H Q=>∃r G,SI X g m r G σ H/\fin (f r) (fun ds=>∀vs G' H',Grow X.K G H G' H'->Paired (RB X.K G' H') vs ds->Q vs H') (XW X σ G H)
def SE(X:Cx)(g:GE)(m:List Md)(e:Expr)(f:FE):Prop:=PE X e (tE X g m f)
def SB(X:Cx)(g:GE)(m:List Md)(e:Expr)(f:FE):Prop:=PE X e (tB X g m f)
def SO(X:Cx)(g:GE)(m:List Md)(e:Expr)(f:FE):Prop:=PE X e (tO X g m f)
def SQ(X:Cx)(g:GE)(m:List Md)(e:Expr)(f:ak->Res Bool):Prop:=PT X e (tQ X g m f)
def SW(X:Cx)(g:GE)(m:List Md)(e:Expr)(f:ak->Res Bool):Prop:=PW X e (tQ X g m f)
def SA(X:Cx)(g:GE)(m:List Md)(es:List Expr)(f:ak->Res (List D)):Prop:=PA X es (tL X g m f)
def g6(X:Cx)(g:GE)(m:List Md)(es:List Expr)(f:ak->Res (List D)):Prop:=PA X es (yI X g m f)
section
variable{X:Cx}{g:GE}{m:List Md}{e a b c:Expr}{f fa fb fc:FE}{pos:Pos}
theorem SE.toB(h:SE X g m e f):SB X g m e f:=PE.imp h fun σ H Q ⟨r,G,si,q⟩=>⟨r,G,si,aP q fun d k v G' H' w z=>k v G' H' w z.rb⟩
theorem Inv.fast{pz:List (Addr×Obj)}{σ:L2.St}{H:Hp}{s:h_}(I:Inv X pz σ H s)(a:Addr):∃ob,Inv X pz σ (fz H a ob) s:=by cases e:H a with
|none=>exact⟨{ cls:=.none,data:=.fields #[] },by unfold fz;rw[e];exact I⟩
|some u=>cases u with
 |dK ps=>
   obtain⟨z1,z2,vs,z3,o,es,ep,z4,z5⟩:=(show bZ X.prog X.w H s.heap a (.dK ps)from I.hok a _ e)
   have ef:fz H a o=upd H a (.frz o (.dK ps)):=by unfold fz;rw[e]
   refine⟨o,?_⟩;rw[ef];exact I.write (t':=s.toks) (h':=s.heap) (x:=a) (e:=a) (by rw[e];exact trivial) (.inl rfl) (fun b u _ q=>q) ⟨o,z4⟩ (show bZ X.prog X.w _ s.heap a (.frz o (.dK ps))from⟨z4,z1,z2,vs,z3,o,es,ep,z4,z5⟩)
 |_=>exact⟨{ cls:=.none,data:=.fields #[] },by unfold fz;rw[e];exact I⟩
theorem SO.toE(h:SO X g m e f):SE X g m e f:=by intro pz s σ H Q I ⟨r,G,si,q⟩;refine aL (h pz s σ H (fun v H'=>∃a,v=.ref a/\∀ob,Q v (fz H' a ob)) I ⟨r,G,si,aP q fun d k a G' H' w hn o=>⟨a,rfl,fun ob=>k _ _ _ (w.frz hn o ob) (.ref cM)⟩⟩) fun u s' ⟨v,H',I',rv,a,_,z⟩=>?_;obtain⟨ob,I2⟩:=Inv.fast I' a;exact⟨v,_,I2,rv,z ob⟩
theorem SO.toB(h:SO X g m e f):SB X g m e f:=h.toE.toB
theorem SE.eq{f':FE}(h:SE X g m e f)(q:∀r,f' r=f r):SE X g m e f':=by have:f'=f:=funext q;rw[this];exact h
theorem qb{v:V}{d:D}(h:PE X e (tC v))(s:Scl v d):SE X g m e fun _=>.ok d:=PE.imp h fun σ H Q ⟨r,G,si,q⟩=>q v G H (Grow.refl si.gok) (.scl s)
theorem ia{i:Int}{j}:SE X g m (.Constant (.int i) j pos) fun _=>.ok (.int i):=qb HJ (.int i)
theorem cI{i:Bool}{j}:SE X g m (.Constant (.bool i) j pos) fun _=>.ok (.bl i):=qb FG (.bl i)
theorem FY{j}:SE X g m (.Constant .none j pos) fun _=>.ok .non:=qb HL .non
def dN(r:ak)(i:Nat):Res D:=match r[i]? with
|some (some d)=>.ok d
|_=>.stuck
theorem qv{r:ak}{i:Nat}{q:D->Prop}{x:D->Prop}(h:fin (dN r i) q x):∃d,r[i]? = some (some d)/\q d:=by
 unfold dN at h;split at h
 .rename_i d e;exact⟨d,e,h⟩
 .exact h.elim
theorem F5(i:Nat){x:Str}(hm:m[i]? = some .sh)(hN:X.N[i]? = some x)(hv:fQ X.env.scope x)(hd:(x==("__debug__" : Str))=false:=by decide)(hcd:(x==("__classdict__" : Str))=false:=by decide):SE X g m (.Name x pos) fun r=>dN r i:=by refine PE.imp (iY hN hv hd hcd) fun σ H Q ⟨r,G,si,q⟩=>?_;obtain⟨d,e,k⟩:=qv q;obtain⟨v,e1,e2⟩:=si.sh i d e hm;exact⟨v,e1,k v G H (Grow.refl si.gok) e2⟩
theorem Jp(i:Nat){x:Str}(hm:i<m.length)(hN:X.N[i]? = some x)(hv:fQ X.env.scope x)(hd:(x==("__debug__" : Str))=false:=by decide)(hcd:(x==("__classdict__" : Str))=false:=by decide):SB X g m (.Name x pos) fun r=>dN r i:=by refine PE.imp (iY hN hv hd hcd) fun σ H Q ⟨r,G,si,q⟩=>?_;obtain⟨d,e,k⟩:=qv q;have hm':m[i]? = some m[i]:=i_ hm;cases h:m[i]with
|sh=>obtain⟨v,e1,e2⟩:=si.sh i d e (hm'.trans (by rw[h]));exact⟨v,e1,k v G H (Grow.refl si.gok) e2.rb⟩
|ow=>obtain⟨v,e1,e2,_⟩:=si.ow i d e (hm'.trans (by rw[h]));exact⟨_,e1,k _ G H (Grow.refl si.gok) (.inr ⟨v,rfl,e2⟩)⟩
|bw=>obtain⟨v,e1,e2⟩:=si.bw i d e (hm'.trans (by rw[h]));exact⟨_,e1,k _ G H (Grow.refl si.gok) e2.rb⟩
theorem Jm{x:Str}{v:V}{u:b_}{d:D}(hg:Gl X x)(hm:X.mg x=some u)(r:ar v u)(s:Scl v d)(hd:(x==("__debug__" : Str))=false:=by decide):SE X g m (.Name x pos) fun _=>.ok d:=qb (B4 hg hm r hd) s
theorem jK{β:Type}{k:D->D->Res β}{q:β->Prop}{R:V->V->Hp->Prop}{r:ak}{G:GH}{σ:L2.St}{H:Hp}(si:SI X g m r G σ H)(h:fin ((fa r).bind fun d1=>(fb r).bind fun d2=>k d1 d2) q (XW X σ G H))(hk:∀d1 d2 v1 v2 G2 H2,Grow X.K G H G2 H2->RB X.K G2 H2 v1 d1->RB X.K G2 H2 v2 d2->fin (k d1 d2) q (XW X σ G H)->R v1 v2 H2):tB X g m fa σ H fun v1 H1=>tB X g m fb σ H1 fun v2 H2=>R v1 v2 H2:=by refine⟨r,G,si,aP (aS h) fun d1 h1 v1 G1 H1 w1 r1=>⟨r,G1,si.grow w1,?_⟩⟩;cases e:fb r with
|ok d2=>rw[e]at h1;exact fun v2 G2 H2 w2 r2=>hk d1 d2 v1 v2 G2 H2 (w1.trans w2) (r1.mono w2) r2 h1
|exc x=>rw[e]at h1;exact(show XW X σ G H x from h1).grow w1
|stuck=>rw[e]at h1;exact h1
def bS{α:Type}:Option α->Res α
|some a=>.ok a
|none=>.stuck
@[simp] theorem opt_some{α:Type}(a:α):bS (some a)=.ok a:=rfl
@[simp] theorem opt_none{α:Type}:bS (none:Option α)=.stuck:=rfl
theorem cn{α:Type}{o:Option α}{q:α->Prop}{x:D->Prop}(h:fin (bS o) q x):∃a,o=some a/\q a:=by cases o with
|none=>exact h.elim
|some a=>exact⟨a,rfl,h⟩
def cN(K:W.Frag)(r:R2)(k:D->D->Option D):Prop:=∀(G:GH)(H:Hp)(v1 v2:V)(d1 d2 d:D)(Q:VK),aM K G H->RB K G H v1 d1->RB K G H v2 d2->k d1 d2=some d ->(∀v G' H',Grow K G H G' H'->RG K G' v d->Q v H')->r v1 v2 H Q
def zu(K:W.Frag)(r:R2)(k:D->D->Option D):Prop:=∀(G:GH)(H:Hp)(v1 v2:V)(d1 d2 d:D)(Q:VK),aM K G H->RB K G H v1 d1->RB K G H v2 d2->k d1 d2=some d ->(∀a G' H',Grow K G H G' H'->H a=none->Own K G' H' a d->Q (.ref a) H')->r v1 v2 H Q
def f2(fa fb:FE)(k:D->D->Option D):FE:=fun r=>(fa r).bind fun d1=>(fb r).bind fun d2=>bS (k d1 d2)
theorem sG{R:R2}{k:D->D->Option D}(ho:cN X.K R k)(h:PE X e (mN R (tB X g m fa) (tB X g m fb))):SE X g m e (f2 fa fb k):=by refine PE.imp h fun σ H Q ⟨r,G,si,q⟩=>?_;refine jK si q fun d1 d2 v1 v2 G2 H2 w r1 r2 q2=>?_;obtain⟨d,e,q2⟩:=cn q2;exact ho G2 H2 v1 v2 d1 d2 d Q w.ok r1 r2 e fun v G' H' w' z=>q2 v G' H' (w.trans w') z
theorem Jn{R:R2}{k:D->D->Option D}(ho:zu X.K R k)(h:PE X e (mN R (tB X g m fa) (tB X g m fb))):SO X g m e (f2 fa fb k):=by
 refine PE.imp h fun σ H Q ⟨r,G,si,q⟩=>?_;refine jK si q fun d1 d2 v1 v2 G2 H2 w r1 r2 q2=>?_;obtain⟨d,e,q2⟩:=cn q2;exact ho G2 H2 v1 v2 d1 d2 d Q w.ok r1 r2 e fun a G' H' w' hn z=>q2 a G' H' (w.trans w') (by cases q:H a with
 |none=>rfl
 |some o=>rw[w.he _ _ q]at hn;cases hn) z
theorem jl{op:Operator}{R:R2}{k:D->D->Option D}(hr:aT X (Rq op) R)(ho:cN X.K R k)(ha:SB X g m a fa)(hb:SB X g m b fb):SE X g m (.BinOp a op b pos) (f2 fa fb k):=sG ho (ss hr ha hb)
theorem Jk{op:Operator}{R:R2}{k:D->D->Option D}(hr:aT X (Rq op) R)(ho:zu X.K R k)(ha:SB X g m a fa)(hb:SB X g m b fb):SO X g m (.BinOp a op b pos) (f2 fa fb k):=Jn ho (ss hr ha hb)
theorem sF{op:Wy}{R:R2}{k:D->D->Option D}(hr:aT X (Qb op) R)(ho:cN X.K R k)(ha:SB X g m a fa)(hb:SB X g m b fb)(hm:RM op b=false):SE X g m (.Compare a [op] [b] pos) (f2 fa fb k):=sG ho (JZ hr ha hb hm)
def iO:D->Option Bool
|.bl b=>some b
|_=>none
def a9(f:FE):ak->Res Bool:=fun r=>(f r).bind fun d=>bS (iO d)
theorem j6{op:Wy}{R:R2}{k:D->D->Option D}(hr:aT X (Qb op) R)(ho:cN X.K R k)(ha:SB X g m a fa)(hb:SB X g m b fb)(hm:RM op b=false):SQ X g m (.Compare a [op] [b] pos) (a9 (f2 fa fb k)):=by
 refine PT.imp (KS hr ha hb hm) fun σ H Q ⟨r,G,si,q⟩=>?_;have e:a9 (f2 fa fb k) r=(fa r).bind fun d1=>(fb r).bind fun d2=>(bS (k d1 d2)).bind fun d=>bS (iO d):=by unfold a9 f2;cases fa r with
 |ok d1=>cases fb r <;> rfl
 |exc _=>rfl
 |stuck=>rfl
 rw[e]at q;refine jK (R:=fun x y H2=>R x y H2 fun x H'=>∃k,x=V.bl k/\Q k H') si q fun d1 d2 v1 v2 G2 H2 w r1 r2 q3=>?_;obtain⟨d,e,q3⟩:=cn (aS q3);obtain⟨b,eb,q3⟩:=cn q3;cases d with
|bl b'=>cases eb;exact ho G2 H2 v1 v2 d1 d2 _ _ w.ok r1 r2 e fun v G' H' w' z=>⟨_,z.bl w'.ok,q3 G' H' (w.trans w')⟩
|_=>cases eb
end
instance decMul(i j:Int):Decidable (gx i j):=by unfold gx;infer_instance
instance decDiv(i j:Int):Decidable (hV i j):=by unfold hV;infer_instance
instance decPow(i j:Int):Decidable (fE i j):=by unfold fE;infer_instance
def kP(k:Int->Int->D):D->D->Option D
|.int a,.int b=>some (k a b)
|_,_=>none
def iq(C:Int->Int->Prop)[∀a b,Decidable (C a b)](k:Int->Int->D):D->D->Option D
|.int a,.int b=>if C a b then some (k a b)else none
|_,_=>none
@[simp] theorem ints2_int(k:Int->Int->D)(a b:Int):kP k (.int a) (.int b)=some (k a b):=rfl
@[simp] theorem intsC_int(C:Int->Int->Prop)[∀a b,Decidable (C a b)](k:Int->Int->D)(a b:Int):iq C k (.int a) (.int b)=if C a b then some (k a b)else none:=rfl
section
variable{K:W.Frag}
theorem km{gv:Int->Int->V}{gd:Int->Int->D}(hs:∀i j,Scl (gv i j) (gd i j)):cN K (jb gv) (kP gd):=by
 intro G H v1 v2 d1 d2 d Q g r1 r2 e q;unfold kP at e;split at e
 .cases e;exact⟨_,_,r1.int g,r2.int g,q _ G H (Grow.refl g) (.scl (hs _ _))⟩
 .cases e
theorem mw{C:Int->Int->Prop}[∀a b,Decidable (C a b)]{gv:Int->Int->V}{gd:Int->Int->D}(hs:∀i j,Scl (gv i j) (gd i j)):cN K (rI C gv) (iq C gd):=by
 intro G H v1 v2 d1 d2 d Q g r1 r2 e q;unfold iq at e;split at e
 .split at e
  .rename_i hc;cases e;exact⟨_,_,r1.int g,r2.int g,hc,q _ G H (Grow.refl g) (.scl (hs _ _))⟩
  .cases e
 .cases e
theorem cN.or{r r':R2}{k k':D->D->Option D}(h:cN K r k)(h':cN K r' k'):cN K (fun x y H Q=>r x y H Q\/r' x y H Q) (fun a b=>match k a b with|some d=>some d|none=>k' a b):=by intro G H v1 v2 d1 d2 d Q g r1 r2 e q;cases e1:k d1 d2 with
|some d'=>simp only[e1]at e;cases e;exact .inl (h G H v1 v2 d1 d2 d Q g r1 r2 e1 q)
|none=>simp only[e1]at e;exact .inr (h' G H v1 v2 d1 d2 d Q g r1 r2 e q)
end
abbrev iE:D->D->Option D:=kP fun a b=>.int (a-b)
abbrev br:D->D->Option D:=iq gx fun a b=>.int (a*b)
abbrev js:D->D->Option D:=iq hV fun a b=>.int (a/b)
abbrev bg:D->D->Option D:=iq (fun _ b=>0<b) fun a b=>.int (a%b)
abbrev gp:D->D->Option D:=iq fE fun a b=>.int (a^b.toNat)
abbrev gG:D->D->Option D:=kP fun a b=>.bl (decide (a<b))
abbrev iN:D->D->Option D:=kP fun a b=>.bl (decide (a<=b))
abbrev je:D->D->Option D:=kP fun a b=>.bl (decide (b<a))
section
variable{X:Cx}{g:GE}{m:List Md}{e a b c:Expr}{f fa fb fc:FE}{pos:Pos}
theorem sH(ha:SB X g m a fa)(hb:SB X g m b fb):SE X g m (.BinOp a .Sub b pos) (f2 fa fb iE):=jl HG (km fun _ _=>.int _) ha hb
theorem ib(ha:SB X g m a fa)(hb:SB X g m b fb):SE X g m (.BinOp a .Mult b pos) (f2 fa fb br):=jl HD (mw fun _ _=>.int _) ha hb
theorem tx(ha:SB X g m a fa)(hb:SB X g m b fb):SE X g m (.BinOp a .FloorDiv b pos) (f2 fa fb js):=jl JT (mw fun _ _=>.int _) ha hb
theorem gy(ha:SB X g m a fa)(hb:SB X g m b fb):SE X g m (.BinOp a .Mod b pos) (f2 fa fb bg):=jl HC (mw fun _ _=>.int _) ha hb
theorem Ak(ha:SB X g m a fa)(hb:SB X g m b fb):SE X g m (.BinOp a .Pow b pos) (f2 fa fb gp):=jl HE (mw fun _ _=>.int _) ha hb
theorem yO(ha:SB X g m a fa)(hb:SB X g m b fb):SE X g m (.Compare a [.Lt] [b] pos) (f2 fa fb gG):=sF pI (km fun _ _=>.bl _) ha hb (jv _)
theorem oU(ha:SB X g m a fa)(hb:SB X g m b fb):SE X g m (.Compare a [.Gt] [b] pos) (f2 fa fb je):=sF Aa (km fun _ _=>.bl _) ha hb (jv _)
theorem ly(ha:SB X g m a fa)(hb:SB X g m b fb):SQ X g m (.Compare a [.Lt] [b] pos) (a9 (f2 fa fb gG)):=j6 pI (km fun _ _=>.bl _) ha hb (jv _)
theorem yV(ha:SB X g m a fa)(hb:SB X g m b fb):SQ X g m (.Compare a [.LtE] [b] pos) (a9 (f2 fa fb iN)):=j6 m7 (km fun _ _=>.bl _) ha hb (jv _)
theorem lz(ha:SB X g m a fa)(hb:SB X g m b fb):SQ X g m (.Compare a [.Gt] [b] pos) (a9 (f2 fa fb je)):=j6 Aa (km fun _ _=>.bl _) ha hb (jv _)
def f1(fa:FE)(k:D->Option D):FE:=fun r=>(fa r).bind fun d=>bS (k d)
def lG:D->Option D
|.int a=>some (.int (-a))
|_=>none
@[simp] theorem negI_int(a:Int):lG (.int a)=some (.int (-a)):=rfl
theorem FX(ha:SB X g m a fa):SE X g m (.UnaryOp .USub a pos) (f1 fa lG):=by
 refine PE.imp (FJ IY ha) fun σ H Q ⟨r,G,si,q⟩=>⟨r,G,si,aP (aS q) fun d q1 v G1 H1 w1 r1=>?_⟩
 obtain⟨d',e,q2⟩:=cn q1;cases d with
|int i=>cases e;exact⟨i,r1.int w1.ok,q2 _ G1 H1 w1 (.scl (.int _))⟩
|_=>cases e
def fZ:D->Option Bool
|.non=>some false
|.bl b=>some b
|.int i=>some (i != 0)
|.str y=>if y.length<=sizeLine then some ((y.length:Int) != 0)else none
|.lst ds=>some (! ds.isEmpty)
|.tup ds=>some (! ds.isEmpty)
|.dic kvs=>some (! kvs.isEmpty)
|.obj _ _=>none
theorem vV{α β:Type}{F:α->β->Prop}{l:List α}{r:List β}(h:Paired F l r):l.isEmpty=r.isEmpty:=by cases h <;> rfl
theorem Ku{K:W.Frag}{G:GH}{H:Hp}{v:V}{d:D}{b:Bool}(gk:aM K G H)(h:RB K G H v d)(e:fZ d=some b):lM K v H b:=by cases d with
|non=>cases e;rw[h.non gk];rfl
|bl b'=>cases e;rw[h.bl gk];rfl
|int i=>cases e;rw[h.int gk];rfl
|str y=>
  rw[h.str gk];have e':(if y.length<=sizeLine then some ((y.length:Int) != 0)else none)=some b:=e;by_cases hy:y.length<=sizeLine
  .rw[if_pos hy]at e';cases e';exact⟨hy,rfl⟩
  .rw[if_neg hy]at e';cases e'
|lst ds=>cases e;obtain⟨a,xs,rfl,s,r⟩:=h.lst gk;exact .inl ⟨xs,s,by rw[vV r]⟩
|tup ds=>cases e;obtain⟨a,xs,rfl,s,r⟩:=h.tup gk;exact .inr (.inl ⟨xs,s,by rw[vV r]⟩)
|dic kvs=>cases e;obtain⟨a,xs,rfl,s,r⟩:=h.dic gk;exact .inr (.inr ⟨xs,s,by rw[vV r]⟩)
|obj _ _=>cases e
def bd(f:FE):ak->Res Bool:=fun r=>(f r).bind fun d=>bS (fZ d)
theorem dD(ha:SB X g m a fa)(he:∀whole,isTrue a X.env whole=(do let v <-whole;V7 a.pos;Sv [v] (truthy v)):=by intro _;rfl):SQ X g m a (bd fa):=by
 refine PT.imp (LC ha he) fun σ H Q ⟨r,G,si,q⟩=>⟨r,G,si,aP (aS q) fun d q1 v G1 H1 w1 r1=>?_⟩
 obtain⟨b,e,q2⟩:=cn q1;exact⟨b,Ku w1.ok r1 e,q2 G1 H1 w1⟩
abbrev FQ:=ak->Res Bool
def dO(p q:FQ):FQ:=fun r=>(p r).bind fun c=>if c=true then q r else .ok false
def eV(p q:FQ):FQ:=fun r=>(p r).bind fun c=>if c=true then .ok true else q r
def bu(p:FQ):FQ:=fun r=>(p r).bind fun c=>.ok (! c)
variable{p q:FQ}{rest:List Expr}
theorem Gh{α:Type}{r:Res α}{q:α->Prop}{x x':D->Prop}(h:fin r q x)(hx:∀e,x e->x' e):fin r q x':=by cases r with
|ok a=>exact h
|exc e=>exact hx e h
|stuck=>exact h
theorem eS{α:Type}{r:Res α}{σ:L2.St}{G G1:GH}{H H1:Hp}{P P':α->Prop}(h:fin r P (XW X σ G H))(w:Grow X.K G H G1 H1)(hp:∀a,P a->P' a):fin r P' (XW X σ G1 H1):=Gh (aP h hp) fun _ x=>x.grow w
theorem A8(ha:SQ X g m a p):SW X g m (.BoolOp .And [a] pos) p:=KU ha
theorem jk(ha:SQ X g m a p):SW X g m (.BoolOp .Or [a] pos) p:=A7 ha
theorem zX(ha:SQ X g m a p)(hb:SW X g m (.BoolOp .And (b::rest) pos) q):SW X g m (.BoolOp .And (a::b::rest) pos) (dO p q):=by
 refine PW.imp (Ia ha hb) fun σ H Q ⟨r,G,si,k⟩=>⟨r,G,si,aP (aS k) fun c k1 G1 H1 w1=>?_⟩
 cases c with
|true=>rw[if_pos rfl]at k1 ⊢;exact⟨r,G1,si.grow w1,eS k1 w1 fun b z G' H' w'=>z G' H' (w1.trans w')⟩
|false=>rw[if_neg j_]at k1 ⊢;exact k1 G1 H1 w1
theorem cP(ha:SQ X g m a p)(hb:SW X g m (.BoolOp .Or (b::rest) pos) q):SW X g m (.BoolOp .Or (a::b::rest) pos) (eV p q):=by
 refine PW.imp (zW ha hb) fun σ H Q ⟨r,G,si,k⟩=>⟨r,G,si,aP (aS k) fun c k1 G1 H1 w1=>?_⟩
 cases c with
|true=>rw[if_pos rfl]at k1 ⊢;exact k1 G1 H1 w1
|false=>rw[if_neg j_]at k1 ⊢;exact⟨r,G1,si.grow w1,eS k1 w1 fun b z G' H' w'=>z G' H' (w1.trans w')⟩
theorem SW.toQ(h:SW X g m e p):SQ X g m e p:=PW.pt h
theorem eL(ha:SQ X g m a p):SQ X g m (.UnaryOp .Not a pos) (bu p):=PT.imp (HX ha) fun σ H Q ⟨r,G,si,k⟩=>⟨r,G,si,aP (aS k) fun c k1 G1 H1 w1=>k1 G1 H1 w1⟩
def d8(fa fb:FE):FE:=fun r=>(fa r).bind fun d=>(bS (iO d)).bind fun c=>if c=true then fb r else .ok (.bl false)
def O9(fa fb:FE):FE:=fun r=>(fa r).bind fun d=>(bS (iO d)).bind fun c=>if c=true then .ok (.bl true)else fb r
def lv(fa:FE):FE:=fun r=>(fa r).bind fun d=>(bS (iO d)).bind fun c=>.ok (.bl (! c))
theorem nu{op}(h:SE X g m a fa):SE X g m (.BoolOp op [a] pos) fa:=HN h
theorem nr(ha:SE X g m a fa)(hb:SE X g m (.BoolOp .And (b::rest) pos) fb):SE X g m (.BoolOp .And (a::b::rest) pos) (d8 fa fb):=by
 refine PE.imp (HI ha hb) fun σ H Q ⟨r,G,si,k⟩=>⟨r,G,si,aP (aS k) fun d k1 v G1 H1 w1 r1=>?_⟩
 obtain⟨c,e,k2⟩:=cn (aS k1);cases d with
|bl c'=>cases e;refine⟨_,r1.bl w1.ok,?_⟩;cases c with
 |true=>rw[if_pos rfl]at k2 ⊢;exact⟨r,G1,si.grow w1,eS k2 w1 fun b z v G' H' w'=>z v G' H' (w1.trans w')⟩
 |false=>rw[if_neg j_]at k2 ⊢;exact k2 _ G1 H1 w1 (.scl (.bl _))
|_=>cases e
theorem FZ(ha:SE X g m a fa):SE X g m (.UnaryOp .Not a pos) (lv fa):=by
 refine PE.imp (HM ha) fun σ H Q ⟨r,G,si,k⟩=>⟨r,G,si,aP (aS k) fun d k1 v G1 H1 w1 r1=>?_⟩
 obtain⟨c,e,k2⟩:=cn (aS k1);cases d with
|bl c'=>cases e;exact⟨_,r1.bl w1.ok,k2 _ G1 H1 w1 (.scl (.bl _))⟩
|_=>cases e
def kD(p:FQ)(fa fb:FE):FE:=fun r=>(p r).bind fun c=>if c=true then fa r else fb r
theorem FV(hc:SQ X g m c p)(ha:SE X g m a fa)(hb:SE X g m b fb):SE X g m (.IfExp c a b pos) (kD p fa fb):=by
 refine PE.imp (Ml hc ha hb) fun σ H Q ⟨r,G,si,k⟩=>⟨r,G,si,aP (aS k) fun c k1 G1 H1 w1=>?_⟩
 cases c with
|true=>rw[if_pos rfl]at k1 ⊢;exact⟨r,G1,si.grow w1,eS k1 w1 fun b z v G' H' w'=>z v G' H' (w1.trans w')⟩
|false=>rw[if_neg j_]at k1 ⊢;exact⟨r,G1,si.grow w1,eS k1 w1 fun b z v G' H' w'=>z v G' H' (w1.trans w')⟩
variable{es:List Expr}{fl fr:ak->Res (List D)}
def ae:ak->Res (List D):=fun _=>.ok []
def ag(fa:FE)(fl:ak->Res (List D)):ak->Res (List D):=fun r=>(fa r).bind fun d=>(fl r).bind fun ds=>.ok (d::ds)
theorem bU:SA X g m [] ae:=PA.imp iz fun σ H Q ⟨r,G,si,k⟩=>k [] G H (Grow.refl si.gok) .nil
theorem bR(ha:SE X g m e fa)(hr:SA X g m es fl)(hs:l_ (e::es) X.env=(false,eval e X.env)::l_ es X.env:=by rfl):SA X g m (e::es) (ag fa fl):=by
 refine PA.imp (dS ha hr hs) fun σ H Q ⟨r,G,si,k⟩=>⟨r,G,si,aP (aS k) fun d k1 v G1 H1 w1 r1=>⟨r,G1,si.grow w1,?_⟩⟩
 exact eS (aS k1) w1 fun ds z vs G2 H2 w2 r2=>z (v::vs) G2 H2 (w1.trans w2) (.cons (r1.mono w2.ge) r2)
theorem aY:g6 X g m [] ae:=PA.imp iz fun σ H Q ⟨r,G,si,k⟩=>k [] G H (Grow.refl si.gok) .nil
theorem aX(ha:SB X g m e fa)(hr:g6 X g m es fl)(hs:l_ (e::es) X.env=(false,eval e X.env)::l_ es X.env:=by rfl):g6 X g m (e::es) (ag fa fl):=by
 refine PA.imp (dS ha hr hs) fun σ H Q ⟨r,G,si,k⟩=>⟨r,G,si,aP (aS k) fun d k1 v G1 H1 w1 r1=>⟨r,G1,si.grow w1,?_⟩⟩
 exact eS (aS k1) w1 fun ds z vs G2 H2 w2 r2=>z (v::vs) G2 H2 (w1.trans w2) (.cons (r1.mono w2) r2)
def sz(ds:List D):Option (List D):=if ds.length<=sizeLine then some ds else none
theorem sL{ds ds':List D}(h:sz ds=some ds'):ds'=ds/\ds.length<=sizeLine:=by
 unfold sz at h;split at h
 .rename_i hl;cases h;exact⟨rfl,hl⟩
 .cases h
theorem F8{ds:List D}(h:ds.length<=sizeLine):sz ds=some ds:=if_pos h
def gr(fl:ak->Res (List D)):FE:=fun r=>(fl r).bind fun ds=>(bS (sz ds)).bind fun ds=>.ok (.tup ds)
def dX(fl:ak->Res (List D)):FE:=fun r=>(fl r).bind fun ds=>(bS (sz ds)).bind fun ds=>.ok (.lst ds)
theorem ir{x1}(h:SA X g m es fl):SE X g m (.Tuple es x1 pos) (gr fl):=by
 refine PE.imp (HP h) fun σ H Q ⟨r,G,si,k⟩=>⟨r,G,si,aP (aS k) fun ds k1 vs G1 H1 w1 r1=>?_⟩
 obtain⟨ds',e,k2⟩:=cn (aS k1);obtain⟨rfl,hl⟩:=sL e;have hlen:=Paired.length r1;refine⟨by omega,fun p hp=>?_⟩;exact k2 _ _ _ (w1.trans (Grow.newF (d:=.tup ds') w1.ok hp (.tup (.inl ce) r1))) (.ref cM)
theorem fH(h:SA X g m es fl):SO X g m (.List es pos) (dX fl):=by
 refine PE.imp (HK h) fun σ H Q ⟨r,G,si,k⟩=>⟨r,G,si,aP (aS k) fun ds k1 vs G1 H1 w1 r1=>?_⟩
 obtain⟨ds',e,k2⟩:=cn (aS k1);obtain⟨rfl,hl⟩:=sL e;have hlen:=Paired.length r1;refine⟨by omega,fun p hp=>?_⟩;have hn:H p=none:=by cases q:H p with
 |none=>rfl
 |some o=>rw[w1.he _ _ q]at hp;cases hp
 exact k2 p G1 _ (w1.trans (Grow.new w1.ok hp _)) hn ⟨w1.ok.isN hp,.lst ce r1⟩
end
def lX(K:W.Frag)(r:List V->Hp->VK->Prop)(k:List D->Option D):Prop:=∀(G:GH)(H:Hp)(vs:List V)(ds:List D)(d:D)(Q:VK),aM K G H->Paired (RB K G H) vs ds->k ds=some d ->(∀v G' H',Grow K G H G' H'->RG K G' v d->Q v H')->r vs H Q
def zH(K:W.Frag)(r:List V->Hp->VK->Prop)(k:List D->Option D):Prop:=∀(G:GH)(H:Hp)(vs:List V)(ds:List D)(d:D)(Q:VK),aM K G H->Paired (RB K G H) vs ds->k ds=some d ->(∀a G' H',Grow K G H G' H'->H a=none->Own K G' H' a d->Q (.ref a) H')->r vs H Q
def fC(fl:ak->Res (List D))(k:List D->Option D):FE:=fun r=>(fl r).bind fun ds=>bS (k ds)
theorem Grow.back{K:W.Frag}{G G1:GH}{H H1:Hp}(w:Grow K G H G1 H1){a:Addr}(hn:H1 a=none):H a=none:=by cases q:H a with
|none=>rfl
|some o=>rw[w.he _ _ q]at hn;cases hn
section
variable{X:Cx}{g:GE}{m:List Md}{e a b c:Expr}{f fa fb fc:FE}{pos p p2:Pos}{es:List Expr}{fl:ak->Res (List D)}{x:Str}{id T:String}{R:List V->Hp->VK->Prop}{k:List D->Option D}
theorem gP(hk:lX X.K R k)(h:PE X e (oP R (yI X g m fl))):SE X g m e (fC fl k):=by
 refine PE.imp h fun σ H Q ⟨r,G,si,q⟩=>⟨r,G,si,aP (aS q) fun ds q1 vs G1 H1 w1 r1=>?_⟩
 obtain⟨d,e,q2⟩:=cn q1;exact hk G1 H1 vs ds d Q w1.ok r1 e fun v G' H' w' z=>q2 v G' H' (w1.trans w') z
theorem FU(hk:zH X.K R k)(h:PE X e (oP R (yI X g m fl))):SO X g m e (fC fl k):=by
 refine PE.imp h fun σ H Q ⟨r,G,si,q⟩=>⟨r,G,si,aP (aS q) fun ds q1 vs G1 H1 w1 r1=>?_⟩
 obtain⟨d,e,q2⟩:=cn q1;exact hk G1 H1 vs ds d Q w1.ok r1 e fun v G' H' w' hn z=>q2 v G' H' (w1.trans w') (w1.back hn) z
def lenD:List D->Option D
|[.str y]=>if y.length<=sizeLine then some (.int y.length)else none
|[.lst ds]=>some (.int ds.length)
|[.tup ds]=>some (.int ds.length)
|[.dic kvs]=>some (.int kvs.length)
|_=>none
theorem Ib{K:W.Frag}:lX K (fun xs H Q=>(∃x n,xs=[x]/\pi K x H n/\Q (.int n) H)\/∃a kvs,xs=[V.ref a]/\Rd H a (.dK kvs)/\Q (.int kvs.length) H) lenD:=by
 intro G H vs ds d Q gk rs e q;unfold lenD at e;split at e
 .split at e
  .cases e;cases rs with
  |cons r t=>cases t;exact .inl ⟨_,_,rfl,by rw[r.str gk];exact⟨by assumption,rfl⟩,q _ G H (Grow.refl gk) (.scl (.int _))⟩
  .cases e
 .cases e;cases rs with
 |cons r t=>cases t;obtain⟨a,xs,rfl,s,r⟩:=r.lst gk;have:=Paired.length r;exact .inl ⟨_,_,rfl,.inl ⟨xs,s,rfl⟩,q _ G H (Grow.refl gk) (.scl (by rw[this];exact .int _))⟩
 .cases e;cases rs with
 |cons r t=>cases t;obtain⟨a,xs,rfl,s,r⟩:=r.tup gk;have:=Paired.length r;exact .inl ⟨_,_,rfl,.inr ⟨xs,s,rfl⟩,q _ G H (Grow.refl gk) (.scl (by rw[this];exact .int _))⟩
 .cases e;cases rs with
 |cons r t=>cases t;obtain⟨a,xs,rfl,s,r⟩:=r.dic gk;have:=Paired.length r;exact .inr ⟨_,_,rfl,s,q _ G H (Grow.refl gk) (.scl (by rw[this];exact .int _))⟩
 .cases e
theorem dj(hg:Gl X "len")(hm:X.mg "len" = none)(ha:g6 X g m (e::es) fl)(he:l_ (e::es) X.env=(false,eval e X.env)::l_ es X.env:=by rfl)(hpl:(backTo pos (l_ es X.env)).any (·.1)=false:=by rfl):SE X g m (.Call (.Name "len" p) (e::es) [] pos) (fC fl lenD):=gP Ib (my (d5.or Lb MC) hg hm W5 ha (by decide) (by decide) he hpl)
def l7:List D->Option D
|[.lst ds]=>some (.lst ds)
|[.tup ds]=>some (.lst ds)
|_=>none
theorem Kg{K:W.Frag}:zH K (fun xs H Q=>∃p ys,xs=[.ref p]/\(aV K H p ys\/bO K H p ys)/\∀l,H l=none->Q (.ref l) (upd H l (.lst ys))) l7:=by
 intro G H vs ds d Q gk rs e q;have fin:∀{ys:List V}{zs:List D},bA K G ys zs->(∀(a:Addr)(G':GH)(H':Hp),Grow K G H G' H'->H a=none->Own K G' H' a (.lst zs)->Q (.ref a) H')->∀l,H l=none->Q (.ref l) (upd H l (.lst ys)):=fun r q l hl=>q l G _ (Grow.new gk hl _) hl ⟨gk.isN hl,.lst ce r⟩;unfold l7 at e;split at e
 .cases e;cases rs with
 |cons r t=>cases t;obtain⟨a,xs,rfl,s,r⟩:=r.lst gk;exact⟨a,xs,rfl,.inl s,fin r q⟩
 .cases e;cases rs with
 |cons r t=>cases t;obtain⟨a,xs,rfl,s,r⟩:=r.tup gk;exact⟨a,xs,rfl,.inr s,fin r q⟩
 .cases e
theorem Iv(hg:Gl X "list")(hm:X.mg "list" = none)(ha:g6 X g m (e::es) fl)(he:l_ (e::es) X.env=(false,eval e X.env)::l_ es X.env:=by rfl)(hpl:(backTo pos (l_ es X.env)).any (·.1)=false:=by rfl):SO X g m (.Call (.Name "list" p) (e::es) [] pos) (fC fl l7):=FU Kg (om Oy hg hm rfl ha (by decide) (by decide) he hpl)
def tupD:List D->Option D
|[.lst ds]=>some (.tup ds)
|[.tup ds]=>some (.tup ds)
|_=>none
theorem IT{K:W.Frag}:lX K (fun xs H Q=>∃p ys,xs=[.ref p]/\((aV K H p ys/\∀l,H l=none->Q (.ref l) (upd H l (.tup ys)))\/(bO K H p ys/\Q (.ref p) H))) tupD:=by
 intro G H vs ds d Q gk rs e q;unfold tupD at e;split at e
 .cases e;cases rs with
 |cons r t=>cases t;obtain⟨a,xs,rfl,s,r⟩:=r.lst gk;exact⟨a,xs,rfl,.inl ⟨s,fun l hl=>q _ _ _ (Grow.newF gk hl (.tup (.inl ce) r)) (.ref cM)⟩⟩
 .cases e;cases rs with
 |cons r t=>
   cases t;rcases r with r|⟨a,_,o⟩
   .obtain⟨a,xs,rfl,s,r'⟩:=r.tup gk;exact⟨a,xs,rfl,.inr ⟨s,q _ G H (Grow.refl gk) r⟩⟩
   .cases o.ob
 .cases e
theorem i9(hg:Gl X "tuple")(hm:X.mg "tuple" = none)(ha:g6 X g m (e::es) fl)(he:l_ (e::es) X.env=(false,eval e X.env)::l_ es X.env:=by rfl)(hpl:(backTo pos (l_ es X.env)).any (·.1)=false:=by rfl):SE X g m (.Call (.Name "tuple" p) (e::es) [] pos) (fC fl tupD):=gP IT (om OJ hg hm rfl ha (by decide) (by decide) he hpl)
def ixD:D->D->Option D
|.lst ds,.int i=>fP ds i
|.tup ds,.int i=>fP ds i
|.str z,.int i=>if z.length<=sizeLine then(fP z.cps.toList i).map fun c=>.str ⟨#[c]⟩else none
|_,_=>none
theorem zL{K:W.Frag}{G:GH}{xs:List V}{ds:List D}{i:Int}{d:D}(r:bA K G xs ds)(h:fP ds i=some d):∃v,fP xs i=some v/\RG K G v d:=by unfold fP at h ⊢;rw[Paired.length r];cases e:gT ds.length i with
|none=>rw[e]at h;cases h
|some j=>rw[e]at h;exact Paired.get r h
theorem sB{K:W.Frag}:cN K (yT K) ixD:=by
 intro G H v1 v2 d1 d2 d Q gk r1 r2 e q;unfold ixD at e;split at e
 .obtain⟨a,xs,rfl,s,r⟩:=r1.lst gk;obtain⟨v,ev,rv⟩:=zL r e;exact .inl ⟨a,xs,_,v,rfl,r2.int gk,s,ev,q v G H (Grow.refl gk) rv⟩
 .obtain⟨a,xs,rfl,s,r⟩:=r1.tup gk;obtain⟨v,ev,rv⟩:=zL r e;exact .inr (.inl ⟨a,xs,_,v,rfl,r2.int gk,s,ev,q v G H (Grow.refl gk) rv⟩)
 .split at e
  .rename_i z i hz;cases ec:fP z.cps.toList i with
  |none=>rw[ec]at e;cases e
  |some c=>rw[ec]at e;cases e;exact .inr (.inr ⟨z,i,c,r1.str gk,r2.int gk,hz,ec,q _ G H (Grow.refl gk) (.scl (.str _))⟩)
  .cases e
 .cases e
def dP{α:Type}(xs:List α)(lo hi:Option Int):List α:=(xs.drop (HT.sIx xs.length 0 lo)).take (HT.sIx xs.length xs.length hi-HT.sIx xs.length 0 lo)
theorem zO{α β:Type}{F:α->β->Prop}{xs:List α}{ds:List β}(r:Paired F xs ds)(lo hi:Option Int):Paired F (dP xs lo hi) (dP ds lo hi):=by unfold dP;rw[Paired.length r];exact Paired.tk _ (Paired.dr _ r)
abbrev FP:=ak->Res (Option Int)
def tP(X:Cx)(g:GE)(m:List Md)(f:FP):TO:=fun σ H Q=>∃r G,SI X g m r G σ H/\fin (f r) (fun o=>∀G' H',Grow X.K G H G' H'->Q o H') (XW X σ G H)
def lQ(X:Cx)(g:GE)(m:List Md)(e:Option Expr)(f:FP):Prop:=PO X e (tP X g m f)
theorem PO.imp{X:Cx}{e:Option Expr}{t t':TO}(h:PO X e t)(i:∀σ H Q,t' σ H Q->t σ H Q):PO X e t':=fun pz s σ H Q I q=>h pz s σ H Q I (i σ H Q q)
def PB:D->Option Int
|.int i=>some i
|_=>none
def j9(f:FE):FP:=fun r=>(f r).bind fun d=>(bS (PB d)).bind fun i=>.ok (some i)
theorem AX:lQ X g m none fun _=>.ok none:=PO.imp J2 fun σ H Q ⟨r,G,si,q⟩=>q G H (Grow.refl si.gok)
theorem nB(h:SB X g m e f):lQ X g m (some e) (j9 f):=by
 refine PO.imp (KR h) fun σ H Q ⟨r,G,si,q⟩=>⟨r,G,si,aP (aS q) fun d q1 v G1 H1 w1 r1=>?_⟩
 obtain⟨i,e,q2⟩:=cn (aS q1);cases d with
|int j=>cases e;exact⟨_,r1.int w1.ok,q2 G1 H1 w1⟩
|_=>cases e
def oS(d:D)(lo hi:Option Int):Option D:=match d with
|.tup ds=>if HT.sIx ds.length 0 lo=0/\HT.sIx ds.length ds.length hi=ds.length then none else some (.tup (dP ds lo hi))
|.lst ds=>some (.lst (dP ds lo hi))
|_=>none
def mS(fa:FE)(fl fh:FP):FE:=fun r=>(fa r).bind fun d=>(fl r).bind fun lo=>(fh r).bind fun hi=>bS (oS d lo hi)
theorem Js{R:V->Option Int->Option Int->Hp->Prop}{fl fh:FP}{r:ak}{G:GH}{σ:L2.St}{H:Hp}{q:D->Prop}(si:SI X g m r G σ H)(h:fin (mS fa fl fh r) q (XW X σ G H))(hk:∀d lo hi v G2 H2 d',Grow X.K G H G2 H2->RB X.K G2 H2 v d->oS d lo hi=some d'->q d'->R v lo hi H2):tB X g m fa σ H fun x H1=>tP X g m fl σ H1 fun l H2=>tP X g m fh σ H2 fun u H3=>R x l u H3:=by refine⟨r,G,si,aP (aS h) fun d h1 v G1 H1 w1 r1=>⟨r,G1,si.grow w1,eS (aS h1) w1 fun lo h2 G2 H2 w2=>⟨r,G2,(si.grow w1).grow w2,?_⟩⟩⟩;refine eS (aS h2) (w1.trans w2) fun hi h3 G3 H3 w3=>?_;obtain⟨d',e,h4⟩:=cn h3;exact hk d lo hi v G3 H3 d' ((w1.trans w2).trans w3) ((r1.mono w2).mono w3) e h4
theorem Al{lo hi:Option Expr}{fl fh:FP}(he:SB X g m e f)(hl:lQ X g m lo fl)(hu:lQ X g m hi fh):SE X g m (.Subscript e (.Slice lo hi none p2) pos) (mS f fl fh):=by refine PE.imp (Mm (kE.or KL Ju) he hl hu) fun σ H Q ⟨r,G,si,q⟩=>?_;refine Js si q fun d lo hi v G2 H2 d' w r1 e q2=>?_;cases d with
|tup ds=>
  obtain⟨a,xs,rfl,s,r⟩:=r1.tup w.ok;have e':(if HT.sIx ds.length 0 lo=0/\HT.sIx ds.length ds.length hi=ds.length then none else some (D.tup (dP ds lo hi)))=some d':=e;by_cases hw:HT.sIx ds.length 0 lo=0/\HT.sIx ds.length ds.length hi=ds.length
  .rw[if_pos hw]at e';cases e'
  rw[if_neg hw]at e';cases e';rw[<-Paired.length r]at hw;refine .inr ⟨a,xs,rfl,s,hw,fun p hp=>?_⟩;exact q2 _ _ _ (w.trans (Grow.newF w.ok hp (.tup (.inl ce) (zO r lo hi)))) (.ref cM)
|lst ds=>cases e;obtain⟨a,xs,rfl,s,r⟩:=r1.lst w.ok;exact .inl ⟨a,xs,rfl,s,fun p hp=>q2 _ _ _ (w.trans (Grow.newF w.ok hp (.lst (.inl ce) (zO r lo hi)))) (.ref cM)⟩
|_=>cases e
end
inductive Out where
 |nx (r:ak)|rt (d:D)|bk (r:ak)|ct (r:ak)|exc (x:D) (r:ak)|stuck
abbrev FS:=ak->Out
def aH(G G':GH):Prop:=∀a d,G a=some d->G' a=some d
theorem aH.refl(G:GH):aH G G:=fun _ _ e=>e
theorem aH.trans{G G1 G2:GH}(a:aH G G1)(b:aH G1 G2):aH G G2:=fun x d e=>b x d (a x d e)
def forget(m:List Md)(r:ak):ak:=S_ (fun md o=>if md=Md.sh then o else none) m r
def fG(m:List Md):List Md:=m.map fun _=>Md.sh
theorem og{m:List Md}{r:ak}{i:Nat}{d:D}(h:(forget m r)[i]? = some (some d)):r[i]? = some (some d)/\m[i]? = some .sh:=by unfold forget at h;rw[Ti]at h;cases e1:m[i]? with
|none=>rw[e1]at h;cases h
|some md=>cases e2:r[i]? with
 |none=>rw[e1,e2]at h;cases h
 |some o=>
   rw[e1,e2]at h;have h':(if md=Md.sh then o else none)=some d:=PJ h;split at h'
   .rename_i hm;subst hm;rw[h'];exact⟨rfl,rfl⟩
   .cases h'
section
variable{X:Cx}{g:GE}{m:List Md}{r:ak}{G:GH}{st:L2.St}{H:Hp}
theorem SI.forget(s:SI X g m r G st H):SI X g (fG m) (forget m r) G st H where
 gok:=s.gok
 old:=s.old
 ge:=s.ge
 gf:=s.gf
 lm:=by rw[fG,m_];exact s.lm
 lr:=by rw[DL.forget,T4,s.lm,s.lr,Nat.min_self]
 sh:=fun i d h _=>s.sh i d (og h).1 (og h).2
 ow:=fun i d h hm=>by rw[fG,n_,(og h).2]at hm;cases hm
 bw:=fun i d h hm=>by rw[fG,n_,(og h).2]at hm;cases hm
 dis:=fun i j a d e _ h _ hm=>by rw[fG,n_,(og h).2]at hm;cases hm
 lk:=fun i o _ hm=>by rw[fG,n_]at hm;cases q:m[i]? <;> rw[q]at hm <;> cases hm
theorem SI.set(s:SI X g m r G st H)(i:Nat){v:V}{d:D}(hv:RG X.K G v d):SI X g (m.set i .sh) (r.set i (some d)) G (st.set i (some v)) H where
 gok:=s.gok
 old:=s.old
 ge:=s.ge
 gf:=s.gf
 lm:=by simp[s.lm]
 lr:=by simp[s.lr]
 sh:=fun j e h hm=>by
  by_cases hij:i=j
  .subst hij;have hl:i<r.length:=by have:=(k_.mp h).1;simpa using this
   rw[o_ hl]at h;cases h;exact⟨v,by rw[o_ (by rw[<-s.lr];exact hl)],hv⟩
  .rw[c_ hij]at h hm;rw[c_ hij];exact s.sh j e h hm
 ow:=fun j e h hm=>by
  by_cases hij:i=j
  .subst hij;have hl:i<m.length:=by have:=(k_.mp hm).1;simpa using this
   rw[o_ hl]at hm;cases hm
  .rw[c_ hij]at h hm;rw[c_ hij];exact s.ow j e h hm
 bw:=fun j e h hm=>by
  by_cases hij:i=j
  .subst hij;have hl:i<m.length:=by have:=(k_.mp hm).1;simpa using this
   rw[o_ hl]at hm;cases hm
  .rw[c_ hij]at h hm;rw[c_ hij];exact s.bw j e h hm
 dis:=fun j k a d1 d2 hjk h1 h2 hm hm' q1 q2=>by
  have hij:i≠j:=by
   rintro rfl
   have hl:i<m.length:=by have:=(k_.mp hm).1;simpa using this
   rw[o_ hl]at hm;cases hm
  have hik:i≠k:=by
   rintro rfl
   have hl:i<m.length:=by have:=(k_.mp h2).1;rw[Sw,s.lr,<-s.lm]at this;exact this
   rw[o_ hl]at hm';cases hm'
  rw[c_ hij]at h1 hm q1;rw[c_ hik]at h2 hm' q2;exact s.dis j k a d1 d2 hjk h1 h2 hm hm' q1 q2
 lk:=fun j o hj hm=>by
  have hij:i≠j:=by
   rintro rfl
   have hl:i<m.length:=by have:=(k_.mp hm).1;simpa using this
   rw[o_ hl]at hm;cases hm
  rw[c_ hij]at hm;have:=s.lk j o hj hm;exact⟨by rw[c_ hij];exact this.1,fun d h=>this.2 d (by rw[c_ hij]at h;exact h)⟩
theorem SI.setO(s:SI X g m r G st H)(i:Nat){a:Addr}{d:D}(ho:Own X.K G H a d)(h0:g.h0 a=none)(hx:∀(j:Nat)(b:Addr)(e:D),r[j]? = some (some e)->m[j]? = some Md.ow->st[j]? = some (some (V.ref b))->b≠a):SI X g (m.set i .ow) (r.set i (some d)) G (st.set i (some (V.ref a))) H where
 gok:=s.gok
 old:=s.old
 ge:=s.ge
 gf:=s.gf
 lm:=by simp[s.lm]
 lr:=by simp[s.lr]
 sh:=fun j e h hm=>by
  by_cases hij:i=j
  .subst hij;have hl:i<m.length:=by have:=(k_.mp hm).1;simpa using this
   rw[o_ hl]at hm;cases hm
  .rw[c_ hij]at h hm;rw[c_ hij];exact s.sh j e h hm
 ow:=fun j e h hm=>by
  by_cases hij:i=j
  .subst hij;have hl:i<r.length:=by have:=(k_.mp h).1;simpa using this
   rw[o_ hl]at h;cases h;exact⟨a,by rw[o_ (by rw[<-s.lr];exact hl)],ho,h0⟩
  .rw[c_ hij]at h hm;rw[c_ hij];exact s.ow j e h hm
 bw:=fun j e h hm=>by
  by_cases hij:i=j
  .subst hij;have hl:i<m.length:=by have:=(k_.mp hm).1;simpa using this
   rw[o_ hl]at hm;cases hm
  .rw[c_ hij]at h hm;rw[c_ hij];exact s.bw j e h hm
 dis:=fun j k b d1 d2 hjk h1 h2 hm hm' q1 q2=>by
  by_cases hij:i=j
  .subst hij;rw[c_ hjk]at h2 hm' q2;have hl:i<st.length:=by have:=(k_.mp q1).1;simpa using this
   rw[o_ hl]at q1;have e:a=b:=by injection q1 with q1;injection q1 with q1;injection q1
   exact hx k b d2 h2 hm' q2 e.symm
  .by_cases hik:i=k
   .subst hik;rw[c_ hij]at h1 hm q1;have hl:i<st.length:=by have:=(k_.mp q2).1;simpa using this
    rw[o_ hl]at q2;have e:a=b:=by injection q2 with q2;injection q2 with q2;injection q2
    exact hx j b d1 h1 hm q1 e.symm
   .rw[c_ hij]at h1 hm q1;rw[c_ hik]at h2 hm' q2;exact s.dis j k b d1 d2 hjk h1 h2 hm hm' q1 q2
 lk:=fun j o hj hm=>by
  have hij:i≠j:=by
   rintro rfl
   have hl:i<m.length:=by have:=(k_.mp hm).1;simpa using this
   rw[o_ hl]at hm;cases hm
  rw[c_ hij]at hm;have:=s.lk j o hj hm;exact⟨by rw[c_ hij];exact this.1,fun d h=>this.2 d (by rw[c_ hij]at h;exact h)⟩
theorem SI.other(s:SI X g m r G st H){p:Addr}(hp:G p=none)(h0:g.h0 p=none)(hm:∀(i:Nat),m[i]?≠some Md.ow)(o:HO):SI X g m r G st (upd H p o) where
 gok:=fun b e h=>(s.gok b e h).mono (fun _ _ z=>z) fun o' q=>by rw[bf (by rintro rfl;rw[hp]at h;cases h)];exact q
 old:=fun b o' h=>by rw[bf (by rintro rfl;rw[h0]at h;cases h)];exact s.old b o' h
 ge:=s.ge
 gf:=s.gf
 lm:=s.lm
 lr:=s.lr
 sh:=s.sh
 ow:=fun i d _ h=>absurd h (hm i)
 bw:=fun i d h1 h2=>by
  obtain⟨v,h3,h4⟩:=s.bw i d h1 h2;refine⟨v,h3,?_⟩;rcases h4 with h4|⟨a,rfl,h4,h5⟩
  .exact .inl h4
  .have ha:a≠p:=by rintro rfl;exact h5 h0
   exact .inr ⟨a,rfl,⟨h4.un,h4.ob.mono (fun _ _ z=>z) fun o' z=>by rw[bf ha];exact z⟩,h5⟩
 dis:=fun i j a d e _ _ _ h=>absurd h (hm i)
 lk:=s.lk
theorem SI.less(s:SI X g m r G st H){r':ak}(hl:r'.length=r.length)(h:∀(i:Nat) d,r'[i]? = some (some d)->r[i]? = some (some d)):SI X g m r' G st H:=⟨s.gok,s.old,s.ge,s.gf,s.lm,hl.trans s.lr,fun i d a b=>s.sh i d (h i d a) b,fun i d a b=>s.ow i d (h i d a) b,fun i d a b=>s.bw i d (h i d a) b,fun i j a d e n p q x y=>s.dis i j a d e n (h i d p) (h j e q) x y,fun i o hi hm=>by have:=s.lk i o hi hm;exact⟨this.1,fun d hd=>this.2 d (h i d hd)⟩⟩
theorem SI.held(s:SI X g m r G st H){j:Nat}{b:Addr}{e:D}(h:r[j]? = some (some e))(hm:m[j]? = some .ow)(hs:st[j]? = some (some (V.ref b))):H b≠none:=by
 obtain⟨a,h1,h2,_⟩:=s.ow j e h hm;rw[hs]at h1;injection h1 with h1;injection h1 with h1;injection h1 with h1
 rw[h1];exact h2.ob.isS
theorem SI.new(s:SI X g m r G st H){a:Addr}(hn:H a=none):g.h0 a=none:=by cases q:g.h0 a with
|none=>rfl
|some o=>rw[s.old _ _ q]at hn;cases hn
theorem SI.setN(s:SI X g m r G st H){G':GH}{H':Hp}(w:Grow X.K G H G' H')(i:Nat){a:Addr}{d:D}(hn:H a=none)(ho:Own X.K G' H' a d):SI X g (m.set i .ow) (r.set i (some d)) G' (st.set i (some (V.ref a))) H':=by
 refine(s.grow w).setO i ho ?_ fun j b e h1 h2 h3=>?_
 .cases q:g.h0 a with
 |none=>rfl
 |some o=>rw[s.old _ _ q]at hn;cases hn
 .rintro rfl
  exact s.held h1 h2 h3 hn
theorem SI.mut(s:SI X g m r G st H){i:Nat}{d:D}(hm:m[i]? = some .ow)(hd:r[i]? = some (some d)):∃a,st[i]? = some (some (V.ref a))/\Own X.K G H a d/\∀(o':HO)(d':D),OwnO X.K G (upd H a o') a d'->SI X g m (r.set i (some d')) G st (upd H a o'):=by
 obtain⟨a,h1,h2,h3⟩:=s.ow i d hd hm;have hl:i<r.length:=(k_.mp hd).1;refine⟨a,h1,h2,fun o' d' ob=>?_⟩;have oth:∀(j:Nat)(b:Addr)(e:D),j≠i->r[j]? = some (some e)->m[j]? = some .ow->st[j]? = some (some (V.ref b))->b≠a:=fun j b e hj q1 q2 q3 z=>by subst z;exact s.dis i j b d e (Rs hj) hd q1 hm q2 h1 q3
 refine⟨fun b e h=>?_,fun b o h=>?_,s.ge,s.gf,s.lm,by simp[s.lr],?_,?_,?_,?_,fun j o hj hm'=>?_⟩
 .have hb:b≠a:=by rintro rfl;rw[h2.un]at h;cases h
  exact(s.gok b e h).mono (fun _ _ z=>z) fun o q=>by rw[bf hb];exact q
 .have hb:b≠a:=by rintro rfl;rw[h3]at h;cases h
  rw[bf hb];exact s.old b o h
 .intro j e h hm';have hij:i≠j:=by rintro rfl;rw[hm]at hm';cases hm'
  rw[c_ hij]at h;exact s.sh j e h hm'
 .intro j e h hm';by_cases hij:i=j
  .subst hij;rw[o_ hl]at h;cases h;exact⟨a,h1,⟨h2.un,ob⟩,h3⟩
  .rw[c_ hij]at h;obtain⟨b,q1,q2,q3⟩:=s.ow j e h hm';have hb:=oth j b e (Rs hij) h hm' q1;exact⟨b,q1,⟨q2.un,q2.ob.mono (fun _ _ z=>z) fun o z=>by rw[bf hb];exact z⟩,q3⟩
 .intro j e h hm';have hij:i≠j:=by rintro rfl;rw[hm]at hm';cases hm'
  rw[c_ hij]at h;obtain⟨v,q1,q2⟩:=s.bw j e h hm';refine⟨v,q1,?_⟩;rcases q2 with q2|⟨b,rfl,q2,q3⟩
  .exact .inl q2
  .have hb:b≠a:=by rintro rfl;exact q3 h3
   exact .inr ⟨b,rfl,⟨q2.un,q2.ob.mono (fun _ _ z=>z) fun o z=>by rw[bf hb];exact z⟩,q3⟩
 .have bound:∀(j:Nat) e,(r.set i (some d'))[j]? = some (some e)->∃e',r[j]? = some (some e'):=fun j e h=>by
   by_cases hij:i=j
   .subst hij;exact⟨d,hd⟩
   .rw[c_ hij]at h;exact⟨e,h⟩
  intro j k b d1 d2 hjk q1 q2 p1 p2 z1 z2;obtain⟨e1,q1⟩:=bound j d1 q1;obtain⟨e2,q2⟩:=bound k d2 q2;exact s.dis j k b e1 e2 hjk q1 q2 p1 p2 z1 z2
 .have hij:i≠j:=by rintro rfl;rw[hm]at hm';cases hm'
  have:=s.lk j o hj hm';exact⟨this.1,fun d'' h=>this.2 d'' (by rw[c_ hij]at h;exact h)⟩
end
def RV(ro:Bool)(K:W.Frag)(H0:Hp)(G:GH)(H:Hp)(v:V)(d:D):Prop:=match ro with
|false=>RG K G v d
|true=>(∃a,v=.ref a/\H0 a=none/\Own K G H a d)\/(d=.non/\v=.non)
def bD(X:Cx)(g:GE)(ro:Bool)(m' mb:List Md)(G:GH)(D:Ends):Out->Prop
|.nx r'=>∀σ' G' H',aH G G'->SI X g m' r' G' σ' H'->D.nx σ' H'
|.rt d=>∀v G' H',Grow X.K g.gh g.h0 G' H'->RV ro X.K g.h0 G' H' v d->D.rt v H'
|.bk r'=>∀σ' G' H',aH G G'->SI X g mb r' G' σ' H'->D.bk σ' H'
|.ct r'=>∀σ' G' H',aH G G'->SI X g mb r' G' σ' H'->D.ct σ' H'
|.exc x r'=>∀pz e s' σ' G' H',aH G G'->SI X g (fG m') r' G' σ' H'->Inv X pz σ' H' s'->Fz X σ' G' H' e x s'->X.xe e s'
|.stuck=>False
def tS(X:Cx)(g:GE)(ro:Bool)(m m' mb:List Md)(f:FS):TS:=fun D σ H=>∃r G,SI X g m r G σ H/\bD X g ro m' mb G D (f r)
def SS(X:Cx)(g:GE)(ro:Bool)(mb m:List Md)(st:Stmt)(f:FS)(m':List Md):Prop:=m'.length=m.length/\PS X st (tS X g ro m m' mb f)
def fR(X:Cx)(g:GE)(ro:Bool)(mb m:List Md)(st:List Stmt)(f:FS)(m':List Md):Prop:=m'.length=m.length/\cY X st (tS X g ro m m' mb f)
theorem qK{m m':List Md}(h:m'.length=m.length):fG m'=fG m:=by unfold fG;rw[WF,WF,h]
theorem bD.x{X:Cx}{g:GE}{ro:Bool}{m m' mb:List Md}{r:ak}{G:GH}{D:Ends}{σ:L2.St}{H:Hp}{x:DL.D}(h:bD X g ro m' mb G D (.exc x (forget m r)))(si:SI X g m r G σ H)(hl:m'.length=m.length):XW X σ G H x:=fun pz e s' G' H' w I ex=>h pz e s' σ G' H' w.ge (by rw[qK hl];exact(si.grow w).forget) I ex
section
variable{X:Cx}{g:GE}{ro:Bool}{m m' m1 mb:List Md}{e a b c tg:Expr}{f fa fb fc:FE}{p:FQ}{pos pos':Pos}{st:Stmt}{sts sts':List Stmt}{s1 s2:FS}
theorem bD.gle{G G1:GH}{D:Ends}{o:Out}(h:bD X g ro m' mb G D o)(w:aH G G1):bD X g ro m' mb G1 D o:=by cases o with
|nx r'=>exact fun σ' G' H' q si=>h σ' G' H' (w.trans q) si
|rt d=>exact h
|bk r'=>exact fun σ' G' H' q si=>h σ' G' H' (w.trans q) si
|ct r'=>exact fun σ' G' H' q si=>h σ' G' H' (w.trans q) si
|exc x r'=>exact fun pz e s' σ' G' H' q=>h pz e s' σ' G' H' (w.trans q)
|stuck=>exact h
def aa(s1 s2:FS):FS:=fun r=>match s1 r with
|.nx r'=>s2 r'
|o=>o
def au:FS:=fun r=>.nx r
theorem aw:fR X g ro mb m [] au m:=⟨rfl,cY.imp B9 fun D σ H ⟨r,G,si,q⟩=>q σ G H (aH.refl G) si⟩
theorem aj(h1:SS X g ro mb m st s1 m1)(h2:fR X g ro mb m1 sts s2 m'):fR X g ro mb m (st::sts) (aa s1 s2) m':=by refine⟨h2.1.trans h1.1,cY.imp (C0 h1.2 h2.2) fun D σ H ⟨r,G,si,q⟩=>⟨r,G,si,?_⟩⟩;unfold aa at q;cases e:s1 r with
|nx r'=>rw[e]at q;exact fun σ' G' H' w si'=>⟨r',G',si',bD.gle q w⟩
|rt d=>rw[e]at q;exact q
|bk r'=>rw[e]at q;exact q
|ct r'=>rw[e]at q;exact q
|exc x r'=>rw[e]at q;exact fun pz e s' σ' G' H' w si'=>q pz e s' σ' G' H' w (by rw[qK h2.1];exact si')
|stuck=>rw[e]at q;exact q
theorem qd:SS X g ro mb m st (fun _=>.stuck) m:=⟨rfl,PS.imp Lz fun D σ H ⟨r,G,si,q⟩=>q⟩
theorem h9(i:Nat)(hi:m[i]? = some .ow)(h:SS X g ro mb (m.set i .sh) st s1 m'):SS X g ro mb m st s1 m':=by
 refine⟨h.1.trans (by simp),fun pz s σ H D I ⟨r,G,si,q⟩=>?_⟩;rcases si.frz i hi with⟨G',le,si'⟩|⟨a,z⟩
 .exact h.2 pz s σ H D I ⟨r,G',si',bD.gle q le⟩
 .obtain⟨ob,I2⟩:=Inv.fast I a;obtain⟨G',le,si'⟩:=z ob;exact h.2 pz s σ _ D I2 ⟨r,G',si',bD.gle q le⟩
def fq{α:Type}(m:List Md)(r:ak)(x:Res α)(k:α->Out):Out:=match x with
|.ok a=>k a
|.exc e=>.exc e (forget m r)
|.stuck=>.stuck
@[simp] theorem onE_ok{α:Type}(m:List Md)(r:ak)(a:α)(k:α->Out):fq m r (.ok a) k=k a:=rfl
theorem eZ{α:Type}{x:Res α}{k:α->Out}{r:ak}{G:GH}{D:Ends}{σ:L2.St}{H:Hp}(si:SI X g m r G σ H)(hl:m'.length=m.length)(h:bD X g ro m' mb G D (fq m r x k)):fin x (fun a=>bD X g ro m' mb G D (k a)) (XW X σ G H):=by cases x with
|ok a=>exact h
|exc e=>exact bD.x h si hl
|stuck=>exact h
def ap(m:List Md)(i:Nat)(f:FE):FS:=fun r=>fq m r (f r) fun d=>.nx (r.set i (some d))
theorem F0(i:Nat){x:Str}(hN:X.N.Nodup)(hi:X.N[i]? = some x)(hx:io X.env.scope x)(he:SE X g m e f)(hs:Tl e (some (.Name x pos')) pos.line X.env=pure false:=by rfl)(hf:X.fn x=true\/X.env.scope.names.lookup x=some .local:=by first|exact .inl rfl|exact .inr rfl|assumption):SS X g ro mb m (.Assign [.Name x pos'] e pos) (ap m i f) (m.set i .sh):=by
 have hl:(m.set i .sh).length=m.length:=by simp
 refine⟨hl,PS.imp (A4 hN hi hx he hs hf) fun D σ H ⟨r,G,si,q⟩=>⟨r,G,si,?_⟩⟩;exact aP (eZ si hl q) fun d q v G' H' w rv=>q _ G' H' w.ge ((si.grow w).set i rv)
theorem dB(i:Nat){x:Str}(hN:X.N.Nodup)(hi:X.N[i]? = some x)(hx:io X.env.scope x)(he:SO X g m e f)(hs:Tl e (some (.Name x pos')) pos.line X.env=pure false:=by rfl)(hf:X.fn x=true\/X.env.scope.names.lookup x=some .local:=by first|exact .inl rfl|exact .inr rfl|assumption):SS X g ro mb m (.Assign [.Name x pos'] e pos) (ap m i f) (m.set i .ow):=by
 have hl:(m.set i .ow).length=m.length:=by simp
 refine⟨hl,PS.imp (A4 hN hi hx he hs hf) fun D σ H ⟨r,G,si,q⟩=>⟨r,G,si,?_⟩⟩;exact aP (eZ si hl q) fun d q a G' H' w hn ho=>q _ G' H' w.ge (si.setN w i hn ho)
def mV(m:List Md)(f:FE):FS:=fun r=>fq m r (f r) fun _=>.nx r
theorem Bc(he:SE X g m e f)(hs:Tl e none pos.line X.env=pure false:=by rfl):SS X g ro mb m (.Expr e pos) (mV m f) m:=⟨rfl,PS.imp (t5 he hs) fun D σ H ⟨r,G,si,q⟩=>⟨r,G,si,aP (eZ si rfl q) fun d q v G' H' w _=>q σ G' H' w.ge (si.grow w)⟩⟩
def av(m:List Md)(f:FE):FS:=fun r=>fq m r (f r) fun d=>.rt d
theorem ba(he:SE X g m e f):SS X g false mb m (.Return (some e) pos) (av m f) m:=⟨rfl,PS.imp (sX he) fun D σ H ⟨r,G,si,q⟩=>⟨r,G,si,aP (eZ si rfl q) fun d q v G' H' w rv=>q v G' H' (si.grow w).grown rv⟩⟩
theorem Jo(i:Nat){x:Str}(hm:m[i]? = some .ow)(hN:X.N[i]? = some x)(hv:fQ X.env.scope x)(hd:(x==("__debug__" : Str))=false:=by decide)(hcd:(x==("__classdict__" : Str))=false:=by decide):SS X g true mb m (.Return (some (.Name x pos')) pos) (av m fun r=>dN r i) m:=by refine⟨rfl,PS.imp (sX (iY hN hv hd hcd)) fun D σ H ⟨r,G,si,q⟩=>?_⟩;obtain⟨d,e,q⟩:=qv (eZ si rfl q);obtain⟨a,h1,h2,h3⟩:=si.ow i d e hm;exact⟨_,h1,q _ G H si.grown (.inl ⟨a,rfl,h3,h2⟩)⟩
def cA(m:List Md)(p:FQ)(s1 s2:FS):FS:=fun r=>fq m r (p r) fun c=>if c=true then s1 r else s2 r
theorem bp(hc:SQ X g m c p)(h1:fR X g ro mb m sts s1 m')(h2:fR X g ro mb m sts' s2 m'):SS X g ro mb m (.If c sts sts' pos) (cA m p s1 s2) m':=by refine⟨h1.1,PS.imp (pE hc h1.2 h2.2) fun D σ H ⟨r,G,si,q⟩=>⟨r,G,si,aP (eZ si h1.1 q) fun c q G' H' w=>?_⟩⟩;cases c with
|true=>rw[if_pos rfl]at q ⊢;exact⟨r,G',si.grow w,bD.gle q w.ge⟩
|false=>rw[if_neg j_]at q ⊢;exact⟨r,G',si.grow w,bD.gle q w.ge⟩
theorem NI(i:Nat)(h:fR X g ro mb m sts s1 m')(hi:m'[i]? = some .ow):fR X g ro mb m sts s1 (m'.set i .sh):=by
 refine⟨by simp[h.1],fun pz s σ H D I ⟨r,G,si,q⟩=>?_⟩;refine aL (h.2 pz s σ H ⟨fun σ' H'=>D.nx σ' H'\/∃a,∀ob,D.nx σ' (fz H' a ob),D.rt,D.bk,D.ct⟩ I ⟨r,G,si,?_⟩) fun f s' p=>?_
 .cases e:s1 r with
 |nx r'=>
   rw[e]at q;intro σ' G' H' w si';rcases si'.frz i hi with⟨G2,le,si2⟩|⟨a,z⟩
   .exact .inl (q σ' G2 H' (w.trans le) si2)
   .refine .inr ⟨a,fun ob=>?_⟩;obtain⟨G2,le,si2⟩:=z ob;exact q σ' G2 _ (w.trans le) si2
 |rt d=>rw[e]at q;exact q
 |bk r'=>rw[e]at q;exact q
 |ct r'=>rw[e]at q;exact q
 |exc x r'=>rw[e]at q;exact fun pz e s' σ' G' H' w si'=>q pz e s' σ' G' H' w (by rw[qK (m:=m') (by simp)];exact si')
 |stuck=>rw[e]at q;exact q
 .cases f with
 |next=>
   obtain⟨σ',H',I',z|⟨a,z⟩⟩:=p
   .exact⟨σ',H',I',z⟩
   .obtain⟨ob,I2⟩:=Inv.fast I' a;exact⟨σ',_,I2,z ob⟩
 |brk=>exact p
 |cont=>exact p
 |ret u=>exact p
end
abbrev FT:=D->ak->Option ak
abbrev ji:=List D->ak->Option ak
def tG(X:Cx)(g:GE)(m m':List Md)(ft:FT):TG:=fun v σ H Q=>∃r G d,SI X g m r G σ H/\RG X.K G v d/\∃r',ft d r=some r'/\∀σ',SI X g m' r' G σ' H->Q σ' H
def Pk(X:Cx)(g:GE)(m m':List Md)(ft:ji):jf:=fun vs σ H Q=>∃r G ds,SI X g m r G σ H/\bA X.K G vs ds/\∃r',ft ds r=some r'/\∀σ',SI X g m' r' G σ' H->Q σ' H
theorem PG.imp{X:Cx}{e:Expr}{t t':TG}(h:PG X e t)(i:∀v σ H Q,t' v σ H Q->t v σ H Q):PG X e t':=fun pz s σ H v u Q I r q=>h pz s σ H v u Q I r (i v σ H Q q)
theorem iQ.imp{X:Cx}{e:List Expr}{t t':jf}(h:iQ X e t)(i:∀v σ H Q,t' v σ H Q->t v σ H Q):iQ X e t':=fun pz s σ H v u Q I r q=>h pz s σ H v u Q I r (i v σ H Q q)
def SG(X:Cx)(g:GE)(m:List Md)(tg:Expr)(ft:FT)(m':List Md):Prop:=m'.length=m.length/\PG X tg (tG X g m m' ft)
structure SGs(X:Cx)(g:GE)(m:List Md)(ts:List Expr)(n:Nat)(ft:ji)(m':List Md):Prop where
 ml:m'.length=m.length
 ln:∀ds r r',ft ds r=some r'->ds.length=n
 pg:iQ X ts (Pk X g m m' ft)
def az(i:Nat):FT:=fun d r=>some (r.set i (some d))
def dg(ft:ji):FT:=fun d r=>match d with
|.tup ds=>ft ds r
|.lst ds=>ft ds r
|_=>none
def dc:ji:=fun ds r=>match ds with
|[]=>some r
|_=>none
def bh(ft:FT)(fts:ji):ji:=fun ds r=>match ds with
|[]=>none
|d::ds=>(ft d r).bind fun r'=>fts ds r'
section
variable{X:Cx}{g:GE}{m m' m1:List Md}{tg:Expr}{ts:List Expr}{ft:FT}{fts:ji}{pos:Pos}{n:Nat}
theorem GU(i:Nat){x:Str}(hN:X.N.Nodup)(hi:X.N[i]? = some x)(hx:io X.env.scope x)(hf:X.fn x=true\/X.env.scope.names.lookup x=some .local:=by first|exact .inl rfl|exact .inr rfl|assumption):SG X g m (.Name x pos) (az i) (m.set i .sh):=⟨by simp,PG.imp (B5 hN hi hx hf) fun v σ H Q ⟨r,G,d,si,rv,r',e,k⟩=>by cases e;exact k _ (si.set i rv)⟩
theorem hX:SGs X g m [] 0 dc m:=by
 refine⟨rfl,fun ds r r' e=>?_,iQ.imp J0 fun v σ H Q ⟨r,G,ds,si,rv,r',e,k⟩=>?_⟩
 .cases ds with
 |nil=>rfl
 |cons _ _=>cases e
 .cases rv with
 |nil=>cases e;exact⟨rfl,k σ si⟩
 |cons _ _=>cases e
theorem cT(h1:SG X g m tg ft m1)(h2:SGs X g m1 ts n fts m')(hs:(QN (tg::ts) X.env).map (·.2)=Tn tg X.env::(QN ts X.env).map (·.2):=by rfl):SGs X g m (tg::ts) (n+1) (bh ft fts) m':=by
 refine⟨h2.ml.trans h1.1,fun ds r r' e=>?_,iQ.imp (Mo h1.2 h2.pg hs) fun v σ H Q ⟨r,G,ds,si,rv,r',e,k⟩=>?_⟩
 .cases ds with
 |nil=>cases e
 |cons d ds=>have e':((ft d r).bind fun r'=>fts ds r')=some r':=e;cases q:ft d r with
  |none=>rw[q]at e';cases e'
  |some r1=>rw[q]at e';have:=h2.ln ds r1 r' e';simp[this]
 .cases rv with
 |nil=>cases e
 |@cons v0 d vs ds rv rs=>have e':((ft d r).bind fun r'=>fts ds r')=some r':=e;cases q:ft d r with
  |none=>rw[q]at e';cases e'
  |some r1=>rw[q]at e';exact⟨_,_,rfl,r,G,d,si,rv,r1,q,fun σ' si'=>⟨r1,G,ds,si',rs,r',e',k⟩⟩
theorem HR{k:Nat}{t:jf}(hc:X.calm=true)(h:iQ X ts t)(hn:(QN ts X.env).length=n)(hst:(QN ts X.env).findIdx? (·.1)=none):PG X (.Tuple ts k pos) (fun v σ H Q=>∃a xs,v=.ref a/\aV X.K H a xs/\xs.length=n/\t xs σ H Q):=by intro pz s σ H v u Q I r hw;obtain⟨a,xs,e1,hq,hl,hw⟩:=hw;subst e1;cases r;obtain⟨its,rv,⟨o,nn,l1,l2,l3,l4⟩,hz⟩:=I.list hq;rw[Xo];refine d_ (Uu ?_);unfold unpack;rw[hst,show(QN ts X.env).length=its.toArray.size by simp[hn,<-hl,rv.length]];refine d_ (Q6 (W.kun_itemsOf (I.ok.hd hc) ⟨o,l1,l2,nn,l4⟩ fun h' hx=>?_));have I1:Inv X pz σ H { s with heap:=h' }:=I.kept (t':=s.toks) fun b o e=>hx b o (PH (x_ e)) e;exact h pz _ σ H xs _ Q I1 (by simpa using rv) hw
theorem PG.or{e:Expr}{t t':TG}(h:PG X e t)(h':PG X e t'):PG X e (fun v σ H Q=>t v σ H Q\/t' v σ H Q):=fun pz s σ H v u Q I r q=>q.elim (h pz s σ H v u Q I r) (h' pz s σ H v u Q I r)
theorem hZ{k:Nat}(hc:X.calm=true)(h:SGs X g m ts n fts m')(hn:(QN ts X.env).length=n:=by rfl)(hst:(QN ts X.env).findIdx? (·.1)=none:=by rfl):SG X g m (.Tuple ts k pos) (dg fts) m':=by refine⟨h.ml,PG.imp (PG.or (HQ hc h.pg hn hst) (HR hc h.pg hn hst)) fun v σ H Q ⟨r,G,d,si,rv,r',e,k⟩=>?_⟩;cases d with
|tup ds=>obtain⟨a,xs,rfl,s,rs⟩:=rv.tup si.gok;exact .inl ⟨a,xs,rfl,s,(Paired.length rs).trans (h.ln ds r r' e),r,G,ds,si,rs,r',e,k⟩
|lst ds=>obtain⟨a,xs,rfl,s,rs⟩:=rv.lst si.gok;exact .inr ⟨a,xs,rfl,s,(Paired.length rs).trans (h.ln ds r r' e),r,G,ds,si,rs,r',e,k⟩
|_=>cases e
end
structure Yields(K:W.Frag)(J:It)(ds:List D)(G0:GH):Prop where
 go:∀G H (i:Nat),aH G0 G->aM K G H->i<ds.length->J.go i H
 yld:∀G H (i:Nat) x H' d,aH G0 G->aM K G H->J.yld i H x H'->ds[i]? = some d->∃G',Grow K G H G' H'/\RG K G' x d
 stop:∀G H,aH G0 G->aM K G H->J.stop ds.length H
abbrev FI:=ak->Res (List D)
def tI(X:Cx)(g:GE)(m:List Md)(f:FI):TI:=fun σ H R=>∃r G,SI X g m r G σ H/\fin (f r) (fun ds=>∀J G' H',Grow X.K G H G' H'->Yields X.K J ds G'->R J H') (XW X σ G H)
def dZ(X:Cx)(g:GE)(m:List Md)(tg iter:Expr)(f:FI):Prop:=PI X tg iter (tI X g m f)
theorem PI.imp{X:Cx}{tg e:Expr}{t t':TI}(h:PI X tg e t)(i:∀σ H Q,t' σ H Q->t σ H Q):PI X tg e t':=fun pz s σ H R I q=>h pz s σ H R I (i σ H R q)
theorem vD{K:W.Frag}{a:Addr}{ds:List D}{G0:GH}(h0:RG K G0 (.ref a) (.lst ds)):Yields K (pj K a) ds G0:=by
 have at_:∀G H,aH G0 G->aM K G H->∃xs,aV K H a xs/\bA K G xs ds:=fun G H w gk=>by obtain⟨b,xs,e,s,r⟩:=(h0.mono w).lst gk;cases e;exact⟨xs,s,r⟩
 refine⟨fun G H i w gk hi=>?_,fun G H i x H' d w gk y e=>?_,fun G H w gk=>?_⟩
 .obtain⟨xs,s,r⟩:=at_ G H w gk;have hl:=Paired.length r;exact⟨xs,xs[i],s,i_ (by omega)⟩
 .obtain⟨xs,s,r⟩:=at_ G H w gk;obtain⟨rfl,y⟩:=y;obtain⟨v,e1,rv⟩:=Paired.get r e;have:=y xs s;rw[e1]at this;cases this;exact⟨G,Grow.refl gk,rv⟩
 .obtain⟨xs,s,r⟩:=at_ G H w gk;exact⟨xs,s,SZ (Paired.length r)⟩
theorem tv{K:W.Frag}{a:Addr}{ds:List D}{G0:GH}(h0:RG K G0 (.ref a) (.tup ds)):Yields K (zw K a) ds G0:=by
 have at_:∀G H,aH G0 G->aM K G H->∃xs,bO K H a xs/\bA K G xs ds:=fun G H w gk=>by obtain⟨b,xs,e,s,r⟩:=(h0.mono w).tup gk;cases e;exact⟨xs,s,r⟩
 refine⟨fun G H i w gk hi=>?_,fun G H i x H' d w gk y e=>?_,fun G H w gk=>?_⟩
 .obtain⟨xs,s,r⟩:=at_ G H w gk;have hl:=Paired.length r;exact⟨xs,xs[i],s,i_ (by omega)⟩
 .obtain⟨xs,s,r⟩:=at_ G H w gk;obtain⟨rfl,y⟩:=y;obtain⟨v,e1,rv⟩:=Paired.get r e;have:=y xs s;rw[e1]at this;cases this;exact⟨G,Grow.refl gk,rv⟩
 .obtain⟨xs,s,r⟩:=at_ G H w gk;exact⟨xs,s,SZ (Paired.length r)⟩
def cZ(lo:Int)(n:Nat):List D:=(a_ n).map fun(i:Nat)=>D.int (lo+(i:Int))
theorem Jc{K:W.Frag}{lo:Int}{n:Nat}{G0:GH}:Yields K (se lo n) (cZ lo n) G0:=by
 have hl:(cZ lo n).length=n:=by simp[cZ]
 refine⟨fun G H i w gk hi=>(by rw[hl]at hi;exact hi),fun G H i x H' d w gk y e=>?_,fun G H w gk=>(by rw[hl];exact u_ _)⟩;obtain⟨rfl,rfl⟩:=y;have hi:i<n:=by have:=(k_.mp e).1;rw[hl]at this;exact this
 unfold cZ at e;rw[n_,PM hi]at e;cases e;exact⟨G,Grow.refl gk,.scl (.int _)⟩
def bJ:D->Option (List D)
|.lst ds=>some ds
|.tup ds=>some ds
|_=>none
section
variable{X:Cx}{g:GE}{m m' m1 mb:List Md}{tg e a b c iter:Expr}{f fa fb:FE}{p:FQ}{pos pos':Pos}{ro:Bool}{fl:ak->Res (List D)}{sts:List Stmt}{s1:FS}
def aG(k:D->Option (List D))(f:FE):FI:=fun r=>(f r).bind fun d=>bS (k d)
theorem sW{l:Expr}{tl:TE}(hl:PE X l tl):PI X tg l (fun σ H R=>tl σ H fun x H1=>(∃a,x=.ref a/\(∃xs,aV X.K H1 a xs)/\R (pj X.K a) H1)\/∃a,x=.ref a/\(∃xs,bO X.K H1 a xs)/\R (zw X.K a) H1):=by
 intro pz s σ H R I h;refine aL (hl pz s σ H _ I h) fun v s1 ⟨x,H1,I1,r1,q1⟩=>?_;rcases q1 with⟨a,e,⟨xs,hq⟩,q⟩|⟨a,e,⟨xs,hq⟩,q⟩
 .subst e;cases r1;obtain⟨its,rv,p,hz⟩:=I1.list hq;refine RI p.isList ?_;refine⟨s1.heap.objs.size,[s1.heap.objs.size],_,_,H1,rfl,I1.kept (t':=s1.toks) fun b o e=>e_ _ e,Nl a _,⟨_,w_ _ rfl,rfl,rfl⟩,fun b hb=>?_,q⟩;have e:b=s1.heap.objs.size:=by simpa using hb
  subst e;exact I1.fpOk (u_ _) (I1.hok.fresh (u_ _))
 .subst e;cases r1;obtain⟨its,rv,p,hz⟩:=I1.tuple hq;refine Qz (show s1.heap.IsTuple a its.toArray from p) ?_;refine⟨s1.heap.objs.size,[s1.heap.objs.size],_,_,H1,rfl,I1.kept (t':=s1.toks) fun b o e=>e_ _ e,N2 a _,⟨_,w_ _ rfl,rfl,rfl⟩,fun b hb=>?_,q⟩;have e:b=s1.heap.objs.size:=by simpa using hb
  subst e;exact I1.fpOk (u_ _) (I1.hok.fresh (u_ _))
theorem sx(h:SE X g m e f):dZ X g m tg e (aG bJ f):=by
 refine PI.imp (sW h) fun σ H R ⟨r,G,si,q⟩=>⟨r,G,si,aP (aS q) fun d q v G' H' w rv=>?_⟩
 obtain⟨ds,e,q⟩:=cn q;cases d with
|lst ds'=>cases e;obtain⟨a,xs,rfl,s,rs⟩:=rv.lst w.ok;exact .inl ⟨a,rfl,⟨xs,s⟩,q _ G' H' w (vD rv)⟩
|tup ds'=>cases e;obtain⟨a,xs,rfl,s,rs⟩:=rv.tup w.ok;exact .inr ⟨a,rfl,⟨xs,s⟩,q _ G' H' w (tv rv)⟩
|_=>cases e
structure YieldsC(K:W.Frag)(J:It)(ds:List D)(G0:GH)(H0:Hp):Prop where
 go:∀G H (i:Nat),Grow K G0 H0 G H->i<ds.length->J.go i H
 yld:∀G H (i:Nat) x H' d,Grow K G0 H0 G H->J.yld i H x H'->ds[i]? = some d->∃G',Grow K G H G' H'/\RG K G' x d
 stop:∀G H,Grow K G0 H0 G H->J.stop ds.length H
theorem Yields.toC{K:W.Frag}{J:It}{ds:List D}{G0:GH}{H0:Hp}(y:Yields K J ds G0):YieldsC K J ds G0 H0:=⟨fun G H i w hi=>y.go G H i w.ge w.ok hi,fun G H i x H' d w q e=>y.yld G H i x H' d w.ge w.ok q e,fun G H w=>y.stop G H w.ge w.ok⟩
def Pi(X:Cx)(g:GE)(m:List Md)(f:FI):TI:=fun σ H R=>∃r G,SI X g m r G σ H/\fin (f r) (fun ds=>∀J G' H',Grow X.K G H G' H'->YieldsC X.K J ds G' H'->R J H') (XW X σ G H)
def gZ(X:Cx)(g:GE)(m:List Md)(tg iter:Expr)(f:FI):Prop:=PI X tg iter (Pi X g m f)
theorem dZ.toC{fi:FI}(h:dZ X g m tg iter fi):gZ X g m tg iter fi:=PI.imp h fun σ H R ⟨r,G,si,q⟩=>⟨r,G,si,aP q fun ds k J G' H' w y=>k J G' H' w y.toC⟩
theorem Jb{K:W.Frag}{a:Addr}{ds:List D}{G0:GH}{H0:Hp}(o:Own K G0 H0 a (.lst ds)):YieldsC K (pj K a) ds G0 H0:=by
 have at_:∀G H,Grow K G0 H0 G H->∃xs,aV K H a xs/\bA K G xs ds:=fun G H w=>by cases(o.mono w).ob with
 |lst r s=>exact⟨_,aV.of r,s⟩
 refine⟨fun G H i w hi=>?_,fun G H i x H' d w y e=>?_,fun G H w=>?_⟩
 .obtain⟨xs,s,r⟩:=at_ G H w;have hl:=Paired.length r;exact⟨xs,xs[i],s,i_ (by omega)⟩
 .obtain⟨xs,s,r⟩:=at_ G H w;obtain⟨rfl,y⟩:=y;obtain⟨v,e1,rv⟩:=Paired.get r e;have:=y xs s;rw[e1]at this;cases this;exact⟨G,Grow.refl w.ok,rv⟩
 .obtain⟨xs,s,r⟩:=at_ G H w;exact⟨xs,s,SZ (Paired.length r)⟩
theorem ig(h:SB X g m e f):gZ X g m tg e (aG bJ f):=by
 refine PI.imp (sW h) fun σ H R ⟨r,G,si,q⟩=>⟨r,G,si,aP (aS q) fun d q v G' H' w rv=>?_⟩
 obtain⟨ds,e,q⟩:=cn q;cases d with
|lst ds'=>
  cases e;rcases rv with rv|⟨a,rfl,o⟩
  .obtain⟨a,xs,rfl,s,rs⟩:=rv.lst w.ok;exact .inl ⟨a,rfl,⟨xs,s⟩,q _ G' H' w (vD rv).toC⟩
  .cases o.ob with
  |lst r s=>exact .inl ⟨a,rfl,⟨_,aV.of r⟩,q _ G' H' w (Jb o)⟩
|tup ds'=>
  cases e;rcases rv with rv|⟨a,rfl,o⟩
  .obtain⟨a,xs,rfl,s,rs⟩:=rv.tup w.ok;exact .inr ⟨a,rfl,⟨xs,s⟩,q _ G' H' w (tv rv).toC⟩
  .cases o.ob
|_=>cases e
def bB:List D->Option (List D)
|[.int j]=>if-(2^62)<=j/\j<2^62 then some (cZ 0 j.toNat)else none
|_=>none
def bL(k:List D->Option (List D))(fl:ak->Res (List D)):FI:=fun r=>(fl r).bind fun ds=>bS (k ds)
theorem fX{pn:Pos}(hg:Gl X "range")(hm:X.mg "range" = none)(ha:g6 X g m [a] fl)(hs:l_ [a] X.env=[(false,eval a X.env)]:=by rfl):dZ X g m tg (.Call (.Name "range" pn) [a] [] pos) (bL bB fl):=by
 refine PI.imp (MY hg hm ha hs) fun σ H R ⟨r,G,si,q⟩=>⟨r,G,si,aP (aS q) fun ds q vs G' H' w rs=>?_⟩
 obtain⟨zs,e,q⟩:=cn q;unfold bB at e;split at e
 .split at e
  .rename_i j hj;cases e;cases rs with
  |cons r1 t=>cases t;exact⟨j,by rw[r1.int w.ok],hj.1,hj.2,q _ G' H' w Jc⟩
  .cases e
 .cases e
def aE(ft:FT)(body:FS):List D->FS
|[],r=>.nx r
|d::ds,r=>match ft d r with
 |none=>.stuck
 |some r1=>match body r1 with
  |.nx r'=>aE ft body ds r'
  |.ct r'=>aE ft body ds r'
  |.bk r'=>.nx r'
  |o=>o
def cu(m:List Md)(fi:FI)(ft:FT)(body:FS):FS:=fun r=>fq m r (fi r) fun ds=>aE ft body ds r
theorem gJ(hp:To (O_ X.prog X.w) X.A X.env X.xe)(hc:X.calm=true){ft:FT}{fi:FI}(hi:dZ X g m tg iter fi)(hg:SG X g m tg ft m)(hb:fR X g ro m m sts s1 m)(hs:∀x,QO iter X.env x=pure x:=by intro _;rfl):SS X g ro mb m (.For tg iter sts [] pos) (cu m fi ft s1) m:=by
 refine⟨rfl,PS.imp (nE hp hc hi hg.2 hb.2 hs) fun D σ H ⟨r,G,si,q⟩=>⟨r,G,si,aP (eZ si rfl q) fun ds q J G0 H0 w0 Y=>?_⟩⟩;refine⟨fun i n σ H=>∃r G,SI X g m r G σ H/\aH G0 G/\i<=ds.length/\n=ds.length-i/\bD X g ro m mb G D (aE ft s1 (ds.drop i) r),⟨ds.length,r,G0,si.grow w0,aH.refl G0,Qa _,rfl,bD.gle q w0.ge⟩,?_⟩
 rintro i n σ1 H1 ⟨r1,G1,si1,le1,hi,rfl,q1⟩
 by_cases hlt:i<ds.length
 .have hd:ds.drop i=ds[i]::ds.drop (i+1):=QE hlt;rw[hd]at q1;unfold aE at q1;refine .inr ⟨Y.go G1 H1 i le1 si1.gok hlt,fun σ' H'=>∃r G,SI X g m r G σ' H'/\aH G0 G/\bD X g ro m mb G D (aE ft s1 (ds.drop (i+1)) r),fun σ' H' ⟨r',G',si',le',q'⟩=>⟨ds.length-(i+1),by omega,r',G',si',le',hlt,rfl,q'⟩,fun x H' y=>?_⟩;obtain⟨G',w',rv⟩:=Y.yld G1 H1 i x H' ds[i] le1 si1.gok y (i_ hlt);have le':aH G0 G':=le1.trans w'.ge;cases eft:ft ds[i] r1 with
 |none=>simp only[eft]at q1;exact q1.elim
 |some r2=>simp only[eft]at q1;refine⟨r1,G',ds[i],si1.grow w',rv,r2,eft,fun σ2 si2=>⟨r2,G',si2,?_⟩⟩;cases eb:s1 r2 with
  |nx r'=>simp only[eb]at q1;exact fun σ3 G3 H3 le3 si3=>⟨r',G3,si3,le'.trans le3,bD.gle q1 (aH.trans w'.ge le3)⟩
  |ct r'=>simp only[eb]at q1;exact fun σ3 G3 H3 le3 si3=>⟨r',G3,si3,le'.trans le3,bD.gle q1 (aH.trans w'.ge le3)⟩
  |bk r'=>simp only[eb]at q1;exact fun σ3 G3 H3 le3 si3=>q1 σ3 G3 H3 (aH.trans w'.ge le3) si3
  |rt d=>simp only[eb]at q1;exact q1
  |exc x r'=>simp only[eb]at q1;exact fun pz e s' σ3 G3 H3 le3=>q1 pz e s' σ3 G3 H3 (aH.trans w'.ge le3)
  |stuck=>simp only[eb]at q1;exact q1
 .have e:i=ds.length:=by omega
  subst e;rw[RS]at q1;exact .inl ⟨Y.stop G1 H1 le1 si1.gok,q1 σ1 G1 H1 (aH.refl _) si1⟩
def cF(m:List Md):List Md:=m.map fun x=>if x=Md.sh then Md.sh else Md.bw
def kL(m:List Md)(r:ak)(st:L2.St)(G:GH)(H:Hp):GE:=⟨G,H,fun i=>if m[i]? = some Md.ow\/m[i]? = some Md.bw then some ((st[i]?).join,(r[i]?).join)else none⟩
theorem n8{m:List Md}{i:Nat}{x:Md}(h:m[i]? = some x):(cF m)[i]? = some (if x=Md.sh then Md.sh else Md.bw):=by unfold cF;rw[n_,h];rfl
theorem Mx{m:List Md}{i:Nat}(h:(cF m)[i]? = some Md.sh):m[i]? = some Md.sh:=by cases q:m[i]? with
|none=>unfold cF at h;rw[n_,q]at h;cases h
|some x=>rw[n8 q]at h;cases x <;> first|rfl|(simp at h)
theorem CT{m:List Md}{i:Nat}(h:(cF m)[i]? = some Md.ow):False:=by cases q:m[i]? with
|none=>unfold cF at h;rw[n_,q]at h;cases h
|some x=>rw[n8 q]at h;cases x <;> simp at h
theorem lockM_bw{m:List Md}{i:Nat}(h:(cF m)[i]? = some Md.bw):m[i]? = some Md.ow\/m[i]? = some Md.bw:=by cases q:m[i]? with
|none=>unfold cF at h;rw[n_,q]at h;cases h
|some x=>rw[n8 q]at h;cases x with
 |sh=>simp at h
 |ow=>exact .inl rfl
 |bw=>exact .inr rfl
theorem SI.lock{r:ak}{G:GH}{st:L2.St}{H:Hp}(s:SI X g m r G st H):SI X (kL m r st G H) (cF m) r G st H where
 gok:=s.gok
 old:=fun _ _ e=>e
 ge:=fun _ _ e=>e
 gf:=fun _ _=>rfl
 lm:=by unfold cF;rw[m_];exact s.lm
 lr:=s.lr
 sh:=fun i d h hm=>s.sh i d h (Mx hm)
 ow:=fun i d h hm=>(CT hm).elim
 bw:=fun i d h hm=>by
  rcases lockM_bw hm with z|z
  .obtain⟨a,h1,h2,_⟩:=s.ow i d h z;exact⟨_,h1,.inr ⟨a,rfl,h2,h2.ob.isS⟩⟩
  .obtain⟨v,h1,h2⟩:=s.bw i d h z;refine⟨v,h1,?_⟩;rcases h2 with h2|⟨a,e,h2,_⟩
   .exact .inl h2
   .exact .inr ⟨a,e,h2,h2.ob.isS⟩
 dis:=fun i j a d e _ _ _ hm=>(CT hm).elim
 lk:=fun i o h hm=>by
  have h':(if m[i]? = some Md.ow\/m[i]? = some Md.bw then some ((st[i]?).join,(r[i]?).join)else none)=some o:=h;rw[if_pos (lockM_bw hm)]at h';cases h';have hi:i<st.length:=by have:=(k_.mp hm).1;unfold cF at this;rw[m_,s.lm]at this;exact this
  refine⟨?_,fun d hd=>by rw[hd];rfl⟩;rw[i_ hi];rfl
theorem SI.unlock{r r':ak}{G G':GH}{st st':L2.St}{H H':Hp}(s:SI X g m r G st H)(s':SI X (kL m r st G H) (cF m) r' G' st' H'):SI X g m r' G' st' H':=by
 have w:Grow X.K G H G' H':=s'.grown;have hlk:∀(i:Nat),(m[i]? = some Md.ow\/m[i]? = some Md.bw)->st'[i]? = some (st[i]?).join/\∀d,r'[i]? = some (some d)->r[i]? = some (some d):=fun i hi=>by
  have hm:(cF m)[i]? = some Md.bw:=by rcases hi with z|z <;> rw[n8 z] <;> simp
  obtain⟨h1,h2⟩:=s'.lk i ((st[i]?).join,(r[i]?).join) (if_pos hi) hm;refine⟨h1,fun d hd=>?_⟩;have:=h2 d hd;cases q:r[i]? with
 |none=>rw[q]at this;cases this
 |some o=>rw[q]at this;rw[show o=some d from this]
 have hst:∀(i:Nat) v,(m[i]? = some Md.ow\/m[i]? = some Md.bw)->st[i]? = some (some v)->st'[i]? = some (some v):=fun i v hi h=>by rw[(hlk i hi).1,h];rfl
 refine⟨s'.gok,fun a o e=>s'.old a o (s.old a o e),fun a d e=>s'.ge a d (s.ge a d e),fun a h=>?_,?_,s'.lr,fun i d h hm=>?_,fun i d h hm=>?_,fun i d h hm=>?_,fun i j a d e hij h1 h2 m1 m2 q1 q2=>?_,fun i o hi hm=>?_⟩
 .have h1:H a≠none:=by cases e:g.h0 a with
  |none=>exact absurd e h
  |some o=>rw[s.old _ _ e];simp
  rw[w.gf a h1,s.gf a h]
 .have:=s'.lm;unfold cF at this;rw[m_]at this;exact this
 .exact s'.sh i d h (by rw[n8 hm];simp)
 .obtain⟨a,h1,h2,h3⟩:=s.ow i d ((hlk i (.inl hm)).2 d h) hm;exact⟨a,hst i _ (.inl hm) h1,h2.mono w,h3⟩
 .obtain⟨v,h1,h2⟩:=s.bw i d ((hlk i (.inr hm)).2 d h) hm;exact⟨v,hst i _ (.inr hm) h1,h2.grow w⟩
 .have e1:=(hlk i (.inl m1)).2 d h1;have e2:=(hlk j (.inl m2)).2 e h2;obtain⟨b,z1,_,_⟩:=s.ow i d e1 m1;obtain⟨c,z2,_,_⟩:=s.ow j e e2 m2;have y1:=hst i _ (.inl m1) z1;have y2:=hst j _ (.inl m2) z2;rw[q1]at y1;rw[q2]at y2;cases y1;cases y2;exact s.dis i j a d e hij e1 e2 m1 m2 z1 z2
 .obtain⟨h1,h2⟩:=s.lk i o hi hm;refine⟨?_,fun d hd=>h2 d ((hlk i (.inr hm)).2 d hd)⟩;rw[(hlk i (.inr hm)).1,h1];rfl
theorem SI.unlockX{r r':ak}{G G':GH}{st st':L2.St}{H H':Hp}(s:SI X g m r G st H)(s':SI X (kL m r st G H) (fG (cF m)) r' G' st' H'):SI X g (fG m) r' G' st' H':=by
 have w:Grow X.K G H G' H':=s'.grown;have el:fG (cF m)=fG m:=qK (by unfold cF;rw[m_]);rw[el]at s';have no:∀{i:Nat}{x:Md},(fG m)[i]? = some x->x=Md.sh:=fun{i x} h=>by unfold fG at h;rw[n_]at h;cases q:m[i]? with
 |none=>rw[q]at h;cases h
 |some y=>rw[q]at h;cases h;rfl
 refine⟨s'.gok,fun a o e=>s'.old a o (s.old a o e),fun a d e=>s'.ge a d (s.ge a d e),fun a h=>?_,s'.lm,s'.lr,s'.sh,fun i d h hm=>(nomatch (no hm)),fun i d h hm=>(nomatch (no hm)),fun i j a d e hij h1 h2 m1 m2=>(nomatch (no m1)),fun i o hi hm=>(nomatch (no hm))⟩;have h1:H a≠none:=by cases e:g.h0 a with
 |none=>exact absurd e h
 |some o=>rw[s.old _ _ e];simp
 rw[w.gf a h1,s.gf a h]
theorem nG(hp:To (O_ X.prog X.w) X.A X.env X.xe)(hc:X.calm=true){ft:FT}{fi:FI}(hi:gZ X g m tg iter fi)(hg:∀g',SG X g' (cF m) tg ft (cF m))(hb:∀g',fR X g' ro (cF m) (cF m) sts s1 (cF m))(hs:∀x,QO iter X.env x=pure x:=by intro _;rfl):SS X g ro mb m (.For tg iter sts [] pos) (cu m fi ft s1) m:=by
 have hgA:PG X tg (fun v σ H Q=>∃g',tG X g' (cF m) (cF m) ft v σ H Q):=fun pz s σ H v u Q I r ⟨g',q⟩=>(hg g').2 pz s σ H v u Q I r q;have hbA:cY X sts (fun D σ H=>∃g',tS X g' ro (cF m) (cF m) (cF m) s1 D σ H):=fun pz s σ H D I ⟨g',q⟩=>(hb g').2 pz s σ H D I q;refine⟨rfl,PS.imp (nE hp hc hi hgA hbA hs) fun D σ H ⟨r,G,si,q⟩=>⟨r,G,si,aP (eZ si rfl q) fun ds q J G0 H0 w0 Y=>?_⟩⟩;have si0:=si.grow w0;refine⟨fun i n σ1 H1=>∃r1 G1,SI X (kL m r σ G0 H0) (cF m) r1 G1 σ1 H1/\i<=ds.length/\n=ds.length-i/\bD X g ro m mb G1 D (aE ft s1 (ds.drop i) r1),⟨ds.length,r,G0,si0.lock,Qa _,rfl,bD.gle q w0.ge⟩,?_⟩
 rintro i n σ1 H1 ⟨r1,G1,si1,hi,rfl,q1⟩
 have wg:Grow X.K G0 H0 G1 H1:=si1.grown;by_cases hlt:i<ds.length
 .have hd:ds.drop i=ds[i]::ds.drop (i+1):=QE hlt;rw[hd]at q1;unfold aE at q1;refine .inr ⟨Y.go G1 H1 i wg hlt,fun σ' H'=>∃r' G',SI X (kL m r σ G0 H0) (cF m) r' G' σ' H'/\bD X g ro m mb G' D (aE ft s1 (ds.drop (i+1)) r'),fun σ' H' ⟨r',G',si',q'⟩=>⟨ds.length-(i+1),by omega,r',G',si',hlt,rfl,q'⟩,fun x H' y=>?_⟩;obtain⟨G',w',rv⟩:=Y.yld G1 H1 i x H' ds[i] wg y (i_ hlt);cases eft:ft ds[i] r1 with
 |none=>simp only[eft]at q1;exact q1.elim
 |some r2=>simp only[eft]at q1;refine⟨kL m r σ G0 H0,r1,G',ds[i],si1.grow w',rv,r2,eft,fun σ2 si2=>⟨kL m r σ G0 H0,r2,G',si2,?_⟩⟩;cases eb:s1 r2 with
  |nx r'=>simp only[eb]at q1;exact fun σ3 G3 H3 le3 si3=>⟨r',G3,si3,bD.gle q1 (aH.trans w'.ge le3)⟩
  |ct r'=>simp only[eb]at q1;exact fun σ3 G3 H3 le3 si3=>⟨r',G3,si3,bD.gle q1 (aH.trans w'.ge le3)⟩
  |bk r'=>simp only[eb]at q1;exact fun σ3 G3 H3 le3 si3=>q1 σ3 G3 H3 (aH.trans w'.ge le3) (si0.unlock si3)
  |rt d=>simp only[eb]at q1;intro v G2 H2 wr rv2;refine q1 v G2 H2 (si0.grown.trans wr) ?_;cases ro with
   |false=>exact rv2
   |true=>
     rcases rv2 with⟨a,e1,e2,e3⟩|z
     .exact .inl ⟨a,e1,si0.grown.back e2,e3⟩
     .exact .inr z
  |exc x r'=>simp only[eb]at q1;exact fun pz e s' σ3 G3 H3 le3 si3=>q1 pz e s' σ3 G3 H3 (aH.trans w'.ge le3) (si0.unlockX si3)
  |stuck=>simp only[eb]at q1;exact q1
 .have e:i=ds.length:=by omega
  subst e;rw[RS]at q1;exact .inl ⟨Y.stop G1 H1 wg,q1 σ1 G1 H1 (aH.refl _) (si0.unlock si1)⟩
def dF(m:List Md)(p:FQ)(body:FS):Nat->FS
|0,_=>.stuck
|n+1,r=>fq m r (p r) fun c=>if c=true then(match body r with
  |.nx r'=>dF m p body n r'
  |.ct r'=>dF m p body n r'
  |.bk r'=>.nx r'
  |o=>o)else .nx r
theorem qe(n:Nat)(hp:To (O_ X.prog X.w) X.A X.env X.xe)(hc:SQ X g m c p)(hb:fR X g ro m m sts s1 m):SS X g ro mb m (.While c sts [] pos) (dF m p s1 n) m:=by
 refine⟨rfl,PS.imp (LA hp hc hb.2) fun D σ H ⟨r,G,si,q⟩=>?_⟩;refine⟨fun n σ H=>∃r G,SI X g m r G σ H/\bD X g ro m mb G D (dF m p s1 n r),⟨n,r,G,si,q⟩,?_⟩
 rintro n σ1 H1 ⟨r1,G1,si1,q1⟩
 cases n with
|zero=>exact q1.elim
|succ n=>unfold dF at q1;refine⟨r1,G1,si1,aP (eZ si1 rfl q1) fun c q2 G2 H2 w2=>?_⟩;cases c with
 |false=>rw[if_neg j_]at q2 ⊢;exact q2 σ1 G2 H2 w2.ge (si1.grow w2)
 |true=>rw[if_pos rfl]at q2 ⊢;refine⟨fun σ' H'=>∃r G,SI X g m r G σ' H'/\bD X g ro m mb G D (dF m p s1 n r),fun σ' H' h=>⟨n,Rv _,h⟩,r1,G2,si1.grow w2,?_⟩;cases eb:s1 r1 with
  |nx r'=>simp only[eb]at q2;exact fun σ3 G3 H3 le3 si3=>⟨r',G3,si3,bD.gle q2 (aH.trans w2.ge le3)⟩
  |ct r'=>simp only[eb]at q2;exact fun σ3 G3 H3 le3 si3=>⟨r',G3,si3,bD.gle q2 (aH.trans w2.ge le3)⟩
  |bk r'=>simp only[eb]at q2;exact fun σ3 G3 H3 le3 si3=>q2 σ3 G3 H3 (aH.trans w2.ge le3) si3
  |rt d=>simp only[eb]at q2;exact q2
  |exc x r'=>simp only[eb]at q2;exact fun pz e s' σ3 G3 H3 le3=>q2 pz e s' σ3 G3 H3 (aH.trans w2.ge le3)
  |stuck=>simp only[eb]at q2;exact q2
end
def mQ:Res D->Res D
|.ok d=>.ok d
|_=>.stuck
@[simp] theorem noX_ok(d:D):mQ (.ok d)=.ok d:=rfl
inductive ArgsOk(K:W.Frag)(G:GH)(H:Hp):List Md->List V->List D->Prop where
 |nil:ArgsOk K G H [] [] []
 |sh {v:V} {d:D} {ms:List Md} {vs:List V} {ds:List D}:RG K G v d->ArgsOk K G H ms vs ds->ArgsOk K G H (.sh::ms) (v::vs) (d::ds)
 |bw {v:V} {d:D} {ms:List Md} {vs:List V} {ds:List D}:RB K G H v d->ArgsOk K G H ms vs ds->ArgsOk K G H (.bw::ms) (v::vs) (d::ds)
section
variable{K:W.Frag}{G G':GH}{H H':Hp}
theorem ArgsOk.mono:∀{ms:List Md}{vs:List V}{ds:List D},ArgsOk K G H ms vs ds->Grow K G H G' H'->ArgsOk K G' H' ms vs ds
|_,_,_,.nil,_=>.nil
|_,_,_,.sh h t,w=>.sh (h.mono w.ge) (t.mono w)
|_,_,_,.bw h t,w=>.bw (h.mono w) (t.mono w)
theorem ArgsOk.len{ms:List Md}{vs:List V}{ds:List D}(h:ArgsOk K G H ms vs ds):vs.length=ms.length/\ds.length=ms.length:=by induction h with
|nil=>exact⟨rfl,rfl⟩
|sh h t ih=>exact⟨congrArg (· + 1) ih.1,congrArg (· + 1) ih.2⟩
|bw h t ih=>exact⟨congrArg (· + 1) ih.1,congrArg (· + 1) ih.2⟩
theorem ArgsOk.app{dvs:List V}{dds:List D}(hs:Paired Scl dvs dds):∀{ms:List Md}{vs:List V}{ds:List D},ArgsOk K G H ms vs ds->ArgsOk K G H (ms++I_ dds.length .sh) (vs++dvs) (ds++dds)
|_,_,_,.nil=>by induction hs with
 |nil=>exact .nil
 |cons h t ih=>exact .sh (.scl h) ih
|_,_,_,.sh h t=>.sh h (t.app hs)
|_,_,_,.bw h t=>.bw h (t.app hs)
theorem ArgsOk.get:∀{ms:List Md}{vs:List V}{ds:List D}{i:Nat}{d:D},ArgsOk K G H ms vs ds->ds[i]? = some d->∃v,vs[i]? = some v/\((ms[i]? = some .sh/\RG K G v d)\/(ms[i]? = some .bw/\RB K G H v d))
|_,_,_,_,_,.nil,e=>by simp at e
|_,_,_,0,_,.sh h t,e=>by simp at e;subst e;exact⟨_,rfl,.inl ⟨rfl,h⟩⟩
|_,_,_,0,_,.bw h t,e=>by simp at e;subst e;exact⟨_,rfl,.inr ⟨rfl,h⟩⟩
|_,_,_,i+1,d,.sh h t,e=>by obtain⟨v,h1,h2⟩:=t.get (i:=i) (d:=d) (by simpa using e);exact⟨v,by simpa using h1,by simpa using h2⟩
|_,_,_,i+1,d,.bw h t,e=>by obtain⟨v,h1,h2⟩:=t.get (i:=i) (d:=d) (by simpa using e);exact⟨v,by simpa using h1,by simpa using h2⟩
end
def iF(K:W.Frag)(ro:Bool)(ms:List Md)(F:List D->Res D):Sp:=fun vs H Q _=>∃G ds,aM K G H/\ArgsOk K G H ms vs ds/\fin (F ds) (fun d=>∀v G' H',Grow K G H G' H'->RV ro K H G' H' v d->Q v H') fun _=>False
def ay(ro:Bool):Out->Res D
|.nx _=>if ro=true then .stuck else .ok .non
|.rt d=>.ok d
|.exc x _=>.exc x
|_=>.stuck
def aN(n:Nat)(ds:List D):ak:=ds.map some++I_ (n-ds.length) none
def dU(n:Nat)(ms:List Md):List Md:=ms++I_ (n-ms.length) .sh
section
variable{P:B_}{w:PP}{K:W.Frag}{mg:Str->Option b_}{base:Heap}
theorem vF{X:Cx}{N:List Str}{ms:List Md}{vs:List V}{ds:List D}{G:GH}{H:Hp}(gk:aM X.K G H)(rs:ArgsOk X.K G H ms vs ds)(hn:ms.length<=N.length):SI X ⟨G,H,fun _=>none⟩ (dU N.length ms) (aN N.length ds) G (L2.start N vs) H:=by
 obtain⟨l1,l2⟩:=rs.len;have e1:(L2.start N vs).length=N.length:=by unfold L2.start;rw[PN,m_,Rz];omega
 have e2:(aN N.length ds).length=N.length:=by unfold aN;rw[PN,m_,Rz];omega
 have e3:(dU N.length ms).length=N.length:=by unfold dU;rw[PN,Rz];omega
 have at_:∀(i:Nat) d,(aN N.length ds)[i]? = some (some d)->i<ms.length/\(dU N.length ms)[i]? = ms[i]?/\∃v,(L2.start N vs)[i]? = some (some v)/\((ms[i]? = some .sh/\RG X.K G v d)\/(ms[i]? = some .bw/\RB X.K G H v d)):=fun i d h=>by
  unfold aN at h;by_cases hi:i<ds.length
  .rw[N_ (by simpa using hi),n_]at h;have hd:ds[i]? = some d:=by cases z:ds[i]? with
   |none=>rw[z]at h;cases h
   |some d'=>rw[z]at h;cases h;rfl
   obtain⟨v,hv,rv⟩:=rs.get hd;refine⟨by omega,?_,v,?_,rv⟩
   .unfold dU;rw[N_ (by omega)]
   .unfold L2.start;rw[N_ (by rw[m_];omega),n_,hv];rfl
  .rw[P4 (by simpa using hi),Qy]at h;split at h <;> cases h
 refine⟨gk,fun _ _ e=>e,fun _ _ e=>e,fun _ _=>rfl,by rw[e3,e1],by rw[e1,e2],fun i d h hm=>?_,fun i d h hm=>?_,fun i d h hm=>?_,fun i j a d e _ h _ hm=>?_,fun i o h=>nomatch h⟩
 .obtain⟨_,hq,v,h1,h2⟩:=at_ i d h;rw[hq]at hm;rcases h2 with⟨_,h2⟩|⟨h3,h2⟩
  .exact⟨v,h1,h2⟩
  .rw[hm]at h3;cases h3
 .obtain⟨_,hq,v,h1,h2⟩:=at_ i d h;rw[hq]at hm;rcases h2 with⟨h3,h2⟩|⟨h3,h2⟩ <;> rw[hm]at h3 <;> cases h3
 .obtain⟨_,hq,v,h1,h2⟩:=at_ i d h;rw[hq]at hm;rcases h2 with⟨h3,h2⟩|⟨h3,h2⟩
  .rw[hm]at h3;cases h3
  .refine⟨v,h1,?_⟩;rcases h2 with h2|⟨a,rfl,h2⟩
   .exact .inl h2
   .exact .inr ⟨a,rfl,h2,h2.ob.isS⟩
 .obtain⟨_,hq,v,h1,h2⟩:=at_ i d h;rw[hq]at hm;rcases h2 with⟨h3,h2⟩|⟨h3,h2⟩ <;> rw[hm]at h3 <;> cases h3
theorem Da{X:Cx}{ro:Bool}{fs:FS}{m':List Md}{G:GH}{H:Hp}{r:ak}{Q:VK}(q:fin (ay ro (fs r)) (fun d=>∀v G' H',Grow X.K G H G' H'->RV ro X.K H G' H' v d->Q v H') fun _=>False):bD X ⟨G,H,fun _=>none⟩ ro m' [] G { nx:=fun _ H'=>Q .non H',rt:=Q } (fs r):=by cases e:fs r with
|nx r'=>rw[e]at q;cases ro with
 |false=>exact fun σ' G' H' _ si=>q .non G' H' si.grown (.scl .non)
 |true=>exact q.elim
|rt d=>rw[e]at q;exact fun v G' H' wg rv=>q v G' H' wg rv
|bk r'=>rw[e]at q;exact q.elim
|ct r'=>rw[e]at q;exact q.elim
|exc x r'=>rw[e]at q;exact q.elim
|stuck=>rw[e]at q;exact q
theorem AH{x qual:Str}{st:Stmt}{f:Addr}{fd:Q0}{N ps:List Str}{k:Nat}{ro:Bool}{ms:List Md}{fs:FS}{m':List Md}(F:Fun K x qual st f fd)(S:FnScope N ps (ax st))(hms:ms.length=ps.length)(hbody:∀(cdv:b_)(A:P8)(outer:List Env)(s:h_)(H:Hp)(g:GE)(E:XK),Room k (A.deeper (S0 qual (ax st) s.heap.objs.size f cdv)) ->fR (aW bN P w K mg base N qual (ax st) f cdv A outer s H E).nox g ro [] (dU N.length ms) (d7 st) fs m'):FnOk P w K mg base bN (k+1) f fd ps (iF K ro ms fun ds=>ay ro (fs (aN N.length ds))):=by
 refine F.ok S (fun vs H Q E ⟨G,ds,gk,rs,q⟩=>rs.len.1.trans hms) fun cdv A outer s H vs Q E hr h=>?_;obtain⟨G,ds,gk,rs,q⟩:=h;have hpl:ps.length<=N.length:=by have:=congrArg Q_ S.pre;rw[Q2]at this;omega
 exact⟨_,(hbody cdv A outer s H ⟨G,H,fun _=>none⟩ E hr).2,aN N.length ds,G,vF gk rs (by omega),Da q⟩
end
section
variable{X:Cx}{g:GE}{m:List Md}{e:Expr}{f:FE}{es:List Expr}{fl:ak->Res (List D)}{k:Nat}{fa:Addr}{fd:Q0}{ps:List Str}{F:List D->Res D}{dvs:List V}{ds:List b_}{dds:List D}{x:Str}{p pos:Pos}{ms:List Md}
def Pe(X:Cx)(g:GE)(m:List Md)(ms:List Md)(f:ak->Res (List D)):TA:=fun σ H Q=>∃r G,SI X g m r G σ H/\fin (f r) (fun ds=>∀vs G' H',Grow X.K G H G' H'->ArgsOk X.K G' H' ms vs ds->Q vs H') (XW X σ G H)
def jg(X:Cx)(g:GE)(m:List Md)(es:List Expr)(ms:List Md)(f:ak->Res (List D)):Prop:=PA X es (Pe X g m ms f)
theorem aJ:jg X g m [] [] ae:=PA.imp iz fun σ H Q ⟨r,G,si,k⟩=>k [] G H (Grow.refl si.gok) .nil
theorem aQ(ha:SE X g m e f)(hr:jg X g m es ms fl)(hs:l_ (e::es) X.env=(false,eval e X.env)::l_ es X.env:=by rfl):jg X g m (e::es) (.sh::ms) (ag f fl):=by
 refine PA.imp (dS ha hr hs) fun σ H Q ⟨r,G,si,k⟩=>⟨r,G,si,aP (aS k) fun d k1 v G1 H1 w1 r1=>⟨r,G1,si.grow w1,?_⟩⟩
 exact eS (aS k1) w1 fun ds z vs G2 H2 w2 r2=>z (v::vs) G2 H2 (w1.trans w2) (.sh (r1.mono w2.ge) r2)
theorem ai(ha:SB X g m e f)(hr:jg X g m es ms fl)(hs:l_ (e::es) X.env=(false,eval e X.env)::l_ es X.env:=by rfl):jg X g m (e::es) (.bw::ms) (ag f fl):=by
 refine PA.imp (dS ha hr hs) fun σ H Q ⟨r,G,si,k⟩=>⟨r,G,si,aP (aS k) fun d k1 v G1 H1 w1 r1=>⟨r,G1,si.grow w1,?_⟩⟩
 exact eS (aS k1) w1 fun ds z vs G2 H2 w2 r2=>z (v::vs) G2 H2 (w1.trans w2) (.bw (r1.mono w2) r2)
def aA(fl:ak->Res (List D))(dds:List D)(F:List D->Res D):FE:=fun r=>(fl r).bind fun ds=>mQ (F (ds++dds))
theorem Dx{ro:Bool}{vs:List V}{zs:List D}{G:GH}{H:Hp}{Q:VK}(gk:aM X.K G H)(rs:ArgsOk X.K G H ms vs zs)(hsc:Paired Scl dvs dds)(q:fin (mQ (F (zs++dds))) (fun d=>∀v G' H',Grow X.K G H G' H'->RV ro X.K H G' H' v d->Q v H') fun _=>False):iF X.K ro (ms++I_ dds.length .sh) F (vs++dvs) H Q E0:=by refine⟨G,zs++dds,gk,rs.app hsc,?_⟩;cases e:F (zs++dds)with
|ok d=>rw[e]at q;exact q
|exc x=>rw[e]at q;exact q.elim
|stuck=>rw[e]at q;exact q.elim
theorem DC{α:Type}{r:Res α}{q:α->Prop}{x:D->Prop}(h:fin r q x)(hr:∀e,r≠.exc e):fin r q fun _=>False:=by cases r with
|ok a=>exact h
|exc e=>exact absurd rfl (hr e)
|stuck=>exact h
theorem Bt(r:Res D)(e:D):mQ r≠.exc e:=by cases r <;> simp[mQ]
theorem Jl(G1:FnOk X.prog X.w X.K X.mg X.base bN k fa fd ps (iF X.K false (ms++I_ dds.length .sh) F))(hr:Room k X.A)(hg:Gl X x)(hm:X.mg x=some (.ref fa))(hk:W.keepIn X.K (.ref fa)=true)(hb:fF X.K fd ps ds)(hd:al dvs ds)(hsc:Paired Scl dvs dds)(ha:jg X g m (e::es) ms fl)(hdb:(x==("__debug__" : Str))=false:=by decide)(he:l_ (e::es) X.env=(false,eval e X.env)::l_ es X.env:=by rfl)(hpl:(backTo pos (l_ es X.env)).any (·.1)=false:=by rfl):SE X g m (.Call (.Name x p) (e::es) [] pos) (aA fl dds F):=by
 refine PE.imp (pZ G1 hr hg hm hk hb hd pJ ha hdb he hpl) fun σ H Q ⟨r,G,si,q⟩=>⟨r,G,si,?_⟩
 cases ez:fl r with
|ok zs=>unfold aA at q;rw[ez]at q;intro vs G' H' w' rs;exact Dx w'.ok rs hsc (aP (DC q (Bt _)) fun d k v G2 H2 w2 rv=>k v G2 H2 (w'.trans w2) rv)
|exc x=>unfold aA at q;rw[ez]at q;exact q
|stuck=>unfold aA at q;rw[ez]at q;exact q
def iL(f:FE):FE:=fun r=>(f r).bind fun d=>match d with
|.non=>.stuck
|d=>.ok d
theorem Iu(G1:FnOk X.prog X.w X.K X.mg X.base bN k fa fd ps (iF X.K true (ms++I_ dds.length .sh) F))(hr:Room k X.A)(hg:Gl X x)(hm:X.mg x=some (.ref fa))(hk:W.keepIn X.K (.ref fa)=true)(hb:fF X.K fd ps ds)(hd:al dvs ds)(hsc:Paired Scl dvs dds)(ha:jg X g m (e::es) ms fl)(hdb:(x==("__debug__" : Str))=false:=by decide)(he:l_ (e::es) X.env=(false,eval e X.env)::l_ es X.env:=by rfl)(hpl:(backTo pos (l_ es X.env)).any (·.1)=false:=by rfl):SO X g m (.Call (.Name x p) (e::es) [] pos) (iL (aA fl dds F)):=by
 refine PE.imp (pZ G1 hr hg hm hk hb hd pJ ha hdb he hpl) fun σ H Q ⟨r,G,si,q⟩=>⟨r,G,si,?_⟩
 cases ez:fl r with
|ok zs=>
  have q:=aS q;unfold aA at q;rw[ez]at q;intro vs G' H' w' rs;refine Dx w'.ok rs hsc (aP (DC q (Bt _)) fun d k v G2 H2 w2 rv=>?_);rcases rv with⟨a,rfl,hn,ho⟩|⟨rfl,rfl⟩
  .cases d with
  |non=>exact k.elim
  |_=>exact k a G2 H2 (w'.trans w2) (w'.back hn) ho
  .exact k.elim
|exc x=>have q:=aS q;unfold aA at q;rw[ez]at q;exact q
|stuck=>have q:=aS q;unfold aA at q;rw[ez]at q;exact q
end
theorem Lh{env:Env}:∀(l:List (Str×R_))(cs:List (Str×Addr)),(∀x∈l,x.2=.free->∃c,env.cells.lookup x.1=some c)->(∀x c,cs.lookup x=some c->env.cells.lookup x=some c) ->∃cl,(Yf l cs (fun(x:Str×R_)(cs:List (Str×Addr))=>if (x.2==NameKind.free)=true then(do let a <-X9 env x.1;pure (ForInStep.yield ((x.1,a)::cs)))else pure (ForInStep.yield cs)):Sem (List (Str×Addr)))=pure cl /\(∀x c,cl.lookup x=some c->env.cells.lookup x=some c)/\(∀x,(x,NameKind.free)∈l->∃c,cl.lookup x=some c)/\(∀x c,cs.lookup x=some c->∃c',cl.lookup x=some c'):=by
 intro l
 induction l with
|nil=>intro cs _ h;exact⟨cs,rfl,h,fun x hx=>(by cases hx),fun x c h=>⟨c,h⟩⟩
|cons y l ih=>
  intro cs hf hc;obtain⟨n,k⟩:=y;by_cases hk:k=.free
  .subst hk;obtain⟨c,ec⟩:=hf (n,.free) g_ rfl;have e1:X9 env n=pure c:=by unfold X9;rw[ec]
   have hc':∀x c',((n,c)::cs).lookup x=some c'->env.cells.lookup x=some c':=fun x c' h=>by rw[RT]at h;cases q:x==n with
   |true=>rw[q]at h;cases h;rw[RF q];exact ec
   |false=>rw[q]at h;exact hc x c' h
   obtain⟨cl,e2,h1,h2,h3⟩:=ih ((n,c)::cs) (fun x hx=>hf x (f_ _ hx)) hc';refine⟨cl,?_,h1,fun x hx=>?_,fun x c' h=>?_⟩
   .rw[<-e2];rw[TX];show(X9 env n >>= fun a=>pure (ForInStep.yield ((n,a)::cs))) >>= _=_;rw[e1];rfl
   .rcases q_.mp hx with z|z
    .cases z;exact h3 n c (by rw[RT];simp)
    .exact h2 x z
   .cases q:x==n with
   |true=>exact h3 x c (by rw[RT,q])
   |false=>exact h3 x c' (by rw[RT,q];exact h)
  .obtain⟨cl,e2,h1,h2,h3⟩:=ih cs (fun x hx=>hf x (f_ _ hx)) hc;have hb:(k==NameKind.free)=false:=by simpa using hk
   refine⟨cl,?_,h1,fun x hx=>?_,h3⟩
   .rw[<-e2,TX];simp only[hb,PX,if_false];rfl
   .rcases q_.mp hx with z|z
    .cases z;exact absurd rfl hk
    .exact h2 x z
theorem Nw{scope:R9}{env:Env}(hf:∀x∈scope.names,x.2=.free->∃c,env.cells.lookup x.1=some c):∃cl,W6 scope env=pure cl/\(∀x c,cl.lookup x=some c->env.cells.lookup x=some c)/\(∀x,(x,NameKind.free)∈scope.names->∃c,cl.lookup x=some c):=by obtain⟨cl,e,h1,h2,_⟩:=Lh scope.names [] hf (fun x c h=>by cases h);refine⟨cl,?_,h1,h2⟩;have e0:W6 scope env=((Yf scope.names ([]:List (Str×Addr)) (fun(x:Str×R_)(cs:List (Str×Addr))=>if (x.2==NameKind.free)=true then(do let a <-X9 env x.1;pure (ForInStep.yield ((x.1,a)::cs)))else pure (ForInStep.yield cs)):Sem (List (Str×Addr))) >>= fun cs=>pure cs):=rfl;rw[e0,e];rfl
theorem EW{f:Str->R_->R_}:∀(l:List (Str×R_))(x:Str),(l.map fun y=>(y.1,f y.1 y.2)).lookup x=(l.lookup x).map (f x)
|[],x=>rfl
|(n,k)::l,x=>by rw[p_,RT,RT];cases q:x==n with
 |true=>simp[RF q]
 |false=>exact EW l x
def dJ(env:Env)(n:Str)(k:R_):R_:=if (k==.free&&env.scope.kind==.function&&env.kindOf n==some .cell)=true then .cell else k
theorem EX(scope:R9)(env:Env)(x:Str):(Wd scope env).names.lookup x=(scope.names.lookup x).map (dJ env x):=by
 rw[<-EW];unfold Wd;congr 1;apply PY;intro y _;obtain⟨n,k⟩:=y;show(if (k==NameKind.free&&env.scope.kind==.function&&env.kindOf n==some .cell)=true then(n,NameKind.cell)else(n,k))=(n,dJ env n k)
 unfold dJ;split <;> rfl
structure CompSc(X:Cx)(scope:R9)(N':List Str)(nl:Nat)(cap:List Nat):Prop where
 kind:scope.kind=.function
 nocell:∀y∈scope.names,y.2≠.cell
 names:∀y∈scope.names,y.2=.local->scope.names.lookup y.1=some .local
 freeK:∀y∈scope.names,y.2=.free->X.env.kindOf y.1=some .cell\/X.env.kindOf y.1=some .free
 len:N'.length=nl+cap.length
 capN:∀j,j<cap.length->∃x,N'[nl+j]? = some x/\X.N[cap.getD j 0]? = some x/\scope.names.lookup x=some .free
def fB(X:Cx)(s₀:h_)(H₀:Hp)(N':List Str)(scope:R9)(cl:List (Str×Addr))(C:Addr)(fp:List Addr):Cx where
 prog:=X.prog
 w:=X.w
 K:=X.K
 mg:=X.mg
 base:=X.base
 A:=X.A
 N:=N'
 s₀:=s₀
 H₀:=H₀
 env:=Vp scope cl C X.env
 outer:=X.stack
 stack:=X.stack
 ex:=fp
 fn:=fun _=>false
 calm:=X.calm
 pn:=[]
 xe:=fun _ _=>False
section
variable{X:Cx}{pz:List (Addr×Obj)}{σ:L2.St}{H:Hp}{s:h_}{scope:R9}{N':List Str}{nl:Nat}{cap:List Nat}{cl:List (Str×Addr)}{C:Addr}{fp:List Addr}
theorem Hm(I:Inv X pz σ H s)(sc:CompSc X scope N' nl cap)(h1:∀x c,cl.lookup x=some c->X.env.cells.lookup x=some c)(h2:∀x,(x,NameKind.free)∈scope.names->∃c,cl.lookup x=some c)(hf:∀b∈fp,cS X pz H b/\b<s.heap.objs.size)(hC:s.heap.objs.size<=C):(fB X s H N' scope cl C fp).Ok where
 mod:=I.ok.mod
 kind:=sc.kind
 glob:=I.ok.glob
 blt:=I.ok.blt
 above:=hC
 inj:=fun x y c a b=>I.ok.inj x y c (h1 x c a) (h1 y c b)
 has:=fun x hk=>by
  have hk':(scope.names.lookup x).map (dJ X.env x)=some .cell\/(scope.names.lookup x).map (dJ X.env x)=some .free:=by rw[<-EX];exact hk
  cases e:scope.names.lookup x with
 |none=>rw[e]at hk';rcases hk' with z|z <;> cases z
 |some k=>
   have hm:=QW e;have kf:k=.free:=by
    rw[e]at hk';have hk2:dJ X.env x k=.cell\/dJ X.env x k=.free:=by
     rcases hk' with z|z
     .exact .inl (PJ z)
     .exact .inr (PJ z)
    unfold dJ at hk2;split at hk2
    .rename_i hc;simp only[PR,beq_iff_eq]at hc;exact hc.1.1
    .rcases hk2 with z|z
     .exact absurd z (sc.nocell _ hm)
     .exact z
   subst kf;exact h2 x hm
 cab:=fun x c h=>by cases h
 hd:=I.ok.hd
 frames:=I.ok.frames
 stk:=.inl rfl
 exf:=fun b hb=>⟨PH (G_ (hf b hb).2 hC),fun x c e=>(hf b hb).1.2.2.2.2.1 x c (h1 x c e)⟩
 bs:=I.bs
 bsz:=PQ I.ok.bsz I.sz
 noex:=fun b o e hb=>by
  obtain⟨_,_,_,hx,_⟩:=(hf b hb).1;rcases hx with z|z
  .exact I.ok.noex b o e z
  .exact absurd (G_ (x_ e) (PQ I.ok.bsz z)) (Q5 _)
 exfs:=fun b hb hfs=>by
  obtain⟨_,q1,q2,_⟩:=(hf b hb).1;rcases q_.mp (I.stkSub b hfs)with z|z
  .exact q1 z
  .exact q2 z
 funs:=I.stack
 frf:=I.stkFree
end
def fS(ft:FT)(q:FQ)(fe:FE)(r0:ak):List D->Res (List D)
|[]=>.ok []
|d::ds=>(bS (ft d r0)).bind fun r1=>(q r1).bind fun c=>if c=true then(fe r1).bind fun v=>(fS ft q fe r0 ds).bind fun vs=>.ok (v::vs)else fS ft q fe r0 ds
def bi(nl:Nat)(cap:List Nat)(r:ak):ak:=I_ nl none++cap.map fun i=>r.getD i none
def aO(nl:Nat)(cap:List Nat)(m:List Md):List Md:=I_ nl Md.sh++cap.map fun i=>if m.getD i Md.sh=Md.sh then Md.sh else Md.bw
def c9(nl:Nat)(cap:List Nat)(st:L2.St):L2.St:=I_ nl none++cap.map fun i=>st.getD i none
theorem nN{α:Type}{nl:Nat}{cap:List Nat}{u:α}{h:Nat->α}{i:Nat}(hi:nl<=i):(I_ nl u++cap.map h)[i]? = (cap[i-nl]?).map h:=by rw[P4 (by simpa using hi),Rz,n_]
section
variable{X:Cx}{pz:List (Addr×Obj)}{σ:L2.St}{H H':Hp}{s:h_}{scope:R9}{N':List Str}{nl:Nat}{cap:List Nat}{cl:List (Str×Addr)}{C:Addr}{fp:List Addr}{g:GE}{G G':GH}{m:List Md}{r:ak}
theorem GN(si:SI X g m r G σ H)(w:Grow X.K G H G' H'):SI (fB X s H N' scope cl C fp) ⟨G,H,fun _=>none⟩ (aO nl cap m) (bi nl cap r) G' (c9 nl cap σ) H':=by
 have lens:(aO nl cap m).length=nl+cap.length:=by simp[aO]
 have lens2:(bi nl cap r).length=nl+cap.length:=by simp[bi]
 have lens3:(c9 nl cap σ).length=nl+cap.length:=by simp[c9]
 have rget:∀(i:Nat) d,(bi nl cap r)[i]? = some (some d)->nl<=i/\∃j,cap[i-nl]? = some j/\r[j]? = some (some d):=fun i d h=>by
  by_cases hi:i<nl
  .unfold bi at h;rw[N_ (by simpa using hi),Qy]at h;split at h <;> cases h
  .refine⟨by omega,?_⟩;unfold bi at h;rw[nN (by omega)]at h;cases e:cap[i-nl]? with
  |none=>rw[e]at h;cases h
  |some j=>rw[e]at h;refine⟨j,rfl,?_⟩;have h':r.getD j none=some d:=PJ h;rw[E_]at h';cases e2:r[j]? with
   |none=>rw[e2]at h';cases h'
   |some o=>rw[e2]at h';rw[show o=some d from h']
 have mget:∀(i j:Nat) md,nl<=i->cap[i-nl]? = some j->(aO nl cap m)[i]? = some md->md=if m.getD j Md.sh=Md.sh then Md.sh else Md.bw:=fun i j md hi hj h=>by unfold aO at h;rw[nN hi,hj]at h;exact(PJ h).symm
 have sget:∀(i j:Nat) v,nl<=i->cap[i-nl]? = some j->σ[j]? = some (some v)->(c9 nl cap σ)[i]? = some (some v):=fun i j v hi hj h=>by unfold c9;rw[nN hi,hj];show some (σ.getD j none)=_;rw[E_,h];rfl
 have mj:∀(j:Nat) d,r[j]? = some (some d)->m[j]? = some (m.getD j Md.sh):=fun j d h=>by
  have hl:j<m.length:=by have:=(k_.mp h).1;rw[si.lr,<-si.lm]at this;exact this
  rw[E_,i_ hl];rfl
 refine⟨w.ok,w.he,w.ge,w.gf,by rw[lens,lens3],by rw[lens2,lens3],fun i d h hm=>?_,fun i d h hm=>?_,fun i d h hm=>?_,fun i j a d e _ h _ hm=>?_,fun i o h=>nomatch h⟩
 .obtain⟨hi,j,hj,hr⟩:=rget i d h;have e:=mget i j _ hi hj hm;have hsh:m.getD j Md.sh=Md.sh:=by
   by_cases z:m.getD j Md.sh=Md.sh
   .exact z
   .rw[if_neg z]at e;cases e
  obtain⟨v,h1,h2⟩:=si.sh j d hr (by rw[mj j d hr,hsh]);exact⟨v,sget i j v hi hj h1,h2.mono w.ge⟩
 .obtain⟨hi,j,hj,hr⟩:=rget i d h;have e:=mget i j _ hi hj hm;split at e <;> cases e
 .obtain⟨hi,j,hj,hr⟩:=rget i d h;have e:=mget i j _ hi hj hm;have hsh:m.getD j Md.sh≠Md.sh:=by intro z;rw[if_pos z]at e;cases e
  have hmj:=mj j d hr;cases q:m.getD j Md.sh with
 |sh=>exact absurd q hsh
 |ow=>rw[q]at hmj;obtain⟨a,h1,h2,_⟩:=si.ow j d hr hmj;exact⟨_,sget i j _ hi hj h1,.inr ⟨a,rfl,h2.mono w,h2.ob.isS⟩⟩
 |bw=>
   rw[q]at hmj;obtain⟨v,h1,h2⟩:=si.bw j d hr hmj;refine⟨v,sget i j _ hi hj h1,?_⟩;rcases h2 with h2|⟨a,rfl,h2,_⟩
   .exact .inl (h2.mono w.ge)
   .exact .inr ⟨a,rfl,h2.mono w,h2.ob.isS⟩
 .obtain⟨hi,j',hj,hr⟩:=rget i d h;have e:=mget i j' _ hi hj hm;split at e <;> cases e
theorem Hl(I:Inv X pz σ H s)(ok:(fB X s H N' scope cl C fp).Ok)(sc:CompSc X scope N' nl cap)(h1:∀x c,cl.lookup x=some c->X.env.cells.lookup x=some c)(h2:∀x,(x,NameKind.free)∈scope.names->∃c,cl.lookup x=some c)(hN:X.N.Nodup){s4:h_}{H4:Hp}{mc:Str->Option b_}(hos:s4.os=s.os)(hb:Tu s4.gens)(kp:∀b o,s.heap.get? b=some o->s4.heap.get? b=some o)(hns:s4.heap.Ns C mc)(hC:s.heap.objs.size<=C)(hHC:H4 C=none)(hH:∀b,H b=none->b<s.heap.objs.size->H4 b=none)(un:Un (dC X.stack) fp H H4 s.heap s4.heap)(hok:cB X.prog X.w H4 s4.heap):Inv (fB X s H N' scope cl C fp) [] (c9 nl cap σ) H4 s4:=by
 refine⟨ok,hos,hb,un,⟨mc,hns,fun i x v e1 e2 e3=>?_⟩,fun x c e=>?_,hHC,fun x c e=>?_,fun p hp=>absurd (show p∈([]:List (Addr×Obj))from hp) (by simp),hok,?_⟩
 .have hi:nl<=i:=by
   by_cases z:i<nl
   .unfold c9 at e2;rw[N_ (by simpa using z),Qy]at e2;split at e2 <;> cases e2
   .omega
  unfold c9 at e2;rw[nN hi]at e2;cases ej:cap[i-nl]? with
 |none=>rw[ej]at e2;cases e2
 |some j=>
   rw[ej]at e2;have hj:i-nl<cap.length:=(k_.mp ej).1;obtain⟨x',q1,q2,q3⟩:=sc.capN (i-nl) hj;have ed:cap.getD (i-nl) 0=j:=by rw[E_,ej];rfl
   rw[ed]at q2;have ei:nl+(i-nl)=i:=by omega
   rw[ei]at q1;have e1':N'[i]? = some x:=e1;rw[q1]at e1';have ex:x'=x:=PJ e1';subst ex;have hv:σ[j]? = some (some v):=by have z:σ.getD j none=some v:=PJ e2;rw[E_]at z;cases q:σ[j]? with
   |none=>rw[q]at z;cases z
   |some o=>rw[q]at z;rw[show o=some v from z]
   have hfree:=QW q3;have kX:=sc.freeK _ hfree rfl;obtain⟨mx,hnx,hl⟩:=I.loc;obtain⟨u,ru,lk⟩:=hl j x' v q2 hv (.inr kX);refine⟨u,ru,.inr ?_⟩;obtain⟨c,ec⟩:=h2 x' hfree;have hkk:Env.kindOf (fB X s H N' scope cl C fp).env x'=some .cell\/Env.kindOf (fB X s H N' scope cl C fp).env x'=some .free:=by
    have z:(Wd scope X.env).names.lookup x'=some (dJ X.env x' .free):=by rw[EX,q3];rfl
    show(Wd scope X.env).names.lookup x'=_\/(Wd scope X.env).names.lookup x'=_;rw[z];unfold dJ;split
    .exact .inl rfl
    .exact .inr rfl
   refine⟨hkk,c,ec,?_⟩;rcases lk with⟨k,_⟩|⟨_,c',ec',hcell⟩
   .rcases kX with z|z <;> rw[k]at z <;> cases z
   .rw[h1 x' c ec]at ec';cases ec';obtain⟨o,ho,hd⟩:=hcell;exact⟨o,kp c o ho,hd⟩
 .obtain⟨v,o,ho,hd⟩:=I.cell x c (h1 x c e);exact⟨v,o,kp c o ho,hd⟩
 .obtain⟨v,o,ho,hd⟩:=I.cell x c (h1 x c e);exact hH c (I.freeC x c (h1 x c e)) (x_ ho)
 .show(c9 nl cap σ).length=N'.length;rw[sc.len];simp[c9]
end
section
variable{prog:B_}{w:PP}{A:P8}{R:WV->h_->Prop}{s:h_}
theorem J5{elt target iter:Expr}{ifs:List Expr}{scope:R9}{pos:Pos}{it acc:b_}{env:Env}(I:Nat->h_->Prop)(turn:∀n s,I n s->D_ (O_ prog w) A (Vm it) (fun r s1=>match r with
  |none=>R (.ok .next) s1
  |some v=>D_ (O_ prog w) A (TV target it v) (fun _ s1'=>D_ (O_ prog w) A (Tn target env v) (fun _ s2=>
     D_ (O_ prog w) A (Yf ifs true fun c r=>if r=true then do let ok <-isTrue c env (eval c env);pure (ForInStep.yield ok)else pure (ForInStep.yield r)) (fun ok s3=>
      if ok=true then D_ (O_ prog w) A (eval elt env) (fun x s4=>D_ (O_ prog w) A (call (.builtin "list.append") [acc,x]) (fun _ s5=>∃m,m<n/\I m s5) (U0 (O_ prog w) A env fun e s'=>R (.error e) s') s4) (U0 (O_ prog w) A env fun e s'=>R (.error e) s') s3
      else ∃m,m<n/\I m s3) (U0 (O_ prog w) A env fun e s'=>R (.error e) s') s2) (U0 (O_ prog w) A env fun e s'=>R (.error e) s') s1')
     (U0 (O_ prog w) A env fun e s'=>R (.error e) s') s1) (U0 (O_ prog w) A env fun e s'=>R (.error e) s') s)(n:Nat)(h:I n s):T7 (O_ prog w) A (.compLoop (.ListComp elt [⟨target,iter,ifs,0⟩] scope pos) 0 it acc env) R s:=by refine codeAny_loop rfl I (fun n s hI=>?_) n h;show D_ _ A ((compTurn (.ListComp elt [⟨target,iter,ifs,0⟩] scope pos) 0 it acc env).onRaise (fun x=>do noteFrame x env;theTreesLotGoes x)) _ _ s;refine wpAny_noted ?_;rw[compTurn_list];refine d_ (Uu (d_ (Rk (turn n s hI) (fun r s1 h1=>?_) fun _ _ h'=>h')));cases r with
|none=>exact t_ h1
|some v=>refine d_ (Rk h1 (fun _ s1' h1'=>?_) fun _ _ h'=>h');refine d_ (Rk h1' (fun _ s2 h2=>d_ (Rk h2 (fun ok s3 h3=>?_) fun _ _ h'=>h')) fun _ _ h'=>h');cases ok with
 |false=>exact t_ ⟨rfl,h3⟩
 |true=>exact d_ (d_ (Rk h3 (fun x s4 h4=>d_ (Rk h4 (fun _ s5 h5=>t_ (t_ ⟨rfl,h5⟩)) fun _ _ h'=>h')) fun _ _ h'=>h'))
end
def lP(X:Cx)(g:GE)(m:List Md)(ifs:List Expr)(f:FQ):Prop:=∀(pz:List (Addr×Obj))(s:h_)(σ:L2.St)(H:Hp)(Q:Bool->Hp->Prop),Inv X pz σ H s->tQ X g m f σ H Q ->D_ (O_ X.prog X.w) X.A (Yf ifs true fun c r=>if r=true then do let ok <-isTrue c X.env (eval c X.env);pure (ForInStep.yield ok)else pure (ForInStep.yield r)) (TP X pz σ Q) X.xe s
section
variable{X:Cx}{g:GE}{m:List Md}{c:Expr}{p:FQ}
theorem fV:lP X g m [] fun _=>.ok true:=fun pz s σ H Q I ⟨r,G,si,q⟩=>wpAny_tests_nil ⟨H,I,q G H (Grow.refl si.gok)⟩
theorem tJ(h:SQ X g m c p):lP X g m [c] p:=fun pz s σ H Q I q=>wpAny_tests_one (h pz s σ H Q I q)
end
def hU(ft:FT)(nl:Nat):Prop:=∀d r r1,ft d r=some r1->r1.length=r.length/\∀i,nl<=i->r1[i]? = r[i]?
def pq(ft:ji)(nl:Nat):Prop:=∀d r r1,ft d r=some r1->r1.length=r.length/\∀i,nl<=i->r1[i]? = r[i]?
theorem de{i nl:Nat}(h:i<nl):hU (az i) nl:=fun d r r1 e=>by cases e;exact⟨by simp,fun j hj=>by rw[c_ (by omega)]⟩
theorem mo{nl:Nat}:pq dc nl:=fun ds r r1 e=>by cases ds with
|nil=>cases e;exact⟨rfl,fun _ _=>rfl⟩
|cons _ _=>cases e
theorem ij{ft:FT}{fts:ji}{nl:Nat}(h1:hU ft nl)(h2:pq fts nl):pq (bh ft fts) nl:=fun ds r r1 e=>by cases ds with
|nil=>cases e
|cons d ds=>have e':((ft d r).bind fun r'=>fts ds r')=some r1:=e;cases q:ft d r with
 |none=>rw[q]at e';cases e'
 |some r2=>rw[q]at e';obtain⟨a1,a2⟩:=h1 d r r2 q;obtain⟨b1,b2⟩:=h2 ds r2 r1 e';exact⟨b1.trans a1,fun i hi=>(b2 i hi).trans (a2 i hi)⟩
theorem l9{fts:ji}{nl:Nat}(h:pq fts nl):hU (dg fts) nl:=fun d r r1 e=>by cases d with
|tup ds=>exact h ds r r1 e
|lst ds=>exact h ds r r1 e
|_=>cases e
section
variable{X:Cx}{pz:List (Addr×Obj)}{σ:L2.St}{H2:Hp}{s2:h_}{scope:R9}{N':List Str}{nl:Nat}{cap:List Nat}{cl:List (Str×Addr)}{fp:List Addr}{g:GE}{G2:GH}{m:List Md}{r:ak}{elt tg iter:Expr}{ifs:List Expr}{pos:Pos}{J:It}{it:Addr}{tn:Nat->Heap->Prop}{ds vs:List D}{ft:FT}{q:FQ}{fe:FE}{E:b_->h_->Prop}
theorem J3(i:Nat):(aO nl cap m)[i]?≠some Md.ow:=fun h=>by
 by_cases hi:i<nl
 .unfold aO at h;rw[N_ (by simpa using hi),Qy]at h;split at h <;> cases h
 .unfold aO at h;rw[nN (by omega)]at h;cases e:cap[i-nl]? with
 |none=>rw[e]at h;cases h
 |some j=>rw[e]at h;have h':(if m.getD j Md.sh=Md.sh then Md.sh else Md.bw)=Md.ow:=PJ h;split at h' <;> cases h'
theorem MH{i:Nat}(hi:i<nl)(d:D):(bi nl cap r)[i]?≠some (some d):=fun h=>by unfold bi at h;rw[N_ (by simpa using hi),Qy]at h;split at h <;> cases h
def yL(El:W.Frag->GH->Hp->GH->Hp->V->D->Prop)(X:Cx)(g:GE)(m:List Md)(f:FE):TE:=fun σ H Q=>∃r G,SI X g m r G σ H/\fin (f r) (fun d=>∀v G' H',Grow X.K G H G' H'->El X.K G H G' H' v d->Q v H') (XW X σ G H)
theorem Ev{El:W.Frag->GH->Hp->GH->Hp->V->D->Prop}{Rl:Addr->GH->Hp->List V->List D->Prop}(R0:∀p G H,Rl p G H [] [])(Rg:∀{p G H G' H' ws ds},Rl p G H ws ds->Grow X.K G H G' H'->Rl p G' H' ws ds)(Rn:∀{p G H ws ds},Rl p G H ws ds->ws.length=ds.length)(Ra:∀{p G H G' H' ws ds v d},Rl p G H ws ds->Grow X.K G H G' H'->Grow X.K G2 H2 G H->H p=some (.lst ws)->El X.K G H G' H' v d->Rl p G' (upd H' p (.lst (ws++[v]))) (ws++[v]) (ds++[d]))(hN:X.N.Nodup)(hcalm:X.calm=true)(sc:CompSc X scope N' nl cap)(h1:∀x c,cl.lookup x=some c->X.env.cells.lookup x=some c)(h2:∀x,(x,NameKind.free)∈scope.names->∃c,cl.lookup x=some c)(I2:Inv X pz σ H2 s2)(si:SI X g m r G2 σ H2)(T:Turn X.prog X.w X.K tg J fp it tn)(st:tn 0 s2.heap)(hf:∀b∈fp,cS X pz H2 b)(Y:YieldsC X.K J ds G2 H2)(hsz:ds.length<=sizeLine)(hg:∀C,SG (fB X s2 H2 N' scope cl C fp) ⟨G2,H2,fun _=>none⟩ (aO nl cap m) tg ft (aO nl cap m))(hft:hU ft nl)(hq:∀C,lP (fB X s2 H2 N' scope cl C fp) ⟨G2,H2,fun _=>none⟩ (aO nl cap m) ifs q)(he:∀C,PE (fB X s2 H2 N' scope cl C fp) elt (yL El (fB X s2 H2 N' scope cl C fp) ⟨G2,H2,fun _=>none⟩ (aO nl cap m) fe))(hres:fS ft q fe (bi nl cap r) ds=.ok vs){RR:b_->Addr->WV->h_->Prop}(hRR:∀(p C:Addr)(s':h_)(H':Hp)(G':GH),Inv X pz σ H' s'->(∃mm,s'.heap.Ns C mm)->H' C=none->C≠X.env.locals->X.s₀.heap.objs.size<=C->(∀x c,X.env.cells.lookup x=some c->c≠C)->(∀z∈X.pn++pz,z.1≠C) ->Grow X.K G2 H2 G' H'->H2 p=none->(∃ws,H' p=some (.lst ws)/\G' p=none/\Rl p G' H' ws vs)->RR (.ref p) C (.ok .next) s'):D_ (O_ X.prog X.w) X.A (newList []) (fun acc s3=>D_ (O_ X.prog X.w) X.A (newFunctionEnv scope X.env.globals cl [] X.env.qual none .none (some X.env)) (fun cenv s4=>T7 (O_ X.prog X.w) X.A (.compStart (.ListComp elt [⟨tg,iter,ifs,0⟩] scope pos) 0 (.ref it) acc { cenv with scope:=Wd scope X.env }) (RR acc cenv.locals) s4) E s3) E s2:=by
 refine Rf (wpAny_newFunctionEnv sc.nocell (by intro y hy;simp at hy) (fun h₁ hns₁ hsb₁=>?_) sc.kind)
 dsimp only at hns₁ hsb₁ ⊢
 generalize hH2:s2.heap.push { cls:=.type "list",dict:=none,data:=.seq ([]:List b_).toArray }=HH at hns₁ hsb₁ ⊢;have hC:HH.objs.size=s2.heap.objs.size+1:=by rw[<-hH2,Qj]
 have hDC:s2.heap.objs.size≠HH.objs.size:=by rw[hC];exact PH (Rv _)
 have hCle:s2.heap.objs.size<=HH.objs.size:=by rw[hC];exact WB _
 have below:∀b,b<s2.heap.objs.size->b≠HH.objs.size/\b≠s2.heap.objs.size:=fun b hb=>⟨by rw[hC];exact PH (Rh hb),PH hb⟩
 have old:∀b o,s2.heap.get? b=some o->h₁.get? b=some o:=fun b o e=>hsb₁.extBut b o (below b (x_ e)).1 (e_ _ (hH2▸e_ _ e));have hacc:h₁.get? s2.heap.objs.size=some { cls:=.type "list",dict:=none,data:=.seq ([]:List b_).toArray }:=hsb₁.extBut _ _ hDC (e_ _ (hH2▸w_ _ rfl));have hp2:H2 s2.heap.objs.size=none:=I2.hok.fresh (u_ _);have hflt:∀b∈fp,cS X pz H2 b/\b<s2.heap.objs.size:=fun b hb=>⟨hf b hb,by obtain⟨o,e,_⟩:=T.obj 0 s2.heap st b hb;exact x_ e⟩
 have ok:=Hm (fp:=fp) I2 sc h1 h2 hflt hCle;generalize hXX:fB X s2 H2 N' scope cl HH.objs.size fp=XX at ok;have hG2p:G2 s2.heap.objs.size=none:=si.gok.isN hp2;have w0:Grow X.K G2 H2 G2 (upd H2 s2.heap.objs.size (.lst [])):=Grow.new si.gok hp2 _;have hok4:cB X.prog X.w (upd H2 s2.heap.objs.size (.lst [])) h₁:=I2.hok.laid old (u_ _) ⟨Qa _,[],0,.nil,hacc⟩;have IC:Inv XX [] (c9 nl cap σ) (upd H2 s2.heap.objs.size (.lst [])) { s2 with heap:=h₁,toks:=s2.toks+([]:List (Str×b_)).length }:=by
  subst hXX;refine Hl I2 ok sc h1 h2 hN rfl I2.bare old hns₁ hCle ?_ (fun b hb hlt=>?_) (Un.laid old (u_ _) hp2) hok4
  .rw[bf (Rs hDC)];exact I2.hok.fresh hCle
  .rw[bf (below b hlt).2];exact hb
 have SC:SI XX ⟨G2,H2,fun _=>none⟩ (aO nl cap m) (bi nl cap r) G2 (c9 nl cap σ) (upd H2 s2.heap.objs.size (.lst [])):=by subst hXX;exact GN si w0
 have hst₁:tn 0 h₁:=T.keep _ _ _ st fun b _ o e=>old b o e;have hfX:∀(H':Hp),(∀b∈fp,H' b=none)->∀b∈fp,cS XX [] H' b:=fun H' hn b hb=>by
  clear IC SC;subst hXX;obtain⟨z0,z1,z2,z3,z4,z5⟩:=hf b hb;refine⟨hn b hb,?_,?_,?_,?_,?_⟩
  .exact(below b (hflt b hb).2).1
  .intro hfs;rcases q_.mp (I2.stkSub b hfs)with z|z
   .exact z1 z
   .exact z2 z
  .exact .inl hb
  .exact fun x c e=>z4 x c (h1 x c e)
  .intro p hp;exact absurd (show p∈([]:List (Addr×Obj))from hp) (by simp)
 have eA:XX.A=X.A:=Eq.rec (motive:=fun z _=>z.A=X.A) rfl hXX;have eP:XX.prog=X.prog:=Eq.rec (motive:=fun z _=>z.prog=X.prog) rfl hXX;have eW:XX.w=X.w:=Eq.rec (motive:=fun z _=>z.w=X.w) rfl hXX;have eK:XX.K=X.K:=Eq.rec (motive:=fun z _=>z.K=X.K) rfl hXX;have eX:XX.xe=fun _ _=>False:=Eq.rec (motive:=fun z _=>z.xe=fun _ _=>False) rfl hXX;have eE:XX.env=Vp scope cl HH.objs.size X.env:=Eq.rec (motive:=fun z _=>z.env=Vp scope cl HH.objs.size X.env) rfl hXX;have eC:XX.calm=true:=Eq.rec (motive:=fun z _=>z.calm=true) hcalm hXX;have eH:XX.H₀=H2:=Eq.rec (motive:=fun z _=>z.H₀=H2) rfl hXX;have hg':PG XX tg (tG XX ⟨G2,H2,fun _=>none⟩ (aO nl cap m) (aO nl cap m) ft):=Eq.rec (motive:=fun z _=>PG z tg (tG z ⟨G2,H2,fun _=>none⟩ (aO nl cap m) (aO nl cap m) ft)) (hg _).2 hXX;have hq':lP XX ⟨G2,H2,fun _=>none⟩ (aO nl cap m) ifs q:=Eq.rec (motive:=fun z _=>lP z ⟨G2,H2,fun _=>none⟩ (aO nl cap m) ifs q) (hq _) hXX;have he':PE XX elt (yL El XX ⟨G2,H2,fun _=>none⟩ (aO nl cap m) fe):=Eq.rec (motive:=fun z _=>PE z elt (yL El z ⟨G2,H2,fun _=>none⟩ (aO nl cap m) fe)) (he _) hXX;have fin':∀{H':Hp}{s':h_}{σ':L2.St}{G':GH}{ws:List V},Inv XX [] σ' H' s'->Grow X.K G2 H2 G' H'->H' s2.heap.objs.size=some (.lst ws)->G' s2.heap.objs.size=none->Rl s2.heap.objs.size G' H' ws vs->RR (.ref s2.heap.objs.size) HH.objs.size (.ok .next) s':=fun{H' s' σ' G' ws} J1 wg hpp hgp rs=>by
  clear IC SC hfX hg' hq' he' eA eP eW eK eX eE eC eH;subst hXX;have un:=J1.base;refine hRR _ _ s' H' G' ?_ (let⟨mm,hn,_⟩:=J1.loc;⟨mm,hn⟩) J1.free (Q7 (G_ I2.lt hCle)) (PQ I2.sz hCle) (fun x c e z=>?_) (fun z hz e=>?_) wg hp2 ⟨_,hpp,hgp,rs⟩
  .refine I2.call' J1.os un J1.hok J1.bare fun b hb=>?_;obtain⟨z0,z1,z2,z3,z4,z5⟩:=hf b hb;exact⟨z3,z1,z4,z5⟩
  .obtain⟨v,o,ho,_⟩:=I2.cell x c e;exact absurd (G_ (x_ ho) hCle) (by rw[z];exact Q5 _)
  .have:=(I2.pin z hz).1;exact absurd (G_ (x_ this) hCle) (by rw[e];exact Q5 _)
 have loop:T7 (O_ X.prog X.w) X.A (.compLoop (.ListComp elt [⟨tg,iter,ifs,0⟩] scope pos) 0 (.ref it) (.ref s2.heap.objs.size) (Vp scope cl HH.objs.size X.env)) (RR (.ref s2.heap.objs.size) HH.objs.size)
   { s2 with heap:=h₁,toks:=s2.toks+([]:List (Str×b_)).length }:=by
  refine J5 (fun n s'=>∃(i:Nat)(σ':L2.St)(H':Hp)(G':GH)(ws:List V)(done rest:List D),Inv XX [] σ' H' s'/\SI XX ⟨G2,H2,fun _=>none⟩ (aO nl cap m) (bi nl cap r) G' σ' H'/\tn i s'.heap/\(∀b∈fp,H' b=none)/\Grow X.K G2 H2 G' H' /\H' s2.heap.objs.size=some (.lst ws)/\G' s2.heap.objs.size=none/\Rl s2.heap.objs.size G' H' ws done/\fS ft q fe (bi nl cap r) (ds.drop i)=.ok rest/\vs=done++rest/\done.length<=i/\i<=ds.length/\n=ds.length-i) ?_ ds.length
   ⟨0,_,_,G2,[],[],vs,IC,SC,hst₁,fun b hb=>?_,w0,ce,hG2p,R0 _ _ _,hres,rfl,u_ _,Qa _,rfl⟩
  rotate_left
  .rw[bf (below b (hflt b hb).2).2];exact(hf b hb).1
  rintro n s3 ⟨i,σ3,H3,G3,ws,done,rest,I3,S3,st3,fr3,w3,hp3,hg3,rs3,hr3,hv3,hd3,hi3,rfl⟩
  have weaken:∀{α:Type}{t:Sem α}{Q:α->h_->Prop}{s':h_}{E':b_->h_->Prop},D_ (O_ XX.prog XX.w) XX.A t Q XX.xe s'->D_ (O_ X.prog X.w) X.A t Q E' s':=fun h=>by rw[eP,eW,eA,eX]at h;exact Rk h (fun _ _ z=>z) fun _ _ z=>z.elim
  by_cases hlt:i<ds.length
  .have hd:ds.drop i=ds[i]::ds.drop (i+1):=QE hlt;rw[hd]at hr3;unfold fS at hr3;have it3:=T.item XX eP eW eK eC i [] s3 σ3 H3 (U0 (O_ X.prog X.w) X.A (Vp scope cl HH.objs.size X.env) fun e s'=>RR (.ref s2.heap.objs.size) HH.objs.size (.error e) s') I3 (hfX H3 fr3) st3 (Y.go G3 H3 i w3 hlt);rw[eA]at it3;refine aL it3 fun rr s4 ⟨u,hr,h4⟩=>?_;subst hr;refine aL h4 fun _ s5 ⟨x,H5,I5,r5,y5,st5,fr5⟩=>?_;obtain⟨G5,w5,rv5⟩:=Y.yld G3 H3 i x H5 ds[i] w3 y5 (i_ hlt);have w25:=w3.trans w5;cases eft:ft ds[i] (bi nl cap r)with
  |none=>rw[eft]at hr3;cases hr3
  |some r1=>
    rw[eft]at hr3;simp only[opt_some,bind_ok]at hr3;have I5':=I5.pinned (hfX H5 fr5) (T.obj _ _ st5);have S5:SI XX ⟨G2,H2,fun _=>none⟩ (aO nl cap m) (bi nl cap r) G5 σ3 H5:=S3.grow (by rw[eK];exact w5);have rv5':RG XX.K G5 x ds[i]:=by rw[eK];exact rv5
    have as5:=hg' _ s5 σ3 H5 x u (fun σ6 H6=>H6=H5/\SI XX ⟨G2,H2,fun _=>none⟩ (aO nl cap m) r1 G5 σ6 H5) I5' r5 ⟨bi nl cap r,G5,ds[i],S5,rv5',r1,eft,fun σ6 si6=>⟨rfl,si6⟩⟩;rw[eE]at as5;refine aL (weaken as5) fun _ s6 ⟨σ6,H6,I6,e6,S6⟩=>?_;subst e6;obtain⟨fl1,fl2⟩:=hft _ _ _ eft;cases eq1:q r1 with
   |stuck=>rw[eq1]at hr3;cases hr3
   |exc xx=>rw[eq1]at hr3;cases hr3
   |ok b1=>
     rw[eq1]at hr3;simp only[bind_ok]at hr3;have te6:=hq' _ s6 σ6 H6 (fun b H7=>b=b1/\∃G7,Grow X.K G5 H6 G7 H7) I6 ⟨r1,G5,S6,by rw[eq1];exact fun G7 H7 w7=>⟨rfl,G7,by rw[eK]at w7;exact w7⟩⟩;rw[eE]at te6;refine aL (weaken te6) fun b s7 ⟨H7,I7,eb,G7,w7⟩=>?_;subst eb;have S7:SI XX ⟨G2,H2,fun _=>none⟩ (aO nl cap m) r1 G7 σ6 H7:=S6.grow (by rw[eK];exact w7);have w27:=w25.trans w7;have hp7:H7 s2.heap.objs.size=some (.lst ws):=w7.he _ _ (w5.he _ _ hp3);have hg7:G7 s2.heap.objs.size=none:=by rw[w7.gf _ (by rw[w5.he _ _ hp3];simp),w5.gf _ (by rw[hp3];simp)];exact hg3
     have back:∀{σ8:L2.St}{H8:Hp}{G8:GH}{s8:h_},Inv XX ([]++nC fp s5.heap) σ8 H8 s8->Inv XX [] σ8 H8 s8/\tn (i+1) s8.heap/\∀b∈fp,H8 b=none:=fun{σ8 H8 G8 s8} I8=>by refine⟨I8.unpinned,T.keep _ _ _ st5 fun b hb o e=>(I8.pin (b,o) (PV _ (PV _ (qN hb e)))).1,fun b hb=>?_⟩;obtain⟨o,e,_⟩:=T.obj _ _ st5 b hb;exact(I8.pin (b,o) (PV _ (PV _ (qN hb e)))).2.1
     have less:∀{σ8:L2.St}{H8:Hp}{G8:GH},SI XX ⟨G2,H2,fun _=>none⟩ (aO nl cap m) r1 G8 σ8 H8->SI XX ⟨G2,H2,fun _=>none⟩ (aO nl cap m) (bi nl cap r) G8 σ8 H8:=fun h=>h.less fl1.symm fun j d hj=>by
      by_cases hjn:j<nl
      .exact absurd hj (MH hjn d)
      .rw[fl2 j (by omega)];exact hj
     cases b with
    |false=>rw[if_neg j_]at hr3 ⊢;obtain⟨I7',t7,f7⟩:=back (G8:=G7) I7;exact⟨ds.length-(i+1),by omega,i+1,σ6,H7,G7,ws,done,rest,I7',less S7,t7,f7,w27,hp7,hg7,Rg rs3 (w5.trans w7),hr3,hv3,by omega,hlt,rfl⟩
    |true=>rw[if_pos rfl]at hr3 ⊢;cases ee1:fe r1 with
     |stuck=>rw[ee1]at hr3;cases hr3
     |exc xx=>rw[ee1]at hr3;cases hr3
     |ok d1=>rw[ee1]at hr3;simp only[bind_ok]at hr3;cases er:fS ft q fe (bi nl cap r) (ds.drop (i+1))with
      |stuck=>rw[er]at hr3;cases hr3
      |exc xx=>rw[er]at hr3;cases hr3
      |ok rest'=>
        rw[er]at hr3;simp only[bind_ok]at hr3;cases hr3;have el7:=he' _ s7 σ6 H7 (fun v H8=>∃G8,Grow X.K G7 H7 G8 H8/\El X.K G7 H7 G8 H8 v d1) I7 ⟨r1,G7,S7,by rw[ee1];exact fun v G8 H8 w8 rv=>⟨G8,by rw[eK]at w8;exact w8,by rw[eK]at rv;exact rv⟩⟩;rw[eE]at el7;refine aL (weaken el7) fun u8 s8 ⟨v8,H8,I8,r8,G8,w8,rv8⟩=>?_;have hp8:H8 s2.heap.objs.size=some (.lst ws):=w8.he _ _ hp7;have hg8:G8 s2.heap.objs.size=none:=by rw[w8.gf _ (by rw[hp7];simp)];exact hg7
        have S8:SI XX ⟨G2,H2,fun _=>none⟩ (aO nl cap m) r1 G8 σ6 H8:=S7.grow (by rw[eK];exact w8);have hlen:=Rn rs3;have ap8:=iC (X:=XX) _ s8 σ6 H8 (.ref s2.heap.objs.size) [v8] (.ref s2.heap.objs.size) [u8] (fun v H9=>H9=upd H8 s2.heap.objs.size (.lst (ws++[v8]))) I8 rfl (.cons r8 .nil) ⟨_,ws,v8,rfl,rfl,hp8,by omega,rfl⟩;refine aL (weaken ap8) fun u9 s9 ⟨v9,H9,I9,r9,e9⟩=>?_;subst e9;obtain⟨I9',t9,f9⟩:=back (G8:=G8) I9;have rsn:=Ra (Rg rs3 (w5.trans w7)) w8 w27 hp7 rv8;have w28:=w27.trans w8;refine⟨ds.length-(i+1),by omega,i+1,σ6,_,G8,ws++[v8],done++[d1],rest',I9',less (S8.other hg8 hp2 J3 _),t9,f9,?_,ce,hg8,rsn,er,by rw[hv3,Qv];rfl,by rw[PN,Th];omega,hlt,rfl⟩;refine⟨fun b e hb=>(w28.ok b e hb).mono (fun _ _ z=>z) fun o z=>?_,fun b o hb=>?_,w28.ge,w28.gf⟩
        .rw[bf (by rintro rfl;rw[hg8]at hb;cases hb)];exact z
        .rw[bf (by rintro rfl;rw[hp2]at hb;cases hb)];exact w28.he b o hb
  .have e:i=ds.length:=by omega
   subst e;rw[RS]at hr3;cases hr3;rw[QC]at hv3;subst hv3;have dn:=T.done XX eP eW eK eC ds.length [] s3 σ3 H3 (U0 (O_ X.prog X.w) X.A (Vp scope cl HH.objs.size X.env) fun e s'=>RR (.ref s2.heap.objs.size) HH.objs.size (.error e) s') I3 (hfX H3 fr3) st3 (Y.stop G3 H3 w3);rw[eA]at dn;refine aL dn fun rr s4 ⟨hr,I4⟩=>?_;subst hr;exact fin' I4 w3 hp3 hg3 rs3
 exact codeAny_compStart_list loop (T.self X.A 0 _ _ _ hst₁ loop)
end
def o8:Res (List D)->Res (List D)
|.ok d=>.ok d
|_=>.stuck
@[simp] theorem noXL_ok(d:List D):o8 (.ok d)=.ok d:=rfl
def cD(nl:Nat)(cap:List Nat)(fi:FI)(ft:FT)(q:FQ)(fe:FE):FE:=fun r=>(fi r).bind fun ds=>(bS (sz ds)).bind fun ds=>(o8 (fS ft q fe (bi nl cap r) ds)).bind fun vs=>.ok (.lst vs)
section
variable{X:Cx}{g:GE}{m mb:List Md}{scope:R9}{N':List Str}{nl:Nat}{cap:List Nat}{elt tg iter:Expr}{ifs:List Expr}{pos pos' spos:Pos}{fi:FI}{ft:FT}{q:FQ}{fe:FE}{ro:Bool}
theorem Dz{r:ak}{P:D->Prop}{x:D->Prop}(h:fin (cD nl cap fi ft q fe r) P x):fin (fi r) (fun ds=>∃vs,ds.length<=sizeLine/\fS ft q fe (bi nl cap r) ds=.ok vs/\P (.lst vs)) x:=by unfold cD at h;refine aP (aS h) fun ds h1=>?_;obtain⟨ds',e2,h2⟩:=cn (aS h1);obtain⟨rfl,hl⟩:=sL e2;cases e3:fS ft q fe (bi nl cap r) ds' with
|ok vs=>rw[e3]at h2;exact⟨vs,hl,rfl,h2⟩
|exc x=>rw[e3]at h2;exact h2.elim
|stuck=>rw[e3]at h2;exact h2.elim
theorem CompSc.clo{pz:List (Addr×Obj)}{σ:L2.St}{H:Hp}{s:h_}(sc:CompSc X scope N' nl cap)(ok:X.Ok):∃cl,W6 scope X.env=pure cl/\(∀x c,cl.lookup x=some c->X.env.cells.lookup x=some c)/\(∀x,(x,NameKind.free)∈scope.names->∃c,cl.lookup x=some c):=Nw fun y hy hf=>ok.has y.1 (sc.freeK y hy hf)
theorem gB(hN:X.N.Nodup)(hcalm:X.calm=true)(sc:CompSc X scope N' nl cap)(hi:gZ X g m tg iter fi)(hg:∀s0 H0 cl C fp g',SG (fB X s0 H0 N' scope cl C fp) g' (aO nl cap m) tg ft (aO nl cap m))(hft:hU ft nl)(hq:∀s0 H0 cl C fp g',lP (fB X s0 H0 N' scope cl C fp) g' (aO nl cap m) ifs q)(he:∀s0 H0 cl C fp g',SE (fB X s0 H0 N' scope cl C fp) g' (aO nl cap m) elt fe)(hs:∀x,QO iter X.env x=pure x:=by intro _;rfl):SO X g m (.ListComp elt [⟨tg,iter,ifs,0⟩] scope pos) (cD nl cap fi ft q fe):=by
 intro pz s σ H Q I h;obtain⟨r,G,si,k⟩:=h;obtain⟨cl,hcl,h1,h2⟩:=sc.clo (pz:=pz) (σ:=σ) (H:=H) (s:=s) I.ok;have k1:=Dz k;rw[eval_ListComp];refine Ux (use:=none) rfl hs hcl sc.kind sc.names (aL (hi pz s σ H (fun J H'=>∃G' ds vs,Grow X.K G H G' H'/\YieldsC X.K J ds G' H'/\ds.length<=sizeLine/\fS ft q fe (bi nl cap r) ds=.ok vs /\(∀a G' H',Grow X.K G H G' H'->H a=none->Own X.K G' H' a (.lst vs)->Q (.ref a) H')) I ⟨r,G,si,aP k1 fun ds ⟨vs,z1,z2,z3⟩ J G' H' w y=>⟨G',ds,vs,w,y,z1,z2,z3⟩⟩) fun v s1 hv=>aL hv fun itv s2 hv2=>?_);obtain⟨it,fp,tn,J,H2,rfl,I2,T,st,hf,G2,ds,vs,w2,Y,hsz,hres,hQ⟩:=hv2;refine Ev (El:=fun K _ _ G' _ v d=>RG K G' v d) (Rl:=fun _ G _ ws ds=>bA X.K G ws ds) (fun _ _ _=>.nil) (fun h w=>h.mono w.ge) Paired.length (fun h w _ _ e=>Paired.snoc (h.mono w.ge) e) (RR:=fun acc C=>compPost (O_ X.prog X.w) X.A X.xe none (EP X pz σ Q) acc C) hN hcalm sc h1 h2 I2 (si.grow w2) T st hf Y hsz (fun C=>hg _ _ _ _ _ _) hft (fun C=>hq _ _ _ _ _ _) (fun C=>he _ _ _ _ _ _) hres ?_;intro p C s' H' G' I' hns hC1 hC2 hC3 hC4 hC5 w' hp ⟨ws,o1,o2,o3⟩;have ho:Own X.K G' H' p (.lst vs):=⟨o2,.lst o1 o3⟩
 obtain⟨mm,hn⟩:=hns;refine⟨mm,hn,fun h' hsb=>⟨.ref p,H',?_,rfl,hQ p G' H' (w2.trans w') (w2.back hp) ho⟩⟩;exact I'.turned (it:=C) (t':=s'.toks) (fun b o hb e=>hsb.extBut b o hb e) hC1 hC2.symm.symm (.inr hC3) hC4 hC5
theorem qF(i:Nat){y:Str}(hN:X.N.Nodup)(hcalm:X.calm=true)(hy:X.N[i]? = some y)(hyl:X.env.scope.names.lookup y=some .local)(sc:CompSc X scope N' nl cap)(hi:gZ X g m tg iter fi)(hg:∀s0 H0 cl C fp g',SG (fB X s0 H0 N' scope cl C fp) g' (aO nl cap m) tg ft (aO nl cap m))(hft:hU ft nl)(hq:∀s0 H0 cl C fp g',lP (fB X s0 H0 N' scope cl C fp) g' (aO nl cap m) ifs q)(he:∀s0 H0 cl C fp g',SE (fB X s0 H0 N' scope cl C fp) g' (aO nl cap m) elt fe)(hsw:Tl (.ListComp elt [⟨tg,iter,ifs,0⟩] scope pos) (some (.Name y pos')) spos.line X.env=pure true:=by rfl)(hs:∀x,QO iter X.env x=pure x:=by intro _;rfl):SS X g ro mb m (.Assign [.Name y pos'] (.ListComp elt [⟨tg,iter,ifs,0⟩] scope pos) spos) (ap m i (cD nl cap fi ft q fe)) (m.set i .ow):=by
 refine⟨by simp,?_⟩;intro pz s σ H D0 I h;obtain⟨r,G,si,k⟩:=h;obtain⟨cl,hcl,h1,h2⟩:=sc.clo (pz:=pz) (σ:=σ) (H:=H) (s:=s) I.ok;have k1:=Dz (eZ si (m':=m.set i .ow) (by simp) k);rw[exec_Assign_Name_used _ _ _ _ hsw];refine d_ (Uu (d_ ?_));show D_ _ X.A (do let _ <-comprehension (.ListComp elt [⟨tg,iter,ifs,0⟩] scope pos) scope X.env _ (newList []) false (eval iter X.env) (some (Tn (.Name y pos') X.env))) _ _ s;refine d_ (Rk (Ux (use:=some (Tn (.Name y pos') X.env)) (Q:=fun _ s'=>SP X pz D0 .next s') rfl hs hcl sc.kind sc.names (aL (hi pz s σ H (fun J H'=>∃G' ds vs,Grow X.K G H G' H'/\YieldsC X.K J ds G' H'/\ds.length<=sizeLine/\fS ft q fe (bi nl cap r) ds=.ok vs /\(∀σ' G' H',aH G G'->SI X g (m.set i .ow) (r.set i (some (.lst vs))) G' σ' H'->D0.nx σ' H')) I ⟨r,G,si,aP k1 fun ds ⟨vs,z1,z2,z3⟩ J G' H' w y=>⟨G',ds,vs,w,y,z1,z2,z3⟩⟩) fun v s1 hv=>aL hv fun itv s2 hv2=>?_)) (fun _ s' hq=>t_ (t_ hq)) fun _ _ e=>e);obtain⟨it,fp,tn,J,H2,rfl,I2,T,st,hf,G2,ds,vs,w2,Y,hsz,hres,hQ⟩:=hv2;refine Ev (El:=fun K _ _ G' _ v d=>RG K G' v d) (Rl:=fun _ G _ ws ds=>bA X.K G ws ds) (fun _ _ _=>.nil) (fun h w=>h.mono w.ge) Paired.length (fun h w _ _ e=>Paired.snoc (h.mono w.ge) e) (RR:=fun acc C=>compPost (O_ X.prog X.w) X.A X.xe (some (Tn (.Name y pos') X.env)) (fun _ s'=>SP X pz D0 .next s') acc C) hN hcalm sc h1 h2 I2 (si.grow w2) T st hf Y hsz (fun C=>hg _ _ _ _ _ _) hft (fun C=>hq _ _ _ _ _ _) (fun C=>he _ _ _ _ _ _) hres ?_;intro p C s' H' G' I' hns hC1 hC2 hC3 hC4 hC5 w' hp ⟨ws,o1,o2,o3⟩;have ho:Own X.K G' H' p (.lst vs):=⟨o2,.lst o1 o3⟩
 obtain⟨mm,hn⟩:=hns;show D_ _ X.A (Tn (.Name y pos') X.env (.ref p)) _ _ s';refine V8 (DQ I' hN hy (.inl hyl) (v:=.ref p) rfl (fun s'' I'' ⟨a,hsb,ha⟩=>?_) (.inr hyl));have hCa:C≠a:=by
  rcases ha with z|z
  .rw[z];exact hC2
  .exact(hC4 y a z).symm
 refine⟨mm,hn.sameBut hsb hCa,fun h' hsb'=>?_⟩;refine⟨_,H',I''.turned (it:=C) (t':=s''.toks) (fun b o hb e=>hsb'.extBut b o hb e) hC1 hC2 (.inr hC3) hC4 hC5,?_⟩;exact hQ _ G' H' (w2.trans w').ge (si.setN (w2.trans w') i (w2.back hp) ho)
end
def iR(K:W.Frag)(r:V->List V->Hp->VK->Prop)(mk:D->List D->Option D):Prop:=∀(G:GH)(H:Hp)(a:Addr)(d:D)(vs:List V)(ds:List D)(d':D)(Q:VK),aM K G H->Own K G H a d->bA K G vs ds->mk d ds=some d' ->(∀o',OwnO K G (upd H a o') a d'->Q .non (upd H a o'))->r (.ref a) vs H Q
def rZ(T:String):D->Bool
|.lst _=>T == "list"
|.dic _=>T == "dict"
|_=>false
def cj(T:String)(m:List Md)(i:Nat)(fl:ak->Res (List D))(mk:D->List D->Option D):FS:=fun r=>match r[i]? with
|some (some d)=>if rZ T d=true then fq m r (fl r) fun ds=>(match mk d ds with
 |some d'=>.nx (r.set i (some d'))
 |none=>.stuck)else .stuck
|_=>.stuck
theorem IX{K:W.Frag}{G:GH}{H:Hp}{a:Addr}{d:D}{T:String}(o:Own K G H a d)(t:rZ T d=true):oN K T (.ref a) H:=by cases o.ob with
|lst r s=>exact .inl ⟨RF t,_,aV.of r⟩
|dic r s=>exact .inr (.inr (.inl ⟨RF t,.inl ⟨_,.inl r⟩⟩))
section
variable{X:Cx}{g:GE}{m mb:List Md}{e a b o:Expr}{es:List Expr}{f fa fb:FE}{fl:ak->Res (List D)}{pos pos' apos cpos:Pos}{ro:Bool}{x name:Str}{T id:String}{R:V->List V->Hp->VK->Prop}{mk:D->List D->Option D}
theorem L5(i:Nat)(hm:m[i]? = some .ow)(hk:iR X.K R mk){D0:Ends}{σ:L2.St}{H:Hp}(h:tS X g ro m m mb (cj T m i fl mk) D0 σ H):∃v,σ[i]? = some (some v)/\oN X.K T v H/\tL X g m fl σ H fun xs H2=>R v xs H2 fun _ H1=>D0.nx σ H1:=by obtain⟨r,G,si,k⟩:=h;unfold cj at k;cases er:r[i]? with
|none=>simp only[er]at k;exact(show False from k).elim
|some oo=>cases oo with
 |none=>simp only[er]at k;exact(show False from k).elim
 |some d=>
   simp only[er]at k;by_cases ht:rZ T d=true
   .rw[if_pos ht]at k;obtain⟨a,h1,h2,h3⟩:=si.mut hm er;refine⟨_,h1,IX h2 ht,r,G,si,aP (eZ si rfl k) fun ds k2 vs G' H' w rs=>?_⟩;cases em:mk d ds with
   |none=>simp only[em]at k2;exact(show False from k2).elim
   |some d'=>simp only[em]at k2;obtain⟨a',h1',h2',h3'⟩:=(si.grow w).mut hm er;rw[h1]at h1';cases h1';exact hk G' H' a d vs ds d' _ w.ok h2' rs em fun o' ob=>k2 σ G' _ w.ge (h3' o' d' ob)
   .rw[if_neg ht]at k;exact(show False from k).elim
theorem ic(i:Nat)(hm:m[i]? = some .ow)(pa:W2 T)(slot:Slot T name id)(hty:typeOf (.builtin id)=pure (.type "method_descriptor"))(hmt:jh X id R)(hk:iR X.K R mk)(hN:X.N[i]? = some x)(hv:fQ X.env.scope x)(ha:SA X g m (e::es) fl)(hd:(x==("__debug__" : Str))=false:=by decide)(hcd:(x==("__classdict__" : Str))=false:=by decide)(hbase:Tw (.Name x pos') name X.env (eval (.Name x pos') X.env)=eval (.Name x pos') X.env:=by rfl)(hfew:((backTo cpos (l_ (e::es) X.env)).all (fun x=>! x.1)&&(Wc cpos (Uq [] X.env)).all (fun x=>x.1.isSome)&&decide ((e::es).length+([]:List Tv).length+(if ([]:List Tv).isEmpty then 0 else 1)<30))=true:=by rfl)(hline:(apos.endLine==cpos.line)=true:=by rfl)(hst:l_ (e::es) X.env=(false,eval e X.env)::l_ es X.env:=by rfl)(hplain:(backTo cpos (l_ es X.env)).any (·.1)=false:=by rfl):SS X g ro mb m (.Expr (.Call (.Attribute (.Name x pos') name apos) (e::es) [] cpos) pos) (cj T m i fl mk) m:=⟨rfl,PS.imp (t5 (zV pa slot hty hmt (iY hN hv hd hcd) ha hbase hfew hline hst hplain)) fun D0 σ H h=>L5 i hm hk h⟩
def appD:D->List D->Option D
|.lst ds,[d]=>if ds.length<sizeLine then some (.lst (ds++[d]))else none
|_,_=>none
theorem iV{K:W.Frag}:iR K CG appD:=by
 intro G H a d vs ds d' Q gk ow rs e q;unfold appD at e;split at e
 .split at e
  .rename_i hl;cases e;cases ow.ob with
  |lst r s=>cases rs with
   |cons r1 t=>cases t;have:=Paired.length s;exact⟨a,_,_,rfl,rfl,r,by omega,q _ (.lst ce (Paired.snoc s r1))⟩
  .cases e
 .cases e
theorem Paired.rev{α β:Type}{F:α->β->Prop}:∀{l:List α}{r:List β},Paired F l r->Paired F l.reverse r.reverse
|_,_,.nil=>.nil
|_,_,.cons h t=>by rw[S9,S9];exact Paired.snoc (Paired.rev t) h
def sA(x:Int)(n:Nat):Nat:=if x<0 then(x+(n:Int)).toNat else min x.toNat n
def ca{α:Type}(xs:List α)(x:Int)(y:α):List α:=xs.take (sA x xs.length)++y::xs.drop (sA x xs.length)
def CI:V->List V->Hp->VK->Prop:=fun x vs H Q=>∃l xs i y,x=.ref l/\vs=[.int i,y]/\H l=some (.lst xs)/\-(2^63)<=i/\i<2^63/\xs.length<sizeLine/\Q .non (upd H l (.lst (ca xs i y)))
theorem Nb:jh X "list.insert" CI:=by
 intro pz s σ H x vs v us Q I rx rv h;obtain⟨l,xs,i,y,rfl,rfl,hH,h1,h2,hz,q⟩:=h;cases rx;obtain⟨u,w',rfl,⟨t,rfl⟩,ry⟩:=Ah rv;obtain⟨z,its,n,r,hl,e⟩:=I.lstM hH;have hfit:¬(! Uh i)=true:=by rw[fitsIndex_both h1 h2];exact j_
 refine Ug Uy ⟨_,e,rfl⟩ PySem.F.entry_list_insert (PySem.F.args_list_insert_3 _ _ _) (AutoListH.list_insert_list_int_val_1 l its.toArray n i t w' hfit (by rw[s_];omega)) ⟨e,?_⟩;refine⟨.non,_,I.lset (its':=ca its i w') hH e ?_ ?_ ?_,rfl,q⟩
 .show((its.toArray.extract 0 (if i<0 then(i+((its.toArray.size:Nat):Int)).toNat else min i.toNat its.toArray.size)).push w'++its.toArray.extract (if i<0 then(i+((its.toArray.size:Nat):Int)).toNat else min i.toNat its.toArray.size))=(ca its i w').toArray;rw[s_];unfold ca sA;generalize(if i<0 then(i+((its.length:Nat):Int)).toNat else min i.toNat its.length)=k;apply Array.ext';simp;exact Ta (by rw[Tq];exact u_ _)
 .unfold ca;rw[hl];exact al.append (r.take _) (.cons ry (r.drop _))
 .unfold ca;rw[PN,C_,Q2,Tq];omega
def insD:D->List D->Option D
|.lst ds,[.int i,d]=>if ds.length<sizeLine/\-(2^63)<=i/\i<2^63 then some (.lst (ca ds i d))else none
|_,_=>none
theorem GY{α β:Type}{F:α->β->Prop}{l:List α}{r:List β}{x:α}{y:β}(h:Paired F l r)(i:Int)(hxy:F x y):Paired F (ca l i x) (ca r i y):=by unfold ca;rw[Paired.length h];exact Paired.app (Paired.tk _ h) (.cons hxy (Paired.dr _ h))
theorem GZ{K:W.Frag}:iR K CI insD:=by
 intro G H a d vs ds d' Q gk ow rs e q;unfold insD at e;split at e
 .split at e
  .rename_i hl;cases e;cases ow.ob with
  |lst r s=>cases rs with
   |cons r1 t=>cases t with
    |cons r2 t=>cases t;have:=Paired.length s;exact⟨a,_,_,_,rfl,by rw[r1.int gk],r,hl.2.1,hl.2.2,by omega,q _ (.lst ce (GY s _ r2))⟩
  .cases e
 .cases e
end
def di:D->Bool
|.non=>true
|.bl _=>true
|.int _=>true
|.str _=>true
|_=>false
def d9:D->V
|.non=>.non
|.bl b=>.bl b
|.int i=>.int i
|.str x=>.str x
|_=>.non
def eqs(a b:D):Bool:=fw (d9 a) (d9 b)
@[simp] theorem eqs_int(a b:Int):eqs (.int a) (.int b)=(a==b):=rfl
@[simp] theorem eqs_str(a b:Str):eqs (.str a) (.str b)=(a==b):=rfl
@[simp] theorem eqs_non_int(b:Int):eqs .non (.int b)=false:=rfl
@[simp] theorem eqs_int_non(b:Int):eqs (.int b) .non=false:=rfl
section
variable{K:W.Frag}{G:GH}{H:Hp}{v:V}{d:D}
theorem RB.flat(h:RB K G H v d)(gk:aM K G H)(hf:di d=true):v=d9 d/\fT v=true:=by cases d with
|non=>rw[h.non gk];exact⟨rfl,rfl⟩
|bl b=>rw[h.bl gk];exact⟨rfl,rfl⟩
|int i=>rw[h.int gk];exact⟨rfl,rfl⟩
|str x=>rw[h.str gk];exact⟨rfl,rfl⟩
|_=>cases hf
theorem zU{xs:List V}{ds:List D}(h:bA K G xs ds)(gk:aM K G H)(hf:ds.all di=true):xs=ds.map d9/\xs.all fT=true:=by induction h with
|nil=>exact⟨rfl,rfl⟩
|cons r t ih=>rw[Ru,PR]at hf;obtain⟨e1,e2⟩:=RB.flat (H:=H) r.rb gk hf.1;obtain⟨e3,e4⟩:=ih hf.2;exact⟨by rw[p_,<-e3,<-e1],by rw[Ru,e2,e4];rfl⟩
end
def dw:D->Option aB
|.int i=>some (.inl i)
|.str x=>some (.inr x)
|_=>none
def cC(kvs:List (aB×D))(k:aB):Bool:=kvs.any fun kv=>decide (kv.1=k)
def bc(kvs:List (aB×D))(k:aB):Option D:=(kvs.find? fun kv=>decide (kv.1=k)).map (·.2)
def im(x c:D):Option Bool:=match c with
|.lst ds=>if di x=true/\ds.all di=true then some (ds.any fun y=>eqs y x)else none
|.tup ds=>if di x=true/\ds.all di=true then some (ds.any fun y=>eqs y x)else none
|.dic kvs=>(dw x).map (cC kvs)
|.str y=>match x with
 |.str z=>some (!(Rc y z 0 y.length 1).isEmpty)
 |_=>none
|_=>none
def il(x c:D):Option D:=(im x c).map .bl
def du(x c:D):Option D:=(im x c).map fun b=>.bl (! b)
theorem AE{K:W.Frag}{G:GH}{k:aB}{ps:List (aB×V)}{kvs:List (aB×D)}(h:d4 K G ps kvs)(d:D)(e:bc kvs k=some d):∃v,cv ps k=some v/\RG K G v d:=by induction h with
|nil=>cases e
|@cons p q ps kvs r t ih=>
  obtain⟨k1,v1⟩:=p;obtain⟨k2,d2⟩:=q;obtain⟨e1,r1⟩:=r;have e1':k1=k2:=e1;subst e1';by_cases hk:k1=k
  .subst hk;have:d2=d:=by simpa[bc,P7]using e
   subst this;exact⟨v1,qC rfl,r1⟩
  .have e':bc kvs k=some d:=by simpa[bc,P7,hk]using e
   obtain⟨v,h1,h2⟩:=ih e';exact⟨v,by rw[nW hk];exact h1,h2⟩
theorem MA{K:W.Frag}{G:GH}{k:aB}{ps:List (aB×V)}{kvs:List (aB×D)}(h:d4 K G ps kvs)(e:bc kvs k=none):cv ps k=none:=by induction h with
|nil=>rfl
|@cons p q ps kvs r t ih=>
  obtain⟨k1,v1⟩:=p;obtain⟨k2,d2⟩:=q;obtain⟨e1,r1⟩:=r;have e1':k1=k2:=e1;subst e1';by_cases hk:k1=k
  .subst hk;simp[bc,P7]at e
  .have e':bc kvs k=none:=by simpa[bc,P7,hk]using e
   rw[nW hk];exact ih e'
theorem GW(kvs:List (aB×D))(k:aB):cC kvs k=(bc kvs k).isSome:=by induction kvs with
|nil=>rfl
|cons p r ih=>
  by_cases e:p.1=k
  .simp[cC,bc,P7,e]
  .have h1:cC (p::r) k=cC r k:=by simp[cC,e]
   have h2:bc (p::r) k=bc r k:=by simp[bc,P7,e]
   rw[h1,h2,ih]
theorem sY{K:W.Frag}{G:GH}{H:Hp}{v:V}{d:D}{k:aB}(gk:aM K G H)(h:RB K G H v d)(e:dw d=some k):v=kV k:=by cases d with
|int i=>cases e;exact h.int gk
|str x=>cases e;exact h.str gk
|_=>cases e
section
variable{X:Cx}{g:GE}{m mb:List Md}{e a b o c:Expr}{f fa fb fc:FE}{pos pos':Pos}
def lx(neg:Bool):R2:=fun y x H Q=>∃a o,x=.ref a/\dQ H a y o/\Q (.bl (if neg then ! o.isSome else o.isSome)) H
theorem IA(hu:X.A.units+1<Rt):aT X (Qb .In) (lx false):=by intro pz s σ H y x u v Q I ry rx h;obtain⟨a,oo,rfl,hg,q⟩:=h;cases rx;exact zg hu I hg ry fun s' I'=>⟨.bl _,H,I',rfl,q⟩
theorem JW(hu:X.A.units+1<Rt):aT X (Qb .NotIn) (lx true):=by intro pz s σ H y x u v Q I ry rx h;obtain⟨a,oo,rfl,hg,q⟩:=h;cases rx;exact J7 hu I hg ry fun s' I'=>⟨.bl _,H,I',rfl,q⟩
def gQ(K:W.Frag)(neg:Bool):R2:=fun x y H Q=>yU K neg x y H Q\/lx neg x y H Q\/∃i j,x=.str i/\y=.str j/\Q (.bl (if neg then !(!(Rc j i 0 j.length 1).isEmpty)else !(Rc j i 0 j.length 1).isEmpty)) H
theorem Iz(hu:X.A.units+1<Rt):aT X (Qb .In) (gQ X.K false):=aT.or MT (aT.or (IA hu) MU)
theorem JV(hu:X.A.units+1<Rt):aT X (Qb .NotIn) (gQ X.K true):=aT.or Op (aT.or (JW hu) Oq)
theorem Cm{K:W.Frag}(neg:Bool):cN K (gQ K neg) (fun x c=>(im x c).map fun b=>.bl (if neg then ! b else b)):=by
 intro G H v1 v2 d1 d2 d Q gk r1 r2 e q;have seq:∀{xs:List V}{ds:List D}{p:Addr},bA K G xs ds->v2=.ref p->(aV K H p xs\/bO K H p xs)->di d1=true->ds.all di=true->d=.bl (if neg then !(ds.any fun y=>eqs y d1)else ds.any fun y=>eqs y d1)->gQ K neg v1 v2 H Q:=fun{xs ds p} rs e2 hs hf hfs ed=>by
  obtain⟨e1,f1⟩:=RB.flat r1 gk hf;obtain⟨e3,f3⟩:=zU rs gk hfs;refine .inl ⟨p,xs,e2,hs,f1,f3,q _ G H (Grow.refl gk) ?_⟩;have:r6 v1 xs=ds.any fun y=>eqs y d1:=by unfold r6;rw[e3,T_,e1];rfl
  rw[this,ed];exact .scl (.bl _)
 cases d2 with
|lst ds=>
  by_cases hc:di d1=true/\ds.all di=true
  .simp only[im,if_pos hc,QY]at e;obtain⟨p,xs,e2,hs,rs⟩:=r2.lst gk;exact seq rs e2 (.inl hs) hc.1 hc.2 (PJ e).symm
  .simp only[im,if_neg hc,WG]at e;cases e
|tup ds=>
  by_cases hc:di d1=true/\ds.all di=true
  .simp only[im,if_pos hc,QY]at e;obtain⟨p,xs,e2,hs,rs⟩:=r2.tup gk;exact seq rs e2 (.inr hs) hc.1 hc.2 (PJ e).symm
  .simp only[im,if_neg hc,WG]at e;cases e
|dic kvs=>simp only[im]at e;cases ek:dw d1 with
 |none=>rw[ek]at e;cases e
 |some k=>
   rw[ek]at e;cases e;obtain⟨p,ps,rfl,hs,rs⟩:=r2.dic gk;refine .inr (.inl ⟨p,cv ps k,rfl,by rw[sY gk r1 ek];exact .inl ⟨ps,k,hs,rfl,rfl⟩,q _ G H (Grow.refl gk) ?_⟩);have:(cv ps k).isSome=cC kvs k:=by rw[GW];cases eg:bc kvs k with
   |none=>rw[MA rs eg];rfl
   |some d=>obtain⟨v,h1,_⟩:=AE rs d eg;rw[h1];rfl
   rw[this];exact .scl (.bl _)
|str y=>cases d1 with
 |str z=>cases e;exact .inr (.inr ⟨z,y,r1.str gk,r2.str gk,q _ G H (Grow.refl gk) (.scl (.bl _))⟩)
 |_=>cases e
|_=>cases e
theorem Go{K:W.Frag}:cN K (gQ K false) il:=by
 have h:=Cm (K:=K) false;have e:(fun x c=>(im x c).map fun b=>D.bl (if false=true then ! b else b))=il:=by funext x c;unfold il;cases im x c <;> rfl
 rw[e]at h;exact h
theorem Io{K:W.Frag}:cN K (gQ K true) du:=by
 have h:=Cm (K:=K) true;have e:(fun x c=>(im x c).map fun b=>D.bl (if true=true then ! b else b))=du:=by funext x c;unfold du;cases im x c <;> rfl
 rw[e]at h;exact h
theorem oZ(hu:X.A.units+1<Rt)(ha:SB X g m a fa)(hb:SB X g m b fb)(hm:RM .In b=false:=by rfl):SQ X g m (.Compare a [.In] [b] pos) (a9 (f2 fa fb il)):=j6 (Iz hu) Go ha hb hm
theorem sM(hu:X.A.units+1<Rt)(ha:SB X g m a fa)(hb:SB X g m b fb)(hm:RM .NotIn b=false:=by rfl):SQ X g m (.Compare a [.NotIn] [b] pos) (a9 (f2 fa fb du)):=j6 (JV hu) Io ha hb hm
def o9:D->D->Option D
|.non,.non=>some (.bl true)
|_,.non=>some (.bl false)
|_,_=>none
def lJ:D->D->Option D
|.non,.non=>some (.bl false)
|_,.non=>some (.bl true)
|_,_=>none
theorem RB.isnon{K:W.Frag}{G:GH}{H:Hp}{v:V}{d:D}(gk:aM K G H)(h:RB K G H v d):(v=.non↔d=.non):=by
 constructor
 .intro e;subst e;rcases h with h|⟨a,e,_⟩
  .cases h with
  |scl s=>cases s;rfl
  .cases e
 .intro e;subst e;exact h.non gk
theorem Gp{K:W.Frag}:cN K (fun x y H Q=>y=.non/\Q (.bl (decide (x=.non))) H) o9:=by intro G H v1 v2 d1 d2 d Q gk r1 r2 e q;have hn:=r1.isnon gk;cases d2 with
|non=>refine⟨r2.non gk,q _ G H (Grow.refl gk) ?_⟩;cases d1 with
 |non=>cases e;rw[decide_eq_true (hn.mpr rfl)];exact .scl (.bl _)
 |_=>cases e;rw[decide_eq_false (fun z=>by have:=hn.mp z;cases this)];exact .scl (.bl _)
|_=>cases d1 <;> cases e
theorem yW(ha:SB X g m a fa)(hb:SB X g m b fb):SQ X g m (.Compare a [.Is] [b] pos) (a9 (f2 fa fb o9)):=j6 IB Gp ha hb (jv _)
end
end DL
section
namespace DL
open PySem PySem.Spec PyProof.Rows L2
section
variable{X:Cx}{g:GE}{m mb:List Md}{e a b o c:Expr}{f fa fb fc:FE}{pos pos' p1 p2:Pos}{ro:Bool}{x:Str}
def oY:R2:=fun x y H Q=>∃a v,x=.ref a/\dQ H a y (some v)/\Q v H
theorem Ha(hu:X.A.units+1<Rt):iS X oY:=by intro value slice pz s σ H x y v u Q I rx ry h hs;obtain⟨a,w,rfl,hg,q⟩:=h;cases rx;exact Wb (On I hg) PySem.F.slot_dict_getitem.lookup (MK hu I hg ry fun w' s' I' rw'=>⟨w,H,I',rw',q⟩) hs
def aC:D->D->Option D
|.dic kvs,k=>(dw k).bind (bc kvs)
|c,k=>ixD c k
theorem G9{K:W.Frag}:cN K (fun x y H Q=>oY x y H Q\/yT K x y H Q) aC:=by intro G H v1 v2 d1 d2 d Q gk r1 r2 e q;cases d1 with
|dic kvs=>obtain⟨a,ps,rfl,hs,rs⟩:=r1.dic gk;have e':(dw d2).bind (bc kvs)=some d:=e;cases ek:dw d2 with
 |none=>rw[ek]at e';cases e'
 |some k=>rw[ek]at e';obtain⟨v,h1,h2⟩:=AE rs d e';refine .inl ⟨a,v,rfl,?_,q v G H (Grow.refl gk) h2⟩;rw[sY gk r2 ek,<-h1];exact .inl ⟨ps,k,hs,rfl,rfl⟩
|lst ds=>exact .inr (sB G H v1 v2 _ d2 d Q gk r1 r2 e q)
|tup ds=>exact .inr (sB G H v1 v2 _ d2 d Q gk r1 r2 e q)
|str ds=>exact .inr (sB G H v1 v2 _ d2 d Q gk r1 r2 e q)
|_=>cases e
theorem eM(hu:X.A.units+1<Rt)(ha:SB X g m a fa)(hb:SB X g m b fb)(hs:uH b:=by intro _ _;rfl):SE X g m (.Subscript a b pos) (f2 fa fb aC):=sG G9 (FH (iS.or (Ha hu) Hb) ha hb hs)
theorem kh:SO X g m (.Dict [] [] pos) fun _=>.ok (.dic []):=PE.imp Mj fun σ H Q ⟨r,G,si,q⟩ p hp=>q p G _ (Grow.new si.gok hp _) hp ⟨si.gok.isN hp,.dic ce .nil⟩
def cx(kvs:List (aB×D))(k:aB)(d:D):List (aB×D):=if (kvs.any fun kv=>decide (kv.1=k))=true then kvs.map fun kv=>if kv.1=k then(kv.1,d)else kv else kvs++[(k,d)]
theorem K7{K:W.Frag}{G:GH}{k:aB}{ps:List (aB×V)}{kvs:List (aB×D)}(h:d4 K G ps kvs):(ps.any fun kv=>decide (kv.1=k))=kvs.any fun kv=>decide (kv.1=k):=by induction h with
|nil=>rfl
|cons r t ih=>rw[R5,R5,ih,r.1]
theorem FL{K:W.Frag}{G:GH}{ps:List (aB×V)}{kvs:List (aB×D)}{k:aB}{v:V}{d:D}(r:d4 K G ps kvs)(h:RG K G v d):d4 K G (putK ps k v) (cx kvs k d):=by
 unfold putK cx;rw[K7 r];by_cases hc:(kvs.any fun kv=>decide (kv.1=k))=true
 .rw[if_pos hc,if_pos hc];clear hc
  induction r with
 |nil=>exact .nil
 |@cons p q ps kvs r t ih=>
   refine .cons ?_ ih;obtain⟨p1,p2⟩:=p;obtain⟨q1,q2⟩:=q;have e:p1=q1:=r.1;subst e;by_cases hk:p1=k
   .simp only[hk,if_true,true_and];exact h
   .simp only[hk,if_false,true_and];exact r.2
 .rw[if_neg hc,if_neg hc];exact Paired.snoc r ⟨rfl,h⟩
def cH:D->D->D->Option D
|.lst ds,.int k,v=>(gT ds.length k).map fun j=>.lst (ds.set j v)
|.dic kvs,k,v=>(dw k).bind fun k=>if kvs.length<sizeLine then some (.dic (cx kvs k v))else none
|_,_,_=>none
def Ap:V->V->V->Hp->(Hp->Prop)->Prop:=fun o i v H Q=>∃p H',o=.ref p/\gu H p i v H'/\Q H'
theorem Cv(hu:X.A.units+1<Rt):eI X Ap:=by intro pz s σ H o i v ov iv u Q I ro ri rv h;obtain⟨p,H',rfl,hp,q⟩:=h;cases ro;exact My hu I hp ri rv fun s' I'=>⟨H',I',q⟩
theorem eI.or{t t':jX}(h:eI X t)(h':eI X t'):eI X (fun o i v H Q=>t o i v H Q\/t' o i v H Q):=by
 intro pz s σ H o i v ov iv u Q I ro ri rv q;rcases q with q|q
 .exact h pz s σ H o i v ov iv u Q I ro ri rv q
 .exact h' pz s σ H o i v ov iv u Q I ro ri rv q
theorem Bg{K:W.Frag}{G:GH}{H:Hp}{a:Addr}{d k v d':D}{kv vv:V}{Q:Hp->Prop}(gk:aM K G H)(ow:Own K G H a d)(rk:RB K G H kv k)(rv:RG K G vv v)(e:cH d k v=some d')(q:∀o',OwnO K G (upd H a o') a d'->Q (upd H a o')):Aq (.ref a) kv vv H Q\/Ap (.ref a) kv vv H Q:=by cases ow.ob with
|@lst xs ds r s=>cases k with
 |int k=>have e':(gT ds.length k).map (fun j=>D.lst (ds.set j v))=some d':=e;cases ej:gT ds.length k with
  |none=>rw[ej]at e';cases e'
  |some j=>rw[ej]at e';cases e';exact .inl ⟨a,xs,k,j,rfl,rk.int gk,r,by rw[Paired.length s];exact ej,q _ (.lst ce (Paired.st rv j s))⟩
 |_=>cases e
|@dic ps kvs r s=>have e':(dw k).bind (fun k=>if kvs.length<sizeLine then some (D.dic (cx kvs k v))else none)=some d':=e;cases ek:dw k with
 |none=>rw[ek]at e';cases e'
 |some k'=>
   rw[ek]at e';have e2:(if kvs.length<sizeLine then some (D.dic (cx kvs k' v))else none)=some d':=e';by_cases hl:kvs.length<sizeLine
   .rw[if_pos hl]at e2;cases e2;have:=Paired.length s;refine .inr ⟨a,_,rfl,?_,q _ (.dic ce (FL s rv))⟩;rw[sY gk rk ek];exact gu.k r (by omega)
   .rw[if_neg hl]at e2;cases e2
def putF(m:List Md)(i:Nat)(fk fv:FE):FS:=fun r=>fq m r (fv r) fun v=>match r[i]? with
|some (some d)=>fq m r (fk r) fun k=>(match cH d k v with
 |some d'=>.nx (r.set i (some d'))
 |none=>.stuck)
|_=>.stuck
theorem jm(i:Nat)(hu:X.A.units+1<Rt)(hm:m[i]? = some .ow)(hN:X.N[i]? = some x)(hv:fQ X.env.scope x)(hk:SB X g m b fb)(he:SE X g m e f)(hd:(x==("__debug__" : Str))=false:=by decide)(hcd:(x==("__classdict__" : Str))=false:=by decide)(ha:∀v,Tn (.Subscript (.Name x p1) b p2) X.env v=(do
   let ov <-Sv [v] (eval (.Name x p1) X.env);let iv <-Sv [v,ov] (eval b X.env)
   V7 p2
   Sv [v,ov,iv] (WQ ov iv v)
   release [v,ov,iv] []):=by intro _;rfl)(hs:VD [.Subscript (.Name x p1) b p2] e pos.line X.env=pure false:=by rfl)(hw:VE [.Subscript (.Name x p1) b p2] e X.env=pure none:=by rfl)(h1:(QN [.Subscript (.Name x p1) b p2] X.env).map (·.2)=[Tn (.Subscript (.Name x p1) b p2) X.env]:=by rfl):SS X g ro mb m (.Assign [.Subscript (.Name x p1) b p2] e pos) (putF m i fb f) m:=by refine⟨rfl,PS.imp (A3 he (AY (iY hN hv hd hcd) hk (eI.or C7 (Cv hu)) ha) hs hw h1) fun D0 σ H ⟨r,G,si,k⟩=>⟨r,G,si,?_⟩⟩;refine aP (eZ si rfl k) fun v k1 vv G1 H1 w1 rv=>?_;cases er:r[i]? with
|none=>simp only[er]at k1;exact(show False from k1).elim
|some oo=>cases oo with
 |none=>simp only[er]at k1;exact(show False from k1).elim
 |some d=>simp only[er]at k1;obtain⟨a,h1,h2,h3⟩:=(si.grow w1).mut hm er;refine⟨_,h1,r,G1,si.grow w1,?_⟩;refine aP (eZ (m:=m) (si.grow w1) rfl (bD.gle k1 w1.ge)) fun kk k2 kv G2 H2 w2 rk=>?_;cases es:cH d kk v with
  |none=>simp only[es]at k2;exact(show False from k2).elim
  |some d'=>simp only[es]at k2;obtain⟨a',h1',h2',h3'⟩:=((si.grow w1).grow w2).mut hm er;rw[h1]at h1';cases h1';exact Bg w2.ok h2' rk (rv.mono w2.ge) es fun o' ob=>k2 σ G2 _ w2.ge (h3' o' d' ob)
end
mutual
def aU:D->PyData
|.non=>.none
|.bl b=>.bool b
|.int i=>.int i
|.str x=>.str x
|.tup ds=>.tuple (zfP ds)
|.lst ds=>.list (zfP ds)
|.dic _=>.none
|.obj _ _=>.none
def zfP:List D->List PyData
|[]=>[]
|d::ds=>aU d::zfP ds
end
def bT:Nat->D->Prop
|_,.non=>True
|_,.bl _=>True
|_,.int _=>True
|_,.str x=>PyData.strOk x=true
|0,.tup _=>False
|0,.lst _=>False
|k+1,.tup ds=>∀d∈ds,bT k d
|k+1,.lst ds=>∀d∈ds,bT k d
|_,.dic _=>False
|_,.obj _ _=>False
theorem uY{k:Nat}{ds:List D}:bT (k+1) (.lst ds)↔∀d∈ds,bT k d:=by simp only[bT]
theorem nQ{k:Nat}{ds:List D}:bT (k+1) (.tup ds)↔∀d∈ds,bT k d:=by simp only[bT]
def lK(a b:D):Bool:=SD (aU a) (aU b)
section
variable{X:Cx}{pz:List (Addr×Obj)}{σ:L2.St}{H:Hp}{s:h_}{G:GH}
theorem Dk{k:Nat}(ih:∀(d:D)(v:V)(u:b_),bT k d->RG X.K G v d->L2.ar v u->∃as,Reads s.heap u (aU d) as)(ds:List D)(vs:List V)(us:List b_)(h:∀d∈ds,bT k d)(r:bA X.K G vs ds)(q:al vs us):∃as,ReadsAll s.heap us (zfP ds) as:=by induction r generalizing us with
|nil=>cases q;exact⟨[],.nil⟩
|cons r t ih'=>cases q with
 |cons r' t'=>obtain⟨a1,h1⟩:=ih _ _ _ (h _ g_) r r';obtain⟨a2,h2⟩:=ih' _ (fun x hx=>h x (f_ _ hx)) t';exact⟨a1++a2,.cons h1 h2⟩
theorem qx(I:Inv X pz σ H s)(gk:aM X.K G H):∀(k:Nat)(d:D)(v:V)(u:b_),bT k d->RB X.K G H v d->L2.ar v u->∃as,Reads s.heap u (aU d) as:=by
 intro k
 induction k with
|zero=>intro d v u hs r ru;cases d with
 |non=>rw[r.non gk]at ru;cases ru;exact⟨_,.none⟩
 |bl b=>rw[r.bl gk]at ru;cases ru;exact⟨_,.bool b⟩
 |int i=>rw[r.int gk]at ru;obtain⟨t,rfl⟩:=ru;exact⟨_,.int i t⟩
 |str x=>rw[r.str gk]at ru;obtain⟨t,rfl⟩:=ru;exact⟨_,.str x t⟩
 |tup _=>unfold bT at hs;exact hs.elim
 |lst _=>unfold bT at hs;exact hs.elim
 |dic _=>unfold bT at hs;exact hs.elim
 |obj _ _=>unfold bT at hs;exact hs.elim
|succ k ih=>intro d v u hs r ru;cases d with
 |non=>rw[r.non gk]at ru;cases ru;exact⟨_,.none⟩
 |bl b=>rw[r.bl gk]at ru;cases ru;exact⟨_,.bool b⟩
 |int i=>rw[r.int gk]at ru;obtain⟨t,rfl⟩:=ru;exact⟨_,.int i t⟩
 |str x=>rw[r.str gk]at ru;obtain⟨t,rfl⟩:=ru;exact⟨_,.str x t⟩
 |tup ds=>obtain⟨a,xs,rfl,sq,rs⟩:=r.tup gk;cases ru;obtain⟨its,rv,pl,_⟩:=I.tuple sq;obtain⟨o,ho,hc,n,hd⟩:=pl;obtain⟨as,h⟩:=Dk (k:=k) (fun d v u h1 h2 h3=>ih d v u h1 h2.rb h3) ds xs its (nQ.mp hs) rs rv;refine⟨as,?_⟩;unfold aU;exact .tuple ho hc hd (by simpa using h)
 |lst ds=>obtain⟨a,xs,rfl,sq,rs⟩:=r.lst gk;cases ru;obtain⟨its,rv,pl,_⟩:=I.list sq;obtain⟨o,ho,hc,n,hd⟩:=pl.isList;obtain⟨as,h⟩:=Dk (k:=k) (fun d v u h1 h2 h3=>ih d v u h1 h2.rb h3) ds xs its (uY.mp hs) rs rv;refine⟨a::as,?_⟩;unfold aU;exact .list ho hc hd (by simpa using h)
 |dic _=>unfold bT at hs;exact hs.elim
 |obj _ _=>unfold bT at hs;exact hs.elim
theorem uX{k:Nat}(ih:∀d,bT k d->QA (aU d)=true/\QQ (aU d)<=k):∀ds:List D,(∀d∈ds,bT k d)->Us (zfP ds)=true/\Vb (zfP ds)<=k
|[],_=>by unfold zfP Us Vb;exact⟨rfl,Qa _⟩
|d::ds,h=>by obtain⟨a1,a2⟩:=ih d (h d g_);obtain⟨b1,b2⟩:=uX ih ds fun x hx=>h x (f_ _ hx);unfold zfP Us Vb;rw[a1,b1];exact⟨rfl,Nat.max_le.mpr ⟨a2,b2⟩⟩
theorem Jq:∀(k:Nat)(d:D),bT k d->QA (aU d)=true/\QQ (aU d)<=k:=by
 intro k
 induction k with
|zero=>intro d hs;cases d with
 |non=>unfold aU QA QQ;exact⟨rfl,Qa _⟩
 |bl b=>unfold aU QA QQ;exact⟨rfl,Qa _⟩
 |int i=>unfold aU QA QQ;exact⟨rfl,Qa _⟩
 |str x=>unfold bT at hs;unfold aU QA QQ;exact⟨hs,Qa _⟩
 |tup _=>unfold bT at hs;exact hs.elim
 |lst _=>unfold bT at hs;exact hs.elim
 |dic _=>unfold bT at hs;exact hs.elim
 |obj _ _=>unfold bT at hs;exact hs.elim
|succ k ih=>intro d hs;cases d with
 |non=>unfold aU QA QQ;exact⟨rfl,Qa _⟩
 |bl b=>unfold aU QA QQ;exact⟨rfl,Qa _⟩
 |int i=>unfold aU QA QQ;exact⟨rfl,Qa _⟩
 |str x=>unfold bT at hs;unfold aU QA QQ;exact⟨hs,Qa _⟩
 |tup ds=>obtain⟨b1,b2⟩:=uX ih ds (nQ.mp hs);unfold aU QA QQ;exact⟨b1,Wp b2⟩
 |lst ds=>obtain⟨b1,b2⟩:=uX ih ds (uY.mp hs);unfold aU QA QQ;exact⟨b1,Wp b2⟩
 |dic _=>unfold bT at hs;exact hs.elim
 |obj _ _=>unfold bT at hs;exact hs.elim
theorem qG{d:D}(h:bT 60 d):X_ (aU d)=true:=by obtain⟨a,b⟩:=Jq 60 d h;unfold X_;rw[a,decide_eq_true (PQ b (by decide))];rfl
end
section
variable{X:Cx}{g:GE}{m mb:List Md}{e a b o c:Expr}{f fa fb fc:FE}{pos pos':Pos}
def kb(a b:D):Bool:=di a&&di b&&jL (d9 a) (d9 b)
open Classical in
def fA(a b:D):Option Bool:=if kb a b=true then some (eqs a b)else if bT 60 a/\bT 60 b then some (lK a b)else none
def eqD(a b:D):Option D:=(fA a b).map .bl
def neD(a b:D):Option D:=(fA a b).map fun c=>.bl (! c)
theorem CN{a b:D}(h:kb a b=false)(h1:bT 60 a)(h2:bT 60 b):fA a b=some (lK a b):=by unfold fA;rw[if_neg (by rw[h];exact j_),if_pos ⟨h1,h2⟩]
theorem nZ{a b:D}(h:kb a b=true):fA a b=some (eqs a b):=by unfold fA;rw[if_pos h]
@[simp] theorem eqB_int(a b:Int):fA (.int a) (.int b)=some (a==b):=nZ rfl
@[simp] theorem eqB_str(a b:Str):fA (.str a) (.str b)=some (a==b):=nZ rfl
@[simp] theorem eqB_non_int(b:Int):fA .non (.int b)=some false:=nZ rfl
@[simp] theorem eqB_int_non(b:Int):fA (.int b) .non=some false:=nZ rfl
@[simp] theorem eqB_non_non:fA .non .non=some true:=nZ rfl
theorem C6{a b:D}(h:jL (d9 a) (d9 b)=true)(fa:di a=true)(fb:di b=true):decide (d9 a=d9 b)=eqs a b:=by
 cases a <;> cases b <;> first
  |exact absurd (show false=true from fa) j_
  |exact absurd (show false=true from fb) j_
  |exact absurd (show false=true from h) j_
  |exact uM
  |exact sO
  |exact uN
  |rfl
  |simp[d9,eqs,fw]
def qa(K:W.Frag)(neg:Bool):R2:=fun x y H Q=>∃(G:GH)(d1 d2:D),aM K G H/\RB K G H x d1/\RB K G H y d2/\bT 60 d1/\bT 60 d2/\Q (.bl (if neg then ! lK d1 d2 else lK d1 d2)) H
theorem Di(hu:X.A.units+64<Rt):aT X (Qb .Eq) (qa X.K false):=by intro pz s σ H x y v u Q I rx ry h;obtain⟨G,d1,d2,gk,r1,r2,s1,s2,q⟩:=h;obtain⟨as,h1⟩:=qx I gk 60 d1 x v s1 r1 rx;obtain⟨bs,h2⟩:=qx I gk 60 d2 y u s2 r2 ry;exact SeqAt.compareEq_shaped h1 h2 (qG s1) (qG s2) hu ⟨.bl _,H,I,rfl,q⟩
theorem MV(hu:X.A.units+64<Rt):aT X (Qb .NotEq) (qa X.K true):=by intro pz s σ H x y v u Q I rx ry h;obtain⟨G,d1,d2,gk,r1,r2,s1,s2,q⟩:=h;obtain⟨as,h1⟩:=qx I gk 60 d1 x v s1 r1 rx;obtain⟨bs,h2⟩:=qx I gk 60 d2 y u s2 r2 ry;exact SeqAt.compareNe_shaped h1 h2 (qG s1) (qG s2) hu ⟨.bl _,H,I,rfl,q⟩
theorem eq_cases{a b:D}{c:Bool}(h:fA a b=some c):(kb a b=true/\c=eqs a b)\/(bT 60 a/\bT 60 b/\c=lK a b):=by
 unfold fA at h;split at h
 .rename_i hs;cases h;exact .inl ⟨hs,rfl⟩
 .split at h
  .rename_i hs;cases h;exact .inr ⟨hs.1,hs.2,rfl⟩
  .cases h
theorem zQ{K:W.Frag}:cN K (fun x y H Q=>Fj x y H Q\/qa K false x y H Q) eqD:=by intro G H v1 v2 d1 d2 d Q gk r1 r2 e q;unfold eqD at e;cases ec:fA d1 d2 with
|none=>rw[ec]at e;cases e
|some c=>
  rw[ec]at e;cases e;rcases eq_cases ec with⟨hs,rfl⟩|⟨s1,s2,rfl⟩
  .unfold kb at hs;rw[PR,PR]at hs;obtain⟨e1,_⟩:=RB.flat r1 gk hs.1.1;obtain⟨e2,_⟩:=RB.flat r2 gk hs.1.2;refine .inl ⟨by rw[e1,e2];exact hs.2,?_⟩;rw[e1,e2,C6 hs.2 hs.1.1 hs.1.2];exact q _ G H (Grow.refl gk) (.scl (.bl _))
  .exact .inr ⟨G,d1,d2,gk,r1,r2,s1,s2,q _ G H (Grow.refl gk) (.scl (.bl _))⟩
theorem Gy{K:W.Frag}:cN K (fun x y H Q=>Fi x y H Q\/qa K true x y H Q) neD:=by intro G H v1 v2 d1 d2 d Q gk r1 r2 e q;unfold neD at e;cases ec:fA d1 d2 with
|none=>rw[ec]at e;cases e
|some c=>
  rw[ec]at e;cases e;rcases eq_cases ec with⟨hs,rfl⟩|⟨s1,s2,rfl⟩
  .unfold kb at hs;rw[PR,PR]at hs;obtain⟨e1,_⟩:=RB.flat r1 gk hs.1.1;obtain⟨e2,_⟩:=RB.flat r2 gk hs.1.2;refine .inl ⟨by rw[e1,e2];exact hs.2,?_⟩;rw[e1,e2,C6 hs.2 hs.1.1 hs.1.2];exact q _ G H (Grow.refl gk) (.scl (.bl _))
  .exact .inr ⟨G,d1,d2,gk,r1,r2,s1,s2,q _ G H (Grow.refl gk) (.scl (.bl _))⟩
theorem gi(hu:X.A.units+64<Rt)(ha:SB X g m a fa)(hb:SB X g m b fb):SE X g m (.Compare a [.Eq] [b] pos) (f2 fa fb eqD):=sF (aT.or z9 (Di hu)) zQ ha hb (jv _)
theorem jN(hu:X.A.units+64<Rt)(ha:SB X g m a fa)(hb:SB X g m b fb):SQ X g m (.Compare a [.Eq] [b] pos) (a9 (f2 fa fb eqD)):=j6 (aT.or z9 (Di hu)) zQ ha hb (jv _)
theorem fj(hu:X.A.units+64<Rt)(ha:SB X g m a fa)(hb:SB X g m b fb):SQ X g m (.Compare a [.NotEq] [b] pos) (a9 (f2 fa fb neD)):=j6 (aT.or FC (MV hu)) Gy ha hb (jv _)
def jz(fa fb fc:FE)(k k':D->D->Option D):FE:=fun r=>(fa r).bind fun x=>(fb r).bind fun y=>(bS (k x y)).bind fun z=>(bS (iO z)).bind fun c=>if c=true then(fc r).bind fun w=>bS (k' y w)else .ok (.bl false)
def pF(K:W.Frag):R2:=fun x y H Q=>∃l b xs zs,x=.ref l/\y=.ref b/\aV K H l xs/\aV K H b zs/\xs.length+zs.length<=sizeLine/\∀p,H p=none->Q (.ref p) (upd H p (.lst (xs++zs)))
theorem tZ:aT X (Rq .Add) (pF X.K):=by
 intro pz s σ H x y v u Q I rx ry h;obtain⟨l,b,xs,zs,rfl,rfl,hH,hB,hz,q⟩:=h;cases rx;cases ry;obtain⟨its,r,pl,_⟩:=I.list hH;obtain⟨its2,r2,pl2,_⟩:=I.list hB;have l1:=r.length;have l2:=r2.length;obtain⟨⟨cls,dd,data,sl⟩,ho,hc,n,hd⟩:=pl.isList;obtain⟨⟨cls2,dd2,data2,sl2⟩,ho2,hc2,n2,hd2⟩:=pl2.isList;simp only at hc hd hc2 hd2;subst hc hd hc2 hd2;have e:its.toArray++its2.toArray=(its++its2).toArray:=by simp
 refine UU ⟨_,ho,rfl⟩ ⟨_,ho2,rfl⟩ noFill_list_add seq_list_add PySem.F.slot_list_add PySem.F.entry_list_add (PySem.F.args_list_add_2 _ _) (list_addW _ _ its.toArray its2.toArray n n2 dd dd2 sl sl2 (by simp;omega)) ⟨ho,ho2,?_⟩;rw[e];exact⟨.ref _,_,I.lnew (t':=s.toks) (r.append r2) (by rw[PN];omega),rfl,q _ I.fresh⟩
def catL:D->D->Option D
|.lst a,.lst b=>if a.length+b.length<=sizeLine then some (.lst (a++b))else none
|_,_=>none
theorem J4{K:W.Frag}:zu K (pF K) catL:=by
 intro G H v1 v2 d1 d2 d Q gk r1 r2 e q;unfold catL at e;split at e
 .split at e
  .rename_i hl;cases e;obtain⟨a,xs,rfl,s1,t1⟩:=r1.lst gk;obtain⟨b,ys,rfl,s2,t2⟩:=r2.lst gk;have l1:=Paired.length t1;have l2:=Paired.length t2;exact⟨a,b,xs,ys,rfl,rfl,s1,s2,by omega,fun p hp=>q p G _ (Grow.new gk hp _) hp ⟨gk.isN hp,.lst ce (Paired.app t1 t2)⟩⟩
  .cases e
 .cases e
theorem GB(ha:SB X g m a fa)(hb:SB X g m b fb):SO X g m (.BinOp a .Add b pos) (f2 fa fb catL):=Jk tZ J4 ha hb
def addA:D->D->Option D
|.int a,.int b=>some (.int (a+b))
|.str a,.str b=>if a.length+b.length<=sizeLine then some (.str (a++b))else none
|.lst a,.lst b=>if a.length+b.length<=sizeLine then some (.lst (a++b))else none
|.tup (x::a),.tup b=>if (x::a).length+b.length<=sizeLine then some (.tup (x::a++b))else none
|_,_=>none
theorem BP{K:W.Frag}:cN K (fun x y H Q=>(∃i j,x=.int i/\y=.int j/\Q (.int (i+j)) H)\/(∃i j,x=.str i/\y=.str j/\i.length+j.length<=sizeLine/\Q (.str (i++j)) H)\/pF K x y H Q\/sN K x y H Q) addA:=by
 intro G H v1 v2 d1 d2 d Q gk r1 r2 e q;unfold addA at e;split at e
 .cases e;exact .inl ⟨_,_,r1.int gk,r2.int gk,q _ G H (Grow.refl gk) (.scl (.int _))⟩
 .split at e
  .rename_i hl;cases e;exact .inr (.inl ⟨_,_,r1.str gk,r2.str gk,hl,q _ G H (Grow.refl gk) (.scl (.str _))⟩)
  .cases e
 .split at e
  .rename_i hl;cases e;obtain⟨a,xs,rfl,s1,t1⟩:=r1.lst gk;obtain⟨b,ys,rfl,s2,t2⟩:=r2.lst gk;have l1:=Paired.length t1;have l2:=Paired.length t2;exact .inr (.inr (.inl ⟨a,b,xs,ys,rfl,rfl,s1,s2,by omega,fun p hp=>q _ _ _ (Grow.newF gk hp (.lst (.inl ce) (Paired.app t1 t2))) (.ref cM)⟩))
  .cases e
 .split at e
  .rename_i x0 a0 b0 hl;cases e;rcases r1 with r1|⟨a',_,oo⟩
   .obtain⟨a,xs,rfl,s1,t1⟩:=r1.tup gk;obtain⟨b,ys,rfl,s2,t2⟩:=r2.tup gk;have l1:=Paired.length t1;have l2:=Paired.length t2;refine .inr (.inr (.inr ⟨a,b,xs,ys,rfl,rfl,s1,s2,?_,by omega,fun hy=>?_,fun _ p hp=>q _ _ _ (Grow.newF gk hp (.tup (.inl ce) (Paired.app t1 t2))) (.ref cM)⟩))
    .rintro rfl
     cases t1
    .subst hy;cases t2;refine q _ G H (Grow.refl gk) ?_;rw[QC];exact r1
   .cases oo.ob
  .cases e
 .cases e
theorem dE(ha:SB X g m a fa)(hb:SB X g m b fb):SE X g m (.BinOp a .Add b pos) (f2 fa fb addA):=jl (aT.or AV (aT.or D6 (aT.or tZ BZ))) BP ha hb
end
end DL
end
namespace DL
open PySem PySem.Spec PyProof.Rows L2
structure DefAt(K:W.Frag)(mg:Str->Option b_)(x:Str)(st:Stmt):Prop where
 ex:∃f fd,mg x=some (.ref f)/\Fun K x x st f fd
structure Callee(P:B_)(w:PP)(K:W.Frag)(mg:Str->Option b_)(base:Heap)(x:Str)(ps:List Str)(ds:List b_)(k:Nat)(ro:Bool)(ms:List Md)(F:List D->Res D):Prop where
 ex:∃f fd,mg x=some (.ref f)/\W.keepIn K (.ref f)=true/\fF K fd ps ds/\FnOk P w K mg base bN k f fd ps (iF K ro ms F)
section
variable{P:B_}{w:PP}{K:W.Frag}{mg:Str->Option b_}{base:Heap}
theorem Ih{x:Str}{st:Stmt}{N ps:List Str}{k:Nat}{ro:Bool}{ms:List Md}{fs:FS}{m':List Md}(A:DefAt K mg x st)(S:FnScope N ps (ax st))(hms:ms.length=ps.length)(hb:∀(kV doc pm:b_)(an:Option Addr)(cdv ct:b_)(us:List b_),us.length=ps.length->UH (W.fnOf x x (gM st) (d7 st) (ax st) .none kV doc pm an cdv ct) ⟨us,[]⟩=pure (ps.zip us))(hbody:∀(f:Addr)(cdv:b_)(A:P8)(outer:List Env)(s:h_)(H:Hp)(g:GE)(E:XK),Room k (A.deeper (S0 x (ax st) s.heap.objs.size f cdv)) ->fR (aW bN P w K mg base N x (ax st) f cdv A outer s H E).nox g ro [] (dU N.length ms) (d7 st) fs m'):Callee P w K mg base x ps [] (k+1) ro ms fun ds=>ay ro (fs (aN N.length ds)):=by obtain⟨f,fd,h1,F⟩:=A.ex;exact⟨f,fd,h1,F.kp,F.binds hb,AH F S hms (hbody f)⟩
structure DefAtD(K:W.Frag)(mg:Str->Option b_)(x:Str)(st:Stmt)(dds:List b_):Prop where
 ex:∃(f T:Addr)(o:Obj)(n:Nat)(oc:b_)(od:Option Addr)(kV doc pm:b_)(an:Option Addr)(cdv ct:b_)(osl:Array (Option b_)),mg x=some (.ref f)/\K.lookup T=some o/\o.data=.seq dds.toArray n/\K.lookup f=some ⟨oc,od,.func (W.fnOf x x (gM st) (d7 st) (ax st) (.ref T) kV doc pm an cdv ct),osl⟩/\W.codeIn K cdv x=true/\W.keepIn K (.ref f)=true
theorem Ci{x:Str}{st:Stmt}{N ps:List Str}{k:Nat}{ro:Bool}{ms:List Md}{fs:FS}{m':List Md}{dds ds:List b_}(A:DefAtD K mg x st dds)(S:FnScope N ps (ax st))(hms:ms.length=ps.length)(nn:Nat)(hn:nn+ds.length=ps.length)(hb:∀(T:Addr)(kV doc pm:b_)(an:Option Addr)(cdv ct:b_)(us:List b_),us.length=nn->∃kk:Option (Array b_)->Sem (List (Str×b_)),UH (W.fnOf x x (gM st) (d7 st) (ax st) (.ref T) kV doc pm an cdv ct) ⟨us,[]⟩=X2 (.ref T) >>= kk/\kk (some dds.toArray)=pure (ps.zip (us++ds)))(hbody:∀(f:Addr)(cdv:b_)(A:P8)(outer:List Env)(s:h_)(H:Hp)(g:GE)(E:XK),Room k (A.deeper (S0 x (ax st) s.heap.objs.size f cdv)) ->fR (aW bN P w K mg base N x (ax st) f cdv A outer s H E).nox g ro [] (dU N.length ms) (d7 st) fs m'):Callee P w K mg base x ps ds (k+1) ro ms fun zs=>ay ro (fs (aN N.length zs)):=by
 obtain⟨f,T,o,n,oc,od,kV,doc,pm,an,cdv,ct,osl,h1,hT,hd,lk,hcd,kp⟩:=A.ex;refine⟨f,W.fnOf x x (gM st) (d7 st) (ax st) (.ref T) kV doc pm an cdv ct,h1,kp,fun s us KX hl=>?_,?_⟩
 .obtain⟨kk,e1,e2⟩:=hb T kV doc pm an cdv ct us (by rw[PN]at hl;omega);exact BindsTo.of_defaults rfl (KX _ _ hT) hd e1 e2
 .have hpl:ps.length<=N.length:=by have:=congrArg Q_ S.pre;rw[Q2]at this;omega
  refine zz lk hcd S (fun vs H Q E ⟨G,ds,gk,rs,q⟩=>rs.len.1.trans hms) fun A outer s H vs Q E hr ⟨G,ds,gk,rs,q⟩=>?_;exact⟨_,(hbody f cdv A outer s H ⟨G,H,fun _=>none⟩ E hr).2.nox,aN N.length ds,G,vF gk rs (by omega),Da q⟩
end
section
variable{X:Cx}{g:GE}{m:List Md}{e:Expr}{es:List Expr}{fl:ak->Res (List D)}{k:Nat}{ps:List Str}{F:List D->Res D}{dvs:List V}{ds:List b_}{dds:List D}{x:Str}{p pos:Pos}{i:Nat}{ms ms':List Md}
theorem Hk(c:Callee X.prog X.w X.K X.mg X.base x ps ds k false ms' F)(hr:Room k X.A)(ha:jg X g m (e::es) ms fl)(hms:ms'=ms++I_ dds.length .sh:=by rfl)(hg:Gl X x:=by rfl)(hd:al dvs ds:=by exact .nil)(hsc:Paired Scl dvs dds:=by exact .nil)(hdb:(x==("__debug__" : Str))=false:=by decide)(he:l_ (e::es) X.env=(false,eval e X.env)::l_ es X.env:=by rfl)(hpl:(backTo pos (l_ es X.env)).any (·.1)=false:=by rfl):SE X g m (.Call (.Name x p) (e::es) [] pos) (aA fl dds F):=by subst hms;obtain⟨f,fd,h1,h2,h3,h4⟩:=c.ex;exact Jl h4 hr hg h1 h2 h3 hd hsc ha hdb he hpl
theorem J6(c:Callee X.prog X.w X.K X.mg X.base x ps ds k true ms' F)(hr:Room k X.A)(ha:jg X g m (e::es) ms fl)(hms:ms'=ms++I_ dds.length .sh:=by rfl)(hg:Gl X x:=by rfl)(hd:al dvs ds:=by exact .nil)(hsc:Paired Scl dvs dds:=by exact .nil)(hdb:(x==("__debug__" : Str))=false:=by decide)(he:l_ (e::es) X.env=(false,eval e X.env)::l_ es X.env:=by rfl)(hpl:(backTo pos (l_ es X.env)).any (·.1)=false:=by rfl):SO X g m (.Call (.Name x p) (e::es) [] pos) (iL (aA fl dds F)):=by subst hms;obtain⟨f,fd,h1,h2,h3,h4⟩:=c.ex;exact Iu h4 hr hg h1 h2 h3 hd hsc ha hdb he hpl
theorem v_(i:Nat)(hm:m[i]? = some .sh:=by rfl)(hN:X.N[i]? = some x:=by rfl)(hv:fQ X.env.scope x:=by first|exact Or.inl rfl|exact Or.inr (Or.inl rfl)|exact Or.inr (Or.inr rfl))(hd:(x==("__debug__" : Str))=false:=by decide)(hcd:(x==("__classdict__" : Str))=false:=by decide):SE X g m (.Name x p) fun r=>dN r i:=F5 i hm hN hv hd hcd
theorem af(i:Nat)(hm:i<m.length:=by decide)(hN:X.N[i]? = some x:=by rfl)(hv:fQ X.env.scope x:=by first|exact Or.inl rfl|exact Or.inr (Or.inl rfl)|exact Or.inr (Or.inr rfl))(hd:(x==("__debug__" : Str))=false:=by decide)(hcd:(x==("__classdict__" : Str))=false:=by decide):SB X g m (.Name x p) fun r=>dN r i:=Jp i hm hN hv hd hcd
end
def BV(osc:R9)(ON:List Str)(sc:R9)(N':List Str)(nl:Nat)(cap:List Nat):Bool:=decide (sc.kind=.function)&&sc.names.all (fun y=>decide (y.2≠.cell))&&sc.names.all (fun y=>decide (y.2≠.local) || decide (sc.names.lookup y.1=some .local)) &&
 sc.names.all (fun y=>decide (y.2≠.free) || (decide (osc.names.lookup y.1=some .cell) || decide (osc.names.lookup y.1=some .free)))&&decide (N'.length=nl+cap.length) &&
 (a_ cap.length).all fun j=>match N'[nl+j]?,ON[cap.getD j 0]? with
 |some x,some y=>decide (x=y)&&decide (sc.names.lookup x=some .free)
 |_,_=>false
theorem eR{X:Cx}{osc:R9}{ON:List Str}{sc:R9}{N':List Str}{nl:Nat}{cap:List Nat}(h1:X.env.scope=osc)(h2:X.N=ON)(h:BV osc ON sc N' nl cap=true):CompSc X sc N' nl cap:=by subst h1 h2;unfold BV at h;simp only[PR,Qs,decide_eq_true_eq,Bool.or_eq_true]at h;obtain⟨⟨⟨⟨⟨a1,a2⟩,a3⟩,a4⟩,a5⟩,a6⟩:=h;refine⟨a1,a2,fun y hy hl=>(a3 y hy).resolve_left fun z=>z hl,fun y hy hf=>(a4 y hy).resolve_left fun z=>z hf,a5,fun j hj=>?_⟩;have h6:=a6 j (r_.mpr hj);cases e1:N'[nl+j]? with
|none=>rw[e1]at h6;cases h6
|some x=>cases e2:X.N[cap.getD j 0]? with
 |none=>rw[e1,e2]at h6;cases h6
 |some y=>rw[e1,e2]at h6;simp only[PR,decide_eq_true_eq]at h6;exact⟨x,rfl,by rw[h6.1],h6.2⟩
section
variable{X:Cx}{g:GE}{m mb:List Md}{e a b c:Expr}{f fa fb fc:FE}{pos pos':Pos}
theorem Eu{R R':R2}{k k':D->D->Option D}(ho:cN X.K R k)(ho':cN X.K R' k'){σ:L2.St}{H:Hp}{Q:VK}(h:tE X g m (jz fa fb fc k k') σ H Q):tt R R' (tB X g m fa) (tB X g m fb) (tB X g m fc) σ H Q:=by obtain⟨r,G,si,q⟩:=h;refine jK si q fun d1 d2 v1 v2 G2 H2 w r1 r2 q2=>?_;obtain⟨z,ez,q3⟩:=cn (aS q2);obtain⟨cc,ec,q4⟩:=cn (aS q3);refine ho G2 H2 v1 v2 d1 d2 z _ w.ok r1 r2 ez fun v G3 H3 w3 rv=>?_;cases z with
|bl b'=>cases ec;refine⟨_,rv.bl w3.ok,?_⟩;cases cc with
 |false=>rw[if_neg j_]at q4 ⊢;exact q4 _ G3 H3 (w.trans w3) (.scl (.bl _))
 |true=>rw[if_pos rfl]at q4 ⊢;refine⟨r,G3,(si.grow w).grow w3,eS (aS q4) (w.trans w3) fun d3 q5 v3 G4 H4 w4 r3=>?_⟩;obtain⟨d,e,q6⟩:=cn q5;exact ho' G4 H4 v2 v3 d2 d3 d Q w4.ok ((r2.mono w3).mono w4) r3 e fun v G' H' w' z=>q6 v G' H' (((w.trans w3).trans w4).trans w') z
|_=>cases ec
theorem KP{σ:L2.St}{H:Hp}{Q:Bool->Hp->Prop}(h:tQ X g m (a9 f) σ H Q):tE X g m f σ H fun x H'=>∃k,x=.bl k/\Q k H':=by obtain⟨r,G,si,q⟩:=h;refine⟨r,G,si,aP (aS q) fun d q1 v G' H' w rv=>?_⟩;obtain⟨b,e,q2⟩:=cn q1;cases d with
|bl b'=>cases e;exact⟨_,rv.bl w.ok,q2 G' H' w⟩
|_=>cases e
theorem LP{op op':Wy}{R R':R2}{k k':D->D->Option D}(hr:aT X (Qb op) R)(hr':aT X (Qb op') R')(ho:cN X.K R k)(ho':cN X.K R' k')(ha:SB X g m a fa)(hb:SB X g m b fb)(hc:SB X g m c fc)(hm:Wk [op,op'] [b,c]=false:=by with_unfolding_all rfl):SE X g m (.Compare a [op,op'] [b,c] pos) (jz fa fb fc k k'):=PE.imp (Mi hr hr' ha hb hc hm) fun σ H Q h=>Eu ho ho' h
theorem C2{op op':Wy}{R R':R2}{k k':D->D->Option D}(hr:aT X (Qb op) R)(hr':aT X (Qb op') R')(ho:cN X.K R k)(ho':cN X.K R' k')(ha:SB X g m a fa)(hb:SB X g m b fb)(hc:SB X g m c fc)(hm:Wk [op,op'] [b,c]=false:=by with_unfolding_all rfl):SQ X g m (.Compare a [op,op'] [b,c] pos) (a9 (jz fa fb fc k k')):=PT.imp (LB hr hr' ha hb hc hm) fun σ H Q h=>Eu ho ho' (KP h)
theorem z8{K:W.Frag}:cN K (jb fun i j=>V.bl (decide (i<j))) gG:=km fun _ _=>.bl _
theorem pH{K:W.Frag}:cN K (jb fun i j=>V.bl (decide (i<=j))) iN:=km fun _ _=>.bl _
end
theorem bv{K:W.Frag}{h:Heap}{mg:Str->Option b_}{x:Str}{st:Stmt}(KX:K.In h)(G:h.Ns Qo mg){f:Addr}{oc:b_}{od an:Option Addr}{osl:Array (Option b_)}{kV doc pm cdv ct:b_}(a:W.nsIn K Qo x=some (some (.ref f)))(l:K.lookup f=some ⟨oc,od,.func (W.fnOf x x (gM st) (d7 st) (ax st) .none kV doc pm an cdv ct),osl⟩)(c:W.codeIn K cdv x=true)(k:W.keepIn K (.ref f)=true):DefAt K mg x st:=⟨f,_,W.mg_of KX G a,GR l c k⟩
theorem zy{K:W.Frag}{h:Heap}{mg:Str->Option b_}{x:Str}{st:Stmt}{dds:List b_}(KX:K.In h)(G:h.Ns Qo mg){f T:Addr}{oc tc:b_}{od an td:Option Addr}{osl tsl:Array (Option b_)}{n:Nat}{kV doc pm cdv ct:b_}(a:W.nsIn K Qo x=some (some (.ref f)))(l:K.lookup f=some ⟨oc,od,.func (W.fnOf x x (gM st) (d7 st) (ax st) (.ref T) kV doc pm an cdv ct),osl⟩)(t:K.lookup T=some ⟨tc,td,.seq dds.toArray n,tsl⟩)(c:W.codeIn K cdv x=true)(k:W.keepIn K (.ref f)=true):DefAtD K mg x st dds:=⟨f,T,_,n,oc,od,kV,doc,pm,an,cdv,ct,osl,W.mg_of KX G a,t,rfl,l,c,k⟩
theorem GG{P:B_}{w:PP}{K:W.Frag}{mg:Str->Option b_}{x p:Str}{st:Stmt}{k:Nat}{F:List D->Res D}{fa:Addr}(hfa:mg x=some (.ref fa))(A:DefAt K mg x st)(hb:∀(kV doc pm:b_)(an:Option Addr)(cdv ct:b_)(us:List b_),us.length=[p].length->UH (W.fnOf x x (gM st) (d7 st) (ax st) .none kV doc pm an cdv ct) ⟨us,[]⟩=pure ([p].zip us))(C:∀(f:Addr)(fd:Q0),Fun K x x st f fd->∀base:Heap,FnOk P w K mg base bN k f fd [p] (iF K false [.sh] F)):∃fd:Q0,(∀(s:h_)(u:b_),VA s fd ⟨[u],[]⟩ [(p,u)])/\∀base:Heap,K.In base->base.Ns Qo mg->FnOk P w K mg base bN k fa fd [p] (iF K false [.sh] F):=by obtain⟨f,fd,h1,Fn⟩:=A.ex;rw[hfa]at h1;cases h1;refine⟨fd,fun s u=>?_,fun base _ _=>C fa fd Fn base⟩;obtain⟨oc,od,kV,doc,pm,an,cdv,ct,osl,rfl,lk,hcd⟩:=Fn.ex;exact .of_eq (hb kV doc pm an cdv ct [u] rfl)
theorem FA{l:W.OpenLaw}{k:Nat}{q:B_}{loose:List Str}{XP:(Str->Option b_)->Heap->Prop}{YP:PP->Heap->Prop}{d:DefRec}{K:Params->W.Frag}{x:Str}{F:List D->Res D}(hn:l.most=some 63)(hdf:d.params.defaults=[])(hr:Room k UZ)(hY:∀(w:PP)(h:Heap),YP w h->(K w.params).In h)(hF:∀ns:List Int,ns.length<=63->F [.lst (ns.map .int)]=.ok (.bl true))(C:∀(w:PP)(mg:Str->Option b_)(fa:Addr)(h:Heap),(K w.params).In h->h.Ns Qo mg->mg d.name=some (.ref fa) ->∃fd:Q0,(∀(s:h_)(u:b_),VA s fd ⟨[u],[]⟩ [(x,u)])/\∀base:Heap,(K w.params).In base->base.Ns Qo mg->FnOk l.prog w (K w.params) mg base bN k fa fd [x] (iF (K w.params) false [.sh] F)):W.WalkO q loose XP YP l.row.toRowW d [] (fun f vs=>W3 f vs):=by
 refine L2.jG (n:=63) (k:=k) (x:=x) (CX:=fun _=>bN) (sp:=fun w=>iF (K w.params) false [.sh] F) hn (by decide) hdf hr hY C (fun w H a ns hl hO hS=>?_) fun _ _ _ _ _ z=>z;have intsP:∀(l:List Int),Paired Scl (l.map V.int) (l.map D.int):=fun l=>by induction l with
 |nil=>exact .nil
 |cons i l ih=>exact .cons (.int i) ih
 rcases hS with hS|hS
 .refine⟨fun b=>if b=a then some (.lst (ns.map D.int))else none,[.lst (ns.map .int)],fun b d' hb=>?_,.sh (.ref (if_pos rfl)) .nil,?_⟩
  .by_cases e:b=a
   .subst e;have hb':some (D.lst (ns.map D.int))=some d':=(if_pos rfl).symm.trans hb;cases hb';exact .lst hS (Paired.mono (fun _ _ z=>.scl z) (intsP ns))
   .have hb':(none:Option D)=some d':=(if_neg e).symm.trans hb;cases hb'
  .rw[hF ns hl];intro v G' H' w' rv;exact rv.bl w'.ok
 .refine⟨fun _=>none,[.lst (ns.map .int)],fun b d' hb=>(by cases hb),.sh (.kc (.lst (.inr hS) (intsP ns))) .nil,?_⟩;rw[hF ns hl];intro v G' H' w' rv;exact rv.bl w'.ok
section
open AutoSeq1 (wpAny_loadPart')
section
variable{prog:B_}{w:PP}{A:P8}{E:b_->h_->Prop}{s:h_}
theorem O3{it t:Addr}{i:Nat}{items}{x:b_}{Q:b_->h_->Prop}(hit:s.heap.IsTupleIter it t i)(ht:s.heap.IsTuple t items)(hx:items[i]? = some x)(hQ:∀h',h'.IsTupleIter it t (i+1)->SY it s.heap h'->Q x { s with heap:=h' }):D_ (O_ prog w) A (Qg (.ref it)) Q E s:=by
 obtain⟨o,ho,hc,hd⟩:=id hit;obtain⟨ol,hol,_,nl,hdl⟩:=ht;unfold Qg;refine d_ (Re (name:=T8 "__next__") hit.typeIs F.slot_tuple_iterator_next
  (Sh F.slot_tuple_iterator_next hit.typeIs F.entry_tuple_iterator_next ?_ (F.args_tuple_iterator_next_1 _)))
 show D_ _ _ (W7 (.ref it) 0 >>= _) _ _ s;refine d_ (QG ho hd (x:=.ref t) rfl ?_);show D_ _ _ (if (Value.ref t==Value.none)=true then _ else _) _ _ s;rw[if_neg (show ¬ ((Value.ref t==Value.none)=true)from j_)];show D_ _ _ (W7 (.ref it) 1 >>= _) _ _ s;refine d_ (QG ho hd (x:=.int i 0) rfl ?_);show D_ _ _ (X2 (.ref t) >>= _) _ _ s;refine d_ (QR hol hdl ?_);simp only[QP,hx];refine d_ (wpAny_setField ho hd (by simp) (t_ ⟨x,rfl,t_ (hQ _ ?_ (Sm ..))⟩));exact⟨_,Tg _ ho (Obj.isFreed_of_fields (VT hd _)),(Obj.cls_mapFields ..).trans hc,by rw[VT hd];simp[US]⟩
theorem OY{it t:Addr}{i:Nat}{items}{Q:b_->h_->Prop}(hh:A.handled=none)(hit:s.heap.IsTupleIter it t i)(ht:s.heap.IsTuple t items)(hx:items[i]? = none)(hE:∀h' e,Yg it s.heap h'->(∃o,h'.get? e=some o/\o.cls=.type "StopIteration")->E (.ref e) { s with heap:=h' }):D_ (O_ prog w) A (Qg (.ref it)) Q E s:=by
 obtain⟨o,ho,hc,hd⟩:=id hit;obtain⟨ol,hol,_,nl,hdl⟩:=ht;unfold Qg;refine d_ (Re (name:=T8 "__next__") hit.typeIs F.slot_tuple_iterator_next
  (Sh F.slot_tuple_iterator_next hit.typeIs F.entry_tuple_iterator_next ?_ (F.args_tuple_iterator_next_1 _)))
 show D_ _ _ (W7 (.ref it) 0 >>= _) _ _ s;refine d_ (QG ho hd (x:=.ref t) rfl ?_);show D_ _ _ (if (Value.ref t==Value.none)=true then _ else _) _ _ s;rw[if_neg (show ¬ ((Value.ref t==Value.none)=true)from j_)];show D_ _ _ (W7 (.ref it) 1 >>= _) _ _ s;refine d_ (QG ho hd (x:=.int i 0) rfl ?_);show D_ _ _ (X2 (.ref t) >>= _) _ _ s;refine d_ (QR hol hdl ?_);simp only[QP,hx];refine d_ (W8 (d_ (wpAny_setField ho hd (by simp) ?_)));show D_ _ _ (newExc (.type "StopIteration") [] >>= _) _ _ _;refine d_ ?_;simp only[newExc,newTuple];refine d_ (Rf ?_ (by size_fits));refine d_ (m:=firstArgMember _ _) (wpAny_of_eq (a:=Value.none) (by first|rfl|(simp only[firstArgMember];rfl)) ?_);refine Rf ?_ (by size_fits);simp only[raiseNew];refine d_ (wpAny_handled ?_)
 first|rw[show A.in1.handled=none from hh]|rw[hh]
 refine d_ (t_ (wpAny_throw ?_));exact hE _ _ (((Sm ..).extBut.push _).push _) ⟨_,w_ _ rfl,rfl⟩
end
theorem sP{prog:B_}{w:PP}{A:P8}(hh:A.handled=none)(it l:Addr)(hne:l≠it)(items:Array b_):VH prog w A it [it,l] items.size (fun i v=>items[i]? = some v) (fun i h=>h.IsTupleIter it l i/\h.IsTuple l items) where
 live:=fun _ _ st=>let⟨o,ho,_⟩:=st.1;⟨o,ho⟩
 frame:=fun _ _ _ st hk=>⟨let⟨o,ho,r⟩:=st.1;⟨o,hk it (by simp) o ho,r⟩,let⟨o,ho,r⟩:=st.2;⟨o,hk l (by simp) o ho,r⟩⟩
 item:=fun i s Q E hi st hQ=>by refine O3 st.1 st.2 (x:=items[i]) (by simp[hi]) fun h' hit' hs'=>?_;exact hQ _ h' s.toks (by simp[hi]) ⟨hit',st.2.extBut hs'.extBut hne⟩ hs'
 done:=fun s Q E st hE=>OY hh st.1 st.2 (by simp) hE
theorem OQ(l:Addr)(items:Array b_)(n:Nat)(dct:Option Addr)(sl:Array (Option b_)) :
  Meets (Tx.«enumerate.__new__» ⟨[.type "enumerate",.ref l],[]⟩) (fun _ R s=>s.heap.get? l=some { cls:=.type "tuple",dict:=dct,data:=.seq items n,slots:=sl } /\
   R (.ok (.ret (.ref (s.heap.push { cls:=.type "tuple_iterator",data:=.fields #[.ref l,.int 0 0] }).objs.size)))
    { s with heap:=(s.heap.push { cls:=.type "tuple_iterator",data:=.fields #[.ref l,.int 0 0] }).push { cls:=.type "enumerate",data:=.fields #[.none,.bool false,.ref s.heap.objs.size,US 0,.none,.none] } }):=
 .of_wp fun prog w A R s h=>by
  obtain⟨hp,g,d,tk,os⟩:=s;obtain⟨hl,h⟩:=h;have hsub:=sub_enumerate;have hL:Ua (RY ⟨hp,g,d,tk,os⟩) l items:=⟨_,hl,rfl,n,rfl⟩
  wp_walk using TY hl
  refine wpAny_stack_any fun st=>t_ ?_;split
  .rename_i c _ _ _ _ _;cases(c==Value.type "enumerate")
   .wp_walk using TY hl,Qz hL
    exact⟨_,rfl,h⟩
   .wp_walk using TY hl,Qz hL
    exact⟨_,rfl,h⟩
  .wp_walk using TY hl,Qz hL
   exact⟨_,rfl,h⟩
section
variable{prog:B_}{w:PP}{A:P8}{E:b_->h_->Prop}{s:h_}
theorem OO{l:Addr}{items:Array b_}{Q:b_->h_->Prop}(hL:s.heap.IsTuple l items)(h:∀h',IsEnum h' (s.heap.objs.size+1) s.heap.objs.size 0 .none->h'.IsTupleIter s.heap.objs.size l 0->h'.objs.size=s.heap.objs.size+2 ->(∀b o,s.heap.get? b=some o->h'.get? b=some o)->Q (.ref (s.heap.objs.size+1)) { s with heap:=h' }):D_ (O_ prog w) A (call (.type "enumerate") [.ref l]) Q E s:=by
 obtain⟨⟨c,dct,dt,sl⟩,hl,hc,n,hd⟩:=hL;replace hc:c=.type "tuple" := hc;replace hd:dt=.seq items n:=hd;subst hc hd;refine Ub F.called_enumerate (by decide) (F.typeCall_enumerate_1 _) (F.newCall_enumerate_1 _) (fun obj=>F.args_object_init_2 obj _) F.entry_enumerate_new
  (OQ l items n dct sl) ⟨hl,?_⟩
 have hz:(s.heap.push { cls:=.type "tuple_iterator",data:=.fields #[.ref l,.int 0 0] }).objs.size=s.heap.objs.size+1:=Qj ..;show _/\_;rw[hz];have he:IsEnum ((s.heap.push { cls:=.type "tuple_iterator",data:=.fields #[.ref l,.int 0 0] }).push
   { cls:=.type "enumerate",data:=.fields #[.none,.bool false,.ref s.heap.objs.size,US 0,.none,.none] }) (s.heap.objs.size+1) s.heap.objs.size 0 .none:=by
  have:=w_ (s.heap.push { cls:=.type "tuple_iterator",data:=.fields #[.ref l,.int 0 0] })
   (o:={ cls:=.type "enumerate",data:=.fields #[.none,.bool false,.ref s.heap.objs.size,US 0,.none,.none] }) rfl
  rw[hz]at this;exact this
 refine⟨⟨_,he,rfl⟩,h _ he ⟨_,e_ _ (w_ _ rfl),rfl,rfl⟩ (by rw[Qj,hz]) fun b o x=>e_ _ (e_ _ x)⟩
end
theorem vP{X:Cx}{pz:List (Addr×Obj)}{σ:L2.St}{H:Hp}{s:h_}{h':Heap}{ch:List Addr}{T:Addr}{o:HO}{t':Nat}(I:Inv X pz σ H s)(hch:∀b∈ch,cS X pz H b)(k:∀b ob,b∉ch->s.heap.get? b=some ob->h'.get? b=some ob)(hT:s.heap.objs.size<=T)(new:bZ X.prog X.w (upd H T o) h' T o):Inv X pz σ (upd H T o) { s with heap:=h',toks:=t' }:=by
 have hTn:H T=none:=I.hok.fresh hT;have trk:∀b u,H b=some u->b∉ch:=fun b u e hb=>by rw[(hch b hb).1]at e;cases e
 have neT:∀b ob,s.heap.get? b=some ob->b≠T:=fun b ob e=>PH (G_ (x_ e) hT);have keepU:∀b u,H b=some u->upd H T o b=some u:=fun b u e=>by rw[bf (kZ e hTn)];exact e
 refine I.step (g':=s.gens) (d':=s.drawn) (ch:=ch) (fun b hb=>?_) (fun b ob _ _ hc e _=>k b ob hc e) (fun b ob _ _ hc e _=>⟨ob.slots,k b ob hc e⟩) (fun b ob hc e n=>by rw[bf (neT b ob e)];exact n)
  (fun b ob hc e=>⟨ob,k b ob hc e⟩) (fun b xs e=>keepU b _ e) (fun b ob u e=>keepU b _ e) (fun b ps e=>⟨#[],by rw[keepU b _ e];simp⟩) (fun m hm=>?_) (fun b u e=>?_) I.bare
 .obtain⟨z0,z1,z2,z3,z4,z5⟩:=hch b hb;exact⟨z3,z1,z4,z5⟩
 .obtain⟨ob,es,ep,ho,r⟩:=hm;exact⟨ob,es,ep,k _ ob (fun hb=>(hch _ hb).2.1 rfl) ho,r⟩
 .by_cases hb:b=T
  .subst hb;rw[ce]at e;cases e;exact new
  .rw[bf hb]at e;refine(I.hok b u e).stay (fun c v hc q=>k c v ?_ q) (fun c q=>keepU c _ q) fun c xs q=>keepU c _ q;rcases hc with z|z
   .rw[z];exact trk b u e
   .exact trk c _ z
def kJ(sq:Hp->List V->Prop):It:=⟨fun i H=>∃xs x,sq H xs/\xs[i]? = some x,fun i H x H'=>∃p v,H p=none/\x=.ref p/\H'=upd H p (.tup [.int i,v])/\∀xs,sq H xs->xs[i]? = some v,fun i H=>∃xs,sq H xs/\xs.length=i⟩
theorem B3{P:B_}{w:PP}{H:Hp}{h:Heap}{T:Addr}{i:Nat}{tk:Tok}{x:b_}{v:V}(hT:h.get? T=some { cls:=.type "tuple",data:=.seq #[.int i tk,x] })(r:L2.ar v x):bZ P w H h T (.tup [.int i,v]):=⟨by show 2<=sizeLine;decide,[.int i tk,x],.cons ⟨tk,rfl⟩ (.cons r .nil),⟨_,hT,rfl,0,rfl⟩,_,hT,rfl⟩
theorem NY{P:B_}{w:PP}{K:W.Frag}{elts:List Expr}{k:Nat}{pos:Pos}(a it e:Addr)(hei:e≠it):Turn P w K (.Tuple elts k pos) (kJ fun H xs=>aV K H a xs) [e,it] e (fun i h=>(∃old,IsEnum h e it i old)/\h.IsListIter it a i) where
 mem:=by simp
 obj:=fun i h st b hb=>by
  obtain⟨⟨old,he⟩,o,ho,hc,hd⟩:=st;rcases q_.mp hb with rfl|hb
  .exact⟨_,he,fun v z=>by have z':Data.fields _=Data.cell v:=z;cases z'⟩
  .rw[y_.mp hb];exact⟨o,ho,fun v z=>by rw[hd]at z;cases z⟩
 keep:=fun i h h' st kk=>by obtain⟨⟨old,he⟩,hi⟩:=st;exact⟨⟨old,kk e (by simp) _ he⟩,hi.at fun o q=>kk it (by simp) o q⟩
 item:=by
  intro X hP hw hK hc i pz s σ H E I hf st hg;subst hP hw hK;obtain⟨xs,x,hq,hx⟩:=hg;obtain⟨its,rv,p,hz⟩:=I.list hq;obtain⟨⟨old,he⟩,hi⟩:=st;obtain⟨o1,ho1,hc1,hd1⟩:=id hi;obtain⟨o2,ho2,hc2,_⟩:=id p.isList;have hai:a≠it:=by rintro rfl;rw[ho1]at ho2;cases ho2;rw[hc1]at hc2;exact absurd hc2 (by decide)
  have hea:e≠a:=by rintro rfl;rw[he]at ho2;cases ho2;exact absurd (show Value.type "enumerate" = _ from hc2) (by decide)
  have hlt:i<its.toArray.size:=by have:=(k_.mp hx).1;rw[s_,<-rv.length];exact this
  refine UJ (W9 (A:=X.A.in1) (show X.A.in1.handled=none from I.ok.hd hc) it a hai its.toArray) he ⟨hi,p.isList⟩ hlt hei (by simp[hei,hea]) fun y h' tk hP ho hs' hT hsz hk=>?_;refine⟨_,rfl,Ui ho fun h'' he'' hs''=>?_⟩;obtain⟨u,hu,ru⟩:=rv.get hx;have hy:y=u:=by
   have:its[i]? = some y:=by simpa using hP
   rw[hu]at this;exact(PJ this).symm
  subst hy;have hTe:s.heap.objs.size≠e:=Q7 (x_ he);have hT'':h''.get? s.heap.objs.size=some { cls:=.type "tuple",data:=.seq #[.int i tk,y] }:=(hs''.2 _ hTe).trans hT;refine⟨.ref s.heap.objs.size,upd H s.heap.objs.size (.tup [.int i,x]),vP (s:=s) (h':=h'') (t':=tk+1) (ch:=[e,it]) I hf (fun b ob hb q=>?_) (u_ _) (B3 hT'' ru),rfl,⟨_,x,I.hok.fresh (u_ _),rfl,rfl,fun ys hy=>by rw[I.list_inj hy hq];exact hx⟩,⟨⟨_,by simpa using he''⟩,hs'.1.extBut hs''.extBut (Rs hei)⟩,fun b hb=>?_⟩
  .have hbe:b≠e:=fun z=>hb (by simp[z]);exact(hs''.2 b hbe).trans (hk b ob hbe (fun z=>hb (by simp[z])) q)
  .rw[bf ?_]
   .exact(hf b hb).1
   .rcases q_.mp hb with rfl|hb
    .exact PH (x_ he)
    .rw[y_.mp hb];exact PH (x_ ho1)
 done:=by
  intro X hP hw hK hc i pz s σ H E I hf st hg;subst hP hw hK;obtain⟨xs,hq,hx⟩:=hg;obtain⟨its,rv,p,hz⟩:=I.list hq;obtain⟨⟨old,he⟩,hi⟩:=st;obtain⟨o1,ho1,hc1,hd1⟩:=id hi;obtain⟨o2,ho2,hc2,_⟩:=id p.isList;have hai:a≠it:=by rintro rfl;rw[ho1]at ho2;cases ho2;rw[hc1]at hc2;exact absurd hc2 (by decide)
  obtain⟨f0,f1,f2,f3,f4,f5⟩:=hf it (by simp);have hn:its.toArray.size=i:=by rw[s_,<-rv.length];exact hx
  refine U1 (W9 (A:=X.A.in1) (show X.A.in1.handled=none from I.ok.hd hc) it a hai its.toArray) he ⟨by rw[hn];exact hi,p.isList⟩ fun h' eb=>⟨rfl,I.turned (t':=s.toks) (fun b o hb q=>eb b o hb q) f0 f1 f3 f4 f5⟩
 self:=fun _ _ _ _ _ st h=>let⟨⟨_,he⟩,_⟩:=st;Tc he h
theorem IsTupleIter.at'{h h':Heap}{a t:Addr}{i:Nat}(x:h.IsTupleIter a t i)(hs:∀o,h.get? a=some o->h'.get? a=some o):h'.IsTupleIter a t i:=let⟨o,ho,r⟩:=x;⟨o,hs o ho,r⟩
theorem NZ{P:B_}{w:PP}{K:W.Frag}{elts:List Expr}{k:Nat}{pos:Pos}(a it e:Addr)(hei:e≠it):Turn P w K (.Tuple elts k pos) (kJ fun H xs=>bO K H a xs) [e,it] e (fun i h=>(∃old,IsEnum h e it i old)/\h.IsTupleIter it a i) where
 mem:=by simp
 obj:=fun i h st b hb=>by
  obtain⟨⟨old,he⟩,o,ho,hc,hd⟩:=st;rcases q_.mp hb with rfl|hb
  .exact⟨_,he,fun v z=>by have z':Data.fields _=Data.cell v:=z;cases z'⟩
  .rw[y_.mp hb];exact⟨o,ho,fun v z=>by rw[hd]at z;cases z⟩
 keep:=fun i h h' st kk=>by obtain⟨⟨old,he⟩,hi⟩:=st;exact⟨⟨old,kk e (by simp) _ he⟩,IsTupleIter.at' hi fun o q=>kk it (by simp) o q⟩
 item:=by
  intro X hP hw hK hc i pz s σ H E I hf st hg;subst hP hw hK;obtain⟨xs,x,hq,hx⟩:=hg;obtain⟨its,rv,p,hz⟩:=I.tuple hq;obtain⟨⟨old,he⟩,hi⟩:=st;obtain⟨o1,ho1,hc1,hd1⟩:=id hi;obtain⟨o2,ho2,hc2,_⟩:=id p;have hai:a≠it:=by rintro rfl;rw[ho1]at ho2;cases ho2;rw[hc1]at hc2;exact absurd hc2 (by decide)
  have hea:e≠a:=by rintro rfl;rw[he]at ho2;cases ho2;exact absurd (show Value.type "enumerate" = _ from hc2) (by decide)
  have hlt:i<its.toArray.size:=by have:=(k_.mp hx).1;rw[s_,<-rv.length];exact this
  refine UJ (sP (A:=X.A.in1) (show X.A.in1.handled=none from I.ok.hd hc) it a hai its.toArray) he ⟨hi,p⟩ hlt hei (by simp[hei,hea]) fun y h' tk hP ho hs' hT hsz hk=>?_;refine⟨_,rfl,Ui ho fun h'' he'' hs''=>?_⟩;obtain⟨u,hu,ru⟩:=rv.get hx;have hy:y=u:=by
   have:its[i]? = some y:=by simpa using hP
   rw[hu]at this;exact(PJ this).symm
  subst hy;have hTe:s.heap.objs.size≠e:=Q7 (x_ he);have hT'':h''.get? s.heap.objs.size=some { cls:=.type "tuple",data:=.seq #[.int i tk,y] }:=(hs''.2 _ hTe).trans hT;refine⟨.ref s.heap.objs.size,upd H s.heap.objs.size (.tup [.int i,x]),vP (s:=s) (h':=h'') (t':=tk+1) (ch:=[e,it]) I hf (fun b ob hb q=>?_) (u_ _) (B3 hT'' ru),rfl,⟨_,x,I.hok.fresh (u_ _),rfl,rfl,fun ys hy=>by rw[I.tuple_inj hy hq];exact hx⟩,⟨⟨_,by simpa using he''⟩,hs'.1.extBut hs''.extBut (Rs hei)⟩,fun b hb=>?_⟩
  .have hbe:b≠e:=fun z=>hb (by simp[z]);exact(hs''.2 b hbe).trans (hk b ob hbe (fun z=>hb (by simp[z])) q)
  .rw[bf ?_]
   .exact(hf b hb).1
   .rcases q_.mp hb with rfl|hb
    .exact PH (x_ he)
    .rw[y_.mp hb];exact PH (x_ ho1)
 done:=by
  intro X hP hw hK hc i pz s σ H E I hf st hg;subst hP hw hK;obtain⟨xs,hq,hx⟩:=hg;obtain⟨its,rv,p,hz⟩:=I.tuple hq;obtain⟨⟨old,he⟩,hi⟩:=st;obtain⟨o1,ho1,hc1,hd1⟩:=id hi;obtain⟨o2,ho2,hc2,_⟩:=id p;have hai:a≠it:=by rintro rfl;rw[ho1]at ho2;cases ho2;rw[hc1]at hc2;exact absurd hc2 (by decide)
  obtain⟨f0,f1,f2,f3,f4,f5⟩:=hf it (by simp);have hn:its.toArray.size=i:=by rw[s_,<-rv.length];exact hx
  refine U1 (sP (A:=X.A.in1) (show X.A.in1.handled=none from I.ok.hd hc) it a hai its.toArray) he ⟨by rw[hn];exact hi,p⟩ fun h' eb=>⟨rfl,I.turned (t':=s.toks) (fun b o hb q=>eb b o hb q) f0 f1 f3 f4 f5⟩
 self:=fun _ _ _ _ _ st h=>let⟨⟨_,he⟩,_⟩:=st;Tc he h
end
def jH:D->Option String
|.non=>some "NoneType"
|.bl _=>some "bool"
|.int _=>some "int"
|.str _=>some "str"
|.tup _=>some "tuple"
|.lst _=>some "list"
|.dic _=>some "dict"
|.obj _ _=>none
def dG(t T:String):Bool:=t==T || (t == "bool" && T == "int")
def c7(T:String)(d:D):Option D:=(jH d).map fun t=>.bl (dG t T)
def Fs(K:W.Frag)(x:V)(H:Hp)(t:String):Prop:=match x with
|.non=>t = "NoneType"
|.bl _=>t = "bool"
|.int _=>t = "int"
|.str _=>t = "str"
|.ref p=>(t = "list"/\∃xs,aV K H p xs)\/(t = "tuple"/\∃xs,bO K H p xs)\/(t = "dict"/\∃kvs,Rd H p (.dK kvs))
|_=>False
theorem IU{K:W.Frag}{G:GH}{H:Hp}{v:V}{d:D}{t:String}(gk:aM K G H)(h:RB K G H v d)(e:jH d=some t):Fs K v H t:=by cases d with
|non=>cases e;rw[h.non gk];rfl
|bl b=>cases e;rw[h.bl gk];rfl
|int i=>cases e;rw[h.int gk];rfl
|str x=>cases e;rw[h.str gk];rfl
|tup ds=>cases e;obtain⟨a,xs,rfl,s,r⟩:=h.tup gk;exact .inr (.inl ⟨rfl,xs,s⟩)
|lst ds=>cases e;obtain⟨a,xs,rfl,s,r⟩:=h.lst gk;exact .inl ⟨rfl,xs,s⟩
|dic ds=>cases e;obtain⟨a,xs,rfl,s,r⟩:=h.dic gk;exact .inr (.inr ⟨rfl,xs,s⟩)
|obj _ _=>cases e
section
variable{X:Cx}{g:GE}{m:List Md}{e a:Expr}{f:FE}{pos p p2:Pos}
theorem La:d5 X (.builtin "isinstance") (fun xs H Q=>∃x t T b,xs=[x,.ty T]/\Fs X.K x H t/\W.kitOne X.K (.type t) (.type T)=some b/\Q (.bl b) H):=by
 intro pz s σ H xs us Q I r h;obtain⟨x,t,T,b,rfl,ty,e,q⟩:=h;obtain⟨u,w',rfl,rx,ry⟩:=Ah r;cases ry;have fin:∀tk,EP X pz σ Q (.bool b) { s with toks:=tk }:=fun tk=>⟨.bl b,H,I.tok tk,rfl,q⟩
 cases x with
|non=>cases rx;cases(show t = "NoneType" from ty);exact W.kia_one W.kitx_none I.kIn True.intro e (fun z=>nomatch z) fin
|bl y=>cases rx;cases(show t = "bool" from ty);exact W.kia_one W.kitx_bool I.kIn True.intro e (fun z=>nomatch z) fin
|int i=>obtain⟨t,rfl⟩:=rx;cases ty;exact W.kia_one W.kitx_int I.kIn True.intro e (fun z=>nomatch z) fin
|str i=>obtain⟨t,rfl⟩:=rx;cases ty;exact W.kia_one W.kitx_str I.kIn True.intro e (fun z=>nomatch z) fin
|ref p=>
  cases rx;rcases ty with⟨rfl,xs,hq⟩|⟨rfl,xs,hq⟩|⟨rfl,kvs,hq⟩
  .obtain⟨its,_,pl,_⟩:=I.list hq;obtain⟨o,ho,hc,_⟩:=pl.isList;exact W.kia_one W.kitx_list I.kIn ⟨o,ho,hc⟩ e (fun z=>nomatch z) fin
  .obtain⟨its,_,pl,_⟩:=I.tuple hq;obtain⟨o,ho,hc,_⟩:=pl;exact W.kia_one W.kitx_tuple I.kIn ⟨o,ho,hc⟩ e (fun z=>nomatch z) fin
  .obtain⟨_,_,vs,_,pp⟩:=(show bZ X.prog X.w H s.heap p (.dK kvs)from hq.ok I.hok)
   obtain⟨o,es,ep,h1,h2,_⟩:=pp;exact W.kia_one W.kitx_dict I.kIn ⟨o,h1,h2.1⟩ e (fun z=>nomatch z) fin
|_=>exact(show False from ty).elim
theorem iT(x:Str)(T:String)(hv:Sf x=some (.type T))(hk:∀(d:D)(t:String),jH d=some t->W.kitOne X.K (.type t) (.type T)=some (dG t T))(hg:Gl X "isinstance")(hm:X.mg "isinstance" = none)(hgT:Gl X x)(hmT:X.mg x=none)(he:SB X g m e f)(hn:x≠"__name__" := by decide)(hd:(x==("__debug__" : Str))=false:=by decide)(hs1:l_ [e,.Name x p2] X.env=(false,eval e X.env)::l_ [.Name x p2] X.env:=by rfl)(hs2:l_ [.Name x p2] X.env=(false,eval (.Name x p2) X.env)::l_ [] X.env:=by rfl)(hpl:(backTo pos (l_ [.Name x p2] X.env)).any (·.1)=false:=by rfl):SE X g m (.Call (.Name "isinstance" p) [e,.Name x p2] [] pos) (f1 f (c7 T)):=by
 refine PE.imp (my La hg hm (by first|exact WH|rfl) (dS he (dS (JY (v:=.ty T) hgT hmT hv rfl hn hd) iz hs2) hs1) (by decide) (by decide) hs1 hpl) fun σ H Q ⟨r,G,si,q⟩=>⟨r,G,si,aP (aS q) fun d q1 v G1 H1 w1 r1=>?_⟩
 obtain⟨d',e',q2⟩:=cn q1;unfold c7 at e';cases et:jH d with
|none=>rw[et]at e';cases e'
|some t=>rw[et]at e';cases e';exact⟨v,t,T,_,rfl,IU w1.ok r1 et,hk d t et,q2 _ G1 H1 w1 (.scl (.bl _))⟩
end
theorem qH{d:D}{t:String}(h:jH d=some t){P:String->Prop}(h1:P "NoneType")(h2:P "bool")(h3:P "int")(h4:P "str")(h5:P "tuple")(h6:P "list")(h7:P "dict"):P t:=by cases d <;> cases h <;> assumption
theorem tU(K:W.Frag)(d:D)(t:String)(h:jH d=some t):W.kitOne K (.type t) (.type "int")=some (dG t "int"):=qH (P:=fun t=>W.kitOne K (.type t) (.type "int")=some (dG t "int")) h (by kernel_rfl) (by kernel_rfl) (by kernel_rfl) (by kernel_rfl) (by kernel_rfl) (by kernel_rfl) (by kernel_rfl)
theorem vQ(K:W.Frag)(d:D)(t:String)(h:jH d=some t):W.kitOne K (.type t) (.type "bool")=some (dG t "bool"):=qH (P:=fun t=>W.kitOne K (.type t) (.type "bool")=some (dG t "bool")) h (by kernel_rfl) (by kernel_rfl) (by kernel_rfl) (by kernel_rfl) (by kernel_rfl) (by kernel_rfl) (by kernel_rfl)
theorem Mt(K:W.Frag)(d:D)(t:String)(h:jH d=some t):W.kitOne K (.type t) (.type "list")=some (dG t "list"):=qH (P:=fun t=>W.kitOne K (.type t) (.type "list")=some (dG t "list")) h (by kernel_rfl) (by kernel_rfl) (by kernel_rfl) (by kernel_rfl) (by kernel_rfl) (by kernel_rfl) (by kernel_rfl)
theorem vW(K:W.Frag)(d:D)(t:String)(h:jH d=some t):W.kitOne K (.type t) (.type "tuple")=some (dG t "tuple"):=qH (P:=fun t=>W.kitOne K (.type t) (.type "tuple")=some (dG t "tuple")) h (by kernel_rfl) (by kernel_rfl) (by kernel_rfl) (by kernel_rfl) (by kernel_rfl) (by kernel_rfl) (by kernel_rfl)
section
variable{X:Cx}{g:GE}{m:List Md}{e a b:Expr}{f fa:FE}{pos p pos2 p2:Pos}{es:List Expr}{fl:ak->Res (List D)}
def dI(lo:Int)(n:Nat):List V:=(a_ n).map fun(i:Nat)=>V.int (lo+(i:Int))
theorem JC{K:W.Frag}{G:GH}(lo:Int)(n:Nat):bA K G (dI lo n) (cZ lo n):=by
 unfold dI cZ
 induction(a_ n)with
|nil=>exact .nil
|cons i l ih=>exact .cons (.scl (.int _)) ih
theorem EJ:∀{xs:List V}{us:List b_},xs.length=us.length->(∀(j:Nat) v u,xs[j]? = some v->us[j]? = some u->L2.ar v u)->al xs us
|[],[],_,_=>.nil
|v::xs,u::us,hl,h=>.cons (h 0 v u rfl rfl) (EJ (by simpa using hl) fun j a b e1 e2=>h (j+1) a b (by simpa using e1) (by simpa using e2))
|[],_::_,hl,_=>by simp at hl
|_::_,[],hl,_=>by simp at hl
theorem LI{lo:Int}{n:Nat}{acc:Array b_}(h:ItemsOf (fun i v=>∃t,v=.int (lo+i*1) t) acc n):al (dI lo n) acc.toList:=by
 refine EJ (by simp[dI,h.1]) fun j v u e1 e2=>?_;have hj:j<n:=by have:=(k_.mp e1).1;simpa[dI]using this
 unfold dI at e1;rw[n_,PM hj]at e1;cases e1;obtain⟨t,rfl⟩:=h.2 j u (by rw[<-Q1];exact e2);exact⟨t,by simp⟩
theorem ME:d5 X (.type "range") (fun xs H Q=>∃j,xs=[.int j]/\∀p,H p=none->Q (.ref p) (upd H p (.rng 0 j))):=by intro pz s σ H xs us Q I r h;obtain⟨j,rfl,q⟩:=h;obtain⟨u,rfl,t,rfl⟩:=bI r;refine call_range_1 ⟨.ref s.heap.objs.size,_,I.laid (o:=.rng 0 j) (fun b o e=>e_ _ e) (u_ _) ⟨_,_,_,w_ _ rfl⟩,rfl,q _ (I.hok.fresh (u_ _))⟩
theorem OI(hc:X.calm=true):d5 X (.type "list") (fun xs H Q=>∃p lo hi,xs=[.ref p]/\H p=some (.rng lo hi)/\(-(2^62)<=lo/\lo<2^62/\-(2^62)<=hi/\hi<2^62)/\(hi-lo).toNat<=sizeLine/\∀l,H l=none->Q (.ref l) (upd H l (.lst (dI lo (hi-lo).toNat)))):=by
 intro pz s σ H xs us Q I r h;obtain⟨p,lo,hi,rfl,hp,⟨h1,h2,h3,h4⟩,hz,q⟩:=h;obtain⟨u,rfl,rx⟩:=bI r;cases rx;obtain⟨t,u,v,ho⟩:=(show bZ X.prog X.w H s.heap p (.rng lo hi)from I.hok p _ hp)
 have e2:UG lo hi 1=(((hi-lo).toNat:Nat):Int):=by rw[rangeSize_one];split <;> omega
 refine call_list_range (I.ok.hd hc) (r:=p) (a:=lo) (b:=hi) (c:=1) ho (small_one h1 h2 h3 h4) e2 (by rw[Qf]at hz;omega) fun h' tk acc c' kp hS hacc=>?_;refine⟨.ref s.heap.objs.size,_,I.laid (t':=tk) kp (u_ _) (show bZ X.prog X.w _ h' _ (.lst (dI lo (hi-lo).toNat))from⟨by unfold dI;rw[m_,Qw];exact hz,acc.toList,c',LI hacc,by rw[Array.toArray_toList];exact hS⟩),rfl,q _ (I.hok.fresh (u_ _))⟩
def l8:List D->Option D
|[.int j]=>if-(2^62)<=j/\j<2^62/\j.toNat<=sizeLine then some (.lst (cZ 0 j.toNat))else none
|_=>none
theorem GQ{H:Hp}{p l:Addr}{o:HO}(h:upd H p o l=none):H l=none/\l≠p:=by
 by_cases e:l=p
 .subst e;rw[ce]at h;cases h
 .rw[bf e]at h;exact⟨h,e⟩
theorem Ck(hc:X.calm=true)(hgl:Gl X "list")(hml:X.mg "list" = none)(hg:Gl X "range")(hm:X.mg "range" = none)(ha:g6 X g m [a] fl)(hs:l_ [a] X.env=(false,eval a X.env)::l_ [] X.env:=by rfl)(hs2:l_ [.Call (.Name "range" p2) [a] [] pos2] X.env=(false,eval (.Call (.Name "range" p2) [a] [] pos2) X.env)::l_ [] X.env:=by rfl):SO X g m (.Call (.Name "list" p) [.Call (.Name "range" p2) [a] [] pos2] [] pos) (fC fl l8):=by
 refine PE.imp (om (OI hc) hgl hml rfl (dS (om ME hg hm boot_range ha (by decide) (by decide) hs rfl) iz hs2) (by decide) (by decide) hs2 rfl) fun σ H Q ⟨r,G,si,q⟩=>⟨r,G,si,aP (aS q) fun ds q1 vs G1 H1 w1 rs=>?_⟩
 obtain⟨d,e,q2⟩:=cn q1;unfold l8 at e;split at e
 .split at e
  .rename_i j hj;cases e;cases rs with
  |cons r1 t=>cases t;refine⟨j,by rw[r1.int w1.ok],fun p hp=>⟨p,0,j,rfl,ce,⟨by decide,by decide,hj.1,hj.2.1⟩,by simpa using hj.2.2,fun l hl=>?_⟩⟩;obtain⟨hl1,hl2⟩:=GQ hl;have w2:=Grow.new w1.ok hp (.rng 0 j);have w3:=Grow.new w2.ok hl (.lst (dI 0 (j-0).toNat));refine q2 l G1 _ (w1.trans (w2.trans w3)) (w1.back hl1) ⟨w1.ok.isN hl1,.lst ce ?_⟩;rw[show j-0=j by omega];exact JC 0 _
  .cases e
 .cases e
end
def Fx(K:W.Frag)(r:V->List V->Hp->VK->Prop)(k:D->List D->Option D):Prop:=∀(G:GH)(H:Hp)(v:V)(d:D)(vs:List V)(ds:List D)(d':D)(Q:VK),aM K G H->RB K G H v d->Paired (RB K G H) vs ds->k d ds=some d' ->(∀v' G' H',Grow K G H G' H'->RG K G' v' d'->Q v' H')->r v vs H Q
def rY(T:String):D->Bool
|.lst _=>T == "list"
|.tup _=>T == "tuple"
|.dic _=>T == "dict"
|.str _=>T == "str"
|.int _=>T == "int"
|_=>false
theorem IV{K:W.Frag}{G:GH}{H:Hp}{v:V}{d:D}{T:String}(gk:aM K G H)(h:RB K G H v d)(t:rY T d=true):oN K T v H:=by cases d with
|lst ds=>obtain⟨a,xs,rfl,s,r⟩:=h.lst gk;exact .inl ⟨RF t,xs,s⟩
|tup ds=>
  have e:T = "tuple" := RF t;rcases h with h|⟨a,rfl,o⟩
  .cases h with
  |scl s=>cases s
  |ref q=>cases gk _ _ q with
   |tup r s=>exact .inr (.inl ⟨e,.inr ⟨_,r⟩⟩)
  |kc k=>cases k with
   |tup r s z=>exact .inr (.inl ⟨e,.inl z⟩)
  .cases o.ob
|dic ds=>obtain⟨a,xs,rfl,s,r⟩:=h.dic gk;exact .inr (.inr (.inl ⟨RF t,.inl ⟨xs,s⟩⟩))
|str x=>rw[h.str gk];exact RF t
|int x=>rw[h.int gk];exact RF t
|_=>cases t
def fM(T:String)(fo:FE)(fl:ak->Res (List D))(k:D->List D->Option D):FE:=fun r=>(fo r).bind fun d=>if rY T d=true then(fl r).bind fun ds=>bS (k d ds)else .stuck
section
variable{X:Cx}{g:GE}{m mb:List Md}{e a b o:Expr}{es:List Expr}{f fa fb fo:FE}{fl:ak->Res (List D)}{pos pos' apos cpos:Pos}{ro:Bool}{x name:Str}{T id:String}{R:V->List V->Hp->VK->Prop}{k:D->List D->Option D}
theorem lw(pa:W2 T)(slot:Slot T name id)(hty:typeOf (.builtin id)=pure (.type "method_descriptor"))(hmt:jh X id R)(hk:Fx X.K R k)(ho:SB X g m o fo)(ha:g6 X g m (e::es) fl)(hbase:Tw o name X.env (eval o X.env)=eval o X.env:=by rfl)(hfew:((backTo cpos (l_ (e::es) X.env)).all (fun x=>! x.1)&&(Wc cpos (Uq [] X.env)).all (fun x=>x.1.isSome)&&decide ((e::es).length+([]:List Tv).length+(if ([]:List Tv).isEmpty then 0 else 1)<30))=true:=by rfl)(hline:(apos.endLine==cpos.line)=true:=by rfl)(hst:l_ (e::es) X.env=(false,eval e X.env)::l_ es X.env:=by rfl)(hplain:(backTo cpos (l_ es X.env)).any (·.1)=false:=by rfl):SE X g m (.Call (.Attribute o name apos) (e::es) [] cpos) (fM T fo fl k):=by
 refine PE.imp (zV pa slot hty hmt ho ha hbase hfew hline hst hplain) fun σ H Q ⟨r,G,si,q⟩=>⟨r,G,si,aP (aS q) fun d q1 v G1 H1 w1 r1=>?_⟩
 by_cases ht:rY T d=true
 .rw[if_pos ht]at q1;refine⟨IV w1.ok r1 ht,r,G1,si.grow w1,eS (aS q1) w1 fun ds q2 vs G2 H2 w2 rs=>?_⟩;obtain⟨d',e',q3⟩:=cn q2;exact hk G2 H2 v d vs ds d' Q w2.ok (r1.mono w2) rs e' fun v' G' H' w' z=>q3 v' G' H' ((w1.trans w2).trans w') z
 .rw[if_neg ht]at q1;exact q1.elim
def kO(x:V):List V->Option Nat
|[]=>none
|y::xs=>if fw y x=true then some 0 else(kO x xs).map (· + 1)
def ka(x:D):List D->Option Nat
|[]=>none
|y::xs=>if eqs y x=true then some 0 else(ka x xs).map (· + 1)
theorem CO(x:D):∀ds:List D,kO (d9 x) (ds.map d9)=ka x ds
|[]=>rfl
|y::ds=>by show(if fw (d9 y) (d9 x)=true then some 0 else(kO (d9 x) (ds.map d9)).map (· + 1))=if eqs y x=true then some 0 else(ka x ds).map (· + 1);rw[CO x ds];rfl
theorem Lm{x:V}{xs:List V}{us:List b_}{j:Nat}(h0:al xs us)(f:xs.all fT=true)(h:kO x xs=some j):∃hj:j<us.length,c8 x us[j]=true/\∀i (hi:i<us.length),i<j->c8 x us[i]=false:=by induction h0 generalizing j with
|nil=>cases h
|@cons y u xs us r t ih=>
  rw[Ru,PR]at f;unfold kO at h;by_cases hy:fw y x=true
  .rw[if_pos hy]at h;cases h;exact⟨Nat.zero_lt_succ _,by show c8 x u=true;rw[nI r f.1];exact hy,fun i _ hlt=>absurd hlt (Nat.not_lt_zero _)⟩
  .rw[if_neg hy]at h;cases e:kO x xs with
  |none=>rw[e]at h;cases h
  |some z=>rw[e]at h;cases h;obtain⟨a,b,c⟩:=ih f.2 e;refine⟨Nat.succ_lt_succ a,b,fun i hi hlt=>?_⟩;cases i with
   |zero=>show c8 x u=false;rw[nI r f.1];simpa using hy
   |succ i=>exact c i (U2 hi) (U2 hlt)
def ke(xs:List V):Bool:=xs.all fun x=>match x with|.int _=>true|_=>false
theorem Om{xs:List V}(h:ke xs=true):xs.all fT=true:=by unfold ke at h;rw[Qs]at h ⊢;intro x hx;have:=h x hx;cases x <;> first|rfl|exact absurd this j_
theorem Dh{k:Int}{t:Tok}:∀{xs:List V}{us:List b_},al xs us->ke xs=true->∀u∈us,Wq u (.int k t) (c8 (.int k) u)
|_,_,.nil,_=>fun u hu=>by cases hu
|y::xs,u::us,.cons r rt,f=>fun u' hu=>by unfold ke at f;rw[Ru,PR]at f;cases y with
 |int i=>
   obtain⟨t',rfl⟩:=r;rcases q_.mp hu with rfl|hu
   .exact MeetsSeq.EqGives.int i k t' t
   .exact Dh rt f.2 u' hu
 |_=>exact absurd f.1 j_
def zZ:V->List V->Hp->VK->Prop:=fun x vs H Q=>∃l xs k j,x=.ref l/\vs=[.int k]/\H l=some (.lst xs)/\ke xs=true/\kO (.int k) xs=some j/\Q .non (upd H l (.lst (xs.eraseIdx j)))
theorem Nc:jh X "list.remove" zZ:=by
 intro pz s σ H x vs v us Q I rx rv h;obtain⟨l,xs,k,j,rfl,rfl,hH,hi,e,q⟩:=h;cases rx;obtain⟨u,rfl,t,rfl⟩:=bI rv;obtain⟨hz,its,n,r,hl,eo⟩:=I.lstM hH;obtain⟨a,b,c⟩:=Lm r (Om hi) e;have geq:∀y,y∈its.toArray->Wq y (.int k t) (c8 (.int k) y):=fun y hy=>Dh r hi y (by simpa using hy);have hsz:its.toArray.size<=sizeLine:=by rw[s_];omega
 refine Ug Uz ⟨_,eo,rfl⟩ PySem.F.entry_list_remove (PySem.F.args_list_remove_2 _ _) (MeetsSeq.list_remove l its.toArray n (.int k t) (c8 (.int k)) geq j (by simpa using a) (by simpa using b) (fun i hi hlt=>by simpa using c i (by simpa using hi) hlt) hsz) ⟨eo,?_⟩;refine⟨.non,_,I.lset (its':=its.eraseIdx j) hH eo ?_ ?_ ?_,rfl,q⟩
 .apply Array.toList_inj.mp;simp[Array.toList_eraseIdxIfInBounds]
 .exact al.eraseIdx j r
 .have:=List.length_eraseIdx_le xs j;omega
def isInt:D->Bool
|.int _=>true
|_=>false
theorem G6{K:W.Frag}{G:GH}{H:Hp}{xs:List V}{ds:List D}(h:bA K G xs ds)(gk:aM K G H)(hf:ds.all isInt=true):ke xs=true/\xs=ds.map d9:=by induction h with
|nil=>exact⟨rfl,rfl⟩
|@cons x d xs ds r t ih=>rw[Ru,PR]at hf;obtain⟨h1,h2⟩:=ih hf.2;cases d with
 |int i=>have e:=r.int gk;subst e;refine⟨?_,by rw[p_,<-h2];rfl⟩;show ke _=true;unfold ke at h1 ⊢;rw[Ru,h1];rfl
 |_=>exact absurd hf.1 j_
def remD:D->List D->Option D
|.lst ds,[.int k]=>if ds.all isInt=true then(ka (.int k) ds).map fun j=>.lst (ds.eraseIdx j)else none
|_,_=>none
theorem Jz{K:W.Frag}:iR K zZ remD:=by
 intro G H a d vs ds d' Q gk ow rs e q;unfold remD at e;split at e
 .split at e
  .rename_i zs k hall;cases ef:ka (.int k) zs with
  |none=>rw[ef]at e;cases e
  |some j=>rw[ef]at e;cases e;cases ow.ob with
   |lst r s=>cases rs with
    |cons r1 t=>cases t;obtain⟨h1,h2⟩:=G6 s gk hall;refine⟨a,_,k,j,rfl,by rw[r1.int gk],r,h1,?_,q _ (.lst ce (Paired.er j s))⟩;rw[h2];exact(CO (.int k) zs).trans ef
  .cases e
 .cases e
def Hw:D->Option D
|.dic kvs=>some (.lst (kvs.map (·.2)))
|_=>none
end
def cb:Nat->List D->List D
|_,[]=>[]
|i,d::ds=>.tup [.int i,d]::cb (i+1) ds
theorem nY:∀(i:Nat)(ds:List D),(cb i ds).length=ds.length
|_,[]=>rfl
|i,d::ds=>congrArg (· + 1) (nY (i+1) ds)
theorem nX:∀(i j:Nat)(ds:List D),(cb i ds)[j]? = (ds[j]?).map fun d=>D.tup [.int ((i+j:Nat):Int),d]
|_,_,[]=>by simp[cb]
|i,0,d::ds=>by simp[cb]
|i,j+1,d::ds=>by show(cb (i+1) ds)[j]? = _;rw[nX (i+1) j ds];simp only[SJ];rw[show i+1+j=i+(j+1)by omega]
theorem Ct{K:W.Frag}{ds:List D}{G0:GH}{sq:Hp->List V->Prop}(h:∀G H,aH G0 G->aM K G H->∃xs,sq H xs/\bA K G xs ds):Yields K (kJ sq) (cb 0 ds) G0:=by
 refine⟨fun G H i w gk hi=>?_,fun G H i x H' d w gk y e=>?_,fun G H w gk=>?_⟩
 .obtain⟨xs,s,r⟩:=h G H w gk;rw[nY]at hi;have hl:=Paired.length r;exact⟨xs,xs[i],s,i_ (by omega)⟩
 .obtain⟨xs,s,r⟩:=h G H w gk;obtain⟨p,v,hp,rfl,rfl,hv⟩:=y;rw[nX]at e;cases ed:ds[i]? with
 |none=>rw[ed]at e;cases e
 |some d0=>rw[ed]at e;simp only[QY,SV,QJ]at e;subst e;obtain⟨v',e1,rv⟩:=Paired.get r ed;have:=hv xs s;rw[e1]at this;cases this;exact⟨_,Grow.newF gk hp (.tup (.inl ce) (.cons (.scl (.int _)) (.cons rv .nil))),.ref cM⟩
 .obtain⟨xs,s,r⟩:=h G H w gk;rw[nY];exact⟨xs,s,Paired.length r⟩
def dy(f:FE):FI:=fun r=>(f r).bind fun d=>(bS (bJ d)).bind fun ds=>.ok (cb 0 ds)
section
variable{X:Cx}{g:GE}{m:List Md}{e a:Expr}{f:FE}{pos p pos2:Pos}{elts:List Expr}{kk:Nat}
theorem B7{te:TE}(hg:Gl X "enumerate")(hm:X.mg "enumerate" = none)(he:PE X e te)(hs:l_ [e] X.env=(false,eval e X.env)::l_ [] X.env:=by rfl):PI X (.Tuple elts kk pos2) (.Call (.Name "enumerate" p) [e] [] pos) (fun σ H R=>te σ H fun x H1=>(∃a,x=.ref a/\(∃xs,aV X.K H1 a xs)/\R (kJ fun H xs=>aV X.K H a xs) H1)\/∃a,x=.ref a/\(∃xs,bO X.K H1 a xs)/\R (kJ fun H xs=>bO X.K H a xs) H1):=by
 intro pz s σ H R I h;refine Call_ (kg I hg hm boot_enumerate (QK (aL (dS he iz hs pos pz s σ H (fun vs H1=>match vs with
 |[x]=>(∃a,x=.ref a/\(∃xs,aV X.K H1 a xs)/\R (kJ fun H xs=>aV X.K H a xs) H1)\/∃a,x=.ref a/\(∃xs,bO X.K H1 a xs)/\R (kJ fun H xs=>bO X.K H a xs) H1
 |_=>False) I h) fun us s1 ⟨vs,H1,I1,r1,q1⟩=>?_) hs rfl))
 .cases r1 with
 |nil=>exact q1.elim
 |@cons x u xs us rx rt=>cases rt with
 |cons _ _=>exact q1.elim
 |nil=>
  have fin:∀{h':Heap},h'.objs.size=s1.heap.objs.size+2->(∀b o,s1.heap.get? b=some o->h'.get? b=some o)->∀b∈[s1.heap.objs.size+1,s1.heap.objs.size],cS X pz H1 b:=fun hz kp b hb=>by
   have hge:s1.heap.objs.size<=b:=by
    rcases q_.mp hb with rfl|hb
    .exact WB _
    .rw[y_.mp hb];exact u_ _
   exact I1.fpOk hge (I1.hok.fresh hge)
  rcases q1 with⟨a,rfl,⟨xs,hq⟩,q⟩|⟨a,rfl,⟨xs,hq⟩,q⟩
  .cases rx;obtain⟨its,rv,pl,hz⟩:=I1.list hq;refine call_enumerate_list pl.isList fun h' he hi hsz kp=>Tc he ?_;exact⟨_,[s1.heap.objs.size+1,s1.heap.objs.size],_,_,H1,rfl,I1.kept (t':=s1.toks) kp,NY a _ _ (Q7 (Rv _)),⟨⟨_,he⟩,hi⟩,fin hsz kp,q⟩
  .cases rx;obtain⟨its,rv,pl,hz⟩:=I1.tuple hq;refine OO (show s1.heap.IsTuple a its.toArray from pl) fun h' he hi hsz kp=>Tc he ?_;exact⟨_,[s1.heap.objs.size+1,s1.heap.objs.size],_,_,H1,rfl,I1.kept (t':=s1.toks) kp,NZ a _ _ (Q7 (Rv _)),⟨⟨_,he⟩,hi⟩,fin hsz kp,q⟩
theorem pQ(hg:Gl X "enumerate")(hm:X.mg "enumerate" = none)(he:SE X g m e f)(hs:l_ [e] X.env=(false,eval e X.env)::l_ [] X.env:=by rfl):dZ X g m (.Tuple elts kk pos2) (.Call (.Name "enumerate" p) [e] [] pos) (dy f):=by
 refine PI.imp (B7 hg hm he hs) fun σ H R ⟨r,G,si,q⟩=>⟨r,G,si,aP (aS q) fun d q v G' H' w rv=>?_⟩
 obtain⟨ds,e,q⟩:=cn (aS q);cases d with
|lst ds'=>cases e;obtain⟨a,xs,rfl,s,rs⟩:=rv.lst w.ok;refine .inl ⟨a,rfl,⟨xs,s⟩,q _ G' H' w (Ct fun G H le gk=>?_)⟩;obtain⟨b,ys,e,s',r'⟩:=(rv.mono le).lst gk;cases e;exact⟨ys,s',r'⟩
|tup ds'=>cases e;obtain⟨a,xs,rfl,s,rs⟩:=rv.tup w.ok;refine .inr ⟨a,rfl,⟨xs,s⟩,q _ G' H' w (Ct fun G H le gk=>?_)⟩;obtain⟨b,ys,e,s',r'⟩:=(rv.mono le).tup gk;cases e;exact⟨ys,s',r'⟩
|_=>cases e
end
inductive TupI(h:Heap):b_->List Int->Prop where
 |mk {a:Addr} {items:Array b_} {ns:List Int}:XU h a items->T9 items.toList ns->TupI h (.ref a) ns
inductive TupsI(h:Heap):List b_->List (List Int)->Prop where
 |nil:TupsI h [] []
 |cons {p:b_} {k:List Int} {ps:List b_} {ks:List (List Int)}:TupI h p k->TupsI h ps ks->TupsI h (p::ps) (k::ks)
theorem TupsI.length{h:Heap}:∀{ps:List b_}{ks:List (List Int)},TupsI h ps ks->ps.length=ks.length
|_,_,.nil=>rfl
|_,_,.cons _ t=>congrArg (· + 1) t.length
section
variable{prog:B_}{w:PP}{A:P8}{s:h_}
inductive TupR(h:Heap):b_->List (List Int)->Prop where
 |mk {a:Addr} {items:List b_} {ks:List (List Int)}:XU h a items.toArray->TupsI h items ks->ks≠[]->TupR h (.ref a) ks
end
def fU(ns:List Int):List Int:=ns.foldl VU []
theorem Oo(ns:List Int):Vn (fun i=>ns.getD i 0) ns.length=fU ns:=by unfold Vn fU;congr 1;refine List.ext_getElem (by simp) fun i h1 h2=>?_;simp[E_,h2]
def eY:List D->Option (List Int)
|[]=>some []
|.int i::ds=>(eY ds).map (i::·)
|_=>none
theorem vK{K:W.Frag}{G:GH}{H:Hp}(gk:aM K G H){ds:List D}{xs:List V}{ns:List Int}(h:bA K G xs ds)(e:eY ds=some ns):xs=ns.map V.int:=by induction h generalizing ns with
|nil=>cases e;rfl
|@cons x d xs ds r t ih=>cases d with
 |int i=>have e':(eY ds).map (i::·)=some ns:=e;cases q:eY ds with
  |none=>rw[q]at e';cases e'
  |some ms=>rw[q]at e';cases e';rw[r.int gk,ih q];rfl
 |_=>cases e
section
variable{X:Cx}{g:GE}{m:List Md}{e a:Expr}{f:FE}{pos p pos2 p2:Pos}
theorem MF(hc:X.calm=true):d5 X (.type "set") (fun xs H Q=>∃p ns,xs=[.ref p]/\(aV X.K H p (ns.map V.int)\/bO X.K H p (ns.map V.int))/\ns.length+1<RQ/\∀l,H l=none->Q (.ref l) (upd H l (.set (fun k=>(fU ns).any (· == k)) (fU ns).length))):=by
 intro pz s σ H xs us Q I r h;obtain⟨p,ns,rfl,hq,hb,q⟩:=h;obtain⟨u,rfl,rx⟩:=bI r;cases rx;have fin:∀(its:List b_)(h':Heap)(tk:Nat),its.length=ns.length->h'.SetOf (V5 X.prog X.w) s.heap.objs.size (fun k=>(Vn (fun i=>ns.getD i 0) its.toArray.size).any (· == k)) (Vn (fun i=>ns.getD i 0) its.toArray.size).length ->(∀b o,b<s.heap.objs.size->s.heap.get? b=some o->h'.get? b=some o)->EP X pz σ Q (.ref s.heap.objs.size) { s with heap:=h',toks:=tk }:=fun its h' tk hl hS kp=>by rw[show its.toArray.size=ns.length by rw[s_];exact hl,Oo]at hS;exact⟨.ref s.heap.objs.size,_,I.laid (t':=tk) (fun b o e=>kp b o (x_ e) e) (u_ _) (show bZ X.prog X.w _ h' _ (.set _ _)from hS),rfl,q _ (I.hok.fresh (u_ _))⟩
 rcases hq with hq|hq
 .obtain⟨its,r',pl,hz⟩:=I.list hq;have hl:=r'.length;rw[m_]at hl;exact call_set_list (I.ok.hd hc) pl.isList (by simpa using xo r') (by rw[s_];omega) fun h' tk hS kp=>fin its h' tk hl.symm hS kp
 .obtain⟨its,r',pl,hz⟩:=I.tuple hq;have hl:=r'.length;rw[m_]at hl;exact Oz (I.ok.hd hc) (show s.heap.IsTuple p its.toArray from pl) (by simpa using xo r') (by rw[s_];omega) fun h' tk he=>fin its h' tk hl.symm he.1 he.2
theorem MD:d5 X (.builtin "len") (fun xs H Q=>∃p S n,xs=[.ref p]/\H p=some (.set S n)/\Q (.int n) H):=by
 intro pz s σ H xs us Q I r h;obtain⟨p,S,n,rfl,hp,q⟩:=h;obtain⟨u,rfl,rx⟩:=bI r;cases rx;obtain⟨o,es,ep,t,ho,hex,hd,_,_,hb,hf,hn⟩:=(show bZ X.prog X.w H s.heap p (.set S n)from I.hok p _ hp)
 refine call_len_set ho hex hd hf ?_ ⟨.int n,H,I.tok _,⟨_,by rw[hn]⟩,q⟩;have h4:(es.size:Int)<4096:=by unfold RQ at hb;omega
 exact Int.lt_of_lt_of_le h4 (by decide)
def Am:D->Option D
|.lst ds=>(eY ds).bind fun ns=>if ns.length+1<RQ then some (.int (fU ns).length)else none
|.tup ds=>(eY ds).bind fun ns=>if ns.length+1<RQ then some (.int (fU ns).length)else none
|_=>none
theorem LQ(hc:X.calm=true)(hg:Gl X "len")(hm:X.mg "len" = none)(hgs:Gl X "set")(hms:X.mg "set" = none)(ha:SB X g m a f)(hs:l_ [a] X.env=(false,eval a X.env)::l_ [] X.env:=by rfl)(hs2:l_ [.Call (.Name "set" p2) [a] [] pos2] X.env=(false,eval (.Call (.Name "set" p2) [a] [] pos2) X.env)::l_ [] X.env:=by rfl):SE X g m (.Call (.Name "len" p) [.Call (.Name "set" p2) [a] [] pos2] [] pos) (f1 f Am):=by
 refine PE.imp (my MD hg hm W5 (dS (om (MF hc) hgs hms (by first|exact PyProof.Rows.boot_set|rfl) (dS ha iz hs) (by decide) (by decide) hs rfl) iz hs2) (by decide) (by decide) hs2 rfl) fun σ H Q ⟨r,G,si,q⟩=>⟨r,G,si,aP (aS q) fun d q1 v G1 H1 w1 r1=>?_⟩
 obtain⟨d',e,q2⟩:=cn q1;have core:∀{ds:List D}{xs:List V}{b:Addr},bA X.K G1 xs ds->v=.ref b->(aV X.K H1 b xs\/bO X.K H1 b xs)->(eY ds).bind (fun ns=>if ns.length+1<RQ then some (D.int (fU ns).length)else none)=some d' ->∃p ns,[v]=[V.ref p]/\(aV X.K H1 p (ns.map V.int)\/bO X.K H1 p (ns.map V.int))/\ns.length+1<RQ/\∀l,H1 l=none->∃p S n,[V.ref l]=[V.ref p]/\upd H1 l (.set (fun k=>(fU ns).any (· == k)) (fU ns).length) p=some (.set S n)/\Q (.int n) (upd H1 l (.set (fun k=>(fU ns).any (· == k)) (fU ns).length)):=fun{ds xs b} rs ev hs he=>by cases ea:eY ds with
 |none=>rw[ea]at he;cases he
 |some ns=>
   rw[ea]at he;have he':(if ns.length+1<RQ then some (D.int (fU ns).length)else none)=some d':=he;by_cases hl:ns.length+1<RQ
   .rw[if_pos hl]at he';cases he';have ex:=vK w1.ok rs ea;subst ex;exact⟨b,ns,by rw[ev],hs,hl,fun l hl'=>⟨l,_,_,rfl,ce,q2 _ G1 _ (w1.trans (Grow.new w1.ok hl' _)) (.scl (.int _))⟩⟩
   .rw[if_neg hl]at he';cases he'
 cases d with
|lst ds=>obtain⟨b,xs,ev,hs,rs⟩:=r1.lst w1.ok;exact core rs ev (.inl hs) e
|tup ds=>obtain⟨b,xs,ev,hs,rs⟩:=r1.tup w1.ok;exact core rs ev (.inr hs) e
|_=>cases e
end
theorem bZ.isS{P:B_}{w:PP}{H:Hp}{h:Heap}{a:Addr}{o:HO}(x:bZ P w H h a o):h.get? a≠none:=by
 have s:∀{u:Obj},h.get? a=some u->h.get? a≠none:=fun e z=>by rw[z]at e;cases e
 cases o with
|lst xs=>obtain⟨_,_,_,_,e⟩:=x;exact s e
|tup xs=>obtain⟨_,_,_,⟨_,e,_⟩,_⟩:=x;exact s e
|dK kvs=>obtain⟨_,_,_,_,o,_,_,e,_⟩:=x;exact s e
|dT kvs=>obtain⟨_,_,_,_,o,_,_,e,_⟩:=x;exact s e
|set S n=>obtain⟨o,_,_,_,e,_⟩:=x;exact s e
|ins C dx fs=>obtain⟨_,_,_,e,_⟩:=x;exact s e
|own y=>obtain⟨_,e⟩:=x;exact s e
|xd fs=>obtain⟨_,⟨_,_,_,e,_⟩,_⟩:=x;exact s e
|rng lo hi=>obtain⟨_,_,_,e⟩:=x;exact s e
|frz ob u=>obtain⟨e,_⟩:=x;exact s e
|tbl ps=>exact s (show h.get? a=some _ from x)
|met f y=>exact s (show h.get? a=some _ from x)
|ext φ=>obtain⟨_,⟨_,e⟩,_⟩:=x;exact s e
section
variable{X:Cx}{pz:List (Addr×Obj)}{σ:L2.St}{H:Hp}{s:h_}
theorem TupI.stay{h h':Heap}{L:Addr}{mm:Str->Option b_}(hL:h.Ns L mm)(k:∀b o,b≠L->h.get? b=some o->h'.get? b=some o){p:b_}{ns:List Int}(x:TupI h p ns):TupI h' p ns:=by cases x with
|mk ht hi=>
  obtain⟨o,h1,h2,n,h3⟩:=ht;refine .mk ⟨o,k _ _ ?_ h1,h2,n,h3⟩ hi
  rintro rfl
  obtain⟨o',es,ep,e,d,_⟩:=hL;rw[h1]at e;cases e;rw[h3]at d;cases d
theorem TupsI.stay{h h':Heap}{L:Addr}{mm:Str->Option b_}(hL:h.Ns L mm)(k:∀b o,b≠L->h.get? b=some o->h'.get? b=some o):∀{ps:List b_}{ks:List (List Int)},TupsI h ps ks->TupsI h' ps ks
|_,_,.nil=>.nil
|_,_,.cons x t=>.cons (x.stay hL k) (t.stay hL k)
theorem TupR.stay{h h':Heap}{L:Addr}{mm:Str->Option b_}(hL:h.Ns L mm)(k:∀b o,b≠L->h.get? b=some o->h'.get? b=some o){p:b_}{ks:List (List Int)}(x:TupR h p ks):TupR h' p ks:=by cases x with
|mk ht hi hn=>
  obtain⟨o,h1,h2,n,h3⟩:=ht;refine .mk ⟨o,k _ _ ?_ h1,h2,n,h3⟩ (hi.stay hL k) hn
  rintro rfl
  obtain⟨o',es,ep,e,d,_⟩:=hL;rw[h1]at e;cases e;rw[h3]at d;cases d
theorem JG{h:Heap}{L:Addr}{m m':Str->Option b_}(a:h.Ns L m)(b:h.Ns L m'):m=m':=by obtain⟨o,es,ep,e,d,_,f⟩:=a;obtain⟨o',es',ep',e',d',_,f'⟩:=b;rw[e]at e';cases e';rw[d]at d';cases d';funext x;rw[<-f,<-f']
end
end DL
namespace DL
open PySem PyProof.Rows PySem.SeqAt PySem.MeetsSeq PySem.MeetsSeq2 PySem.MeetsSeq3 L2
section
open PySem.AutoSeq1 (wpAny_loadPart')
end
end DL
namespace DL
open PySem PyProof.Rows L2
section
variable{prog:B_}{w:PP}{A:P8}{E:b_->h_->Prop}{s:h_}
def lU(h:Heap)(u:b_)(ns:List Int):Prop:=∃a its,u=.ref a/\h.IsList a its/\T9 its.toList ns
end
end DL
namespace DL
open PySem PySem.Spec PyProof.Rows L2
section
variable{X:Cx}{pz:List (Addr×Obj)}{σ:L2.St}{H:Hp}{s:h_}
theorem lU.stay{h h':Heap}{L:Addr}{mm:Str->Option b_}(hL:h.Ns L mm)(k:∀b o,b≠L->h.get? b=some o->h'.get? b=some o){p:b_}{ns:List Int}(x:lU h p ns):lU h' p ns:=by
 obtain⟨a,its,rfl,⟨o,h1,h2,n,h3⟩,hi⟩:=x;refine⟨a,its,rfl,⟨o,k _ _ ?_ h1,h2,n,h3⟩,hi⟩
 rintro rfl
 obtain⟨o',es,ep,e,d,_⟩:=hL;rw[h1]at e;cases e;rw[h3]at d;cases d
end
section
variable{X:Cx}{pz:List (Addr×Obj)}{σ:L2.St}{H:Hp}{s:h_}
theorem Inv.keptN{h':Heap}(I:Inv X pz σ H s)(k:∀b o,b≠X.env.locals->s.heap.get? b=some o->h'.get? b=some o)(hns:∀m,s.heap.Ns X.env.locals m->h'.Ns X.env.locals m)(t':Nat):Inv X pz σ H { s with heap:=h',toks:=t' }:=by
 have trkL:∀b u,H b=some u->b≠X.env.locals:=fun b u e z=>by rw[z,I.free]at e;cases e
 refine I.step (g':=s.gens) (d':=s.drawn) (ch:=[]) (fun b hb=>absurd hb (by simp)) (fun b ob hL _ _ e _=>k b ob hL e) (fun b ob hL _ _ e _=>⟨ob.slots,k b ob hL e⟩) (fun b ob _ e n=>n)
  (fun b ob _ e=>?_) (fun b xs e=>e) (fun b ob u e=>e) (fun b ps e=>⟨#[],by rw[e];simp⟩) hns (fun b u e=>?_) I.bare
 .by_cases hb:b=X.env.locals
  .subst hb;obtain⟨m,hn,_⟩:=I.loc;obtain⟨o,_,_,ho',_⟩:=hns m hn;exact⟨o,ho'⟩
  .exact⟨ob,k b ob hb e⟩
 .refine(I.hok b u e).stay (fun cc v hc q=>k cc v ?_ q) (fun cc q=>q) fun cc xs q=>q;rcases hc with z|z
  .rw[z];exact trkL b u e
  .exact trkL cc _ z
theorem Inv.keptF{h':Heap}{mF:Str->Option b_}(I:Inv X pz σ H s)(F:Fr X.base X.env.locals s.heap mF)(F':Fr X.base X.env.locals h' mF)(N':News X.base X.env.locals h' (nL X.base s.heap X.env.locals))(t':Nat):Inv X pz σ H { s with heap:=h',toks:=t' }:=by refine Inv.keptN I (fun b o hb e=>?_) (fun m hm=>by rw[JG hm F.ns];exact F'.ns) t';cases z:X.base.get? b with
|some o'=>have:=I.bk b o' z;rw[e]at this;cases this;exact F'.keep b o z
|none=>exact(N' (b,o) (N8 hb z e)).1
end
section
variable{X:Cx}{g:GE}{m:List Md}{e a b:Expr}{es:List Expr}{fl:ak->Res (List D)}{fa fb:FE}{pos p:Pos}
def zY(K:W.Frag):R2:=fun x y H Q=>∃a b ys,x=.ref a/\y=.ref b/\bO K H a []/\bO K H b ys/\Q (.ref b) H
theorem JS:aT X (Rq .Add) (zY X.K):=by
 intro pz s σ H x y v u Q I rx ry h;obtain⟨a,b,ys,rfl,rfl,ha,hb,q⟩:=h;cases rx;cases ry;obtain⟨its,r1,p1,_⟩:=I.tuple ha;obtain⟨its2,r2,p2,_⟩:=I.tuple hb;cases r1;obtain⟨⟨cls,dd,data,sl⟩,ho,hc,n,hd⟩:=id p1;obtain⟨⟨cls2,dd2,data2,sl2⟩,ho2,hc2,n2,hd2⟩:=id p2;simp only at hc hd hc2 hd2;subst hc hd hc2 hd2;exact UU ⟨_,ho,rfl⟩ ⟨_,ho2,rfl⟩ UI VF S4 SH (Ss _ _)
  (tuple_addW0 a b _ _ n n2 dd dd2 sl sl2 rfl) ⟨ho,ho2,⟨.ref b,H,I,rfl,q⟩⟩
def addE:D->D->Option D
|.tup [],.tup b=>some (.tup b)
|a,b=>addA a b
theorem Ko{K:W.Frag}:cN K (fun x y H Q=>zY K x y H Q\/((∃i j,x=.int i/\y=.int j/\Q (.int (i+j)) H)\/(∃i j,x=.str i/\y=.str j/\i.length+j.length<=sizeLine/\Q (.str (i++j)) H)\/pF K x y H Q\/sN K x y H Q)) addE:=by
 intro G H v1 v2 d1 d2 d Q gk r1 r2 e q;unfold addE at e;split at e
 .cases e;rcases r1 with r1|⟨a',_,oo⟩
  .rcases r2 with r2|⟨a',_,oo⟩
   .obtain⟨a,xs,rfl,s1,t1⟩:=r1.tup gk;obtain⟨b,ys,rfl,s2,t2⟩:=r2.tup gk;cases t1;exact .inl ⟨a,b,ys,rfl,rfl,s1,s2,q _ G H (Grow.refl gk) r2⟩
   .cases oo.ob
  .cases oo.ob
 .exact .inr (BP G H v1 v2 d1 d2 d Q gk r1 r2 e q)
theorem Bb(ha:SB X g m a fa)(hb:SB X g m b fb):SE X g m (.BinOp a .Add b pos) (f2 fa fb addE):=jl (aT.or JS (aT.or AV (aT.or D6 (aT.or tZ BZ)))) Ko ha hb
end
end DL
namespace DL
open PySem PyProof.Rows L2
section
open PySem.AutoSeq1 (wpAny_loadPart')
end
end DL
namespace DL
open PySem PyProof.Rows PySem.W
abbrev at0(p:Array Nat)(i:Nat):Nat:=p.getD i 0
section
variable{n:Nat}{c:Nat->Nat->Bool}(as:∀i j,c i j=true->c j i=false)(tr:∀i j k,c j i=false->c k j=false->c k i=false)
def Le(c:Nat->Nat->Bool)(i j:Nat):Prop:=c j i=false
def Dn(c:Nat->Nat->Bool)(p:Array Nat)(k:Nat):Prop:=∀i,i+1<k->Le c (at0 p (i+1)) (at0 p i)
def kK(c:Nat->Nat->Bool)(i j:Nat):Prop:=Le c i j/\Le c j i
include tr in
theorem kK.trans{i j k:Nat}(h1:kK c i j)(h2:kK c j k):kK c i k:=⟨tr _ _ _ h1.1 h2.1,tr _ _ _ h2.2 h1.2⟩
theorem kK.symm{i j:Nat}(h:kK c i j):kK c j i:=⟨h.2,h.1⟩
include as tr in
include tr in
theorem Dn.eqv{p p':Array Nat}{k:Nat}(h:Dn c p k)(e:∀i,kK c (at0 p' i) (at0 p i)):Dn c p' k:=fun i hi=>tr _ _ _ (e (i+1)).1 (tr _ _ _ (h i hi) (e i).2)
include as tr in
include as tr in
include as tr in
include as tr in
include as tr in
include as tr in
include as tr in
include as tr in
include as tr in
end
end DL
section
namespace DL
end DL
end
namespace DL
open PySem PySem.Spec PyProof.Rows L2
section
variable{X:Cx}{pz:List (Addr×Obj)}{σ:L2.St}{H:Hp}{s:h_}
theorem MB(bs:List Bool):((a_ bs.length).all fun i=>bs.getD i true)=bs.all id:=by
 rw[P6,Qs,Qs];constructor
 .intro h b hb;obtain⟨i,hi,rfl⟩:=T5 hb;have:=h i (r_.mpr hi);simpa[E_,hi]using this
 .intro h i hi;have hi:=r_.mp hi;have:=h bs[i] (Qc _);simpa[E_,hi]using this
theorem N3(hc:X.calm=true)(I:Inv X pz σ H s){p:Addr}{bs:List Bool}(hq:aV X.K H p (bs.map V.bl)){A:P8}(hA:A.handled=none){E:b_->h_->Prop}{Q:b_->h_->Prop}(h:∀I fp wr n P St tr it s₂,it=Value.ref I->Walks X.prog X.w A I fp wr n P St->St 0 s₂.heap->TruthOf X.prog X.w A P tr->n=bs.length->(∀i,tr i=bs.getD i true) ->(∀(h':Heap)(tk:Nat),(∀(b:Addr)(o:Obj),¬b∈wr->s₂.heap.get? b=some o->h'.get? b=some o)->Inv X pz σ H { heap:=h',gens:=s₂.gens,drawn:=s₂.drawn,toks:=tk,os:=s₂.os })->Q it s₂):D_ (O_ X.prog X.w) A (WU (.ref p)) Q E s:=by
 obtain⟨its,rv,pl,hz⟩:=I.list hq;have hl:=rv.length;rw[m_]at hl;refine PySem.Flt.iter_list_ pl.isList fun s₂ e2 hi hlt hne=>?_;refine h s.heap.objs.size [s.heap.objs.size,p] [s.heap.objs.size] its.toArray.size _ _ (fun i=>bs.getD i true) _ s₂ rfl (Yn hA _ p hne its.toArray) hi ?_ (by rw[s_,hl]) (fun i=>rfl) fun h' tk k=>?_
 .intro i v s' Q' E' hv hq';have hv':its[i]? = some v:=by simpa using hv
  have hi:i<its.length:=(k_.mp hv').1;have hki:i<(bs.map V.bl).length:=by rw[m_];omega
  obtain⟨u,h1,h3⟩:=rv.get (i:=i) (x:=(bs.map V.bl)[i]) (i_ hki);rw[hv']at h1;cases h1;rw[UK]at h3;have h3':v=Value.bool bs[i]:=h3;subst h3';have e:bs.getD i true=bs[i]:=by
   have hb:i<bs.length:=by omega
   simp[E_,hb]
  have hq2:Q' (bs.getD i true) s':=hq';rw[e]at hq2;exact t_ hq2
 .subst e2;have ne:∀b o,s.heap.get? b=some o->¬ b∈[s.heap.objs.size]:=fun b o e z=>by have:=y_.mp z;subst this;exact absurd (x_ e) (Q5 _)
  exact Inv.keptN I (fun b o _ e=>k b o (ne b o e) (e_ _ e)) (fun m ⟨o,es,ep,e,z⟩=>⟨o,es,ep,k _ _ (ne _ _ e) (e_ _ e),z⟩) tk
theorem K9(hc:X.calm=true):d5 X (.builtin "all") (fun xs H Q=>∃(p:Addr)(bs:List Bool),xs=[.ref p]/\aV X.K H p (bs.map V.bl)/\Q (.bl (bs.all id)) H):=by intro pz s σ H xs us Q I r h;obtain⟨p,bs,rfl,hq,q⟩:=h;obtain⟨u,rfl,rx⟩:=bI r;cases rx;refine call_all_walk (N3 hc I hq (show X.A.in1.handled=none from I.ok.hd hc) fun J fp wr n P St tr it s₂ e1 e2 e3 e4 e5 e6 e7=>⟨J,fp,wr,n,P,St,tr,e1,e2,e3,e4,fun h' tk k=>?_⟩);have et:tr=fun i=>bs.getD i true:=funext e6;rw[e5,et,MB];exact⟨.bl (bs.all id),H,e7 h' tk k,rfl,q⟩
end
def jp:List D->Option (List Bool)
|[]=>some []
|.bl b::ds=>(jp ds).map (b::·)
|_=>none
theorem Kr{K:W.Frag}{G:GH}{H:Hp}(gk:aM K G H){ds:List D}{xs:List V}{bs:List Bool}(h:bA K G xs ds)(e:jp ds=some bs):xs=bs.map V.bl:=by induction h generalizing bs with
|nil=>cases e;rfl
|@cons x d xs ds r t ih=>cases d with
 |bl b=>have e':(jp ds).map (b::·)=some bs:=e;cases e1:jp ds with
  |none=>rw[e1]at e';cases e'
  |some bs'=>rw[e1]at e';cases e';rw[ih e1,p_,(RG.rb (H:=H) r).bl gk]
 |_=>cases e
def allD:List D->Option D
|[.lst ds]=>(jp ds).map fun bs=>.bl (bs.all id)
|_=>none
theorem Hj{K:W.Frag}:lX K (fun xs H Q=>∃(p:Addr)(bs:List Bool),xs=[.ref p]/\aV K H p (bs.map V.bl)/\Q (.bl (bs.all id)) H) allD:=by
 intro G H vs ds d Q gk rs e q;unfold allD at e;split at e
 .rename_i zs;cases ek:jp zs with
 |none=>rw[ek]at e;cases e
 |some bs=>rw[ek]at e;cases e;cases rs with
  |cons r1 t=>cases t;obtain⟨b,xs,rfl,s,r⟩:=r1.lst gk;have ex:=Kr gk r ek;subst ex;exact⟨b,bs,rfl,s,q _ G H (Grow.refl gk) (.scl (.bl _))⟩
 .cases e
section
variable{X:Cx}{g:GE}{m:List Md}{e:Expr}{es:List Expr}{fl:ak->Res (List D)}{pos p:Pos}
theorem FO(hc:X.calm=true)(hg:Gl X "all")(hm:X.mg "all" = none)(ha:g6 X g m (e::es) fl)(he:l_ (e::es) X.env=(false,eval e X.env)::l_ es X.env:=by rfl)(hpl:(backTo pos (l_ es X.env)).any (·.1)=false:=by rfl):SE X g m (.Call (.Name "all" p) (e::es) [] pos) (fC fl allD):=gP Hj (my (K9 hc) hg hm PyProof.Rows.boot_all ha (by decide) (by decide) he hpl)
end
def j7(h0 H:Hp):Prop:=∀a o,h0 a=some o->H a=some o
structure YieldsB(K:W.Frag)(h0:Hp)(J:It)(ds:List D)(G0:GH):Prop where
 go:∀G H (i:Nat),aH G0 G->aM K G H->j7 h0 H->i<ds.length->J.go i H
 yld:∀G H (i:Nat) x H' d,aH G0 G->aM K G H->j7 h0 H->J.yld i H x H'->ds[i]? = some d->∃G',Grow K G H G' H'/\RG K G' x d
 stop:∀G H,aH G0 G->aM K G H->j7 h0 H->J.stop ds.length H
theorem Yields.toH{K:W.Frag}{h0:Hp}{J:It}{ds:List D}{G0:GH}(y:Yields K J ds G0):YieldsB K h0 J ds G0:=⟨fun G H i w gk _ hi=>y.go G H i w gk hi,fun G H i x H' d w gk _ q e=>y.yld G H i x H' d w gk q e,fun G H w gk _=>y.stop G H w gk⟩
def Pj(X:Cx)(g:GE)(m:List Md)(f:FI):TI:=fun σ H R=>∃r G,SI X g m r G σ H/\fin (f r) (fun ds=>∀J G' H',Grow X.K G H G' H'->YieldsB X.K g.h0 J ds G'->R J H') (XW X σ G H)
def jZ(X:Cx)(g:GE)(m:List Md)(tg iter:Expr)(f:FI):Prop:=PI X tg iter (Pj X g m f)
def Pl(X:Cx)(g:GE)(m:List Md)(f:FE):TE:=fun σ H Q=>∃r G,SI X g m r G σ H/\fin (f r) (fun d=>∀v G' H',Grow X.K G H G' H'->Bw X.K g.h0 G' H' v d->Q v H') (XW X σ G H)
def zq(X:Cx)(g:GE)(m:List Md)(e:Expr)(f:FE):Prop:=PE X e (Pl X g m f)
section
variable{X:Cx}{g:GE}{m m' mb:List Md}{tg e a iter:Expr}{f:FE}{pos p pos2:Pos}{ro:Bool}{sts:List Stmt}{s1:FS}{elts:List Expr}{kk:Nat}
theorem dZ.toH{fi:FI}(h:dZ X g m tg iter fi):jZ X g m tg iter fi:=PI.imp h fun σ H R ⟨r,G,si,q⟩=>⟨r,G,si,aP q fun ds k J G' H' w y=>k J G' H' w y.toH⟩
theorem oM(i:Nat){x:Str}(hm:m[i]? = some .bw:=by rfl)(hN:X.N[i]? = some x:=by rfl)(hv:fQ X.env.scope x:=by first|exact Or.inl rfl|exact Or.inr (Or.inl rfl)|exact Or.inr (Or.inr rfl))(hd:(x==("__debug__" : Str))=false:=by decide)(hcd:(x==("__classdict__" : Str))=false:=by decide):zq X g m (.Name x pos) fun r=>dN r i:=by refine PE.imp (iY hN hv hd hcd) fun σ H Q ⟨r,G,si,q⟩=>?_;obtain⟨d,e,k⟩:=qv q;obtain⟨v,e1,e2⟩:=si.bw i d e hm;exact⟨v,e1,k _ G H (Grow.refl si.gok) e2⟩
theorem B1{K:W.Frag}{h0:Hp}{G0 G:GH}{H0 H:Hp}{a:Addr}{ds:List D}(o:Own K G0 H0 a (.lst ds))(h:h0 a≠none)(o0:j7 h0 H0)(le:aH G0 G)(o1:j7 h0 H):∃xs,aV K H a xs/\bA K G xs ds:=by cases e:h0 a with
|none=>exact absurd e h
|some u=>have h1:=o0 a u e;have h2:=o1 a u e;cases o.ob with
 |lst r s=>rw[h1]at r;cases r;exact⟨_,aV.of h2,bA.mono s le⟩
theorem I0{K:W.Frag}{h0:Hp}{ds:List D}{G0:GH}{a:Addr}(h:∀G H,aH G0 G->aM K G H->j7 h0 H->∃xs,aV K H a xs/\bA K G xs ds):YieldsB K h0 (pj K a) ds G0:=by
 refine⟨fun G H i w gk o hi=>?_,fun G H i x H' d w gk o y e=>?_,fun G H w gk o=>?_⟩
 .obtain⟨xs,s,r⟩:=h G H w gk o;have hl:=Paired.length r;exact⟨xs,xs[i],s,i_ (by omega)⟩
 .obtain⟨xs,s,r⟩:=h G H w gk o;obtain⟨rfl,y⟩:=y;obtain⟨v,e1,rv⟩:=Paired.get r e;have:=y xs s;rw[e1]at this;cases this;exact⟨G,Grow.refl gk,rv⟩
 .obtain⟨xs,s,r⟩:=h G H w gk o;exact⟨xs,s,SZ (Paired.length r)⟩
theorem SI.oldIn{r:ak}{G:GH}{st:L2.St}{H:Hp}(s:SI X g m r G st H):j7 g.h0 H:=s.old
theorem pR(h:zq X g m e f):jZ X g m tg e (aG bJ f):=by
 refine PI.imp (sW h) fun σ H R ⟨r,G,si,q⟩=>⟨r,G,si,aP (aS q) fun d q v G' H' w rv=>?_⟩
 obtain⟨ds,e,q⟩:=cn q;cases d with
|lst ds'=>
  cases e;rcases rv with rv|⟨a,rfl,o,ho⟩
  .obtain⟨a,xs,rfl,s,rs⟩:=rv.lst w.ok;exact .inl ⟨a,rfl,⟨xs,s⟩,q _ G' H' w (vD rv).toH⟩
  .cases o.ob with
  |lst r s=>exact .inl ⟨a,rfl,⟨_,aV.of r⟩,q _ G' H' w (I0 fun G2 H2 le _ o2=>B1 o ho (si.grow w).oldIn le o2)⟩
|tup ds'=>
  cases e;rcases rv with rv|⟨a,rfl,o,ho⟩
  .obtain⟨a,xs,rfl,s,rs⟩:=rv.tup w.ok;exact .inr ⟨a,rfl,⟨xs,s⟩,q _ G' H' w (tv rv).toH⟩
  .cases o.ob
|_=>cases e
theorem vC{K:W.Frag}{h0:Hp}{ds:List D}{G0:GH}{sq:Hp->List V->Prop}(h:∀G H,aH G0 G->aM K G H->j7 h0 H->∃xs,sq H xs/\bA K G xs ds):YieldsB K h0 (kJ sq) (cb 0 ds) G0:=by
 refine⟨fun G H i w gk o hi=>?_,fun G H i x H' d w gk o y e=>?_,fun G H w gk o=>?_⟩
 .obtain⟨xs,s,r⟩:=h G H w gk o;rw[nY]at hi;have hl:=Paired.length r;exact⟨xs,xs[i],s,i_ (by omega)⟩
 .obtain⟨xs,s,r⟩:=h G H w gk o;obtain⟨p,v,hp,rfl,rfl,hv⟩:=y;rw[nX]at e;cases ed:ds[i]? with
 |none=>rw[ed]at e;cases e
 |some d0=>rw[ed]at e;simp only[QY,SV,QJ]at e;subst e;obtain⟨v',e1,rv⟩:=Paired.get r ed;have:=hv xs s;rw[e1]at this;cases this;exact⟨_,Grow.newF gk hp (.tup (.inl ce) (.cons (.scl (.int _)) (.cons rv .nil))),.ref cM⟩
 .obtain⟨xs,s,r⟩:=h G H w gk o;rw[nY];exact⟨xs,s,Paired.length r⟩
theorem Ka(hg:Gl X "enumerate")(hm:X.mg "enumerate" = none)(he:zq X g m e f)(hs:l_ [e] X.env=(false,eval e X.env)::l_ [] X.env:=by rfl):jZ X g m (.Tuple elts kk pos2) (.Call (.Name "enumerate" p) [e] [] pos) (dy f):=by
 refine PI.imp (B7 hg hm he hs) fun σ H R ⟨r,G,si,q⟩=>⟨r,G,si,aP (aS q) fun d q v G' H' w rv=>?_⟩
 obtain⟨ds,e,q⟩:=cn (aS q);cases d with
|lst ds'=>
  cases e;rcases rv with rv|⟨a,rfl,o,ho⟩
  .obtain⟨a,xs,rfl,s,rs⟩:=rv.lst w.ok;refine .inl ⟨a,rfl,⟨xs,s⟩,q _ G' H' w (vC fun G H le gk _=>?_)⟩;obtain⟨b,ys,e,s',r'⟩:=(rv.mono le).lst gk;cases e;exact⟨ys,s',r'⟩
  .cases o.ob with
  |lst r s=>exact .inl ⟨a,rfl,⟨_,aV.of r⟩,q _ G' H' w (vC fun G2 H2 le _ o2=>B1 o ho (si.grow w).oldIn le o2)⟩
|tup ds'=>
  cases e;rcases rv with rv|⟨a,rfl,o,ho⟩
  .obtain⟨a,xs,rfl,s,rs⟩:=rv.tup w.ok;refine .inr ⟨a,rfl,⟨xs,s⟩,q _ G' H' w (vC fun G H le gk _=>?_)⟩;obtain⟨b,ys,e,s',r'⟩:=(rv.mono le).tup gk;cases e;exact⟨ys,s',r'⟩
  .cases o.ob
|_=>cases e
theorem nF(hp:To (O_ X.prog X.w) X.A X.env X.xe)(hc:X.calm=true){ft:FT}{fi:FI}(hi:jZ X g m tg iter fi)(hg:SG X g m tg ft m)(hb:fR X g ro m m sts s1 m)(hs:∀x,QO iter X.env x=pure x:=by intro _;rfl):SS X g ro mb m (.For tg iter sts [] pos) (cu m fi ft s1) m:=by
 refine⟨rfl,PS.imp (nE hp hc hi hg.2 hb.2 hs) fun D σ H ⟨r,G,si,q⟩=>⟨r,G,si,aP (eZ si rfl q) fun ds q J G0 H0 w0 Y=>?_⟩⟩;refine⟨fun i n σ H=>∃r G,SI X g m r G σ H/\aH G0 G/\i<=ds.length/\n=ds.length-i/\bD X g ro m mb G D (aE ft s1 (ds.drop i) r),⟨ds.length,r,G0,si.grow w0,aH.refl G0,Qa _,rfl,bD.gle q w0.ge⟩,?_⟩
 rintro i n σ1 H1 ⟨r1,G1,si1,le1,hi,rfl,q1⟩
 by_cases hlt:i<ds.length
 .have hd:ds.drop i=ds[i]::ds.drop (i+1):=QE hlt;rw[hd]at q1;unfold aE at q1;refine .inr ⟨Y.go G1 H1 i le1 si1.gok si1.oldIn hlt,fun σ' H'=>∃r G,SI X g m r G σ' H'/\aH G0 G/\bD X g ro m mb G D (aE ft s1 (ds.drop (i+1)) r),fun σ' H' ⟨r',G',si',le',q'⟩=>⟨ds.length-(i+1),by omega,r',G',si',le',hlt,rfl,q'⟩,fun x H' y=>?_⟩;obtain⟨G',w',rv⟩:=Y.yld G1 H1 i x H' ds[i] le1 si1.gok si1.oldIn y (i_ hlt);have le':aH G0 G':=le1.trans w'.ge;cases eft:ft ds[i] r1 with
 |none=>simp only[eft]at q1;exact q1.elim
 |some r2=>simp only[eft]at q1;refine⟨r1,G',ds[i],si1.grow w',rv,r2,eft,fun σ2 si2=>⟨r2,G',si2,?_⟩⟩;cases eb:s1 r2 with
  |nx r'=>simp only[eb]at q1;exact fun σ3 G3 H3 le3 si3=>⟨r',G3,si3,le'.trans le3,bD.gle q1 (aH.trans w'.ge le3)⟩
  |ct r'=>simp only[eb]at q1;exact fun σ3 G3 H3 le3 si3=>⟨r',G3,si3,le'.trans le3,bD.gle q1 (aH.trans w'.ge le3)⟩
  |bk r'=>simp only[eb]at q1;exact fun σ3 G3 H3 le3 si3=>q1 σ3 G3 H3 (aH.trans w'.ge le3) si3
  |rt d=>simp only[eb]at q1;exact q1
  |exc x r'=>simp only[eb]at q1;exact fun pz e s' σ3 G3 H3 le3=>q1 pz e s' σ3 G3 H3 (aH.trans w'.ge le3)
  |stuck=>simp only[eb]at q1;exact q1
 .have e:i=ds.length:=by omega
  subst e;rw[RS]at q1;exact .inl ⟨Y.stop G1 H1 le1 si1.gok si1.oldIn,q1 σ1 G1 H1 (aH.refl _) si1⟩
end
section
open HT (sIx)
end
section
open AutoSeq1 (wpAny_loadPart')
structure ZA(zp ti to u1 u2:Addr)(f1 f2:List Addr):Prop where
 a1:ti≠zp
 a2:to≠zp
 a3:u1≠zp
 a4:u2≠zp
 a5:to≠u1
 a6:to≠u2
 a7:u1≠u2
 a8:ti≠to/\ti≠u1/\ti≠u2
 b1:zp∉f1/\to∉f1/\u2∉f1
 b2:zp∉f2/\to∉f2/\u1∉f2
theorem _root_.PySem.Draws.at'{prog:B_}{w:PP}{A:P8}{it:Addr}{fp:List Addr}{n:Nat}{P:Nat->b_->Prop}{St:Nat->Heap->Prop}(D:VH prog w A it fp n P St){i:Nat}{h h':Heap}{c:Addr}(st:St i h)(e:Yg c h h')(hc:c∉fp):St i h':=D.frame i h h' st fun b hb o q=>e b o (by rintro rfl;exact hc hb) q
section
variable{prog:B_}{w:PP}{A:P8}{E:b_->h_->Prop}{s:h_}{zp ti to u1 u2:Addr}{f1 f2:List Addr}{n1 n2:Nat}{P1 P2:Nat->b_->Prop}{St1 St2:Nat->Heap->Prop}{p q:b_}
theorem Nq{i:Nat}{Q:b_->h_->Prop}(Z:ZA zp ti to u1 u2 f1 f2)(D1:VH prog w A u1 f1 n1 P1 St1)(D2:VH prog w A u2 f2 n2 P2 St2)(hz:Uj s.heap zp ti to .none)(hi:RP s.heap ti (.ref u1) (.ref u2))(ho:RP s.heap to p q)(s1:St1 i s.heap)(s2:St2 i s.heap)(l1:i<n1)(l2:i<n2)(hQ:∀x y h' tk,P1 i x->P2 i y->Uj h' zp ti to (US s.heap.objs.size)->RP h' to x y->St1 (i+1) h'->St2 (i+1) h'->RP h' s.heap.objs.size x y->h'.objs.size=s.heap.objs.size+1 ->(∀c o,c≠zp->c≠to->c≠u1->c≠u2->s.heap.get? c=some o->h'.get? c=some o)->Q (.ref s.heap.objs.size) { s with heap:=h',toks:=tk }):D_ (O_ prog w) A (Tx.«zip.__next__» ⟨[.ref zp],[]⟩) (fun fin s'=>∃v,fin=.done (.ret v)/\Q v s') E s:=by
 show D_ _ _ (W7 (.ref zp) 2 >>= _) _ _ _;refine d_ (QG hz rfl (x:=.bool false) rfl ?_);show D_ _ _ (W7 (.ref zp) 3 >>= _) _ _ _;refine d_ (QG hz rfl (x:=.ref ti) rfl (d_ (QR hi rfl ?_)));show D_ _ _ (QI (.ref zp) >>= _) _ _ _;refine d_ ?_;unfold QI;refine d_ (QG hz rfl (x:=.none) rfl (t_ ?_));simp only[if_true];refine d_ (W8 (d_ (QG hz rfl (x:=.ref to) rfl (d_ (Ry hz (by simp) fun g1 hz1 k1=>?_)))));replace hz1:Uj g1 zp ti to .ellipsis:=hz1;refine d_ ?_;simp only[Ws,WI,TX,W_];refine d_ (d_ (UA ?_));show D_ _ _ (Qg (.ref u1) >>= _) _ _ _;refine d_ (D1.item i _ _ _ l1 (D1.at' s1 k1.extBut Z.b1.1) fun x g2 t2 px st1 k2=>t_ ?_);have ho2:RP g2 to p q:=k2.extBut _ _ Z.a5 (k1.extBut _ _ Z.a2 ho);refine d_ (QR ho2 rfl (d_ (TH ho2 fun g3 ho3 k3=>?_)));replace ho3:RP g3 to x q:=ho3;refine d_ (WC (t_ ?_));refine d_ (d_ (UA ?_));show D_ _ _ (Qg (.ref u2) >>= _) _ _ _;refine d_ (D2.item i _ _ _ l2 (D2.at' (D2.at' (D2.at' s2 k1.extBut Z.b2.1) k2.extBut Z.b2.2.2) k3.extBut Z.b2.2.1) fun y g4 t4 py st2 k4=>t_ ?_);have ho4:RP g4 to x q:=k4.extBut _ _ Z.a6 ho3;refine d_ (QR ho4 rfl (d_ (TH ho4 fun g5 ho5 k5=>?_)));replace ho5:RP g5 to x y:=ho5;refine d_ (WC (t_ (t_ ?_)));refine d_ (QR ho5 rfl (d_ (wpAny_newTuple ?_)));have hsz:g5.objs.size=s.heap.objs.size:=by rw[k5.1,k4.1,k3.1,k2.1,k1.1]
 have hz5:Uj g5 zp ti to .ellipsis:=k5.extBut _ _ Z.a2.symm (k4.extBut _ _ Z.a4.symm (k3.extBut _ _ Z.a2.symm (k2.extBut _ _ Z.a3.symm hz1)));have st15:St1 (i+1) g5:=D1.at' (D1.at' (D1.at' st1 k3.extBut Z.b1.2.1) k4.extBut Z.b1.2.2) k5.extBut Z.b1.2.1;have st25:St2 (i+1) g5:=D2.at' st2 k5.extBut Z.b2.2.1;have hzlt:zp<g5.objs.size:=x_ hz5;show D_ _ _ (Sn (.ref zp) (.ref g5.objs.size) >>= _) _ _ _;refine d_ ?_;unfold Sn;have hz6:Uj (g5.push { cls:=.type "tuple",data:=.seq #[x,y] }) zp ti to .ellipsis:=e_ _ hz5;refine d_ (Ry hz6 (by simp) fun g7 hz7 k7=>?_);replace hz7:Uj g7 zp ti to (US g5.objs.size):=hz7;refine Ry hz7 (by simp) fun g8 hz8 k8=>?_;replace hz8:Uj g8 zp ti to (US g5.objs.size):=hz8;have up:∀c o,c≠zp->g5.get? c=some o->g8.get? c=some o:=fun c o c1 e=>k8.extBut _ _ c1 (k7.extBut _ _ c1 (e_ _ e));have hT8:RP g8 g5.objs.size x y:=k8.extBut _ _ (Q7 hzlt) (k7.extBut _ _ (Q7 hzlt) (w_ _ rfl));have sz8:g8.objs.size=g5.objs.size+1:=by rw[k8.1,k7.1,Qj]
 rw[hsz]at hz8 hT8 sz8;refine t_ ⟨_,rfl,?_⟩;show Q (.ref g5.objs.size) _;rw[hsz];refine hQ x y g8 _ px py hz8 (up _ _ Z.a2 ho5) (D1.frame _ _ _ st15 fun b hb o e=>up b o (by rintro rfl;exact Z.b1.1 hb) e) (D2.frame _ _ _ st25 fun b hb o e=>up b o (by rintro rfl;exact Z.b2.1 hb) e) hT8 sz8 fun c o c1 c2 c3 c4 e=>up c o c1 ?_;exact k5.extBut _ _ c2 (k4.extBut _ _ c4 (k3.extBut _ _ c2 (k2.extBut _ _ c3 (k1.extBut _ _ c1 e))))
theorem MM{i:Nat}{Q:Fin->h_->Prop}(Z:ZA zp ti to u1 u2 f1 f2)(D1:VH prog w A u1 f1 n1 P1 St1)(D2:VH prog w A u2 f2 n2 P2 St2)(hz:Uj s.heap zp ti to .none)(hi:RP s.heap ti (.ref u1) (.ref u2))(ho:RP s.heap to p q)(s1:St1 i s.heap)(s2:St2 i s.heap)(hend:i=n1\/(i<n1/\i=n2))(hE:∀h' e tk,(∀c o,c≠zp->c≠to->c≠u1->c≠u2->s.heap.get? c=some o->h'.get? c=some o)->(∃o,h'.get? e=some o/\o.cls=.type "StopIteration")->E (.ref e) { s with heap:=h',toks:=tk }):D_ (O_ prog w) A (Tx.«zip.__next__» ⟨[.ref zp],[]⟩) Q E s:=by
 show D_ _ _ (W7 (.ref zp) 2 >>= _) _ _ _;refine d_ (QG hz rfl (x:=.bool false) rfl ?_);show D_ _ _ (W7 (.ref zp) 3 >>= _) _ _ _;refine d_ (QG hz rfl (x:=.ref ti) rfl (d_ (QR hi rfl ?_)));show D_ _ _ (QI (.ref zp) >>= _) _ _ _;refine d_ ?_;unfold QI;refine d_ (QG hz rfl (x:=.none) rfl (t_ ?_));simp only[if_true];refine d_ (W8 (d_ (QG hz rfl (x:=.ref to) rfl (d_ (Ry hz (by simp) fun g1 hz1 k1=>?_)))));replace hz1:Uj g1 zp ti to .ellipsis:=hz1;refine d_ ?_;simp only[Ws,WI,TX,W_];refine d_ (d_ (UA ?_));show D_ _ _ (Qg (.ref u1) >>= _) _ _ _;rcases hend with hend|⟨hlt,hend⟩
 .subst hend;refine d_ (D1.done _ _ _ (D1.at' s1 k1.extBut Z.b1.1) fun g2 e k2 he=>?_);obtain⟨oe,hoe,hce⟩:=he;have hz2:Uj g2 zp ti to .ellipsis:=k2 _ _ Z.a3.symm hz1;have hez:e≠zp:=fun x=>by subst x;rw[hz2]at hoe;cases hoe;simp at hce
  exact Ry hz2 (by simp) fun g3 _ k3=>hE g3 e _ (fun c o c1 _ c3 _ x=>k3.extBut _ _ c1 (k2 _ _ c3 (k1.extBut _ _ c1 x))) ⟨oe,k3.extBut _ _ hez hoe,hce⟩
 .subst hend;refine d_ (D1.item _ _ _ _ hlt (D1.at' s1 k1.extBut Z.b1.1) fun x g2 t2 px st1 k2=>t_ ?_);have ho2:RP g2 to p q:=k2.extBut _ _ Z.a5 (k1.extBut _ _ Z.a2 ho);refine d_ (QR ho2 rfl (d_ (TH ho2 fun g3 ho3 k3=>?_)));refine d_ (WC (t_ ?_));refine d_ (d_ (UA ?_));show D_ _ _ (Qg (.ref u2) >>= _) _ _ _;refine d_ (D2.done _ _ _ (D2.at' (D2.at' (D2.at' s2 k1.extBut Z.b2.1) k2.extBut Z.b2.2.2) k3.extBut Z.b2.2.1) fun g4 e k4 he=>?_);obtain⟨oe,hoe,hce⟩:=he;have hz4:Uj g4 zp ti to .ellipsis:=k4 _ _ Z.a4.symm (k3.extBut _ _ Z.a2.symm (k2.extBut _ _ Z.a3.symm hz1));have hez:e≠zp:=fun x=>by subst x;rw[hz4]at hoe;cases hoe;simp at hce
  exact Ry hz4 (by simp) fun g5 _ k5=>hE g5 e _ (fun c o c1 c2 c3 c4 x=>k5.extBut _ _ c1 (k4 _ _ c4 (k3.extBut _ _ c2 (k2.extBut _ _ c3 (k1.extBut _ _ c1 x))))) ⟨oe,k5.extBut _ _ hez hoe,hce⟩
theorem Od{i:Nat}{Q:Option b_->h_->Prop}(Z:ZA zp ti to u1 u2 f1 f2)(D1:VH prog w A.in1 u1 f1 n1 P1 St1)(D2:VH prog w A.in1 u2 f2 n2 P2 St2)(hz:Uj s.heap zp ti to .none)(hi:RP s.heap ti (.ref u1) (.ref u2))(ho:RP s.heap to p q)(s1:St1 i s.heap)(s2:St2 i s.heap)(l1:i<n1)(l2:i<n2)(hQ:∀x y h' tk,P1 i x->P2 i y->Uj h' zp ti to (US s.heap.objs.size)->RP h' to x y->St1 (i+1) h'->St2 (i+1) h'->RP h' s.heap.objs.size x y->h'.objs.size=s.heap.objs.size+1 ->(∀c o,c≠zp->c≠to->c≠u1->c≠u2->s.heap.get? c=some o->h'.get? c=some o)->Q (some (.ref s.heap.objs.size)) { s with heap:=h',toks:=tk }):D_ (O_ prog w) A (Vm (.ref zp)) Q E s:=by
 have hT:s.TypeIs (.ref zp) "zip" := ⟨_,hz,rfl⟩
 unfold Vm;exact d_ (wpAny_attempt (Re (name:=T8 "__next__") hT F.slot_zip_next (Sh F.slot_zip_next hT F.entry_zip_next
   (Nq Z D1 D2 hz hi ho s1 s2 l1 l2 fun x y h' tk b1 b2 b3 b4 b5 b6 b7 b8 b9=>t_ (hQ x y h' tk b1 b2 b3 b4 b5 b6 b7 b8 b9)) (F.args_zip_next_1 _))))
theorem OV{i:Nat}{Q:Option b_->h_->Prop}(Z:ZA zp ti to u1 u2 f1 f2)(D1:VH prog w A.in1 u1 f1 n1 P1 St1)(D2:VH prog w A.in1 u2 f2 n2 P2 St2)(hz:Uj s.heap zp ti to .none)(hi:RP s.heap ti (.ref u1) (.ref u2))(ho:RP s.heap to p q)(s1:St1 i s.heap)(s2:St2 i s.heap)(hend:i=n1\/(i<n1/\i=n2))(hQ:∀h' tk,(∀c o,c≠zp->c≠to->c≠u1->c≠u2->s.heap.get? c=some o->h'.get? c=some o)->Q none { s with heap:=h',toks:=tk }):D_ (O_ prog w) A (Vm (.ref zp)) Q E s:=by
 have hT:s.TypeIs (.ref zp) "zip" := ⟨_,hz,rfl⟩
 unfold Vm;refine d_ (wpAny_attempt (Re (name:=T8 "__next__") hT F.slot_zip_next (Sh F.slot_zip_next hT F.entry_zip_next (MM Z D1 D2 hz hi ho s1 s2 hend fun h' e tk hk he=>?_) (F.args_zip_next_1 _))));obtain⟨o,ho,hc⟩:=he;exact d_ (wpAny_isInstance (T := "StopIteration") (b:=true) ⟨o,ho,hc⟩ isSubtype_stop (t_ (hQ _ _ hk)))
end
abbrev gH(c:String)(l:Addr):Obj:={ cls:=.type c,data:=.fields #[.ref l,.int 0 0] }
abbrev qE(h:Heap)(c1 c2:String)(l1 l2:Addr):Heap:=(h.push (gH c1 l1)).push (gH c2 l2)
abbrev qD(h:Heap)(c1 c2:String)(l1 l2:Addr):Heap:=(qE h c1 c2 l1 l2).push { cls:=.type "tuple",data:=.seq #[.ref h.objs.size,.ref (h.push (gH c1 l1)).objs.size] }
abbrev ju(h:Heap)(c1 c2:String)(l1 l2:Addr):Heap:=(qD h c1 c2 l1 l2).push { cls:=.type "tuple",data:=.seq #[.none,.none] }
abbrev iu(h:Heap)(c1 c2:String)(l1 l2:Addr):Heap:=(ju h c1 c2 l1 l2).push { cls:=.type "zip",data:=.fields #[.none,.bool false,.bool false,.ref (qE h c1 c2 l1 l2).objs.size,.ref (qD h c1 c2 l1 l2).objs.size] }
theorem Df{h:Heap}{a:Addr}{xs:Array b_}(x:h.IsTuple a xs)(o:Obj):(h.push o).IsTuple a xs:=let⟨u,hu,r⟩:=x;⟨u,e_ _ hu,r⟩
theorem M7(l1 l2:Addr)(xs ys:Array b_):Meets (Tx.«zip.__new__» ⟨[.type "zip",.ref l1,.ref l2],[]⟩) (fun _ R s=>s.heap.IsList l1 xs/\s.heap.IsList l2 ys /\R (.ok (.ret (.ref (ju s.heap "list_iterator" "list_iterator" l1 l2).objs.size))) { s with heap:=iu s.heap "list_iterator" "list_iterator" l1 l2 }):=
 .of_wp fun prog w A R s h=>by
  obtain⟨hp,gg,dd,tk,os⟩:=s;obtain⟨q1,q2,h⟩:=h;have hsub:=Ya;have e1:Vq (RY ⟨hp,gg,dd,tk,os⟩) l1 xs:=q1;have e2:Vq (RY ⟨hp.push (gH "list_iterator" l1),gg,dd,tk,os⟩) l2 ys:=Wt q2 _
  wp_walk using RI e1,RI e2
  exact⟨_,rfl,h⟩
theorem M9(l1 l2:Addr)(xs ys:Array b_):Meets (Tx.«zip.__new__» ⟨[.type "zip",.ref l1,.ref l2],[]⟩) (fun _ R s=>s.heap.IsTuple l1 xs/\s.heap.IsList l2 ys /\R (.ok (.ret (.ref (ju s.heap "tuple_iterator" "list_iterator" l1 l2).objs.size))) { s with heap:=iu s.heap "tuple_iterator" "list_iterator" l1 l2 }):=
 .of_wp fun prog w A R s h=>by
  obtain⟨hp,gg,dd,tk,os⟩:=s;obtain⟨q1,q2,h⟩:=h;have hsub:=Ya;have e1:Ua (RY ⟨hp,gg,dd,tk,os⟩) l1 xs:=q1;have e2:Vq (RY ⟨hp.push (gH "tuple_iterator" l1),gg,dd,tk,os⟩) l2 ys:=Wt q2 _
  wp_walk using Qz e1,RI e2
  exact⟨_,rfl,h⟩
theorem Na(l1 l2:Addr)(xs ys:Array b_):Meets (Tx.«zip.__new__» ⟨[.type "zip",.ref l1,.ref l2],[]⟩) (fun _ R s=>s.heap.IsTuple l1 xs/\s.heap.IsTuple l2 ys /\R (.ok (.ret (.ref (ju s.heap "tuple_iterator" "tuple_iterator" l1 l2).objs.size))) { s with heap:=iu s.heap "tuple_iterator" "tuple_iterator" l1 l2 }):=
 .of_wp fun prog w A R s h=>by
  obtain⟨hp,gg,dd,tk,os⟩:=s;obtain⟨q1,q2,h⟩:=h;have hsub:=Ya;have e1:Ua (RY ⟨hp,gg,dd,tk,os⟩) l1 xs:=q1;have e2:Ua (RY ⟨hp.push (gH "tuple_iterator" l1),gg,dd,tk,os⟩) l2 ys:=Df q2 _
  wp_walk using Qz e1,Qz e2
  exact⟨_,rfl,h⟩
theorem M8(l1 l2:Addr)(xs ys:Array b_):Meets (Tx.«zip.__new__» ⟨[.type "zip",.ref l1,.ref l2],[]⟩) (fun _ R s=>s.heap.IsList l1 xs/\s.heap.IsTuple l2 ys /\R (.ok (.ret (.ref (ju s.heap "list_iterator" "tuple_iterator" l1 l2).objs.size))) { s with heap:=iu s.heap "list_iterator" "tuple_iterator" l1 l2 }):=
 .of_wp fun prog w A R s h=>by
  obtain⟨hp,gg,dd,tk,os⟩:=s;obtain⟨q1,q2,h⟩:=h;have hsub:=Ya;have e1:Vq (RY ⟨hp,gg,dd,tk,os⟩) l1 xs:=q1;have e2:Ua (RY ⟨hp.push (gH "list_iterator" l1),gg,dd,tk,os⟩) l2 ys:=Df q2 _
  wp_walk using RI e1,Qz e2
  exact⟨_,rfl,h⟩
section
variable{prog:B_}{w:PP}{A:P8}{E:b_->h_->Prop}{s:h_}
def hJ(s:h_)(c1 c2:String)(l1 l2:Addr)(Q:b_->h_->Prop):Prop:=∀h',Uj h' (s.heap.objs.size+4) (s.heap.objs.size+2) (s.heap.objs.size+3) .none->RP h' (s.heap.objs.size+2) (.ref s.heap.objs.size) (.ref (s.heap.objs.size+1)) ->RP h' (s.heap.objs.size+3) .none .none->h'.get? s.heap.objs.size=some (gH c1 l1)->h'.get? (s.heap.objs.size+1)=some (gH c2 l2) ->(∀c o,s.heap.get? c=some o->h'.get? c=some o)->Q (.ref (s.heap.objs.size+4)) { s with heap:=h' }
theorem pX{c1 c2:String}{l1 l2:Addr}{Q:b_->h_->Prop}(h:hJ s c1 c2 l1 l2 Q):(∃o,(iu s.heap c1 c2 l1 l2).get? (ju s.heap c1 c2 l1 l2).objs.size=some o/\o.cls=.type "zip")/\Q (.ref (ju s.heap c1 c2 l1 l2).objs.size) { s with heap:=iu s.heap c1 c2 l1 l2 }:=by
 have z1:(s.heap.push (gH c1 l1)).objs.size=s.heap.objs.size+1:=Qj ..;have z2:(qE s.heap c1 c2 l1 l2).objs.size=s.heap.objs.size+2:=by rw[Qj,z1]
 have z3:(qD s.heap c1 c2 l1 l2).objs.size=s.heap.objs.size+3:=by rw[Qj,z2]
 have z4:(ju s.heap c1 c2 l1 l2).objs.size=s.heap.objs.size+4:=by rw[Qj,z3]
 have g5:(iu s.heap c1 c2 l1 l2).get? (ju s.heap c1 c2 l1 l2).objs.size=some _:=w_ _ rfl;have g4:(iu s.heap c1 c2 l1 l2).get? (qD s.heap c1 c2 l1 l2).objs.size=some _:=e_ _ (w_ _ rfl);have g3:(iu s.heap c1 c2 l1 l2).get? (qE s.heap c1 c2 l1 l2).objs.size=some _:=e_ _ (e_ _ (w_ _ rfl));have g2:(iu s.heap c1 c2 l1 l2).get? (s.heap.push (gH c1 l1)).objs.size=some (gH c2 l2):=e_ _ (e_ _ (e_ _ (w_ _ rfl)));have g1:(iu s.heap c1 c2 l1 l2).get? s.heap.objs.size=some (gH c1 l1):=e_ _ (e_ _ (e_ _ (e_ _ (w_ _ rfl))));rw[z2,z3,z4]at g5;rw[z1,z2]at g3;rw[z3]at g4;rw[z1]at g2;rw[z4];exact⟨⟨_,g5,rfl⟩,h _ g5 g3 g4 g1 g2 fun c o x=>e_ _ (e_ _ (e_ _ (e_ _ (e_ _ x))))⟩
theorem Lc{l1 l2:Addr}{xs ys:Array b_}{Q:b_->h_->Prop}(q1:s.heap.IsList l1 xs)(q2:s.heap.IsList l2 ys)(h:hJ s "list_iterator" "list_iterator" l1 l2 Q):D_ (O_ prog w) A (call (.type "zip") [.ref l1,.ref l2]) Q E s:=Ub F.called_zip (by decide) (F.typeCall_zip_2 _ _) (F.newCall_zip_2 _ _) (fun obj=>F.args_object_init_3 obj _ _) F.entry_zip_new (M7 l1 l2 xs ys) ⟨q1,q2,pX h⟩
theorem Lf{l1 l2:Addr}{xs ys:Array b_}{Q:b_->h_->Prop}(q1:s.heap.IsTuple l1 xs)(q2:s.heap.IsList l2 ys)(h:hJ s "tuple_iterator" "list_iterator" l1 l2 Q):D_ (O_ prog w) A (call (.type "zip") [.ref l1,.ref l2]) Q E s:=Ub F.called_zip (by decide) (F.typeCall_zip_2 _ _) (F.newCall_zip_2 _ _) (fun obj=>F.args_object_init_3 obj _ _) F.entry_zip_new (M9 l1 l2 xs ys) ⟨q1,q2,pX h⟩
theorem Lg{l1 l2:Addr}{xs ys:Array b_}{Q:b_->h_->Prop}(q1:s.heap.IsTuple l1 xs)(q2:s.heap.IsTuple l2 ys)(h:hJ s "tuple_iterator" "tuple_iterator" l1 l2 Q):D_ (O_ prog w) A (call (.type "zip") [.ref l1,.ref l2]) Q E s:=Ub F.called_zip (by decide) (F.typeCall_zip_2 _ _) (F.newCall_zip_2 _ _) (fun obj=>F.args_object_init_3 obj _ _) F.entry_zip_new (Na l1 l2 xs ys) ⟨q1,q2,pX h⟩
theorem Ld{l1 l2:Addr}{xs ys:Array b_}{Q:b_->h_->Prop}(q1:s.heap.IsList l1 xs)(q2:s.heap.IsTuple l2 ys)(h:hJ s "list_iterator" "tuple_iterator" l1 l2 Q):D_ (O_ prog w) A (call (.type "zip") [.ref l1,.ref l2]) Q E s:=Ub F.called_zip (by decide) (F.typeCall_zip_2 _ _) (F.newCall_zip_2 _ _) (fun obj=>F.args_object_init_3 obj _ _) F.entry_zip_new (M8 l1 l2 xs ys) ⟨q1,q2,pX h⟩
end
end
def eU(K:W.Frag)(t:Bool)(a:Addr)(H:Hp)(xs:List V):Prop:=match t with
|false=>aV K H a xs
|true=>bO K H a xs
def kC(t:Bool)(a u:Addr)(i:Nat)(h:Heap):Prop:=match t with
|false=>h.IsListIter u a i
|true=>h.IsTupleIter u a i
abbrev yX(t:Bool):String:=match t with
|false => "list_iterator"
|true => "tuple_iterator"
theorem Cn{t:Bool}{a u:Addr}{h:Heap}(e:h.get? u=some (gH (yX t) a)):kC t a u 0 h:=by cases t <;> exact⟨_,e,rfl,rfl⟩
theorem qp{t:Bool}{a u:Addr}{i:Nat}{h:Heap}(e:kC t a u i h):∃o,h.get? u=some o/\∀v,o.data≠.cell v:=by cases t <;> (obtain⟨o,ho,hc,hd⟩:=e;exact⟨o,ho,fun v z=>by rw[hd]at z;cases z⟩)
theorem qw{t:Bool}{a u:Addr}{i:Nat}{h h':Heap}(e:kC t a u i h)(k:∀o,h.get? u=some o->h'.get? u=some o):kC t a u i h':=by cases t <;> (obtain⟨o,ho,r⟩:=e;exact⟨o,k o ho,r⟩)
section
variable{X:Cx}{pz:List (Addr×Obj)}{σ:L2.St}{H:Hp}{s:h_}{t:Bool}{a u:Addr}{xs ys:List V}{i:Nat}
theorem pw(I:Inv X pz σ H s)(hc:X.calm=true)(hq:eU X.K t a H xs)(hau:a≠u)(hi:kC t a u i s.heap):∃(its:List b_)(St:Nat->Heap->Prop),al xs its/\VH X.prog X.w X.A.in1 u [u,a] its.toArray.size (fun i v=>its.toArray[i]? = some v) St/\St i s.heap/\∀j h',St j h'->kC t a u j h':=by cases t with
|false=>obtain⟨its,rv,p,hz⟩:=I.list hq;exact⟨its,_,rv,W9 (A:=X.A.in1) (show X.A.in1.handled=none from I.ok.hd hc) u a hau its.toArray,⟨hi,p.isList⟩,fun j h' st=>st.1⟩
|true=>obtain⟨its,rv,p,hz⟩:=I.tuple hq;exact⟨its,_,rv,sP (A:=X.A.in1) (show X.A.in1.handled=none from I.ok.hd hc) u a hau its.toArray,⟨hi,p⟩,fun j h' st=>st.1⟩
theorem CB(I:Inv X pz σ H s)(h1:eU X.K t a H xs)(h2:eU X.K t a H ys):xs=ys:=by cases t with
|false=>exact I.list_inj h1 h2
|true=>exact I.tuple_inj h1 h2
theorem DP(I:Inv X pz σ H s)(h1:eU X.K t a H xs):a<s.heap.objs.size:=by cases t with
|false=>obtain⟨its,rv,p,hz⟩:=I.list h1;obtain⟨o,ho,_⟩:=p.isList;exact x_ ho
|true=>obtain⟨its,rv,p,hz⟩:=I.tuple h1;obtain⟨o,ho,_⟩:=id p;exact x_ ho
theorem Ni{h':Heap}{ch:List Addr}{t':Nat}(I:Inv X pz σ H s)(hch:∀b∈ch,cS X pz H b)(k:∀b ob,b∉ch->s.heap.get? b=some ob->h'.get? b=some ob):Inv X pz σ H { s with heap:=h',toks:=t' }:=by
 have trk:∀b u,H b=some u->b∉ch:=fun b u e hb=>by rw[(hch b hb).1]at e;cases e
 refine I.step (g':=s.gens) (d':=s.drawn) (ch:=ch) (fun b hb=>?_) (fun b ob _ _ hc e _=>k b ob hc e) (fun b ob _ _ hc e _=>⟨ob.slots,k b ob hc e⟩) (fun b ob hc e n=>n)
  (fun b ob hc e=>⟨ob,k b ob hc e⟩) (fun b xs e=>e) (fun b ob u e=>e) (fun b ps e=>⟨#[],by rw[e];simp⟩) (fun m hm=>?_) (fun b u e=>?_) I.bare
 .obtain⟨z0,z1,z2,z3,z4,z5⟩:=hch b hb;exact⟨z3,z1,z4,z5⟩
 .obtain⟨ob,es,ep,ho,r⟩:=hm;exact⟨ob,es,ep,k _ ob (fun hb=>(hch _ hb).2.1 rfl) ho,r⟩
 .refine(I.hok b u e).stay (fun c v hc q=>k c v ?_ q) (fun c q=>q) fun c xs q=>q;rcases hc with z|z
  .rw[z];exact trk b u e
  .exact trk c _ z
end
def sd(sq1 sq2:Hp->List V->Prop):It:=⟨fun i H=>∃xs ys x y,sq1 H xs/\sq2 H ys/\xs[i]? = some x/\ys[i]? = some y,fun i H x H'=>∃p v u,H p=none/\x=.ref p/\H'=upd H p (.tup [v,u])/\(∀xs,sq1 H xs->xs[i]? = some v)/\∀ys,sq2 H ys->ys[i]? = some u,fun i H=>∃xs ys,sq1 H xs/\sq2 H ys/\min xs.length ys.length=i⟩
theorem Mg{P:B_}{w:PP}{H:Hp}{h:Heap}{T:Addr}{x y:b_}{v u:V}(hT:h.get? T=some { cls:=.type "tuple",data:=.seq #[x,y] })(r1:L2.ar v x)(r2:L2.ar u y):bZ P w H h T (.tup [v,u]):=⟨by show 2<=sizeLine;decide,[x,y],.cons r1 (.cons r2 .nil),⟨_,hT,rfl,0,rfl⟩,_,hT,rfl⟩
theorem ML{P:B_}{w:PP}{K:W.Frag}{elts:List Expr}{k:Nat}{pos:Pos}{t1 t2:Bool}(a b zp ti to u1 u2:Addr)(Z:ZA zp ti to u1 u2 [u1,a] [u2,b])(h1:a≠u1)(h2:b≠u2):Turn P w K (.Tuple elts k pos) (sd (eU K t1 a) (eU K t2 b)) [zp,ti,to,u1,u2] zp (fun i h=>Uj h zp ti to .none/\RP h ti (.ref u1) (.ref u2)/\(∃p q,RP h to p q)/\kC t1 a u1 i h/\kC t2 b u2 i h) where
 mem:=by simp
 obj:=fun i h st c hc=>by
  obtain⟨hz,hi,⟨p,q,ho⟩,s1,s2⟩:=st;simp only[q_,Ql,or_false]at hc;rcases hc with rfl|rfl|rfl|rfl|rfl
  .exact⟨_,hz,fun v z=>by have z':Data.fields _=Data.cell v:=z;cases z'⟩
  .exact⟨_,hi,fun v z=>by have z':Data.seq _ _=Data.cell v:=z;cases z'⟩
  .exact⟨_,ho,fun v z=>by have z':Data.seq _ _=Data.cell v:=z;cases z'⟩
  .exact qp s1
  .exact qp s2
 keep:=fun i h h' st kk=>by obtain⟨hz,hi,⟨p,q,ho⟩,s1,s2⟩:=st;exact⟨kk zp (by simp) _ hz,kk ti (by simp) _ hi,⟨p,q,kk to (by simp) _ ho⟩,qw s1 fun o e=>kk u1 (by simp) o e,qw s2 fun o e=>kk u2 (by simp) o e⟩
 item:=by
  intro X hP hw hK hc i pz s σ H E I hf st hg;subst hP hw hK;obtain⟨xs,ys,x,y,q1,q2,hx,hy⟩:=hg;obtain⟨hz,hi,⟨p,q,ho⟩,s1,s2⟩:=st;obtain⟨its1,St1,rv1,D1,d1,f1⟩:=pw I hc q1 h1 s1;obtain⟨its2,St2,rv2,D2,d2,f2⟩:=pw I hc q2 h2 s2;have l1:i<its1.toArray.size:=by have:=(k_.mp hx).1;rw[s_,<-rv1.length];exact this
  have l2:i<its2.toArray.size:=by have:=(k_.mp hy).1;rw[s_,<-rv2.length];exact this
  refine Od Z D1 D2 hz hi ho d1 d2 l1 l2 fun vx vy h' tk px py hz' hto' st1' st2' hT hsz hk=>⟨_,rfl,wpAny_letOwnedTupleGo_zip hz' fun h'' hz'' hs''=>?_⟩
  obtain⟨wx,e1,r1⟩:=rv1.get hx;obtain⟨wy,e2,r2⟩:=rv2.get hy;have ex:vx=wx:=by
   have:its1[i]? = some vx:=by simpa using px
   rw[e1]at this;exact(PJ this).symm
  have ey:vy=wy:=by
   have:its2[i]? = some vy:=by simpa using py
   rw[e2]at this;exact(PJ this).symm
  subst ex ey;have nT:∀c o,s.heap.get? c=some o->s.heap.objs.size≠c:=fun c o e=>Q7 (x_ e);have hT'':h''.get? s.heap.objs.size=some { cls:=.type "tuple",data:=.seq #[vx,vy] }:=(hs''.2 _ (nT _ _ hz)).trans hT;obtain⟨o1,ho1,_⟩:=qp s1;obtain⟨o2,ho2,_⟩:=qp s2;refine⟨.ref s.heap.objs.size,upd H s.heap.objs.size (.tup [x,y]),vP (s:=s) (h':=h'') (t':=tk) (ch:=[zp,to,u1,u2]) I (fun c hc=>hf c ?_) (fun c ob hb e=>?_) (u_ _) (Mg hT'' r1 r2),rfl,⟨_,x,y,I.hok.fresh (u_ _),rfl,rfl,fun zs hz=>by rw[CB I hz q1];exact hx,fun zs hz=>by rw[CB I hz q2];exact hy⟩,⟨hz'',?_,⟨vx,vy,?_⟩,?_,?_⟩,fun c hc=>?_⟩
  .simp only[q_,Ql,or_false]at hc ⊢;rcases hc with rfl|rfl|rfl|rfl <;> simp
  .simp only[q_,Ql,or_false,not_or]at hb;exact(hs''.2 c hb.1).trans (hk c ob hb.1 hb.2.1 hb.2.2.1 hb.2.2.2 e)
  .exact(hs''.2 _ Z.a1).trans (hk _ _ Z.a1 Z.a8.1 Z.a8.2.1 Z.a8.2.2 hi)
  .exact(hs''.2 _ Z.a2).trans hto'
  .exact qw (f1 _ _ st1') fun o e=>(hs''.2 _ Z.a3).trans e
  .exact qw (f2 _ _ st2') fun o e=>(hs''.2 _ Z.a4).trans e
  .rw[bf ?_]
   .exact(hf c hc).1
   .simp only[q_,Ql,or_false]at hc;rcases hc with rfl|rfl|rfl|rfl|rfl
    .exact(nT _ _ hz).symm
    .exact(nT _ _ hi).symm
    .exact(nT _ _ ho).symm
    .exact(nT _ _ ho1).symm
    .exact(nT _ _ ho2).symm
 done:=by
  intro X hP hw hK hc i pz s σ H E I hf st hg;subst hP hw hK;obtain⟨xs,ys,q1,q2,hm⟩:=hg;obtain⟨hz,hi,⟨p,q,ho⟩,s1,s2⟩:=st;obtain⟨its1,St1,rv1,D1,d1,f1⟩:=pw I hc q1 h1 s1;obtain⟨its2,St2,rv2,D2,d2,f2⟩:=pw I hc q2 h2 s2;have l1:=rv1.length;have l2:=rv2.length;refine OV Z D1 D2 hz hi ho d1 d2 ?_ fun h' tk hk=>⟨rfl,Ni (h':=h') (t':=tk) (ch:=[zp,to,u1,u2]) I (fun c hc=>hf c ?_) fun c ob hb e=>?_⟩
  .rw[s_,s_];omega
  .simp only[q_,Ql,or_false]at hc ⊢;rcases hc with rfl|rfl|rfl|rfl <;> simp
  .simp only[q_,Ql,or_false,not_or]at hb;exact hk c ob hb.1 hb.2.1 hb.2.2.1 hb.2.2.2 e
 self:=fun _ _ _ _ _ st h=>Wu st.1 h
def gW(fa fb:FE):FI:=fun r=>(fa r).bind fun d=>(fb r).bind fun e=>(bS (bJ d)).bind fun ds=>(bS (bJ e)).bind fun es=>.ok (S_ (fun a b=>D.tup [a,b]) ds es)
theorem MN{α β γ:Type}(f:α->β->γ):∀(l:List α)(r:List β)(i:Nat),(S_ f l r)[i]? = (match l[i]?,r[i]? with|some a,some b=>some (f a b)|_,_=>none):=fun l r i=>by rw[Ti];cases l[i]? <;> cases r[i]? <;> rfl
theorem Jd{K:W.Frag}{ds es:List D}{G0:GH}{sq1 sq2:Hp->List V->Prop}(h1:∀G H,aH G0 G->aM K G H->∃xs,sq1 H xs/\bA K G xs ds)(h2:∀G H,aH G0 G->aM K G H->∃xs,sq2 H xs/\bA K G xs es):Yields K (sd sq1 sq2) (S_ (fun a b=>D.tup [a,b]) ds es) G0:=by
 refine⟨fun G H i w gk hi=>?_,fun G H i x H' d w gk y e=>?_,fun G H w gk=>?_⟩
 .obtain⟨xs,s1,r1⟩:=h1 G H w gk;obtain⟨ys,s2,r2⟩:=h2 G H w gk;rw[T4]at hi;have l1:=Paired.length r1;have l2:=Paired.length r2;exact⟨xs,ys,xs[i]'(by omega),ys[i]'(by omega),s1,s2,i_ _,i_ _⟩
 .obtain⟨xs,s1,r1⟩:=h1 G H w gk;obtain⟨ys,s2,r2⟩:=h2 G H w gk;obtain⟨p,v,u,hp,rfl,rfl,hv,hu⟩:=y;rw[MN]at e;cases e1:ds[i]? with
 |none=>rw[e1]at e;cases e
 |some d1=>cases e2:es[i]? with
  |none=>rw[e1,e2]at e;cases e
  |some d2=>rw[e1,e2]at e;cases e;obtain⟨v',z1,rv⟩:=Paired.get r1 e1;obtain⟨u',z2,ru⟩:=Paired.get r2 e2;have a1:=hv xs s1;have a2:=hu ys s2;rw[z1]at a1;cases a1;rw[z2]at a2;cases a2;exact⟨_,Grow.newF gk hp (.tup (.inl ce) (.cons rv (.cons ru .nil))),.ref cM⟩
 .obtain⟨xs,s1,r1⟩:=h1 G H w gk;obtain⟨ys,s2,r2⟩:=h2 G H w gk;refine⟨xs,ys,s1,s2,?_⟩;rw[T4,Paired.length r1,Paired.length r2]
section
variable{X:Cx}{g:GE}{m:List Md}{e1 e2:Expr}{fa fb:FE}{pos p pos2:Pos}{elts:List Expr}{kk:Nat}
theorem Kt{pz:List (Addr×Obj)}{σ:L2.St}{H:Hp}{s:h_}{t1 t2:Bool}{a b:Addr}{xs ys:List V}{E:b_->h_->Prop}{Q:b_->h_->Prop}(I:Inv X pz σ H s)(q1:eU X.K t1 a H xs)(q2:eU X.K t2 b H ys)(h:hJ s (yX t1) (yX t2) a b Q):D_ (O_ X.prog X.w) X.A (call (.type "zip") [.ref a,.ref b]) Q E s:=by cases t1 with
|false=>obtain⟨its1,_,p1,_⟩:=I.list q1;cases t2 with
 |false=>obtain⟨its2,_,p2,_⟩:=I.list q2;exact Lc p1.isList p2.isList h
 |true=>obtain⟨its2,_,p2,_⟩:=I.tuple q2;exact Ld p1.isList (show s.heap.IsTuple b its2.toArray from p2) h
|true=>obtain⟨its1,_,p1,_⟩:=I.tuple q1;cases t2 with
 |false=>obtain⟨its2,_,p2,_⟩:=I.list q2;exact Lf (show s.heap.IsTuple a its1.toArray from p1) p2.isList h
 |true=>obtain⟨its2,_,p2,_⟩:=I.tuple q2;exact Lg (show s.heap.IsTuple a its1.toArray from p1) (show s.heap.IsTuple b its2.toArray from p2) h
theorem iW{x y:Nat}(h:x≠y):(show Addr from x)≠(show Addr from y):=h
theorem mh{x u a:Nat}(h1:x≠u)(h2:x≠a):(show Addr from x)∉[(show Addr from u),(show Addr from a)]:=fun h=>by
 rcases q_.mp h with h|h
 .exact h1 h
 .exact h2 (y_.mp h)
theorem Je{a b k:Nat}(la:a<k)(lb:b<k):ZA (show Addr from k+4) (show Addr from k+2) (show Addr from k+3) (show Addr from k) (show Addr from k+1) [(show Addr from k),(show Addr from a)] [(show Addr from k+1),(show Addr from b)]:=⟨iW (by omega),iW (by omega),iW (by omega),iW (by omega),iW (by omega),iW (by omega),iW (by omega),⟨iW (by omega),iW (by omega),iW (by omega)⟩,⟨mh (by omega) (by omega),mh (by omega) (by omega),mh (by omega) (by omega)⟩,⟨mh (by omega) (by omega),mh (by omega) (by omega),mh (by omega) (by omega)⟩⟩
theorem GV{c k:Nat}(h:c=k+4\/c=k+2\/c=k+3\/c=k\/c=k+1):k<=c:=by omega
theorem HU{ta tb:TE}(hg:Gl X "zip")(hm:X.mg "zip" = none)(ha:PE X e1 ta)(hb:PE X e2 tb)(hs:l_ [e1,e2] X.env=(false,eval e1 X.env)::l_ [e2] X.env:=by rfl)(hs2:l_ [e2] X.env=(false,eval e2 X.env)::l_ [] X.env:=by rfl)(hpl:(backTo pos (l_ [e2] X.env)).any (·.1)=false:=by rfl):PI X (.Tuple elts kk pos2) (.Call (.Name "zip" p) [e1,e2] [] pos) (fun σ H R=>ta σ H fun x H1=>tb σ H1 fun y H2=>∃(t1 t2:Bool)(a b:Addr),x=.ref a/\y=.ref b/\(∃xs,eU X.K t1 a H2 xs)/\(∃ys,eU X.K t2 b H2 ys)/\R (sd (eU X.K t1 a) (eU X.K t2 b)) H2):=by
 intro pz s σ H R I h;refine Call_ (kg I hg hm boot_zip (QK (aL (dS ha (dS hb iz hs2) hs pos pz s σ H (fun vs H2=>match vs with
 |[x,y]=>∃(t1 t2:Bool)(a b:Addr),x=.ref a/\y=.ref b/\(∃xs,eU X.K t1 a H2 xs)/\(∃ys,eU X.K t2 b H2 ys)/\R (sd (eU X.K t1 a) (eU X.K t2 b)) H2
 |_=>False) I h) fun us s1 ⟨vs,H1,I1,r1,q1⟩=>?_) hs hpl))
 cases r1 with
|nil=>exact q1.elim
|@cons x u xs us rx rt=>cases rt with
|nil=>exact q1.elim
|@cons y u' xs' us' ry rt'=>cases rt' with
|cons _ _=>exact q1.elim
|nil=>
 obtain⟨t1,t2,a,b,rfl,rfl,⟨zs,z1⟩,⟨ws,z2⟩,q⟩:=q1;cases rx;cases ry;have la:=DP I1 z1;have lb:=DP I1 z2;refine Kt I1 z1 z2 fun h' hz hi ho o1 o2 kp=>Wu hz ?_;refine⟨_,[s1.heap.objs.size+4,s1.heap.objs.size+2,s1.heap.objs.size+3,s1.heap.objs.size,s1.heap.objs.size+1],_,_,H1,rfl,I1.kept (t':=s1.toks) kp,ML (t1:=t1) (t2:=t2) a b _ _ _ _ _ (Je la lb) (PH la) (PH (Rh lb)),⟨hz,hi,⟨_,_,ho⟩,Cn o1,Cn o2⟩,fun c hc=>?_,q⟩;have hge:s1.heap.objs.size<=c:=by simp only[q_,Ql,or_false]at hc;exact GV hc
 exact I1.fpOk hge (I1.hok.fresh hge)
theorem zB(hg:Gl X "zip")(hm:X.mg "zip" = none)(ha:SE X g m e1 fa)(hb:SE X g m e2 fb)(hs:l_ [e1,e2] X.env=(false,eval e1 X.env)::l_ [e2] X.env:=by rfl)(hs2:l_ [e2] X.env=(false,eval e2 X.env)::l_ [] X.env:=by rfl)(hpl:(backTo pos (l_ [e2] X.env)).any (·.1)=false:=by rfl):dZ X g m (.Tuple elts kk pos2) (.Call (.Name "zip" p) [e1,e2] [] pos) (gW fa fb):=by
 refine PI.imp (HU hg hm ha hb hs hs2 hpl) fun σ H R ⟨r,G,si,q⟩=>⟨r,G,si,aP (aS q) fun d q v G1 H1 w1 rv=>⟨r,G1,si.grow w1,?_⟩⟩
 refine eS (aS q) w1 fun e q u G2 H2 w2 ru=>?_;obtain⟨ds,ed,q⟩:=cn (aS q);obtain⟨es,ee,q⟩:=cn (aS q);have rv2:=rv.mono w2.ge;have one:∀{v:V}{d:D}{ds:List D},RG X.K G2 v d->bJ d=some ds->∃(t:Bool)(a:Addr),v=.ref a/\(∃xs,eU X.K t a H2 xs)/\∀G H,aH G2 G->aM X.K G H->∃xs,eU X.K t a H xs/\bA X.K G xs ds:=by intro v d ds rv ed;cases d with
 |lst ds'=>cases ed;obtain⟨a,xs,rfl,s,rs⟩:=rv.lst w2.ok;refine⟨false,a,rfl,⟨xs,s⟩,fun G H le gk=>?_⟩;obtain⟨b,ys,e,s',r'⟩:=(rv.mono le).lst gk;cases e;exact⟨ys,s',r'⟩
 |tup ds'=>cases ed;obtain⟨a,xs,rfl,s,rs⟩:=rv.tup w2.ok;refine⟨true,a,rfl,⟨xs,s⟩,fun G H le gk=>?_⟩;obtain⟨b,ys,e,s',r'⟩:=(rv.mono le).tup gk;cases e;exact⟨ys,s',r'⟩
 |_=>cases ed
 obtain⟨t1,a,rfl,x1,y1⟩:=one rv2 ed;obtain⟨t2,b,rfl,x2,y2⟩:=one ru ee;exact⟨t1,t2,a,b,rfl,rfl,x1,x2,q _ G2 H2 (w1.trans w2) (Jd y1 y2)⟩
end
def lV:Nat:=2^2000
def lW(i j:Int):Prop:=i.natAbs<lV/\j.natAbs<lV
def pk(_i j:Int):Prop:=0<j/\j.natAbs<lV
instance decMulW(i j:Int):Decidable (lW i j):=by unfold lW;infer_instance
instance decDivW(i j:Int):Decidable (pk i j):=by unfold pk;infer_instance
theorem BQ{i:Int}(h:i.natAbs<lV):So i<=2000:=by
 unfold So;split
 .exact Qa _
 .rename_i z;have h0:i.natAbs≠0:=fun e=>z (by rw[Int.natAbs_eq_zero.mp e];rfl);have:=(Yh h0).mpr h;omega
theorem lW.ok{i j:Int}(h:lW i j):IntMulOk i j:=by
 have h1:=BQ h.1;have h2:=BQ h.2;unfold IntMulOk;have e:Vh ((So i:Int)+(So j:Int))=false:=by
  unfold Vh;have:((bitsLine:Nat):Int)=134217728:=by decide+kernel
  exact decide_eq_false (by omega)
 rw[e];simp
theorem JU:aT X (Rq .Mult) (rI lW fun i j=>.int (i*j)):=mP fun _ _ _ _ _ _ _ hc q=>mul_int q hc.ok
theorem Mf:aT X (Rq .FloorDiv) (rI pk fun i j=>.int (i/j)):=mP fun i j _ _ _ _ _ hc q=>by
 have h1:(0:Int)<j:=hc.1;have h2:j.natAbs<lV:=hc.2;have h0:j.natAbs≠0:=by omega
 have:=(Yh h0).mpr h2;exact floordiv_int (by omega) (by rw[Ue i (by omega)];exact q) (.inl (PyProof.noPylong_of_log2 (by omega)))
abbrev cy:D->D->Option D:=iq lW fun a b=>.int (a*b)
abbrev kN:D->D->Option D:=iq pk fun a b=>.int (a/b)
section
variable{X:Cx}{g:GE}{m:List Md}{e a b c o:Expr}{es:List Expr}{f fa fb fc fo:FE}{fl:ak->Res (List D)}{pos p apos cpos:Pos}
theorem gL(ha:SB X g m a fa)(hb:SB X g m b fb):SE X g m (.BinOp a .Mult b pos) (f2 fa fb cy):=jl JU (mw fun _ _=>.int _) ha hb
theorem qc(ha:SB X g m a fa)(hb:SB X g m b fb):SE X g m (.BinOp a .FloorDiv b pos) (f2 fa fb kN):=jl Mf (mw fun _ _=>.int _) ha hb
def absD:List D->Option D
|[.int i]=>some (.int (if i<0 then-i else i))
|_=>none
theorem Hi{K:W.Frag}:lX K (fun xs H Q=>∃i:Int,xs=[.int i]/\Q (.int (if i<0 then-i else i)) H) absD:=by
 intro G H vs ds d Q gk rs e q;unfold absD at e;split at e
 .cases e;cases rs with
 |cons r1 t=>cases t;exact⟨_,by rw[r1.int gk],q _ G H (Grow.refl gk) (.scl (.int _))⟩
 .cases e
theorem Aj(hg:Gl X "abs")(hm:X.mg "abs" = none)(ha:g6 X g m (e::es) fl)(he:l_ (e::es) X.env=(false,eval e X.env)::l_ es X.env:=by rfl)(hpl:(backTo pos (l_ es X.env)).any (·.1)=false:=by rfl):SE X g m (.Call (.Name "abs" p) (e::es) [] pos) (fC fl absD):=gP Hi (my K8 hg hm PyProof.Rows.boot_abs ha (by decide) (by decide) he hpl)
theorem kU{x:Str}{d:D}(hg:Gl X x)(hk:∃a,X.mg x=some (.ref a)/\KC X.K a d)(hd:(x==("__debug__" : Str))=false:=by decide):SE X g m (.Name x pos) fun _=>.ok d:=by obtain⟨a,hm,k⟩:=hk;exact PE.imp (B4 (v:=.ref a) hg hm rfl hd) fun σ H Q ⟨r,G,si,q⟩=>q (.ref a) G H (Grow.refl si.gok) (.kc k)
theorem Kz{x:Str}{i:Int}(hg:Gl X x)(hk:∃t,X.mg x=some (.int i t))(hd:(x==("__debug__" : Str))=false:=by decide):SE X g m (.Name x pos) fun _=>.ok (.int i):=by obtain⟨t,hm⟩:=hk;exact Jm (v:=.int i) hg hm ⟨t,rfl⟩ (.int i) hd
theorem GF{K:W.Frag}{h:Heap}{mg:Str->Option b_}{x:Str}(KX:K.In h)(G:h.Ns Qo mg){i:Int}{t:Tok}(z:W.nsIn K Qo x=some (some (.int i t))):∃t,mg x=some (.int i t):=⟨t,W.mg_of KX G z⟩
theorem zx{K:W.Frag}{h:Heap}{mg:Str->Option b_}{x:Str}(KX:K.In h)(G:h.Ns Qo mg){a:Addr}{i j:Int}{t u:Tok}{n:Nat}{sl:Array (Option b_)}(z:W.nsIn K Qo x=some (some (.ref a)))(l:K.lookup a=some ⟨.type "tuple",none,.seq #[.int i t,.int j u] n,sl⟩):∃a,mg x=some (.ref a)/\KC K a (.tup [.int i,.int j]):=by refine⟨a,W.mg_of KX G z,.tup (xs:=[.int i,.int j]) (.inr ⟨_,_,_,l,rfl,rfl,?_,.cons ⟨_,rfl⟩ (.cons ⟨_,rfl⟩ .nil)⟩) (.cons (.int _) (.cons (.int _) .nil)) ⟨_,l,rfl,rfl⟩⟩;show 2<=sizeLine;rw[Qf];decide
def CH(K:W.Frag):V->List V->Hp->VK->Prop:=fun x vs H Q=>∃p xs y,x=.ref p/\vs=[y]/\aV K H p xs/\fT y=true/\xs.all fT=true/\Q (.int ((xs.countP fun z=>fw z y:Nat):Int)) H
theorem BW{y:V}:∀{xs:List V}{us:List b_},al xs us->xs.all fT=true->us.countP (c8 y)=xs.countP fun z=>fw z y
|_,_,.nil,_=>rfl
|x::xs,u::us,.cons r t,f=>by rw[Ru,PR]at f;rw[Si,Si,BW t f.2,nI r f.1]
theorem vX:jh X "list.count" (CH X.K):=by
 intro pz s σ H x vs v us Q I rx rv h;obtain⟨p,xs,y,rfl,rfl,hq,fy,fx,q⟩:=h;cases rx;obtain⟨u,rfl,ru⟩:=bI rv;obtain⟨its,r,pl,hz⟩:=I.list hq;obtain⟨o,n,ho,hc,hd,hs⟩:=pl;obtain⟨ocls,odict,odata,oslots⟩:=o;simp only at hc hd hs;subst hc hd hs;refine Ug RU ⟨_,ho,rfl⟩ PySem.F.entry_list_count (PySem.F.args_list_count_2 _ _)
  (SeqAt.list_countAt p its.toArray n none oslots u (c8 y)) ⟨ho,fun w hw=>mr ru fy r fx w (by simpa using hw),⟨.int _,H,I.tok _,⟨_,rfl⟩,?_⟩⟩
 have e:(its.toArray.toList.countP (c8 y))=xs.countP fun z=>fw z y:=BW r fx;rw[e];exact q
def kQ(d:D)(zs:List D):Option D:=match d,zs with
|.lst ds,[x]=>if di x=true/\ds.all di=true then some (.int ((ds.countP fun z=>eqs z x:Nat):Int))else none
|_,_=>none
theorem vU{K:W.Frag}:Fx K (CH K) kQ:=by
 intro G H v d vs ds d' Q gk rv rs e q;unfold kQ at e;split at e
 .rename_i zs x;split at e
  .rename_i hc;cases e;cases rs with
  |cons r1 rt=>
    cases rt;obtain⟨a,xs,rfl,s,r⟩:=rv.lst gk;obtain⟨e1,f1⟩:=RB.flat r1 gk hc.1;obtain⟨e3,f3⟩:=zU r gk hc.2;refine⟨a,xs,_,rfl,rfl,s,f1,f3,?_⟩;have:(xs.countP fun z=>fw z (d9 x))=zs.countP fun z=>eqs z x:=by rw[e3,WJ];rfl
    rw[e1,this];exact q _ G H (Grow.refl gk) (.scl (.int _))
  .cases e
 .cases e
end
def lI:aB->D
|.inl i=>.int i
|.inr x=>.str x
theorem Ke(k:aB):Scl (kV k) (lI k):=by cases k with
|inl i=>exact .int i
|inr x=>exact .str x
def ix:D->Option (List D)
|.dic kvs=>some (kvs.map fun kv=>lI kv.1)
|_=>none
def sf(a:Addr)(ob:Obj)(ps:List (aB×V)):It:=⟨fun i H=>H a=some (.frz ob (.dK ps))/\i<ps.length,fun i H x H'=>H'=H/\∃kv,ps[i]? = some kv/\x=kV kv.1,fun i H=>H a=some (.frz ob (.dK ps))/\i=ps.length⟩
theorem He{P:B_}{w:PP}{k:aB}{u:b_}(h:(fN P w).is k u=true):ar (kV k) u:=by
 rcases keyIs_shape h with⟨i,t,rfl,rfl⟩|⟨x,t,rfl,rfl⟩
 .exact⟨t,rfl⟩
 .exact⟨t,rfl⟩
section
variable{X:Cx}{pz:List (Addr×Obj)}{σ:L2.St}{H:Hp}{s:h_}{a:Addr}{ob:Obj}{ps:List (aB×V)}
theorem uO(I:Inv X pz σ H s)(e:H a=some (.frz ob (.dK ps))){es:Array Wn}{ep:Nat}(hob:ob.data=.dict es ep):∃vs,KV ps vs/\s.heap.DictAt (fN X.prog X.w) a vs ep/\(a==RL)=false:=by
 obtain⟨h1,z,y,vs,r,o',es',ep',h2,c1,c2,c3⟩:=(show bZ X.prog X.w H s.heap a (.frz ob (.dK ps))from I.hok a _ e)
 rw[h1]at h2;cases h2;rw[hob]at c2;cases c2;exact⟨vs,r,⟨ob,es,h1,c1,hob,c3⟩,y⟩
theorem J8(I:Inv X pz σ H s)(e:H a=some (.frz ob (.dK ps))):∃(es:Array Wn)(ep:Nat),ob.data=.dict es ep:=by
 obtain⟨h1,z,y,vs,r,o',es',ep',h2,c1,c2,c3⟩:=(show bZ X.prog X.w H s.heap a (.frz ob (.dK ps))from I.hok a _ e)
 rw[h1]at h2;cases h2;exact⟨es',ep',c2⟩
end
theorem Nk{P:B_}{w:PP}{K:W.Frag}{tg:Expr}(a it:Addr){ob:Obj}{ps:List (aB×V)}{es:Array Wn}{ep:Nat}(hob:ob.data=.dict es ep):Turn P w K tg (sf a ob ps) [it] it (fun i h=>h.IsKeyIter it a i ps.length ep) where
 mem:=by simp
 obj:=fun i h st b hb=>by
  have e:b=it:=by simpa using hb
  subst e;obtain⟨o,e,c,d⟩:=st;exact⟨o,e,fun v z=>by rw[d]at z;cases z⟩
 keep:=fun i h h' st k=>st.at fun o e=>k it (by simp) o e
 item:=by
  intro X hP hw hK hc i pz s σ H E I hf st hg;subst hP hw hK;obtain⟨he,hi⟩:=hg;obtain⟨vs,r,m,_⟩:=uO I he hob;have hl:ps.length=vs.length:=Paired.length r;have hiv:i<vs.length:=by omega
  obtain⟨kv,h1,h2⟩:=DL.Paired.get r (i_ hiv);obtain⟨f0,f1,f2,f3,f4,f5⟩:=hf it (by simp);rw[hl]at st;refine wpAny_pyNext_dict_item (k:=vs[i].1) (v:=vs[i].2) st m (i_ hiv) fun key h' hkey hit' sb=>?_;have I1:Inv X pz σ H { s with heap:=h' }:=I.turned (t':=s.toks) (fun b o hb e=>(sb.2 b hb).trans e) f0 f1 f3 f4 f5;obtain⟨o,e,c,d⟩:=id hit';exact⟨key,rfl,pC (s:={ s with heap:=h' }) e c d (by decide) ⟨kV kv.1,H,I1,by rw[h2.1];exact He hkey,⟨rfl,kv,h1,rfl⟩,by rw[hl];exact hit',fun b hb=>(hf b hb).1⟩⟩
 done:=by intro X hP hw hK hc i pz s σ H E I hf st hg;subst hP hw hK;obtain⟨he,hi⟩:=hg;obtain⟨vs,r,m,_⟩:=uO I he hob;have hl:ps.length=vs.length:=Paired.length r;obtain⟨f0,f1,f2,f3,f4,f5⟩:=hf it (by simp);rw[hl]at st;exact wpAny_pyNext_dict_end (I.ok.hd hc) st m (by rw[P3];omega) fun h' eb=>⟨rfl,I.turned (t':=s.toks) (fun b o hb e=>eb b o hb e) f0 f1 f3 f4 f5⟩
 self:=fun _ _ _ _ _ st h=>wpAny_pyIter_keyiter st h
section
variable{X:Cx}{g:GE}{m m' m1 mb:List Md}{tg e a b c iter:Expr}{f fa fb:FE}{p:FQ}{pos pos':Pos}{ro:Bool}{fl:ak->Res (List D)}{sts:List Stmt}{s1:FS}
theorem B6{l:Expr}{tl:TE}(hl:PE X l tl):PI X tg l (fun σ H R=>tl σ H fun x H1=>∃a ob ps,x=.ref a/\H1 a=some (.frz ob (.dK ps))/\R (sf a ob ps) H1):=by
 intro pz s σ H R I h;refine aL (hl pz s σ H _ I h) fun v s1 ⟨x,H1,I1,r1,q1⟩=>?_;obtain⟨a,ob,ps,e,he,q⟩:=q1;subst e;cases r1;obtain⟨es,ep,hob⟩:=J8 I1 he;obtain⟨vs,r,mm,hs⟩:=uO I1 he hob;have hl:ps.length=vs.length:=Paired.length r;refine wpAny_pyIter_dict hs mm ?_;refine⟨s1.heap.objs.size,[s1.heap.objs.size],_,_,H1,rfl,I1.kept (t':=s1.toks) fun b o e=>e_ _ e,Nk a _ hob,⟨_,w_ _ rfl,rfl,by rw[hl];rfl⟩,fun b hb=>?_,q⟩;have e:b=s1.heap.objs.size:=by simpa using hb
 subst e;exact I1.fpOk (u_ _) (I1.hok.fresh (u_ _))
theorem AQ{K:W.Frag}{G:GH}{ps:List (aB×V)}{kvs:List (aB×D)}(r:d4 K G ps kvs){i:Nat}{kv:aB×V}{d:D}(h:ps[i]? = some kv)(hd:(kvs.map fun kv=>lI kv.1)[i]? = some d):RG K G (kV kv.1) d:=by rw[n_]at hd;cases e:kvs[i]? with
|none=>rw[e]at hd;cases hd
|some q=>rw[e]at hd;cases hd;obtain⟨kv',h1,h2⟩:=DL.Paired.get r e;rw[h]at h1;cases h1;rw[h2.1];exact .scl (Ke _)
theorem RG.dicF{K:W.Frag}{G:GH}{H:Hp}{v:V}{kvs:List (aB×D)}(gk:aM K G H)(h:RG K G v (.dic kvs)):∃a ob ps,v=.ref a/\G a=some (.dic kvs)/\H a=some (.frz ob (.dK ps))/\d4 K G ps kvs:=by cases h with
|scl s=>cases s
|ref e=>cases gk _ _ e with
 |dic r s=>exact⟨_,_,_,rfl,e,r,s⟩
|kc k=>cases k
theorem Ja{K:W.Frag}{a:Addr}{ob:Obj}{ps:List (aB×V)}{kvs:List (aB×D)}{G0:GH}{H0:Hp}(he:H0 a=some (.frz ob (.dK ps)))(r:d4 K G0 ps kvs):YieldsC K (sf a ob ps) (kvs.map fun kv=>lI kv.1) G0 H0:=by have hl:ps.length=kvs.length:=Paired.length r;refine⟨fun G H i w hi=>⟨w.he _ _ he,by rw[m_]at hi;omega⟩,fun G H i x H' d w y e=>?_,fun G H w=>⟨w.he _ _ he,by rw[m_];omega⟩⟩;obtain⟨rfl,kv,h1,rfl⟩:=y;exact⟨G,Grow.refl w.ok,AQ (d4.mono r w.ge) h1 e⟩
theorem Kb(h:SE X g m e f):gZ X g m tg e (aG ix f):=by
 refine PI.imp (B6 h) fun σ H R ⟨r,G,si,q⟩=>⟨r,G,si,aP (aS q) fun d q v G' H' w rv=>?_⟩
 obtain⟨ds,e,q⟩:=cn q;cases d with
|dic kvs=>cases e;obtain⟨a,ob,ps,rfl,_,he,rs⟩:=RG.dicF w.ok rv;exact⟨a,ob,ps,rfl,he,q _ G' H' w (Ja he rs)⟩
|_=>cases e
def fD(g:GE)(a:Addr)(d:D)(u:HO):GE:=⟨gset g.gh a d,upd g.h0 a u,g.hd⟩
theorem SI.up{r:ak}{G:GH}{st:L2.St}{H:Hp}{a:Addr}{d:D}{u:HO}(s:SI X g m r G st H)(hG:G a=some d)(hH:H a=some u):SI X (fD g a d u) m r G st H where
 gok:=s.gok
 old:=fun b o e=>by
  by_cases hb:b=a
  .subst hb;have e':upd g.h0 b u b=some o:=e;rw[ce]at e';cases e';exact hH
  .have e':upd g.h0 a u b=some o:=e;rw[bf hb]at e';exact s.old b o e'
 ge:=fun b x e=>by
  by_cases hb:b=a
  .subst hb;have e':gset g.gh b d b=some x:=e;rw[cM]at e';cases e';exact hG
  .have e':gset g.gh a d b=some x:=e;rw[df hb]at e';exact s.ge b x e'
 gf:=fun b h=>by
  show G b=gset g.gh a d b;by_cases hb:b=a
  .subst hb;rw[cM];exact hG
  .rw[df hb];exact s.gf b fun z=>h (show upd g.h0 a u b=none by rw[bf hb];exact z)
 lm:=s.lm
 lr:=s.lr
 sh:=s.sh
 ow:=fun i x h1 h2=>by
  obtain⟨c,q1,q2,q3⟩:=s.ow i x h1 h2;refine⟨c,q1,q2,?_⟩;have hc:c≠a:=by rintro rfl;rw[q2.un]at hG;cases hG
  show upd g.h0 a u c=none;rw[bf hc];exact q3
 bw:=fun i x h1 h2=>by
  obtain⟨v,q1,q2⟩:=s.bw i x h1 h2;refine⟨v,q1,?_⟩;rcases q2 with q2|⟨c,e,q2,q3⟩
  .exact .inl q2
  .refine .inr ⟨c,e,q2,?_⟩;have hc:c≠a:=by rintro rfl;rw[q2.un]at hG;cases hG
   show upd g.h0 a u c≠none;rw[bf hc];exact q3
 dis:=s.dis
 lk:=s.lk
structure Had(g:GE)(a:Addr)(d:D)(u:HO):Prop where
 h0:∀o,g.h0 a=some o->o=u
 gh:∀x,g.gh a=some x->x=d
 gf:g.h0 a≠none->g.gh a=some d
theorem SI.had{r:ak}{G:GH}{st:L2.St}{H:Hp}{a:Addr}{d:D}{u:HO}(s:SI X g m r G st H)(hG:G a=some d)(hH:H a=some u):Had g a d u:=⟨fun o e=>by have:=s.old a o e;rw[hH]at this;cases this;rfl,fun x e=>by have:=s.ge a x e;rw[hG]at this;cases this;rfl,fun h=>by rw[<-s.gf a h];exact hG⟩
theorem SI.down{r:ak}{G:GH}{st:L2.St}{H:Hp}{a:Addr}{d:D}{u:HO}(hd:Had g a d u)(s:SI X (fD g a d u) m r G st H):SI X g m r G st H:=by
 have hH:H a=some u:=s.old a u ce;have hG:G a=some d:=s.ge a d cM;exact{
  gok:=s.gok
  old:=fun b o e=>by
   by_cases hb:b=a
   .subst hb;rw[hd.h0 o e];exact hH
   .exact s.old b o (show upd g.h0 a u b=some o by rw[bf hb];exact e)
  ge:=fun b x e=>by
   by_cases hb:b=a
   .subst hb;rw[hd.gh x e];exact hG
   .exact s.ge b x (show gset g.gh a d b=some x by rw[df hb];exact e)
  gf:=fun b h=>by
   by_cases hb:b=a
   .subst hb;rw[hG,hd.gf h]
   .have:=s.gf b (show upd g.h0 a u b≠none by rw[bf hb];exact h);rw[this];exact df hb
  lm:=s.lm
  lr:=s.lr
  sh:=s.sh
  ow:=fun i x h1 h2=>by
   obtain⟨c,q1,q2,q3⟩:=s.ow i x h1 h2;have hc:c≠a:=by rintro rfl;rw[q2.un]at hG;cases hG
   refine⟨c,q1,q2,?_⟩;have q3':upd g.h0 a u c=none:=q3;rw[bf hc]at q3';exact q3'
  bw:=fun i x h1 h2=>by
   obtain⟨v,q1,q2⟩:=s.bw i x h1 h2;refine⟨v,q1,?_⟩;rcases q2 with q2|⟨c,e,q2,q3⟩
   .exact .inl q2
   .have hc:c≠a:=by rintro rfl;rw[q2.un]at hG;cases hG
    refine .inr ⟨c,e,q2,?_⟩;have q3':upd g.h0 a u c≠none:=q3;rw[bf hc]at q3';exact q3'
  dis:=s.dis
  lk:=s.lk }
theorem Grow.down{K:W.Frag}{G':GH}{H':Hp}{a:Addr}{d:D}{u:HO}(hd:Had g a d u)(w:Grow K (fD g a d u).gh (fD g a d u).h0 G' H'):Grow K g.gh g.h0 G' H':=
 ⟨w.ok,fun b o e=>by
  by_cases hb:b=a
  .subst hb;rw[hd.h0 o e];exact w.he b u ce
  .exact w.he b o (show upd g.h0 a u b=some o by rw[bf hb];exact e),fun b x e=>by
  by_cases hb:b=a
  .subst hb;rw[hd.gh x e];exact w.ge b d cM
  .exact w.ge b x (show gset g.gh a d b=some x by rw[df hb];exact e),fun b h=>by
  by_cases hb:b=a
  .subst hb;rw[hd.gf h];exact w.ge b d cM
  .have:=w.gf b (show upd g.h0 a u b≠none by rw[bf hb];exact h);rw[this];exact df hb⟩
def Ph(X:Cx)(g:GE)(m:List Md)(f:FE):TI:=fun σ H R=>∃r G,SI X g m r G σ H/\fin (f r) (fun d=>∀a ob ps kvs G' H',d=.dic kvs->Grow X.K G H G' H'->G' a=some (.dic kvs)->H' a=some (.frz ob (.dK ps))->d4 X.K G' ps kvs->R (sf a ob ps) H') (XW X σ G H)
theorem GX(h:SE X g m e f)(hd:∀r d,f r=.ok d->∃kvs,d=.dic kvs):PI X tg e (Ph X g m f):=by
 refine PI.imp (B6 h) fun σ H R ⟨r,G,si,q⟩=>⟨r,G,si,?_⟩
 cases er:f r with
|ok d=>rw[er]at q;intro v G' H' w rv;obtain⟨kvs,rfl⟩:=hd r d er;obtain⟨a,ob,ps,rfl,hG,he,rs⟩:=RG.dicF w.ok rv;exact⟨a,ob,ps,rfl,he,q a ob ps kvs G' H' rfl w hG he rs⟩
|exc x=>rw[er]at q;exact q
|stuck=>rw[er]at q;exact q
def m6(f:FE):FE:=fun r=>(f r).bind fun d=>match d with
|.dic kvs=>.ok (.dic kvs)
|_=>.stuck
theorem KA(h:SE X g m e f):SE X g m e (m6 f):=PE.imp h fun σ H Q ⟨r,G,si,q⟩=>⟨r,G,si,by refine aP (aS q) fun d q v G' H' w rv=>?_;cases d with
|dic kvs=>exact q v G' H' w rv
|_=>exact q.elim⟩
theorem MS(f:FE):∀r d,m6 f r=.ok d->∃kvs,d=.dic kvs:=by intro r d e;unfold m6 at e;cases er:f r with
|ok x=>rw[er,bind_ok]at e;cases x with
 |dic kvs=>cases e;exact⟨kvs,rfl⟩
 |_=>cases e
|exc x=>rw[er]at e;cases e
|stuck=>rw[er]at e;cases e
theorem Mz{r:ak}{q:List D->Prop}{x:D->Prop}(h:fin (aG ix f r) q x):fin (m6 f r) (fun d=>∀kvs,d=.dic kvs->q (kvs.map fun kv=>lI kv.1)) x:=by unfold aG at h;unfold m6;cases er:f r with
|ok d=>rw[er]at h;cases d with
 |dic kvs=>intro kvs' e;cases e;exact h
 |_=>exact h
|exc y=>rw[er]at h;exact h
|stuck=>rw[er]at h;exact h
theorem tz(hp:To (O_ X.prog X.w) X.A X.env X.xe)(hc:X.calm=true){ft:FT}(hi:SE X g m iter f)(hg:∀g',SG X g' m tg ft m)(hb:∀g',fR X g' ro m m sts s1 m)(hs:∀x,QO iter X.env x=pure x:=by intro _;rfl):SS X g ro mb m (.For tg iter sts [] pos) (cu m (aG ix f) ft s1) m:=by
 have hgA:PG X tg (fun v σ H Q=>∃g',tG X g' m m ft v σ H Q):=fun pz s σ H v u Q I r ⟨g',q⟩=>(hg g').2 pz s σ H v u Q I r q;have hbA:cY X sts (fun D σ H=>∃g',tS X g' ro m m m s1 D σ H):=fun pz s σ H D I ⟨g',q⟩=>(hb g').2 pz s σ H D I q;refine⟨rfl,PS.imp (nE hp hc (GX (KA hi) (MS f)) hgA hbA hs) fun D σ H ⟨r,G,si,q⟩=>⟨r,G,si,aP (Mz (eZ si rfl q)) fun d q a ob ps kvs G0 H0 ed w0 hG0 hH0 rs0=>?_⟩⟩;replace q:=q kvs ed;have si0:=si.grow w0;have hl:ps.length=kvs.length:=Paired.length rs0;have had:=si0.had hG0 hH0;generalize hds:(kvs.map fun kv=>lI kv.1)=ds at q;have hdl:ds.length=ps.length:=by rw[<-hds,m_];omega
 refine⟨fun i n σ H=>∃r G,SI X (fD g a (.dic kvs) (.frz ob (.dK ps))) m r G σ H/\aH G0 G/\i<=ds.length/\n=ds.length-i/\bD X g ro m mb G D (aE ft s1 (ds.drop i) r),⟨ds.length,r,G0,si0.up hG0 hH0,aH.refl G0,Qa _,rfl,bD.gle q w0.ge⟩,?_⟩
 rintro i n σ1 H1 ⟨r1,G1,si1,le1,hi,rfl,q1⟩
 have hH1:H1 a=some (.frz ob (.dK ps)):=si1.old a _ ce;by_cases hlt:i<ds.length
 .have hd:ds.drop i=ds[i]::ds.drop (i+1):=QE hlt;rw[hd]at q1;unfold aE at q1;refine .inr ⟨⟨hH1,by omega⟩,fun σ' H'=>∃r G,SI X (fD g a (.dic kvs) (.frz ob (.dK ps))) m r G σ' H'/\aH G0 G/\bD X g ro m mb G D (aE ft s1 (ds.drop (i+1)) r),fun σ' H' ⟨r',G',si',le',q'⟩=>⟨ds.length-(i+1),by omega,r',G',si',le',hlt,rfl,q'⟩,fun x H' y=>?_⟩;obtain⟨rfl,kv,hk1,rfl⟩:=y;have rv:RG X.K G1 (kV kv.1) ds[i]:=AQ (d4.mono rs0 le1) hk1 (by rw[hds];exact i_ hlt);cases eft:ft ds[i] r1 with
 |none=>simp only[eft]at q1;exact q1.elim
 |some r2=>simp only[eft]at q1;refine⟨fD g a (.dic kvs) (.frz ob (.dK ps)),r1,G1,ds[i],si1,rv,r2,eft,fun σ2 si2=>⟨fD g a (.dic kvs) (.frz ob (.dK ps)),r2,G1,si2,?_⟩⟩;cases eb:s1 r2 with
  |nx r'=>simp only[eb]at q1;exact fun σ3 G3 H3 le3 si3=>⟨r',G3,si3,le1.trans le3,bD.gle q1 le3⟩
  |ct r'=>simp only[eb]at q1;exact fun σ3 G3 H3 le3 si3=>⟨r',G3,si3,le1.trans le3,bD.gle q1 le3⟩
  |bk r'=>simp only[eb]at q1;exact fun σ3 G3 H3 le3 si3=>q1 σ3 G3 H3 le3 (si3.down had)
  |rt d=>simp only[eb]at q1;intro v G2 H2 wr rv2;refine q1 v G2 H2 (wr.down had) ?_;cases ro with
   |false=>exact rv2
   |true=>
     rcases rv2 with⟨c,e1,e2,e3⟩|z
     .refine .inl ⟨c,e1,?_,e3⟩;have hca:c≠a:=by
       rintro rfl
       have:=wr.ge c _ cM;rw[e3.un]at this;cases this
      have e2':upd g.h0 a (.frz ob (.dK ps)) c=none:=e2;rw[bf hca]at e2';exact e2'
     .exact .inr z
  |exc x r'=>simp only[eb]at q1;exact fun pz e s' σ3 G3 H3 le3 si3=>q1 pz e s' σ3 G3 H3 le3 (si3.down had)
  |stuck=>simp only[eb]at q1;exact q1
 .have e:i=ds.length:=by omega
  subst e;rw[RS]at q1;exact .inl ⟨⟨hH1,by omega⟩,q1 σ1 G1 H1 (aH.refl _) (si1.down had)⟩
def jM:D->D->Option D
|.lst ds,.int k=>if-(2^62)<=k/\k<2^62/\ds.length*k.toNat<=sizeLine then some (.lst ((I_ k.toNat ds).flatten))else none
|_,_=>none
theorem As{K:W.Frag}{G:GH}{xs:List V}{ds:List D}(r:bA K G xs ds):∀n:Nat,bA K G (I_ n xs).flatten (I_ n ds).flatten
|0=>.nil
|n+1=>by rw[QX,QX,RH,RH];exact DL.Paired.app r (As r n)
theorem GC(ha:SO X g m a fa)(hb:SB X g m b fb):SO X g m (.BinOp a .Mult b pos) (f2 fa fb jM):=by
 refine PE.imp (ss HF ha hb) fun σ H Q ⟨r,G,si,q⟩=>⟨r,G,si,aP (aS q) fun d1 q1 p1 G1 H1 w1 hn1 o1=>⟨r,G1,si.grow w1,eS (aS q1) w1 fun d2 q2 v2 G2 H2 w2 r2=>?_⟩⟩
 obtain⟨d,e,q3⟩:=cn q2;have o2:=o1.mono w2;unfold jM at e;split at e
 .split at e
  .rename_i ds k hk;cases e;cases o2.ob with
  |@lst xs _ hx rs=>have hl:=Paired.length rs;refine⟨p1,k,xs,rfl,r2.int w2.ok,hx,by omega,by omega,by rw[hl];exact hk.2.2,fun p hp=>?_⟩;have w3:=Grow.new w2.ok hp (.lst (I_ k.toNat xs).flatten);refine q3 p G2 _ ((w1.trans w2).trans w3) ?_ ⟨w2.ok.isN hp,.lst ce (As rs _)⟩;cases e:H p with
   |none=>rfl
   |some o=>rw[(w1.trans w2).he _ _ e]at hp;cases hp
  .cases e
 .cases e
end
section
variable{X:Cx}{g:GE}{m:List Md}{e o:Expr}{es:List Expr}{fo:FE}{fl:ak->Res (List D)}{pos p pos':Pos}
theorem MG(hc:X.calm=true):d5 X (.builtin "sum") (fun xs H Q=>∃(p:Addr)(ks:List Int),xs=[.ref p]/\aV X.K H p (ks.map V.int)/\Q (.int ks.sum) H):=by intro pz s σ H xs us Q I r h;obtain⟨p,ks,rfl,hq,q⟩:=h;obtain⟨u,rfl,rx⟩:=bI r;cases rx;obtain⟨its,rv,pl,hz⟩:=I.list hq;obtain⟨mF,F⟩:=I.fr;exact Xp F (L6 (g:=X.base) (h:=s.heap) (L:=X.env.locals)) (I.ok.hd hc) pl.isList (xo rv) fun h' tk t' F' N'=>⟨.int ks.sum,_,Inv.keptF I F F' N' tk,⟨_,rfl⟩,q⟩
def sumD:List D->Option D
|[.lst ds]=>(eY ds).map fun ks=>.int ks.sum
|_=>none
theorem IL{K:W.Frag}:lX K (fun xs H Q=>∃(p:Addr)(ks:List Int),xs=[.ref p]/\aV K H p (ks.map V.int)/\Q (.int ks.sum) H) sumD:=by
 intro G H vs ds d Q gk rs e q;unfold sumD at e;split at e
 .rename_i zs;cases ek:eY zs with
 |none=>rw[ek]at e;cases e
 |some ks=>rw[ek]at e;cases e;cases rs with
  |cons r1 t=>cases t;obtain⟨b,xs,rfl,s,r⟩:=r1.lst gk;have ex:=vK gk r ek;subst ex;exact⟨b,ks,rfl,s,q _ G H (Grow.refl gk) (.scl (.int _))⟩
 .cases e
theorem F4(hc:X.calm=true)(hg:Gl X "sum")(hm:X.mg "sum" = none)(ha:g6 X g m (e::es) fl)(he:l_ (e::es) X.env=(false,eval e X.env)::l_ es X.env:=by rfl)(hpl:(backTo pos (l_ es X.env)).any (·.1)=false:=by rfl):SE X g m (.Call (.Name "sum" p) (e::es) [] pos) (fC fl sumD):=gP IL (my (MG hc) hg hm PyProof.Rows.boot_sum ha (by decide) (by decide) he hpl)
end
def eJ{α:Type}(xs:List α)(lo hi st:Option Int):List α:=(sliceRange (sliceBounds lo hi st xs.length).1 (sliceBounds lo hi st xs.length).2.1 (sliceBounds lo hi st xs.length).2.2).filterMap (xs[·]?)
theorem B8{α β:Type}{F:α->β->Prop}{xs:List α}{ds:List β}(r:Paired F xs ds):∀is:List Nat,Paired F (is.filterMap (xs[·]?)) (is.filterMap (ds[·]?))
|[]=>.nil
|i::is=>by have ih:=B8 r is;have hl:=Paired.length r;cases e:ds[i]? with
 |none=>
   have e2:xs[i]? = none:=by rw[Sj]at e ⊢;omega
   rw[Qt,Qt,e,e2];exact ih
 |some d=>obtain⟨v,e2,hv⟩:=Paired.get r e;rw[Qt,Qt,e,e2];exact .cons hv ih
theorem AZ{α β:Type}{F:α->β->Prop}{xs:List α}{ds:List β}(r:Paired F xs ds)(lo hi st:Option Int):Paired F (eJ xs lo hi st) (eJ ds lo hi st):=by unfold eJ;rw[Paired.length r];exact B8 r _
def Ft(X:Cx)(r:V->Option Int->Option Int->Option Int->Hp->VK->Prop):Prop:=∀(pz:List (Addr×Obj))(s:h_)(σ:L2.St)(H:Hp)(x:V)(v vl vu vs:b_)(lo hi st:Option Int)(sl:Addr)(Q:VK),Inv X pz σ H s->ar x v->s.heap.IsSliceOf sl vl vu vs->Uv vl lo->Uv vu hi->Uv vs st->r x lo hi st H Q ->∃T id,typeLookup (.type T) "__getitem__" = pure (some (.builtin id))/\s.TypeIs v T/\D_ (O_ X.prog X.w) X.A (VB v (.ref sl)) (EP X pz σ Q) X.xe s
def yQ(K:W.Frag):V->Option Int->Option Int->Option Int->Hp->VK->Prop:=fun x lo hi st H Q=>∃a xs,x=.ref a/\aV K H a xs/\st≠some 0/\∀p,H p=none->Q (.ref p) (upd H p (.lst (eJ xs lo hi st)))
theorem Np{xs:List V}{us:List b_}(r:al xs us):Paired ar xs us:=by induction r with
|nil=>exact .nil
|cons a _ ih=>exact .cons a ih
theorem MW{xs:List V}{us:List b_}(r:Paired ar xs us):al xs us:=by induction r with
|nil=>exact .nil
|cons a _ ih=>exact .cons a ih
section
variable{X:Cx}{g:GE}{m:List Md}{e st:Expr}{f fa:FE}{pos p2:Pos}{lo hi:Option Expr}{te:TE}{tl th ts:TO}
theorem LU:Ft X (yQ X.K):=by
 intro pz s σ H x v vl vu vs lo hi st sl Q I rx hs pl pu ps h;obtain⟨a,xs,rfl,hx,h0,q⟩:=h;cases rx;obtain⟨its,r,ht,hz⟩:=I.list hx;have hlen:=r.length;refine⟨"list",_,Up.lookup,ht.isList.typeIs,?_⟩;refine Uw ht.isList hs pl pu ps h0 ?_ (by rw[s_] <;> omega);have e:Wm its.toArray lo hi st=(eJ its lo hi st).toArray:=by unfold Wm eJ;rw[s_];congr 1;simp only[Vi]
 have pp:=AZ (Np r) lo hi st;have hsz:(eJ xs lo hi st).length<=sizeLine:=by have h1:=slicePick_size_le its.toArray lo hi st;rw[e,s_,s_]at h1;have h2:=Paired.length pp;omega
 rw[e];refine⟨.ref s.heap.objs.size,_,I.laid (t':=s.toks) (o:=.lst (eJ xs lo hi st)) (fun b ob q=>e_ _ q) (u_ _) ?_,rfl,q _ (I.hok.fresh (u_ _))⟩;exact⟨hsz,_,0,MW pp,w_ _ rfl⟩
def yC(r:V->Option Int->Option Int->Option Int->Hp->VK->Prop)(te:TE)(tl th ts:TO):TE:=fun σ H Q=>te σ H fun x H1=>tl σ H1 fun l H2=>th σ H2 fun u H3=>ts σ H3 fun t H4=>r x l u t H4 Q
theorem MX{r:V->Option Int->Option Int->Option Int->Hp->VK->Prop}(hr:Ft X r)(he:PE X e te)(hl:PO X lo tl)(hu:PO X hi th)(hst:PO X (some st) ts):PE X (.Subscript e (.Slice lo hi (some st) p2) pos) (yC r te tl th ts):=by
 intro pz s σ H Q I h;refine W0 (aL (he pz s σ H _ I h) fun v s1 ⟨x,H1,I1,r1,q1⟩=>?_);refine wpAny_Slice (aL (hl pz s1 σ H1 _ I1 q1) fun vl s2 ⟨l,H2,I2,pl,q2⟩=>aL (hu pz s2 σ H2 _ I2 q2) fun vu s3 ⟨u,H3,I3,pu,q3⟩=>aL (hst pz s3 σ H3 _ I3 q3) fun vt s4 ⟨t,H4,I4,pt,q4⟩=>?_);have I5:Inv X pz σ H4 { s4 with heap:=s4.heap.push { cls:=.type "slice",data:=.fields #[vl,vu,vt] } }:=I4.kept (t':=s4.toks) fun b ob q=>e_ _ q;obtain⟨T,id,hT,ht,hg⟩:=hr pz { s4 with heap:=s4.heap.push { cls:=.type "slice",data:=.fields #[vl,vu,vt] } } σ H4 x v vl vu vt l u t s4.heap.objs.size Q I5 r1 (VP ..) pl pu pt q4;show D_ (O_ X.prog X.w) X.A (VG e (.Slice lo hi (some st) p2) v (.ref s4.heap.objs.size)) (EP X pz σ Q) X.xe { s4 with heap:=s4.heap.push { cls:=.type "slice",data:=.fields #[vl,vu,vt] } }
 first
  |exact Wb (ops:=[v,.ref s4.heap.objs.size]) ht hT hg (by with_unfolding_all rfl)
  |exact Wb (ops:=[.ref s4.heap.objs.size,v]) ht hT hg (by with_unfolding_all rfl)
def yN(d:D)(lo hi st:Option Int):Option D:=match d with
|.lst ds=>if st=some 0 then none else some (.lst (eJ ds lo hi st))
|_=>none
def jU(fa:FE)(fl fh fs:FP):FE:=fun r=>(fa r).bind fun d=>(fl r).bind fun lo=>(fh r).bind fun hi=>(fs r).bind fun st=>bS (yN d lo hi st)
theorem F3{fl fh fs:FP}(he:SB X g m e f)(hl:lQ X g m lo fl)(hu:lQ X g m hi fh)(hs:lQ X g m (some st) fs):SE X g m (.Subscript e (.Slice lo hi (some st) p2) pos) (jU f fl fh fs):=by
 refine PE.imp (MX LU he hl hu hs) fun σ H Q ⟨r,G,si,q⟩=>?_;refine⟨r,G,si,aP (aS q) fun d h1 v G1 H1 w1 r1=>⟨r,G1,si.grow w1,eS (aS h1) w1 fun lo h2 G2 H2 w2=>⟨r,G2,(si.grow w1).grow w2,?_⟩⟩⟩;refine eS (aS h2) (w1.trans w2) fun hi h3 G3 H3 w3=>⟨r,G3,((si.grow w1).grow w2).grow w3,?_⟩
 refine eS (aS h3) ((w1.trans w2).trans w3) fun st h4 G4 H4 w4=>?_;obtain⟨d',e,q2⟩:=cn h4;have w:=((w1.trans w2).trans w3).trans w4;have rb:=((r1.mono w2).mono w3).mono w4;cases d with
|lst ds=>
  have e':(if st=some 0 then none else some (D.lst (eJ ds lo hi st)))=some d':=e;by_cases h0:st=some 0
  .rw[if_pos h0]at e';cases e'
  rw[if_neg h0]at e';cases e';obtain⟨a,xs,rfl,s,r⟩:=rb.lst w.ok;exact⟨a,xs,rfl,s,h0,fun p hp=>q2 _ _ _ (w.trans (Grow.newF w.ok hp (.lst (.inl ce) (AZ r lo hi st)))) (.ref cM)⟩
|_=>cases e
end
def d6(g:GE)(H:Hp)(fp:List Addr)(i:Nat)(p:Addr):GE:=⟨g.gh,fun b=>if b∈fp then H b else g.h0 b,fun j=>if j=i then some (some (V.ref p),none)else g.hd j⟩
theorem vM{g:GE}{H H':Hp}{fp:List Addr}{i:Nat}{p:Addr}(h:∀b∈fp,H' b=H b):d6 g H' fp i p=d6 g H fp i p:=by
 unfold d6;congr 1;funext b;by_cases hb:b∈fp
 .rw[if_pos hb,if_pos hb,h b hb]
 .rw[if_neg hb,if_neg hb]
def g9(K:W.Frag)(G:GH)(H:Hp)(b:Addr)(ds:List D):Prop:=∃xs,H b=some (.lst xs)/\bA K G xs ds
structure LRw(K:W.Frag)(G:GH)(H:Hp)(p:Addr)(as:List Addr)(w:List (List D)):Prop where
 out:H p=some (.lst (as.map V.ref))
 nd:(p::as).Nodup
 un:∀b∈p::as,G b=none
 rw:Paired (g9 K G H) as w
theorem g9.mono{K:W.Frag}{G G':GH}{H H':Hp}{b:Addr}{ds:List D}(h:g9 K G H b ds)(ge:aH G G')(he:H' b=H b):g9 K G' H' b ds:=by obtain⟨xs,h1,h2⟩:=h;exact⟨xs,by rw[he];exact h1,h2.mono ge⟩
theorem CZ{α β:Type}{F F':α->β->Prop}{l:List α}{r:List β}(h:Paired F l r)(f:∀a∈l,∀b,F a b->F' a b):Paired F' l r:=by induction h with
|nil=>exact .nil
|cons h _ ih=>exact .cons (f _ g_ _ h) (ih fun a ha=>f a (f_ _ ha))
theorem LRw.isS{K:W.Frag}{G:GH}{H:Hp}{p:Addr}{as:List Addr}{w:List (List D)}(h:LRw K G H p as w){b:Addr}(hb:b∈p::as):H b≠none:=by
 rcases q_.mp hb with rfl|hb
 .rw[h.out];simp
 .have:∀{as:List Addr}{w:List (List D)},Paired (g9 K G H) as w->b∈as->H b≠none:=fun{as w} q hb=>by induction q with
  |nil=>cases hb
  |cons r _ ih=>
    rcases q_.mp hb with rfl|hb
    .obtain⟨xs,e,_⟩:=r;rw[e];simp
    .exact ih hb
  exact this h.rw hb
theorem LRw.mono{K:W.Frag}{G G':GH}{H H':Hp}{p:Addr}{as:List Addr}{w:List (List D)}(h:LRw K G H p as w)(ge:aH G G')(he:∀b∈p::as,H' b=H b)(un:∀b∈p::as,G' b=none):LRw K G' H' p as w:=⟨by rw[he p g_];exact h.out,h.nd,un,CZ h.rw fun b hb ds r=>r.mono ge (he b (f_ _ hb))⟩
def kF(X:Cx)(g:GE)(i:Nat)(m:List Md)(r:ak)(w:List (List D))(G:GH)(st:L2.St)(H:Hp):Prop:=∃p as,LRw X.K G H p as w/\(∀b∈p::as,g.h0 b=none)/\SI X (d6 g H (p::as) i p) m r G st H/\m[i]? = some .bw
section
variable{X:Cx}{g:GE}{i:Nat}{m m' m1:List Md}{r r':ak}{w:List (List D)}{G G':GH}{σ σ':L2.St}{H H':Hp}
theorem DX{p:Addr}{as:List Addr}(R:LRw X.K G H p as w)(h0:∀b∈p::as,g.h0 b=none)(si:SI X (d6 g H (p::as) i p) m r G σ H)(le:aH G G')(si':SI X (d6 g H (p::as) i p) m' r' G' σ' H')(hm:m'[i]? = some .bw):kF X g i m' r' w G' σ' H':=by
 have he:∀b∈p::as,H' b=H b:=fun b hb=>by have hs:=R.isS hb;cases e:H b with
 |none=>exact absurd e hs
 |some o=>
   have:(d6 g H (p::as) i p).h0 b=some o:=by show(if b∈p::as then H b else g.h0 b)=_;rw[if_pos hb];exact e
   rw[si'.old b o this]
 have un:∀b∈p::as,G' b=none:=fun b hb=>by
  have h:(d6 g H (p::as) i p).h0 b≠none:=by show(if b∈p::as then H b else g.h0 b)≠_;rw[if_pos hb];exact R.isS hb
  have e1:=si'.gf b h;have e2:=si.gf b h;rw[e1,<-e2];exact R.un b hb
 exact⟨p,as,R.mono le he un,h0,by rw[vM he];exact si',hm⟩
abbrev Fy:=ak->List (List D)->Option (ak×List (List D))
variable{st:Stmt}{sts:List Stmt}{ro:Bool}{mb:List Md}{s1:FS}{f1 f2:Fy}{tg iter:Expr}{pos:Pos}
theorem BI{K:W.Frag}{H:Hp}:∀{as:List Addr}{w:List (List D)}{G:GH},aM K G H->Paired (g9 K G H) as w->as.Nodup->(∀b∈as,G b=none)->∃G',aH G G'/\(∀b,b∉as->G' b=G b)/\aM K G' H/\Paired (fun b ds=>G' b=some (.lst ds)) as w:=by
 intro as
 induction as with
|nil=>intro w G gk h _ _;cases h;exact⟨G,aH.refl G,fun _ _=>rfl,gk,.nil⟩
|cons b as ih=>intro w G gk h nd un;cases h with
 |@cons _ ds _ w r t=>
   rw[List.nodup_cons]at nd;have hb:=un b g_;obtain⟨xs,e,rs⟩:=r;have g1:aM K (gset G b (.lst ds)) H:=gk.gset hb (.lst (.inl e) rs);obtain⟨G',l,o,g,q⟩:=ih g1 (CZ t fun c hc ds r=>r.mono (dR hb) rfl) nd.2 fun c hc=>by rw[df (by rintro rfl;exact nd.1 hc)];exact un c (f_ _ hc)
   refine⟨G',aH.trans (dR hb) l,fun c hc=>?_,g,.cons (l _ _ cM) q⟩;rw[o c fun z=>hc (f_ _ z),df (by rintro rfl;exact hc g_)]
theorem Dj{G:GH}{as:List Addr}{w:List (List D)}{b:Addr}(hb:b∈as)(q:Paired (fun b ds=>G b=some (.lst ds)) as w):∃ds,G b=some (.lst ds):=by induction q with
|nil=>cases hb
|cons h _ ih=>
  rcases q_.mp hb with rfl|hb
  .exact⟨_,h⟩
  .exact ih hb
theorem vN{fp:List Addr}{p:Addr}{d0:D}(si:SI X (d6 g H fp i p) m r G σ H)(hm:m[i]? = some .bw)(h0:∀b∈fp,g.h0 b=none)(hS:∀b∈fp,H b≠none)(hb:∀j,j≠i->m[j]?≠some .bw)(le:aH G G')(g2:aM X.K G' H)(out:∀b,b∉fp->G' b=G b)(hd:G' p=some d0):SI X g (m.set i .sh) (r.set i (some d0)) G' σ H:=by
 have hlt:i<m.length:=(k_.mp hm).1;have hst:σ[i]? = some (some (V.ref p)):=(si.lk i (some (V.ref p),none) (by show(if i=i then _ else _)=_;rw[if_pos rfl]) hm).1;have h0':∀b,b∉fp->(d6 g H (fp) i p).h0 b=g.h0 b:=fun b hb=>by show(if b∈fp then H b else g.h0 b)=_;rw[if_neg hb]
 have h0i:∀b,b∈fp->(d6 g H (fp) i p).h0 b≠none:=fun b hb=>by show(if b∈fp then H b else g.h0 b)≠_;rw[if_pos hb];exact hS b hb
 have nin:∀b,g.h0 b≠none->b∉fp:=fun b h z=>h (h0 b z);have mne:∀{j x},i≠j->(m.set i .sh)[j]? = some x->m[j]? = some x:=fun hij h=>by rw[c_ hij]at h;exact h
 refine⟨g2,fun a o e=>?_,fun a d e=>le a d (si.ge a d e),fun a h=>?_,by simpa using si.lm,by simpa using si.lr,fun j d h1 h2=>?_,fun j d h1 h2=>?_,fun j d h1 h2=>?_,fun j k a d e hjk h1 h2 m1 m2 z1 z2=>?_,fun j o hj hm'=>?_⟩
 .exact si.old a o (by rw[h0' a (nin a (by rw[e];simp))];exact e)
 .have hn:=nin a h;rw[out a hn];exact si.gf a (by rw[h0' a hn];exact h)
 .by_cases hij:i=j
  .subst hij;rw[o_ (by rw[si.lr,<-si.lm];exact hlt)]at h1;cases h1;exact⟨_,hst,.ref hd⟩
  .rw[c_ hij]at h1;obtain⟨v,y1,y2⟩:=si.sh j d h1 (mne hij h2);exact⟨v,y1,y2.mono le⟩
 .by_cases hij:i=j
  .subst hij;rw[o_ hlt]at h2;cases h2
  .rw[c_ hij]at h1;obtain⟨a,y1,y2,y3⟩:=si.ow j d h1 (mne hij h2);have hn:a∉fp:=fun z=>h0i a z y3;exact⟨a,y1,⟨by rw[out a hn];exact y2.un,y2.ob.mono le fun _ z=>z⟩,by rw[<-h0' a hn];exact y3⟩
 .by_cases hij:i=j
  .subst hij;rw[o_ hlt]at h2;cases h2
  .exact absurd (mne hij h2) (hb j (Rs hij))
 .have hij:i≠j:=by rintro rfl;rw[o_ hlt]at m1;cases m1
  have hik:i≠k:=by rintro rfl;rw[o_ hlt]at m2;cases m2
  rw[c_ hij]at h1;rw[c_ hik]at h2;exact si.dis j k a d e hjk h1 h2 (mne hij m1) (mne hik m2) z1 z2
 .by_cases hij:i=j
  .subst hij;rw[o_ hlt]at hm';cases hm'
  .exact absurd (mne hij hm') (hb j (Rs hij))
theorem kF.frz(s:kF X g i m r w G σ H)(hb:∀j,j≠i->m[j]?≠some .bw):∃G',aH G G'/\(∀b d,G b=none->G' b=some d->∃ds,d=.lst ds)/\SI X g (m.set i .sh) (r.set i (some (.lst (w.map D.lst)))) G' σ H:=by
 obtain⟨p,as,R,h0,si,hm⟩:=s;have nd:=PZ.mp R.nd;obtain⟨G1,l1,o1,g1,q1⟩:=BI si.gok R.rw nd.2 fun b hb=>R.un b (f_ _ hb);have hp1:G1 p=none:=by rw[o1 p nd.1];exact R.un p g_
 have rs:bA X.K G1 (as.map V.ref) (w.map D.lst):=by
  have:∀{as:List Addr}{w:List (List D)},Paired (fun b ds=>G1 b=some (.lst ds)) as w->bA X.K G1 (as.map V.ref) (w.map D.lst):=fun{as w} q=>by induction q with
  |nil=>exact .nil
  |cons h _ ih=>exact .cons (.ref h) ih
  exact this q1
 have g2:aM X.K (gset G1 p (.lst (w.map D.lst))) H:=g1.gset hp1 (.lst (.inl R.out) rs);have le:aH G (gset G1 p (.lst (w.map D.lst))):=aH.trans l1 (dR hp1);have out:∀b,b∉p::as->gset G1 p (.lst (w.map D.lst)) b=G b:=fun b hb=>by rw[df (by rintro rfl;exact hb g_),o1 b fun z=>hb (f_ _ z)]
 refine⟨_,le,fun b d hn e=>?_,vN si hm h0 (fun b hb=>R.isS hb) hb le g2 out cM⟩;by_cases hbp:b=p
 .subst hbp;rw[cM]at e;cases e;exact⟨_,rfl⟩
 .rw[df hbp]at e;by_cases hba:b∈as
  .obtain⟨ds,e1⟩:=Dj hba q1;rw[e1]at e;cases e;exact⟨_,rfl⟩
  .rw[o1 b hba,hn]at e;cases e
def Fu(X:Cx)(g:GE)(ro:Bool)(mb:List Md)(i:Nat)(m:List Md)(sts:List Stmt)(F:ak->List (List D)->Out)(m':List Md):Prop:=m'.length=m.length/\cY X sts (fun D σ H=>∃r w G,kF X g i m r w G σ H/\bD X g ro m' mb G D (F r w))
end
def RO(K:W.Frag)(H2:Hp)(p:Addr)(G:GH)(H:Hp)(ws:List V)(ds:List D):Prop:=Paired (fun v d=>∃b,v=V.ref b/\H2 b=none/\b≠p/\Own K G H b d) ws ds/\ws.Nodup
section
variable{K:W.Frag}{H2:Hp}{p:Addr}{G G':GH}{H H':Hp}{ws:List V}{ds:List D}
theorem RO.grow(h:RO K H2 p G H ws ds)(w:Grow K G H G' H'):RO K H2 p G' H' ws ds:=⟨Paired.mono (fun v d ⟨b,e,h1,h2,h3⟩=>⟨b,e,h1,h2,h3.mono w⟩) h.1,h.2⟩
theorem RO.upd{o:HO}(h:RO K H2 p G H ws ds):RO K H2 p G (L2.upd H p o) ws ds:=⟨Paired.mono (fun v d ⟨b,e,h1,h2,h3⟩=>⟨b,e,h1,h2,h3.un,h3.ob.mono (fun _ _ z=>z) fun _ z=>by rw[bf h2];exact z⟩) h.1,h.2⟩
end
section
variable{X:Cx}{g:GE}{i:Nat}{m m' m1:List Md}{r r':ak}{w:List (List D)}{G G':GH}{σ σ':L2.St}{H H':Hp}
theorem SI.row{p:Addr}{as:List Addr}(R:LRw X.K G H p as w)(si:SI X (d6 g H (p::as) i p) m r G σ H)(hm:m[i]? = some .bw)(hb:∀j,j≠i->m[j]?≠some .bw){b:Addr}(hbm:b∈p::as)(o:HO):SI X (d6 g (upd H b o) (p::as) i p) m r G σ (upd H b o):=by
 have un:=R.un b hbm;have h0':∀c,c∉p::as->(d6 g H (p::as) i p).h0 c=g.h0 c:=fun c hc=>by show(if c∈p::as then H c else g.h0 c)=_;rw[if_neg hc]
 have h0i:∀c,c∈p::as->(d6 g H (p::as) i p).h0 c=H c:=fun c hc=>by show(if c∈p::as then H c else g.h0 c)=_;rw[if_pos hc]
 have k0':∀c,c∉p::as->(d6 g (upd H b o) (p::as) i p).h0 c=g.h0 c:=fun c hc=>by show(if c∈p::as then _ else g.h0 c)=_;rw[if_neg hc]
 have k0i:∀c,c∈p::as->(d6 g (upd H b o) (p::as) i p).h0 c=upd H b o c:=fun c hc=>by show(if c∈p::as then upd H b o c else g.h0 c)=_;rw[if_pos hc]
 refine⟨fun c d e=>?_,fun c u e=>?_,si.ge,fun c h=>?_,si.lm,si.lr,si.sh,fun j d h1 h2=>?_,fun j d h1 h2=>?_,si.dis,si.lk⟩
 .have hc:c≠b:=by rintro rfl;rw[un]at e;cases e
  exact(si.gok c d e).mono (fun _ _ z=>z) fun u z=>by rw[bf hc];exact z
 .by_cases hc:c∈p::as
  .rw[k0i c hc]at e;exact e
  .rw[k0' c hc]at e;have hcb:c≠b:=by rintro rfl;exact hc hbm
   rw[bf hcb];exact si.old c u (by rw[h0' c hc];exact e)
 .by_cases hc:c∈p::as
  .exact si.gf c (by rw[h0i c hc];exact R.isS hc)
  .rw[k0' c hc]at h;exact si.gf c (by rw[h0' c hc];exact h)
 .obtain⟨a,q1,q2,q3⟩:=si.ow j d h1 h2;have ha:a∉p::as:=fun z=>by rw[h0i a z]at q3;exact R.isS z q3
  have hab:a≠b:=by rintro rfl;exact ha hbm
  rw[h0' a ha]at q3;exact⟨a,q1,⟨q2.un,q2.ob.mono (fun _ _ z=>z) fun u z=>by rw[bf hab];exact z⟩,by rw[k0' a ha];exact q3⟩
 .by_cases hj:j=i
  .subst hj;have:=(si.lk j (some (V.ref p),none) (by show(if j=j then _ else _)=_;rw[if_pos rfl]) hm).2 d h1;cases this
  .exact absurd h2 (hb j hj)
variable{ro:Bool}{mb:List Md}{pos p1 p2 p3 p4 p5 p6 p7 p8 p9 p10 p11:Pos}{x xa xb:Str}{jc:Nat}
end
def lessA(H:Hp)(a:Addr):Hp:=fun b=>if b=a then none else H b
theorem Mv{H:Hp}{a b:Addr}(h:b≠a):lessA H a b=H b:=if_neg h
theorem Grow.lessA{K:W.Frag}{G G' G2:GH}{H H' H2:Hp}{a:Addr}(w:Grow K G H G' H')(ha:H a=none)(w2:Grow K G' (lessA H' a) G2 H2):Grow K G H G2 H2:=by
 have ne:∀b,H b≠none->b≠a:=fun b h=>by rintro rfl;exact h ha
 have he:∀b o,H b=some o->DL.lessA H' a b=some o:=fun b o e=>by rw[Mv (ne b (by rw[e];simp))];exact w.he b o e
 refine⟨w2.ok,fun b o e=>w2.he b o (he b o e),fun b d e=>w2.ge b d (w.ge b d e),fun b h=>?_⟩;rw[w2.gf b ?_,w.gf b h];cases e:H b with
|none=>exact absurd e h
|some o=>rw[he b o e];simp
def Pp(K:W.Frag)(ro:Bool)(ms:List Md)(F:List D->Res D):Sp:=fun vs H Q _=>∃G us a ds d,aM K G H/\vs=us++[V.ref a]/\ArgsOk K G H ms us ds/\Own K G H a d /\fin (F (ds++[d])) (fun d'=>∀v G' H',Grow K G (lessA H a) G' H'->RV ro K (lessA H a) G' H' v d'->Q v H') fun _=>False
section
variable{K:W.Frag}{G:GH}{H:Hp}
theorem ArgsOk.snoc{ms:List Md}{us:List V}{ds:List D}{v:V}{d:D}(h:ArgsOk K G H ms us ds)(r:RB K G H v d):ArgsOk K G H (ms++[.bw]) (us++[v]) (ds++[d]):=by induction h with
|nil=>exact .bw r .nil
|sh h _ ih=>exact .sh h ih
|bw h _ ih=>exact .bw h ih
end
section
variable{P:B_}{w:PP}{K:W.Frag}{mg:Str->Option b_}{base:Heap}
structure CalleeV(P:B_)(w:PP)(K:W.Frag)(mg:Str->Option b_)(base:Heap)(x:Str)(ps:List Str)(k:Nat)(ro:Bool)(ms:List Md)(F:List D->Res D):Prop where
 ex:∃f fd,mg x=some (.ref f)/\W.keepIn K (.ref f)=true/\fF K fd ps []/\FnOk P w K mg base bN k f fd ps (Pp K ro ms F)
end
theorem LRw.grow{K:W.Frag}{G G':GH}{H H':Hp}{p:Addr}{as:List Addr}{w:List (List D)}(R:LRw K G H p as w)(wg:Grow K G H G' H'):LRw K G' H' p as w:=by
 refine R.mono wg.ge (fun b hb=>?_) fun b hb=>by rw[wg.gf b (R.isS hb)];exact R.un b hb
 cases e:H b with
|none=>exact absurd e (R.isS hb)
|some o=>rw[wg.he b o e]
inductive Cln:D->Prop where
 |non:Cln .non
 |bl (b:Bool):Cln (.bl b)
 |int (i:Int):Cln (.int i)
 |str (x:Str):Cln (.str x)
 |tup {ds:List D}:(∀d∈ds,Cln d)->Cln (.tup ds)
theorem Cln.lst{ds:List D}(h:Cln (.lst ds)):False:=nomatch h
theorem Cln.dic{ds:List (aB×D)}(h:Cln (.dic ds)):False:=nomatch h
theorem Cln.get{ds:List D}(h:Cln (.tup ds)):∀d∈ds,Cln d:=by cases h with
|tup h=>exact h
section
variable{X:Cx}{g:GE}{i:Nat}{m m' m1:List Md}{r r':ak}{w:List (List D)}{G G':GH}{σ σ':L2.St}{H H':Hp}{e:Expr}{f:FE}{st:Stmt}{pos p1 p2 p3 p4 p5 p6 p7 p8 p9 p10:Pos}{x xa xb y:Str}
theorem kF.after(s:kF X g i m r w G σ H)(wg:Grow X.K G H G' H'):kF X g i m r w G' σ H':=by obtain⟨p,as,R,h0,si,hm⟩:=s;exact DX R h0 si wg.ge (si.grow wg) hm
abbrev y8(i:Nat)(r:ak)(w:List (List D)):ak:=r.set i (some (.lst (w.map D.lst)))
end
structure TL(K:W.Frag)(G:GH)(H:Hp)(p a:Addr)(d1:D)(ds:List D):Prop where
 tp:∃x xs,H p=some (.tup [x,.ref a])/\RG K G x d1/\H a=some (.lst xs)/\bA K G xs ds
 un:∀b∈[p,a],G b=none
 ne:p≠a
theorem TL.isS{K:W.Frag}{G:GH}{H:Hp}{p a:Addr}{d1:D}{ds:List D}(t:TL K G H p a d1 ds):∀b∈[p,a],H b≠none:=fun b hb=>by
 obtain⟨x,xs,h1,_,h2,_⟩:=t.tp;rcases q_.mp hb with rfl|hb
 .rw[h1];simp
 .rw[y_.mp hb,h2];simp
theorem TL.grow{K:W.Frag}{G G':GH}{H H':Hp}{p a:Addr}{d1:D}{ds:List D}(t:TL K G H p a d1 ds)(w:Grow K G H G' H'):TL K G' H' p a d1 ds:=by obtain⟨x,xs,h1,h2,h3,h4⟩:=t.tp;exact⟨⟨x,xs,w.he _ _ h1,h2.mono w.ge,w.he _ _ h3,h4.mono w.ge⟩,fun b hb=>by rw[w.gf b (t.isS b hb)];exact t.un b hb,t.ne⟩
def RW(K:W.Frag)(H0:Hp)(G:GH)(H:Hp)(v:V)(d:D):Prop:=∃p a d1 ds,v=.ref p/\d=.tup [d1,.lst ds]/\(∀b∈[p,a],H0 b=none)/\TL K G H p a d1 ds
def Po(K:W.Frag)(ms:List Md)(F:List D->Res D):Sp:=fun vs H Q _=>∃G ds,aM K G H/\ArgsOk K G H ms vs ds/\fin (F ds) (fun d=>∀v G' H',Grow K G H G' H'->RW K H G' H' v d->Q v H') fun _=>False
abbrev FW:=ak->Res D
section
variable{P:B_}{w:PP}{K:W.Frag}{mg:Str->Option b_}{base:Heap}
structure CalleeW(P:B_)(w:PP)(K:W.Frag)(mg:Str->Option b_)(base:Heap)(x:Str)(ps:List Str)(k:Nat)(ms:List Md)(F:List D->Res D):Prop where
 ex:∃f fd,mg x=some (.ref f)/\W.keepIn K (.ref f)=true/\fF K fd ps []/\FnOk P w K mg base bN k f fd ps (Po K ms F)
end
section
variable{X:Cx}{g:GE}{ro:Bool}{i:Nat}{m m' m1 mb ms:List Md}{r r':ak}{G G':GH}{σ σ':L2.St}{H H':Hp}{e c:Expr}{es:List Expr}{q:FQ}{st:Stmt}{sts sts1:List Stmt}{fl:ak->Res (List D)}{F:List D->Res D}{k:Nat}{ps:List Str}{pos p1 p2 p3 p4 apos cpos:Pos}{x y:Str}{d1:D}{ds:List D}
def pf(X:Cx)(g:GE)(i:Nat)(m:List Md)(r:ak)(d1:D)(ds:List D)(G:GH)(st:L2.St)(H:Hp):Prop:=∃p a,TL X.K G H p a d1 ds/\(∀b∈[p,a],g.h0 b=none)/\SI X (d6 g H [p,a] i p) m r G st H/\m[i]? = some .bw
theorem pf.after(s:pf X g i m r d1 ds G σ H)(wg:Grow X.K G H G' H'):pf X g i m r d1 ds G' σ H':=by
 obtain⟨p,a,t,h0,si,hm⟩:=s;refine⟨p,a,t.grow wg,h0,?_,hm⟩;rw[vM (H:=H) fun b hb=>?_]
 .exact si.grow wg
 .cases e:H b with
 |none=>exact absurd e (t.isS b hb)
 |some o=>rw[wg.he b o e]
theorem pf.frz(s:pf X g i m r d1 ds G σ H)(hb:∀j,j≠i->m[j]?≠some .bw):∃G',aH G G'/\(∀b d,G b=none->G' b=some d->¬ Cln d)/\SI X g (m.set i .sh) (r.set i (some (.tup [d1,.lst ds]))) G' σ H:=by
 obtain⟨p,a,t,h0,si,hm⟩:=s;obtain⟨x,xs,h1,h2,h3,h4⟩:=t.tp;have ua:=t.un a (f_ _ g_);have up:=t.un p g_;have g1:aM X.K (gset G a (.lst ds)) H:=si.gok.gset ua (.lst (.inl h3) h4);have up1:gset G a (.lst ds) p=none:=by rw[df t.ne];exact up
 have g2:aM X.K (gset (gset G a (.lst ds)) p (.tup [d1,.lst ds])) H:=g1.gset up1 (.tup (.inl h1) (.cons (h2.mono (dR ua)) (.cons (.ref cM) .nil)));refine⟨_,aH.trans (dR ua) (dR up1),fun b d hn e hc=>?_,vN si hm h0 t.isS hb (aH.trans (dR ua) (dR up1)) g2 (fun b hb=>?_) cM⟩
 .by_cases hbp:b=p
  .subst hbp;rw[cM]at e;cases e;exact(hc.get _ (f_ _ g_)).lst
  .rw[df hbp]at e;by_cases hba:b=a
   .subst hba;rw[cM]at e;cases e;exact hc.lst
   .rw[df hba,hn]at e;cases e
 .rw[df (by rintro rfl;exact hb g_),df (by rintro rfl;exact hb (f_ _ g_))]
end
end DL
section
namespace DL
section
open PySem PyProof.Rows PySem.W PySem.Calls
variable{prog:B_}{w:PP}{A:P8}{E:b_->h_->Prop}{s:h_}{l:Addr}{vs:List b_}{ns:List Int}
end
open PySem PySem.Spec PyProof.Rows L2
end DL
end
section
namespace DL
section
open PySem PyProof.Rows
variable{prog:B_}{w:PP}{A:P8}{R:WV->h_->Prop}{I S:Addr}{fp wr:List Addr}{n:Nat}{P:Nat->b_->Prop}{St:Nat->Heap->Prop}{TP:Heap->Prop}{bt:Nat->Nat->Bool}
def pS(wr:List Addr)(S:Addr)(h h':Heap):Prop:=∀b o,b∉wr->b≠S->h.get? b=some o->h'.get? b=some o
theorem pS.trans{h h1 h2:Heap}(a:pS wr S h h1)(b:pS wr S h1 h2):pS wr S h h2:=fun c o hc hs e=>b c o hc hs (a c o hc hs e)
end
end DL
end
namespace DL
open PySem PySem.Spec PyProof.Rows L2
theorem Bf{α:Type}{l:List α}{j:Nat}{a:α}(h:l[j]? = some a):l.set j a=l:=by
 refine QS fun n=>?_;by_cases hn:j=n
 .subst hn;rw[o_ (k_.mp h).1,h]
 .rw[c_ hn]
def iP(X:Cx)(g:GE)(i jr:Nat)(m:List Md)(r:ak)(w:List (List D))(k:Nat)(G:GH)(st:L2.St)(H:Hp):Prop:=∃p as q,LRw X.K G H p as w/\(∀b∈p::as,g.h0 b=none)/\SI X (d6 g H (p::as) i p) m r G st H/\as[k]? = some q/\st[jr]? = some (some (V.ref q))/\m[i]? = some .bw/\m[jr]? = some .sh/\r[jr]? = some none
abbrev Gu(i jr:Nat)(r:ak)(w:List (List D))(k:Nat):ak:=(y8 i r w).set jr (some (.lst (w.getD k [])))
section
variable{X:Cx}{g:GE}{i jr k:Nat}{m m' m1:List Md}{r r':ak}{w:List (List D)}{G G':GH}{σ σ':L2.St}{H H':Hp}{e ie:Expr}{f fi:FE}{st:Stmt}{sts:List Stmt}{pos p1 p2 p3 p4 p5 p6 p7 p8 p9 p10:Pos}{x y:Str}
theorem SI.slot{v:V}(s:SI X g m r G σ H)(hm:m[i]? = some .sh):SI X g m (r.set i none) G (σ.set i (some v)) H:=by
 have key:∀{j:Nat}{d:D},(r.set i none)[j]? = some (some d)->i≠j/\r[j]? = some (some d):=fun{j d} h=>by
  have hij:i≠j:=by
   rintro rfl
   rw[List.getElem?_set,if_pos rfl]at h;split at h <;> cases h
  rw[c_ hij]at h;exact⟨hij,h⟩
 refine⟨s.gok,s.old,s.ge,s.gf,by rw[Sw];exact s.lm,by rw[Sw,Sw];exact s.lr,fun j d h hj=>?_,fun j d h hj=>?_,fun j d h hj=>?_,fun j k a d e hjk h1 h2 m1 m2 q1 q2=>?_,fun j o h hj=>?_⟩
 .obtain⟨hij,h⟩:=key h;rw[c_ hij];exact s.sh j d h hj
 .obtain⟨hij,h⟩:=key h;rw[c_ hij];exact s.ow j d h hj
 .obtain⟨hij,h⟩:=key h;rw[c_ hij];exact s.bw j d h hj
 .obtain⟨z1,h1⟩:=key h1;obtain⟨z2,h2⟩:=key h2;rw[c_ z1]at q1;rw[c_ z2]at q2;exact s.dis j k a d e hjk h1 h2 m1 m2 q1 q2
 .have hij:i≠j:=by rintro rfl;rw[hm]at hj;cases hj
  obtain⟨q1,q2⟩:=s.lk j o h hj;exact⟨by rw[c_ hij];exact q1,fun d hd=>q2 d (by rw[c_ hij]at hd;exact hd)⟩
theorem iP.after(s:iP X g i jr m r w k G σ H)(wg:Grow X.K G H G' H'):iP X g i jr m r w k G' σ H':=by
 obtain⟨p,as,q,R,h0,si,h1,h2,h3,h4,h5⟩:=s;have he:∀b∈p::as,H' b=H b:=fun b hb=>by cases e:H b with
 |none=>exact absurd e (R.isS hb)
 |some o=>rw[wg.he b o e]
 exact⟨p,as,q,R.grow wg,h0,by rw[vM he];exact si.grow wg,h1,h2,h3,h4,h5⟩
theorem iP.frz(s:iP X g i jr m r w k G σ H)(hb:∀j,j≠i->m[j]?≠some .bw):∃G',aH G G'/\(∀b d,G b=none->G' b=some d->∃ds,d=.lst ds)/\SI X g (m.set i .sh) (Gu i jr r w k) G' σ H:=by
 obtain⟨p,as,q,R,h0,si,ha,hs,hm,hmj,hr⟩:=s;have nd:=PZ.mp R.nd;obtain⟨G1,l1,o1,g1,q1⟩:=BI si.gok R.rw nd.2 fun b hb=>R.un b (f_ _ hb);have hp1:G1 p=none:=by rw[o1 p nd.1];exact R.un p g_
 have rs:bA X.K G1 (as.map V.ref) (w.map D.lst):=by
  have:∀{as:List Addr}{w:List (List D)},Paired (fun b ds=>G1 b=some (.lst ds)) as w->bA X.K G1 (as.map V.ref) (w.map D.lst):=fun{as w} q=>by induction q with
  |nil=>exact .nil
  |cons h _ ih=>exact .cons (.ref h) ih
  exact this q1
 have g2:aM X.K (gset G1 p (.lst (w.map D.lst))) H:=g1.gset hp1 (.lst (.inl R.out) rs);have le:aH G (gset G1 p (.lst (w.map D.lst))):=aH.trans l1 (dR hp1);have out:∀b,b∉p::as->gset G1 p (.lst (w.map D.lst)) b=G b:=fun b hb=>by rw[df (by rintro rfl;exact hb g_),o1 b fun z=>hb (f_ _ z)]
 have hk:k<w.length:=by rw[<-Paired.length q1];exact(k_.mp ha).1
 have hw:w[k]? = some (w.getD k []):=by rw[E_,i_ hk];rfl
 obtain⟨q',hq',hg'⟩:=Paired.get q1 hw;rw[ha]at hq';cases hq';have S:=vN si hm h0 (fun b hb=>R.isS hb) hb le g2 out cM;have S2:=S.set jr (v:=.ref q) (.ref (dR hp1 _ _ hg'));have hji:i≠jr:=by rintro rfl;rw[hm]at hmj;cases hmj
 rw[Bf (by rw[c_ hji];exact hmj),Bf hs]at S2;refine⟨_,le,fun b d hn e=>?_,S2⟩;by_cases hbp:b=p
 .subst hbp;rw[cM]at e;cases e;exact⟨_,rfl⟩
 .rw[df hbp]at e;by_cases hba:b∈as
  .obtain⟨ds,e1⟩:=Dj hba q1;rw[e1]at e;cases e;exact⟨_,rfl⟩
  .rw[o1 b hba,hn]at e;cases e
end
end DL
namespace DL
open PySem PySem.Spec PyProof.Rows L2 PySem.W PySem.Calls
def Pn(K:W.Frag)(ro:Bool)(ms:List Md)(F:List D->Res D):Sp:=fun vs H Q E=>∃G ds,aM K G H/\ArgsOk K G H ms vs ds /\fin (F ds) (fun d=>∀v G' H',Grow K G H G' H'->RV ro K H G' H' v d->Q v H') fun x=>∀C od nm fs G' H',x=xD nm fs->XN K nm C->XF G' od fs->Grow K G H G' H'->E (.ref C) od H'
section
variable{P:B_}{w:PP}{K:W.Frag}{mg:Str->Option b_}{base:Heap}
structure CalleeX(P:B_)(w:PP)(K:W.Frag)(mg:Str->Option b_)(base:Heap)(x:Str)(ps:List Str)(ds:List b_)(k:Nat)(ro:Bool)(ms:List Md)(F:List D->Res D):Prop where
 ex:∃f fd,mg x=some (.ref f)/\W.keepIn K (.ref f)=true/\fF K fd ps ds/\FnOk P w K mg base (PD P w) k f fd ps (Pn K ro ms F)
end
def XO(K:W.Frag)(C:Addr)(bm:List b_):Prop:=∃N nm q bs hdct sn sub ab col dd k0 k1 k2 k3 k5 newId,K.lookup C=some (excClassObj nm q C N bs bm hdct sn sub ab col dd k0 k1 k2 k3 k5 newId)
abbrev _root_.L2.Cx.held(X:Cx)(v:b_):Cx:={ X with A:=X.A.mark (some v),calm:=false,xe:=fun _ _=>False }
section
variable{X:Cx}{pz:List (Addr×Obj)}{σ:L2.St}{H H':Hp}{s s':h_}{a C:Addr}{od:Option Addr}
theorem Inv.held(I:Inv X pz σ H s)(v:b_):Inv (X.held v) pz σ H s:=⟨⟨I.ok.mod,I.ok.kind,I.ok.glob,I.ok.blt,I.ok.above,I.ok.inj,I.ok.has,I.ok.cab,(fun h=>nomatch h),I.ok.frames,I.ok.stk,I.ok.exf,I.ok.bs,I.ok.bsz,I.ok.noex,I.ok.exfs,I.ok.funs,I.ok.frf⟩,I.os,I.bare,I.base,I.loc,I.cell,I.free,I.freeC,I.pin,I.hok,I.len⟩
end
abbrev _root_.L2.Cx.tr(X:Cx)(ps:List (Addr×Obj))(E:b_->h_->Prop):Cx:={ X with pn:=ps,xe:=E }
section
variable{X:Cx}{pz pins':List (Addr×Obj)}{σ:L2.St}{H:Hp}{s:h_}{E:b_->h_->Prop}
theorem Inv.tr(I:Inv X pz σ H s)(E:b_->h_->Prop):Inv (X.tr (X.pn++pz) E) [] σ H s:=⟨⟨I.ok.mod,I.ok.kind,I.ok.glob,I.ok.blt,I.ok.above,I.ok.inj,I.ok.has,I.ok.cab,I.ok.hd,I.ok.frames,I.ok.stk,I.ok.exf,I.ok.bs,I.ok.bsz,I.ok.noex,I.ok.exfs,I.ok.funs,I.ok.frf⟩,I.os,I.bare,I.base,I.loc,I.cell,I.free,I.freeC,fun p hp=>I.pin p (by rw[QC]at hp;exact hp),I.hok,I.len⟩
theorem Inv.untr(I:Inv (X.tr (X.pn++pz) E) pins' σ H s):Inv X pz σ H s:=⟨⟨I.ok.mod,I.ok.kind,I.ok.glob,I.ok.blt,I.ok.above,I.ok.inj,I.ok.has,I.ok.cab,I.ok.hd,I.ok.frames,I.ok.stk,I.ok.exf,I.ok.bs,I.ok.bsz,I.ok.noex,I.ok.exfs,I.ok.funs,I.ok.frf⟩,I.os,I.bare,I.base,I.loc,I.cell,I.free,I.freeC,fun p hp=>I.pin p (PU _ hp),I.hok,I.len⟩
theorem SP.untr{D:Ends}{f:Flow}(h:SP (X.tr (X.pn++pz) E) [] D f s):SP X pz D f s:=by cases f with
|next=>obtain⟨σ',H',I,q⟩:=h;exact⟨σ',H',Inv.untr I,q⟩
|brk=>obtain⟨σ',H',I,q⟩:=h;exact⟨σ',H',Inv.untr I,q⟩
|cont=>obtain⟨σ',H',I,q⟩:=h;exact⟨σ',H',Inv.untr I,q⟩
|ret u=>obtain⟨v,σ',H',I,r,q⟩:=h;exact⟨v,σ',H',Inv.untr I,r,q⟩
end
structure XA(K:W.Frag)(C:Addr)(bm:List b_):Prop where
 ob:XO K C bm
 be:bm.contains (Value.type "BaseException")=true
 bo:bm.contains (Value.type "object")=true
 ga:findIn K (.ref C) "__getattribute__" = some (some (.builtin "BaseException.__getattribute__"))
 gn:findIn K (.ref C) "__getattr__" = some none
 gc:findIn K (.ref C) "__class__" = some (some (.builtin "object.__class__"))
 gg:specialIn K (.builtin "object.__class__") "__get__" = some (some (.builtin "getset_descriptor.__get__"))
 gt:takesIn K (.builtin "object.__class__")=some true
structure IsxOk(K:W.Frag)(c:b_)(tab:Str->Option Bool):Prop where
 no:kitOne K (.type "NoneType") c=some false
 ex:∀nm b C,tab nm=some b->XN K nm C->∃bm,XA K C bm/\kitOne K (.ref C) c=some b
section
variable{X:Cx}{g:GE}{m:List Md}{e:Expr}{f:FE}{pos p p2:Pos}
theorem RB.exc{K:W.Frag}{G:GH}{H:Hp}{v:V}{k:Str}{nm:Str}{ds:List (Str×D)}(gk:aM K G H)(h:RB K G H v (.obj 0 ((k,.str nm)::ds))):∃a C od,v=.ref a/\H a=some (.ext (Fp a C od))/\XN K nm C:=by
 rcases h with h|⟨a,rfl,h⟩
 .cases h with
 |scl s=>cases s
 |ref e=>cases gk _ _ e with
  |exc r n f=>exact⟨_,_,_,rfl,r,n⟩
 |kc k=>cases k
 .cases h.ob
end
theorem XN.uniq{K:W.Frag}{nm:Str}{C c:Addr}(h:XN K nm C)(k:(K.all fun e=>match e.2.data with|.cls cd=>cd.name != nm || e.1==c|_=>true)=true):C=c:=by
 obtain⟨o,cd,h1,h2,h3⟩:=h;have hm:(C,o)∈(K:List (Addr×Obj)):=by
  have key:∀l:List (Addr×Obj),l.lookup C=some o->(C,o)∈l:=by
   intro l
   induction l with
  |nil=>intro h;cases h
  |cons q l ih=>
    intro h;rw[List.lookup]at h;split at h
    .rename_i hb;have:=RF hb;cases h;rw[this];exact g_
    .exact f_ _ (ih h)
  exact key K h1
 have:=Qs.mp k _ hm;simp only[h2]at this;rw[h3]at this;simpa using this
def Py(f:Addr):Nat->Option (Option V×Option D):=fun j=>if j=0 then some (some (V.ref f),none)else none
theorem SI.fn{X:Cx}{m:List Md}{r:ak}{G:GH}{st:L2.St}{H:Hp}(f:Addr)(s:SI X ⟨G,H,fun _=>none⟩ m r G st H):SI X ⟨G,H,Py f⟩ (.bw::m) (none::r) G (some (V.ref f)::st) H where
 gok:=s.gok
 old:=s.old
 ge:=s.ge
 gf:=s.gf
 lm:=congrArg (· + 1) s.lm
 lr:=congrArg (· + 1) s.lr
 sh:=fun i d h hm=>by cases i with
 |zero=>simp at h
 |succ i=>exact s.sh i d (by simpa using h) (by simpa using hm)
 ow:=fun i d h hm=>by cases i with
 |zero=>simp at h
 |succ i=>exact s.ow i d (by simpa using h) (by simpa using hm)
 bw:=fun i d h hm=>by cases i with
 |zero=>simp at h
 |succ i=>exact s.bw i d (by simpa using h) (by simpa using hm)
 dis:=fun i j a d e hij hi hj mi mj si sj=>by cases i with
 |zero=>simp at hi
 |succ i=>cases j with
  |zero=>simp at hj
  |succ j=>exact s.dis i j a d e (fun z=>hij (by rw[z])) (by simpa using hi) (by simpa using hj) (by simpa using mi) (by simpa using mj) (by simpa using si) (by simpa using sj)
 lk:=fun i o h _=>by cases i with
 |zero=>have h:some (some (V.ref f),none)=some o:=h;cases h;exact⟨rfl,fun d e=>by simp at e⟩
 |succ i=>exact nomatch (show none=some o from h)
def Pu(K:W.Frag)(mg:Str->Option b_)(y:Str)(ro:Bool)(ms:List Md)(F:List D->Res D):Sp:=fun vs H Q E=>∃f vs',mg y=some (.ref f)/\vs=V.ref f::vs'/\iF K ro ms F vs' H Q E
section
variable{P:B_}{w:PP}{K:W.Frag}{mg:Str->Option b_}{base:Heap}
structure CalleeF(P:B_)(w:PP)(K:W.Frag)(mg:Str->Option b_)(base:Heap)(x y:Str)(ps:List Str)(k:Nat)(ro:Bool)(ms:List Md)(F:List D->Res D):Prop where
 ex:∃f fd,mg x=some (.ref f)/\W.keepIn K (.ref f)=true/\fF K fd ps []/\FnOk P w K mg base bN k f fd ps (Pu K mg y ro ms F)
end
end DL
namespace DL
open PySem PySem.Spec PyProof.Rows L2
section
variable{X:Cx}{g:GE}{i:Nat}{m m' m1:List Md}{r r':ak}{w:List (List D)}{G G':GH}{σ σ':L2.St}{H H':Hp}{st:Stmt}{sts sts':List Stmt}{ro:Bool}{mb:List Md}{c e:Expr}{q:FQ}{f:FE}{s1:FS}{f1:Fy}{pos p1 p2 p3 apos cpos:Pos}{x y:Str}
abbrev FM:=ak->List (List D)->Out
def tM(X:Cx)(g:GE)(ro:Bool)(mb:List Md)(i:Nat)(m m':List Md)(F:FM):TS:=fun D σ H=>∃r w G,kF X g i m r w G σ H/\bD X g ro m' mb G D (F r w)
def SM(X:Cx)(g:GE)(ro:Bool)(mb:List Md)(i:Nat)(m:List Md)(st:Stmt)(F:FM)(m':List Md):Prop:=m'.length=m.length/\PS X st (tM X g ro mb i m m' F)
def Fk(q:FQ)(F1 F2:FM):FM:=fun r w=>match q r with
|.ok true=>F1 r w
|.ok false=>F2 r w
|_=>.stuck
theorem sm_if{F1 F2:FM}(hc:∀g',SQ X g' m c q)(h1:Fu X g ro mb i m sts F1 m')(h2:Fu X g ro mb i m sts' F2 m'):SM X g ro mb i m (.If c sts sts' pos) (Fk q F1 F2) m':=by have hcA:PT X c (fun σ H Q=>∃g',tQ X g' m q σ H Q):=fun pz s σ H Q I ⟨g',k⟩=>hc g' pz s σ H Q I k;refine⟨h1.1,PS.imp (pE hcA h1.2 h2.2) fun D σ H ⟨r,w,G,⟨p,as,R,h0,si,hm⟩,k⟩=>⟨_,r,G,si,?_⟩⟩;unfold Fk at k;cases z:q r with
|exc x=>rw[z]at k;exact k.elim
|stuck=>rw[z]at k;exact k.elim
|ok b=>rw[z]at k;intro G1 H1 w1;have S1:=DX R h0 si w1.ge (si.grow w1) hm;cases b with
 |true=>rw[if_pos rfl];exact⟨r,w,G1,S1,bD.gle k w1.ge⟩
 |false=>rw[if_neg j_];exact⟨r,w,G1,S1,bD.gle k w1.ge⟩
end
def Pr(K:W.Frag)(ms:List Md)(F:List D->Option (List (List D))):Sp:=fun vs H Q _=>∃G ds w',aM K G H/\ArgsOk K G H ms vs ds/\F ds=some w'/\∀p as G' H',Grow K G H G' H'->LRw K G' H' p as w'->(∀b∈p::as,H b=none)->Q (V.ref p) H'
structure CalleeR(P:B_)(w:PP)(K:W.Frag)(mg:Str->Option b_)(base:Heap)(x:Str)(ps:List Str)(k:Nat)(ms:List Md)(F:List D->Option (List (List D))):Prop where
 ex:∃f fd,mg x=some (.ref f)/\W.keepIn K (.ref f)=true/\fF K fd ps []/\FnOk P w K mg base bN k f fd ps (Pr K ms F)
def lessL(H:Hp)(fp:List Addr):Hp:=fun b=>if b∈fp then none else H b
theorem vE{H:Hp}{fp:List Addr}{b:Addr}(h:b∈fp):lessL H fp b=none:=if_pos h
theorem jC{H:Hp}{fp:List Addr}{b:Addr}(h:b∉fp):lessL H fp b=H b:=if_neg h
def Pv(K:W.Frag)(ms:List Md)(F:List (List D)->List D->Res D):Sp:=fun vs H Q _=>∃G p as w us ds,aM K G H/\LRw K G H p as w/\vs=V.ref p::us/\ArgsOk K G H ms us ds /\fin (F w ds) (fun d=>∀v G' H',Grow K G (lessL H (p::as)) G' H'->RV true K (lessL H (p::as)) G' H' v d->Q v H') fun _=>False
structure CalleeD(P:B_)(w:PP)(K:W.Frag)(mg:Str->Option b_)(base:Heap)(x:Str)(ps:List Str)(k:Nat)(ms:List Md)(F:List (List D)->List D->Res D):Prop where
 ex:∃f fd,mg x=some (.ref f)/\W.keepIn K (.ref f)=true/\fF K fd ps []/\FnOk P w K mg base bN k f fd ps (Pv K ms F)
section
variable{X:Cx}{g:GE}{i:Nat}{m ms:List Md}{mb:List Md}{e:Expr}{es:List Expr}{fl:ak->Res (List D)}{k:Nat}{ps:List Str}{F:List (List D)->List D->Res D}{r:ak}{w:List (List D)}{G G1 G':GH}{σ:L2.St}{H H1 H':Hp}{x y:Str}{p p1 p3 pos cpos:Pos}
theorem Grow.lessL{K:W.Frag}{G0:GH}{H0:Hp}{fp:List Addr}(w1:Grow K G0 H0 G1 H1)(h0:∀b∈fp,H0 b=none)(w2:Grow K G1 (lessL H1 fp) G' H'):Grow K G0 H0 G' H':=by
 have ne:∀b,H0 b≠none->b∉fp:=fun b h z=>h (h0 b z);have he:∀b o,H0 b=some o->DL.lessL H1 fp b=some o:=fun b o e=>by rw[jC (ne b (by rw[e];simp))];exact w1.he b o e
 refine⟨w2.ok,fun b o e=>w2.he b o (he b o e),fun b d e=>w2.ge b d (w1.ge b d e),fun b h=>?_⟩;rw[w2.gf b ?_,w1.gf b h];cases e:H0 b with
|none=>exact absurd e h
|some o=>rw[he b o e];simp
end
def Pq(K:W.Frag)(ms:List Md)(F:List D->Res D):Sp:=fun vs H Q _=>∃G a us d ds,aM K G H/\vs=V.ref a::us/\ArgsOk K G H ms us ds/\Own K G H a d /\fin (F (d::ds)) (fun d'=>∀v G' H',Grow K G (lessA H a) G' H'->RV true K (lessA H a) G' H' v d'->Q v H') fun _=>False
structure CalleeU(P:B_)(w:PP)(K:W.Frag)(mg:Str->Option b_)(base:Heap)(x:Str)(ps:List Str)(k:Nat)(ms:List Md)(F:List D->Res D):Prop where
 ex:∃f fd,mg x=some (.ref f)/\W.keepIn K (.ref f)=true/\fF K fd ps []/\FnOk P w K mg base bN k f fd ps (Pq K ms F)
end DL
namespace HS
open PySem PySem.Spec PyProof.Rows
def tb(m mv:Nat)(led:Bool)(ks:List Nat):RX:={ mask:=m,place:=ks.toArray,dummies:=#[],finger:=0,led:=led,moves:=mv,plain:=true }
def ins(k:Nat):List Nat->List Nat
|[]=>[k]
|a::l=>if k<a then k::a::l else a::ins k l
def pos(k:Nat)(ks:List Nat):Nat:=(ks.filter (· < k)).length
def oR:List (List Nat):=(a_ 128).map fun b=>(a_ 7).filter fun i=>b.testBit i
structure Mk(m mv:Nat)(ks:List Nat):Prop where
 mem:ks∈oR
 mode:(m,mv)=(7,0)/\ks.length<=4\/(m,mv)=(31,1)
structure Tk(m mv:Nat)(led:Bool)(ks:List Nat)(k:Nat):Prop where
 free:(tb m mv led ks).freeSlot (k:Int)=some (k,false)
 put:(tb m mv led ks).put k=(tb m mv led (ins k ks),pos k ks)
 fits:(tb m mv led (ins k ks)).fits (ks.length+1)=true
 full:(tb m mv led (ins k ks)).tooFull=(m==7&&ks.length==4)
 mem:ins k ks∈oR
 eq:ins k ks=ks.take (pos k ks)++k::ks.drop (pos k ks)
 le:pos k ks<=ks.length
structure Es(es:Array (Int×b_))(ks:List Nat):Prop where
 keys:es.toList.map (·.1)=ks.map fun k:Nat=>(k:Int)
 vals:∀e∈es.toList,∃t,e.2=.int e.1 t
theorem Es.size{es:Array (Int×b_)}{ks:List Nat}(h:Es es ks):es.size=ks.length:=by have:=congrArg Q_ h.keys;simpa using this
theorem Es.key{es:Array (Int×b_)}{ks:List Nat}(h:Es es ks){e:Int×b_}(he:e∈es.toList):∃k∈ks,e.1=((k:Nat):Int):=by have:e.1∈es.toList.map (·.1):=A_.mpr ⟨e,he,rfl⟩;rw[h.keys]at this;obtain⟨k,hk,e2⟩:=A_.mp this;exact⟨k,hk,e2.symm⟩
def SA(h:Heap)(a:Addr)(led:Bool)(ks:List Nat):Prop:=∃es ep m mv,h.get? a=some { cls:=.type "set",dict:=none,data:=.set es ep (tb m mv led ks) }/\Mk m mv ks/\Es es ks
section
variable{prog:B_}{w:PP}{A:P8}{E:b_->h_->Prop}{s:h_}
theorem put_heap{h:Heap}{a:Addr}{es es':Array (Int×b_)}{ep:Nat}{t t':RX}(ho:h.get? a=some { cls:=.type "set",dict:=none,data:=.set es ep t }):(h.update a (Uk es' t')).get? a=some { cls:=.type "set",dict:=none,data:=.set es' (ep+1) t' }:=by have:=Tg (Uk es' t') ho (by rw[putSet_of es' t' rfl];rfl);rw[putSet_of es' t' rfl]at this;exact this
end
def stp(ks:List Nat)(k:Nat):List Nat:=if k∈ks then ks else ins k ks
abbrev ledOf(w:PP):Bool:=! w.params.followText "set-order"
theorem SA.keep{h h':Heap}{a:Addr}{led:Bool}{ks:List Nat}(x:SA h a led ks)(e:∀o,h.get? a=some o->h'.get? a=some o):SA h' a led ks:=by obtain⟨es,ep,m,mv,ho,M,E⟩:=x;exact⟨es,ep,m,mv,e _ ho,M,E⟩
section
variable{prog:B_}{w:PP}{A:P8}{E:b_->h_->Prop}{s:h_}
abbrev freshSet(led:Bool):Obj:={ cls:=.type "set",dict:=none,data:=.set #[] 0 (.fresh 0 0 led) }
theorem new_set(a:b_){Q:b_->h_->Prop}(h:Q (.ref s.heap.objs.size) { s with heap:=s.heap.push (freshSet (ledOf w)) }):T7 (O_ prog w) A (.call (.builtin "set.__new__") ⟨[.type "set",a],[]⟩) (wants Q E) s:=by
 refine Va ?_;show D_ _ A.in1 (checkBuiltinCall "set.__new__" ⟨[.type "set",a],[]⟩ >>= fun _=>again (.builtin "set.__new__" ⟨[.type "set",a],[]⟩)) _ _ s;refine d_ (wpAny_of_eq (F.newCall_set_1 a) (t_ ⟨plainId_quiet F.plain_set_new _,Sx F.entry_set_new ?_⟩));rw[TJ F.plain_set_new _];have hsub:=sub_set_self;obtain⟨hp,g,d,tk,os⟩:=s;unfold Tx.«set.__new__» Xa
 dsimp only
 wp_walk
 refine wpAny_askSetting (t_ ?_);simp only[newObj];exact d_ (wpAny_alloc (t_ (t_ h)))
end
end HS
namespace DL
open PySem PySem.Spec PyProof.Rows L2
inductive OutK where
 |nx (r:ak)|rt (d:D) (r:ak)|stuck
abbrev FK:=ak->OutK
def Kp(m:List Md)(σ σ':L2.St):Prop:=∀(i:Nat),m[i]? = some Md.ow->σ'[i]? = σ[i]?
theorem Kp.refl{m:List Md}{σ:L2.St}:Kp m σ σ:=fun _ _=>rfl
theorem Kp.trans{m:List Md}{σ σ1 σ2:L2.St}(a:Kp m σ σ1)(b:Kp m σ1 σ2):Kp m σ σ2:=fun i h=>(b i h).trans (a i h)
def kB(X:Cx)(g:GE)(m:List Md)(G:GH)(σ:L2.St)(D:Ends):OutK->Prop
|.nx r'=>∀σ' G' H',aH G G'->Kp m σ σ'->SI X g m r' G' σ' H'->D.nx σ' H'
|.rt d r'=>∀v σ' G' H',aH G G'->Kp m σ σ'->SI X g m r' G' σ' H'->RG X.K G' v d->D.rt v H'
|.stuck=>False
def tK(X:Cx)(g:GE)(m:List Md)(f:FK):TS:=fun D σ H=>∃r G,SI X g m r G σ H/\kB X g m G σ D (f r)
def SK(X:Cx)(g:GE)(m:List Md)(st:Stmt)(f:FK):Prop:=PS X st (tK X g m f)
def jY(X:Cx)(g:GE)(m:List Md)(st:List Stmt)(f:FK):Prop:=cY X st (tK X g m f)
section
variable{X:Cx}{g:GE}{m ms:List Md}{r r':ak}{G G' G1:GH}{σ σ1:L2.St}{H H':Hp}{st:Stmt}{sts sts':List Stmt}{c e a b iter:Expr}{es:List Expr}{p:FQ}{f fb:FE}{s1 s2:FK}{pos p1 p2 pn cpos pos':Pos}{x y x1 x2:Str}{i i1 i2 k:Nat}{ps:List Str}
theorem kB.on{D:Ends}{o:OutK}(h:kB X g m G σ D o)(w:aH G G1)(kp:Kp m σ σ1):kB X g m G1 σ1 D o:=by cases o with
|nx r'=>exact fun σ' G' H' q k si=>h σ' G' H' (w.trans q) (kp.trans k) si
|rt d r'=>exact fun v σ' G' H' q k si=>h v σ' G' H' (w.trans q) (kp.trans k) si
|stuck=>exact h
def cg(s1 s2:FK):FK:=fun r=>match s1 r with
|.nx r'=>s2 r'
|o=>o
def jn:FK:=fun r=>.nx r
theorem l0:jY X g m [] jn:=cY.imp B9 fun D σ H ⟨r,G,si,q⟩=>q σ G H (aH.refl G) Kp.refl si
theorem kS(h1:SK X g m st s1)(h2:jY X g m sts s2):jY X g m (st::sts) (cg s1 s2):=by
 refine cY.imp (C0 h1 h2) fun D σ H ⟨r,G,si,q⟩=>⟨r,G,si,?_⟩
 unfold cg at q;cases e:s1 r with
|nx r'=>rw[e]at q;exact fun σ' G' H' w kp si'=>⟨r',G',si',q.on w kp⟩
|rt d r'=>rw[e]at q;exact q
|stuck=>rw[e]at q;exact q
def jd{α:Type}(x:Res α)(k:α->OutK):OutK:=match x with
|.ok a=>k a
|_=>.stuck
theorem kj{α:Type}{x:Res α}{k:α->OutK}{D:Ends}{Z:DL.D->Prop}(h:kB X g m G σ D (jd x k)):fin x (fun a=>kB X g m G σ D (k a)) Z:=by cases x with
|ok a=>exact h
|exc e=>exact(show False from h).elim
|stuck=>exact h
def gj(f:FE):FK:=fun r=>jd (f r) fun d=>.rt d r
theorem zG(he:SE X g m e f):SK X g m (.Return (some e) pos) (gj f):=PS.imp (sX he) fun D σ H ⟨r,G,si,q⟩=>⟨r,G,si,aP (kj q) fun d q v G' H' w rv=>q v σ G' H' w.ge Kp.refl (si.grow w) rv⟩
def mR(p:FQ)(s1 s2:FK):FK:=fun r=>jd (p r) fun c=>if c=true then s1 r else s2 r
theorem za(hc:SQ X g m c p)(h1:jY X g m sts s1)(h2:jY X g m sts' s2):SK X g m (.If c sts sts' pos) (mR p s1 s2):=by
 refine PS.imp (pE hc h1 h2) fun D σ H ⟨r,G,si,q⟩=>⟨r,G,si,aP (kj q) fun c q G' H' w=>?_⟩
 cases c with
|true=>rw[if_pos rfl]at q ⊢;exact⟨r,G',si.grow w,q.on w.ge Kp.refl⟩
|false=>rw[if_neg j_]at q ⊢;exact⟨r,G',si.grow w,q.on w.ge Kp.refl⟩
def putK(i:Nat)(fk fv:FE):FK:=fun r=>jd (fv r) fun v=>match r[i]? with
|some (some d)=>jd (fk r) fun k=>(match cH d k v with
 |some d'=>.nx (r.set i (some d'))
 |none=>.stuck)
|_=>.stuck
theorem zF(i:Nat)(hu:X.A.units+1<Rt)(hm:m[i]? = some .ow)(hN:X.N[i]? = some x)(hv:fQ X.env.scope x)(hk:SB X g m b fb)(he:SE X g m e f)(hd:(x==("__debug__" : Str))=false:=by decide)(hcd:(x==("__classdict__" : Str))=false:=by decide)(ha:∀v,Tn (.Subscript (.Name x p1) b p2) X.env v=(do
   let ov <-Sv [v] (eval (.Name x p1) X.env);let iv <-Sv [v,ov] (eval b X.env)
   V7 p2
   Sv [v,ov,iv] (WQ ov iv v)
   release [v,ov,iv] []):=by intro _;rfl)(hs:VD [.Subscript (.Name x p1) b p2] e pos.line X.env=pure false:=by rfl)(hw:VE [.Subscript (.Name x p1) b p2] e X.env=pure none:=by rfl)(h1:(QN [.Subscript (.Name x p1) b p2] X.env).map (·.2)=[Tn (.Subscript (.Name x p1) b p2) X.env]:=by rfl):SK X g m (.Assign [.Subscript (.Name x p1) b p2] e pos) (putK i fb f):=by
 refine PS.imp (A3 he (AY (iY hN hv hd hcd) hk (eI.or C7 (Cv hu)) ha) hs hw h1) fun D0 σ H ⟨r,G,si,k⟩=>⟨r,G,si,?_⟩
 refine aP (kj k) fun v k1 vv G1 H1 w1 rv=>?_;cases er:r[i]? with
|none=>simp only[er]at k1;exact(show False from k1).elim
|some oo=>cases oo with
 |none=>simp only[er]at k1;exact(show False from k1).elim
 |some d=>simp only[er]at k1;obtain⟨a,h1,h2,h3⟩:=(si.grow w1).mut hm er;refine⟨_,h1,r,G1,si.grow w1,?_⟩;refine aP (kj (k1.on w1.ge Kp.refl)) fun kk k2 kv G2 H2 w2 rk=>?_;cases es:cH d kk v with
  |none=>simp only[es]at k2;exact(show False from k2).elim
  |some d'=>simp only[es]at k2;obtain⟨a',h1',h2',h3'⟩:=((si.grow w1).grow w2).mut hm er;rw[h1]at h1';cases h1';exact Bg w2.ok h2' rk (rv.mono w2.ge) es fun o' ob=>k2 σ G2 _ w2.ge Kp.refl (h3' o' d' ob)
def cR(i:Nat)(body:FK):List D->FK
|[],r=>.nx r
|d::ds,r=>match body (r.set i (some d))with
 |.nx r'=>cR i body ds r'
 |o=>o
def pM(fi:FI)(i:Nat)(body:FK):FK:=fun r=>jd (fi r) fun ds=>cR i body ds r
theorem Gs(i:Nat)(hp:To (O_ X.prog X.w) X.A X.env X.xe)(hc:X.calm=true){fi:FI}(hi:dZ X g m (.Name x p1) iter fi)(hm:m[i]? = some .sh)(hN:X.N.Nodup)(hNi:X.N[i]? = some x)(hx:io X.env.scope x)(hb:jY X g m sts s1)(hf:X.fn x=true\/X.env.scope.names.lookup x=some .local:=by first|exact .inl rfl|exact .inr rfl|assumption)(hs:∀x,QO iter X.env x=pure x:=by intro _;rfl):SK X g m (.For (.Name x p1) iter sts [] pos) (pM fi i s1):=by
 have hmi:m.set i .sh=m:=by obtain⟨hlt,e⟩:=k_.mp hm;rw[<-e];exact List.set_getElem_self hlt
 refine PS.imp (nE hp hc hi (B5 hN hNi hx hf) hb hs) fun D σ H ⟨r,G,si,q⟩=>⟨r,G,si,aP (kj q) fun ds q J G0 H0 w0 Y=>?_⟩
 refine⟨fun j n σ' H'=>∃r G,SI X g m r G σ' H'/\Kp m σ σ'/\aH G0 G/\j<=ds.length/\n=ds.length-j/\kB X g m G σ' D (cR i s1 (ds.drop j) r),⟨ds.length,r,G0,si.grow w0,Kp.refl,aH.refl G0,Qa _,rfl,q.on w0.ge Kp.refl⟩,?_⟩
 rintro j n σ1 H1 ⟨r1,G1,si1,kp1,le1,hi,rfl,q1⟩
 by_cases hlt:j<ds.length
 .have hd:ds.drop j=ds[j]::ds.drop (j+1):=QE hlt;rw[hd]at q1;unfold cR at q1;refine .inr ⟨Y.go G1 H1 j le1 si1.gok hlt,fun σ' H'=>∃r G,SI X g m r G σ' H'/\Kp m σ σ'/\aH G0 G/\kB X g m G σ' D (cR i s1 (ds.drop (j+1)) r),fun σ' H' ⟨r',G',si',kp',le',q'⟩=>⟨ds.length-(j+1),by omega,r',G',si',kp',le',hlt,rfl,q'⟩,fun x H' y=>?_⟩;obtain⟨G',w',rv⟩:=Y.yld G1 H1 j x H' ds[j] le1 si1.gok y (i_ hlt);have le':aH G0 G':=le1.trans w'.ge;have si2:=(si1.grow w').set i rv;rw[hmi]at si2;have kp2:Kp m σ1 (σ1.set i (some x)):=fun z hz=>by
   have hne:i≠z:=by rintro rfl;rw[hm]at hz;cases hz
   rw[c_ hne]
  refine⟨r1.set i (some ds[j]),G',si2,?_⟩;cases eb:s1 (r1.set i (some ds[j]))with
 |nx r'=>simp only[eb]at q1;exact fun σ3 G3 H3 le3 kp3 si3=>⟨r',G3,si3,(kp1.trans kp2).trans kp3,le'.trans le3,q1.on (aH.trans w'.ge le3) (kp2.trans kp3)⟩
 |rt d r'=>simp only[eb]at q1;exact fun v σ3 G3 H3 le3 kp3 si3=>q1 v σ3 G3 H3 (aH.trans w'.ge le3) (kp2.trans kp3) si3
 |stuck=>simp only[eb]at q1;exact q1
 .have e:j=ds.length:=by omega
  subst e;rw[RS]at q1;exact .inl ⟨Y.stop G1 H1 le1 si1.gok,q1 σ1 G1 H1 (aH.refl _) Kp.refl si1⟩
theorem SI.back{fp:List Addr}(s:SI X g m r G σ H)(w:Grow X.K G (lessL H fp) G' H')(hf:∀b∈fp,g.h0 b=none)(hl:r'.length=r.length)(hr:∀(j:Nat),m[j]?≠some Md.ow->r'[j]? = r[j]?)(ho:∀(j:Nat) d,m[j]? = some .ow->r'[j]? = some (some d)->∃a,σ[j]? = some (some (V.ref a))/\Own X.K G' H' a d/\g.h0 a=none/\∃d0,r[j]? = some (some d0)):SI X g m r' G' σ H':=by
 have nin:∀b,g.h0 b≠none->b∉fp:=fun b h z=>h (hf b z);have isS:∀b,g.h0 b≠none->lessL H fp b≠none:=fun b h=>by rw[jC (nin b h)];cases e:g.h0 b with
 |none=>exact absurd e h
 |some o=>rw[s.old b o e];simp
 refine⟨w.ok,fun b o e=>w.he b o ?_,fun b d e=>w.ge b d (s.ge b d e),fun b h=>(w.gf b (isS b h)).trans (s.gf b h),s.lm,hl.trans s.lr,fun j d h1 h2=>?_,fun j d h1 h2=>?_,fun j d h1 h2=>?_,fun j k b d e hjk h1 h2 m1 m2 z1 z2=>?_,fun j o hj hm=>?_⟩
 .rw[jC (nin b (by rw[e];simp))];exact s.old b o e
 .rw[hr j (by rw[h2];simp)]at h1;obtain⟨v,y1,y2⟩:=s.sh j d h1 h2;exact⟨v,y1,y2.mono w.ge⟩
 .obtain⟨a,y1,y2,y3,_⟩:=ho j d h2 h1;exact⟨a,y1,y2,y3⟩
 .rw[hr j (by rw[h2];simp)]at h1;obtain⟨v,y1,y2⟩:=s.bw j d h1 h2;refine⟨v,y1,?_⟩;rcases y2 with y2|⟨b,rfl,y2,y3⟩
  .exact .inl (y2.mono w.ge)
  .exact .inr ⟨b,rfl,⟨by rw[w.gf b (isS b y3)];exact y2.un,y2.ob.mono w.ge fun o z=>w.he b o (by rw[jC (nin b y3)];exact z)⟩,y3⟩
 .obtain⟨_,_,_,_,d0,e1⟩:=ho j d m1 h1;obtain⟨_,_,_,_,d1,e2⟩:=ho k e m2 h2;exact s.dis j k b d0 d1 hjk e1 e2 m1 m2 z1 z2
 .have:=s.lk j o hj hm;exact⟨this.1,fun d h=>this.2 d (by rw[<-hr j (by rw[hm];simp)];exact h)⟩
end
abbrev ip:=List D->Option (Bool×D×D)
def Pt(K:W.Frag)(ms:List Md)(F:ip):Sp:=fun vs H Q _=>∃G us a1 a2 ds d1 d2 t,aM K G H/\vs=us++[V.ref a1,V.ref a2]/\ArgsOk K G H ms us ds/\Own K G H a1 d1/\Own K G H a2 d2/\a1≠a2/\F (ds++[d1,d2])=some t /\∀G' H',Grow K G (lessL H [a1,a2]) G' H'->Own K G' H' a1 t.2.1->Own K G' H' a2 t.2.2->Q (.bl t.1) H'
structure CalleeK(P:B_)(w:PP)(K:W.Frag)(mg:Str->Option b_)(base:Heap)(x:Str)(ps:List Str)(k:Nat)(ms:List Md)(F:ip):Prop where
 ex:∃f fd,mg x=some (.ref f)/\W.keepIn K (.ref f)=true/\fF K fd ps []/\FnOk P w K mg base bN k f fd ps (Pt K ms F)
def gq(i1 i2:Nat):OutK->Option (Bool×D×D)
|.rt (.bl b) r=>(match r[i1]?,r[i2]? with
 |some (some d1),some (some d2)=>some (b,d1,d2)
 |_,_=>none)
|_=>none
theorem SI.moved2{X:Cx}{m:List Md}{r:ak}{G:GH}{st:L2.St}{H:Hp}(s:SI X ⟨G,H,fun _=>none⟩ m r G st H){i1 i2:Nat}{a1 a2:Addr}{d1 d2:D}(hm1:i1<m.length)(hm2:i2<m.length)(h12:i1≠i2)(ha:a1≠a2)(hsh:∀(j:Nat),j≠i1->j≠i2->∀x,m[j]? = some x->x=.sh)(hr1:r[i1]? = some (some d1))(hs1:st[i1]? = some (some (V.ref a1)))(ho1:Own X.K G H a1 d1)(hr2:r[i2]? = some (some d2))(hs2:st[i2]? = some (some (V.ref a2)))(ho2:Own X.K G H a2 d2):SI X ⟨G,lessL H [a1,a2],fun _=>none⟩ ((m.set i1 .ow).set i2 .ow) r G st H:=by
 have mne:∀{j:Nat}{x:Md},i1≠j->i2≠j->((m.set i1 .ow).set i2 .ow)[j]? = some x->x=.sh:=fun h1 h2 h=>by rw[c_ h2,c_ h1]at h;exact hsh _ (Rs h1) (Rs h2) _ h
 have m1:((m.set i1 .ow).set i2 .ow)[i1]? = some .ow:=by rw[c_ (Rs h12),o_ hm1]
 have m2:((m.set i1 .ow).set i2 .ow)[i2]? = some .ow:=by rw[o_ (by simpa using hm2)]
 refine⟨s.gok,fun b o e=>?_,fun _ _ e=>e,fun _ _=>rfl,by simpa using s.lm,s.lr,fun j e h1 h2=>?_,fun j e h1 h2=>?_,fun j e h1 h2=>?_,fun j k b e1 e2 hjk h1 h2 y1 y2 z1 z2=>?_,fun j o hj=>nomatch hj⟩
 .have e':lessL H [a1,a2] b=some o:=e;by_cases hb:b∈[a1,a2]
  .rw[vE hb]at e';cases e'
  .rw[jC hb]at e';exact e'
 .by_cases q1:i1=j
  .subst q1;rw[m1]at h2;cases h2
  .by_cases q2:i2=j
   .subst q2;rw[m2]at h2;cases h2
   .rw[c_ q2,c_ q1]at h2;exact s.sh j e h1 h2
 .by_cases q1:i1=j
  .subst q1;rw[hr1]at h1;cases h1;exact⟨a1,hs1,ho1,vE (by simp)⟩
  .by_cases q2:i2=j
   .subst q2;rw[hr2]at h1;cases h1;exact⟨a2,hs2,ho2,vE (by simp)⟩
   .cases mne q1 q2 h2
 .by_cases q1:i1=j
  .subst q1;rw[m1]at h2;cases h2
  .by_cases q2:i2=j
   .subst q2;rw[m2]at h2;cases h2
   .cases mne q1 q2 h2
 .have key:∀(j:Nat),((m.set i1 .ow).set i2 .ow)[j]? = some .ow->j=i1\/j=i2:=fun j h=>by
   by_cases q1:i1=j
   .exact .inl q1.symm
   .by_cases q2:i2=j
    .exact .inr q2.symm
    .cases mne q1 q2 h
  rcases key j y1 with rfl|rfl <;> rcases key k y2 with rfl|rfl
  .exact hjk rfl
  .rw[hs1]at z1;rw[hs2]at z2;cases z1;cases z2;exact ha rfl
  .rw[hs2]at z1;rw[hs1]at z2;cases z1;cases z2;exact ha rfl
  .exact hjk rfl
section
variable{P:B_}{w:PP}{K:W.Frag}{mg:Str->Option b_}{base:Heap}
theorem Cj{x:Str}{st:Stmt}{N ps:List Str}{k:Nat}{ms:List Md}{fs:FK}(A:DefAt K mg x st)(S:FnScope N ps (ax st))(hms:ms.length+2=ps.length)(hsh:∀x∈ms,x=Md.sh)(hb:∀(kV doc pm:b_)(an:Option Addr)(cdv ct:b_)(us:List b_),us.length=ps.length->UH (W.fnOf x x (gM st) (d7 st) (ax st) .none kV doc pm an cdv ct) ⟨us,[]⟩=pure (ps.zip us))(hbody:∀(f:Addr)(cdv:b_)(A:P8)(outer:List Env)(s:h_)(H:Hp)(g:GE)(E:XK),Room k (A.deeper (S0 x (ax st) s.heap.objs.size f cdv)) ->jY (aW bN P w K mg base N x (ax st) f cdv A outer s H E).nox g (dU N.length (ms++[.ow,.ow])) (d7 st) fs):CalleeK P w K mg base x ps (k+1) ms fun ds=>gq ms.length (ms.length+1) (fs (aN N.length ds)):=by
 obtain⟨f,fd,h1,F⟩:=A.ex;refine⟨f,fd,h1,F.kp,F.binds hb,?_⟩;refine F.ok S (fun vs H Q E ⟨G,us,a1,a2,ds,d1,d2,t,gk,hv,rs,_⟩=>by rw[hv,PN,rs.len.1,<-hms];rfl) fun cdv A outer s H vs Q E hr h=>?_;obtain⟨G,us,a1,a2,ds,d1,d2,t,gk,rfl,rs,o1,o2,ha,hF,q⟩:=h;have hpl:ps.length<=N.length:=by have:=congrArg Q_ S.pre;rw[Q2]at this;omega
 obtain⟨l1,l2⟩:=rs.len;have rs2:=(rs.snoc (v:=V.ref a1) (.inr ⟨a1,rfl,o1⟩)).snoc (v:=V.ref a2) (.inr ⟨a2,rfl,o2⟩);rw[Qv,Qv,Qv]at rs2;have s0:=vF (X:=(aW bN P w K mg base N x (ax st) f cdv A outer s H E).nox) (N:=N) gk rs2 (by simp;omega);have eN:N.length=ms.length+(2+(N.length-(ms.length+2))):=by omega
 have e0:dU N.length (ms++([.bw]++[.bw]))=ms++(.bw::.bw::I_ (N.length-(ms.length+2)) .sh):=by unfold dU;simp
 have em:((dU N.length (ms++([.bw]++[.bw]))).set ms.length .ow).set (ms.length+1) .ow=dU N.length (ms++[.ow,.ow]):=by rw[e0];unfold dU;rw[Vj _ _ (u_ _),U3,List.set_cons_zero,Vj _ _ (WB _),show ms.length+1-ms.length=1 by omega];simp
 have r1:(aN N.length (ds++([d1]++[d2])))[ms.length]? = some (some d1):=by unfold aN;rw[N_ (by simp;omega),n_,P4 (by omega),show ms.length-ds.length=0 by omega];rfl
 have r2:(aN N.length (ds++([d1]++[d2])))[ms.length+1]? = some (some d2):=by unfold aN;rw[N_ (by simp;omega),n_,P4 (by omega),show ms.length+1-ds.length=1 by omega];rfl
 have t1:(L2.start N (us++([V.ref a1]++[V.ref a2])))[ms.length]? = some (some (V.ref a1)):=by unfold L2.start;rw[N_ (by simp;omega),n_,P4 (by omega),show ms.length-us.length=0 by omega];rfl
 have t2:(L2.start N (us++([V.ref a1]++[V.ref a2])))[ms.length+1]? = some (some (V.ref a2)):=by unfold L2.start;rw[N_ (by simp;omega),n_,P4 (by omega),show ms.length+1-us.length=1 by omega];rfl
 have lm:(dU N.length (ms++([Md.bw]++[Md.bw]))).length=N.length:=by rw[e0];simp;omega
 have si:=SI.moved2 s0 (i1:=ms.length) (i2:=ms.length+1) (d1:=d1) (d2:=d2) (by omega) (by omega) (by omega) ha (fun j j1 j2 x hx=>?_) r1 t1 o1 r2 t2 o2
 .rw[em]at si;refine⟨_,hbody f cdv A outer s H ⟨G,lessL H [a1,a2],fun _=>none⟩ E hr,_,G,si,?_⟩;have hF':gq ms.length (ms.length+1) (fs (aN N.length (ds++([d1]++[d2]))))=some t:=hF;have mi1:(dU N.length (ms++[Md.ow,Md.ow]))[ms.length]? = some .ow:=by unfold dU;rw[N_ (by simp),P4 (u_ _)];simp
  have mi2:(dU N.length (ms++[Md.ow,Md.ow]))[ms.length+1]? = some .ow:=by unfold dU;rw[N_ (by simp),P4 (by omega)];simp
  cases eo:fs (aN N.length (ds++([d1]++[d2])))with
 |nx r'=>rw[eo]at hF';cases hF'
 |stuck=>rw[eo]at hF';cases hF'
 |rt d r'=>rw[eo]at hF';cases d with
  |bl b=>
    unfold gq at hF';simp only at hF';split at hF'
    .rename_i y1 y2 e1 e2;cases hF';intro v σ' G' H' le kp si' rv;have hv:=rv.bl si'.gok;subst hv;obtain⟨b1,z1,w1,_⟩:=si'.ow _ _ e1 mi1;obtain⟨b2,z2,w2,_⟩:=si'.ow _ _ e2 mi2;rw[kp _ mi1]at z1;rw[kp _ mi2]at z2;have z1':=t1.symm.trans z1;have z2':=t2.symm.trans z2;cases z1';cases z2';exact q G' H' si'.grown w1 w2
    .cases hF'
  |_=>cases hF'
 .rw[e0]at hx;by_cases hj:j<ms.length
  .rw[N_ hj]at hx;exact hsh x (TC hx)
  .rw[P4 (by omega)]at hx;obtain⟨n,hn⟩:∃n,j-ms.length=n+2:=⟨j-ms.length-2,by omega⟩
   rw[hn,SJ,SJ,Qy]at hx;split at hx
   .cases hx;rfl
   .cases hx
end
end DL
section
namespace DL
open PySem PySem.Spec PyProof.Rows L2
section
variable{X:Cx}{g:GE}{m ms mb:List Md}{r r':ak}{G G' G1:GH}{σ σ1:L2.St}{H H':Hp}{st:Stmt}{sts sts':List Stmt}{a e0 e1:Expr}{p:FQ}{fa fb:FE}{s1 s2:FK}{pos p1 p2 pn cpos pos' dp:Pos}{x y x1 x2:Str}{k:Nat}{ps:List Str}{F:ip}{ro:Bool}
theorem SI.back2{a1 a2:Addr}{i1 i2:Nat}{d1 d2 d1' d2':D}(s:SI X g m r G σ H)(hm1:m[i1]? = some .ow)(hm2:m[i2]? = some .ow)(h12:i1≠i2)(hr1:r[i1]? = some (some d1))(hr2:r[i2]? = some (some d2))(hs1:σ[i1]? = some (some (V.ref a1)))(hs2:σ[i2]? = some (some (V.ref a2)))(n1:g.h0 a1=none)(n2:g.h0 a2=none)(w:Grow X.K G (lessL H [a1,a2]) G' H')(o1:Own X.K G' H' a1 d1')(o2:Own X.K G' H' a2 d2'):SI X g m ((r.set i1 (some d1')).set i2 (some d2')) G' σ H':=by
 refine s.back w (fun b hb=>?_) (by simp) (fun j hj=>?_) fun j d hj hd=>?_
 .rcases q_.mp hb with rfl|hb
  .exact n1
  .rw[y_.mp hb];exact n2
 .have j1:i1≠j:=by rintro rfl;exact hj hm1
  have j2:i2≠j:=by rintro rfl;exact hj hm2
  rw[c_ j2,c_ j1]
 .have l1:i1<r.length:=(k_.mp hr1).1;have l2:i2<r.length:=(k_.mp hr2).1;by_cases j2:i2=j
  .subst j2;rw[o_ (by simpa using l2)]at hd;cases hd;exact⟨a2,hs2,o2,n2,d2,hr2⟩
  .rw[c_ j2]at hd;by_cases j1:i1=j
   .subst j1;rw[o_ l1]at hd;cases hd;exact⟨a1,hs1,o1,n1,d1,hr1⟩
   .rw[c_ j1]at hd;obtain⟨b,y1,y2,y3⟩:=s.ow j d hd hj;have hb:b∉[a1,a2]:=fun z=>by
     rcases q_.mp z with rfl|z
     .exact s.dis i1 j b _ _ j1 hr1 hd hm1 hj hs1 y1
     .cases y_.mp z;exact s.dis i2 j _ _ _ j2 hr2 hd hm2 hj hs2 y1
    have hS:lessL H [a1,a2] b≠none:=by rw[jC hb];exact y2.ob.isS
    exact⟨b,y1,⟨by rw[w.gf b hS];exact y2.un,y2.ob.mono w.ge fun o z=>w.he b o (by rw[jC hb];exact z)⟩,y3,d,hd⟩
def mO(p:FQ)(fa fb:FE)(i1 i2:Nat)(F:ip)(s1:FK):FK:=fun r=>jd (p r) fun c=>
 if c=true then s1 r else jd (fa r) fun da=>jd (fb r) fun db=>match r[i1]?,r[i2]? with
 |some (some d1),some (some d2)=>(match F [da,db,d1,d2]with
  |some t=>if t.1=true then s1 ((r.set i1 (some t.2.1)).set i2 (some t.2.2))else .nx ((r.set i1 (some t.2.1)).set i2 (some t.2.2))
  |none=>.stuck)
 |_,_=>.stuck
theorem Hf(i1 i2:Nat)(c:CalleeK X.prog X.w X.K X.mg X.base y ps k [.sh,.sh] F)(hr:Room k X.A)(ha:SQ X g m a p)(h0:SE X g m e0 fa)(h1:SE X g m e1 fb)(hm1:m[i1]? = some .ow)(hm2:m[i2]? = some .ow)(h12:i1≠i2)(hN1:X.N[i1]? = some x1)(hN2:X.N[i2]? = some x2)(hv1:fQ X.env.scope x1)(hv2:fQ X.env.scope x2)(hb:jY X g m sts s1)(hd1:(x1==("__debug__" : Str))=false:=by decide)(hcd1:(x1==("__classdict__" : Str))=false:=by decide)(hd2:(x2==("__debug__" : Str))=false:=by decide)(hcd2:(x2==("__classdict__" : Str))=false:=by decide)(hg:Gl X y:=by rfl)(hdb:(y==("__debug__" : Str))=false:=by decide)(he:l_ [e0,e1,.Name x1 p1,.Name x2 p2] X.env=(false,eval e0 X.env)::l_ [e1,.Name x1 p1,.Name x2 p2] X.env:=by rfl)(he1:l_ [e1,.Name x1 p1,.Name x2 p2] X.env=(false,eval e1 X.env)::l_ [.Name x1 p1,.Name x2 p2] X.env:=by rfl)(he2:l_ [.Name x1 p1,.Name x2 p2] X.env=(false,eval (.Name x1 p1) X.env)::l_ [.Name x2 p2] X.env:=by rfl)(he3:l_ [.Name x2 p2] X.env=(false,eval (.Name x2 p2) X.env)::l_ [] X.env:=by rfl)(hpl:(backTo cpos (l_ [e1,.Name x1 p1,.Name x2 p2] X.env)).any (·.1)=false:=by rfl):SK X g m (.If (.BoolOp .Or [a,.Call (.Name y pn) [e0,e1,.Name x1 p1,.Name x2 p2] [] cpos] pos') sts [] pos) (mO p fa fb i1 i2 F s1):=by
 obtain⟨f,fd,q1,q2,q3,q4⟩:=c.ex;refine PS.imp (pE (PW.pt (zW ha (A7 (HY (pZ q4 hr hg q1 q2 q3 .nil pJ (dS h0 (dS h1 (dS (iY hN1 hv1 hd1 hcd1) (dS (iY hN2 hv2 hd2 hcd2) iz he3) he2) he1) he) hdb he hpl))))) hb (l0 (g:=g) (m:=m))) fun D σ H ⟨r,G,si,q⟩=>⟨r,G,si,aP (kj q) fun c q G1 H1 w1=>?_⟩
 cases c with
|true=>rw[if_pos rfl]at q ⊢;show(if true=true then tK X g m s1 D σ H1 else _);rw[if_pos rfl];exact⟨r,G1,si.grow w1,q.on w1.ge Kp.refl⟩
|false=>rw[if_neg j_]at q ⊢;refine⟨r,G1,si.grow w1,aP (kj q) fun da q va G2 H2 w2 ra=>⟨r,G2,(si.grow w1).grow w2,aP (kj q) fun db q vb G3 H3 w3 rb=>?_⟩⟩;have s3:=((si.grow w1).grow w2).grow w3;cases z1:r[i1]? with
 |none=>simp only[z1]at q;exact(show False from q).elim
 |some o1=>cases o1 with
  |none=>simp only[z1]at q;exact(show False from q).elim
  |some d1=>cases z2:r[i2]? with
   |none=>simp only[z1,z2]at q;exact(show False from q).elim
   |some o2=>cases o2 with
    |none=>simp only[z1,z2]at q;exact(show False from q).elim
    |some d2=>simp only[z1,z2]at q;obtain⟨a1,t1,w1',n1⟩:=s3.ow i1 d1 z1 hm1;obtain⟨a2,t2,w2',n2⟩:=s3.ow i2 d2 z2 hm2;refine⟨_,t1,_,t2,?_⟩;cases eF:F [da,db,d1,d2]with
     |none=>simp only[eF]at q;exact(show False from q).elim
     |some t=>
       simp only[eF]at q;refine⟨G3,[va,vb],a1,a2,[da,db],d1,d2,t,w3.ok,rfl,.sh (ra.mono w3.ge) (.sh rb .nil),w1',w2',fun z=>?_,eF,fun G' H' w o1 o2=>⟨t.1,rfl,?_⟩⟩
       .subst z;exact s3.dis i1 i2 a1 d1 d2 h12 z1 z2 hm1 hm2 t1 t2
       .have sb:=s3.back2 hm1 hm2 h12 z1 z2 t1 t2 n1 n2 w o1 o2;have le:aH G G':=fun b d e=>w.ge b d (w3.ge b d (w2.ge b d (w1.ge b d e)));cases eb:t.1 with
       |true=>rw[eb,if_pos rfl]at q;show(if true=true then tK X g m s1 D σ H' else _);rw[if_pos rfl];exact⟨_,G',sb,q.on le Kp.refl⟩
       |false=>rw[eb,if_neg j_]at q;show(if false=true then _ else tK X g m jn D σ H');rw[if_neg j_];exact⟨_,G',sb,fun σ' G'' H'' le' kp s'=>q σ' G'' H'' (le.trans le') kp s'⟩
def pB(m:List Md)(fa fb:FE)(i:Nat)(F:ip):FS:=fun r=>fq m r (fa r) fun da=>fq m r (fb r) fun db=>match r[i]? with
|some (some d2)=>(match F [da,db,.dic [],d2]with
 |some t=>.nx (r.set i (some t.2.2))
 |none=>.stuck)
|_=>.stuck
theorem Ky(i:Nat)(c:CalleeK X.prog X.w X.K X.mg X.base y ps k [.sh,.sh] F)(hr:Room k X.A)(h0:SE X g m e0 fa)(h1:SE X g m e1 fb)(hm:m[i]? = some .ow)(hN:X.N[i]? = some x)(hv:fQ X.env.scope x)(hd:(x==("__debug__" : Str))=false:=by decide)(hcd:(x==("__classdict__" : Str))=false:=by decide)(hg:Gl X y:=by rfl)(hdb:(y==("__debug__" : Str))=false:=by decide)(he:l_ [e0,e1,.Dict [] [] dp,.Name x p2] X.env=(false,eval e0 X.env)::l_ [e1,.Dict [] [] dp,.Name x p2] X.env:=by rfl)(he1:l_ [e1,.Dict [] [] dp,.Name x p2] X.env=(false,eval e1 X.env)::l_ [.Dict [] [] dp,.Name x p2] X.env:=by rfl)(he2:l_ [.Dict [] [] dp,.Name x p2] X.env=(false,eval (.Dict [] [] dp) X.env)::l_ [.Name x p2] X.env:=by rfl)(he3:l_ [.Name x p2] X.env=(false,eval (.Name x p2) X.env)::l_ [] X.env:=by rfl)(hpl:(backTo cpos (l_ [e1,.Dict [] [] dp,.Name x p2] X.env)).any (·.1)=false:=by rfl)(hs:Tl (.Call (.Name y pn) [e0,e1,.Dict [] [] dp,.Name x p2] [] cpos) none pos.line X.env=pure false:=by rfl):SS X g ro mb m (.Expr (.Call (.Name y pn) [e0,e1,.Dict [] [] dp,.Name x p2] [] cpos) pos) (pB m fa fb i F) m:=by
 obtain⟨f,fd,q1,q2,q3,q4⟩:=c.ex;refine⟨rfl,PS.imp (t5 (pZ q4 hr hg q1 q2 q3 .nil pJ (dS h0 (dS h1 (dS (kh (g:=g) (m:=m)) (dS (iY hN hv hd hcd) iz he3) he2) he1) he) hdb he hpl) hs) fun D σ H ⟨r,G,si,q⟩=>⟨r,G,si,aP (eZ si rfl q) fun da q va G1 H1 w1 ra=>⟨r,G1,si.grow w1,?_⟩⟩⟩;refine aP (eZ (m:=m) (si.grow w1) rfl (bD.gle q w1.ge)) fun db q vb G2 H2 w2 rb=>⟨r,G2,(si.grow w1).grow w2,fun a1 G3 H3 w3 hn o1=>?_⟩
 have s2:=(si.grow w1).grow w2;have s3:=s2.grow w3;cases z2:r[i]? with
|none=>simp only[z2]at q;exact(show False from q).elim
|some oo=>cases oo with
 |none=>simp only[z2]at q;exact(show False from q).elim
 |some d2=>simp only[z2]at q;obtain⟨a2,t2,w2',n2⟩:=s3.ow i d2 z2 hm;refine⟨_,t2,?_⟩;cases eF:F [da,db,.dic [],d2]with
  |none=>simp only[eF]at q;exact(show False from q).elim
  |some t=>
    simp only[eF]at q;have old:∀b,H2 b≠none->b≠a1:=fun b h z=>by subst z;exact h hn
    have n1:g.h0 a1=none:=by cases e:g.h0 a1 with
    |none=>rfl
    |some o=>exact absurd rfl (old a1 (by rw[s2.old a1 o e];simp))
    have isS:∀{j:Nat}{d:DL.D}{b:Addr},r[j]? = some (some d)->m[j]? = some .ow->σ[j]? = some (some (V.ref b))->b≠a1:=fun{j d b} e1 e2 e3=>by obtain⟨b',y1,y2,_⟩:=s2.ow j d e1 e2;rw[e3]at y1;cases y1;exact old b y2.ob.isS
    refine⟨G3,[va,vb],a1,a2,[da,db],.dic [],d2,t,w3.ok,rfl,.sh (ra.mono fun b d e=>w3.ge b d (w2.ge b d e)) (.sh (rb.mono w3.ge) .nil),o1,w2',(isS z2 hm t2).symm,eF,fun G' H' w p1 p2=>?_⟩;refine q σ G' H' (fun b d e=>w.ge b d (w3.ge b d (w2.ge b d e))) (s3.back w (fun b hb=>?_) (by simp) (fun j hj=>?_) fun j d hj hd=>?_)
    .rcases q_.mp hb with rfl|hb
     .exact n1
     .rw[y_.mp hb];exact n2
    .have j1:i≠j:=by rintro rfl;exact hj hm
     rw[c_ j1]
    .have l1:i<r.length:=(k_.mp z2).1;by_cases j1:i=j
     .subst j1;rw[o_ l1]at hd;cases hd;exact⟨a2,t2,p2,n2,d2,z2⟩
     .rw[c_ j1]at hd;obtain⟨b,y1,y2,y3⟩:=s3.ow j d hd hj;have hb:b∉[a1,a2]:=fun z=>by
       rcases q_.mp z with rfl|z
       .exact isS hd hj y1 rfl
       .cases y_.mp z;exact s3.dis i j _ _ _ j1 z2 hd hm hj t2 y1
      have hS:lessL H3 [a1,a2] b≠none:=by rw[jC hb];exact y2.ob.isS
      exact⟨b,y1,⟨by rw[w.gf b hS];exact y2.un,y2.ob.mono w.ge fun o z=>w.he b o (by rw[jC hb];exact z)⟩,y3,d,hd⟩
end
end DL
namespace DL
theorem Kd{X:L2.Cx}{g:GE}{m:List Md}{sts:List PySem.Stmt}:jY X g m sts (fun _=>.stuck):=cY.imp L2.gS fun D σ H ⟨r,G,si,q⟩=>q
end DL
end
namespace HT
open PySem PySem.Spec PyProof.Rows SetTable
def eu(mask:Nat):Nat->Nat×Nat->Nat×Nat
|0,x=>x
|k+1,x=>eu mask k (leap mask x.1 x.2)
theorem nO(mask:Nat):∀(a b:Nat)(x:Nat×Nat),eu mask (a+b) x=eu mask b (eu mask a x)
|0,b,x=>by rw[QJ];rfl
|a+1,b,x=>by rw[Nat.add_right_comm];exact nO mask a b _
theorem tW(mask:Nat):∀(k:Nat)(x:Nat×Nat),(eu mask k x).2=x.2/32^k
|0,x=>by simp[eu]
|k+1,x=>by show(eu mask k (leap mask x.1 x.2)).2=_;rw[tW mask k];show x.2/32/32^k=_;rw[Nat.div_div_eq_div_mul,Td,Q8]
theorem Bp(mask:Nat):∀(k:Nat)(x:Nat×Nat),x.1<=mask->(eu mask k x).1<=mask
|0,x,h=>h
|k+1,x,_=>Bp mask k _ (R7 (SF _ (We _)))
def M3:List Nat:=[7,31,127]
def orb(mask:Nat):Nat->Nat->List Nat
|0,_=>[]
|n+1,i=>i::orb mask n ((i*5+1)%(mask+1))
theorem AW(mask:Nat):∀(n i k:Nat),k<n->(orb mask n i)[k]? = some (eu mask k (i,0)).1
|n+1,i,0,_=>rfl
|n+1,i,k+1,h=>by show(orb mask n ((i*5+1)%(mask+1)))[k]? = _;rw[AW mask n _ k (by omega)];show _=some (eu mask k (leap mask i 0)).1;unfold leap;simp
theorem orb_len(mask:Nat):∀(n i:Nat),(orb mask n i).length=n
|0,_=>rfl
|n+1,i=>congrArg (· + 1) (orb_len mask n _)
theorem Fo:(M3.all fun m=>decide (eu m (m+1) (0,0)=(0,0))&&(a_ (m+1)).all fun j=>(orb m (m+1) 0).contains j)=true:=by decide+kernel
theorem B0{m:Nat}(hm:m∈M3){j:Nat}(hj:j<=m):∃k,k<=m/\eu m k (0,0)=(j,0):=by have h:=Qs.mp Fo m hm;rw[PR]at h;have h2:=Qs.mp h.2 j (r_.mpr (by omega));obtain⟨k,hk,e⟩:=T5 (List.contains_iff_mem.mp h2);rw[orb_len]at hk;have:=AW m (m+1) 0 k hk;rw[i_ (by rw[orb_len];exact hk),e]at this;refine⟨k,by omega,Wa (PJ this).symm ?_⟩;rw[tW];simp
theorem JX{m:Nat}(hm:m∈M3){i j:Nat}(hi:i<=m)(hj:j<=m):∃k,k<=m/\(eu m k (i,0)).1=j:=by
 obtain⟨a,ha,ea⟩:=B0 hm hi;obtain⟨b,hb,eb⟩:=B0 hm hj;by_cases h:a<=b
 .refine⟨b-a,by omega,?_⟩;rw[<-ea,<-nO,show a+(b-a)=b by omega,eb]
 .refine⟨b+(m+1)-a,by omega,?_⟩;have h0:=Qs.mp Fo m hm;rw[PR]at h0;rw[<-ea,<-nO,show a+(b+(m+1)-a)=(m+1)+b by omega,nO,of_decide_eq_true h0.1,eb]
theorem zN{m:Nat}(hm:m∈M3){i q j:Nat}(hi:i<=m)(hq:q<2^64)(hj:j<=m):∃k,1<=k/\k<=m+13/\(eu m k (i,q)).1=j:=by
 have e2:(eu m 13 (i,q)).2=0:=by rw[tW];exact Nat.div_eq_of_lt (G_ hq (by decide))
 obtain⟨k,hk,e⟩:=JX hm (Bp m 13 (i,q) hi) hj;refine⟨13+k,by omega,by omega,?_⟩;rw[nO];rw[<-e,<-e2]
theorem mem_M3{m:Nat}(h:m∈M3):m=7\/m=31\/m=127:=by simpa[M3]using h
theorem Bq:∀{a l:List Nat},a.Nodup->(∀x∈a,x∈l)->a.length<=l.length
|[],_,_,_=>Qa _
|x::a,l,hn,h=>by have hx:=h x g_;have hn':=PZ.mp hn;have:=Bq (l:=l.erase x) hn'.2 fun y hy=>(TK (by rintro rfl;exact hn'.1 hy)).mpr (h y (f_ _ hy));rw[Q9 hx]at this;have:=U4 hx;rw[C_];omega
theorem LX{l:List Nat}{m:Nat}(h:l.length<=m):∃j,j<=m/\j∉l:=by apply Qh;intro hn;have hall:∀j∈a_ (m+1),j∈l:=fun j hj=>Qh fun z=>hn ⟨j,R7 (r_.mp hj),z⟩;have:=Bq Qi hall;rw[Qw]at this;omega
section
variable{t:RX}{hashAt:Nat->Int}{h:Int}
theorem slot_cases(hd:t.dummies = #[])(j:Nat):(t.slot j=.empty/\True)\/∃i,t.slot j=.live i/\t.place[i]? = some j:=by
 unfold SetTable.slot;simp only;by_cases e:(t.place[below t.place j]? == some j)=true
 .rw[if_pos e];exact .inr ⟨_,rfl,by simpa using e⟩
 .rw[if_neg e];have:has t.dummies j=false:=by rw[hd];unfold has;simp
  rw[this];exact .inl ⟨rfl,trivial⟩
theorem LV(hd:t.dummies = #[]){j:Nat}(hj:j∉t.place.toList):t.slot j=.empty:=by
 rcases slot_cases hd j with e|⟨i,_,e⟩
 .exact e.1
 .exact absurd (by rw[<-Q1]at e;exact TC e) hj
abbrev go(t:RX)(hashAt:Nat->Int)(h:Int):=QT t hashAt h
theorem nJ(hd:t.dummies = #[]){n:Nat}{p:Probe}(e:go t hashAt h (n+1) p=none):t.slot p.j≠.empty/\go t hashAt h n (t.advance p)=none:=by
 unfold go QT at e;rcases slot_cases hd p.j with z|⟨i,z,_⟩
 .rw[z.1]at e;cases e
 .rw[z]at e ⊢;simp only at e;split at e
  .cases e
  .exact⟨fun z=>Slot.noConfusion z,e⟩
theorem uR(hd:t.dummies = #[]):∀{n m:Nat}{p:Probe},go t hashAt h n p=none->m<=n->go t hashAt h m p=none
|n,0,p,_,_=>rfl
|0,m+1,p,_,hl=>absurd hl (by omega)
|n+1,m+1,p,e,hl=>by
  obtain⟨e1,e2⟩:=nJ hd e;have ih:=uR hd e2 (U5 hl);unfold go QT at e ⊢;rcases slot_cases hd p.j with z|⟨i,z,_⟩
  .exact absurd z.1 e1
  .rw[z]at e ⊢;simp only at e ⊢;split at e
   .cases e
   .rename_i hh;rw[if_neg hh];exact ih
def pL(t:RX)(p:Probe):Probe:={ p with j:=(leap t.mask p.i p.perturb).1,more:=runEnd t.mask (leap t.mask p.i p.perturb).1-(leap t.mask p.i p.perturb).1,i:=(leap t.mask p.i p.perturb).1,perturb:=(leap t.mask p.i p.perturb).2 }
theorem AM(hd:t.dummies = #[]):∀(more n:Nat)(p:Probe),p.more=more->go t hashAt h (n+more+1) p=none->go t hashAt h n (pL t p)=none
|0,n,p,hm,e=>by have:=(nJ hd e).2;unfold UL at this;rw[hm,if_neg (by omega)]at this;exact this
|more+1,n,p,hm,e=>by have:=(nJ hd e).2;unfold UL at this;rw[hm,if_pos (by omega)]at this;exact AM hd more n { p with j:=p.j+1,more:=more+1-1 } rfl this
theorem N5(t:RX)(p:Probe):(pL t p).more<=9:=by show runEnd t.mask _-_<=9;unfold runEnd;split <;> omega
theorem AK(hd:t.dummies = #[]):∀(K:Nat)(p:Probe),p.more<=9->go t hashAt h (10*K+1) p=none->∀k,1<=k->k<=K->t.slot (eu t.mask k (p.i,p.perturb)).1≠.empty
|0,p,_,_,k,h1,h2=>absurd h1 (by omega)
|K+1,p,hm,e,k,h1,h2=>by
  have e2:go t hashAt h (10*K+1) (pL t p)=none:=AM hd p.more _ p rfl (uR hd e (by omega));obtain⟨k',rfl⟩:∃k',k=k'+1:=⟨k-1,by omega⟩
  show t.slot (eu t.mask k' (leap t.mask p.i p.perturb)).1≠.empty;by_cases hk:k'=0
  .subst hk;exact(nJ hd e2).1
  .exact AK hd K (pL t p) (N5 t p) e2 k' (by omega) (by omega)
theorem BR(h:Int):bits h<2^64:=by unfold bits;have:=VV h (show(0:Int)<2^64 by decide);have:=TZ h (show(2^64:Int)≠0 by decide);omega
structure Tb(t:RX):Prop where
 mask:t.mask∈M3
 dum:t.dummies = #[]
 room:t.place.size<=t.mask
theorem Ly(T:Tb t):go t hashAt h (10*turns t.mask) (t.probeStart h)≠none:=by
 intro e;obtain⟨j,hj,ho⟩:=LX (l:=t.place.toList) (m:=t.mask) (by simpa using T.room);have hi:bits h%(t.mask+1)<=t.mask:=R7 (SF _ (We _));obtain⟨k,k1,k2,ek⟩:=zN T.mask hi (BR h) hj;refine AK T.dum (t.mask+14) (t.probeStart h) ?_ (uR T.dum e (by unfold turns;omega)) k k1 (by omega) ?_
 .show runEnd t.mask _-_<=9;unfold runEnd;split <;> omega
 .show t.slot (eu t.mask k (bits h%(t.mask+1),bits h)).1=.empty;rw[ek];exact LV T.dum ho
abbrev sk(t:RX)(h:Int):=go t (fun _=>h+1) h
theorem Cy{n:Nat}{p:Probe}{i:Nat}(e:t.slot p.j=.live i):sk t h (n+1) p=sk t h n (t.advance p):=by unfold sk go;rw[QT,e];simp only;rw[if_neg (by simp;omega)]
theorem vT(p:Probe):(t.advance p).dummy=p.dummy:=by unfold UL;split <;> rfl
theorem BJ(hd:t.dummies = #[]):∀{m n:Nat}{p:Probe}{j i:Nat}{next:Probe}{e:Met},go t hashAt h m p=some (.candidate j i next)->sk t h n p=some e->∃n',n'<n/\sk t h n' next=some e/\t.slot j=.live i/\next.dummy=p.dummy
|0,_,_,_,_,_,_,q,_=>by cases q
|m+1,0,_,_,_,_,_,_,q=>by cases q
|m+1,n+1,p,j,i,next,e,q,qs=>by
  rcases slot_cases hd p.j with z|⟨i',z,_⟩
  .unfold go at q;rw[QT,z.1]at q;cases q
  .rw[Cy z]at qs;unfold go at q;rw[QT,z]at q;simp only at q;split at q
   .cases q;exact⟨n,by omega,qs,z,vT p⟩
   .obtain⟨n',h1,h2,h3,h4⟩:=BJ hd q qs;exact⟨n',by omega,h2,h3,h4.trans (vT p)⟩
theorem BK(hd:t.dummies = #[]):∀{n m:Nat}{p:Probe}{e:Met},sk t h n p=some e->n<=m->go t hashAt h m p≠none
|0,_,_,_,q,_=>by cases q
|n+1,0,_,_,_,hl=>absurd hl (by omega)
|n+1,m+1,p,e,q,hl=>by
  intro z;obtain⟨z1,z2⟩:=nJ hd z;rcases slot_cases hd p.j with y|⟨i,y,_⟩
  .exact z1 y.1
  .rw[Cy y]at q;exact BK hd q (U5 hl) z2
theorem AL(hd:t.dummies = #[]):∀{m:Nat}{p:Probe}{j:Nat}{d:Option Nat},go t hashAt h m p=some (.empty j d)->d=p.dummy
|0,_,_,_,q=>by cases q
|m+1,p,j,d,q=>by
  rcases slot_cases hd p.j with z|⟨i',z,_⟩
  .unfold go at q;rw[QT,z.1]at q;cases q;rfl
  .unfold go at q;rw[QT,z]at q;simp only at q;split at q
   .cases q
   .exact(AL hd q).trans (vT p)
end
theorem BG{mask:Nat}{owner:Array (Option Nat)}:∀{fuel i q j:Nat},Qr mask owner fuel i q=some j->owner[j]? = some none
|0,_,_,_,e=>by cases e
|fuel+1,i,q,j,e=>by
  rw[Qr]at e;split at e
  .rename_i k hk;cases e;have:=WK hk;rw[R8]at this;cases z:owner[i+k]? with
  |none=>rw[z]at this;cases this
  |some o=>rw[z]at this;cases o with
   |none=>rfl
   |some v=>cases this
  .exact BG e
theorem DF{mask:Nat}{owner:Array (Option Nat)}:∀{fuel i q:Nat},Qr mask owner fuel i q=none->∀k,k<fuel->owner[(eu mask k (i,q)).1]?≠some none
|0,_,_,_,k,hk=>absurd hk (by omega)
|fuel+1,i,q,e,k,hk=>by
  rw[Qr]at e;split at e
  .cases e
  .rename_i hf;cases k with
  |zero=>intro z;have z:owner[i]? = some none:=z;have:=VW.mp hf 0 (r_.mpr (by unfold runEnd;split <;> omega));rw[Te,R8,z]at this;exact this rfl
  |succ k=>exact DF e k (by omega)
theorem AG{v:Nat}:∀{l:List (Option Nat)}{j:Nat},l[j]? = some none->((l.set j (some v)).filterMap id).length=(l.filterMap id).length+1/\∀x∈(l.set j (some v)).filterMap id,x=v\/x∈l.filterMap id
|[],_,h=>by simp at h
|o::l,0,h=>by simp at h;subst h;simp
|o::l,j+1,h=>by obtain⟨h1,h2⟩:=AG (v:=v) (l:=l) (j:=j) (by simpa using h);rw[List.set_cons_succ];cases o with
 |none=>exact⟨h1,h2⟩
 |some a=>
   have c:∀l:List (Option Nat),(some a::l).filterMap id=a::l.filterMap id:=fun _=>rfl;rw[c,c];refine⟨by rw[C_,h1,C_],fun x hx=>?_⟩;rcases q_.mp hx with e|hx
   .exact .inr (by rw[e];exact g_)
   .rcases h2 x hx with e|e
    .exact .inl e
    .exact .inr (f_ _ e)
theorem AF:∀{l:List (Option Nat)},(l.filterMap id).length<l.length->∃j,j<l.length/\l[j]? = some none
|[],h=>by simp at h
|none::l,h=>⟨0,by simp,rfl⟩
|some a::l,h=>by have c:(some a::l).filterMap id=a::l.filterMap id:=rfl;rw[c,C_,C_]at h;obtain⟨j,hj,e⟩:=AF (l:=l) (by omega);exact⟨j+1,by rw[C_];omega,by simpa using e⟩
structure Ow(mask:Nat)(owner:Array (Option Nat))(k:Nat):Prop where
 size:owner.size=mask+1
 cnt:(owner.toList.filterMap id).length=k
 lt:∀x∈owner.toList.filterMap id,x<k
abbrev sK(mask:Nat)(acc:Option (Array (Option Nat)×Nat))(h:Int):Option (Array (Option Nat)×Nat):=do
 let(owner,k) <-acc;let j <-Qr mask owner (turns mask) (bits h%(mask+1)) (bits h)
 pure (owner.setIfInBounds j (some k),k+1)
theorem KM{mask:Nat}(hm:mask∈M3){owner:Array (Option Nat)}{k:Nat}(O:Ow mask owner k)(hk:k<=mask)(h:Int):∃owner',sK mask (some (owner,k)) h=some (owner',k+1)/\Ow mask owner' (k+1):=by
 have hfr:∃j,Qr mask owner (turns mask) (bits h%(mask+1)) (bits h)=some j:=by cases e:Qr mask owner (turns mask) (bits h%(mask+1)) (bits h)with
 |some j=>exact⟨j,rfl⟩
 |none=>obtain⟨j,hj,ej⟩:=AF (l:=owner.toList) (by rw[O.cnt,Qu,O.size];omega);rw[Qu,O.size]at hj;obtain⟨k',k1,k2,ek⟩:=zN hm (R7 (SF (bits h) (We mask))) (BR h) (R7 hj);have:=DF e k' (by unfold turns;omega);rw[ek]at this;rw[Q1]at ej;exact absurd ej this
 obtain⟨j,ej⟩:=hfr;have hj:=BG ej;refine⟨owner.setIfInBounds j (some k),?_,?_⟩
 .show(Qr mask owner (turns mask) (bits h%(mask+1)) (bits h)).bind _=_;rw[ej];rfl
 .obtain⟨h1,h2⟩:=AG (v:=k) (l:=owner.toList) (j:=j) (by rw[Q1];exact hj);have et:(owner.setIfInBounds j (some k)).toList=owner.toList.set j (some k):=Array.toList_setIfInBounds;refine⟨by rw[Array.size_setIfInBounds];exact O.size,by rw[et,h1,O.cnt],fun x hx=>?_⟩;rw[et]at hx;rcases h2 x hx with e|e
  .omega
  .have:=O.lt x e;omega
theorem BD{mask:Nat}(hm:mask∈M3):∀(hs:List Int){owner:Array (Option Nat)}{k:Nat},Ow mask owner k->k+hs.length<=mask+1->∃owner',hs.foldl (sK mask) (some (owner,k))=some (owner',k+hs.length)/\Ow mask owner' (k+hs.length)
|[],owner,k,O,_=>⟨owner,rfl,O⟩
|h::hs,owner,k,O,hl=>by
  rw[C_]at hl;obtain⟨o1,e1,O1⟩:=KM hm O (by omega) h;obtain⟨o2,e2,O2⟩:=BD hm hs O1 (by omega);refine⟨o2,?_,?_⟩
  .rw[R3,e1,e2,C_];congr 2;omega
  .rw[C_,show k+(hs.length+1)=k+1+hs.length by omega];exact O2
theorem II{mask:Nat}(hm:mask∈M3)(hs:Array Int)(hl:hs.size<=mask):∃owner,layClean mask hs=some owner/\Ow mask owner hs.size:=by
 have O0:Ow mask (Vc (mask+1) none) 0:=by
  have e:(Vc (mask+1) (none:Option Nat)).toList.filterMap id=[]:=by rw[Array.toList_replicate];exact List.filterMap_eq_nil_iff.mpr fun x hx=>by rw[(List.mem_replicate.mp hx).2];rfl
  exact⟨by simp,by rw[e];rfl,fun x hx=>by rw[e]at hx;cases hx⟩
 obtain⟨o,e,O⟩:=BD hm hs.toList O0 (by rw[Qu];omega);rw[QJ,Qu]at e O;refine⟨o,?_,O⟩;unfold layClean;rw[<-Array.foldl_toList];show VX _ (VQ (sK mask) (some (Vc (mask+1) none,0)) hs.toList)=_;rw[e];rfl
theorem Mw(owner:Array (Option Nat)):(((a_ owner.size).filterMap fun j=>(owner.getD j none).map (j,·)).map (·.2))=owner.toList.filterMap id:=by
 rw[VY];have:(a_ owner.size).map (fun j=>owner.getD j none)=owner.toList:=by
  refine QS fun j=>?_;rw[n_];by_cases hj:j<owner.size
  .rw[PM hj,QY,R8,Q1,Sl hj];rfl
  .rw[P3 (by simp;omega),P3 (by simp;omega)];rfl
 rw[<-this,VO];congr 1;funext j;show VX (·.2) ((owner.getD j none).map (j,·))=owner.getD j none;cases owner.getD j none <;> rfl
theorem LH{t:RX}{hs:Array Int}{wanted:Nat}(hm:sizeAbove wanted-1∈M3)(hl:hs.size<=sizeAbove wanted-1):∃t' order,t.relaid hs wanted=some (t',order)/\t'.mask=sizeAbove wanted-1/\t'.dummies = #[]/\t'.place.size=hs.size/\order.size=hs.size/\∀x∈order.toList,x<hs.size:=by
 obtain⟨owner,e,O⟩:=II hm hs hl;have hL:=Mw owner;rw[O.size]at hL;refine⟨_,_,by unfold relaid laid;rw[e];rfl,rfl,rfl,?_,?_,fun x hx=>?_⟩
 .have:=congrArg Q_ hL;rw[m_,O.cnt]at this;simpa using this
 .have:=congrArg Q_ hL;rw[m_,O.cnt]at this;simpa using this
 .have hx':x∈(((a_ (sizeAbove wanted-1+1)).filterMap fun j=>(owner.getD j none).map (j,·)).map (·.2)):=hx;rw[hL]at hx';exact O.lt x hx'
section
variable{prog:B_}{w:PP}{A:P8}{E:b_->h_->Prop}{s:h_}
abbrev bF(prog:B_)(w:PP)(h:Heap)(k:List Int)(b:Addr):Prop:=IsTupleKey (V5 prog w) h k b
theorem De{k:List Int}{b:Addr}{Q:Bool->h_->Prop}(hk:bF prog w s.heap k b)(h:Q false s):D_ (O_ prog w) A (Tf 8 (.ref b)) Q E s:=by
 have hT:=hk.typeIs;obtain⟨o,items,n,ho,hc,hd,hi⟩:=hk;unfold Tf;refine d_ (wpAny_typeOf_ref ho ?_);rw[hc];show D_ _ _ ((if ("tuple" == "tuple")=true then pure true else XZ (.type "tuple") (.type "tuple")) >>= _) _ _ s;rw[if_pos (by decide)];refine d_ (t_ ?_);simp only[Tz,PX,if_false];refine d_ (QR ho hd ?_);show D_ _ _ (Yf items _ _ >>= _) _ _ s;rw[<-VZ];refine d_ (UM _ (fun rest r s'=>r.1=none/\s'=s/\∀v∈rest,Vr v=true) _ ?_ ?_ _ _ ⟨rfl,rfl,hi.byValue⟩)
 .rintro v rest r s' ⟨hr,rfl,hall⟩
  have hv:=hall v g_;have e:Tf 7 v=pure false:=by cases v with
  |ref a=>simp[Vr]at hv
  |_=>first|rfl|(unfold Tf;rfl)
  rw[e];refine d_ (t_ ?_);simp only[PX,if_false];exact t_ ⟨rfl,rfl,fun u hu'=>hall u (f_ _ hu')⟩
 .rintro⟨r1,r2⟩ s' ⟨hr,rfl,_⟩
  simp only at hr;subst hr;exact t_ h
theorem Nj{k:List Int}{b:Addr}{Q:Bool->h_->Prop}(hk:bF prog w s.heap k b)(h:Q true s):D_ (O_ prog w) A (Vs 8 (.ref b)) Q E s:=by
 have hT:=hk.typeIs;obtain⟨o,items,n,ho,hc,hd,hi⟩:=hk;have hall:∀v∈items.toList,∃i t,v=.int i t:=by
  clear ho hd hT hc h;generalize items.toList=l at hi
  induction hi with
 |nil=>intro v hv;simp at hv
 |@cons k' v' ks vs h1 _ ih=>
   intro v hv;rcases q_.mp hv with rfl|hv
   .cases v with
   |int i t=>exact⟨i,t,rfl⟩
   |_=>exact absurd h1 j_
   .exact ih v hv
 unfold Vs;refine d_ (wpAny_specialOf hT F.slot_tuple_hash.lookup ?_)
 dsimp only
 refine d_ (QR ho hd ?_);show D_ _ _ (Yf items _ _ >>= _) _ _ s;rw[<-VZ];refine d_ (UM _ (fun rest r s'=>r.1=none/\s'=s/\∀v∈rest,∃i t,v=.int i t) _ ?_ ?_ _ _ ⟨rfl,rfl,hall⟩)
 .rintro v rest r s' ⟨hr,rfl,hall⟩
  obtain⟨i,t,rfl⟩:=hall v g_;have e:Vs 7 (.int i t)=pure true:=by unfold Vs;rfl
  rw[e];refine d_ (t_ ?_);simp only[Tz,PX,if_false];exact t_ ⟨rfl,rfl,fun u hu'=>hall u (f_ _ hu')⟩
 .rintro⟨r1,r2⟩ s' ⟨hr,rfl,_⟩
  simp only at hr;subst hr;exact t_ h
theorem IZ{kx:List Int}{b:Addr}{stored:List b_}{Q:Bool->h_->Prop}(hx:bF prog w s.heap kx b)(hs:∀v∈stored,∃y ky,v=.ref y/\bF prog w s.heap ky y)(h:Q false s):D_ (O_ prog w) A (Wf (.ref b) stored) Q E s:=by
 unfold Wf;refine d_ (UM _ (fun rest r s'=>r.1=none/\s'=s/\∀v∈rest,∃y ky,v=.ref y/\bF prog w s.heap ky y) _ ?_ ?_ _ _ ⟨rfl,rfl,hs⟩)
 .rintro v rest r s' ⟨hr,rfl,hall⟩
  obtain⟨y,ky,rfl,hy⟩:=hall v g_;have next:∀{r':Option Bool×Unit},r'.1=none->(r'.1=none/\s'=s'/\∀v∈rest,∃y ky,v=Value.ref y/\bF prog w s'.heap ky y):=fun e=>⟨e,rfl,fun u hu'=>hall u (f_ _ hu')⟩
  dsimp only
  by_cases hyb:(b==y)=true
  .rw[hyb];simp only[X7,if_true];exact t_ (next rfl)
  .have hyb:(b==y)=false:=by simpa using hyb
   rw[hyb];simp only[Vr,XH,Bool.or_self,PX,if_false,Vt];refine d_ (Vk hx ?_);simp only[Tz,PX,if_false];refine d_ (Vk hy ?_);simp only[Tz,PX,if_false];refine d_ (De hx ?_);simp only[PX,if_false];refine d_ (De hy ?_);simp only[PX,if_false];exact t_ (next rfl)
 .rintro⟨r1,r2⟩ s' ⟨hr,rfl,_⟩
  simp only at hr;subst hr;exact t_ h
theorem L3{m:Nat}(h:m∈M3):(m%2==0)=false:=by rcases mem_M3 h with rfl|rfl|rfl <;> rfl
theorem OC{S b:Addr}{o:Obj}{es:Array (Int×b_)}{ep:Nat}{t:RX}{kx:List Int}{h:Int}{Q:SetFound->h_->Prop}(hu:A.units<Rt)(ho:s.heap.get? S=some o)(hd:o.data=.set es ep t)(hf:t.fits es.size=true)(T:Tb t)(hes:∀e∈es.toList,∃y ky,e.2=.ref y/\bF prog w s.heap ky y/\ky≠kx)(hx:bF prog w s.heap kx b)(hQ:∀j,Q (.free j false) s):∀(n F:Nat)(stand:Option Probe)(e:Met),n<=10*turns t.mask->n<F->(stand.getD (t.probeStart h)).dummy=none->sk t h n (stand.getD (t.probeStart h))=some e->D_ (O_ prog w) A (setSearchFrom S (.ref b) h true F stand) Q E s:=by
 intro n
 induction n using WL with
|_ n ih=>
  intro F stand e hn hF hdm hsk;obtain⟨F,rfl⟩:∃F',F=F'+1:=⟨F-1,by omega⟩
  unfold setSearchFrom;refine d_ (RJ ho hd hf ?_)
  dsimp only
  have hg:t.gaveWay=false:=L3 T.mask;rw[hg];simp only[PX,if_false];unfold SetTable.probe;generalize hgo:probe.go t _ h (10*turns t.mask) (stand.getD (t.probeStart h))=R;cases R with
 |none=>exact absurd hgo (BK T.dum hsk hn)
 |some met=>cases met with
  |empty j dm=>have:=AL T.dum hgo;rw[hdm]at this;subst this;exact t_ (hQ j)
  |candidate j i next=>
    obtain⟨n',hn',hsk',hsl,hdm'⟩:=BJ T.dum hgo hsk;have hpl:t.place[i]? = some j:=by
     rcases slot_cases T.dum j with z|⟨i',z,e⟩
     .rw[z.1]at hsl;cases hsl
     .rw[z]at hsl;cases hsl;exact e
    have hi:i<es.size:=by
     have:i<t.place.size:=by obtain⟨z,_⟩:=Array.getElem?_eq_some_iff.mp hpl;exact z
     simp only[XI,PR,beq_iff_eq,decide_eq_true_eq]at hf;omega
    obtain⟨hv,y0,e1⟩:∃hv y0,es[i]=(hv,y0):=⟨es[i].1,es[i].2,rfl⟩
    have hei:es[i]? = some (hv,y0):=by rw[Sl hi,e1]
    obtain⟨y,ky,ey,hyk,hne⟩:=hes (hv,y0) (by rw[<-e1];exact UB hi);have ey:y0=.ref y:=ey;subst ey;have hsm:t.sameMemory t.moves t.mask=some true:=by unfold SetTable.sameMemory;rw[if_pos (by simp)]
    have hsame:isSame (.ref y) (.ref y)=pure true:=by show(if (y==y)=true then pure true else _)=_;rw[if_pos (by simp)]
    have hsto:∀v∈TM (fun x=>x.snd) (Array.filter (fun x=>x.fst==h) es).toList,∃y ky,v=Value.ref y/\bF prog w s.heap ky y:=fun v hv=>by obtain⟨x,hx1,rfl⟩:=A_.mp hv;obtain⟨y,ky,q1,q2,_⟩:=hes x (by rw[Array.toList_filter]at hx1;exact(QB.mp hx1).1);exact⟨y,ky,q1,q2⟩
    have fin:=ih n' hn' F (some next) e (by omega) (by omega) (by rw[UN,hdm',hdm]) hsk'
    dsimp only
    simp only[hei];cases hl:t.led
    .simp only[Bool.not_false,if_true];refine d_ (IZ hx hsto ?_);simp only[PX,if_false];refine d_ (Q6 (V0 hu hyk hx ?_));rw[decide_eq_false hne];refine d_ (RJ ho hd hf ?_);simp only[Vt,PX,if_false,hsm,if_true,hsl,hei,hsame];exact d_ (t_ (d_ (t_ fin)))
    .simp only[Tz,PX,if_false];refine d_ (Q6 (V0 hu hyk hx ?_));rw[decide_eq_false hne];refine d_ (RJ ho hd hf ?_);simp only[Vt,PX,if_false,hsm,if_true,hsl,hei,hsame];exact d_ (t_ (d_ (t_ fin)))
theorem NX{S b:Addr}{o:Obj}{es:Array (Int×b_)}{ep:Nat}{t:RX}{kx:List Int}{h:Int}{Q:SetFound->h_->Prop}(hu:A.units<Rt)(ho:s.heap.get? S=some o)(hd:o.data=.set es ep t)(hf:t.fits es.size=true)(T:Tb t)(hes:∀e∈es.toList,∃y ky,e.2=.ref y/\bF prog w s.heap ky y/\ky≠kx)(hx:bF prog w s.heap kx b)(hQ:∀j,Q (.free j false) s):D_ (O_ prog w) A (setSearch S (.ref b) h true) Q E s:=by have h0:sk t h (10*turns t.mask) (t.probeStart h)≠none:=Ly T;cases e:sk t h (10*turns t.mask) (t.probeStart h)with
|none=>exact absurd e h0
|some met=>refine OC (h:=h) hu ho hd hf T hes hx hQ (10*turns t.mask) 100000 none met (u_ _) ?_ rfl e;unfold turns;rcases mem_M3 T.mask with z|z|z <;> rw[z] <;> decide
end
theorem vO{α:Type}(xs:Array α)(p:Nat)(x:α):(Qm xs p x).size=xs.size+1:=by unfold Qm;rw[Array.size_append,Array.size_push,V1,V1];omega
theorem ins_mem{α:Type}{xs:Array α}{p:Nat}{x y:α}(h:y∈(Qm xs p x).toList):y=x\/y∈xs.toList:=by
 unfold Qm at h;rw[Array.toList_append,Array.toList_push,Vu,Vu]at h;rcases Qk.mp h with z|z
 .rcases Qk.mp z with z|z
  .exact .inr (Vv (Vw z))
  .exact .inl (y_.mp z)
 .exact .inr (Vv (Vw z))
def mT(m n:Nat):Prop:=m=7/\n<=4\/m=31/\n<=18\/m=127/\n<=76
theorem mT.m3{m n:Nat}(h:mT m n):m∈M3/\n<=m:=by
 rcases h with⟨rfl,h⟩|⟨rfl,h⟩|⟨rfl,h⟩
 .exact⟨by simp[M3],by omega⟩
 .exact⟨by simp[M3],by omega⟩
 .exact⟨by simp[M3],by omega⟩
structure SX0(h:Heap)(S:Addr)(bks:List (Addr×List Int))(es:Array (Int×b_))(ep:Nat)(t:RX):Prop where
 at_:h.get? S=some { cls:=.type "set",dict:=none,data:=.set es ep t }
 dum:t.dummies = #[]
 size:es.size=bks.length
 psz:t.place.size=bks.length
 mem:∀e∈es.toList,∃x∈bks,e.2=.ref x.1
def SX(h:Heap)(S:Addr)(bks:List (Addr×List Int)):Prop:=∃es ep t,SX0 h S bks es ep t/\mT t.mask bks.length
theorem SX0.fits{h:Heap}{S:Addr}{bks:List (Addr×List Int)}{es:Array (Int×b_)}{ep:Nat}{t:RX}(X:SX0 h S bks es ep t)(hm:bks.length<=t.mask):t.fits es.size=true:=by unfold XI XJ;rw[X.size,X.psz,X.dum];simp;exact hm
section
variable{prog:B_}{w:PP}{A:P8}{E:b_->h_->Prop}{s:h_}
theorem NJ{S:Addr}{bks:List (Addr×List Int)}{es:Array (Int×b_)}{ep:Nat}{t:RX}{wanted:Nat}{Q:Unit->h_->Prop}(X:SX0 s.heap S bks es ep t)(hm:bks.length<=t.mask)(hm3:sizeAbove wanted-1∈M3)(hN:mT (sizeAbove wanted-1) bks.length)(hw:sizeAbove wanted<=128)(h:∀h',SY S s.heap h'->SX h' S bks->Q () { s with heap:=h' }):D_ (O_ prog w) A (Wg S wanted) Q E s:=by
 unfold Wg;refine d_ (RJ X.at_ rfl (X.fits hm) ?_)
 dsimp only
 rw[if_neg (by rw[Qf];omega)];obtain⟨t',order,e,m1,m2,m3,m4,m5⟩:=LH (t:=t) (hs:=es.map (·.1)) (wanted:=wanted) hm3 (by rw[Xb,X.size];exact hN.m3.2);rw[Xb]at m3 m4 m5;rw[e];have hfm:∀{l:List Nat},(∀x∈l,x<es.size)->(l.filterMap (es[·]?)).length=l.length/\∀y∈l.filterMap (es[·]?),y∈es.toList:=by
  intro l
  induction l with
 |nil=>intro _;exact⟨rfl,fun _ h=>(nomatch h)⟩
 |cons a l ih=>
   intro hl;obtain⟨h1,h2⟩:=ih fun x hx=>hl x (f_ _ hx);have ha:=hl a g_;rw[List.filterMap_cons_some (b:=es[a]) (Sl ha)];refine⟨by rw[C_,h1,C_],fun y hy=>?_⟩;rcases q_.mp hy with rfl|hy
   .exact UB ha
   .exact h2 y hy
 obtain⟨f1,f2⟩:=hfm m5;have f0:(order.filterMap (es[·]?)).toList=order.toList.filterMap (es[·]?):=Array.toList_filterMap;have fs:(order.filterMap (es[·]?)).size=es.size:=by rw[<-Qu,f0,f1,Qu,m4]
 show D_ _ _ ((if ((order.filterMap (es[·]?)).size != es.size)=true then(unsupported "internal:set-table-lost-an-element" >>= fun _=>pure (order.filterMap (es[·]?),t'))else pure (order.filterMap (es[·]?),t')) >>= _) _ _ s;rw[if_neg (by rw[fs];simp)];refine d_ (t_ (Wh X.at_ rfl ?_ (by rw[fs,X.size,Qf];have:=hN.m3.2;omega)));refine h _ (Sm s.heap S _) ⟨_,_,_,⟨HS.put_heap X.at_,m2,by rw[fs,X.size],by rw[m3,X.size],fun e' he=>?_⟩,by rw[m1];exact hN⟩;rw[f0]at he;exact X.mem e' (f2 e' he)
theorem Kq{S b:Addr}{bks:List (Addr×List Int)}{kx:List Int}{hh:Int}{Q:Bool->h_->Prop}(hu:A.units<Rt)(hS:SX s.heap S bks)(hk:∀x∈bks,bF prog w s.heap x.2 x.1/\x.2≠kx)(hx:bF prog w s.heap kx b)(hl:bks.length<76)(h:∀h' b',SY S s.heap h'->SX h' S ((b,kx)::bks)->Q b' { s with heap:=h' }):D_ (O_ prog w) A (setAddHashed S (.ref b) hh) Q E s:=by
 obtain⟨es,ep,t,X,M⟩:=hS;obtain⟨hm3,hmn⟩:=M.m3;have hf:=X.fits hmn;have T:Tb t:=⟨hm3,X.dum,by rw[X.psz];exact hmn⟩
 unfold setAddHashed setAddHashedIn;refine Q6 (d_ (RJ X.at_ rfl hf ?_))
 dsimp only
 have hbs:byScan (.ref b) es=false:=rfl;rw[hbs];simp only[PX,if_false];refine d_ (NX hu X.at_ rfl hf T (fun e he=>?_) hx fun j=>?_)
 .obtain⟨x,hx1,hx2⟩:=X.mem e he;exact⟨x.1,x.2,hx2,(hk x hx1).1,(hk x hx1).2⟩
 .dsimp only
  refine d_ (RJ X.at_ rfl hf ?_)
  dsimp only
  have hpd:(t.put j).1.dummies = #[]:=by
   show(if has t.dummies j=true then _ else t.dummies)=_;have:has t.dummies j=false:=by rw[X.dum];unfold has;simp
   rw[this,X.dum];rfl
  have hpp:(t.put j).1.place.size=bks.length+1:=by show(Qm t.place _ j).size=_;rw[vO,X.psz]
  have hpm:(t.put j).1.mask=t.mask:=rfl;generalize hP:t.put j=P at hpd hpp hpm;obtain⟨t1,p⟩:=P;simp only at hpd hpp hpm;have fin:D_ (O_ prog w) A (storeSet S (Qm es p (hh,.ref b)) t1 >>= fun _=>if (! false&&t1.tooFull)=true then Wg S (Ul (es.size+1)) >>= fun _=>pure true else pure true) Q E s:=by
   refine d_ (Wh X.at_ rfl ?_ (by rw[vO,X.size,Qf];omega));have sb1:=Sm s.heap S (Uk (Qm es p (hh,.ref b)) t1);have X1:SX0 (s.heap.update S (Uk (Qm es p (hh,.ref b)) t1)) S ((b,kx)::bks) (Qm es p (hh,.ref b)) (ep+1) t1:=
    ⟨HS.put_heap X.at_,hpd,by rw[vO,X.size,C_],by rw[hpp,C_],fun e he=>by
     rcases ins_mem he with rfl|he
     .exact⟨(b,kx),g_,rfl⟩
     .obtain⟨x,hx1,hx2⟩:=X.mem e he;exact⟨x,f_ _ hx1,hx2⟩⟩
   have full:t1.tooFull=decide ((bks.length+1)*5>=t.mask*3):=by unfold SetTable.tooFull XJ;rw[hpp,hpd,hpm];rfl
   rw[full];have go:∀{m':Nat},SetTable.sizeAbove (Ul (es.size+1))=m'+1->m'∈M3->mT m' (bks.length+1)->m'+1<=128->t.mask*3<=(bks.length+1)*5->D_ (O_ prog w) A (if (! false&&decide ((bks.length+1)*5>=t.mask*3))=true then Wg S (Ul (es.size+1)) >>= fun _=>pure true else pure true) Q E { s with heap:=s.heap.update S (Uk (Qm es p (hh,.ref b)) t1) }:=fun{m'} e1 e2 e3 e4 e5=>by
    rw[if_pos (by rw[decide_eq_true e5];rfl)];refine d_ (NJ X1 ?_ (by rw[e1];exact e2) (by rw[e1,C_];exact e3) (by rw[e1];exact e4) fun h' sb hS'=>?_)
    .rw[C_,hpm];rcases M with⟨e,z⟩|⟨e,z⟩|⟨e,z⟩ <;> omega
    .exact t_ (h h' true (sb1.trans sb) hS')
   have stay:¬ t.mask*3<=(bks.length+1)*5->mT t.mask (bks.length+1)->D_ (O_ prog w) A (if (! false&&decide ((bks.length+1)*5>=t.mask*3))=true then Wg S (Ul (es.size+1)) >>= fun _=>pure true else pure true) Q E { s with heap:=s.heap.update S (Uk (Qm es p (hh,.ref b)) t1) }:=fun e5 e3=>by rw[if_neg (by rw[decide_eq_false e5];simp)];exact t_ (h _ true sb1 ⟨_,_,_,X1,by rw[hpm,C_];exact e3⟩)
   rcases M with⟨e,z⟩|⟨e,z⟩|⟨e,z⟩
   .by_cases h4:bks.length=4
    .exact go (m':=31) (by rw[X.size,h4];decide) (by simp[M3]) (.inr (.inl ⟨rfl,by omega⟩)) (by omega) (by rw[e,h4];decide)
    .exact stay (by rw[e];omega) (.inl ⟨e,by omega⟩)
   .by_cases h4:bks.length=18
    .exact go (m':=127) (by rw[X.size,h4];decide) (by simp[M3]) (.inr (.inr ⟨rfl,by omega⟩)) (by omega) (by rw[e,h4];decide)
    .exact stay (by rw[e];omega) (.inr (.inl ⟨e,by omega⟩))
   .exact stay (by rw[e];omega) (.inr (.inr ⟨e,by omega⟩))
  cases hpl:t1.plain with
 |true=>simp only[if_true];refine d_ (Nj hx ?_);simp only[if_true];exact fin
 |false=>simp only[PX,if_false];refine d_ (t_ ?_);simp only[if_true];exact fin
end
theorem SX.keep{h h':Heap}{S:Addr}{bks:List (Addr×List Int)}(x:SX h S bks)(e:∀o,h.get? S=some o->h'.get? S=some o):SX h' S bks:=by obtain⟨es,ep,t,X,M⟩:=x;exact⟨es,ep,t,⟨e _ X.at_,X.dum,X.size,X.psz,X.mem⟩,M⟩
theorem pO{prog:B_}{w:PP}{h h':Heap}{k:List Int}{b:Addr}(x:bF prog w h k b)(e:∀o,h.get? b=some o->h'.get? b=some o):bF prog w h' k b:=by obtain⟨o,items,n,ho,z⟩:=x;exact⟨o,items,n,e o ho,z⟩
theorem LY{h:Heap}{a:Addr}{led:Bool}(ho:h.get? a=some (HS.freshSet led)):SX h a []:=⟨#[],0,.fresh 0 0 led,⟨ho,rfl,rfl,rfl,fun _ h=>by simp at h⟩,.inl ⟨rfl,by decide⟩⟩
section
variable{prog:B_}{w:PP}{A:P8}{R:WV->h_->Prop}{I:Addr}{fp wr:List Addr}{G:Array WS->Array WS->Prop}{n:Nat}{P:Nat->b_->Prop}{St:Nat->h_->Prop}
theorem No(W:WalksS prog w A.in1 I fp wr G n P St){S:Addr}(hSf:S∉fp)(bs:Nat->Addr)(kk:Nat->List Int)(hval:∀i v,P i v->v=.ref (bs i))(hne:∀i,i<n->bs i≠S/\bs i∉wr)(hnd:∀i j,i<n->j<n->i≠j->kk i≠kk j)(hn:n<=76)(hu:A.in1.units<Rt):∀(k i:Nat)(s:h_)(bks:List (Addr×List Int)),i+k=n->St i s->SX s.heap S bks->bks.length=i->(∀x∈bks,∃j,j<i/\x=(bs j,kk j))->(∀j,j<n->bF prog w s.heap (kk j) (bs j)) ->(∀s',Moved (S::wr) G s s'->(∃bks:List (Addr×List Int),bks.length=n/\SX s'.heap S bks)->R (.ok (.ret .none)) s') ->T7 (O_ prog w) A (.builtin "set.update.loop" ⟨[.ref S,.ref I],[]⟩) R s:=by
 have hSw:S∉wr:=fun h=>hSf (W.sub _ h);have hsub:∀b∈wr,b∈S::wr:=fun b hb=>f_ _ hb;intro k
 induction k with
|zero=>
  intro i s bks hi hst hS hl hb hT hR;have hi':i=n:=by omega
  rw[hi']at hst;refine Sx F.entry_set_update_loop ?_;rw[TJ F.plain_set_update_loop _];show D_ _ A.in1 (Vm (.ref I) >>= _) _ _ s;refine d_ (W.done s _ _ hst fun s' hm=>?_);exact t_ (hR s' (hm.mono hsub) ⟨bks,by omega,hS.keep fun o e=>hm.heap S o hSw e⟩)
|succ k ih=>
  intro i s bks hi hst hS hl hb hT hR;refine Sx F.entry_set_update_loop ?_;rw[TJ F.plain_set_update_loop _];show D_ _ A.in1 (Vm (.ref I) >>= _) _ _ s;refine d_ (W.item i s _ _ (by omega) hst fun v s' hP hst' hm=>?_);have hv:=hval i v hP;subst hv;have hi1:i<n:=by omega
  have hS':=hS.keep (h':=s'.heap) fun o e=>hm.heap S o hSw e;have hT':∀j,j<n->bF prog w s'.heap (kk j) (bs j):=fun j hj=>pO (hT j hj) fun o e=>hm.heap _ o (hne j hj).2 e;show D_ _ A.in1 (Sv [Value.ref (bs i)] (setAdd S (.ref (bs i))) >>= _) _ _ s';refine d_ (Q6 ?_);unfold setAdd;refine Q6 (d_ (wpAny_pyHash_tuple hu (hT' i hi1) ?_));refine Kq (s:={ s' with toks:=s'.toks+((kk i).length+1) }) hu hS' (fun x hx=>?_) (hT' i hi1) (by omega) fun h' b hsb hS2=>?_
  .obtain⟨j,hj,rfl⟩:=hb x hx;exact⟨hT' j (by omega),hnd j i (by omega) hi1 (by omega)⟩
  .have hT2:∀j,j<n->bF prog w h' (kk j) (bs j):=fun j hj=>pO (hT' j hj) fun o e=>by rw[hsb.2 _ (hne j hj).1];exact e
   refine t_ ⟨plainId_quiet F.plain_set_update_loop _,ih (i+1) _ _ (by omega) (W.frame _ s' _ _ hst' (Wv _ _) fun b hb o e=>?_) hS2 (by rw[C_,hl]) (fun x hx=>?_) hT2 fun s'' hm'' hS''=>?_⟩
   .rw[hsb.2 b fun z:b=S=>hSf (by rw[<-z];exact hb)];exact e
   .rcases q_.mp hx with rfl|hx
    .exact⟨i,by omega,rfl⟩
    .obtain⟨j,hj,e⟩:=hb x hx;exact⟨j,by omega,e⟩
   .refine hR s'' (Moved.trans W.gtrans ((hm.mono hsub).then_heap (Wv _ _) fun b o hb e=>?_) hm'') hS'';rw[hsb.2 b fun z:b=S=>hb (by rw[z];exact g_)];exact e
end
section
variable{prog:B_}{w:PP}{A:P8}{E:b_->h_->Prop}{s:h_}
theorem gY{l:Addr}{items:Array b_}{bs:Nat->Addr}{kk:Nat->List Int}{Q:b_->h_->Prop}(hh:A.handled=none)(hu:A.units+64<Rt)(hl:s.heap.IsList l items)(hv:∀(i:Nat)(v:b_),items[i]? = some v->v=.ref (bs i))(hk:∀i,i<items.size->bF prog w s.heap (kk i) (bs i))(hnd:∀i j,i<items.size->j<items.size->i≠j->kk i≠kk j)(hn:items.size<=76)(h:∀(h':Heap)(tk:Nat),(∃bks:List (Addr×List Int),bks.length=items.size/\SX h' s.heap.objs.size bks)->(∀b o,s.heap.get? b=some o->h'.get? b=some o)->Q (.ref s.heap.objs.size) { s with heap:=h',toks:=tk }):D_ (O_ prog w) A (call (.type "set") [.ref l]) Q E s:=by
 obtain⟨c,tl,hmro⟩:=F.called_set.mro;have hmade:=F.called_set.made;have hsub:=F.called_set.sub;refine WW (Va ?_);show D_ _ _ (callAny (.type "set") _) _ _ _;refine t_ ⟨VR _ (by decide+kernel),Sx F.entry_type_call ?_⟩;rw[VS (Vg "set" [.ref l] []) rfl];have h1:=F.called_set.notType;have h2:=F.called_set.canCreate;have hct:=F.typeCall_set_1 (.ref l)
 repeat (any_goals (first|assumption|wp_step))
 refine Sg (HS.new_set (.ref l) (E:=E) (Q:=fun obj s₁=>obj=.ref s.heap.objs.size/\s₁={ s with heap:=s.heap.push (HS.freshSet (HS.ledOf w)) }) ⟨rfl,rfl⟩) fun r s₁ hr=>?_;cases r with
|error e=>exact hr
|ok fl=>cases fl with
 |next=>exact hr.elim
 |brk=>exact hr.elim
 |cont=>exact hr.elim
 |ret obj=>
   obtain⟨rfl,rfl⟩:=hr;have hS:(s.heap.push (HS.freshSet (HS.ledOf w))).get? s.heap.objs.size=some (HS.freshSet (HS.ledOf w)):=w_ _ rfl;have hT:XG { s with heap:=s.heap.push (HS.freshSet (HS.ledOf w)) } (.ref s.heap.objs.size) "set" := ⟨_,hS,rfl⟩
   have hli:=F.called_set.init.lookup;have hbi:=F.called_set.init.bind (.ref s.heap.objs.size)
   repeat (any_goals (first|assumption|wp_step))
   refine Sg (Vo (R:=wants (fun r s₂=>r=.none/\∃h' tk,s₂={ s with heap:=h',toks:=tk }/\(∃bks:List (Addr×List Int),bks.length=items.size/\SX h' s.heap.objs.size bks)/\∀b o,s.heap.get? b=some o->h'.get? b=some o) E) F.called_set.init.plain F.entry_set_init (Wo hT ?_)) fun r₂ s₂ hr₂=>?_
   .obtain⟨ol,hol,hcl,nl,hdl⟩:=hl;obtain⟨ocls,odict,odata,oslots⟩:=ol;simp only at hcl hdl;subst hcl;subst hdl;have hol':(s.heap.push (HS.freshSet (HS.ledOf w))).get? l=some { cls:=.type "list",dict:=odict,data:=.seq items nl,slots:=oslots }:=e_ _ hol;have hsls:=F.sub_list_set;have hslf:=F.sub_list_frozenset;have hne:(Value.type "list" == Value.type "dict")=false:=by decide
    have hl1:(s.heap.push (HS.freshSet (HS.ledOf w))).IsList l items:=⟨_,hol',rfl,nl,rfl⟩
    unfold Tx.«set.__init__» noKeywords TW;generalize hPI:WU=PI
    wp_walk
    subst hPI;refine RI hl1 (d_ (wpAny_runValue ?_));have hlS:l<s.heap.objs.size:=x_ hol;have hh3:A.in1.in1.in1.handled=none:=by simp[hh]
    have hneI:l≠(s.heap.push (HS.freshSet (HS.ledOf w))).objs.size:=by rw[Qj];exact PH (Rh hlS)
    have hSf:s.heap.objs.size∉[(s.heap.push (HS.freshSet (HS.ledOf w))).objs.size,l]:=by rw[Qj];simp only[q_,Ql,or_false,not_or];exact⟨PH (Rv _),Q7 hlS⟩
    have hu3:A.in1.in1.in1.units<Rt:=by simp only[Around.in1_units];omega
    have kpT:∀{b:Addr}{k:List Int},bF prog w s.heap k b->bF prog w (s.heap.push (HS.freshSet (HS.ledOf w))) k b:=fun{b k} z=>pO z fun o e=>e_ _ e;have lts:∀{b:Addr}{k:List Int},bF prog w s.heap k b->b<s.heap.objs.size:=fun{b k} ⟨o,_,_,e,_⟩=>x_ e;refine No ((Yn hh3 _ l hneI items).toS) hSf bs kk (fun i v z=>hv i v z) (fun i hi=>?_) hnd hn hu3 items.size 0 _ [] (by omega) ⟨⟨_,w_ _ rfl,rfl,rfl⟩,hl1.push _⟩ (LY (e_ _ hS)) rfl (fun _ h=>(nomatch h)) (fun j hj=>pO (kpT (hk j hj)) fun o e=>e_ _ e) fun s' hm hS'=>?_
    .have:=lts (hk i hi);refine⟨PH this,fun z=>?_⟩;have e:=y_.mp z;rw[Qj]at e;exact PH (Rh this) e
    obtain⟨h',g',d',tk',os'⟩:=s';have eg:g'=s.gens:=hm.gens;have ed:d'=s.drawn:=hm.drawn;have eo:os'=s.os:=hm.os;subst eg;subst ed;subst eo;show D_ _ _ _ _ _ _;refine t_ ?_;show D_ _ _ (ret Value.none) _ _ _;refine t_ ⟨rfl,h',tk',rfl,hS',fun b o e=>?_⟩;have hb:b<s.heap.objs.size:=x_ e;refine hm.heap b o ?_ (e_ _ (e_ _ e));rw[Qj];simp only[q_,Ql,or_false,not_or];exact⟨PH hb,PH (Rh hb)⟩
   .cases r₂ with
   |error e=>exact hr₂
   |ok fl₂=>cases fl₂ with
    |ret r=>
      obtain⟨rfl,h',tk,rfl,hS',hk'⟩:=hr₂
      repeat (any_goals (first|assumption|wp_step))
      exact h _ _ hS' hk'
    |next=>exact hr₂.elim
    |brk=>exact hr₂.elim
    |cont=>exact hr₂.elim
end
end HT
namespace DL
open PySem PySem.Spec PyProof.Rows L2
def sI(X:Cx):List V->Hp->VK->Prop:=fun xs H Q=>∃p,∃bks:List (Addr×List Int),xs=[.ref p]/\aV X.K H p (bks.map fun x=>V.ref x.1)/\(∀x∈bks,bO X.K H x.1 (x.2.map V.int))/\(bks.map (·.2)).Nodup/\bks.length<=76/\Q (.int bks.length) H
theorem CQ{prog:B_}{w:PP}:∀{ns:List Int}{its:List b_},al (ns.map V.int) its->ItemsAre (V5 prog w) ns its
|[],_,r=>by cases r;exact .nil
|n::ns,_,r=>by cases r with
 |@cons _ u _ us r1 t=>
   obtain⟨t',rfl⟩:=(show ∃t,u=Value.int n t from r1)
   exact .cons (intKind_is _ _ _ _) (CQ t)
theorem CJ:∀{bks:List (Addr×List Int)}{its:List b_},al (bks.map fun x=>V.ref x.1) its->its=bks.map fun x=>Value.ref x.1
|[],_,r=>by cases r;rfl
|b::bks,_,r=>by cases r with
 |cons r1 t=>cases r1;rw[CJ t];rfl
section
variable{X:Cx}{g:GE}{m:List Md}{a:Expr}{t:TA}{fl:ak->Res (List D)}{pos p pos2 p2:Pos}
theorem NP(hc:X.calm=true)(hu:X.A.units+64<Rt)(hg:Gl X "len")(hm:X.mg "len" = none)(hg2:Gl X "set")(hm2:X.mg "set" = none)(ha:PA X [a] t)(he:l_ [.Call (.Name "set" p2) [a] [] pos2] X.env=(false,eval (.Call (.Name "set" p2) [a] [] pos2) X.env)::l_ [] X.env:=by rfl)(he2:l_ [a] X.env=(false,eval a X.env)::l_ [] X.env:=by rfl):PE X (.Call (.Name "len" p) [.Call (.Name "set" p2) [a] [] pos2] [] pos) (oP (sI X) t):=by
 intro pz s σ H Q I h;have hh:=I.ok.hd hc;refine RZ (kg I hg hm boot_len ?_ (by decide) (by decide));refine Tp ?_ he rfl;rw[he];show D_ _ _ (spliced ((false,eval (.Call (.Name "set" p2) [a] [] pos2) X.env)::backTo pos (l_ [] X.env))) _ _ s;refine VN (aL (Q:=fun u s1=>∃(S:Addr)(bks:List (Addr×List Int))(H1:Hp),u=.ref S/\Inv X pz σ H1 s1/\HT.SX s1.heap S bks/\bks.length<=76/\Q (.int bks.length) H1) ?_ ?_)
 .refine RZ (kg I hg2 hm2 boot_set ?_ (by decide) (by decide));refine QK (aL (ha pos2 pz s σ H _ I h) fun us s1 ⟨vs,H1,I1,r1,q1⟩=>?_) he2 rfl;obtain⟨b,bks,rfl,hq,hT,hnd,h76,q⟩:=q1;obtain⟨u,rfl,rx⟩:=L2.bI r1;cases rx;obtain⟨its,rv,pl,hz⟩:=I1.list hq;have ei:=CJ rv;subst ei;have sz:(bks.map fun x=>Value.ref x.1).toArray.size=bks.length:=by simp
  have at_:∀i (hi:i<bks.length),(bks.getD i default)=bks[i]:=fun i hi=>by rw[E_,i_ hi];rfl
  refine HT.gY (bs:=fun i=>(bks.getD i default).1) (kk:=fun i=>(bks.getD i default).2) hh hu pl.isList (fun i v e=>?_) (fun i hi=>?_) (fun i j hi hj hij=>?_) (by rw[sz];exact h76) fun h' tk hS kp=>?_
  .rw[Vi,n_]at e;cases z:bks[i]? with
  |none=>rw[z]at e;cases e
  |some x=>rw[z]at e;cases e;rw[E_,z];rfl
  .rw[sz]at hi;rw[at_ i hi];obtain⟨its,r',pl',_⟩:=I1.tuple (hT bks[i] (Qc hi));obtain⟨o,h1,h2,n,h3⟩:=(show s1.heap.IsTuple bks[i].1 its.toArray from pl')
   exact⟨o,its.toArray,n,h1,h2,h3,by simpa using CQ r'⟩
  .rw[sz]at hi hj;rw[at_ i hi,at_ j hj];intro z;refine hij ((UF (xs:=bks.map fun x=>x.2) (h₀:=by simpa using hi) (h₁:=by simpa using hj) hnd).mp ?_);rw[UK,UK];exact z
  .obtain⟨bks',hl,hS'⟩:=hS;rw[sz]at hl;exact⟨_,bks',H1,rfl,I1.kept kp,hS',by omega,by rw[hl];exact q⟩
 .rintro u s1 ⟨S,bks,H1,rfl,I1,hS,h76,q⟩
  refine V_ ?_;obtain⟨es,ep,t,X0,M⟩:=hS;refine call_len_set X0.at_ ⟨rfl,rfl,rfl⟩ rfl (X0.fits M.m3.2) ?_ ⟨.int bks.length,H1,I1.tok _,⟨_,by rw[X0.size]⟩,q⟩;rw[X0.size];have h4:(bks.length:Int)<=76:=by omega
  exact Int.lt_of_le_of_lt h4 (by decide)
def jo:List D->Option (List (List Int))
|[]=>some []
|.tup ks::ds=>(eY ks).bind fun ns=>(jo ds).map (ns::·)
|_=>none
def pG:List D->Option D
|[.lst ds]=>(jo ds).bind fun nss=>if nss.Nodup/\nss.length<=76 then some (.int nss.length)else none
|_=>none
theorem Cr{K:W.Frag}{G:GH}{H:Hp}(gk:aM K G H):∀{ds:List D}{xs:List V}{nss:List (List Int)},bA K G xs ds->jo ds=some nss->∃bks:List (Addr×List Int),xs=(bks.map fun x=>V.ref x.1)/\bks.map (·.2)=nss/\∀x∈bks,bO K H x.1 (x.2.map V.int)
|[],_,_,r,e=>by cases r;cases e;exact⟨[],rfl,rfl,fun _ h=>(nomatch h)⟩
|d::ds,_,nss,r,e=>by cases r with
 |@cons x _ xs _ r1 t=>
  unfold jo at e;split at e
  .rename_i q;cases q
  .rename_i ks ds' q;cases q;cases ek:eY ks with
  |none=>rw[ek]at e;cases e
  |some ns=>rw[ek]at e;cases et:jo ds with
   |none=>rw[et]at e;cases e
   |some nss'=>
     rw[et]at e;cases e;obtain⟨bks,h1,h2,h3⟩:=Cr gk t et;obtain⟨b,zs,rfl,hs,rs⟩:=r1.tup gk;have ez:=vK gk rs ek;subst ez;refine⟨(b,ns)::bks,by rw[h1];rfl,by rw[<-h2];rfl,fun y hy=>?_⟩;rcases q_.mp hy with rfl|hy
     .exact hs
     .exact h3 y hy
  .cases e
theorem NG(hc:X.calm=true)(hu:X.A.units+64<Rt)(hg:Gl X "len")(hm:X.mg "len" = none)(hg2:Gl X "set")(hm2:X.mg "set" = none)(ha:g6 X g m [a] fl)(he:l_ [.Call (.Name "set" p2) [a] [] pos2] X.env=(false,eval (.Call (.Name "set" p2) [a] [] pos2) X.env)::l_ [] X.env:=by rfl)(he2:l_ [a] X.env=(false,eval a X.env)::l_ [] X.env:=by rfl):SE X g m (.Call (.Name "len" p) [.Call (.Name "set" p2) [a] [] pos2] [] pos) (fC fl pG):=by
 refine gP (R:=sI X) ?_ (NP hc hu hg hm hg2 hm2 ha he he2);intro G H vs ds d Q gk rs e q;unfold pG at e;split at e
 .rename_i zs;cases ek:jo zs with
 |none=>rw[ek]at e;cases e
 |some nss=>
   rw[ek]at e;have e':(if nss.Nodup/\nss.length<=76 then some (D.int nss.length)else none)=some d:=e;split at e'
   .rename_i hn;cases e';cases rs with
   |cons r1 t=>
    cases t;have core:∀{b:Addr}{xs:List V},aV X.K H b xs->bA X.K G xs zs->sI X [.ref b] H Q:=fun{b xs} hs r2=>by
     obtain⟨bks,h1,h2,h3⟩:=Cr gk r2 ek;subst h1;have hl:bks.length=nss.length:=by rw[<-h2,m_]
     exact⟨b,bks,rfl,hs,h3,by rw[h2];exact hn.1,by rw[hl];exact hn.2,by rw[hl];exact q _ G H (Grow.refl gk) (.scl (.int _))⟩
    obtain⟨b,xs,rfl,hs,r2⟩:=r1.lst gk;exact core hs r2
   .cases e'
 .cases e
end
end DL
namespace DL
open PySem PySem.Spec PyProof.Rows L2 PySem.W PySem.Calls
def yx(K:W.Frag)(nm:Str)(c:Addr):Bool:=K.all fun e=>match e.2.data with
|.cls cd=>cd.name != nm || e.1==c
|_=>true
structure CF(K:W.Frag)(nm:Str)(c:Addr)(bm:List b_):Prop where
 xa:XA K c bm
 xn:XN K nm c
 un:yx K nm c=true
theorem CF.eq{K:W.Frag}{nm:Str}{c C:Addr}{bm:List b_}(f:CF K nm c bm)(h:XN K nm C):C=c:=XN.uniq h f.un
end DL
namespace DL
open PySem PySem.Spec PyProof.Rows L2 PySem.W PySem.Calls PySem.Builtin PySem.Builtin.Str
end DL
section
namespace L2
open PySem PySem.Spec PyProof.Rows
theorem cX{sc:R9}{x:Str}(h:(match sc.names.lookup x with|some .local=>true|some .cell=>true|_=>false)=true):io sc x:=by
 revert h;unfold io;split <;> intro h
 .exact .inl (by assumption)
 .exact .inr (by assumption)
 .cases h
theorem bj{N P:List Str}{sc:R9}(h:(decide (sc.kind=.function) && ! sc.isCoroutine && ! sc.isGenerator&&decide N.Nodup&&decide (N.take P.length=P)&&(P.all fun x=>match sc.names.lookup x with|some .local=>true|some .cell=>true|_=>false)&&sc.names.all fun y=>decide (y.2≠.free))=true:=by decide+kernel):FnScope N P sc:=by simp only[PR,decide_eq_true_eq,Bool.not_eq_true',Qs]at h;obtain⟨⟨⟨⟨⟨⟨a,b⟩,c⟩,d⟩,e⟩,f⟩,k⟩:=h;exact⟨a,b,c,d,e,fun x hx=>cX (f x hx),k⟩
end L2
namespace DL
open PySem PySem.Spec PyProof.Rows L2
section
variable{X:Cx}{g:GE}{m mb ms:List Md}{e a b:Expr}{es:List Expr}{f fa fb:FE}{x:Str}{p pos pos':Pos}{ro:Bool}{fl:ak->Res (List D)}{k:Nat}{ps:List Str}{F:List D->Res D}
theorem bE(h:SE X g m e f):SB X g m e f:=SE.toB h
theorem iB{i:Int}{j:Nat}:SB X g m (.Constant (.int i) j pos) fun _=>.ok (.int i):=bE ia
theorem xB(hu:X.A.units+1<Rt)(ha:SB X g m a fa)(hb:SB X g m b fb)(hs:uH b:=by intro _ _;rfl):SB X g m (.Subscript a b pos) (f2 fa fb aC):=bE (eM hu ha hb hs)
theorem bz(i:Nat)(hN:X.N.Nodup)(he:SE X g m e f)(hi:X.N[i]? = some x:=by rfl)(hx:io X.env.scope x:=by exact cX rfl)(hs:Tl e (some (.Name x pos')) pos.line X.env=pure false:=by rfl)(hf:X.fn x=true\/X.env.scope.names.lookup x=some .local:=by first|exact .inl rfl|exact .inr rfl|assumption):SS X g ro mb m (.Assign [.Name x pos'] e pos) (ap m i f) (m.set i .sh):=F0 i hN hi hx he hs hf
theorem aZ(i:Nat)(hN:X.N.Nodup)(hi:X.N[i]? = some x:=by rfl)(hx:io X.env.scope x:=by exact cX rfl)(hf:X.fn x=true\/X.env.scope.names.lookup x=some .local:=by first|exact .inl rfl|exact .inr rfl|assumption):SG X g m (.Name x pos) (az i) (m.set i .sh):=GU i hN hi hx hf
theorem aK(c:Callee X.prog X.w X.K X.mg X.base x ps [] k false ms F)(ha:jg X g m (e::es) ms fl)(hr:Room k X.A:=by exact Room.mono ‹_› (by decide))(hg:Gl X x:=by rfl)(hdb:(x==("__debug__" : Str))=false:=by decide)(he:l_ (e::es) X.env=(false,eval e X.env)::l_ es X.env:=by rfl)(hpl:(backTo pos (l_ es X.env)).any (·.1)=false:=by rfl):SE X g m (.Call (.Name x p) (e::es) [] pos) (aA fl [] F):=Hk (dds:=[]) c hr ha (by simp) hg .nil .nil hdb he hpl
end
theorem bH{P:B_}{w:PP}{K:W.Frag}{mg:Str->Option b_}{base:Heap}{x:Str}{st:Stmt}{N ps:List Str}{k:Nat}{ro:Bool}{ms:List Md}{fs:FS}{m':List Md}(A:DefAt K mg x st)(S:FnScope N ps (ax st))(hbody:∀(f:Addr)(cdv:b_)(A:P8)(outer:List Env)(s:h_)(H:Hp)(g:GE)(E:XK),Room k (A.deeper (S0 x (ax st) s.heap.objs.size f cdv))->(A.deeper (S0 x (ax st) s.heap.objs.size f cdv)).units+1<Rt ->fR (aW bN P w K mg base N x (ax st) f cdv A outer s H E).nox g ro [] (dU N.length ms) (d7 st) fs m')(hms:ms.length=ps.length:=by rfl)(hb:∀(kV doc pm:b_)(an:Option Addr)(cdv ct:b_)(us:List b_),us.length=ps.length->UH (W.fnOf x x (gM st) (d7 st) (ax st) .none kV doc pm an cdv ct) ⟨us,[]⟩=pure (ps.zip us):=by intro _ _ _ _ _ _ us hl;rcases us with _|⟨_,_|⟨_,_|⟨_,_|⟨_,_|⟨_,_|⟨_,_⟩⟩⟩⟩⟩⟩ <;> first|(exfalso;revert hl;simp;done)|kernel_rfl):Callee P w K mg base x ps [] (k+1) ro ms fun ds=>ay ro (fs (aN N.length ds)):=Ih A S hms hb fun f cdv A outer s H g E hr=>hbody f cdv A outer s H g E hr (ng hr)
end DL
end
section
namespace Rg
theorem jt{α:Type}[DecidableEq α]:∀{l m:List α},l.Nodup->(∀x∈l,x∈m)->l.length<=m.length
|[],_,_,_=>Qa _
|a::l,m,hn,hs=>by
  have hn':=PZ.mp hn;have h1:=jt (l:=l) (m:=m.erase a) hn'.2 fun x hx=>by
   have hxa:x≠a:=by rintro rfl;exact hn'.1 hx
   exact(TK hxa).mpr (hs x (f_ _ hx))
  have ha:a∈m:=hs a g_;rw[Q9 ha]at h1;have:=U4 ha;simp only[C_];omega
structure S where
 line:List Nat
 things:List Nat
section
variable(W:Nat->List Nat)(O:Nat->Option Nat)
def best(row things:List Nat):Nat:=(row.find? fun x=>decide (x∈things)).getD 0
def yz(s:S)(h:Nat):Nat:=best (W h) s.things
def pt(s:S)(x:Nat):Nat:=(s.line.find? fun h=>decide (O h=some x)).getD (s.line.headD 0)
def o7(s:S)(h:Nat):Nat:=pt O s (yz W s h)
def minus(s:S)(C:List Nat):S:=⟨s.line.filter fun h=>decide (h∉C),s.things.filter fun x=>decide (x∉C.map (yz W s))⟩
def it{α:Type}(f:α->α):Nat->α->α
|0,x=>x
|n+1,x=>it f n (f x)
structure Ok(s:S):Prop where
 nl:s.line.Nodup
 nt:s.things.Nodup
 le:s.line.length<=s.things.length
 row:∀h∈s.line,∀x∈s.things,x∈W h
 inj:∀h k x,O h=some x->O k=some x->h=k
 own:∀h∈s.line,∀x,O h=some x->x∈s.things
structure Cyc(s:S)(C:List Nat):Prop where
 sub:∀h∈C,h∈s.line
 cl:∀h∈C,o7 W O s h∈C
 per:∀h∈C,∃k,it (o7 W O s) (k+1) h=h
variable{W O}
theorem tN{row things:List Nat}(h:∃x∈row,x∈things):best row things∈things:=by unfold best;cases e:row.find? fun x=>decide (x∈things)with
|none=>obtain⟨x,h1,h2⟩:=h;have:=VW.mp e x h1;simp[h2]at this
|some x=>have:=WK e;simpa using this
variable{s:S}
theorem Cyc.it_mem{C:List Nat}(c:Cyc W O s C){h:Nat}(hh:h∈C):∀n,it (o7 W O s) n h∈C:=by
 intro n
 induction n generalizing h with
|zero=>exact hh
|succ n ih=>exact ih (c.cl h hh)
theorem Cyc.out{C E:List Nat}(c:Cyc W O s C)(e:Cyc W O s E){h:Nat}(hc:h∈C)(he:h∉E):o7 W O s h∉E:=by intro z;obtain⟨k,hk⟩:=c.per h hc;exact he (by rw[<-hk];exact e.it_mem z k)
def less(E C:List Nat):List Nat:=E.filter fun h=>decide (h∉C)
inductive TTC(W:Nat->List Nat)(O:Nat->Option Nat)(a:Nat->Nat):S->Prop where
 |nil {s:S}:s.line=[]->TTC W O a s
 |step {s:S} (C:List Nat):Cyc W O s C->(∀h∈C,a h=yz W s h)->TTC W O a (minus W s C)->TTC W O a s
end
end Rg
end
section
namespace Rg
section
variable{W:Nat->List Nat}{O:Nat->Option Nat}{s:S}{a:Nat->Nat}
theorem least{P:Nat->Prop}:(∃n,P n)->∃n,P n/\∀k,k<n->¬ P k:=by
 rintro⟨n,hn⟩
 induction n using WL with
|_ n ih=>
  by_cases h:∃k,k<n/\P k
  .obtain⟨k,h1,h2⟩:=h;exact ih k h1 h2
  .exact⟨n,hn,fun k hk hp=>h ⟨k,hk,hp⟩⟩
def Ai(f:Nat->Nat)(n first:Nat):Nat->List Nat->Nat->Option (List Nat)
|0,_,_=>none
|k+1,ring,hand=>if first<hand/\ring.length<n then Ai f n first k (ring++[hand]) (f hand)else if hand=first then some ring else none
def JA(f:Nat->Nat)(n first:Nat):Option (List Nat):=Ai f n first (n+1) [first] (f first)
def orb(f:Nat->Nat)(x n:Nat):List Nat:=(a_ n).map fun i=>it f i x
theorem orb_len(f:Nat->Nat)(x n:Nat):(orb f x n).length=n:=by simp[orb]
def JB(W:Nat->List Nat)(O:Nat->Option Nat)(s:S):List (List Nat):=s.line.filterMap fun h=>JA (o7 W O s) s.line.length h
def gone(W:Nat->List Nat)(O:Nat->Option Nat)(s:S):List Nat:=(JB W O s).flatten
end
end Rg
end
section
namespace Rg
end Rg
end
section
namespace Rg
section
variable(W:Nat->List Nat)(d:Nat->Nat)
def lO:List Nat->List Nat->Prop
|[],_=>True
|h::l,T=>best (W h) T=d h/\lO l (T.erase (d h))
def gO:List Nat->List Nat->Nat->Nat
|[],_=>fun _=>0
|h::l,T=>fun x=>if x=h then best (W h) T else gO l (T.erase (best (W h) T)) x
variable{W d}
theorem DO{d':Nat->Nat}:∀{o T:List Nat},(∀x∈o,d x=d' x)->lO W d o T->lO W d' o T
|[],_,_,_=>trivial
|h::l,T,e,s=>by have e1:=e h g_;exact⟨by rw[<-e1];exact s.1,by rw[<-e1];exact DO (fun x hx=>e x (f_ _ hx)) s.2⟩
theorem sr:∀(o T:List Nat),o.Nodup->lO W (gO W o T) o T
|[],_,_=>trivial
|h::l,T,hn=>by
  have hn':=PZ.mp hn;have e:gO W (h::l) T h=best (W h) T:=by simp[gO]
  refine⟨e.symm,?_⟩;rw[e];refine DO (fun x hx=>?_) (sr l _ hn'.2);have:x≠h:=by rintro rfl;exact hn'.1 hx
  simp[gO,this]
theorem AU:∀{o T:List Nat},lO W d o T->T.Nodup->o.length<=T.length->(∀h∈o,∀x∈T,x∈W h)->(∀h∈o,d h∈T)/\∀h∈o,∀l∈o,o.Nodup->d h=d l->h=l
|[],_,_,_,_,_=>⟨fun _ h=>(nomatch h),fun _ h=>(nomatch h)⟩
|a::o,T,s,hT,hl,hr=>by
  have hp:0<T.length:=by simp at hl;omega
  have hx:T[0]∈T:=Qc _;have hb:d a∈T:=by rw[<-s.1];exact tN ⟨T[0],hr a g_ _ hx,hx⟩
  have hlen:(T.erase (d a)).length=T.length-1:=Q9 hb;obtain⟨h1,h2⟩:=AU s.2 (hT.erase _) (by rw[hlen];simp at hl;omega) fun h hh x hx=>hr h (f_ _ hh) x (Tj hx);have h3:∀h∈o,d h≠d a:=fun h hh e=>by have:=h1 h hh;rw[e]at this;exact(List.Nodup.mem_erase_iff hT).mp this |>.1 rfl
  refine⟨fun h hh=>?_,fun h hh l hl' hn e=>?_⟩
  .rcases q_.mp hh with rfl|hh
   .exact hb
   .exact Tj (h1 h hh)
  .have hn':=PZ.mp hn;rcases q_.mp hh with z|hh'
   .rcases q_.mp hl' with z'|hl''
    .exact z.trans z'.symm
    .subst z;exact absurd e.symm (h3 l hl'')
   .rcases q_.mp hl' with z'|hl''
    .subst z';exact absurd e (h3 h hh')
    .exact h2 h hh' l hl'' hn'.2 e
end
end Rg
end
section
namespace Fq
theorem CP(a:Int)(b:Nat):QH a b=QH b (a%(b:Int)):=by
 refine Ww (Yi (Ri _ _) ?_) (Yi ?_ (Tr _ _))
 .rw[Int.emod_def];exact Int.dvd_sub (Tr _ _) (XM (Ri a b) (Wi _ _))
 .have h:=Int.mul_ediv_add_emod a b;rw[<-h];exact Int.dvd_add (XM (Tr (b:Int) _) (Wi _ _)) (by rw[h];exact Ri _ _)
theorem qo(t:Int){b:Nat}(h:0<b):0<QH t b:=V2 fun z=>by have:=Int.gcd_eq_zero_iff.mp z;omega
def low(t:Int)(b:Nat):Int×Nat:=(t/(QH t b:Int),b/QH t b)
def kM(a b:Int×Nat):Int×Nat:=low (a.1*b.2+b.1*a.2) (a.2*b.2)
def Same(a b:Int×Nat):Prop:=a.1*(b.2:Int)=b.1*(a.2:Int)
theorem tV(t:Int){b:Nat}(h:0<b):QH (low t b).1 ((low t b).2:Nat)=1:=by have:=Int.gcd_ediv_gcd_ediv_gcd (qo t h);unfold low;rw[UO];exact this
theorem fL(t:Int){b:Nat}(h:0<b):0<(low t b).2:=by have h1:QH t b∣b:=SN.mp (Ri t b);exact Nat.div_pos (VI h h1) (qo t h)
theorem Bo(t:Int)(b:Nat):(low t b).2<=b:=Vd _ _
theorem Kj(t:Int)(b:Nat):(low t b).1.natAbs<=t.natAbs:=Int.natAbs_ediv_le_natAbs _ _
theorem fY(t:Int)(b:Nat):Same (low t b) (t,b):=by
 unfold Same low;have h1:(QH t b:Int)∣t:=Tr t b;have h2:(QH t b:Int)∣(b:Int):=Ri t b;obtain⟨x,hx⟩:=h1;obtain⟨y,hy⟩:=h2;generalize hg:(QH t b:Int)=g at hx hy;show t/g*(b:Int)=t*((b/QH t b:Nat):Int);rw[UO,hg];by_cases z:g=0
 .subst z;rw[Int.zero_mul]at hx hy;rw[hx,hy];simp
 .rw[hx,hy,UC _ z,UC _ z];rw[<-z_,PF x g]
structure Bd(k:Nat)(a:Int×Nat):Prop where
 pos:0<a.2
 bot:a.2<2^k
 top:a.1.natAbs<2^k
theorem Bd.mono{k l:Nat}{a:Int×Nat}(h:Bd k a)(hl:k<=l):Bd l a:=⟨h.pos,G_ h.bot (Sa (by omega) hl),G_ h.top (Sa (by omega) hl)⟩
theorem Bd.low{k:Nat}{t:Int}{b:Nat}(h:0<b)(h1:b<2^k)(h2:t.natAbs<2^k):Bd k (low t b):=⟨fL t h,Q3 (Bo t b) h1,Q3 (Kj t b) h2⟩
theorem xp{a b k l:Nat}(h1:a<2^k)(h2:b<2^l):a*b<2^(k+l):=by rw[Nat.pow_add];exact Nat.mul_lt_mul'' h1 h2
theorem jD{k l:Nat}{a b:Int×Nat}(ha:Bd k a)(hb:Bd l b):0<a.2*b.2/\a.2*b.2<2^(k+l):=⟨Qp ha.pos hb.pos,xp ha.bot hb.bot⟩
theorem Lx{k l:Nat}{a b:Int×Nat}(ha:Bd k a)(hb:Bd l b):(a.1*b.2+b.1*a.2).natAbs<2^(k+l+1):=by
 have h1:(a.1*(b.2:Int)).natAbs<2^(k+l):=by rw[Um,J_];exact xp ha.top hb.bot
 have h2:(b.1*(a.2:Int)).natAbs<2^(k+l):=by rw[Um,J_,X6 k l];exact xp hb.top ha.bot
 have h3:=Int.natAbs_add_le (a.1*(b.2:Int)) (b.1*(a.2:Int));rw[Td];omega
theorem Bd.plus{k l:Nat}{a b:Int×Nat}(ha:Bd k a)(hb:Bd l b):Bd (k+l+1) (kM a b):=by obtain⟨h1,h2⟩:=jD ha hb;exact Bd.low h1 (G_ h2 (Sa (by omega) (by omega))) (Lx ha hb)
def l6(a b:Int×Nat):Bool:=decide (a.1*(b.2:Int)<b.1*(a.2:Int))
end Fq
end
section
namespace Rg
theorem At{α:Type}(f:α->Nat)(os:List α):∀P:List Nat,P.Nodup->(P.map fun t=>os.countP fun o=>decide (f o=t)).sum=os.countP fun o=>decide (f o∈P)
|[],_=>by simp
|t::P,hn=>by
  have hn':=PZ.mp hn;rw[p_,PL,At f os P hn'.2];clear hn
  induction os with
 |nil=>rfl
 |cons o os ih=>
   rw[Si,Si,Si,<-ih];by_cases h1:f o=t
   .have h2:f o∉P:=by rw[h1];exact hn'.1
    simp[h1,hn'.1];omega
   .by_cases h2:f o∈P
    .simp[h1,h2];omega
    .simp[h1,h2]
end Rg
namespace Fq
def W(N:Nat)(a:Int×Nat)(S:Nat):Prop:=0<a.2/\a.1*(N:Int)=(S:Int)*(a.2:Int)
theorem W.low{N c:Nat}(hN:0<N):W N (low c N) c:=by have:=fY (c:Int) N;exact⟨fL _ hN,this⟩
theorem W.plus{N S c:Nat}{a b:Int×Nat}(ha:W N a S)(hb:W N b c):W N (kM a b) (S+c):=by
 have hp:0<a.2*b.2:=Qp ha.1 hb.1;refine⟨fL _ hp,?_⟩;have h:=fY (a.1*(b.2:Int)+b.1*(a.2:Int)) (a.2*b.2);unfold Same at h;unfold kM;generalize Fq.low (a.1*(b.2:Int)+b.1*(a.2:Int)) (a.2*b.2)=p at h ⊢;have h1:=ha.2;have h2:=hb.2;have hq:((a.2*b.2:Nat):Int)≠0:=by omega
 refine QU hq ?_;have e1:p.1*(N:Int)*((a.2*b.2:Nat):Int)=(p.1*((a.2*b.2:Nat):Int))*(N:Int):=by rw[z_,PF (N:Int),<-z_]
 rw[e1,h];show(a.1*(b.2:Int)+b.1*(a.2:Int))*(p.2:Int)*(N:Int)=(((S+c:Nat):Int))*(p.2:Int)*((a.2*b.2:Nat):Int);have e2:(a.1*(b.2:Int)+b.1*(a.2:Int))*(p.2:Int)*(N:Int)=((a.1*(N:Int))*(b.2:Int)+(b.1*(N:Int))*(a.2:Int))*(p.2:Int):=by
  rw[Sb,Sb,Sb];congr 1
  .simp only[z_,PF,H_]
  .simp only[z_,PF,H_]
 rw[e2,h1,h2,R4,K_];simp only[Sb];congr 1 <;> simp only[z_,PF,H_]
theorem W.ge{N S S':Nat}{a b:Int×Nat}(hN:0<N)(ha:W N a S)(hb:W N b S')(h:S'<=S):l6 a b=false:=by
 refine decide_eq_false fun hlt=>?_;have h1:=QL hlt (show(0:Int)<(N:Int)by omega);have e1:a.1*(b.2:Int)*(N:Int)=(S:Int)*((a.2:Int)*(b.2:Int)):=by rw[z_,PF (b.2:Int),<-z_,ha.2,z_]
 have e2:b.1*(a.2:Int)*(N:Int)=(S':Int)*((a.2:Int)*(b.2:Int)):=by rw[z_,PF (a.2:Int),<-z_,hb.2,z_,PF (b.2:Int)]
 rw[e1,e2]at h1;have hp:(0:Int)<=(a.2:Int)*(b.2:Int):=by rw[<-K_];exact R1 _
 have:=QV h1 hp;omega
end Fq
end
section
namespace Fq
theorem ik{t u:Int}{b d:Nat}(hb:0<b)(hd:0<d)(h:t*(d:Int)=u*(b:Int)):low t b=low u d:=by
 have s1:(low t b).1*(b:Int)=t*((low t b).2:Int):=fY t b;have s2:(low u d).1*(d:Int)=u*((low u d).2:Int):=fY u d;have c1:=tV t hb;have c2:=tV u hd;have p1:=fL t hb;have p2:=fL u hd;generalize low t b=p at *;generalize low u d=q at *;have hx:p.1*(q.2:Int)=q.1*(p.2:Int):=by
  have hne:((b*d:Nat):Int)≠0:=by have:=Qp hb hd;omega
  refine QU hne ?_;rw[K_];have e1:p.1*(q.2:Int)*((b:Int)*(d:Int))=(p.1*(b:Int))*((d:Int)*(q.2:Int)):=by simp only[z_,PF,H_]
  have e2:q.1*(p.2:Int)*((b:Int)*(d:Int))=(q.1*(d:Int))*((b:Int)*(p.2:Int)):=by simp only[z_,PF,H_]
  rw[e1,e2,s1,s2];have e3:t*(p.2:Int)*((d:Int)*(q.2:Int))=(t*(d:Int))*((p.2:Int)*(q.2:Int)):=by simp only[z_,PF,H_]
  have e4:u*(q.2:Int)*((b:Int)*(p.2:Int))=(u*(b:Int))*((p.2:Int)*(q.2:Int)):=by simp only[z_,PF,H_]
  rw[e3,e4,h]
 have hab:p.1.natAbs*q.2=q.1.natAbs*p.2:=by have:=congrArg Int.natAbs hx;rw[Um,Um,J_,J_]at this;exact this
 have k1:Yj p.2 p.1.natAbs:=by have:Nat.gcd p.1.natAbs p.2=1:=c1;rw[Yb]at this;exact this
 have k2:Yj q.2 q.1.natAbs:=by have:Nat.gcd q.1.natAbs q.2=1:=c2;rw[Yb]at this;exact this
 have d1:p.2∣q.2:=k1.dvd_of_dvd_mul_left (by rw[hab];exact Ts _ _);have d2:q.2∣p.2:=k2.dvd_of_dvd_mul_left (by rw[<-hab];exact Ts _ _);have e:p.2=q.2:=Ww d1 d2;have e':p.1=q.1:=by rw[e]at hx;exact QU (by omega) hx
 exact Wa e' e
def DD:Nat:=420^7
theorem bM:0<DD:=by decide
theorem zI:DD<2^61:=by decide
def Qd(z:Int):Int×Nat:=low z DD
theorem i7(z:Int):(Qd z).1*(DD:Int)=z*((Qd z).2:Int):=fY z DD
theorem jy(z:Int):0<(Qd z).2:=fL z bM
theorem Kn(a b:Int):kM (Qd a) (Qd b)=Qd (a+b):=by
 have h1:=i7 a;have h2:=i7 b;refine ik (Qp (jy a) (jy b)) bM ?_;rw[K_,Sb,Sb];have e1:(Qd a).1*((Qd b).2:Int)*(DD:Int)=((Qd a).1*(DD:Int))*((Qd b).2:Int):=by simp only[z_,PF,H_]
 have e2:(Qd b).1*((Qd a).2:Int)*(DD:Int)=((Qd b).1*(DD:Int))*((Qd a).2:Int):=by simp only[z_,PF,H_]
 rw[e1,e2,h1,h2];simp only[z_,PF,H_]
def tf(a b:Int×Nat):Int×Nat:=low (a.1*b.2-b.1*a.2) (a.2*b.2)
theorem K5(a b:Int):tf (Qd a) (Qd b)=Qd (a-b):=by
 have h1:=i7 a;have h2:=i7 b;refine ik (Qp (jy a) (jy b)) bM ?_;rw[K_,Vx,Vx];have e1:(Qd a).1*((Qd b).2:Int)*(DD:Int)=((Qd a).1*(DD:Int))*((Qd b).2:Int):=by simp only[z_,PF,H_]
 have e2:(Qd b).1*((Qd a).2:Int)*(DD:Int)=((Qd b).1*(DD:Int))*((Qd a).2:Int):=by simp only[z_,PF,H_]
 rw[e1,e2,h1,h2];simp only[z_,PF,H_]
def tu(a b:Int×Nat):Int×Nat:=low (a.1*b.1) (a.2*b.2)
theorem K6(c:Int)(a:Int):tu (c,1) (Qd a)=Qd (c*a):=by have h1:=i7 a;refine ik (Qp (show 0<((c:Int),1).2 from Nat.one_pos) (jy a)) bM ?_;show c*(Qd a).1*(DD:Int)=c*a*((1*(Qd a).2:Nat):Int);rw[Nat.one_mul,z_,h1,z_]
theorem Hg{c:Nat}{a:Nat}(hc:0<c)(h:c∣a):tu (Qd a) (1,c)=Qd ((a/c:Nat):Int):=by have h1:=i7 (a:Int);refine ik (Qp (jy _) hc) bM ?_;show(Qd (a:Int)).1*1*(DD:Int)=((a/c:Nat):Int)*(((Qd (a:Int)).2*c:Nat):Int);obtain⟨k,rfl⟩:=h;rw[UP k hc,Yd,h1,K_,K_];simp only[z_,PF,H_]
theorem Km(a b:Int):l6 (Qd a) (Qd b)=decide (a<b):=by
 have h1:=i7 a;have h2:=i7 b;have p1:=jy a;have p2:=jy b;have hp:(0:Int)<((Qd a).2:Int)*((Qd b).2:Int):=by rw[<-K_];have:=Qp p1 p2;omega
 have hD:(0:Int)<(DD:Int):=by have:=bM;omega
 unfold l6;rw[P6,decide_eq_true_iff,decide_eq_true_iff];have e1:(Qd a).1*((Qd b).2:Int)*(DD:Int)=a*(((Qd a).2:Int)*((Qd b).2:Int)):=by rw[z_,PF ((Qd b).2:Int),<-z_,h1,z_]
 have e2:(Qd b).1*((Qd a).2:Int)*(DD:Int)=b*(((Qd a).2:Int)*((Qd b).2:Int)):=by rw[z_,PF ((Qd a).2:Int),<-z_,h2,z_,PF ((Qd b).2:Int)]
 constructor
 .intro h;have:=QL h hD;rw[e1,e2]at this;exact QV this (U6 hp)
 .intro h;have:=QL h hp;rw[<-e1,<-e2]at this;exact QV this (U6 hD)
theorem Hh{a b:Int}(h:Qd a=Qd b):a=b:=by have h1:=i7 a;have h2:=i7 b;rw[h]at h1;have:=jy b;exact QU (show((Qd b).2:Int)≠0 by omega) (h1.symm.trans h2)
theorem iM(t:Int):low t 1=(t,1):=by
 unfold low;have:QH t (1:Nat)=1:=by show QH t 1=1;simp
 rw[this];simp
theorem Gw(c:Nat):low 1 c=(1,c):=by
 unfold low;have:QH 1 (c:Nat)=1:=by simp
 rw[this];simp
theorem j3:Qd 0=(0,1):=by rw[<-iM 0];exact ik bM (by decide) (by simp)
theorem zr:Qd (DD:Int)=(1,1):=by rw[<-iM 1];exact ik bM (by decide) (by simp)
theorem j8{a:Nat}(h:a<=DD):Bd 61 (Qd (a:Int)):=Bd.low bM zI (by rw[J_];have:=zI;omega)
end Fq
namespace Et
open Rg
def cm:List Nat->Nat
|[]=>0
|x::l=>l.foldl (fun m y=>if y<m then y else m) x
theorem uQ:∀(l:List Nat)(m:Nat),l.foldl (fun m y=>if y<m then y else m) m<=m/\(∀y∈l,l.foldl (fun m y=>if y<m then y else m) m<=y)/\(l.foldl (fun m y=>if y<m then y else m) m=m\/l.foldl (fun m y=>if y<m then y else m) m∈l)
|[],m=>⟨u_ _,fun _ h=>(nomatch h),.inl rfl⟩
|y::l,m=>by
  rw[R3];obtain⟨h1,h2,h3⟩:=uQ l (if y<m then y else m);have hm:(if y<m then y else m)<=m/\(if y<m then y else m)<=y:=by split <;> omega
  refine⟨PQ h1 hm.1,fun z hz=>?_,?_⟩
  .rcases q_.mp hz with rfl|hz
   .exact PQ h1 hm.2
   .exact h2 z hz
  .rcases h3 with h3|h3
   .rw[h3];by_cases hy:y<m
    .rw[if_pos hy];exact .inr g_
    .rw[if_neg hy];exact .inl rfl
   .exact .inr (f_ _ h3)
theorem fu{l:List Nat}{y:Nat}(h:y∈l):cm l<=y:=by cases l with
|nil=>cases h
|cons x l=>
  obtain⟨h1,h2,_⟩:=uQ l x;rcases q_.mp h with rfl|h
  .exact h1
  .exact h2 y h
theorem dY{l:List Nat}(h:l≠[]):cm l∈l:=by cases l with
|nil=>exact absurd rfl h
|cons x l=>
  obtain⟨_,_,h3⟩:=uQ l x;rcases h3 with h3|h3
  .show l.foldl (fun m y=>if y<m then y else m) x∈_;rw[h3];exact g_
  .exact f_ _ h3
variable(W:Nat->List Nat)(n:Nat)
def tgs(T:List Nat):List Nat:=(a_ n).map fun h=>best (W h) T
def cW(T:List Nat)(a:Nat->Nat):Nat:=cm ((tgs W n T).map fun x=>a x/(tgs W n T).count x)
def cE(T:List Nat)(a:Nat->Nat)(x:Nat):Nat:=a x-(tgs W n T).count x*cW W n T a
def ck(T:List Nat)(a:Nat->Nat):List Nat:=T.filter fun x=>decide (cE W n T a x≠0)
def dz:Nat->List Nat->(Nat->Nat)->List (List Nat×Nat×List Nat)
|0,_,_=>[]
|k+1,T,a=>if T=[]then[]else(tgs W n T,cW W n T a,T.filter fun x=>decide (x∉ck W n T a))::dz k (ck W n T a) (cE W n T a)
structure Ok(T:List Nat)(a:Nat->Nat):Prop where
 nd:T.Nodup
 lt:∀x∈T,x<n
 pos:∀x∈T,0<a x
 dv:∀x∈T,420^T.length∣a x
variable{W n}
variable{T:List Nat}{a:Nat->Nat}
structure Rw(W:Nat->List Nat)(n:Nat):Prop where
 n1:1<=n
 n7:n<=7
 has:∀h x,h<n->x<n->x∈W h
theorem Bj(R:Rw W n)(S:Ok n T a)(hT:T≠[]){h:Nat}(hh:h<n):best (W h) T∈T:=by have hp:=Sr.mpr hT;exact tN ⟨T[0],R.has h _ hh (S.lt _ (Qc _)),Qc _⟩
theorem cG:(tgs W n T).length=n:=by unfold tgs;simp
theorem bV(R:Rw W n)(S:Ok n T a)(hT:T≠[]){x:Nat}(h:x∈tgs W n T):x∈T:=by obtain⟨k,hk,rfl⟩:=A_.mp h;exact Bj R S hT (r_.mp hk)
theorem Ay(x:Nat):(tgs W n T).count x<=n:=by have:=TQ (a:=x) (l:=tgs W n T);rw[cG]at this;exact this
theorem AA{c:Nat}(h1:1<=c)(h7:c<=7):c∣420:=by match c,h1,h7 with
|1,_,_=>decide
|2,_,_=>decide
|3,_,_=>decide
|4,_,_=>decide
|5,_,_=>decide
|6,_,_=>decide
|7,_,_=>decide
theorem eG(R:Rw W n)(S:Ok n T a)(hT:T≠[]){x:Nat}(hx:x∈tgs W n T):(tgs W n T).count x∣a x/\0<(tgs W n T).count x:=by
 have h1:0<(tgs W n T).count x:=V3.mpr hx;have h2:=Ay (W:=W) (n:=n) (T:=T) x;have hp:=Sr.mpr hT;have hd:=S.dv x (bV R S hT hx);obtain⟨k,hk⟩:∃k,T.length=k+1:=⟨T.length-1,by omega⟩
 rw[hk,Td]at hd;exact⟨TB (AA h1 (by have:=R.n7;omega)) (TB (Ts _ _) hd),h1⟩
theorem Jw(x:Nat)(hx:x∈tgs W n T):cW W n T a<=a x/(tgs W n T).count x:=fu (A_.mpr ⟨x,hx,rfl⟩)
theorem eh(x:Nat):(tgs W n T).count x*cW W n T a<=a x:=by
 by_cases hx:x∈tgs W n T
 .have h1:=Jw (a:=a) x hx;have h2:=Nat.mul_le_mul_left ((tgs W n T).count x) h1;exact PQ h2 (Nat.mul_div_le _ _)
 .rw[V4.mpr hx];simp
theorem gb(R:Rw W n):∃x∈tgs W n T,cW W n T a=a x/(tgs W n T).count x:=by
 have hne:(tgs W n T).map (fun x=>a x/(tgs W n T).count x)≠[]:=by intro e;have h1:=congrArg Q_ e;rw[m_,cG]at h1;have h2:=R.n1;rw[U_]at h1;omega
 obtain⟨x,h1,h2⟩:=A_.mp (dY hne);exact⟨x,h1,h2.symm⟩
theorem Jv(R:Rw W n)(S:Ok n T a)(hT:T≠[]):420^(T.length-1)∣cW W n T a:=by
 obtain⟨x,h1,h2⟩:=gb (T:=T) (a:=a) R;have hp:=Sr.mpr hT;have hd:=S.dv x (bV R S hT h1);obtain⟨hc,hc0⟩:=eG R S hT h1;have hc7:=AA (c:=(tgs W n T).count x) hc0 (by have:=Ay (W:=W) (n:=n) (T:=T) x;have:=R.n7;omega);obtain⟨k,hk⟩:∃k,T.length=k+1:=⟨T.length-1,by omega⟩
 rw[hk,Td]at hd;obtain⟨q,hq⟩:=hd;obtain⟨m,hm⟩:=hc7;rw[h2,hk,Nat.add_sub_cancel,hq];generalize(tgs W n T).count x=c at *;refine⟨m*q,?_⟩;rw[hm];have:420^k*(c*m)*q=c*(420^k*(m*q)):=by simp only[UD,Q8,Nat.mul_left_comm]
 rw[<-hm]at this ⊢;rw[hm]at this ⊢;rw[this,UP _ hc0]
theorem eB(R:Rw W n)(S:Ok n T a)(hT:T≠[]):(ck W n T a).length<T.length:=by
 obtain⟨x,h1,h2⟩:=gb (T:=T) (a:=a) R;obtain⟨hc,hc0⟩:=eG R S hT h1;have hx:=bV R S hT h1;have h0:cE W n T a x=0:=by unfold cE;rw[h2,Nat.mul_div_cancel' hc,U3]
 unfold ck;refine Nat.lt_of_le_of_ne (List.length_filter_le _ _) fun e=>?_;have:=List.length_filter_eq_length_iff.mp e x hx;simp[h0]at this
theorem Ok.next(R:Rw W n)(S:Ok n T a)(hT:T≠[]):Ok n (ck W n T a) (cE W n T a) where
 nd:=S.nd.sublist List.filter_sublist
 lt:=fun x hx=>S.lt x (QB.mp hx).1
 pos:=fun x hx=>V2 (by simpa using(QB.mp hx).2)
 dv:=fun x hx=>by have hx':=(QB.mp hx).1;have hlt:=eB R S hT;have h1:420^(T.length-1)∣a x:=TB (Ve 420 (by omega)) (S.dv x hx');have h2:420^(T.length-1)∣(tgs W n T).count x*cW W n T a:=TB (Jv R S hT) (Ts _ _);exact TB (Ve 420 (by omega)) (Nat.dvd_sub h1 h2)
def shr(ms:List (List Nat×Nat×List Nat))(h x:Nat):Nat:=(ms.map fun p=>if p.1.getD h 0=x then p.2.1 else 0).sum
def jI(ms:List (List Nat×Nat×List Nat)):Nat:=(ms.map fun p=>p.2.1).sum
theorem dq(p:List Nat×Nat×List Nat)(ms)(h x:Nat):shr (p::ms) h x=(if p.1.getD h 0=x then p.2.1 else 0)+shr ms h x:=by unfold shr;rw[p_,PL]
theorem cf(p:List Nat×Nat×List Nat)(ms):jI (p::ms)=p.2.1+jI ms:=by unfold jI;rw[p_,PL]
theorem qg{α:Type}(f g:α->Nat):∀l:List α,(l.map fun x=>f x+g x).sum=(l.map f).sum+(l.map g).sum
|[]=>rfl
|x::l=>by rw[p_,p_,p_,PL,PL,PL,qg f g l];omega
theorem Co(s:Nat)(p:Nat->Nat)(x:Nat):∀l:List Nat,(l.map fun h=>if p h=x then s else 0).sum=(l.map p).count x*s
|[]=>by simp
|h::l=>by
  rw[p_,PL,Co s p x l,p_,WM];by_cases e:p h=x
  .rw[if_pos e,if_pos (by simpa using e),SR];omega
  .rw[if_neg e,if_neg (by simpa using e),Te,QJ]
theorem sum_one(s y:Nat):∀l:List Nat,l.Nodup->(l.map fun x=>if y=x then s else 0).sum=if y∈l then s else 0
|[],_=>by simp
|x::l,hn=>by
  have hn':=PZ.mp hn;rw[p_,PL,sum_one s y l hn'.2];by_cases e:y=x
  .subst e;rw[if_pos rfl,if_neg hn'.1,if_pos g_];rfl
  .rw[if_neg e];by_cases hy:y∈l
   .rw[if_pos hy,if_pos (f_ _ hy)];omega
   .rw[if_neg hy,if_neg fun z=>(q_.mp z).elim e hy]
theorem Ag{h:Nat}(hh:h<n):(tgs W n T).getD h 0=best (W h) T:=by unfold tgs;rw[E_,n_,PM hh];rfl
theorem KQ:(a_ n).map (fun h=>(tgs W n T).getD h 0)=tgs W n T:=by unfold tgs;refine PY fun h hh=>?_;exact Ag (W:=W) (T:=T) (r_.mp hh)
theorem KN(ts:List Nat):∀T:List Nat,T.Nodup->(∀x∈ts,x∈T)->(T.map fun x=>ts.count x).sum=ts.length:=by
 intro T hn hs;have:=Rg.At id ts T hn;have e:(T.map fun x=>ts.count x)=T.map fun t=>ts.countP fun o=>decide (id o=t):=by refine PY fun x _=>?_;rw[List.count_eq_countP];refine List.countP_congr fun y _=>?_;simp
 rw[e,this];exact List.countP_eq_length.mpr fun y hy=>by simpa using hs y hy
theorem Cp(s:Nat)(f:Nat->Nat):∀l:List Nat,(l.map fun x=>f x*s).sum=(l.map f).sum*s
|[]=>by simp
|x::l=>by rw[p_,PL,Cp s f l,p_,PL,SR]
theorem xu(f:Nat->Nat):∀l:List Nat,((l.filter fun x=>decide (f x≠0)).map f).sum=(l.map f).sum
|[]=>rfl
|x::l=>by
  rw[QD];by_cases h:f x=0
  .rw[if_neg (by simpa using h),xu f l,p_,PL,h];omega
  .rw[if_pos (by simpa using h),p_,PL,xu f l,p_,PL]
theorem DR{α:Type}(c:Nat):∀l:List α,(l.map fun _=>c).sum=l.length*c
|[]=>by simp
|_::l=>by rw[p_,PL,DR c l,C_,SR];omega
theorem nV{α:Type}:∀l:List α,(l.map fun _=>0).sum=0
|[]=>rfl
|_::l=>by rw[p_,PL,nV l]
theorem dh(R:Rw W n):∀(k:Nat)(T:List Nat)(a:Nat->Nat),Ok n T a->T.length<=k ->(∀x,((a_ n).map fun h=>shr (dz W n k T a) h x).sum=if x∈T then a x else 0)/\n*jI (dz W n k T a)=(T.map a).sum /\(∀h,h<n->((a_ n).map fun x=>shr (dz W n k T a) h x).sum=jI (dz W n k T a))
|0,T,a,S,hk=>by
  have:T=[]:=List.length_eq_zero_iff.mp (by omega);subst this;refine⟨fun x=>?_,?_,fun h hh=>?_⟩
  .show((a_ n).map fun h=>0).sum=_;rw[nV];simp
  .show n*0=_;simp
  .show((a_ n).map fun x=>0).sum=0;exact nV _
|k+1,T,a,S,hk=>by
  by_cases hT:T=[]
  .subst hT;refine⟨fun x=>?_,?_,fun h hh=>?_⟩
   .show((a_ n).map fun h=>0).sum=_;rw[nV];simp
   .show n*0=_;simp
   .show((a_ n).map fun x=>0).sum=0;exact nV _
  .have hlt:=eB R S hT;obtain⟨i1,i2,i3⟩:=dh R k (ck W n T a) (cE W n T a) (S.next R hT) (by omega);have e:dz W n (k+1) T a=(tgs W n T,cW W n T a,T.filter fun x=>decide (x∉ck W n T a))::dz W n k (ck W n T a) (cE W n T a):=by show(if T=[]then[]else _)=_;rw[if_neg hT]
   rw[e];refine⟨fun x=>?_,?_,fun h hh=>?_⟩
   .have e1:(a_ n).map (fun h=>shr ((tgs W n T,cW W n T a,T.filter fun x=>decide (x∉ck W n T a))::dz W n k (ck W n T a) (cE W n T a)) h x)=(a_ n).map fun h=>(if (tgs W n T).getD h 0=x then cW W n T a else 0)+shr (dz W n k (ck W n T a) (cE W n T a)) h x:=PY fun h _=>dq _ _ _ _;rw[e1,qg,i1 x,Co,KQ];have hle:=eh (W:=W) (n:=n) (T:=T) (a:=a) x;by_cases hx:x∈T
    .rw[if_pos hx];by_cases hl:x∈ck W n T a
     .rw[if_pos hl];unfold cE;omega
     .rw[if_neg hl];have:cE W n T a x=0:=Qh fun z=>hl (QB.mpr ⟨hx,by simpa using z⟩);unfold cE at this;omega
    .rw[if_neg hx,if_neg (show x∉ck W n T a from fun z=>hx (QB.mp z).1)];have:(tgs W n T).count x=0:=V4.mpr fun z=>hx (bV R S hT z);rw[this];simp
   .rw[cf,Yk,i2];have h1:((ck W n T a).map (cE W n T a)).sum=(T.map (cE W n T a)).sum:=xu _ _;have h2:(T.map a).sum=(T.map fun x=>cE W n T a x+(tgs W n T).count x*cW W n T a).sum:=by congr 1;refine PY fun x _=>?_;have hle:=eh (W:=W) (n:=n) (T:=T) (a:=a) x;unfold cE;omega
    rw[h1,h2,qg,Cp,KN _ T S.nd (fun x hx=>bV R S hT hx),cG];show n*cW W n T a+_=_;omega
   .have e1:(a_ n).map (fun x=>shr ((tgs W n T,cW W n T a,T.filter fun x=>decide (x∉ck W n T a))::dz W n k (ck W n T a) (cE W n T a)) h x)=(a_ n).map fun x=>(if best (W h) T=x then cW W n T a else 0)+shr (dz W n k (ck W n T a) (cE W n T a)) h x:=PY fun x _=>by rw[dq];show(if (tgs W n T).getD h 0=x then _ else _)+_=_;rw[Ag hh]
    rw[e1,qg,i3 h hh,sum_one _ _ _ Qi,if_pos (r_.mpr (S.lt _ (Bj R S hT hh))),cf]
theorem Ok.init(R:Rw W n):Ok n (a_ n) fun _=>Fq.DD:=⟨Qi,fun x hx=>r_.mp hx,fun _ _=>Fq.bM,fun _ _=>by rw[Qw];exact Ve 420 R.n7⟩
theorem jV(R:Rw W n){k:Nat}(hk:n<=k):jI (dz W n k (a_ n) fun _=>Fq.DD)=Fq.DD:=by
 have h:=(dh R k (a_ n) (fun _=>Fq.DD) (Ok.init R) (by simpa using hk)).2.1;have e:((a_ n).map fun _=>Fq.DD).sum=n*Fq.DD:=by rw[DR,Qw]
 rw[e]at h;exact Nat.eq_of_mul_eq_mul_left R.n1 h
end Et
end
section
namespace Rg
theorem t0:∀{l m:List Nat},l.Nodup->(∀x∈l,x∈m)->m.length<=l.length->l.Perm m
|[],m,_,_,hl=>by have:m=[]:=List.eq_nil_of_length_eq_zero (by simpa using hl);rw[this]
|a::l,m,hn,hs,hl=>by
  have hn':=PZ.mp hn;have ha:=hs a g_;refine List.Perm.trans ?_ (List.perm_cons_erase ha).symm;refine List.Perm.cons a (t0 hn'.2 (fun x hx=>?_) ?_)
  .have:x≠a:=by rintro rfl;exact hn'.1 hx
   exact(TK this).mpr (hs x (f_ _ hx))
  .rw[Q9 ha];simp at hl;omega
section
variable(W:Nat->List Nat)(d:Nat->Nat)
def Mn(o:List Nat)(x:Nat):Prop:=best (W x) (o.map d)=d x
def Ps(v:Nat)(o:List Nat)(f:Nat->Nat)(c:Nat):Prop:=c∈o/\∀k,Mn W d (v::o) (it f k c)
inductive Bl:List Nat->(Nat->Nat)->Prop where
 |nil:Bl [] id
|alone {v:Nat} {o:List Nat} {f:Nat->Nat}:Bl o f->(∀c,Ps W d v o f c->v<c)->Bl (v::o) (fun x=>if x=v then v else f x)
|ins {v c:Nat} {o:List Nat} {f:Nat->Nat}:Bl o f->Ps W d v o f c->(∀b,Ps W d v o f b->c<=b)->c<v->Bl (v::o) (fun x=>if x=v then f c else if x=c then v else f x)
variable{W d}
end
end Rg
end
section
namespace Fq
theorem CU{N:Nat}(hN:0<N)(a b:Int):kM (low a N) (low b N)=low (a+b) N:=by
 have h1:(low a N).1*(N:Int)=a*((low a N).2:Int):=fY a N;have h2:(low b N).1*(N:Int)=b*((low b N).2:Int):=fY b N;have p1:=fL a hN;have p2:=fL b hN;refine ik (Qp p1 p2) hN ?_;generalize low a N=p at *;generalize low b N=q at *;rw[K_,Sb,Sb];have e1:p.1*(q.2:Int)*(N:Int)=(p.1*(N:Int))*(q.2:Int):=by simp only[z_,PF,H_]
 have e2:q.1*(p.2:Int)*(N:Int)=(q.1*(N:Int))*(p.2:Int):=by simp only[z_,PF,H_]
 rw[e1,e2,h1,h2];simp only[z_,PF,H_]
theorem L0{N M:Nat}(hN:0<N)(hM:0<M)(a b:Int):l6 (low a N) (low b M)=decide (a*(M:Int)<b*(N:Int)):=by
 have h1:(low a N).1*(N:Int)=a*((low a N).2:Int):=fY a N;have h2:(low b M).1*(M:Int)=b*((low b M).2:Int):=fY b M;have p1:=fL a hN;have p2:=fL b hM;unfold l6;generalize low a N=p at *;generalize low b M=q at *;have hp:(0:Int)<(p.2:Int)*(q.2:Int):=by rw[<-K_];have:=Qp p1 p2;omega
 have hD:(0:Int)<(N:Int)*(M:Int):=by rw[<-K_];have:=Qp hN hM;omega
 rw[P6,decide_eq_true_iff,decide_eq_true_iff];have e1:p.1*(q.2:Int)*((N:Int)*(M:Int))=(a*(M:Int))*((p.2:Int)*(q.2:Int)):=by
  have:p.1*(q.2:Int)*((N:Int)*(M:Int))=(p.1*(N:Int))*((M:Int)*(q.2:Int)):=by simp only[z_,PF,H_]
  rw[this,h1];simp only[z_,PF,H_]
 have e2:q.1*(p.2:Int)*((N:Int)*(M:Int))=(b*(N:Int))*((p.2:Int)*(q.2:Int)):=by
  have:q.1*(p.2:Int)*((N:Int)*(M:Int))=(q.1*(M:Int))*((N:Int)*(p.2:Int)):=by simp only[z_,PF,H_]
  rw[this,h2];simp only[z_,PF,H_]
 constructor
 .intro h;have:=QL h hD;rw[e1,e2]at this;exact QV this (U6 hp)
 .intro h;have:=QL h hp;rw[<-e1,<-e2]at this;exact QV this (U6 hD)
theorem Gv{N:Nat}(hN:0<N):low ((0:Nat):Int) N=(0,1):=by rw[<-iM 0];exact ik hN (by decide) (by simp)
theorem Ig{N M a b:Nat}(hN:0<N)(hM:0<M)(h:a*M=b*N):low (a:Int) N=low (b:Int) M:=ik hN hM (by rw[<-K_,<-K_,h])
end Fq
namespace Et
open Rg
variable{W:Nat->List Nat}{n:Nat}
end Et
end
section
namespace Bk
def sm:Nat->(Nat->Nat)->Nat
|0,_=>0
|n+1,f=>sm n f+f n
theorem jJ(n:Nat)(f:Nat->Nat):sm (n+1) f=sm n f+f n:=rfl
theorem gD{f g:Nat->Nat}:∀{n:Nat},(∀i,i<n->f i=g i)->sm n f=sm n g
|0,_=>rfl
|n+1,h=>by unfold sm;rw[gD fun i hi=>h i (by omega),h n (by omega)]
theorem jx(f g:Nat->Nat):∀n,sm n (fun i=>f i+g i)=sm n f+sm n g
|0=>rfl
|n+1=>by rw[jJ,jJ,jJ,jx f g n];omega
theorem uZ:∀n,sm n (fun _=>0)=0
|0=>rfl
|n+1=>by rw[jJ,uZ n]
theorem nK(f:Nat->Nat)(k:Nat):∀n,sm n (fun i=>f i*k)=sm n f*k
|0=>by simp[sm]
|n+1=>by unfold sm;rw[nK f k n,SR]
theorem sJ{f g:Nat->Nat}:∀{n:Nat},(∀i,i<n->f i<=g i)->sm n f<=sm n g
|0,_=>u_ _
|n+1,h=>by unfold sm;have h1:=sJ (n:=n) fun i hi=>h i (by omega);have h2:=h n (by omega);omega
theorem Cz(f:Nat->Nat->Nat)(m:Nat):∀n,sm n (fun i=>sm m (f i))=sm m (fun j=>sm n (fun i=>f i j))
|0=>(uZ m).symm
|n+1=>by show sm n (fun i=>sm m (f i))+sm m (f n)=sm m (fun j=>sm n (fun i=>f i j)+f n j);rw[Cz f m n,jx]
theorem kY{f:Nat->Nat}{n:Nat}(h:∀i,i<n->f i=0):sm n f=0:=(gD h).trans (uZ n)
theorem sm_if{x:Nat->Nat}{a:Nat}:∀{n:Nat},a<n->sm n (fun i=>if i=a then x i else 0)=x a
|0,h=>by omega
|n+1,h=>by
  unfold sm;by_cases e:n=a
  .subst e;rw[kY (n:=n) fun i hi=>if_neg (by omega)];simp
  .rw[sm_if (n:=n) (by omega)];simp[e]
theorem Ao{f:Nat->Nat}{i:Nat}:∀{n:Nat},i<n->f i<=sm n f
|0,h=>by omega
|n+1,h=>by
  unfold sm;by_cases e:i=n
  .subst e;omega
  .have:=Ao (f:=f) (i:=i) (n:=n) (by omega);omega
theorem qf(f:Nat->Nat):∀n,((a_ n).map f).sum=sm n f
|0=>rfl
|n+1=>by rw[QZ,L_,T0,qf f n];simp[sm]
def ct(n:Nat)(p:Nat->Bool):Nat:=sm n fun i=>if p i=true then 1 else 0
theorem BX{n:Nat}{p:Nat->Bool}(h:∀i,i<n->p i=true):ct n p=n:=by
 have h2:∀n,sm n (fun _=>1)=n:=fun n=>by induction n with
 |zero=>rfl
 |succ n ih=>unfold sm;rw[ih]
 exact(gD fun i hi=>by rw[h i hi];rfl).trans (h2 n)
theorem pU{n a:Nat}{p:Nat->Bool}(ha:a<n)(hp:p a=false):ct n (fun i=>p i || decide (i=a))=ct n p+1:=by
 have h:ct n (fun i=>p i || decide (i=a))=sm n (fun i=>(if p i=true then 1 else 0)+(if i=a then(fun _=>1) i else 0)):=gD fun i _=>by
  by_cases e:i=a
  .subst e;simp[hp]
  .simp[e]
 rw[h,jx,sm_if ha];rfl
theorem uL{n:Nat}:∀{l:List Nat},l.Nodup->(∀x∈l,x<n)->ct n (fun i=>decide (i∈l))=l.length
|[],_,_=>kY fun i _=>by simp
|x::l,hn,hl=>by have h1:=PZ.mp hn;have ih:=uL (n:=n) h1.2 fun y hy=>hl y (f_ _ hy);have h2:=pU (n:=n) (p:=fun i=>decide (i∈l)) (hl x g_) (decide_eq_false h1.1);rw[ih]at h2;rw[C_,<-h2];refine gD fun i _=>?_;by_cases e:i=x <;> by_cases e2:i∈l <;> simp[e,e2]
structure DS(n:Nat)(A:Nat->Nat->Nat)(s:Nat):Prop where
 row:∀i,i<n->sm n (A i)=s
 col:∀j,j<n->sm n (fun i=>A i j)=s
section
variable{n s:Nat}{A:Nat->Nat->Nat}
theorem DS.rows(d:DS n A s)(r:Nat->Bool):sm n (fun i=>sm n fun j=>A i j*(if r i=true then 1 else 0))=s*ct n r:=by
 have:sm n (fun i=>sm n fun j=>A i j*(if r i=true then 1 else 0))=sm n (fun i=>(if r i=true then 1 else 0)*s):=gD fun i hi=>by rw[nK,d.row i hi,Q8]
 rw[this,nK,Q8];rfl
theorem DS.cols(d:DS n A s)(c:Nat->Bool):sm n (fun i=>sm n fun j=>A i j*(if c j=true then 1 else 0))=s*ct n c:=by
 rw[Cz];have:sm n (fun j=>sm n fun i=>A i j*(if c j=true then 1 else 0))=sm n (fun j=>(if c j=true then 1 else 0)*s):=gD fun j hj=>by rw[nK,d.col j hj,Q8]
 rw[this,nK,Q8];rfl
theorem DS.le(d:DS n A s){i j:Nat}(hi:i<n)(hj:j<n):A i j<=s:=by rw[<-d.row i hi];exact Ao hj
theorem DS.hall(d:DS n A s)(hs:0<s){S T:List Nat}(hS:S.Nodup)(hT:T.Nodup)(lS:∀i∈S,i<n)(lT:∀i∈T,i<n)(h:∀i∈S,∀j,j<n->0<A i j->j∈T):S.length<=T.length:=by
 have h1:=d.rows fun i=>decide (i∈S);have h2:=d.cols fun j=>decide (j∈T);rw[uL hS lS]at h1;rw[uL hT lT]at h2;have:s*S.length<=s*T.length:=by
  rw[<-h1,<-h2];refine sJ fun i hi=>sJ fun j hj=>?_;by_cases e:i∈S
  .by_cases z:A i j=0
   .rw[z,Uc];exact Qa _
   .have:=h i e j hj (by omega);simp[e,this]
  .simp[e]
 exact Nat.le_of_mul_le_mul_left this hs
theorem DS.bridge1(d:DS n A s){r c:Nat->Bool}{a b:Nat}(ha:a<n)(hb:b<n)(h0:0<A a b)(h1:A a b<s)(hr:r a=true)(hc:c b=false)(h:∀i j,i<n->j<n->¬ (i=a/\j=b)->0<A i j->r i=c j):False:=by
 have h2:=d.rows r;have h3:=d.cols c;have e:sm n (fun i=>sm n fun j=>A i j*(if r i=true then 1 else 0))=sm n (fun i=>sm n fun j=>A i j*(if c j=true then 1 else 0))+sm n (fun i=>if i=a then(fun i=>sm n fun j=>if j=b then(fun j=>A i j) j else 0) i else 0):=by
  rw[<-jx];refine gD fun i hi=>?_;by_cases ei:i=a
  .rw[if_pos ei,<-jx];refine gD fun j hj=>?_;by_cases ej:j=b
   .subst ei;subst ej;simp[hr,hc]
   .rw[if_neg ej,Te];by_cases z:A i j=0
    .rw[z,Uc,Uc]
    .rw[h i j hi hj (fun q=>ej q.2) (by omega)]
  .rw[if_neg ei,Te];refine gD fun j hj=>?_;by_cases z:A i j=0
   .rw[z,Uc,Uc]
   .rw[h i j hi hj (fun q=>ei q.1) (by omega)]
 rw[sm_if ha,sm_if hb,h2,h3]at e;have hm:(s*ct n c+A a b)%s=0:=by rw[<-e];exact Nat.mul_mod_right _ _
 rw[WN,UQ h1]at hm;omega
theorem DS.bridge(d:DS n A s){r c:Nat->Bool}{a b:Nat}(ha:a<n)(hb:b<n)(h0:0<A a b)(h1:A a b<s)(hrc:r a≠c b)(h:∀i j,i<n->j<n->¬ (i=a/\j=b)->0<A i j->r i=c j):False:=by cases er:r a with
|true=>exact d.bridge1 ha hb h0 h1 er (by cases ec:c b with|false=>rfl|true=>exact absurd (er.trans ec.symm) hrc) h
|false=>
  have ec:c b=true:=by cases ec:c b with|true=>rfl|false=>exact absurd (er.trans ec.symm) hrc
  exact d.bridge1 (r:=fun i=>! r i) (c:=fun j=>! c j) ha hb h0 h1 (by simp[er]) (by simp[ec]) fun i j hi hj q z=>by simp[h i j hi hj q z]
end
def gw(n:Nat)(Rm:List (Nat×Nat)):Prop:=∀r c:Nat->Bool,((∃i,i<n/\r i=true)\/∃j,j<n/\c j=true)->((∃i,i<n/\r i=false)\/∃j,j<n/\c j=false)->∃i j,i<n/\j<n/\r i≠c j/\(i,j)∉Rm
theorem Li(n:Nat):gw n []:=by
 intro r c h1 h2;rcases h1 with⟨i,hi,e1⟩|⟨j,hj,e1⟩ <;> rcases h2 with⟨i',hi',e2⟩|⟨j',hj',e2⟩
 .cases ec:c i with
 |false=>exact⟨i,i,hi,hi,by rw[e1,ec];simp,by simp⟩
 |true=>exact⟨i',i,hi',hi,by rw[e2,ec];simp,by simp⟩
 .exact⟨i,j',hi,hj',by rw[e1,e2];simp,by simp⟩
 .exact⟨i',j,hi',hj,by rw[e1,e2];simp,by simp⟩
 .cases er:r j with
 |false=>exact⟨j,j,hj,hj,by rw[e1,er];simp,by simp⟩
 |true=>exact⟨j,j',hj,hj',by rw[e2,er];simp,by simp⟩
theorem MJ{n s:Nat}{A:Nat->Nat->Nat}{Rm:List (Nat×Nat)}{a b:Nat}(d:DS n A s)(h:gw n Rm)(hz:∀e∈Rm,A e.1 e.2=0)(ha:a<n)(hb:b<n)(h0:0<A a b)(h1:A a b<s):gw n ((a,b)::Rm):=by
 intro r c y1 y2;refine Qh fun no=>?_;have key:∀i j,i<n->j<n->r i≠c j->(i,j)∈(a,b)::Rm:=fun i j hi hj z=>Qh fun q=>no ⟨i,j,hi,hj,z,q⟩;obtain⟨i,j,hi,hj,z,q⟩:=h r c y1 y2;have e:i=a/\j=b:=by
  rcases q_.mp (key i j hi hj z)with w|w
  .exact⟨congrArg Xc w,congrArg Wj w⟩
  .exact absurd w q
 obtain⟨rfl,rfl⟩:=e;refine d.bridge ha hb h0 h1 z fun i' j' hi' hj' nq pos=>Qh fun w=>?_;rcases q_.mp (key i' j' hi' hj' w)with u|u
 .exact nq ⟨congrArg Xc u,congrArg Wj u⟩
 .have:=hz _ u;simp only at this;omega
theorem oO{n:Nat}{Rm:List (Nat×Nat)}(h:gw n Rm)(hn:1<=n):∀k,k+1<=2*n->∃(r c:Nat->Bool)(T:List (Nat×Nat)),ct n r+ct n c=k+1/\T.length=k/\T.Nodup/\∀e∈T,e.1<n/\e.2<n/\r e.1=true/\c e.2=true/\e∉Rm
|0,_=>by refine⟨fun i=>false || decide (i=0),fun _=>false,[],?_,rfl,Uo,fun e he=>by cases he⟩;rw[pU (p:=fun _=>false) (by omega) rfl];have:ct n (fun _=>false)=0:=kY fun i _=>rfl;omega
|k+1,hk=>by
  obtain⟨r,c,T,h1,h2,h3,h4⟩:=oO h hn k (by omega);have nf:(∃i,i<n/\r i=false)\/∃j,j<n/\c j=false:=Qh fun no=>by
   have f1:ct n r=n:=BX fun i hi=>by cases e:r i with
   |true=>rfl
   |false=>exact absurd (Or.inl ⟨i,hi,e⟩) no
   have f2:ct n c=n:=BX fun i hi=>by cases e:c i with
   |true=>rfl
   |false=>exact absurd (Or.inr ⟨i,hi,e⟩) no
   omega
  have nt:(∃i,i<n/\r i=true)\/∃j,j<n/\c j=true:=Qh fun no=>by have f1:ct n r=0:=kY fun i hi=>if_neg fun e=>no (.inl ⟨i,hi,e⟩);have f2:ct n c=0:=kY fun i hi=>if_neg fun e=>no (.inr ⟨i,hi,e⟩);omega
  obtain⟨i,j,hi,hj,z,q⟩:=h r c nt nf;cases er:r i with
 |true=>
   have ec:c j=false:=by cases ec:c j with|false=>rfl|true=>exact absurd (er.trans ec.symm) z
   refine⟨r,fun x=>c x || decide (x=j),(i,j)::T,by rw[pU hj ec];omega,by simp[h2],PZ.mpr ⟨fun w=>?_,h3⟩,fun e he=>?_⟩
   .have:=(h4 _ w).2.2.2.1;simp only[ec]at this;cases this
   .rcases q_.mp he with rfl|he
    .exact⟨hi,hj,er,by simp,q⟩
    .obtain⟨u1,u2,u3,u4,u5⟩:=h4 e he;exact⟨u1,u2,u3,by simp[u4],u5⟩
 |false=>
   have ec:c j=true:=by cases ec:c j with|true=>rfl|false=>exact absurd (er.trans ec.symm) z
   refine⟨fun x=>r x || decide (x=i),c,(i,j)::T,by rw[pU hi er];omega,by simp[h2],PZ.mpr ⟨fun w=>?_,h3⟩,fun e he=>?_⟩
   .have:=(h4 _ w).2.2.1;simp only[er]at this;cases this
   .rcases q_.mp he with rfl|he
    .exact⟨hi,hj,by simp,ec,q⟩
    .obtain⟨u1,u2,u3,u4,u5⟩:=h4 e he;exact⟨u1,u2,by simp[u3],u4,u5⟩
theorem Mh{n:Nat}{l:List (Nat×Nat)}(hn:l.Nodup)(hl:∀e∈l,e.1<n/\e.2<n):l.length<=n*n:=by
 have h:(l.map fun e=>e.1*n+e.2).Nodup:=by
  refine RK.mpr ((RA.mp hn).imp fun{a b} w z=>w.2.2 ?_);obtain⟨a1,a2⟩:=hl a w.1;obtain⟨b1,b2⟩:=hl b w.2.1;have e2:a.2=b.2:=by have:=congrArg (· % n) z;simpa[WN,UQ a2,UQ b2,Q8 _ n]using this
  have e1:a.1=b.1:=by
   rw[e2]at z;have:a.1*n=b.1*n:=by omega
   exact Nat.eq_of_mul_eq_mul_right (by omega) this
  exact Wa e1 e2
 have:=Rg.jt (m:=a_ (n*n)) h fun x hx=>by obtain⟨e,he,rfl⟩:=A_.mp hx;obtain⟨u1,u2⟩:=hl e he;refine r_.mpr ?_;have:(e.1+1)*n<=n*n:=Nat.mul_le_mul_right _ u1;rw[SR]at this;omega
 simpa using this
theorem gw.few{n:Nat}{Rm:List (Nat×Nat)}(h:gw n Rm)(hn:1<=n)(hd:Rm.Nodup)(hl:∀e∈Rm,e.1<n/\e.2<n):Rm.length<=(n-1)*(n-1):=by
 obtain⟨r,c,T,h1,h2,h3,h4⟩:=oO h hn (2*n-1) (by omega);have:=Mh (n:=n) (l:=T++Rm) (Qx.mpr ⟨h3,hd,fun a ha b hb e=>(h4 a ha).2.2.2.2 (e▸hb)⟩) fun e he=>by
  rcases Qk.mp he with q|q
  .exact⟨(h4 e q).1,(h4 e q).2.1⟩
  .exact hl e q
 rw[PN,h2]at this;obtain⟨m,rfl⟩:∃m,n=m+1:=⟨n-1,by omega⟩
 have e:(m+1)*(m+1)=m*m+2*m+1:=by rw[SR,Yk];omega
 rw[e]at this;show Rm.length<=m*m;omega
def dA(d:List Nat)(h:Nat):Nat:=(d[h]?).getD 0
theorem sT{d:List Nat}{h:Nat}(hh:h<d.length):d[h]? = some (dA d h):=by unfold dA;rw[i_ hh];rfl
theorem hW{d:List Nat}{h n:Nat}(hp:d.Perm (a_ n))(hh:h<n):h<d.length/\dA d h<n:=by
 have hl:h<d.length:=by rw[hp.length_eq];simpa using hh
 refine⟨hl,?_⟩;unfold dA;rw[i_ hl];exact r_.mp (hp.mem_iff.mp (Qc _))
theorem Az{d:List Nat}{h k n:Nat}(hp:d.Perm (a_ n))(hh:h<n)(hk:k<n)(e:dA d h=dA d k):h=k:=by have h1:=(hW hp hh).1;have h2:=(hW hp hk).1;have nd:d.Nodup:=hp.nodup_iff.mpr Qi;unfold dA at e;rw[i_ h1,i_ h2]at e;exact(UF nd).mp e
theorem BY{d:List Nat}{x n:Nat}(hp:d.Perm (a_ n))(hx:x<n):∃h,h<n/\dA d h=x:=by obtain⟨h,hh,e⟩:=T5 (hp.mem_iff.mpr (r_.mpr hx));refine⟨h,by rw[hp.length_eq]at hh;simpa using hh,?_⟩;unfold dA;rw[i_ hh];exact e
def taken(A:Nat->Nat->Nat)(p:Nat)(d:List Nat):Nat->Nat->Nat:=fun i j=>if j=dA d i then A i j-p else A i j
theorem DS.taken{n s p:Nat}{A:Nat->Nat->Nat}{d:List Nat}(D:DS n A s)(hd:d.Perm (a_ n))(hp:∀i,i<n->p<=A i (dA d i)):DS n (taken A p d) (s-p):=by
 constructor
 .intro i hi;have h:sm n (A i)=sm n (Bk.taken A p d i)+sm n (fun j=>if j=dA d i then(fun _=>p) j else 0):=by
   rw[<-jx];refine gD fun j hj=>?_;unfold Bk.taken;by_cases e:j=dA d i
   .have:=hp i hi;subst e;simp only[if_true];omega
   .simp only[if_neg e,Te]
  rw[D.row i hi,sm_if (hW hd hi).2]at h;omega
 .intro j hj;obtain⟨h,hh,rfl⟩:=BY hd hj;have e:sm n (fun i=>A i (dA d h))=sm n (fun i=>Bk.taken A p d i (dA d h))+sm n (fun i=>if i=h then(fun _=>p) i else 0):=by
   rw[<-jx];refine gD fun i hi=>?_;unfold Bk.taken;by_cases e:i=h
   .have:=hp i hi;subst e;simp only[if_true];omega
   .have:dA d h≠dA d i:=fun z=>e (Az hd hi hh z.symm);simp only[if_neg e,if_neg this,Te]
  rw[D.col _ hj,sm_if hh]at e;omega
def aF(ps:List (Nat×List Nat))(h x:Nat):Nat:=((ps.filter fun q=>decide (dA q.2 h=x)).map (·.1)).sum
theorem L4(ps:List (Nat×List Nat))(q:Nat×List Nat)(h x:Nat):aF (ps++[q]) h x=aF ps h x+if x=dA q.2 h then q.1 else 0:=by
 unfold aF;rw[List.filter_append,L_,T0];by_cases e:x=dA q.2 h
 .simp[e]
 .have:¬ dA q.2 h=x:=fun z=>e z.symm;simp[e,this]
structure Pg(n N:Nat)(A0 A:Nat->Nat->Nat)(s:Nat)(ps:List (Nat×List Nat)):Prop where
 ds:DS n A s
 mix:∀i j,i<n->j<n->A0 i j=A i j+aF ps i j
 sum:s+(ps.map (·.1)).sum=N
 pos:∀q∈ps,0<q.1/\q.2.Perm (a_ n)
 gone:∀q∈ps,∃i,i<n/\A i (dA q.2 i)=0
 nd:(ps.map (·.2)).Nodup
 few:ps.length<=(n-1)*(n-1)+1
 rm:0<s->∃Rm:List (Nat×Nat),Rm.length=ps.length/\Rm.Nodup/\(∀e∈Rm,e.1<n/\e.2<n/\A e.1 e.2=0)/\gw n Rm
section
variable{n N s:Nat}{A0 A:Nat->Nat->Nat}{ps:List (Nat×List Nat)}
theorem Pg.start(h:DS n A N):Pg n N A A N []:=⟨h,fun i j _ _=>by simp[aF],by simp,(fun q hq=>(nomatch hq)),(fun q hq=>(nomatch hq)),Uo,by simp,fun _=>⟨[],rfl,Uo,(fun e he=>(nomatch he)),Li n⟩⟩
theorem Pg.step(P:Pg n N A0 A s ps)(hn:1<=n)(hs:0<s){d:List Nat}{a p:Nat}(hd:d.Perm (a_ n))(hpos:∀i,i<n->0<A i (dA d i))(hp:∀i,i<n->p<=A i (dA d i))(ha:a<n)(hpa:p=A a (dA d a)):Pg n N A0 (taken A p d) (s-p) (ps++[(p,d)])/\p<=s/\0<p:=by
 have p0:0<p:=by rw[hpa];exact hpos a ha
 have hlt:=(hW hd ha).2;have ps':p<=s:=by rw[hpa];exact P.ds.le ha hlt
 obtain⟨Rm,r1,r2,r3,r4⟩:=P.rm hs;have dec:∀i j,taken A p d i j<=A i j:=fun i j=>by unfold taken;split <;> omega
 refine⟨⟨P.ds.taken hd hp,fun i j hi hj=>?_,?_,fun q hq=>?_,fun q hq=>?_,?_,?_,fun h0=>?_⟩,ps',p0⟩
 .rw[P.mix i j hi hj,L4];unfold taken;by_cases e:j=dA d i
  .have:=hp i hi;subst e;simp only[if_true];omega
  .simp only[if_neg e];omega
 .have:=P.sum;rw[L_,T0];simp only[p_,UV,PL,List.sum_nil];omega
 .rcases Qk.mp hq with q'|q'
  .exact P.pos q q'
  .rw[y_.mp q'];exact⟨p0,hd⟩
 .rcases Qk.mp hq with q'|q'
  .obtain⟨i,hi,e⟩:=P.gone q q';have:=dec i (dA q.2 i);exact⟨i,hi,by omega⟩
  .rw[y_.mp q'];exact⟨a,ha,by unfold taken;rw[if_pos rfl,<-hpa,U3]⟩
 .rw[L_];refine Qx.mpr ⟨P.nd,by simp,fun x hx y hy e=>?_⟩;have hy':y=d:=by simpa using hy
  obtain⟨q,hq,rfl⟩:=A_.mp hx;obtain⟨i,hi,z⟩:=P.gone q hq;have:=hpos i hi;rw[e,hy']at z;omega
 .rw[PN,<-r1];have:=r4.few hn r2 fun e he=>⟨(r3 e he).1,(r3 e he).2.1⟩
  simp only[C_,U_];omega
 .have hlt':A a (dA d a)<s:=by rw[<-hpa];omega
  have h0':0<A a (dA d a):=hpos a ha;refine⟨(a,dA d a)::Rm,by simp[r1],PZ.mpr ⟨fun w=>?_,r2⟩,fun e he=>?_,MJ P.ds r4 (fun e he=>(r3 e he).2.2) ha hlt h0' hlt'⟩
  .have:=(r3 _ w).2.2;simp only at this;omega
  .rcases q_.mp he with rfl|he
   .exact⟨ha,hlt,by show taken A p d a (dA d a)=0;unfold taken;rw[if_pos rfl,<-hpa,U3]⟩
   .obtain⟨u1,u2,u3⟩:=r3 e he;have:=dec e.1 e.2;exact⟨u1,u2,by omega⟩
theorem Pg.lt(P:Pg n N A0 A s ps)(hn:1<=n)(hs:0<s):ps.length<=(n-1)*(n-1):=by obtain⟨Rm,r1,r2,r3,r4⟩:=P.rm hs;rw[<-r1];exact r4.few hn r2 fun e he=>⟨(r3 e he).1,(r3 e he).2.1⟩
theorem Pg.done(P:Pg n N A0 A 0 ps):(∀i j,i<n->j<n->A0 i j=aF ps i j)/\(ps.map (·.1)).sum=N:=by refine⟨fun i j hi hj=>?_,by have:=P.sum;omega⟩;have:=P.ds.le hi hj;rw[P.mix i j hi hj];omega
end
end Bk
end
section
namespace Bk
structure Kok(n:Nat)(E:Nat->List Nat)(K:List (Nat×Nat)):Prop where
 nd:(K.map (·.1)).Nodup
 ed:∀t g,(t,g)∈K->g<n/\t∈E g
theorem uS{K:List (Nat×Nat)}(h:(K.map (·.1)).Nodup){t g g':Nat}(h1:(t,g)∈K)(h2:(t,g')∈K):g=g':=by induction K with
|nil=>cases h1
|cons p K ih=>
  have hn:=PZ.mp h;rcases q_.mp h1 with e1|e1 <;> rcases q_.mp h2 with e2|e2
  .rw[<-e1]at e2;exact(congrArg Wj e2).symm
  .exact absurd (A_.mpr ⟨_,e2,by rw[<-e1]⟩) hn.1
  .exact absurd (A_.mpr ⟨_,e1,by rw[<-e2]⟩) hn.1
  .exact ih hn.2 e1 e2
def mU(T:List Nat)(K:List (Nat×Nat)):Prop:=∀t u g,t∉T->u∉T->(t,g)∈K->(u,g)∈K->t=u
def Nh(T:List Nat)(K:List (Nat×Nat))(h:Nat):Prop:=∀t,t∉T->(t,h)∉K
def Fl(E:Nat->List Nat)(T:List Nat)(K:List (Nat×Nat))(T':List Nat):Prop:=∀t∈T',t∉T->∃g,(t,g)∈K/\∀u∈E g,u∈T'
structure Sc(n:Nat)(E:Nat->List Nat)(T:List Nat)(K:List (Nat×Nat))(h:Nat)(K':List (Nat×Nat)):Prop where
 ok:Kok n E K'
 old:∀t∈T,∀g,(t,g)∈K'↔(t,g)∈K
 img:∀g,(∃t,t∉T/\(t,g)∈K')↔g=h\/∃t,t∉T/\(t,g)∈K
 inj:mU T K'
def zt(K:List (Nat×Nat))(x h:Nat)(K':List (Nat×Nat)):Prop:=(K'.map (·.1)).Nodup/\∀u g,(u,g)∈K'↔(u=x/\g=h)\/(u≠x/\(u,g)∈K)
section
variable{n h x g0:Nat}{E:Nat->List Nat}{T T2:List Nat}{K K1 K':List (Nat×Nat)}
theorem KB(ok:Kok n E K)(inj:mU T K)(nh:Nh T K h)(hx:x∉T)(hf:∀g,(x,g)∉K)(hh:h<n)(he:x∈E h)(P:zt K x h K'):Sc n E T K h K':=by
 obtain⟨nd,P⟩:=P;refine⟨⟨nd,fun t g m=>?_⟩,fun t ht g=>?_,fun g=>⟨fun⟨t,ht,m⟩=>?_,fun w=>?_⟩,fun t u g ht hu m1 m2=>?_⟩
 .rcases(P t g).mp m with⟨rfl,rfl⟩|⟨_,m⟩
  .exact⟨hh,he⟩
  .exact ok.ed t g m
 .rw[P];have ne:t≠x:=fun e=>hx (e▸ht);exact⟨fun w=>(w.resolve_left fun q=>ne q.1).2,fun w=>.inr ⟨ne,w⟩⟩
 .rcases(P t g).mp m with⟨rfl,rfl⟩|⟨_,m⟩
  .exact .inl rfl
  .exact .inr ⟨t,ht,m⟩
 .rcases w with rfl|⟨t,ht,m⟩
  .exact⟨x,hx,(P _ _).mpr (.inl ⟨rfl,rfl⟩)⟩
  .exact⟨t,ht,(P _ _).mpr (.inr ⟨fun e=>hf g (e▸m),m⟩)⟩
 .rcases(P t g).mp m1 with⟨rfl,rfl⟩|⟨n1,m1⟩ <;> rcases(P u g).mp m2 with⟨rfl,e⟩|⟨n2,m2⟩
  .rfl
  .exact absurd m2 (nh u hu)
  .subst e;exact absurd m1 (nh t ht)
  .exact inj t u g ht hu m1 m2
theorem KG(ok:Kok n E K)(inj:mU T K)(nh:Nh T K h)(hx:x∉T)(hx2:x∈T2)(hs:∀t∈T,t∈T2)(hg:(x,g0)∈K)(S:Sc n E T2 K g0 K1)(hh:h<n)(he:x∈E h)(P:zt K1 x h K'):Sc n E T K h K':=by
 obtain⟨nd,P⟩:=P;have back:∀t g,t∉T->t≠x->(t,g)∈K1->∃u,u∉T/\(u,g)∈K:=fun t g ht hne m=>by
  by_cases z:t∈T2
  .exact⟨t,ht,(S.old t z g).mp m⟩
  .rcases(S.img g).mp ⟨t,z,m⟩with rfl|⟨u,hu,m⟩
   .exact⟨x,hx,hg⟩
   .exact⟨u,fun w=>hu (hs u w),m⟩
 refine⟨⟨nd,fun t g m=>?_⟩,fun t ht g=>?_,fun g=>⟨fun⟨t,ht,m⟩=>?_,fun w=>?_⟩,fun t u g ht hu m1 m2=>?_⟩
 .rcases(P t g).mp m with⟨rfl,rfl⟩|⟨_,m⟩
  .exact⟨hh,he⟩
  .exact S.ok.ed t g m
 .rw[P];have ne:t≠x:=fun e=>hx (e▸ht);rw[<-S.old t (hs t ht) g];exact⟨fun w=>(w.resolve_left fun q=>ne q.1).2,fun w=>.inr ⟨ne,w⟩⟩
 .rcases(P t g).mp m with⟨rfl,rfl⟩|⟨hne,m⟩
  .exact .inl rfl
  .exact .inr (back t g ht hne m)
 .rcases w with rfl|⟨t,ht,m⟩
  .exact⟨x,hx,(P _ _).mpr (.inl ⟨rfl,rfl⟩)⟩
  .have key:(∃t,t∉T2/\(t,g)∈K1)->∃t,t∉T/\(t,g)∈K':=fun⟨u,hu,mu⟩=>⟨u,fun w=>hu (hs u w),(P _ _).mpr (.inr ⟨fun e=>hu (e▸hx2),mu⟩)⟩
   by_cases e:t=x
   .subst e;have:=uS ok.nd m hg;subst this;exact key ((S.img g).mpr (.inl rfl))
   .by_cases z:t∈T2
    .exact⟨t,ht,(P _ _).mpr (.inr ⟨e,(S.old t z g).mpr m⟩)⟩
    .exact key ((S.img g).mpr (.inr ⟨t,z,m⟩))
 .rcases(P t g).mp m1 with⟨rfl,rfl⟩|⟨n1,m1⟩ <;> rcases(P u g).mp m2 with⟨rfl,e⟩|⟨n2,m2⟩
  .rfl
  .obtain⟨v,hv,mv⟩:=back u _ hu n2 m2;exact absurd mv (nh v hv)
  .subst e;obtain⟨v,hv,mv⟩:=back t _ ht n1 m1;exact absurd mv (nh v hv)
  .by_cases z1:t∈T2 <;> by_cases z2:u∈T2
   .exact inj t u g ht hu ((S.old t z1 g).mp m1) ((S.old u z2 g).mp m2)
   .have mk:=(S.old t z1 g).mp m1;rcases(S.img g).mp ⟨u,z2,m2⟩with rfl|⟨v,hv,mv⟩
    .exact absurd (inj t x _ ht hx mk hg) n1
    .have:=inj t v g ht (fun w=>hv (hs v w)) mk mv;subst this;exact absurd z1 hv
   .have mk:=(S.old u z2 g).mp m2;rcases(S.img g).mp ⟨t,z1,m1⟩with rfl|⟨v,hv,mv⟩
    .exact absurd (inj u x _ hu hx mk hg) n2
    .have:=inj u v g hu (fun w=>hv (hs v w)) mk mv;subst this;exact absurd z2 hv
   .exact S.inj t u g z1 z2 m1 m2
theorem JF{s:Nat}{A:Nat->Nat->Nat}(d:DS n A s)(hs:0<s)(hE:∀i j,i<n->j<n->0<A i j->j∈E i)(ok:Kok n E K)(inj:mU [] K)(nh:Nh [] K h)(hh:h<n){T':List Nat}(nd:T'.Nodup)(lt:∀t∈T',t<n)(h1:∀t∈E h,t∈T')(F:Fl E [] K T'):False:=by
 have hc:∀t,∃g,t∈T'->(t,g)∈K/\∀u∈E g,u∈T':=fun t=>by
  by_cases e:t∈T'
  .obtain⟨g,w⟩:=F t e (by simp);exact⟨g,fun _=>w⟩
  .exact⟨0,fun w=>absurd w e⟩
 obtain⟨κ,hk⟩:=Rj hc;have:=d.hall hs (S:=h::T'.map κ) (T:=T') (PZ.mpr ⟨fun w=>?_,?_⟩) nd (fun i hi=>?_) lt (fun i hi j hj pos=>?_)
 .simp at this;omega
 .obtain⟨t,ht,e⟩:=A_.mp w;exact nh t (by simp) (e▸(hk t ht).1)
 .refine RK.mpr ((RA.mp nd).imp fun{a b} w z=>w.2.2 ?_);exact inj a b (κ a) (by simp) (by simp) (hk a w.1).1 (z▸(hk b w.2.1).1)
 .rcases q_.mp hi with rfl|hi
  .exact hh
  .obtain⟨t,ht,rfl⟩:=A_.mp hi;exact(ok.ed t _ (hk t ht).1).1
 .rcases q_.mp hi with rfl|hi
  .exact h1 j (hE i j hh hj pos)
  .obtain⟨t,ht,rfl⟩:=A_.mp hi;exact(hk t ht).2 j (hE _ j (ok.ed t _ (hk t ht).1).1 hj pos)
structure Kps(n:Nat)(E:Nat->List Nat)(h:Nat)(K:List (Nat×Nat)):Prop where
 ok:Kok n E K
 inj:mU [] K
 img:∀g,(∃t,(t,g)∈K)↔g<h
theorem IH:Kps n E 0 []:=⟨⟨by simp,fun _ _ h=>(nomatch h)⟩,(fun _ _ _ _ _ h=>(nomatch h)),fun g=>⟨fun⟨_,h⟩=>(nomatch h),fun h=>by omega⟩⟩
theorem Kps.nh(k:Kps n E h K):Nh [] K h:=fun t _ m=>by have:=(k.img h).mp ⟨t,m⟩;omega
theorem Kps.next(k:Kps n E h K)(S:Sc n E [] K h K'):Kps n E (h+1) K':=by refine⟨S.ok,S.inj,fun g=>?_⟩;have:=S.img g;simp only[Ql,not_false_eq_true,true_and]at this;rw[this,k.img g];omega
theorem Kps.all(k:Kps n E n K)(hE:∀g,g<n->∀t∈E g,t<n):∃f:Nat->Nat,(∀p∈K,p.1=f p.2)/\(∀g,g<n->f g∈E g)/\((a_ n).map f).Perm (a_ n)/\(K.map (·.2)).Nodup/\(∀g,g∈K.map (·.2)↔g<n):=by
 have hc:∀g,∃t,g<n->(t,g)∈K:=fun g=>by
  by_cases e:g<n
  .obtain⟨t,w⟩:=(k.img g).mpr e;exact⟨t,fun _=>w⟩
  .exact⟨0,fun w=>absurd w e⟩
 obtain⟨f,hf⟩:=Rj hc;refine⟨f,fun p hp=>?_,fun g hg=>(k.ok.ed _ _ (hf g hg)).2,Rg.t0 ?_ ?_ (by simp),?_,fun g=>?_⟩
 .have lt:=(k.ok.ed p.1 p.2 hp).1;exact k.inj p.1 (f p.2) p.2 (by simp) (by simp) hp (hf _ lt)
 .refine RK.mpr ((RA.mp Qi).imp fun{a b} w z=>w.2.2 ?_);exact uS k.ok.nd (hf a (r_.mp w.1)) (z▸hf b (r_.mp w.2.1))
 .intro x hx;obtain⟨g,hg,rfl⟩:=A_.mp hx;have hg:=r_.mp hg;exact r_.mpr (hE g hg _ (k.ok.ed _ _ (hf g hg)).2)
 .have nd:K.Nodup:=(List.pairwise_map.mp k.ok.nd).imp fun{a b} w z=>w (by rw[z]);refine RK.mpr ((RA.mp nd).imp fun{a b} w z=>w.2.2 ?_);have:=k.inj a.1 b.1 a.2 (by simp) (by simp) w.1 (by rw[z];exact w.2.1);exact Wa this z
 .rw[<-k.img g];constructor
  .intro w;obtain⟨p,hp,rfl⟩:=A_.mp w;exact⟨p.1,hp⟩
  .rintro⟨t,m⟩
   exact A_.mpr ⟨(t,g),m,rfl⟩
end
end Bk
end
namespace Law
open PySem PySem.Spec PyProof.Rows L2 DL
abbrev gv(i:Nat):DL.FE:=fun r=>DL.dN r i
abbrev ci(i:Int):DL.FE:=fun _=>.ok (.int i)
abbrev q0:List DL.Md:=[.bw,.bw]
abbrev bq:List DL.Md:=[.sh,.sh,.sh]
abbrev bC:List DL.Md:=[.sh,.sh]
abbrev bY:List DL.Md:=[.bw,.bw,.sh,.sh,.sh]
abbrev bX:List DL.Md:=[.sh,.ow,.sh,.sh,.sh,.sh,.sh,.sh,.sh]
abbrev cw:List DL.Md:=[.bw,.sh,.sh]
abbrev c6:List DL.Md:=[.bw,.bw,.sh,.sh]
abbrev c0:List DL.Md:=[.bw,.bw,.ow,.sh,.sh]
abbrev dM:List DL.Md:=[.bw,.bw,.ow,.sh,.sh,.sh,.sh]
abbrev dL:List DL.Md:=[.bw,.sh]
abbrev en:List DL.Md:=[.bw,.sh,.sh,.sh,.sh,.sh]
abbrev fm:List DL.Md:=[.bw,.ow,.sh,.sh,.sh,.sh,.sh]
abbrev gm:List DL.Md:=[.bw,.bw,.bw,.sh]
abbrev gR:List DL.Md:=[.sh,.sh,.ow,.sh,.sh]
abbrev iK:List DL.Md:=[.sh,.bw,.ow,.sh]
abbrev iJ:List DL.Md:=[.sh,.ow,.sh]
abbrev iI:List DL.Md:=[.bw,.ow,.sh,.ow,.sh,.sh,.sh]
abbrev iH:List DL.Md:=[.bw,.bw,.bw,.ow,.sh,.sh,.sh,.sh]
abbrev iG:List DL.Md:=[.bw,.bw,.ow,.ow,.sh]
abbrev jT:List DL.Md:=[.bw,.bw,.ow,.sh,.ow,.sh,.sh]
abbrev jS:List DL.Md:=[.bw,.bw,.sh,.sh,.sh,.sh,.sh]
abbrev jR:List DL.Md:=[.bw,.sh,.sh,.sh,.sh,.ow,.sh]
abbrev jQ:List DL.Md:=[.sh,.sh,.sh,.sh,.sh]
abbrev jP:List DL.Md:=[.bw,.bw,.bw,.bw,.ow,.sh,.sh,.sh]
abbrev jO:List DL.Md:=[.bw,.ow,.sh,.sh,.sh,.sh]
abbrev lE:List DL.Md:=[.bw,.sh,.sh,.ow,.sh,.sh,.sh]
abbrev lD:List DL.Md:=[.sh,.bw,.sh,.sh,.sh,.sh]
abbrev lC:List DL.Md:=[.sh,.bw,.bw,.ow,.sh,.sh]
abbrev lB:List DL.Md:=[.sh,.bw,.bw,.sh,.sh,.sh]
abbrev lA:List DL.Md:=[.bw,.sh,.sh,.ow,.sh,.sh]
abbrev o5:List DL.Md:=[.bw,.bw,.bw,.bw,.ow,.sh,.ow,.sh]
abbrev o4:List DL.Md:=[.bw,.bw,.bw,.bw,.sh,.sh,.sh,.sh]
theorem Ad{α:Type}(us:List α)(h:us.length=2):∃a0 a1,us=[a0,a1]:=by match us,h with
|[_,_],_=>exact⟨_,_,rfl⟩
theorem Ae{α:Type}(us:List α)(h:us.length=4):∃a0 a1 a2 a3,us=[a0,a1,a2,a3]:=by match us,h with
|[_,_,_,_],_=>exact⟨_,_,_,_,rfl⟩
def top(i:Nat):Stmt:=TR.main.body.getD i (.Pass ⟨0,0,0,0⟩)
structure Txt(K:W.Frag)(mg:Str->Option b_):Prop where
 b_abs:mg "abs" = none
 b_range:mg "range" = none
 b_tuple:mg "tuple" = none
 b_isinstance:mg "isinstance" = none
 b_bool:mg "bool" = none
 b_int:mg "int" = none
 b_len:mg "len" = none
 b_enumerate:mg "enumerate" = none
 b_zip:mg "zip" = none
 b_set:mg "set" = none
 b_list:mg "list" = none
 b_all:mg "all" = none
 b_sum:mg "sum" = none
 k_MOST_HANDS_IN_LOTS:∃t,mg "MOST_HANDS_IN_LOTS" = some (.int 5 t)
 k_NOUGHT:∃a,mg "NOUGHT" = some (.ref a)/\KC K a (.tup [.int 0,.int 1])
 k_ONE:∃a,mg "ONE" = some (.ref a)/\KC K a (.tup [.int 1,.int 1])
abbrev xQ:Stmt:=top 54
abbrev EM:List Str:=["_law_one","_law_other","_law_rest"]
abbrev rH:List Str:=["_law_one","_law_other"]
theorem rC:FnScope EM rH (ax xQ):=bj
abbrev oI:FQ:=(a9 (f2 (gv 1) (ci 0) neD))
abbrev oG:FS:=(aa (ap bq 2 (f2 (gv 0) (gv 1) bg)) (aa (ap bq 0 (gv 1)) (aa (ap bq 1 (gv 2)) au)))
def xV:FS:=(aa (dF bq oI oG 1000) (aa (av bq (fC (ag (gv 0) ae) absD)) au))
def mG:List D->Res D:=fun ds=>ay false (xV (aN EM.length ds))
variable{P:B_}{w:PP}{K:W.Frag}{mg:Str->Option b_}{base:Heap}
theorem MO(T:Txt K mg)(A:DefAt K mg "_law_common" xQ):Callee P w K mg base "_law_common" rH [] 1 false bC mG:=
 bH (m':=bq) A rC fun f cdv A outer s H g E hr hu1=>have hu64:=hr.units;(aj (qe 1000 F_ (fj hu64 (af 1) iB) (aj (bz 2 rC.nd (gy (af 0) (af 1)))
   (aj (bz 0 rC.nd (v_ 1))
   (aj (bz 1 rC.nd (v_ 2))
   aw))))
   (aj (ba (Aj (by rfl) T.b_abs (aX (af 0) aY)))
   aw))
abbrev wO:Stmt:=top 55
abbrev Eh:List Str:=["_law_top","_law_bottom","_law_by"]
abbrev oa:List Str:=["_law_top","_law_bottom"]
theorem DW:FnScope Eh oa (ax wO):=bj
def wF:FS:=(aa (ap bq 2 (aA (ag (gv 0) (ag (gv 1) ae)) [] mG)) (aa (av bq (gr (ag (f2 (gv 0) (gv 2) kN) (ag (f2 (gv 1) (gv 2) kN) ae)))) au))
def ko:List D->Res D:=fun ds=>ay false (wF (aN Eh.length ds))
theorem JJ(T:Txt K mg)(A:DefAt K mg "_law_low" wO)(c__law_common:Callee P w K mg base "_law_common" rH [] 1 false bC mG):Callee P w K mg base "_law_low" oa [] 2 false bC ko:=
 bH (m':=bq) A DW fun f cdv A outer s H g E hr hu1=>(aj (bz 2 DW.nd (aK c__law_common (aQ (v_ 0) (aQ (v_ 1) aJ))))
   (aj (ba (ir (bR (qc (af 0) (af 2)) (bR (qc (af 1) (af 2)) bU))))
   aw))
abbrev wA:Stmt:=top 56
abbrev Ed:List Str:=["_law_a","_law_b"]
abbrev rn:List Str:=["_law_a","_law_b"]
theorem Ov:FnScope Ed rn (ax wA):=bj
def wW:FS:=(aa (av q0 (aA (ag (f2 (f2 (f2 (gv 0) (ci 0) aC) (f2 (gv 1) (ci 1) aC) cy) (f2 (f2 (gv 1) (ci 0) aC) (f2 (gv 0) (ci 1) aC) cy) addA) (ag (f2 (f2 (gv 0) (ci 1) aC) (f2 (gv 1) (ci 1) aC) cy) ae)) [] ko)) au)
def li:List D->Res D:=fun ds=>ay false (wW (aN Ed.length ds))
theorem Lu(T:Txt K mg)(A:DefAt K mg "_law_plus" wA)(c__law_low:Callee P w K mg base "_law_low" oa [] 2 false bC ko):Callee P w K mg base "_law_plus" rn [] 3 false q0 li:=
 bH (m':=q0) A Ov fun f cdv A outer s H g E hr hu1=>(aj (ba (aK c__law_low (aQ (dE (bE (gL (xB hu1 (af 0) iB) (xB hu1 (af 1) iB))) (bE (gL (xB hu1 (af 1) iB) (xB hu1 (af 0) iB)))) (aQ (gL (xB hu1 (af 0) iB) (xB hu1 (af 1) iB)) aJ))))
   aw)
abbrev oA:Stmt:=top 60
abbrev qX:List Str:=["_law_parts_here","_law_n","_law_rows","_law_hand","_law_row_here","_law_part","_law_got"]
abbrev q8:List Str:=["_law_parts_here","_law_n"]
theorem mH:FnScope qX q8 (ax oA):=bj
abbrev EZ:FS:=(aa (putF jT 4 (f2 (gv 6) (gv 3) aC) (aA (ag (f2 (gv 4) (f2 (gv 6) (gv 3) aC) aC) (ag (gv 5) ae)) [] li)) au)
abbrev E1:FS:=(aa (ap dM 4 (cD 1 [] (bL bB (ag (gv 1) ae)) (az 0) (fun _=>Res.ok true) (gr (ag (ci 0) (ag (ci 1) ae))))) (aa (cu jT (aG bJ (gv 0)) (dg (bh (az 5) (bh (az 6) dc))) EZ) (aa (cj "list" jT 2 (ag (fC (ag (gv 4) ae) tupD) ae) appD) au)))
def xH:FS:=(aa (ap jS 2 (dX ae)) (aa (cu dM (bL bB (ag (gv 1) ae)) (az 3) E1) (aa (av dM (fC (ag (gv 2) ae) tupD)) au)))
def lp:List D->Res D:=fun ds=>ay false (xH (aN qX.length ds))
theorem L8(T:Txt K mg)(A:DefAt K mg "_law_mixed" oA)(c__law_plus:Callee P w K mg base "_law_plus" rn [] 3 false q0 li):Callee P w K mg base "_law_mixed" q8 [] 4 false q0 lp:=
 bH (m':=dM) A mH fun f cdv A outer s H g E hr hu1=>(aj (dB 2 mH.nd (by rfl) (cX rfl) (fH bU))
   (aj (gJ F_ rfl (fX (by rfl) T.b_range (aX (af 1) aY)) (aZ 3 mH.nd) (NI (m':=jT) 4 (aj (qF 4 (X:=(aW bN P w K mg base qX "_law_mixed" (ax oA) f cdv A outer s H E).nox) (m:=dM) (N':=["_law_thing"]) (nl:=1) (cap:=[]) mH.nd rfl (by rfl) (by rfl) (eR (osc:=(ax oA)) (ON:=qX) rfl rfl (by decide+kernel)) (dZ.toC (fX (by rfl) T.b_range (aX (af 1) aY))) (fun _ _ _ _ _ _=>(aZ 0 (show Qe (["_law_thing"]:List Str)by decide+kernel))) (de (by decide)) (fun _ _ _ _ _ _=>fV) (fun _ _ _ _ _ _=>(ir (bR ia (bR ia bU)))))
   (aj (nF F_ rfl (pR (oM 0)) (hZ rfl (cT (aZ 5 mH.nd) (cT (aZ 6 mH.nd) hX))) (aj (jm 4 hu1 rfl (by rfl) (cO rfl) (xB hu1 (af 6) (af 3)) (aK c__law_plus (ai (xB hu1 (af 4) (xB hu1 (af 6) (af 3))) (ai (af 5) aJ))))
   aw))
   (aj (ic 2 rfl PK P9 P_ iC iV (by rfl) (cO rfl) (bR (i9 (by rfl) T.b_tuple (aX (af 4) aY)) bU))
   aw))) rfl))
   (aj (ba (i9 (by rfl) T.b_tuple (aX (af 2) aY)))
   aw)))
abbrev yl:Stmt:=top 22
abbrev E7:List Str:=["one","other","rest"]
abbrev yh:List Str:=["one","other"]
theorem rN:FnScope E7 yh (ax yl):=bj
abbrev O6:FQ:=(a9 (f2 (gv 1) (ci 0) neD))
abbrev O5:FS:=(aa (ap bq 2 (f2 (gv 0) (gv 1) bg)) (aa (ap bq 0 (gv 1)) (aa (ap bq 1 (gv 2)) au)))
def O4:FS:=(aa (dF bq O6 O5 1000) (aa (av bq (fC (ag (gv 0) ae) absD)) au))
def rM:List D->Res D:=fun ds=>ay false (O4 (aN E7.length ds))
theorem Oc(T:Txt K mg)(A:DefAt K mg "greatest_divisor" yl):Callee P w K mg base "greatest_divisor" yh [] 1 false bC rM:=
 bH (m':=bq) A rN fun f cdv A outer s H g E hr hu1=>have hu64:=hr.units;(aj (qe 1000 F_ (fj hu64 (af 1) iB) (aj (bz 2 rN.nd (gy (af 0) (af 1)))
   (aj (bz 0 rN.nd (v_ 1))
   (aj (bz 1 rN.nd (v_ 2))
   aw))))
   (aj (ba (Aj (by rfl) T.b_abs (aX (af 0) aY)))
   aw))
abbrev wJ:Stmt:=top 7
abbrev En:List Str:=["value"]
abbrev qM:List Str:=["value"]
theorem Oj:FnScope En qM (ax wJ):=bj
def Nu:FS:=(aa (av [Md.bw] (d8 (f1 (gv 0) (c7 "int")) (lv (f1 (gv 0) (c7 "bool"))))) au)
def kt:List D->Res D:=fun ds=>ay false (Nu (aN En.length ds))
theorem JO(T:Txt K mg)(A:DefAt K mg "is_whole" wJ):Callee P w K mg base "is_whole" qM [] 1 false [Md.bw] kt:=
 bH (m':=[Md.bw]) A Oj fun f cdv A outer s H g E hr hu1=>(aj (ba (nr (iT "int" "int" rfl (tU _) (by rfl) T.b_isinstance (by rfl) T.b_int (af 0)) (nu (FZ (iT "bool" "bool" rfl (vQ _) (by rfl) T.b_isinstance (by rfl) T.b_bool (af 0))))))
   aw)
abbrev wR:Stmt:=top 23
abbrev Ek:List Str:=["top","bottom","divisor"]
abbrev ku:List Str:=["top","bottom"]
theorem xS:FnScope Ek ku (ax wR):=bj
def wH:FS:=(aa (cA bq (eV (bu (bd (aA (ag (gv 0) ae) [] kt))) (eV (bu (bd (aA (ag (gv 1) ae) [] kt))) (a9 (f2 (gv 1) (ci 0) eqD)))) (aa (fun _=>Out.stuck) au) au) (aa (ap bq 2 (aA (ag (gv 0) (ag (gv 1) ae)) [] rM)) (aa (cA bq (a9 (f2 (gv 1) (ci 0) gG)) (aa (ap bq 2 (f1 (gv 2) lG)) au) au) (aa (av bq (gr (ag (f2 (gv 0) (gv 2) kN) (ag (f2 (gv 1) (gv 2) kN) ae)))) au))))
def e8:List D->Res D:=fun ds=>ay false (wH (aN Ek.length ds))
theorem JM(T:Txt K mg)(A:DefAt K mg "fraction" wR)(c_is_whole:Callee P w K mg base "is_whole" qM [] 1 false [Md.bw] kt)(c_greatest_divisor:Callee P w K mg base "greatest_divisor" yh [] 1 false bC rM):Callee P w K mg base "fraction" ku [] 2 false bC e8:=
 bH (m':=bq) A xS fun f cdv A outer s H g E hr hu1=>have hu64:=hr.units;(aj (bp (SW.toQ (cP (eL (dD (bE (aK c_is_whole (ai (af 0) aJ))))) (cP (eL (dD (bE (aK c_is_whole (ai (af 1) aJ))))) (jk (jN hu64 (af 1) iB))))) (aj qd
   aw)
   aw)
   (aj (bz 2 xS.nd (aK c_greatest_divisor (aQ (v_ 0) (aQ (v_ 1) aJ))))
   (aj (bp (ly (af 1) iB) (aj (bz 2 xS.nd (FX (af 2)))
   aw)
   aw)
   (aj (ba (ir (bR (qc (af 0) (af 2)) (bR (qc (af 1) (af 2)) bU))))
   aw))))
abbrev tH:Stmt:=top 24
abbrev Av:List Str:=["a","b"]
abbrev nH:List Str:=["a","b"]
theorem KH:FnScope Av nH (ax tH):=bj
def sV:FS:=(aa (av q0 (aA (ag (f2 (f2 (f2 (gv 0) (ci 0) aC) (f2 (gv 1) (ci 1) aC) cy) (f2 (f2 (gv 1) (ci 0) aC) (f2 (gv 0) (ci 1) aC) cy) addA) (ag (f2 (f2 (gv 0) (ci 1) aC) (f2 (gv 1) (ci 1) aC) cy) ae)) [] e8)) au)
def i6:List D->Res D:=fun ds=>ay false (sV (aN Av.length ds))
theorem FB(T:Txt K mg)(A:DefAt K mg "plus" tH)(c_fraction:Callee P w K mg base "fraction" ku [] 2 false bC e8):Callee P w K mg base "plus" nH [] 3 false q0 i6:=
 bH (m':=q0) A KH fun f cdv A outer s H g E hr hu1=>(aj (ba (aK c_fraction (aQ (dE (bE (gL (xB hu1 (af 0) iB) (xB hu1 (af 1) iB))) (bE (gL (xB hu1 (af 1) iB) (xB hu1 (af 0) iB)))) (aQ (gL (xB hu1 (af 0) iB) (xB hu1 (af 1) iB)) aJ))))
   aw)
abbrev uW:Stmt:=top 28
abbrev BO:List Str:=["shares","told","share"]
abbrev uG:List Str:=["shares"]
theorem qB:FnScope BO uG (ax uW):=bj
abbrev Dq:FS:=(aa (ap cw 1 (aA (ag (gv 1) (ag (gv 2) ae)) [] i6)) au)
def uE:FS:=(aa (ap cw 1 (fun _=>Res.ok (D.tup [D.int 0,D.int 1]))) (aa (cu cw (aG bJ (gv 0)) (az 2) Dq) (aa (av cw (gv 1)) au)))
def nR:List D->Res D:=fun ds=>ay false (uE (aN BO.length ds))
theorem HB(T:Txt K mg)(A:DefAt K mg "total" uW)(c_plus:Callee P w K mg base "plus" nH [] 3 false q0 i6):Callee P w K mg base "total" uG [] 4 false [Md.bw] nR:=
 bH (m':=cw) A qB fun f cdv A outer s H g E hr hu1=>(aj (bz 1 qB.nd (kU (by rfl) T.k_NOUGHT))
   (aj (nG F_ rfl (ig (af 0)) (fun _=>(aZ 2 qB.nd)) (fun _=>(aj (bz 1 qB.nd (aK c_plus (ai (af 1) (ai (af 2) aJ))))
   aw)))
   (aj (ba (v_ 1))
   aw)))
abbrev oC:Stmt:=top 18
abbrev qZ:List Str:=["got"]
abbrev q9:List Str:=["got"]
theorem EI:FnScope qZ q9 (ax oC):=bj
def oq:FS:=(aa (av [Md.bw] (fC (ag (cD 1 [0] (bL bB (ag (fC (ag (gv 0) ae) lenD) ae)) (az 0) (fun _=>Res.ok true) (f2 (gv 1) (gv 0) aC)) ae) tupD)) au)
def lq:List D->Res D:=fun ds=>ay false (oq (aN qZ.length ds))
theorem Mc(T:Txt K mg)(A:DefAt K mg "dealing_of" oC):Callee P w K mg base "dealing_of" q9 [] 1 false [Md.bw] lq:=
 bH (m':=[Md.bw]) A EI fun f cdv A outer s H g E hr hu1=>(aj (ba (i9 (by rfl) T.b_tuple (aX (SO.toB (gB (X:=(aW bN P w K mg base qZ "dealing_of" (ax oC) f cdv A outer s H E).nox) (N':=["hand","got"]) (nl:=1) (cap:=[0]) EI.nd rfl (eR (osc:=(ax oC)) (ON:=qZ) rfl rfl (by decide+kernel)) (dZ.toC (fX (by rfl) T.b_range (aX (bE (dj (by rfl) T.b_len (aX (af 0) aY))) aY))) (fun _ _ _ _ _ _=>(aZ 0 (show Qe (["hand","got"]:List Str)by decide+kernel))) (de (by decide)) (fun _ _ _ _ _ _=>fV) (fun _ _ _ _ _ _=>(eM hu1 (af 1) (af 0))))) aY)))
   aw)
abbrev rB:Stmt:=top 31
abbrev EO:List Str:=["things_of","hand","tried","keepers","thing"]
abbrev oH:List Str:=["things_of","hand","tried","keepers"]
theorem ya:FnScope EO oH (ax rB):=bj
abbrev jF(Fr:ip):FK:=(cg (mR (a9 (f2 (gv 4) (gv 2) du)) (cg (putK 2 (gv 4) (fun _=>Res.ok (D.bl true))) (cg (mO (a9 (f2 (gv 4) (gv 3) du)) (gv 0) (f2 (gv 3) (gv 4) aC) 2 3 Fr (cg (putK 3 (gv 4) (gv 1)) (cg (gj (fun _=>Res.ok (D.bl true))) jn))) jn)) jn) jn)
def kz(Fr:ip):FK:=(cg (pM (aG bJ (f2 (gv 0) (gv 1) aC)) 4 (jF Fr)) (cg (gj (fun _=>Res.ok (D.bl false))) jn))
def eQ:Nat->ip
|0=>fun ds=>gq 2 3 (OutK.stuck)
|n+1=>fun ds=>gq 2 3 (kz (eQ n) (aN EO.length ds))
abbrev yo:ip:=eQ 9
theorem E2(T:Txt K mg)(A:DefAt K mg "finds_a_thing" rB):∀n,CalleeK P w K mg base "finds_a_thing" oH (n+1) bC (eQ n)
|0=>Cj (k:=0) (ms:=bC) (fs:=fun _=>OutK.stuck) A ya rfl (by decide) (fun _ _ _ _ _ _ us hl=>by obtain⟨u0,u1,u2,u3,rfl⟩:=Ae us hl;kernel_rfl) fun f cdv A outer s H g E hr=>Kd
|n+1=>by
  have cr:CalleeK P w K mg base "finds_a_thing" oH (n+1) bC (eQ n):=E2 T A n;refine Cj (k:=n+1) (ms:=bC) (fs:=kz (eQ n)) A ya rfl (by decide) (fun _ _ _ _ _ _ us hl=>by obtain⟨u0,u1,u2,u3,rfl⟩:=Ae us hl;kernel_rfl) fun f cdv A outer s H g E hr=>?_;have hu1:=ng hr;have hu64:=hr.units;exact(kS (Gs 4 F_ rfl (sx (eM hu1 (af 0) (af 1))) rfl ya.nd (by rfl) (cX rfl) (kS (za (sM hu1 (af 4) (af 2)) (kS (zF 2 hu1 rfl (by rfl) (cO rfl) (af 4) cI)
   (kS (Hf 2 3 cr (hr.mono (by omega)) (sM hu1 (af 4) (af 3)) (v_ 0) (eM hu1 (af 3) (af 4)) rfl rfl (by decide) (by rfl) (by rfl) (cO rfl) (cO rfl) (kS (zF 3 hu1 rfl (by rfl) (cO rfl) (af 4) (v_ 1))
   (kS (zG cI)
   l0)))
   l0))
   l0)
   l0))
   (kS (zG cI)
   l0))
theorem Nr(T:Txt K mg)(A:DefAt K mg "finds_a_thing" rB):CalleeK P w K mg base "finds_a_thing" oH 10 bC yo:=E2 T A 9
abbrev tF:Stmt:=top 27
abbrev Au:List Str:=["a","b"]
abbrev pT:List Str:=["a","b"]
theorem KF:FnScope Au pT (ax tF):=bj
def sU:FS:=(aa (av q0 (f2 (f2 (f2 (gv 0) (ci 0) aC) (f2 (gv 1) (ci 1) aC) cy) (f2 (f2 (gv 1) (ci 0) aC) (f2 (gv 0) (ci 1) aC) cy) gG)) au)
def iZ:List D->Res D:=fun ds=>ay false (sU (aN Au.length ds))
theorem GD(T:Txt K mg)(A:DefAt K mg "less" tF):Callee P w K mg base "less" pT [] 1 false q0 iZ:=
 bH (m':=q0) A KF fun f cdv A outer s H g E hr hu1=>(aj (ba (yO (bE (gL (xB hu1 (af 0) iB) (xB hu1 (af 1) iB))) (bE (gL (xB hu1 (af 1) iB) (xB hu1 (af 0) iB)))))
   aw)
abbrev oF:Stmt:=top 32
abbrev rP:List Str:=["table","things_of","row","keepers","hand","got","thing"]
abbrev x9:List Str:=["table"]
theorem kA:FnScope rP x9 (ax oF):=bj
abbrev E3:FS:=(aa (cj "list" fm 1 (ag (cD 2 [] (dy (gv 2)) (dg (bh (az 0) (bh (az 1) dc))) (bd (aA (ag (fun _=>Res.ok (D.tup [D.int 0,D.int 1])) (ag (gv 1) ae)) [] iZ)) (gv 0)) ae) appD) au)
abbrev E4:FS:=(aa (pB lE (gv 1) (gv 4) 3 yo) au)
abbrev E5:FS:=(aa (putF jR 5 (f2 (gv 3) (gv 6) aC) (gv 6)) au)
def x8:FS:=(aa (ap [.bw,.sh,.sh,.sh,.sh,.sh,.sh] 1 (dX ae)) (aa (cu fm (aG bJ (gv 0)) (az 2) E3) (aa (ap fm 3 (fun _=>Res.ok (D.dic []))) (aa (cu lE (bL bB (ag (fC (ag (gv 0) ae) lenD) ae)) (az 4) E4) (aa (ap lE 5 (fun _=>Res.ok (D.dic []))) (aa (cu jR (aG ix (gv 3)) (az 6) E5) (aa (av jR (aA (ag (gv 5) ae) [] lq)) au)))))))
def rO:List D->Res D:=fun ds=>ay false (x8 (aN rP.length ds))
theorem NO(T:Txt K mg)(A:DefAt K mg "dealing_within" oF)(c_less:Callee P w K mg base "less" pT [] 1 false q0 iZ)(c_finds_a_thing:CalleeK P w K mg base "finds_a_thing" oH 10 bC yo)(c_dealing_of:Callee P w K mg base "dealing_of" q9 [] 1 false [Md.bw] lq):Callee P w K mg base "dealing_within" x9 [] 11 false [Md.bw] rO:=
 bH (m':=jR) A kA fun f cdv A outer s H g E hr hu1=>(aj (dB 1 kA.nd (by rfl) (cX rfl) (fH bU))
   (aj (nF F_ rfl (pR (oM 0)) (aZ 2 kA.nd) (aj (ic 1 rfl PK P9 P_ iC iV (by rfl) (cO rfl) (bR (SO.toE (gB (X:=(aW bN P w K mg base rP "dealing_within" (ax oF) f cdv A outer s H E).nox) (N':=["thing","share"]) (nl:=2) (cap:=[]) kA.nd rfl (eR (osc:=(ax oF)) (ON:=rP) rfl rfl (by decide+kernel)) (dZ.toC (pQ (by rfl) T.b_enumerate (v_ 2))) (fun _ _ _ _ _ _=>(hZ rfl (cT (aZ 0 (show Qe (["thing","share"]:List Str)by decide+kernel)) (cT (aZ 1 (show Qe (["thing","share"]:List Str)by decide+kernel)) hX)))) (l9 (ij (de (by decide)) (ij (de (by decide)) mo))) (fun _ _ _ _ _ _=>(tJ (dD (bE (aK c_less (ai (bE (kU (by rfl) T.k_NOUGHT)) (ai (af 1) aJ))))))) (fun _ _ _ _ _ _=>(v_ 0)))) bU))
   aw))
   (aj (dB 3 kA.nd (by rfl) (cX rfl) kh)
   (aj (h9 1 rfl (gJ F_ rfl (fX (by rfl) T.b_range (aX (bE (dj (by rfl) T.b_len (aX (af 0) aY))) aY)) (aZ 4 kA.nd) (aj (Ky 3 c_finds_a_thing (hr.mono (by decide)) (v_ 1) (v_ 4) (by rfl) (by rfl) (cO rfl))
   aw)))
   (aj (dB 5 kA.nd (by rfl) (cX rfl) kh)
   (aj (h9 3 rfl (tz F_ rfl (v_ 3) (fun _=>(aZ 6 kA.nd)) (fun _=>(aj (jm 5 hu1 rfl (by rfl) (cO rfl) (xB hu1 (af 3) (af 6)) (v_ 6))
   aw))))
   (aj (ba (aK c_dealing_of (ai (af 5) aJ)))
   aw)))))))
abbrev uT:Stmt:=top 29
abbrev BL:List Str:=["shares","told","share"]
abbrev qj:List Str:=["shares"]
theorem qA:FnScope BL qj (ax uT):=bj
abbrev DI:FS:=(aa (cA cw (bd (aA (ag (gv 2) (ag (gv 1) ae)) [] iZ)) (aa (ap cw 1 (gv 2)) au) au) au)
def uB:FS:=(aa (ap cw 1 (f2 (gv 0) (ci 0) aC)) (aa (cu cw (aG bJ (gv 0)) (az 2) DI) (aa (av cw (gv 1)) au)))
def kT:List D->Res D:=fun ds=>ay false (uB (aN BL.length ds))
theorem Hy(T:Txt K mg)(A:DefAt K mg "least" uT)(c_less:Callee P w K mg base "less" pT [] 1 false q0 iZ):Callee P w K mg base "least" qj [] 2 false [Md.bw] kT:=
 bH (m':=cw) A qA fun f cdv A outer s H g E hr hu1=>(aj (bz 1 qA.nd (eM hu1 (af 0) iB))
   (aj (nG F_ rfl (ig (af 0)) (fun _=>(aZ 2 qA.nd)) (fun _=>(aj (bp (dD (bE (aK c_less (ai (af 2) (ai (af 1) aJ))))) (aj (bz 1 qA.nd (v_ 2))
   aw)
   aw)
   aw)))
   (aj (ba (v_ 1))
   aw)))
abbrev uU:Stmt:=top 25
abbrev BM:List Str:=["a","b"]
abbrev qk:List Str:=["a","b"]
theorem LR:FnScope BM qk (ax uU):=bj
def uC:FS:=(aa (av q0 (aA (ag (f2 (f2 (f2 (gv 0) (ci 0) aC) (f2 (gv 1) (ci 1) aC) cy) (f2 (f2 (gv 1) (ci 0) aC) (f2 (gv 0) (ci 1) aC) cy) iE) (ag (f2 (f2 (gv 0) (ci 1) aC) (f2 (gv 1) (ci 1) aC) cy) ae)) [] e8)) au)
def jA:List D->Res D:=fun ds=>ay false (uC (aN BM.length ds))
theorem Hz(T:Txt K mg)(A:DefAt K mg "minus" uU)(c_fraction:Callee P w K mg base "fraction" ku [] 2 false bC e8):Callee P w K mg base "minus" qk [] 3 false q0 jA:=
 bH (m':=q0) A LR fun f cdv A outer s H g E hr hu1=>(aj (ba (aK c_fraction (aQ (sH (bE (gL (xB hu1 (af 0) iB) (xB hu1 (af 1) iB))) (bE (gL (xB hu1 (af 1) iB) (xB hu1 (af 0) iB)))) (aQ (gL (xB hu1 (af 0) iB) (xB hu1 (af 1) iB)) aJ))))
   aw)
abbrev n5:Stmt:=top 33
abbrev qJ:List Str:=["table","part","dealing","told","row","got"]
abbrev vS:List Str:=["table","part","dealing"]
theorem oh:FnScope qJ vS (ax n5):=bj
abbrev Eb:FS:=(aa (cj "list" [.sh,.bw,.sh,.ow,.sh,.sh] 3 (ag (cD 2 [5,1] (dy (gv 4)) (dg (bh (az 0) (bh (az 1) dc))) (fun _=>Res.ok true) (kD (a9 (f2 (gv 0) (gv 2) eqD)) (aA (ag (gv 1) (ag (gv 3) ae)) [] jA) (gv 1))) ae) appD) au)
def vY:FS:=(aa (ap lD 3 (dX ae)) (aa (cu [.sh,.bw,.sh,.ow,.sh,.sh] (gW (gv 0) (gv 2)) (dg (bh (az 4) (bh (az 5) dc))) Eb) (aa (av lD (gv 3)) au)))
def qI:List D->Res D:=fun ds=>ay false (vY (aN qJ.length ds))
theorem Jf(T:Txt K mg)(A:DefAt K mg "without" n5)(c_minus:Callee P w K mg base "minus" qk [] 3 false q0 jA):Callee P w K mg base "without" vS [] 4 false [.sh,.bw,.sh] qI:=
 bH (m':=lD) A oh fun f cdv A outer s H g E hr hu1=>have hu64:=hr.units;(aj (dB 3 oh.nd (by rfl) (cX rfl) (fH bU))
   (aj (gJ F_ rfl (zB (by rfl) T.b_zip (v_ 0) (v_ 2)) (hZ rfl (cT (aZ 4 oh.nd) (cT (aZ 5 oh.nd) hX))) (aj (ic 3 rfl PK P9 P_ iC iV (by rfl) (cO rfl) (bR (SO.toE (gB (X:=(aW bN P w K mg base qJ "without" (ax n5) f cdv A outer s H E).nox) (N':=["thing","share","got","part"]) (nl:=2) (cap:=[5,1]) oh.nd rfl (eR (osc:=(ax n5)) (ON:=qJ) rfl rfl (by decide+kernel)) (dZ.toC (pQ (by rfl) T.b_enumerate (v_ 4))) (fun _ _ _ _ _ _=>(hZ rfl (cT (aZ 0 (show Qe (["thing","share","got","part"]:List Str)by decide+kernel)) (cT (aZ 1 (show Qe (["thing","share","got","part"]:List Str)by decide+kernel)) hX)))) (l9 (ij (de (by decide)) (ij (de (by decide)) mo))) (fun _ _ _ _ _ _=>fV) (fun _ _ _ _ _ _=>(FV (jN hu64 (af 0) (af 2)) (aK c_minus (ai (af 1) (ai (af 3) aJ))) (v_ 1))))) bU))
   aw))
   (aj (h9 3 rfl (ba (v_ 3)))
   aw)))
abbrev nU:Stmt:=top 34
abbrev qr:List Str:=["table","left","parts","dealing","part"]
abbrev vJ:List Str:=["table"]
theorem lc:FnScope qr vJ (ax nU):=bj
abbrev xG:FQ:=(a9 (f2 (aA (ag (f2 (gv 1) (ci 0) aC) ae) [] nR) (fun _=>Res.ok (D.tup [D.int 0,D.int 1])) neD))
abbrev DK:FS:=(aa (ap gR 3 (aA (ag (gv 1) ae) [] rO)) (aa (ap gR 4 (aA (ag (cD 2 [] (gW (gv 1) (gv 3)) (dg (bh (az 0) (bh (az 1) dc))) (fun _=>Res.ok true) (f2 (gv 0) (gv 1) aC)) ae) [] kT)) (aa (cj "list" gR 2 (ag (gr (ag (gv 4) (ag (gv 3) ae))) ae) appD) (aa (ap gR 1 (aA (ag (gv 1) (ag (gv 4) (ag (gv 3) ae))) [] qI)) au))))
def vH:FS:=(aa (ap jQ 1 (gv 0)) (aa (ap jQ 2 (dX ae)) (aa (dF gR xG DK 64) (aa (av jQ (gv 2)) au))))
def mz:List D->Res D:=fun ds=>ay false (vH (aN qr.length ds))
theorem Iy(T:Txt K mg)(A:DefAt K mg "parted" nU)(c_total:Callee P w K mg base "total" uG [] 4 false [Md.bw] nR)(c_dealing_within:Callee P w K mg base "dealing_within" x9 [] 11 false [Md.bw] rO)(c_least:Callee P w K mg base "least" qj [] 2 false [Md.bw] kT)(c_without:Callee P w K mg base "without" vS [] 4 false [.sh,.bw,.sh] qI):Callee P w K mg base "parted" vJ [] 12 false [Md.sh] mz:=
 bH (m':=jQ) A lc fun f cdv A outer s H g E hr hu1=>have hu64:=hr.units;(aj (bz 1 lc.nd (v_ 0))
   (aj (dB 2 lc.nd (by rfl) (cX rfl) (fH bU))
   (aj (qe 64 F_ (fj hu64 (bE (aK c_total (ai (xB hu1 (af 1) iB) aJ))) (bE (kU (by rfl) T.k_NOUGHT))) (aj (bz 3 lc.nd (aK c_dealing_within (ai (af 1) aJ)))
   (aj (bz 4 lc.nd (aK c_least (ai (SO.toB (gB (X:=(aW bN P w K mg base qr "parted" (ax nU) f cdv A outer s H E).nox) (N':=["row","thing"]) (nl:=2) (cap:=[]) lc.nd rfl (eR (osc:=(ax nU)) (ON:=qr) rfl rfl (by decide+kernel)) (dZ.toC (zB (by rfl) T.b_zip (v_ 1) (v_ 3))) (fun _ _ _ _ _ _=>(hZ rfl (cT (aZ 0 (show Qe (["row","thing"]:List Str)by decide+kernel)) (cT (aZ 1 (show Qe (["row","thing"]:List Str)by decide+kernel)) hX)))) (l9 (ij (de (by decide)) (ij (de (by decide)) mo))) (fun _ _ _ _ _ _=>fV) (fun _ _ _ _ _ _=>(eM hu1 (af 0) (af 1))))) aJ)))
   (aj (ic 2 rfl PK P9 P_ iC iV (by rfl) (cO rfl) (bR (ir (bR (v_ 4) (bR (v_ 3) bU))) bU))
   (aj (bz 1 lc.nd (aK c_without (aQ (v_ 1) (ai (af 4) (aQ (v_ 3) aJ)))))
   aw)))))
   (aj (h9 2 rfl (ba (v_ 2)))
   aw))))
abbrev ym:Stmt:=top 58
abbrev E8:List Str:=["_law_found","_law_n","_law_m","_law_thing"]
abbrev yd:List Str:=["_law_found","_law_n","_law_m"]
theorem Fd:FnScope E8 yd (ax ym):=bj
abbrev Fe:FS:=(aa (cA gm (eV (bu (bd (f1 (gv 3) (c7 "int")))) (eV (bd (f1 (gv 3) (c7 "bool"))) (bu (a9 (jz (ci 0) (gv 3) (gv 2) iN gG))))) (aa (av gm (fun _=>Res.ok (D.bl false))) au) au) au)
def yb:FS:=(aa (cA gm (eV (bu (bd (f1 (gv 0) (c7 "tuple")))) (a9 (f2 (fC (ag (gv 0) ae) lenD) (gv 1) neD))) (aa (av gm (fun _=>Res.ok (D.bl false))) au) au) (aa (cu gm (aG bJ (gv 0)) (az 3) Fe) (aa (av gm (f2 (f1 (gv 0) Am) (gv 1) eqD)) au)))
def rQ:List D->Res D:=fun ds=>ay false (yb (aN E8.length ds))
theorem NL(T:Txt K mg)(A:DefAt K mg "_law_is_dealing" ym):Callee P w K mg base "_law_is_dealing" yd [] 1 false [.bw,.bw,.bw] rQ:=
 bH (m':=gm) A Fd fun f cdv A outer s H g E hr hu1=>have hu64:=hr.units;(aj (bp (SW.toQ (cP (eL (dD (bE (iT "tuple" "tuple" rfl (vW _) (by rfl) T.b_isinstance (by rfl) T.b_tuple (af 0))))) (jk (fj hu64 (bE (dj (by rfl) T.b_len (aX (af 0) aY))) (af 1))))) (aj (ba cI)
   aw)
   aw)
   (aj (nG F_ rfl (ig (af 0)) (fun _=>(aZ 3 Fd.nd)) (fun _=>(aj (bp (SW.toQ (cP (eL (dD (bE (iT "int" "int" rfl (tU _) (by rfl) T.b_isinstance (by rfl) T.b_int (af 3))))) (cP (dD (bE (iT "bool" "bool" rfl (vQ _) (by rfl) T.b_isinstance (by rfl) T.b_bool (af 3)))) (jk (eL (C2 m7 pI pH z8 iB (af 3) (af 2))))))) (aj (ba cI)
   aw)
   aw)
   aw)))
   (aj (ba (gi hu64 (bE (LQ rfl (by rfl) T.b_len (by rfl) T.b_set (af 0))) (af 1)))
   aw)))
abbrev yk:Stmt:=top 57
abbrev E6:List Str:=["_law_found","_law_one"]
abbrev yg:List Str:=["_law_found"]
theorem Fb:FnScope E6 yg (ax yk):=bj
abbrev Fc:FS:=(aa (cA dL (eV (bu (bd (f1 (gv 1) (c7 "int")))) (bd (f1 (gv 1) (c7 "bool")))) (aa (av dL (fun _=>Res.ok (D.bl false))) au) au) au)
def yf:FS:=(aa (cA dL (eV (bu (bd (f1 (gv 0) (c7 "tuple")))) (a9 (f2 (fC (ag (gv 0) ae) lenD) (ci 2) neD))) (aa (av dL (fun _=>Res.ok (D.bl false))) au) au) (aa (cu dL (aG bJ (gv 0)) (az 1) Fc) (aa (av dL (d8 (f2 (f2 (gv 0) (ci 1) aC) (ci 0) je) (f2 (aA (ag (f2 (gv 0) (ci 0) aC) (ag (f2 (gv 0) (ci 1) aC) ae)) [] mG) (ci 1) eqD))) au)))
def rL:List D->Res D:=fun ds=>ay false (yf (aN E6.length ds))
theorem Ob(T:Txt K mg)(A:DefAt K mg "_law_is_fraction" yk)(c__law_common:Callee P w K mg base "_law_common" rH [] 1 false bC mG):Callee P w K mg base "_law_is_fraction" yg [] 2 false [Md.bw] rL:=
 bH (m':=dL) A Fb fun f cdv A outer s H g E hr hu1=>have hu64:=hr.units;(aj (bp (SW.toQ (cP (eL (dD (bE (iT "tuple" "tuple" rfl (vW _) (by rfl) T.b_isinstance (by rfl) T.b_tuple (af 0))))) (jk (fj hu64 (bE (dj (by rfl) T.b_len (aX (af 0) aY))) iB)))) (aj (ba cI)
   aw)
   aw)
   (aj (nG F_ rfl (ig (af 0)) (fun _=>(aZ 1 Fb.nd)) (fun _=>(aj (bp (SW.toQ (cP (eL (dD (bE (iT "int" "int" rfl (tU _) (by rfl) T.b_isinstance (by rfl) T.b_int (af 1))))) (jk (dD (bE (iT "bool" "bool" rfl (vQ _) (by rfl) T.b_isinstance (by rfl) T.b_bool (af 1))))))) (aj (ba cI)
   aw)
   aw)
   aw)))
   (aj (ba (nr (oU (xB hu1 (af 0) iB) iB) (nu (gi hu64 (bE (aK c__law_common (aQ (eM hu1 (af 0) iB) (aQ (eM hu1 (af 0) iB) aJ)))) iB))))
   aw)))
abbrev ls:Stmt:=top 62
abbrev mL:List Str:=["_law_parts_here","_law_table","_law_n","_law_total","_law_one"]
abbrev ye:List Str:=["_law_parts_here","_law_table"]
theorem lu:FnScope mL ye (ax ls):=bj
abbrev Ff:FS:=(aa (cA bY (eV (bu (bd (f1 (gv 4) (c7 "tuple")))) (eV (a9 (f2 (fC (ag (gv 4) ae) lenD) (ci 2) neD)) (eV (bu (bd (aA (ag (f2 (gv 4) (ci 0) aC) ae) [] rL))) (a9 (f2 (f2 (f2 (gv 4) (ci 0) aC) (ci 0) aC) (ci 0) iN))))) (aa (av bY (fun _=>Res.ok (D.bl false))) au) au) (aa (cA bY (bu (bd (aA (ag (f2 (gv 4) (ci 1) aC) (ag (gv 2) (ag (gv 2) ae))) [] rQ))) (aa (av bY (fun _=>Res.ok (D.bl false))) au) au) (aa (cA bY (bu (bd (fC (ag (cD 2 [1] (dy (f2 (gv 4) (ci 1) aC)) (dg (bh (az 0) (bh (az 1) dc))) (fun _=>Res.ok true) (f2 (f2 (f2 (f2 (gv 2) (gv 0) aC) (gv 1) aC) (ci 0) aC) (ci 0) je)) ae) allD))) (aa (av bY (fun _=>Res.ok (D.bl false))) au) au) (aa (ap bY 3 (aA (ag (gv 3) (ag (f2 (gv 4) (ci 0) aC) ae)) [] li)) au))))
def yc:FS:=(aa (ap bY 2 (fC (ag (gv 1) ae) lenD)) (aa (cA bY (eV (bu (bd (f1 (gv 0) (c7 "list")))) (bu (a9 (jz (ci 1) (fC (ag (gv 0) ae) lenD) (f2 (f2 (f2 (gv 2) (ci 1) iE) (f2 (gv 2) (ci 1) iE) br) (ci 1) addA) iN iN)))) (aa (av bY (fun _=>Res.ok (D.bl false))) au) au) (aa (ap bY 3 (gr (ag (ci 0) (ag (ci 1) ae)))) (aa (cu bY (aG bJ (gv 0)) (az 4) Ff) (aa (cA bY (a9 (f2 (fC (ag (cD 2 [] (aG bJ (gv 0)) (dg (bh (az 0) (bh (az 1) dc))) (fun _=>Res.ok true) (gv 1)) ae) pG) (fC (ag (gv 0) ae) lenD) neD)) (aa (av bY (fun _=>Res.ok (D.bl false))) au) au) (aa (av bY (d8 (f2 (gv 3) (gr (ag (ci 1) (ag (ci 1) ae))) eqD) (f2 (aA (ag (gv 0) (ag (gv 2) ae)) [] lp) (gv 1) eqD))) au))))))
def mK:List D->Res D:=fun ds=>ay false (yc (aN mL.length ds))
theorem NM(T:Txt K mg)(A:DefAt K mg "_law_parts_well" ls)(c__law_is_fraction:Callee P w K mg base "_law_is_fraction" yg [] 2 false [Md.bw] rL)(c__law_is_dealing:Callee P w K mg base "_law_is_dealing" yd [] 1 false [.bw,.bw,.bw] rQ)(c__law_plus:Callee P w K mg base "_law_plus" rn [] 3 false q0 li)(c__law_mixed:Callee P w K mg base "_law_mixed" q8 [] 4 false q0 lp):Callee P w K mg base "_law_parts_well" ye [] 5 false q0 mK:=
 bH (m':=bY) A lu fun f cdv A outer s H g E hr hu1=>have hu64:=hr.units;(aj (bz 2 lu.nd (dj (by rfl) T.b_len (aX (af 1) aY)))
   (aj (bp (SW.toQ (cP (eL (dD (bE (iT "list" "list" rfl (Mt _) (by rfl) T.b_isinstance (by rfl) T.b_list (af 0))))) (jk (eL (C2 m7 m7 pH pH iB (bE (dj (by rfl) T.b_len (aX (af 0) aY))) (bE (dE (bE (ib (bE (sH (af 2) iB)) (bE (sH (af 2) iB)))) iB))))))) (aj (ba cI)
   aw)
   aw)
   (aj (bz 3 lu.nd (ir (bR ia (bR ia bU))))
   (aj (nG F_ rfl (ig (af 0)) (fun _=>(aZ 4 lu.nd)) (fun _=>(aj (bp (SW.toQ (cP (eL (dD (bE (iT "tuple" "tuple" rfl (vW _) (by rfl) T.b_isinstance (by rfl) T.b_tuple (af 4))))) (cP (fj hu64 (bE (dj (by rfl) T.b_len (aX (af 4) aY))) iB) (cP (eL (dD (bE (aK c__law_is_fraction (ai (xB hu1 (af 4) iB) aJ))))) (jk (yV (xB hu1 (xB hu1 (af 4) iB) iB) iB)))))) (aj (ba cI)
   aw)
   aw)
   (aj (bp (eL (dD (bE (aK c__law_is_dealing (ai (xB hu1 (af 4) iB) (ai (af 2) (ai (af 2) aJ))))))) (aj (ba cI)
   aw)
   aw)
   (aj (bp (eL (dD (bE (FO rfl (by rfl) T.b_all (aX (SO.toB (gB (X:=(aW bN P w K mg base mL "_law_parts_well" (ax ls) f cdv A outer s H E).nox) (N':=["_law_hand","_law_thing","_law_table"]) (nl:=2) (cap:=[1]) lu.nd rfl (eR (osc:=(ax ls)) (ON:=mL) rfl rfl (by decide+kernel)) (dZ.toC (pQ (by rfl) T.b_enumerate (eM hu1 (af 4) iB))) (fun _ _ _ _ _ _=>(hZ rfl (cT (aZ 0 (show Qe (["_law_hand","_law_thing","_law_table"]:List Str)by decide+kernel)) (cT (aZ 1 (show Qe (["_law_hand","_law_thing","_law_table"]:List Str)by decide+kernel)) hX)))) (l9 (ij (de (by decide)) (ij (de (by decide)) mo))) (fun _ _ _ _ _ _=>fV) (fun _ _ _ _ _ _=>(oU (xB hu1 (xB hu1 (xB hu1 (af 2) (af 0)) (af 1)) iB) iB)))) aY))))) (aj (ba cI)
   aw)
   aw)
   (aj (bz 3 lu.nd (aK c__law_plus (ai (af 3) (ai (xB hu1 (af 4) iB) aJ))))
   aw))))))
   (aj (bp (fj hu64 (bE (NG rfl hu64 (by rfl) T.b_len (by rfl) T.b_set (aX (SO.toB (gB (X:=(aW bN P w K mg base mL "_law_parts_well" (ax ls) f cdv A outer s H E).nox) (N':=["_law_part","_law_got"]) (nl:=2) (cap:=[]) lu.nd rfl (eR (osc:=(ax ls)) (ON:=mL) rfl rfl (by decide+kernel)) (ig (af 0)) (fun _ _ _ _ _ _=>(hZ rfl (cT (aZ 0 (show Qe (["_law_part","_law_got"]:List Str)by decide+kernel)) (cT (aZ 1 (show Qe (["_law_part","_law_got"]:List Str)by decide+kernel)) hX)))) (l9 (ij (de (by decide)) (ij (de (by decide)) mo))) (fun _ _ _ _ _ _=>fV) (fun _ _ _ _ _ _=>(v_ 1)))) aY))) (bE (dj (by rfl) T.b_len (aX (af 0) aY)))) (aj (ba cI)
   aw)
   aw)
   (aj (ba (nr (gi hu64 (af 3) (bE (ir (bR ia (bR ia bU))))) (nu (gi hu64 (bE (aK c__law_mixed (ai (af 0) (ai (af 2) aJ)))) (af 1)))))
   aw))))))
abbrev wN:Stmt:=top 61
abbrev DM:List Str:=["_law_script","_law_many","_law_found","_law_k","_law_total","_law_j","_law_part"]
abbrev xy:List Str:=["_law_script","_law_many"]
theorem ll:FnScope DM xy (ax wN):=bj
abbrev Ew:FS:=(aa (ap dM 4 (f2 (gv 4) (f2 (f2 (gv 5) (ci 1) addA) (f2 (gv 6) (f2 (ci 10) (ci 30) gp) bg) br) addA)) au)
abbrev Ex:FS:=(aa (ap dM 4 (ci 0)) (aa (cu dM (dy (jU (gv 0) (j9 (f2 (ci 1) (gv 3) addA)) (j9 (ci 64)) (j9 (gv 1)))) (dg (bh (az 5) (bh (az 6) dc))) Ew) (aa (cj "list" dM 2 (ag (gv 4) ae) appD) au)))
def wE:FS:=(aa (ap jS 2 (dX ae)) (aa (cu dM (bL bB (ag (gv 1) ae)) (az 3) Ex) (aa (av jS (gv 2)) au)))
def qQ:List D->Res D:=fun ds=>ay false (wE (aN DM.length ds))
theorem JI(T:Txt K mg)(A:DefAt K mg "_law_all" wN):Callee P w K mg base "_law_all" xy [] 1 false q0 qQ:=
 bH (m':=jS) A ll fun f cdv A outer s H g E hr hu1=>(aj (dB 2 ll.nd (by rfl) (cX rfl) (fH bU))
   (aj (gJ F_ rfl (fX (by rfl) T.b_range (aX (af 1) aY)) (aZ 3 ll.nd) (aj (bz 4 ll.nd ia)
   (aj (gJ F_ rfl (pQ (by rfl) T.b_enumerate (F3 (af 0) (nB (bE (dE iB (af 3)))) (nB iB) (nB (af 1)))) (hZ rfl (cT (aZ 5 ll.nd) (cT (aZ 6 ll.nd) hX))) (aj (bz 4 ll.nd (dE (af 4) (bE (ib (bE (dE (af 5) iB)) (bE (gy (af 6) (bE (Ak iB iB))))))))
   aw))
   (aj (ic 2 rfl PK P9 P_ iC iV (by rfl) (cO rfl) (bR (v_ 4) bU))
   aw))))
   (aj (h9 2 rfl (ba (v_ 2)))
   aw)))
abbrev vZ:Stmt:=top 52
abbrev Ec:List Str:=["_law_script","_law_k","_law_cell_here","_law_stirred"]
abbrev rj:List Str:=["_law_script","_law_k"]
theorem rK:FnScope Ec rj (ax vZ):=bj
def rc:FS:=(aa (ap c6 2 (ci 0)) (aa (cA c6 (a9 (f2 (gv 1) (fC (ag (gv 0) ae) lenD) gG)) (aa (ap c6 2 (f2 (f2 (gv 0) (gv 1) aC) (f2 (ci 10) (ci 60) gp) bg)) au) au) (aa (cA c6 (dO (a9 (f2 (fC (ag (gv 0) ae) lenD) (ci 0) je)) (a9 (f2 (f2 (f2 (gv 0) (ci 0) aC) (ci 2) bg) (ci 0) eqD))) (aa (av c6 (gv 2)) au) au) (aa (ap c6 3 (f2 (f2 (f2 (f2 (f2 (f2 (f2 (gv 2) (f2 (f2 (ci 7) (gv 1) br) (gv 1) br) addA) (f2 (ci 13) (gv 1) br) addA) (ci 5) addA) (ci 48271) br) (ci 2147483647) bg) (ci 69621) br) (ci 1000000007) bg)) (aa (av c6 (f2 (f2 (f2 (f2 (f2 (gv 3) (ci 1) addA) (ci 40692) br) (ci 2147483629) bg) (ci 39373) br) (ci 999999937) bg)) au)))))
def fO:List D->Res D:=fun ds=>ay false (rc (aN Ec.length ds))
theorem Ls(T:Txt K mg)(A:DefAt K mg "_law_cell" vZ):Callee P w K mg base "_law_cell" rj [] 1 false q0 fO:=
 bH (m':=c6) A rK fun f cdv A outer s H g E hr hu1=>have hu64:=hr.units;(aj (bz 2 rK.nd ia)
   (aj (bp (ly (af 1) (bE (dj (by rfl) T.b_len (aX (af 0) aY)))) (aj (bz 2 rK.nd (gy (xB hu1 (af 0) (af 1)) (bE (Ak iB iB))))
   aw)
   aw)
   (aj (bp (SW.toQ (zX (lz (bE (dj (by rfl) T.b_len (aX (af 0) aY))) iB) (A8 (jN hu64 (bE (gy (xB hu1 (af 0) iB) iB)) iB)))) (aj (ba (v_ 2))
   aw)
   aw)
   (aj (bz 3 rK.nd (gy (bE (ib (bE (gy (bE (ib (bE (dE (bE (dE (bE (dE (af 2) (bE (ib (bE (ib iB (af 1))) (af 1))))) (bE (ib iB (af 1))))) iB)) iB)) iB)) iB)) iB))
   (aj (ba (gy (bE (ib (bE (gy (bE (ib (bE (dE (af 3) iB)) iB)) iB)) iB)) iB))
   aw)))))
abbrev wP:Stmt:=top 53
abbrev Ei:List Str:=["_law_cell_here","_law_m","_law_row_here","_law_thing"]
abbrev qL:List Str:=["_law_cell_here","_law_m"]
theorem rz:FnScope Ei qL (ax wP):=bj
abbrev Ey:FS:=(aa (cj "list" iK 2 (ag (f2 (gv 0) (f2 (gv 3) (ci 1) addA) bg) (ag (gv 3) ae)) insD) (aa (ap iK 0 (f2 (gv 0) (f2 (gv 3) (ci 1) addA) js)) au))
def wG:FS:=(aa (ap [.sh,.bw,.sh,.sh] 2 (dX ae)) (aa (cu iK (bL bB (ag (gv 1) ae)) (az 3) Ey) (aa (av iK (fC (ag (gv 2) ae) tupD)) au)))
def kr:List D->Res D:=fun ds=>ay false (wG (aN Ei.length ds))
theorem JK(T:Txt K mg)(A:DefAt K mg "_law_row" wP):Callee P w K mg base "_law_row" qL [] 1 false [.sh,.bw] kr:=
 bH (m':=iK) A rz fun f cdv A outer s H g E hr hu1=>(aj (dB 2 rz.nd (by rfl) (cX rfl) (fH bU))
   (aj (gJ F_ rfl (fX (by rfl) T.b_range (aX (af 1) aY)) (aZ 3 rz.nd) (aj (ic 2 rfl PK Uy PySem.F.type_list_insert Nb GZ (by rfl) (cO rfl) (bR (gy (af 0) (bE (dE (af 3) iB))) (bR (v_ 3) bU)))
   (aj (bz 0 rz.nd (tx (af 0) (bE (dE (af 3) iB))))
   aw)))
   (aj (ba (i9 (by rfl) T.b_tuple (aX (af 2) aY)))
   aw)))
abbrev oB:Stmt:=top 59
abbrev qY:List Str:=["_law_script","_law_at","_law_n","_law_many","_law_weights","_law_whole","_law_found","_law_k"]
abbrev xM:List Str:=["_law_script","_law_at","_law_n","_law_many"]
theorem oJ:FnScope qY xM (ax oB):=bj
abbrev ER:FS:=(aa (cj "list" o5 6 (ag (gr (ag (aA (ag (f2 (gv 4) (gv 7) aC) (ag (gv 5) ae)) [] ko) (ag (aA (ag (aA (ag (gv 0) (ag (f2 (f2 (gv 1) (f2 (ci 2) (gv 7) br) addA) (ci 1) addA) ae)) [] fO) (ag (gv 2) ae)) [] kr) ae))) ae) appD) au)
def xI:FS:=(aa (ap o4 4 (cD 1 [0,1] (bL bB (ag (gv 3) ae)) (az 0) (fun _=>Res.ok true) (f2 (ci 1) (f2 (aA (ag (gv 1) (ag (f2 (gv 2) (f2 (ci 2) (gv 0) br) addA) ae)) [] fO) (ci 60) bg) addA))) (aa (ap jP 5 (fC (ag (gv 4) ae) sumD)) (aa (ap jP 6 (dX ae)) (aa (cu o5 (bL bB (ag (gv 3) ae)) (az 7) ER) (aa (av jP (gv 6)) au)))))
def qU:List D->Res D:=fun ds=>ay false (xI (aN qY.length ds))
theorem L9(T:Txt K mg)(A:DefAt K mg "_law_parts" oB)(c__law_cell:Callee P w K mg base "_law_cell" rj [] 1 false q0 fO)(c__law_row:Callee P w K mg base "_law_row" qL [] 1 false [.sh,.bw] kr)(c__law_low:Callee P w K mg base "_law_low" oa [] 2 false bC ko):Callee P w K mg base "_law_parts" xM [] 3 false [.bw,.bw,.bw,.bw] qU:=
 bH (m':=jP) A oJ fun f cdv A outer s H g E hr hu1=>(aj (qF 4 (X:=(aW bN P w K mg base qY "_law_parts" (ax oB) f cdv A outer s H E).nox) (m:=o4) (N':=["_law_k","_law_script","_law_at"]) (nl:=1) (cap:=[0,1]) oJ.nd rfl (by rfl) (by rfl) (eR (osc:=(ax oB)) (ON:=qY) rfl rfl (by decide+kernel)) (dZ.toC (fX (by rfl) T.b_range (aX (af 3) aY))) (fun _ _ _ _ _ _=>(aZ 0 (show Qe (["_law_k","_law_script","_law_at"]:List Str)by decide+kernel))) (de (by decide)) (fun _ _ _ _ _ _=>fV) (fun _ _ _ _ _ _=>(dE iB (bE (gy (bE (aK c__law_cell (ai (af 1) (ai (bE (dE (af 2) (bE (ib iB (af 0))))) aJ)))) iB)))))
   (aj (bz 5 oJ.nd (F4 rfl (by rfl) T.b_sum (aX (af 4) aY)))
   (aj (dB 6 oJ.nd (by rfl) (cX rfl) (fH bU))
   (aj (gJ F_ rfl (fX (by rfl) T.b_range (aX (af 3) aY)) (aZ 7 oJ.nd) (aj (ic 6 rfl PK P9 P_ iC iV (by rfl) (cO rfl) (bR (ir (bR (aK c__law_low (aQ (eM hu1 (af 4) (af 7)) (aQ (v_ 5) aJ))) (bR (aK c__law_row (aQ (aK c__law_cell (ai (af 0) (ai (bE (dE (bE (dE (af 1) (bE (ib iB (af 7))))) iB)) aJ))) (ai (af 2) aJ))) bU))) bU))
   aw))
   (aj (h9 6 rfl (ba (v_ 6)))
   aw)))))
abbrev wD:Stmt:=top 12
abbrev Eg:List Str:=["wishes"]
abbrev lj:List Str:=["wishes"]
theorem OK:FnScope Eg lj (ax wD):=bj
def xi:FS:=(aa (av [Md.bw] (fC (ag (f2 (gv 0) (ci 0) aC) ae) lenD)) au)
def gE:List D->Res D:=fun ds=>ay false (xi (aN Eg.length ds))
theorem Lr(T:Txt K mg)(A:DefAt K mg "things_in" wD):Callee P w K mg base "things_in" lj [] 1 false [Md.bw] gE:=
 bH (m':=[Md.bw]) A OK fun f cdv A outer s H g E hr hu1=>(aj (ba (dj (by rfl) T.b_len (aX (xB hu1 (af 0) iB) aY)))
   aw)
abbrev wB:Stmt:=top 13
abbrev Ee:List Str:=["wishes"]
abbrev xj:List Str:=["wishes"]
theorem Ox:FnScope Ee xj (ax wB):=bj
def wX:FS:=(aa (av [Md.bw] (f2 (aA (ag (gv 0) ae) [] gE) (fC (ag (gv 0) ae) lenD) eqD)) au)
def re:List D->Res D:=fun ds=>ay false (wX (aN Ee.length ds))
theorem Lw(T:Txt K mg)(A:DefAt K mg "is_square" wB)(c_things_in:Callee P w K mg base "things_in" lj [] 1 false [Md.bw] gE):Callee P w K mg base "is_square" xj [] 2 false [Md.bw] re:=
 bH (m':=[Md.bw]) A Ox fun f cdv A outer s H g E hr hu1=>have hu64:=hr.units;(aj (ba (gi hu64 (bE (aK c_things_in (ai (af 0) aJ))) (bE (dj (by rfl) T.b_len (aX (af 0) aY)))))
   aw)
abbrev yu:Stmt:=top 14
abbrev Fa:List Str:=["wishes"]
abbrev yq:List Str:=["wishes"]
theorem O7:FnScope Fa yq (ax yu):=bj
def rW:FS:=(aa (cA [Md.bw] (bu (bd (aA (ag (gv 0) ae) [] re))) (aa (fun _=>Out.stuck) au) au) au)
def rX:List D->Res D:=fun ds=>ay false (rW (aN Fa.length ds))
theorem OE(T:Txt K mg)(A:DefAt K mg "refuse_unless_square" yu)(c_is_square:Callee P w K mg base "is_square" xj [] 2 false [Md.bw] re):Callee P w K mg base "refuse_unless_square" yq [] 3 false [Md.bw] rX:=
 bH (m':=[Md.bw]) A O7 fun f cdv A outer s H g E hr hu1=>(aj (bp (eL (dD (bE (aK c_is_square (ai (af 0) aJ))))) (aj qd
   aw)
   aw)
   aw)
abbrev uV:Stmt:=top 26
abbrev BN:List Str:=["a","b"]
abbrev ql:List Str:=["a","b"]
theorem LS:FnScope BN ql (ax uV):=bj
def uD:FS:=(aa (av q0 (aA (ag (f2 (f2 (gv 0) (ci 0) aC) (f2 (gv 1) (ci 0) aC) cy) (ag (f2 (f2 (gv 0) (ci 1) aC) (f2 (gv 1) (ci 1) aC) cy) ae)) [] e8)) au)
def jB:List D->Res D:=fun ds=>ay false (uD (aN BN.length ds))
theorem HA(T:Txt K mg)(A:DefAt K mg "times" uV)(c_fraction:Callee P w K mg base "fraction" ku [] 2 false bC e8):Callee P w K mg base "times" ql [] 3 false q0 jB:=
 bH (m':=q0) A LS fun f cdv A outer s H g E hr hu1=>(aj (ba (aK c_fraction (aQ (gL (xB hu1 (af 0) iB) (xB hu1 (af 1) iB)) (aQ (gL (xB hu1 (af 0) iB) (xB hu1 (af 1) iB)) aJ))))
   aw)
abbrev oK:Stmt:=top 36
abbrev rS:List Str:=["left","targets"]
abbrev yt:List Str:=["left","targets"]
theorem Fg:FnScope rS yt (ax oK):=bj
def yr:FS:=(aa (av q0 (aA (ag (cD 1 [0,1] (aG bJ (gv 1)) (az 0) (fun _=>Res.ok true) (aA (ag (f2 (gv 1) (gv 0) aC) (ag (aA (ag (ci 1) (ag (fM "list" (gv 2) (ag (gv 0) ae) kQ) ae)) [] e8) ae)) [] jB)) ae) [] kT)) au)
def rR:List D->Res D:=fun ds=>ay false (yr (aN rS.length ds))
theorem OU(T:Txt K mg)(A:DefAt K mg "time_until_one_is_gone" oK)(c_fraction:Callee P w K mg base "fraction" ku [] 2 false bC e8)(c_times:Callee P w K mg base "times" ql [] 3 false q0 jB)(c_least:Callee P w K mg base "least" qj [] 2 false [Md.bw] kT):Callee P w K mg base "time_until_one_is_gone" yt [] 4 false q0 rR:=
 bH (m':=q0) A Fg fun f cdv A outer s H g E hr hu1=>(aj (ba (aK c_least (ai (SO.toB (gB (X:=(aW bN P w K mg base rS "time_until_one_is_gone" (ax oK) f cdv A outer s H E).nox) (N':=["thing","left","targets"]) (nl:=1) (cap:=[0,1]) Fg.nd rfl (eR (osc:=(ax oK)) (ON:=rS) rfl rfl (by decide+kernel)) (ig (af 1)) (fun _ _ _ _ _ _=>(aZ 0 (show Qe (["thing","left","targets"]:List Str)by decide+kernel))) (de (by decide)) (fun _ _ _ _ _ _=>fV) (fun _ _ _ _ _ _=>(aK c_times (ai (xB hu1 (af 1) (af 0)) (ai (bE (aK c_fraction (aQ ia (aQ (lw PK RU SU vX vU (af 2) (aX (af 0) aY)) aJ)))) aJ)))))) aJ)))
   aw)
abbrev wV:Stmt:=top 37
abbrev EF:List Str:=["left","targets","span","after","thing","bites"]
abbrev xP:List Str:=["left","targets","span"]
theorem rJ:FnScope EF xP (ax wV):=bj
abbrev EV:FS:=(aa (ap lC 5 (aA (ag (fM "list" (gv 1) (ag (gv 4) ae) kQ) (ag (ci 1) ae)) [] e8)) (aa (putF lC 3 (gv 4) (aA (ag (f2 (gv 0) (gv 4) aC) (ag (aA (ag (gv 5) (ag (gv 2) ae)) [] jB) ae)) [] jA)) au))
def xL:FS:=(aa (ap lB 3 (fun _=>Res.ok (D.dic []))) (aa (cu lC (aG ix (gv 0)) (az 4) EV) (aa (av lB (gv 3)) au)))
def qW:List D->Res D:=fun ds=>ay false (xL (aN EF.length ds))
theorem Me(T:Txt K mg)(A:DefAt K mg "left_after" wV)(c_fraction:Callee P w K mg base "fraction" ku [] 2 false bC e8)(c_times:Callee P w K mg base "times" ql [] 3 false q0 jB)(c_minus:Callee P w K mg base "minus" qk [] 3 false q0 jA):Callee P w K mg base "left_after" xP [] 4 false [.sh,.bw,.bw] qW:=
 bH (m':=lB) A rJ fun f cdv A outer s H g E hr hu1=>(aj (dB 3 rJ.nd (by rfl) (cX rfl) kh)
   (aj (tz F_ rfl (v_ 0) (fun _=>(aZ 4 rJ.nd)) (fun _=>(aj (bz 5 rJ.nd (aK c_fraction (aQ (lw PK RU SU vX vU (af 1) (aX (af 4) aY)) (aQ ia aJ))))
   (aj (jm 3 hu1 rfl (by rfl) (cO rfl) (af 4) (aK c_minus (ai (xB hu1 (af 0) (af 4)) (ai (bE (aK c_times (ai (af 5) (ai (af 2) aJ)))) aJ))))
   aw))))
   (aj (h9 3 rfl (ba (v_ 3)))
   aw)))
abbrev wK:Stmt:=top 38
abbrev Ep:List Str:=["left","told","thing"]
abbrev xE:List Str:=["left"]
theorem xT:FnScope Ep xE (ax wK):=bj
abbrev EC:FS:=(aa (cA iJ (a9 (f2 (f2 (gv 0) (gv 2) aC) (fun _=>Res.ok (D.tup [D.int 0,D.int 1])) neD)) (aa (putF iJ 1 (gv 2) (f2 (gv 0) (gv 2) aC)) au) au) au)
def xw:FS:=(aa (ap bq 1 (fun _=>Res.ok (D.dic []))) (aa (cu iJ (aG ix (gv 0)) (az 2) EC) (aa (av iJ (gv 1)) au)))
def qS:List D->Res D:=fun ds=>ay true (xw (aN Ep.length ds))
theorem JQ(T:Txt K mg)(A:DefAt K mg "not_gone" wK):Callee P w K mg base "not_gone" xE [] 1 true [Md.sh] qS:=
 bH (m':=iJ) A xT fun f cdv A outer s H g E hr hu1=>have hu64:=hr.units;(aj (dB 1 xT.nd (by rfl) (cX rfl) kh)
   (aj (tz F_ rfl (v_ 0) (fun _=>(aZ 2 xT.nd)) (fun _=>(aj (bp (fj hu64 (xB hu1 (af 0) (af 2)) (bE (kU (by rfl) T.k_NOUGHT))) (aj (jm 1 hu1 rfl (by rfl) (cO rfl) (af 2) (eM hu1 (af 0) (af 2)))
   aw)
   aw)
   aw)))
   (aj (Jo 1 rfl (by rfl) (cO rfl))
   aw)))
abbrev oD:Stmt:=top 17
abbrev rh:List Str:=["row","things"]
abbrev rq:List Str:=["row","things"]
theorem EH:FnScope rh rq (ax oD):=bj
def oE:FS:=(aa (av q0 (f2 (cD 1 [1] (aG bJ (gv 0)) (az 0) (a9 (f2 (gv 0) (gv 1) il)) (gv 0)) (ci 0) aC)) au)
def ja:List D->Res D:=fun ds=>ay false (oE (aN rh.length ds))
theorem Lv(T:Txt K mg)(A:DefAt K mg "best_left" oD):Callee P w K mg base "best_left" rq [] 1 false q0 ja:=
 bH (m':=q0) A EH fun f cdv A outer s H g E hr hu1=>(aj (ba (eM hu1 (SO.toB (gB (X:=(aW bN P w K mg base rh "best_left" (ax oD) f cdv A outer s H E).nox) (N':=["thing","things"]) (nl:=1) (cap:=[1]) EH.nd rfl (eR (osc:=(ax oD)) (ON:=rh) rfl rfl (by decide+kernel)) (ig (af 0)) (fun _ _ _ _ _ _=>(aZ 0 (show Qe (["thing","things"]:List Str)by decide+kernel))) (de (by decide)) (fun _ _ _ _ _ _=>(tJ (oZ hu1 (af 0) (af 1)))) (fun _ _ _ _ _ _=>(v_ 0)))) iB))
   aw)
abbrev k6:Stmt:=top 39
abbrev mC:List Str:=["wishes","left","thing","told","targets","span","after"]
abbrev xC:List Str:=["wishes"]
theorem jE:FnScope mC xC (ax k6):=bj
abbrev EG:FQ:=(bd (gv 1))
abbrev EA:FS:=(aa (putF fm 1 (gv 2) (fun _=>Res.ok (D.tup [D.int 1,D.int 1]))) au)
abbrev EB:FS:=(aa (ap iI 4 (cD 1 [1] (aG bJ (gv 0)) (az 0) (fun _=>Res.ok true) (aA (ag (gv 0) (ag (gv 1) ae)) [] ja))) (aa (ap [.bw,.ow,.sh,.ow,.ow,.sh,.sh] 5 (aA (ag (gv 1) (ag (gv 4) ae)) [] rR)) (aa (ap [.bw,.sh,.sh,.ow,.ow,.sh,.sh] 6 (aA (ag (gv 1) (ag (gv 4) (ag (gv 5) ae))) [] qW)) (aa (ap [.bw,.sh,.sh,.ow,.ow,.sh,.sh] 1 (iL (aA (ag (gv 6) ae) [] qS))) (aa (cj "list" iI 3 (ag (gr (ag (gv 4) (ag (gv 5) (ag (fC (ag (cD 1 [1] (aG ix (gv 6)) (az 0) (a9 (f2 (gv 0) (gv 1) du)) (gv 0)) ae) tupD) ae)))) ae) appD) au)))))
def xv:FS:=(aa (ap [.bw,.sh,.sh,.sh,.sh,.sh,.sh] 1 (fun _=>Res.ok (D.dic []))) (aa (cu fm (bL bB (ag (aA (ag (gv 0) ae) [] gE) ae)) (az 2) EA) (aa (ap fm 3 (dX ae)) (aa (dF iI EG EB 64) (aa (av fm (gv 3)) au)))))
def qR:List D->Res D:=fun ds=>ay false (xv (aN mC.length ds))
theorem JP(T:Txt K mg)(A:DefAt K mg "meals_of" k6)(c_things_in:Callee P w K mg base "things_in" lj [] 1 false [Md.bw] gE)(c_best_left:Callee P w K mg base "best_left" rq [] 1 false q0 ja)(c_time_until_one_is_gone:Callee P w K mg base "time_until_one_is_gone" yt [] 4 false q0 rR)(c_left_after:Callee P w K mg base "left_after" xP [] 4 false [.sh,.bw,.bw] qW)(c_not_gone:Callee P w K mg base "not_gone" xE [] 1 true [Md.sh] qS):Callee P w K mg base "meals_of" xC [] 5 false [Md.bw] qR:=
 bH (m':=fm) A jE fun f cdv A outer s H g E hr hu1=>(aj (dB 1 jE.nd (by rfl) (cX rfl) kh)
   (aj (gJ F_ rfl (fX (by rfl) T.b_range (aX (bE (aK c_things_in (ai (af 0) aJ))) aY)) (aZ 2 jE.nd) (aj (jm 1 hu1 rfl (by rfl) (cO rfl) (af 2) (kU (by rfl) T.k_ONE))
   aw))
   (aj (dB 3 jE.nd (by rfl) (cX rfl) (fH bU))
   (aj (qe 64 F_ (dD (af 1)) (aj (qF 4 (X:=(aW bN P w K mg base mC "meals_of" (ax k6) f cdv A outer s H E).nox) (m:=iI) (N':=["row","left"]) (nl:=1) (cap:=[1]) jE.nd rfl (by rfl) (by rfl) (eR (osc:=(ax k6)) (ON:=mC) rfl rfl (by decide+kernel)) (ig (af 0)) (fun _ _ _ _ _ _=>(aZ 0 (show Qe (["row","left"]:List Str)by decide+kernel))) (de (by decide)) (fun _ _ _ _ _ _=>fV) (fun _ _ _ _ _ _=>(aK c_best_left (ai (af 0) (ai (af 1) aJ)))))
   (aj (bz 5 jE.nd (aK c_time_until_one_is_gone (ai (af 1) (ai (af 4) aJ))))
   (aj (h9 1 rfl (bz 6 jE.nd (aK c_left_after (aQ (v_ 1) (ai (af 4) (ai (af 5) aJ))))))
   (aj (dB 1 jE.nd (by rfl) (cX rfl) (J6 (dds:=[]) c_not_gone (hr.mono (by decide)) (aQ (v_ 6) aJ)))
   (aj (h9 4 rfl (ic 3 rfl PK P9 P_ iC iV (by rfl) (cO rfl) (bR (ir (bR (v_ 4) (bR (v_ 5) (bR (i9 (by rfl) T.b_tuple (aX (SO.toB (gB (X:=(aW bN P w K mg base mC "meals_of" (ax k6) f cdv A outer s H E).nox) (N':=["thing","left"]) (nl:=1) (cap:=[1]) jE.nd rfl (eR (osc:=(ax k6)) (ON:=mC) rfl rfl (by decide+kernel)) (Kb (v_ 6)) (fun _ _ _ _ _ _=>(aZ 0 (show Qe (["thing","left"]:List Str)by decide+kernel))) (de (by decide)) (fun _ _ _ _ _ _=>(tJ (sM hu1 (af 0) (af 1)))) (fun _ _ _ _ _ _=>(v_ 0)))) aY)) bU)))) bU)))
   aw))))))
   (aj (h9 3 rfl (ba (v_ 3)))
   aw)))))
abbrev vR:Stmt:=top 41
abbrev C9:List Str:=["meals","log","now","targets","span","gone"]
abbrev vI:List Str:=["meals"]
theorem k9:FnScope C9 vI (ax vR):=bj
abbrev DJ:FS:=(aa (ap jO 2 (aA (ag (gv 2) (ag (gv 4) ae)) [] i6)) (aa (cj "list" jO 1 (ag (gr (ag (gv 2) (ag (gv 5) ae))) ae) appD) au))
def vG:FS:=(aa (ap en 1 (dX ae)) (aa (ap jO 2 (fun _=>Res.ok (D.tup [D.int 0,D.int 1]))) (aa (cu jO (aG bJ (gv 0)) (dg (bh (az 3) (bh (az 4) (bh (az 5) dc)))) DJ) (aa (av en (gv 1)) au))))
def qq:List D->Res D:=fun ds=>ay false (vG (aN C9.length ds))
theorem Ix(T:Txt K mg)(A:DefAt K mg "log_of" vR)(c_plus:Callee P w K mg base "plus" nH [] 3 false q0 i6):Callee P w K mg base "log_of" vI [] 4 false [Md.bw] qq:=
 bH (m':=en) A k9 fun f cdv A outer s H g E hr hu1=>(aj (dB 1 k9.nd (by rfl) (cX rfl) (fH bU))
   (aj (bz 2 k9.nd (kU (by rfl) T.k_NOUGHT))
   (aj (nF F_ rfl (pR (oM 0)) (hZ rfl (cT (aZ 3 k9.nd) (cT (aZ 4 k9.nd) (cT (aZ 5 k9.nd) hX)))) (aj (bz 2 k9.nd (aK c_plus (ai (af 2) (ai (af 4) aJ))))
   (aj (ic 1 rfl PK P9 P_ iC iV (by rfl) (cO rfl) (bR (ir (bR (v_ 2) (bR (v_ 5) bU))) bU))
   aw)))
   (aj (h9 1 rfl (ba (v_ 1)))
   aw))))
abbrev wC:Stmt:=top 40
abbrev Ef:List Str:=["wishes","hand","meals","shares","targets","span","gone","thing"]
abbrev xl:List Str:=["wishes","hand","meals"]
theorem mE:FnScope Ef xl (ax wC):=bj
abbrev EL:FS:=(aa (ap iH 7 (f2 (gv 4) (gv 1) aC)) (aa (putF iH 3 (gv 7) (aA (ag (f2 (gv 3) (gv 7) aC) (ag (gv 5) ae)) [] i6)) au))
def wZ:FS:=(aa (ap [.bw,.bw,.bw,.sh,.sh,.sh,.sh,.sh] 3 (f2 (dX (ag (fun _=>Res.ok (D.tup [D.int 0,D.int 1])) ae)) (aA (ag (gv 0) ae) [] gE) jM)) (aa (cu iH (aG bJ (gv 2)) (dg (bh (az 4) (bh (az 5) (bh (az 6) dc)))) EL) (aa (av iH (fC (ag (gv 3) ae) tupD)) au)))
def rg:List D->Res D:=fun ds=>ay false (wZ (aN Ef.length ds))
theorem Lq(T:Txt K mg)(A:DefAt K mg "shares_of" wC)(c_things_in:Callee P w K mg base "things_in" lj [] 1 false [Md.bw] gE)(c_plus:Callee P w K mg base "plus" nH [] 3 false q0 i6):Callee P w K mg base "shares_of" xl [] 4 false [.bw,.bw,.bw] rg:=
 bH (m':=iH) A mE fun f cdv A outer s H g E hr hu1=>(aj (dB 3 mE.nd (by rfl) (cX rfl) (GC (fH (bR (kU (by rfl) T.k_NOUGHT) bU)) (bE (aK c_things_in (ai (af 0) aJ)))))
   (aj (nF F_ rfl (pR (oM 2)) (hZ rfl (cT (aZ 4 mE.nd) (cT (aZ 5 mE.nd) (cT (aZ 6 mE.nd) hX)))) (aj (bz 7 mE.nd (eM hu1 (af 4) (af 1)))
   (aj (jm 3 hu1 rfl (by rfl) (cO rfl) (af 7) (aK c_plus (ai (xB hu1 (af 3) (af 7)) (ai (af 5) aJ))))
   aw)))
   (aj (ba (i9 (by rfl) T.b_tuple (aX (af 3) aY)))
   aw)))
abbrev nS:Stmt:=top 42
abbrev qi:List Str:=["wishes","meals","table"]
abbrev uF:List Str:=["wishes"]
theorem qz:FnScope qi uF (ax nS):=bj
def uA:FS:=(aa (mV cw (aA (ag (gv 0) ae) [] rX)) (aa (ap cw 1 (aA (ag (gv 0) ae) [] qR)) (aa (ap cw 2 (fC (ag (cD 1 [0,1] (bL bB (ag (fC (ag (gv 0) ae) lenD) ae)) (az 0) (fun _=>Res.ok true) (aA (ag (gv 1) (ag (gv 0) (ag (gv 2) ae))) [] rg)) ae) tupD)) (aa (av cw (gr (ag (gv 2) (ag (aA (ag (gv 1) ae) [] qq) ae)))) au))))
def qh:List D->Res D:=fun ds=>ay false (uA (aN qi.length ds))
theorem Hx(T:Txt K mg)(A:DefAt K mg "eaten" nS)(c_refuse_unless_square:Callee P w K mg base "refuse_unless_square" yq [] 3 false [Md.bw] rX)(c_meals_of:Callee P w K mg base "meals_of" xC [] 5 false [Md.bw] qR)(c_shares_of:Callee P w K mg base "shares_of" xl [] 4 false [.bw,.bw,.bw] rg)(c_log_of:Callee P w K mg base "log_of" vI [] 4 false [Md.bw] qq):Callee P w K mg base "eaten" uF [] 6 false [Md.bw] qh:=
 bH (m':=cw) A qz fun f cdv A outer s H g E hr hu1=>(aj (Bc (aK c_refuse_unless_square (ai (af 0) aJ)))
   (aj (bz 1 qz.nd (aK c_meals_of (ai (af 0) aJ)))
   (aj (bz 2 qz.nd (i9 (by rfl) T.b_tuple (aX (SO.toB (gB (X:=(aW bN P w K mg base qi "eaten" (ax nS) f cdv A outer s H E).nox) (N':=["hand","wishes","meals"]) (nl:=1) (cap:=[0,1]) qz.nd rfl (eR (osc:=(ax nS)) (ON:=qi) rfl rfl (by decide+kernel)) (dZ.toC (fX (by rfl) T.b_range (aX (bE (dj (by rfl) T.b_len (aX (af 0) aY))) aY))) (fun _ _ _ _ _ _=>(aZ 0 (show Qe (["hand","wishes","meals"]:List Str)by decide+kernel))) (de (by decide)) (fun _ _ _ _ _ _=>fV) (fun _ _ _ _ _ _=>(aK c_shares_of (ai (af 1) (ai (af 0) (ai (af 2) aJ))))))) aY)))
   (aj (ba (ir (bR (v_ 2) (bR (aK c_log_of (ai (af 1) aJ)) bU))))
   aw))))
abbrev yp:Stmt:=top 47
abbrev Fh:List Str:=["wishes"]
abbrev yv:List Str:=["wishes"]
theorem O8:FnScope Fh yv (ax yp):=bj
def rT:FS:=(aa (cA [Md.bw] (a9 (f2 (fC (ag (gv 0) ae) lenD) (ci 5) je)) (aa (fun _=>Out.stuck) au) au) au)
def rV:List D->Res D:=fun ds=>ay false (rT (aN Fh.length ds))
theorem OR(T:Txt K mg)(A:DefAt K mg "refuse_too_many_for_lots" yp):Callee P w K mg base "refuse_too_many_for_lots" yv [] 1 false [Md.bw] rV:=
 bH (m':=[Md.bw]) A O8 fun f cdv A outer s H g E hr hu1=>(aj (bp (lz (bE (dj (by rfl) T.b_len (aX (af 0) aY))) (bE (Kz (by rfl) T.k_MOST_HANDS_IN_LOTS))) (aj qd
   aw)
   aw)
   aw)
abbrev lh:Stmt:=top 49
abbrev mB:List Str:=["dealings","things","table","hand","got"]
abbrev xk:List Str:=["dealings","things"]
theorem mJ:FnScope mB xk (ax lh):=bj
abbrev EK:FS:=(aa (ap c0 4 (cD 1 [3] (aG bJ (gv 0)) (az 0) (fun _=>Res.ok true) (f2 (gv 0) (gv 1) aC))) (aa (cj "list" c0 2 (ag (fC (ag (cD 1 [0,4] (bL bB (ag (gv 1) ae)) (az 0) (fun _=>Res.ok true) (aA (ag (fM "list" (gv 2) (ag (gv 0) ae) kQ) (ag (fC (ag (gv 1) ae) lenD) ae)) [] e8)) ae) tupD) ae) appD) au))
def wY:FS:=(aa (ap bY 2 (dX ae)) (aa (cu c0 (bL bB (ag (fC (ag (f2 (gv 0) (ci 0) aC) ae) lenD) ae)) (az 3) EK) (aa (av c0 (fC (ag (gv 2) ae) tupD)) au)))
def rf:List D->Res D:=fun ds=>ay false (wY (aN mB.length ds))
theorem Lp(T:Txt K mg)(A:DefAt K mg "shares_in" lh)(c_fraction:Callee P w K mg base "fraction" ku [] 2 false bC e8):Callee P w K mg base "shares_in" xk [] 3 false q0 rf:=
 bH (m':=c0) A mJ fun f cdv A outer s H g E hr hu1=>(aj (dB 2 mJ.nd (by rfl) (cX rfl) (fH bU))
   (aj (gJ F_ rfl (fX (by rfl) T.b_range (aX (bE (dj (by rfl) T.b_len (aX (xB hu1 (af 0) iB) aY))) aY)) (aZ 3 mJ.nd) (aj (bz 4 mJ.nd (SO.toE (gB (X:=(aW bN P w K mg base mB "shares_in" (ax lh) f cdv A outer s H E).nox) (N':=["dealing","hand"]) (nl:=1) (cap:=[3]) mJ.nd rfl (eR (osc:=(ax lh)) (ON:=mB) rfl rfl (by decide+kernel)) (ig (af 0)) (fun _ _ _ _ _ _=>(aZ 0 (show Qe (["dealing","hand"]:List Str)by decide+kernel))) (de (by decide)) (fun _ _ _ _ _ _=>fV) (fun _ _ _ _ _ _=>(eM hu1 (af 0) (af 1))))))
   (aj (ic 2 rfl PK P9 P_ iC iV (by rfl) (cO rfl) (bR (i9 (by rfl) T.b_tuple (aX (SO.toB (gB (X:=(aW bN P w K mg base mB "shares_in" (ax lh) f cdv A outer s H E).nox) (N':=["thing","dealings","got"]) (nl:=1) (cap:=[0,4]) mJ.nd rfl (eR (osc:=(ax lh)) (ON:=mB) rfl rfl (by decide+kernel)) (dZ.toC (fX (by rfl) T.b_range (aX (af 1) aY))) (fun _ _ _ _ _ _=>(aZ 0 (show Qe (["thing","dealings","got"]:List Str)by decide+kernel))) (de (by decide)) (fun _ _ _ _ _ _=>fV) (fun _ _ _ _ _ _=>(aK c_fraction (aQ (lw PK RU SU vX vU (af 2) (aX (af 0) aY)) (aQ (dj (by rfl) T.b_len (aX (af 1) aY)) aJ)))))) aY)) bU))
   aw)))
   (aj (ba (i9 (by rfl) T.b_tuple (aX (af 2) aY)))
   aw)))
abbrev wS:Stmt:=top 8
abbrev Em:List Str:=["value","bound"]
abbrev xA:List Str:=["value","bound"]
theorem Oi:FnScope Em xA (ax wS):=bj
def wI:FS:=(aa (av q0 (d8 (aA (ag (gv 0) ae) [] kt) (jz (ci 0) (gv 0) (gv 1) iN gG))) au)
def oj:List D->Res D:=fun ds=>ay false (wI (aN Em.length ds))
theorem JN(T:Txt K mg)(A:DefAt K mg "is_below" wS)(c_is_whole:Callee P w K mg base "is_whole" qM [] 1 false [Md.bw] kt):Callee P w K mg base "is_below" xA [] 2 false q0 oj:=
 bH (m':=q0) A Oi fun f cdv A outer s H g E hr hu1=>(aj (ba (nr (aK c_is_whole (ai (af 0) aJ)) (nu (LP m7 pI pH z8 iB (af 0) (af 1)))))
   aw)
abbrev xR:Stmt:=top 9
abbrev EN:List Str:=["numbers","bound","ahead","place","number"]
abbrev xZ:List Str:=["numbers","bound"]
theorem rD:FnScope EN xZ (ax xR):=bj
abbrev yi:FS:=(aa (cA c0 (eV (bu (bd (aA (ag (gv 4) (ag (gv 1) ae)) [] oj))) (a9 (f2 (gv 4) (gv 2) il))) (aa (av c0 (gv 3)) au) au) (aa (putF c0 2 (gv 4) (fun _=>Res.ok (D.bl true))) au))
def xX:FS:=(aa (ap bY 2 (fun _=>Res.ok (D.dic []))) (aa (cu c0 (dy (gv 0)) (dg (bh (az 3) (bh (az 4) dc))) yi) (aa (av c0 (fC (ag (gv 0) ae) lenD)) au)))
def rF:List D->Res D:=fun ds=>ay false (xX (aN EN.length ds))
theorem MQ(T:Txt K mg)(A:DefAt K mg "first_wrong" xR)(c_is_below:Callee P w K mg base "is_below" xA [] 2 false q0 oj):Callee P w K mg base "first_wrong" xZ [] 3 false q0 rF:=
 bH (m':=c0) A rD fun f cdv A outer s H g E hr hu1=>(aj (dB 2 rD.nd (by rfl) (cX rfl) kh)
   (aj (nF F_ rfl (Ka (by rfl) T.b_enumerate (oM 0)) (hZ rfl (cT (aZ 3 rD.nd) (cT (aZ 4 rD.nd) hX))) (aj (bp (SW.toQ (cP (eL (dD (bE (aK c_is_below (ai (af 4) (ai (af 1) aJ)))))) (jk (oZ hu1 (af 4) (af 2))))) (aj (ba (v_ 3))
   aw)
   aw)
   (aj (jm 2 hu1 rfl (by rfl) (cO rfl) (af 4) cI)
   aw)))
   (aj (ba (dj (by rfl) T.b_len (aX (af 0) aY)))
   aw)))
abbrev wU:Stmt:=top 10
abbrev EE:List Str:=["numbers","bound"]
abbrev xO:List Str:=["numbers","bound"]
theorem OG:FnScope EE xO (ax wU):=bj
def xK:FS:=(aa (av q0 (f2 (aA (ag (gv 0) (ag (gv 1) ae)) [] rF) (fC (ag (gv 0) ae) lenD) eqD)) au)
def qV:List D->Res D:=fun ds=>ay false (xK (aN EE.length ds))
theorem Mb(T:Txt K mg)(A:DefAt K mg "are_unlike" wU)(c_first_wrong:Callee P w K mg base "first_wrong" xZ [] 3 false q0 rF):Callee P w K mg base "are_unlike" xO [] 4 false q0 qV:=
 bH (m':=q0) A OG fun f cdv A outer s H g E hr hu1=>have hu64:=hr.units;(aj (ba (gi hu64 (bE (aK c_first_wrong (ai (af 0) (ai (af 1) aJ)))) (bE (dj (by rfl) T.b_len (aX (af 0) aY)))))
   aw)
abbrev xU:Stmt:=top 11
abbrev EQ:List Str:=["numbers","bound"]
abbrev yj:List Str:=["numbers","bound"]
theorem OZ:FnScope EQ yj (ax xU):=bj
def yn:FS:=(aa (av q0 (d8 (f2 (fC (ag (gv 0) ae) lenD) (gv 1) eqD) (aA (ag (gv 0) (ag (gv 1) ae)) [] qV))) au)
def rE:List D->Res D:=fun ds=>ay false (yn (aN EQ.length ds))
theorem Nt(T:Txt K mg)(A:DefAt K mg "has_each_once" xU)(c_are_unlike:Callee P w K mg base "are_unlike" xO [] 4 false q0 qV):Callee P w K mg base "has_each_once" yj [] 5 false q0 rE:=
 bH (m':=q0) A OZ fun f cdv A outer s H g E hr hu1=>have hu64:=hr.units;(aj (ba (nr (gi hu64 (bE (dj (by rfl) T.b_len (aX (af 0) aY))) (af 1)) (nu (aK c_are_unlike (ai (af 0) (ai (af 1) aJ))))))
   aw)
abbrev wL:Stmt:=top 15
abbrev Er:List Str:=["wishes","order"]
abbrev xF:List Str:=["wishes","order"]
theorem Ol:FnScope Er xF (ax wL):=bj
def qP:FS:=(aa (cA q0 (a9 (f2 (gv 1) (fun _=>Res.ok D.non) o9)) (aa (av q0 (fC (ag (fC (ag (gv 0) ae) lenD) ae) l8)) au) au) (aa (cA q0 (bu (bd (aA (ag (gv 1) (ag (fC (ag (gv 0) ae) lenD) ae)) [] rE))) (aa (fun _=>Out.stuck) au) au) (aa (av q0 (fC (ag (gv 1) ae) l7)) au)))
def qT:List D->Res D:=fun ds=>ay false (qP (aN Er.length ds))
theorem JR(T:Txt K mg)(A:DefAtD K mg "order_of" wL [Value.none])(c_has_each_once:Callee P w K mg base "has_each_once" yj [] 5 false q0 rE):Callee P w K mg base "order_of" xF [] 6 false q0 qT:=by
 refine Ci (ds:=[]) (k:=5) (fs:=qP) (m':=q0) A Ol rfl 2 rfl (fun _ _ _ _ _ _ _ us hl=>by obtain⟨u0,u1,rfl⟩:=Ad us hl;exact⟨_,rfl,rfl⟩) fun f cdv A outer s H g E hr=>?_;have hu1:=ng hr;have hu64:=hr.units;exact(aj (bp (yW (af 1) (bE FY)) (aj (ba (SO.toE (Ck rfl (by rfl) T.b_list (by rfl) T.b_range (aX (bE (dj (by rfl) T.b_len (aX (af 0) aY))) aY))))
   aw)
   aw)
   (aj (bp (eL (dD (bE (aK c_has_each_once (ai (af 1) (ai (bE (dj (by rfl) T.b_len (aX (af 0) aY))) aJ)))))) (aj qd
   aw)
   aw)
   (aj (ba (SO.toE (Iv (by rfl) T.b_list (aX (af 1) aY))))
   aw)))
abbrev wQ:Stmt:=top 44
abbrev Ej:List Str:=["wishes","order","things","got","hand"]
abbrev xz:List Str:=["wishes","order"]
theorem rA:FnScope Ej xz (ax wQ):=bj
abbrev Ez:FS:=(aa (putF iG 3 (gv 4) (aA (ag (f2 (gv 0) (gv 4) aC) (ag (gv 2) ae)) [] ja)) (aa (cj "list" iG 2 (ag (f2 (gv 3) (gv 4) aC) ae) remD) au))
def qO:FS:=(aa (ap bY 2 (fC (ag (aA (ag (gv 0) ae) [] gE) ae) l8)) (aa (ap c0 3 (fun _=>Res.ok (D.dic []))) (aa (cu iG (aG bJ (aA (ag (gv 0) (ag (gv 1) ae)) [] qT)) (az 4) Ez) (aa (av iG (aA (ag (gv 3) ae) [] lq)) au))))
def oi:List D->Res D:=fun ds=>ay false (qO (aN Ej.length ds))
theorem JL(T:Txt K mg)(A:DefAtD K mg "by_order" wQ [Value.none])(c_things_in:Callee P w K mg base "things_in" lj [] 1 false [Md.bw] gE)(c_order_of:Callee P w K mg base "order_of" xF [] 6 false q0 qT)(c_best_left:Callee P w K mg base "best_left" rq [] 1 false q0 ja)(c_dealing_of:Callee P w K mg base "dealing_of" q9 [] 1 false [Md.bw] lq):Callee P w K mg base "by_order" xz [] 7 false q0 oi:=by
 refine Ci (ds:=[]) (k:=6) (fs:=qO) (m':=iG) A rA rfl 2 rfl (fun _ _ _ _ _ _ _ us hl=>by obtain⟨u0,u1,rfl⟩:=Ad us hl;exact⟨_,rfl,rfl⟩) fun f cdv A outer s H g E hr=>?_;have hu1:=ng hr;have hu64:=hr.units;exact(aj (dB 2 rA.nd (by rfl) (cX rfl) (Ck rfl (by rfl) T.b_list (by rfl) T.b_range (aX (bE (aK c_things_in (ai (af 0) aJ))) aY)))
   (aj (dB 3 rA.nd (by rfl) (cX rfl) kh)
   (aj (gJ F_ rfl (sx (aK c_order_of (ai (af 0) (ai (af 1) aJ)))) (aZ 4 rA.nd) (aj (jm 3 hu1 rfl (by rfl) (cO rfl) (af 4) (aK c_best_left (ai (xB hu1 (af 0) (af 4)) (ai (af 2) aJ))))
   (aj (ic 2 rfl PK Uz PySem.F.type_list_remove Nc Jz (by rfl) (cO rfl) (bR (eM hu1 (af 3) (af 4)) bU))
   aw)))
   (aj (ba (aK c_dealing_of (ai (af 3) aJ)))
   aw))))
abbrev wT:Stmt:=top 48
abbrev ED:List Str:=["many","orders","number","longer","order","place"]
abbrev xN:List Str:=["many"]
theorem lf:FnScope ED xN (ax wT):=bj
abbrev ES:FS:=(aa (cj "list" lA 3 (ag (f2 (f2 (mS (gv 4) (fun _=>Res.ok none) (j9 (gv 5))) (dX (ag (gv 2) ae)) addE) (mS (gv 4) (j9 (gv 5)) (fun _=>Res.ok none)) addE) ae) appD) au)
abbrev ET:FS:=(aa (cu lA (bL bB (ag (f2 (gv 2) (ci 1) addA) ae)) (az 5) ES) au)
abbrev EU:FS:=(aa (ap en 3 (dX ae)) (aa (cu lA (aG bJ (gv 1)) (az 4) ET) (aa (ap en 1 (gv 3)) au)))
def xJ:FS:=(aa (ap en 1 (dX (ag (dX ae) ae))) (aa (cu en (bL bB (ag (gv 0) ae)) (az 2) EU) (aa (av en (gv 1)) au)))
def ou:List D->Res D:=fun ds=>ay false (xJ (aN ED.length ds))
theorem Ma(T:Txt K mg)(A:DefAt K mg "all_orders" wT):Callee P w K mg base "all_orders" xN [] 1 false [Md.bw] ou:=
 bH (m':=en) A lf fun f cdv A outer s H g E hr hu1=>(aj (bz 1 lf.nd (SO.toE (fH (bR (SO.toE (fH bU)) bU))))
   (aj (gJ F_ rfl (fX (by rfl) T.b_range (aX (af 0) aY)) (aZ 2 lf.nd) (aj (dB 3 lf.nd (by rfl) (cX rfl) (fH bU))
   (aj (gJ F_ rfl (sx (v_ 1)) (aZ 4 lf.nd) (aj (gJ F_ rfl (fX (by rfl) T.b_range (aX (bE (dE (af 2) iB)) aY)) (aZ 5 lf.nd) (aj (ic 3 rfl PK P9 P_ iC iV (by rfl) (cO rfl) (bR (Bb (bE (Bb (bE (Al (af 4) AX (nB (af 5)))) (SO.toB (fH (bR (v_ 2) bU))))) (bE (Al (af 4) (nB (af 5)) AX))) bU))
   aw))
   aw))
   (aj (h9 3 rfl (bz 1 lf.nd (v_ 3)))
   aw))))
   (aj (ba (v_ 1))
   aw)))
abbrev nw:Stmt:=top 50
abbrev pv:List Str:=["wishes","dealings"]
abbrev sC:List Str:=["wishes"]
theorem Be:FnScope pv sC (ax nw):=bj
def so:FS:=(aa (mV dL (aA (ag (gv 0) ae) [] rV)) (aa (ap dL 1 (cD 1 [0] (aG bJ (aA (ag (fC (ag (gv 0) ae) lenD) ae) [] ou)) (az 0) (fun _=>Res.ok true) (aA (ag (gv 1) (ag (gv 0) ae)) [] oi))) (aa (av [.bw,.ow] (aA (ag (gv 1) (ag (aA (ag (gv 0) ae) [] gE) ae)) [] rf)) au)))
def mZ:List D->Res D:=fun ds=>ay false (so (aN pv.length ds))
theorem GK(T:Txt K mg)(A:DefAt K mg "lot" nw)(c_refuse_too_many_for_lots:Callee P w K mg base "refuse_too_many_for_lots" yv [] 1 false [Md.bw] rV)(c_all_orders:Callee P w K mg base "all_orders" xN [] 1 false [Md.bw] ou)(c_by_order:Callee P w K mg base "by_order" xz [] 7 false q0 oi)(c_things_in:Callee P w K mg base "things_in" lj [] 1 false [Md.bw] gE)(c_shares_in:Callee P w K mg base "shares_in" xk [] 3 false q0 rf):Callee P w K mg base "lot" sC [] 8 false [Md.bw] mZ:=
 bH (m':=[.bw,.ow]) A Be fun f cdv A outer s H g E hr hu1=>(aj (Bc (aK c_refuse_too_many_for_lots (ai (af 0) aJ)))
   (aj (qF 1 (X:=(aW bN P w K mg base pv "lot" (ax nw) f cdv A outer s H E).nox) (m:=dL) (N':=["order","wishes"]) (nl:=1) (cap:=[0]) Be.nd rfl (by rfl) (by rfl) (eR (osc:=(ax nw)) (ON:=pv) rfl rfl (by decide+kernel)) (ig (bE (aK c_all_orders (ai (bE (dj (by rfl) T.b_len (aX (af 0) aY))) aJ)))) (fun _ _ _ _ _ _=>(aZ 0 (show Qe (["order","wishes"]:List Str)by decide+kernel))) (de (by decide)) (fun _ _ _ _ _ _=>fV) (fun _ _ _ _ _ _=>(aK c_by_order (ai (af 1) (ai (af 0) aJ)))))
   (aj (ba (aK c_shares_in (ai (af 1) (ai (bE (aK c_things_in (ai (af 0) aJ))) aJ))))
   aw)))
abbrev ox:Stmt:=top 63
abbrev rG:List Str:=["_law_parts_here"]
abbrev xY:List Str:=["_law_parts_here"]
theorem EY:FnScope rG xY (ax ox):=bj
def xW:FS:=(aa (av [Md.bw] (cD 2 [] (aG bJ (gv 0)) (dg (bh (az 0) (bh (az 1) dc))) (fun _=>Res.ok true) (gr (ag (aA (ag (f2 (gv 0) (ci 0) aC) (ag (f2 (ci 2) (f2 (gv 0) (ci 1) aC) br) ae)) [] ko) (ag (gv 1) ae))))) au)
def oy:List D->Res D:=fun ds=>ay false (xW (aN rG.length ds))
theorem MP(T:Txt K mg)(A:DefAt K mg "_law_halved" ox)(c__law_low:Callee P w K mg base "_law_low" oa [] 2 false bC ko):Callee P w K mg base "_law_halved" xY [] 3 false [Md.bw] oy:=
 bH (m':=[Md.bw]) A EY fun f cdv A outer s H g E hr hu1=>(aj (ba (SO.toE (gB (X:=(aW bN P w K mg base rG "_law_halved" (ax ox) f cdv A outer s H E).nox) (N':=["_law_part","_law_got"]) (nl:=2) (cap:=[]) EY.nd rfl (eR (osc:=(ax ox)) (ON:=rG) rfl rfl (by decide+kernel)) (ig (af 0)) (fun _ _ _ _ _ _=>(hZ rfl (cT (aZ 0 (show Qe (["_law_part","_law_got"]:List Str)by decide+kernel)) (cT (aZ 1 (show Qe (["_law_part","_law_got"]:List Str)by decide+kernel)) hX)))) (l9 (ij (de (by decide)) (ij (de (by decide)) mo))) (fun _ _ _ _ _ _=>fV) (fun _ _ _ _ _ _=>(ir (bR (aK c__law_low (aQ (eM hu1 (af 0) iB) (aQ (ib iB (xB hu1 (af 0) iB)) aJ))) (bR (v_ 1) bU)))))))
   aw)
abbrev nv:Stmt:=top 64
abbrev pr:List Str:=["_law_script","_law_cells","_law_n","_law_wanted","_law_table","_law_other","_law_parts_here","_law_more","_law_both"]
abbrev zJ:List Str:=["_law_script"]
theorem iA:FnScope pr zJ (ax nv):=bj
def pD:FS:=(aa (ap [.sh,.sh,.sh,.sh,.sh,.sh,.sh,.sh,.sh] 1 (f2 (dX (ag (ci 0) ae)) (aA (ag (gv 0) (ag (ci 27) ae)) [] qQ) catL)) (aa (cA bX (a9 (f2 (fC (ag (gv 0) ae) lenD) (ci 0) je)) (aa (putF bX 1 (ci 0) (f2 (gv 0) (ci 0) aC)) au) au) (aa (ap bX 2 (f2 (ci 1) (f2 (aA (ag (gv 1) (ag (ci 1) ae)) [] fO) (ci 7) bg) addA)) (aa (ap bX 3 (fC (ag (cD 1 [2,1] (bL bB (ag (gv 2) ae)) (az 0) (fun _=>Res.ok true) (aA (ag (aA (ag (gv 2) (ag (f2 (ci 2) (gv 0) addA) ae)) [] fO) (ag (gv 1) ae)) [] kr)) ae) tupD)) (aa (ap bX 4 (aA (ag (aA (ag (gv 1) (ag (ci 9) (ag (gv 2) (ag (f2 (ci 1) (f2 (f2 (aA (ag (gv 1) (ag (ci 1) ae)) [] fO) (ci 7) js) (ci 9) bg) addA) ae)))) [] qU) (ag (gv 2) ae)) [] lp)) (aa (ap bX 5 (f2 (aA (ag (gv 3) ae) [] qh) (ci 0) aC)) (aa (cA bX (dO (a9 (f2 (gv 2) (ci 6) gG)) (a9 (f2 (f2 (f2 (aA (ag (gv 1) (ag (ci 1) ae)) [] fO) (ci 63) js) (ci 2) bg) (ci 0) eqD))) (aa (ap bX 5 (aA (ag (gv 3) ae) [] mZ)) au) au) (aa (ap bX 6 (aA (ag (gv 4) ae) [] mz)) (aa (ap bX 7 (aA (ag (gv 5) ae) [] mz)) (aa (cA bX (eV (bu (bd (aA (ag (gv 6) (ag (gv 4) ae)) [] mK))) (bu (bd (aA (ag (gv 7) (ag (gv 5) ae)) [] mK)))) (aa (av bX (fun _=>Res.ok (D.bl false))) au) au) (aa (ap bX 8 (aA (ag (f2 (aA (ag (gv 6) ae) [] oy) (aA (ag (gv 7) ae) [] oy) addA) (ag (gv 2) ae)) [] lp)) (aa (av bX (aA (ag (aA (ag (gv 8) ae) [] mz) (ag (gv 8) ae)) [] mK)) au))))))))))))
def sg:List D->Res D:=fun ds=>ay false (pD (aN pr.length ds))
theorem GJ(T:Txt K mg){fa:Addr}{fd:Q0}(A:Fun K "law" "law" nv fa fd)(c__law_all:Callee P w K mg base "_law_all" xy [] 1 false q0 qQ)(c__law_cell:Callee P w K mg base "_law_cell" rj [] 1 false q0 fO)(c__law_row:Callee P w K mg base "_law_row" qL [] 1 false [.sh,.bw] kr)(c__law_parts:Callee P w K mg base "_law_parts" xM [] 3 false [.bw,.bw,.bw,.bw] qU)(c__law_mixed:Callee P w K mg base "_law_mixed" q8 [] 4 false q0 lp)(c_eaten:Callee P w K mg base "eaten" uF [] 6 false [Md.bw] qh)(c_lot:Callee P w K mg base "lot" sC [] 8 false [Md.bw] mZ)(c_parted:Callee P w K mg base "parted" vJ [] 12 false [Md.sh] mz)(c__law_parts_well:Callee P w K mg base "_law_parts_well" ye [] 5 false q0 mK)(c__law_halved:Callee P w K mg base "_law_halved" xY [] 3 false [Md.bw] oy):FnOk P w K mg base bN 13 fa fd zJ (iF K false [Md.sh] sg):=by
 refine AH (k:=12) (fs:=pD) (m':=bX) A iA rfl fun cdv A outer s H g E hr=>?_;have hu1:=ng hr;have hu64:=hr.units;exact(aj (dB 1 iA.nd (by rfl) (cX rfl) (GB (SO.toB (fH (bR ia bU))) (bE (aK c__law_all (ai (af 0) (ai iB aJ))))))
   (aj (bp (lz (bE (dj (by rfl) T.b_len (aX (af 0) aY))) iB) (aj (jm 1 hu1 rfl (by rfl) (cO rfl) iB (eM hu1 (af 0) iB))
   aw)
   aw)
   (aj (bz 2 iA.nd (dE iB (bE (gy (bE (aK c__law_cell (ai (af 1) (ai iB aJ)))) iB))))
   (aj (bz 3 iA.nd (i9 (by rfl) T.b_tuple (aX (SO.toB (gB (X:=(aW bN P w K mg base pr "law" (ax nv) fa cdv A outer s H E).nox) (N':=["_law_hand","_law_n","_law_cells"]) (nl:=1) (cap:=[2,1]) iA.nd rfl (eR (osc:=(ax nv)) (ON:=pr) rfl rfl (by decide+kernel)) (dZ.toC (fX (by rfl) T.b_range (aX (af 2) aY))) (fun _ _ _ _ _ _=>(aZ 0 (show Qe (["_law_hand","_law_n","_law_cells"]:List Str)by decide+kernel))) (de (by decide)) (fun _ _ _ _ _ _=>fV) (fun _ _ _ _ _ _=>(aK c__law_row (aQ (aK c__law_cell (ai (af 2) (ai (bE (dE iB (af 0))) aJ))) (ai (af 1) aJ)))))) aY)))
   (aj (bz 4 iA.nd (aK c__law_mixed (ai (bE (aK c__law_parts (ai (af 1) (ai iB (ai (af 2) (ai (bE (dE iB (bE (gy (bE (tx (bE (aK c__law_cell (ai (af 1) (ai iB aJ)))) iB)) iB)))) aJ)))))) (ai (af 2) aJ))))
   (aj (bz 5 iA.nd (eM hu1 (bE (aK c_eaten (ai (af 3) aJ))) iB))
   (aj (bp (SW.toQ (zX (ly (af 2) iB) (A8 (jN hu64 (bE (gy (bE (tx (bE (aK c__law_cell (ai (af 1) (ai iB aJ)))) iB)) iB)) iB)))) (aj (bz 5 iA.nd (aK c_lot (ai (af 3) aJ)))
   aw)
   aw)
   (aj (bz 6 iA.nd (aK c_parted (aQ (v_ 4) aJ)))
   (aj (bz 7 iA.nd (aK c_parted (aQ (v_ 5) aJ)))
   (aj (bp (SW.toQ (cP (eL (dD (bE (aK c__law_parts_well (ai (af 6) (ai (af 4) aJ)))))) (jk (eL (dD (bE (aK c__law_parts_well (ai (af 7) (ai (af 5) aJ))))))))) (aj (ba cI)
   aw)
   aw)
   (aj (bz 8 iA.nd (aK c__law_mixed (ai (bE (dE (bE (aK c__law_halved (ai (af 6) aJ))) (bE (aK c__law_halved (ai (af 7) aJ))))) (ai (af 2) aJ))))
   (aj (ba (aK c__law_parts_well (ai (bE (aK c_parted (aQ (v_ 8) aJ))) (ai (af 8) aJ))))
   aw))))))))))))
end Law
namespace Law
open PySem L2 DL
abbrev nD(k:Nat):D:=.int (k:Int)
abbrev LN(l:List Nat):D:=.lst (l.map nD)
abbrev TN(l:List Nat):D:=.tup (l.map nD)
abbrev WD(rows:List (List Nat)):D:=.tup (rows.map TN)
theorem f8{ds:List D}(h:ds.length<=1000):sz ds=some ds:=F8 (PQ h (by rw[Qf];decide))
@[simp] theorem addA_int(a b:Int):addA (.int a) (.int b)=some (.int (a+b)):=rfl
theorem mf{a b:Int}(h:gx a b):br (.int a) (.int b)=some (.int (a*b)):=by rw[br,intsC_int,if_pos h]
theorem pY{a b:Int}(h:0<b):bg (.int a) (.int b)=some (.int (a%b)):=by rw[bg,intsC_int,if_pos h]
theorem Ll{a b:Int}(h:hV a b):js (.int a) (.int b)=some (.int (a/b)):=by rw[js,intsC_int,if_pos h]
theorem aq{s1 s2:FS}{r r':ak}(h:s1 r=.nx r'):aa s1 s2 r=s2 r':=by unfold aa;rw[h]
theorem bn{s1 s2:FS}{r:ak}{d:D}(h:s1 r=.rt d):aa s1 s2 r=.rt d:=by unfold aa;rw[h]
theorem aR{m:List Md}{i:Nat}{f:FE}{r:ak}{d:D}(h:f r=.ok d):ap m i f r=.nx (r.set i (some d)):=by unfold ap;rw[h];rfl
theorem bx{m:List Md}{f:FE}{r:ak}{d:D}(h:f r=.ok d):av m f r=.rt d:=by unfold av;rw[h];rfl
theorem ni{m:List Md}{p:FQ}{s1 s2:FS}{r:ak}{b:Bool}(h:p r=.ok b):cA m p s1 s2 r=if b=true then s1 r else s2 r:=by unfold cA;rw[h];rfl
theorem gU{m:List Md}{p:FQ}{s1 s2:FS}{r:ak}(h:p r=.ok true):cA m p s1 s2 r=s1 r:=by rw[ni h,if_pos rfl]
theorem bK{m:List Md}{p:FQ}{s1 s2:FS}{r:ak}(h:p r=.ok false):cA m p s1 s2 r=s2 r:=by rw[ni h,if_neg j_]
theorem Gg{p:FQ}{f f':FE}{r:ak}(h:p r=.ok true):kD p f f' r=f r:=by unfold kD;rw[h];rfl
theorem Gf{p:FQ}{f f':FE}{r:ak}(h:p r=.ok false):kD p f f' r=f' r:=by unfold kD;rw[h];rfl
theorem iy{fl:ak->Res (List D)}{r:ak}{ds:List D}(h:fl r=.ok ds)(hl:ds.length<=1000):gr fl r=.ok (.tup ds):=by unfold gr;rw[h,bind_ok,f8 hl];rfl
theorem fI{fl:ak->Res (List D)}{r:ak}{ds:List D}(h:fl r=.ok ds)(hl:ds.length<=1000):dX fl r=.ok (.lst ds):=by unfold dX;rw[h,bind_ok,f8 hl];rfl
theorem i8{ds:List D}{d:D}(h:ds.length<=1000):appD (.lst ds) [d]=some (.lst (ds++[d])):=by show(if ds.length<sizeLine then some (D.lst (ds++[d]))else none)=_;rw[if_pos (by rw[Qf];omega)]
theorem aI{fl:ak->Res (List D)}{dds zs:List D}{F:List D->Res D}{r:ak}{d:D}(h1:fl r=.ok zs)(h2:F (zs++dds)=.ok d):aA fl dds F r=.ok d:=by unfold aA;rw[h1,bind_ok,h2];rfl
theorem jq{f:FE}{k:D->Option D}{r:ak}{a d:D}(h1:f r=.ok a)(h2:k a=some d):f1 f k r=.ok d:=by unfold f1;rw[h1,bind_ok,h2];rfl
theorem ao{f f':FE}{k:D->D->Option D}{r:ak}{a b d:D}(h1:f r=.ok a)(h2:f' r=.ok b)(h3:k a b=some d):f2 f f' k r=.ok d:=by unfold f2;rw[h1,bind_ok,h2,bind_ok,h3];rfl
theorem bQ{fl:ak->Res (List D)}{k:List D->Option D}{r:ak}{ds:List D}{d:D}(h1:fl r=.ok ds)(h2:k ds=some d):fC fl k r=.ok d:=by unfold fC;rw[h1,bind_ok,h2];rfl
theorem ah{f:FE}{fl:ak->Res (List D)}{r:ak}{d:D}{ds:List D}(h1:f r=.ok d)(h2:fl r=.ok ds):ag f fl r=.ok (d::ds):=by unfold ag;rw[h1,bind_ok,h2];rfl
theorem am{r:ak}:ae r=.ok []:=rfl
theorem cq{f:FE}{r:ak}{b:Bool}(h:f r=.ok (.bl b)):a9 f r=.ok b:=by unfold a9;rw[h];rfl
theorem dk{f:FE}{r:ak}{d:D}{b:Bool}(h:f r=.ok d)(h2:fZ d=some b):bd f r=.ok b:=by unfold bd;rw[h,bind_ok,h2];rfl
theorem eO{p:FQ}{r:ak}{b:Bool}(h:p r=.ok b):bu p r=.ok (! b):=by unfold bu;rw[h];rfl
theorem sE{p q:FQ}{r:ak}(h:p r=.ok true):dO p q r=q r:=by unfold dO;rw[h];rfl
theorem zK{p q:FQ}{r:ak}(h:p r=.ok false):dO p q r=.ok false:=by unfold dO;rw[h];rfl
theorem cQ{p q:FQ}{r:ak}(h:p r=.ok false):eV p q r=q r:=by unfold eV;rw[h];rfl
theorem pW{f f':FE}{r:ak}(h:f r=.ok (.bl true)):d8 f f' r=f' r:=by unfold d8;rw[h];rfl
theorem cV{m:List Md}{fi:FI}{ft:FT}{b:FS}{r:ak}{ds:List D}(h:fi r=.ok ds):cu m fi ft b r=aE ft b ds r:=by unfold cu;rw[h];rfl
theorem gC{f:FE}{r:ak}{d:D}{ds:List D}(h:f r=.ok d)(h2:bJ d=some ds):aG bJ f r=.ok ds:=by unfold aG;rw[h,bind_ok,h2];rfl
theorem cU{ft:FT}{b:FS}{r:ak}:aE ft b [] r=.nx r:=by unfold aE;rfl
theorem cL{ft:FT}{b:FS}{r r1 r':ak}{d:D}{ds:List D}(h1:ft d r=some r1)(h2:b r1=.nx r'):aE ft b (d::ds) r=aE ft b ds r':=by
 conv=>lhs;unfold aE
 simp only[h1,h2]
theorem vA{m:List Md}{p:FQ}{b:FS}{n:Nat}{r:ak}(h:p r=.ok false):dF m p b (n+1) r=.nx r:=by unfold dF;rw[h];rfl
theorem vB{m:List Md}{p:FQ}{b:FS}{n:Nat}{r r':ak}(h:p r=.ok true)(h2:b r=.nx r'):dF m p b (n+1) r=dF m p b n r':=by
 conv=>lhs;unfold dF
 rw[h,onE_ok,if_pos rfl,h2]
theorem ii{T:String}{m:List Md}{i:Nat}{fl:ak->Res (List D)}{mk:D->List D->Option D}{r:ak}{d d':D}{ds:List D}(h1:r[i]? = some (some d))(h2:rZ T d=true)(h3:fl r=.ok ds)(h4:mk d ds=some d'):cj T m i fl mk r=.nx (r.set i (some d')):=by unfold cj;rw[h1];simp only[h2,if_true,h3,onE_ok,h4]
theorem jw{m:List Md}{i:Nat}{fk fv:FE}{r:ak}{d k v d':D}(h1:r[i]? = some (some d))(h2:fv r=.ok v)(h3:fk r=.ok k)(h4:cH d k v=some d'):DL.putF m i fk fv r=.nx (r.set i (some d')):=by unfold DL.putF;rw[h2,onE_ok];simp only[h1,h3,onE_ok,h4]
theorem uJ{fa fb fc:FE}{k k':D->D->Option D}{r:ak}{x y w d:D}(h1:fa r=.ok x)(h2:fb r=.ok y)(h3:k x y=some (.bl true))(h4:fc r=.ok w)(h5:k' y w=some d):jz fa fb fc k k' r=.ok d:=by unfold jz;rw[h1,bind_ok,h2,bind_ok,h3,opt_some,bind_ok];show(fc r).bind _=_;rw[h4,bind_ok,h5];rfl
theorem MI{ft:FT}{q:FQ}{fe:FE}{r0:ak}:fS ft q fe r0 []=.ok []:=by unfold fS;rfl
theorem Dy{ft:FT}{q:FQ}{fe:FE}{r0:ak}{α:Type}(e:α->D)(keep:α->Bool)(g:α->D):∀(l:List α),(∀a∈l,∃r1,ft (e a) r0=some r1/\q r1=.ok (keep a)/\(keep a=true->fe r1=.ok (g a)))->fS ft q fe r0 (l.map e)=.ok ((l.filter keep).map g)
|[],_=>MI
|a::l,h=>by
  obtain⟨r1,h1,h2,h3⟩:=h a g_;have ih:=Dy (ft:=ft) (q:=q) (fe:=fe) (r0:=r0) e keep g l fun b hb=>h b (f_ _ hb);rw[p_]
  conv=>lhs;unfold fS
  rw[h1,opt_some,bind_ok,h2,bind_ok];cases k:keep a with
 |true=>rw[if_pos rfl,h3 k,bind_ok,ih,bind_ok,QD,if_pos k];rfl
 |false=>rw[if_neg j_,ih,QD,if_neg (by rw[k];exact j_)]
theorem mn{nl:Nat}{cap:List Nat}{fi:FI}{ft:FT}{q:FQ}{fe:FE}{r:ak}{α:Type}{l:List α}(e:α->D)(keep:α->Bool)(g:α->D)(h1:fi r=.ok (l.map e))(hl:l.length<=1000)(h:∀a∈l,∃r1,ft (e a) (bi nl cap r)=some r1/\q r1=.ok (keep a)/\(keep a=true->fe r1=.ok (g a))):cD nl cap fi ft q fe r=.ok (.lst ((l.filter keep).map g)):=by unfold cD;rw[h1,bind_ok,f8 (by simpa using hl),opt_some,bind_ok,Dy e keep g l h,noXL_ok,bind_ok]
theorem Ab(k:Nat):iN (.int 0) (nD k)=some (.bl true):=by show some (D.bl (decide ((0:Int)<=(k:Int))))=_;rw[decide_eq_true (R1 k)]
theorem nb(a b:Nat):gG (nD a) (nD b)=some (.bl (decide (a<b))):=by show some (D.bl (decide ((a:Int)<(b:Int))))=_;simp only[U7]
theorem pK(a b:Nat):je (nD a) (nD b)=some (.bl (decide (b<a))):=by show some (D.bl (decide ((b:Int)<(a:Int))))=_;simp only[U7]
theorem mX(a b:Nat):eqD (nD a) (nD b)=some (.bl (decide (a=b))):=by
 unfold eqD;rw[eqB_int];show some (D.bl ((a:Int)==(b:Int)))=_;have:((a:Int)==(b:Int))=decide (a=b):=by rw[P6,beq_iff_eq,decide_eq_true_iff];exact R6
 rw[this]
theorem nc(a b:Nat):neD (nD a) (nD b)=some (.bl (! decide (a=b))):=by
 unfold neD;rw[eqB_int];show some (D.bl (!((a:Int)==(b:Int))))=_;have:((a:Int)==(b:Int))=decide (a=b):=by rw[P6,beq_iff_eq,decide_eq_true_iff];exact R6
 rw[this]
theorem bG{B:FS}{n:Nat}{ds:List D}{d:D}(h:B (aN n ds)=.rt d):ay false (B (aN n ds))=.ok d:=by rw[h];rfl
abbrev kI(k:Nat):aB:=Sum.inl (k:Int)
theorem tj(kvs:List (Nat×D))(k:Nat):cC (kvs.map fun p=>(kI p.1,p.2)) (kI k)=decide (k∈kvs.map (·.1)):=by
 unfold cC;rw[T_,P6,Tt,decide_eq_true_iff,A_];constructor
 .rintro⟨p,h1,h2⟩
  refine⟨p,h1,?_⟩;simp only[Rr,decide_eq_true_eq]at h2;have:((p.1:Nat):Int)=(k:Int):=Wx h2;exact Int.ofNat.inj this
 .rintro⟨p,h1,rfl⟩
  exact⟨p,h1,by simp⟩
theorem C1(kvs:List (Nat×D))(k:Nat)(d:D)(h:k∉kvs.map (·.1)):cx (kvs.map fun p=>(kI p.1,p.2)) (kI k) d=(kvs++[(k,d)]).map fun p=>(kI p.1,p.2):=by unfold cx;have e:((kvs.map fun p=>(kI p.1,p.2)).any fun kv=>decide (kv.1=kI k))=decide (k∈kvs.map (·.1)):=tj kvs k;rw[e,decide_eq_false h,if_neg j_,L_];rfl
@[simp] theorem e_seq(s1 s2:FS)(r:ak):aa s1 s2 r=(match s1 r with|.nx r'=>s2 r'|o=>o):=rfl
@[simp] theorem e_skip(r:ak):au r=.nx r:=rfl
@[simp] theorem e_set(m:List Md)(i:Nat)(f:FE)(r:ak):ap m i f r=fq m r (f r) fun d=>.nx (r.set i (some d)):=rfl
@[simp] theorem e_ret(m:List Md)(f:FE)(r:ak):av m f r=fq m r (f r) fun d=>.rt d:=rfl
@[simp] theorem e_if(m:List Md)(p:FQ)(s1 s2:FS)(r:ak):cA m p s1 s2 r=fq m r (p r) fun c=>if c=true then s1 r else s2 r:=rfl
@[simp] theorem e_getV(r:ak)(i:Nat):dN r i=(match r[i]? with|some (some d)=>.ok d|_=>.stuck):=rfl
@[simp] theorem e_f1(f:FE)(k:D->Option D)(r:ak):f1 f k r=(f r).bind fun d=>bS (k d):=rfl
@[simp] theorem e_f2(f f':FE)(k:D->D->Option D)(r:ak):f2 f f' k r=(f r).bind fun a=>(f' r).bind fun b=>bS (k a b):=rfl
@[simp] theorem e_fC(fl:ak->Res (List D))(k:List D->Option D)(r:ak):fC fl k r=(fl r).bind fun ds=>bS (k ds):=rfl
@[simp] theorem e_lN(r:ak):ae r=.ok []:=rfl
@[simp] theorem e_lC(f:FE)(fl:ak->Res (List D))(r:ak):ag f fl r=(f r).bind fun d=>(fl r).bind fun ds=>.ok (d::ds):=rfl
@[simp] theorem e_test(f:FE)(r:ak):a9 f r=(f r).bind fun d=>bS (iO d):=rfl
@[simp] theorem e_tru(f:FE)(r:ak):bd f r=(f r).bind fun d=>bS (fZ d):=rfl
@[simp] theorem e_not(p:FQ)(r:ak):bu p r=(p r).bind fun c=>.ok (! c):=rfl
@[simp] theorem e_and(p q:FQ)(r:ak):dO p q r=(p r).bind fun c=>if c=true then q r else .ok false:=rfl
@[simp] theorem e_or(p q:FQ)(r:ak):eV p q r=(p r).bind fun c=>if c=true then .ok true else q r:=rfl
@[simp] theorem e_vand(f f':FE)(r:ak):d8 f f' r=(f r).bind fun d=>(bS (iO d)).bind fun c=>if c=true then f' r else .ok (.bl false):=rfl
@[simp] theorem e_vor(f f':FE)(r:ak):O9 f f' r=(f r).bind fun d=>(bS (iO d)).bind fun c=>if c=true then .ok (.bl true)else f' r:=rfl
@[simp] theorem e_vnot(f:FE)(r:ak):lv f r=(f r).bind fun d=>(bS (iO d)).bind fun c=>.ok (.bl (! c)):=rfl
@[simp] theorem e_fIf(p:FQ)(f f':FE)(r:ak):kD p f f' r=(p r).bind fun c=>if c=true then f r else f' r:=rfl
@[simp] theorem e_call(fl:ak->Res (List D))(dds:List D)(F:List D->Res D)(r:ak):aA fl dds F r=(fl r).bind fun ds=>mQ (F (ds++dds)):=rfl
@[simp] theorem e_asB(b:Bool):iO (.bl b)=some b:=rfl
@[simp] theorem e_truB(b:Bool):fZ (.bl b)=some b:=rfl
@[simp] theorem e_truL(ds:List D):fZ (.lst ds)=some (! ds.isEmpty):=rfl
@[simp] theorem e_loop(m:List Md)(fi:FI)(ft:FT)(b:FS)(r:ak):cu m fi ft b r=fq m r (fi r) fun ds=>aE ft b ds r:=rfl
@[simp] theorem e_fSeq(k:D->Option (List D))(f:FE)(r:ak):aG k f r=(f r).bind fun d=>bS (k d):=rfl
@[simp] theorem e_asL(ds:List D):bJ (.lst ds)=some ds:=rfl
@[simp] theorem e_asT(ds:List D):bJ (.tup ds)=some ds:=rfl
@[simp] theorem e_mkT(fl:ak->Res (List D))(r:ak):gr fl r=(fl r).bind fun ds=>(bS (sz ds)).bind fun ds=>.ok (.tup ds):=rfl
@[simp] theorem e_mkL(fl:ak->Res (List D))(r:ak):dX fl r=(fl r).bind fun ds=>(bS (sz ds)).bind fun ds=>.ok (.lst ds):=rfl
@[simp] theorem e_sz0:sz []=some []:=f8 (by simp)
@[simp] theorem e_sz1(a:D):sz [a]=some [a]:=f8 (by simp)
@[simp] theorem e_sz2(a b:D):sz [a,b]=some [a,b]:=f8 (by simp)
@[simp] theorem e_sz3(a b c:D):sz [a,b,c]=some [a,b,c]:=f8 (by simp)
@[simp] theorem e_lenL(ds:List D):lenD [.lst ds]=some (.int ds.length):=rfl
@[simp] theorem e_lenT(ds:List D):lenD [.tup ds]=some (.int ds.length):=rfl
@[simp] theorem e_lenK(ds:List (aB×D)):lenD [.dic ds]=some (.int ds.length):=rfl
@[simp] theorem e_tupL(ds:List D):tupD [.lst ds]=some (.tup ds):=rfl
@[simp] theorem e_listL(ds:List D):l7 [.lst ds]=some (.lst ds):=rfl
@[simp] theorem e_listT(ds:List D):l7 [.tup ds]=some (.lst ds):=rfl
@[simp] theorem e_isNN:o9 .non .non=some (.bl true):=rfl
@[simp] theorem e_isLN(ds:List D):o9 (.lst ds) .non=some (.bl false):=rfl
@[simp] theorem e_isn1:lJ .non .non=some (.bl false):=rfl
@[simp] theorem e_isn2(i:Int):lJ (.int i) .non=some (.bl true):=rfl
@[simp] theorem e_isn3(ds:List D):lJ (.tup ds) .non=some (.bl true):=rfl
@[simp] theorem e_valsD(kvs:List (aB×D)):Hw (.dic kvs)=some (.lst (kvs.map (·.2))):=rfl
theorem j5{ds:List D}{i:Nat}{d:D}(h:ds[i]? = some d):aC (.tup ds) (nD i)=some d:=by have hl:i<ds.length:=(k_.mp h).1;show fP ds (i:Int)=some d;unfold fP gT;rw[if_pos (R1 i),if_pos (by omega)];simpa using h
theorem j4{ds:List D}{i:Nat}{d:D}(h:ds[i]? = some d):aC (.lst ds) (nD i)=some d:=by have hl:i<ds.length:=(k_.mp h).1;show fP ds (i:Int)=some d;unfold fP gT;rw[if_pos (R1 i),if_pos (by omega)];simpa using h
@[simp] theorem ixA_L0(d:D)(ds:List D):aC (.lst (d::ds)) (.int 0)=some d:=j4 (i:=0) rfl
@[simp] theorem ixA_T0(d:D)(ds:List D):aC (.tup (d::ds)) (.int 0)=some d:=j5 (i:=0) rfl
theorem nj{kvs:List (aB×D)}{k:Nat}{d:D}(h:bc kvs (kI k)=some d):aC (.dic kvs) (nD k)=some d:=h
theorem zl(l:List Nat)(k:Nat):(l.map nD).any (fun y=>eqs y (nD k))=decide (k∈l):=by
 rw[T_,P6,Tt,decide_eq_true_iff];constructor
 .rintro⟨x,h1,h2⟩
  have:(((x:Nat):Int)==(k:Int))=true:=h2;have:=R6.mp (RF this);subst this;exact h1
 .intro h;exact⟨k,h,by show(((k:Nat):Int)==(k:Int))=true;simp⟩
theorem zT(l:List Nat):(l.map nD).all di=true:=by rw[Qs];intro x hx;obtain⟨k,_,rfl⟩:=A_.mp hx;rfl
theorem Gm(l:List Nat)(k:Nat):il (nD k) (LN l)=some (.bl (decide (k∈l))):=by show(if di (nD k)=true/\(l.map nD).all di=true then some ((l.map nD).any fun y=>eqs y (nD k))else none).map D.bl=_;rw[if_pos ⟨rfl,zT l⟩,zl];rfl
theorem Ou(k:Nat):kt [nD k]=.ok (.bl true):=rfl
theorem Ot(k b:Nat):oj [nD k,nD b]=.ok (.bl (decide (k<b))):=by refine bG (B:=wI) (n:=2) ?_;unfold wI;refine bn (bx ?_);rw[pW (aI (ah (d:=nD k) rfl am) (Ou k))];exact uJ rfl rfl (Ab k) rfl (nb k b)
theorem mq{α:Type}(f:α->D)(l:List α):lenD [.tup (l.map f)]=some (nD l.length):=by show some (D.int ((l.map f).length:Int))=_;rw[m_]
theorem ki{α:Type}(f:α->D)(l:List α):lenD [.lst (l.map f)]=some (nD l.length):=by show some (D.int ((l.map f).length:Int))=_;rw[m_]
theorem CS{α:Type}(f:α->aB×D)(l:List α):lenD [.dic (l.map f)]=some (nD l.length):=by show some (D.int ((l.map f).length:Int))=_;rw[m_]
theorem n4(n:Nat):eqD (nD n) (nD n)=some (.bl true):=by have e:=mX n n;rw[decide_eq_true rfl]at e;exact e
theorem A9(n:Nat):cZ 0 n=(a_ n).map nD:=by unfold cZ;refine PY fun i _=>?_;show D.int (0+(i:Int))=D.int (i:Int);rw[Int.zero_add]
theorem L1(j:Int):l8 [.int j]=if-(2^62)<=j/\j<2^62/\j.toNat<=sizeLine then some (.lst (cZ 0 j.toNat))else none:=rfl
theorem Kk{n:Nat}(h:n<=1000):l8 [nD n]=some (LN (a_ n)):=by
 have hs:(n:Int).toNat<=sizeLine:=by rw[QP,Qf];omega
 rw[L1,if_pos ⟨by omega,by omega,hs⟩,QP,A9]
theorem KY(j:Int):bB [.int j]=if-(2^62)<=j/\j<2^62 then some (cZ 0 j.toNat)else none:=rfl
theorem fJ{n:Nat}(h:n<=1000):bB [nD n]=some ((a_ n).map nD):=by rw[KY,if_pos ⟨by omega,by omega⟩,QP,A9]
theorem fK{fl:ak->Res (List D)}{k:List D->Option (List D)}{r:ak}{ds es:List D}(h1:fl r=.ok ds)(h2:k ds=some es):bL k fl r=.ok es:=by unfold bL;rw[h1,bind_ok,h2];rfl
theorem xm{p:Nat->Bool}:∀(l:List Nat),l.find? p=(l.filter p).head?
|[]=>rfl
|a::l=>by rw[P7,QD];cases h:p a with
 |true=>simp
 |false=>simpa using xm l
def own(oz:List (Option Nat))(h:Nat):Option Nat:=(oz[h]?).join
theorem D8{row:List Nat}{rest:List (List Nat)}:gE [WD (row::rest)]=.ok (nD row.length):=by refine bG (B:=xi) (n:=1) ?_;unfold xi;exact bn (bx (bQ (ah (ao (a:=WD (row::rest)) (b:=.int 0) rfl rfl (ixA_T0 _ _)) am) (mq _ _)))
theorem LJ{row things:List Nat}(h:∃x∈row,x∈things)(hl:row.length<=1000):ja [TN row,LN things]=.ok (nD (Rg.best row things)):=by
 refine bG (B:=oE) (n:=2) ?_;unfold oE;have hc:(cD 1 [1] (aG bJ (gv 0)) (az 0) (a9 (f2 (gv 0) (gv 1) il)) (gv 0)) [some (TN row),some (LN things)]=.ok (LN (row.filter fun x=>decide (x∈things))):=by
  refine mn nD (fun x=>decide (x∈things)) nD (l:=row) rfl hl fun a _=>⟨[some (nD a),some (LN things)],rfl,?_,fun _=>rfl⟩
  exact cq (ao (a:=nD a) (b:=LN things) rfl rfl (Gm _ _))
 have hb:∃t,(row.filter fun x=>decide (x∈things))=Rg.best row things::t:=by unfold Rg.best;rw[xm];cases e:row.filter fun x=>decide (x∈things)with
 |nil=>obtain⟨x,h1,h2⟩:=h;have:x∈row.filter fun x=>decide (x∈things):=QB.mpr ⟨h1,by simpa using h2⟩;rw[e]at this;cases this
 |cons a t=>exact⟨t,rfl⟩
 obtain⟨t,ht⟩:=hb;rw[ht]at hc;exact bn (bx (ao hc (b:=.int 0) rfl (ixA_L0 _ _)))
abbrev iU(pre:List Nat):D:=.dic ((pre.map fun k=>(k,D.bl true)).map fun p=>(kI p.1,p.2))
theorem BH(b:Nat)(num:D):∀(suf pre:List Nat)(x y:Option D),(pre++suf).Nodup->(∀k∈suf,k<b)->(pre++suf).length<=1000 ->∃x' y',aE (dg (bh (az 3) (bh (az 4) dc))) yi (cb pre.length (suf.map nD)) [some num,some (nD b),some (iU pre),x,y]=.nx [some num,some (nD b),some (iU (pre++suf)),x',y']
|[],pre,x,y,_,_,_=>⟨x,y,by rw[QC];exact cU⟩
|k::suf,pre,x,y,hn,hb,hl=>by
  have hk:k∉pre:=fun z=>(Qx.mp hn).2.2 k z k g_ rfl;obtain⟨x',y',ih⟩:=BH b num suf (pre++[k]) (some (nD pre.length)) (some (nD k)) (by simpa using hn) (fun j hj=>hb j (f_ _ hj)) (by simpa using hl);refine⟨x',y',?_⟩;rw[show(pre++[k]).length=pre.length+1 by simp]at ih;rw[show pre++k::suf=(pre++[k])++suf by simp,<-ih];show aE _ _ (.tup [.int ((pre.length:Nat):Int),nD k]::cb (pre.length+1) (suf.map nD)) _=_;refine cL (r1:=[some num,some (nD b),some (iU pre),some (nD pre.length),some (nD k)]) rfl ?_;have c2:il (nD k) (iU pre)=some (.bl false):=by
   show(some (cC _ (kI k))).map D.bl=_;rw[tj,M_];have:decide (k∈pre.map ((fun p:Nat×D=>p.1)∘fun k=>(k,D.bl true)))=false:=by rw[decide_eq_false_iff_not];simpa[Ut]using hk
   rw[this];rfl
  have c3:cH (iU pre) (nD k) (.bl true)=some (iU (pre++[k])):=by show(if _ then some (D.dic (cx _ (kI k) (.bl true)))else none)=_;rw[if_pos (by rw[m_,m_,Qf];simp at hl;omega),C1 _ _ _ (by rw[M_];simpa[Ut]using hk)];simp
  have c1:decide (k<b)=true:=decide_eq_true (hb k g_);unfold yi;have hif:(eV (bu (bd (aA (ag (gv 4) (ag (gv 1) ae)) [] oj))) (a9 (f2 (gv 4) (gv 2) il))) [some num,some (nD b),some (iU pre),some (nD pre.length),some (nD k)]=.ok false:=by have h0:=Ot k b;rw[c1]at h0;rw[cQ (eO (dk (b:=true) (aI (ah (d:=nD k) rfl (ah (d:=nD b) rfl am)) h0) rfl))];exact cq (ao (a:=nD k) (b:=iU pre) rfl rfl c2)
  refine(aq (ni hif)).trans ?_;exact aq (jw (d:=iU pre) (k:=nD k) rfl rfl rfl c3)
theorem OS{l:List Nat}{b:Nat}(hn:l.Nodup)(hb:∀k∈l,k<b)(hl:l.length<=1000):rF [LN l,nD b]=.ok (nD l.length):=by obtain⟨x',y',h⟩:=BH b (LN l) l [] none none hn hb hl;refine bG (B:=xX) (n:=5) ?_;unfold xX;refine(aq (r':=[some (LN l),some (nD b),some (iU []),none,none]) rfl).trans ?_;refine(aq ((cV (ds:=cb 0 (l.map nD)) rfl).trans h)).trans ?_;exact bn (bx (bQ (ah (d:=LN l) rfl am) (ki _ _)))
theorem NW{l:List Nat}{n:Nat}(hn:l.Nodup)(hb:∀k∈l,k<n)(h8:l.length<=1000):qV [LN l,nD n]=.ok (.bl true):=by refine bG (B:=xK) (n:=2) ?_;unfold xK;exact bn (bx (ao (a:=nD l.length) (b:=nD l.length) (aI (ah (d:=LN l) rfl (ah (d:=nD n) rfl am)) (OS hn hb h8)) (bQ (ah (d:=LN l) rfl am) (ki _ _)) (n4 _)))
theorem K4{l:List Nat}{n:Nat}(hn:l.Nodup)(hb:∀k∈l,k<n)(hl:l.length=n)(h8:n<=1000):rE [LN l,nD n]=.ok (.bl true):=by refine bG (B:=yn) (n:=2) ?_;unfold yn;subst hl;refine bn (bx ?_);rw[pW (ao (a:=nD l.length) (b:=nD l.length) (bQ (ah (d:=LN l) rfl am) (ki _ _)) rfl (n4 _))];exact aI (ah (d:=LN l) rfl (ah (d:=nD l.length) rfl am)) (NW hn hb h8)
theorem ND{rows:List (List Nat)}{l:List Nat}(hn:l.Nodup)(hb:∀k∈l,k<rows.length)(hl:l.length=rows.length)(h8:rows.length<=1000):qT [WD rows,LN l]=.ok (LN l):=by refine bG (B:=qP) (n:=2) ?_;unfold qP;refine(aq (r':=[some (WD rows),some (LN l)]) ((ni (b:=false) rfl).trans rfl)).trans ?_;refine(aq (r':=[some (WD rows),some (LN l)]) ((ni (b:=false) (eO (b:=true) (dk (aI (ah (d:=LN l) rfl (ah (bQ (ah (d:=WD rows) rfl am) (mq _ _)) am)) (K4 hn hb hl h8)) rfl))).trans rfl)).trans ?_;exact bn (bx (bQ (ah (d:=LN l) rfl am) rfl))
abbrev KD(kvs:List (Nat×Nat)):D:=.dic (kvs.map fun p=>(kI p.1,nD p.2))
theorem ny{a b:Nat}(h:kI a=kI b):a=b:=R6.mp (Wx h)
theorem n6:∀{kvs:List (Nat×Nat)}{h:Nat}{f:Nat->Nat},(∀p∈kvs,p.2=f p.1)->h∈kvs.map (·.1)->bc (kvs.map fun p=>(kI p.1,nD p.2)) (kI h)=some (nD (f h))
|[],_,_,_,hh=>by cases hh
|p::kvs,h,f,hf,hh=>by
  by_cases e:p.1=h
  .have:=hf p g_;subst e;simp[bc,P7,this]
  .have hne:¬ kI p.1=kI h:=fun z=>e (ny z);have hh':h∈kvs.map (·.1):=by
    rcases q_.mp hh with z|z
    .exact absurd z.symm e
    .exact z
   have ih:=n6 (f:=f) (fun q hq=>hf q (f_ _ hq)) hh';have e1:bc ((p::kvs).map fun p=>(kI p.1,nD p.2)) (kI h)=bc (kvs.map fun p=>(kI p.1,nD p.2)) (kI h):=by simp only[bc,p_,P7];rw[decide_eq_false hne]
   rw[e1];exact ih
def putN(kvs:List (Nat×Nat))(k v:Nat):List (Nat×Nat):=if k∈kvs.map (·.1)then kvs.map fun p=>if p.1=k then(p.1,v)else p else kvs++[(k,v)]
theorem pb(kvs:List (Nat×Nat))(k:Nat):((kvs.map fun p=>(kI p.1,nD p.2)).any fun kv=>decide (kv.1=kI k))=decide (k∈kvs.map (·.1)):=by
 rw[T_,P6,Tt,decide_eq_true_iff,A_];constructor
 .rintro⟨p,h1,h2⟩
  simp only[Rr,decide_eq_true_eq]at h2;exact⟨p,h1,ny h2⟩
 .rintro⟨p,h1,rfl⟩
  exact⟨p,h1,by simp⟩
theorem HZ(kvs:List (Nat×Nat))(k v:Nat):cx (kvs.map fun p=>(kI p.1,nD p.2)) (kI k) (nD v)=(putN kvs k v).map fun p=>(kI p.1,nD p.2):=by
 unfold cx putN;rw[pb];by_cases h:k∈kvs.map (·.1)
 .rw[decide_eq_true h,if_pos rfl,if_pos h,M_,M_];refine PY fun p _=>?_;simp only[Rr];by_cases e:p.1=k
  .rw[if_pos (by rw[e]),if_pos e]
  .rw[if_neg (fun z=>e (ny z)),if_neg e]
 .rw[decide_eq_false h,if_neg j_,if_neg h,L_];rfl
theorem M0(kvs:List (Nat×Nat))(k v j:Nat):j∈(putN kvs k v).map (·.1)↔j∈kvs.map (·.1)\/j=k:=by
 unfold putN;by_cases h:k∈kvs.map (·.1)
 .rw[if_pos h,M_];have:((fun p:Nat×Nat=>p.1)∘fun p=>if p.1=k then(p.1,v)else p)=fun p=>p.1:=by funext p;simp only[Rr];split <;> rfl
  rw[this];constructor
  .exact .inl
  .rintro(z|rfl)
   .exact z
   .exact h
 .rw[if_neg h];simp
theorem LF{kvs:List (Nat×Nat)}{k v:Nat}{f:Nat->Nat}(h:∀p∈kvs,p.2=f p.1)(hv:v=f k):∀p∈putN kvs k v,p.2=f p.1:=by
 intro p hp;unfold putN at hp;split at hp
 .obtain⟨q,h1,rfl⟩:=A_.mp hp;split
  .rename_i e;simp only;rw[e];exact hv
  .exact h q h1
 .rcases Qk.mp hp with z|z
  .exact h p z
  .rw[y_.mp z];exact hv
theorem tm{kvs:List (Nat×Nat)}{k v:Nat}(hl:kvs.length<=1000):cH (KD kvs) (nD k) (nD v)=some (KD (putN kvs k v)):=by show(if (kvs.map fun p=>(kI p.1,nD p.2)).length<sizeLine then some (D.dic (cx _ (kI k) (nD v)))else none)=_;rw[if_pos (by rw[m_,Qf];omega),HZ]
structure GI(t:Nat->Nat)(kvs:List (Nat×Nat))(L:List Nat):Prop where
 nd:(kvs.map (·.1)).Nodup
 val:∀p∈kvs,p.2=t p.1
 key:∀h,h∈kvs.map (·.1)↔h∈L
theorem Ca{kvs:List (Nat×Nat)}{k v:Nat}(h:(kvs.map (·.1)).Nodup):((putN kvs k v).map (·.1)).Nodup:=by
 unfold putN;split
 .rw[M_];have:((fun p:Nat×Nat=>p.1)∘fun p=>if p.1=k then(p.1,v)else p)=fun p=>p.1:=by funext p;simp only[Rr];split <;> rfl
  rw[this];exact h
 .rename_i hk;rw[L_];refine Qx.mpr ⟨h,by simp,fun a ha b hb=>?_⟩;simp at hb
  rintro rfl
  exact hk (hb▸ha)
theorem GI.put{t:Nat->Nat}{kvs:List (Nat×Nat)}{L:List Nat}(g:GI t kvs L)(k:Nat):GI t (putN kvs k (t k)) (L++[k]):=⟨Ca g.nd,LF g.val rfl,fun h=>by rw[M0,g.key];simp⟩
theorem GI.len{t:Nat->Nat}{kvs:List (Nat×Nat)}{L line:List Nat}(g:GI t kvs L)(hs:∀h∈L,h∈line):kvs.length<=line.length:=by have:=Rg.jt (m:=line) g.nd fun h hh=>hs h ((g.key h).mp hh);simpa using this
theorem GI.congr{t t':Nat->Nat}{kvs:List (Nat×Nat)}{L:List Nat}(g:GI t kvs L)(h:∀x∈L,t' x=t x):GI t' kvs L:=⟨g.nd,fun p hp=>by rw[g.val p hp,h p.1 ((g.key _).mp (A_.mpr ⟨p,hp,rfl⟩))],g.key⟩
theorem GI.mem{t:Nat->Nat}{kvs:List (Nat×Nat)}{L M:List Nat}(g:GI t kvs L)(h:∀x,x∈L↔x∈M):GI t kvs M:=⟨g.nd,g.val,fun x=>(g.key x).trans (h x)⟩
theorem GI.nil(t:Nat->Nat):GI t [] []:=⟨by simp,fun _ hp=>(nomatch hp),fun h=>by simp⟩
theorem DA{α:Type}(l:List α):l.filter (fun _=>true)=l:=List.filter_eq_self.mpr fun _ _=>rfl
theorem GI.full{t:Nat->Nat}{kvs:List (Nat×Nat)}{L:List Nat}{n:Nat}(g:GI t kvs L)(h:∀x,x∈L↔x<n):kvs.length=n:=by have h1:=g.len (line:=a_ n) fun x hx=>r_.mpr ((h x).mp hx);have h2:=Rg.jt (l:=a_ n) (m:=kvs.map (·.1)) Qi fun x hx=>(g.key x).mpr ((h x).mpr (r_.mp hx));simp at h1 h2;omega
def Wr(rows:List (List Nat))(h:Nat):List Nat:=(rows[h]?).getD []
theorem Ba{rows:List (List Nat)}{h:Nat}(hh:h<rows.length):(rows.map TN)[h]? = some (TN (Wr rows h)):=by rw[n_];unfold Wr;rw[i_ hh];rfl
theorem OW{a:Nat->Nat}{kvs:List (Nat×Nat)}{L:List Nat}{n:Nat}(g:GI a kvs L)(h:∀x,x∈L↔x<n)(h8:n<=60):lq [KD kvs]=.ok (TN ((a_ n).map a)):=by have hl:=g.full h;refine bG (B:=oq) (n:=1) ?_;unfold oq;refine bn (bx (bQ (ah (mn (l:=a_ n) nD (fun _=>true) (fun h=>nD (a h)) (fK (ds:=[nD n]) (ah (bQ (ah (d:=KD kvs) rfl am) (by rw[CS,hl])) am) (fJ (by omega))) (by simp;omega) fun x hx=>⟨[some (nD x),some (KD kvs)],rfl,rfl,fun _=>ao (a:=KD kvs) (b:=nD x) rfl rfl (nj (n6 g.val ((g.key x).mpr ((h x).mpr (r_.mp hx)))))⟩) am) ?_));rw[DA,e_tupL];show some (D.tup _)=some (D.tup _);rw[M_];rfl
theorem nA{a b:Nat}(h:0<b):bg (nD a) (nD b)=some (nD (a%b)):=by rw[pY (by omega:(0:Int)<(b:Int))];show some (D.int _)=some (D.int _);rw[Int.natCast_emod]
theorem uP{a b:Nat}(h:0<b)(h2:b<1000):js (nD a) (nD b)=some (nD (a/b)):=by rw[Ll (⟨by omega,by omega⟩:hV (a:Int) (b:Int))];show some (D.int _)=some (D.int _);rw[UO]
theorem iw(a b:Nat):addA (nD a) (nD b)=some (nD (a+b)):=by rw[addA_int];show some (D.int _)=some (D.int _);rw[R4]
section
variable{f f':FE}{r:ak}
theorem lZ{b:Int}(h:∃i:Int,f r=.ok (.int i))(h':f' r=.ok (.int b))(hb:0<b):∃c:Nat,f2 f f' bg r=.ok (nD c):=by obtain⟨i,hi⟩:=h;refine⟨(i%b).toNat,ao hi h' ?_⟩;rw[pY hb];show some (D.int _)=some (D.int _);rw[T6 (TZ _ (by omega))]
theorem Fm(h:∃c:Nat,f r=.ok (nD c)):∃i:Int,f r=.ok (.int i):=let⟨c,e⟩:=h;⟨c,e⟩
theorem kR{b:Int}(h:∃i:Int,f r=.ok (.int i))(h':f' r=.ok (.int b))(hb : -(2^64)<b/\b<2^64):∃i:Int,f2 f f' br r=.ok (.int i):=by obtain⟨i,hi⟩:=h;exact⟨i*b,ao hi h' (mf (.inr hb))⟩
theorem pA(h:∃i:Int,f r=.ok (.int i))(h':∃i:Int,f' r=.ok (.int i)):∃i:Int,f2 f f' addA r=.ok (.int i):=by obtain⟨i,hi⟩:=h;obtain⟨j,hj⟩:=h';exact⟨i+j,ao hi hj rfl⟩
end
theorem zS{m:List Md}{i:Nat}{f:FE}{s2:FS}{r:ak}(h:∃c:Nat,f r=.ok (nD c))(k:∀c:Nat,∃d:Nat,s2 (r.set i (some (nD c)))=.rt (nD d)):∃d:Nat,aa (ap m i f) s2 r=.rt (nD d):=by obtain⟨c,hc⟩:=h;obtain⟨d,hd⟩:=k c;exact⟨d,(aq (aR hc)).trans hd⟩
abbrev IN(ns:List Int):D:=.lst (ns.map .int)
theorem qy(ns:List Int)(k:Nat)(hk:k<=1000):∃c:Nat,fO [IN ns,nD k]=.ok (nD c):=by
 suffices h:∃c:Nat,rc (aN 4 [IN ns,nD k])=.rt (nD c)by obtain⟨c,hc⟩:=h;exact⟨c,bG (B:=rc) (n:=4) hc⟩
 unfold rc;have st:aa (ap c6 2 (ci 0))=aa (ap c6 2 (fun _=>Res.ok (nD 0))):=rfl;rw[st];refine zS ⟨0,rfl⟩ fun c1=>?_;show ∃d:Nat,aa _ _ [some (IN ns),some (nD k),some (nD c1),none]=_;have key:∃c2:Nat,(cA c6 (a9 (f2 (gv 1) (fC (ag (gv 0) ae) lenD) gG)) (aa (ap c6 2 (f2 (f2 (gv 0) (gv 1) aC) (f2 (ci 10) (ci 60) gp) bg)) au) au) [some (IN ns),some (nD k),some (nD c1),none]=.nx [some (IN ns),some (nD k),some (nD c2),none]:=by
  have t:=cq (ao (f:=gv 1) (r:=[some (IN ns),some (nD k),some (nD c1),none]) (a:=nD k) rfl (bQ (ah (f:=gv 0) (d:=IN ns) rfl am) (ki _ _)) (nb k ns.length));by_cases hlt:k<ns.length
  .rw[decide_eq_true hlt]at t;have hx:(ns.map D.int)[k]? = some (.int ns[k]):=by rw[n_,i_ hlt];rfl
   have hp:gp (.int 10) (.int 60)=some (.int (10^60)):=by show iq fE _ _ _=_;rw[intsC_int,if_pos (by unfold fE;decide)];rfl
   obtain⟨c2,h2⟩:=lZ (f:=f2 (gv 0) (gv 1) aC) (f':=f2 (ci 10) (ci 60) gp) (r:=[some (IN ns),some (nD k),some (nD c1),none]) ⟨ns[k],ao (a:=IN ns) (b:=nD k) rfl rfl (j4 hx)⟩ (ao rfl rfl hp) (by decide);exact⟨c2,(gU t).trans ((aq (aR h2)).trans rfl)⟩
  .rw[decide_eq_false hlt]at t;exact⟨c1,(bK t).trans rfl⟩
 obtain⟨c2,h2⟩:=key;rw[aq h2];have kq:∃b,(dO (a9 (f2 (fC (ag (gv 0) ae) lenD) (ci 0) je)) (a9 (f2 (f2 (f2 (gv 0) (ci 0) aC) (ci 2) bg) (ci 0) eqD))) [some (IN ns),some (nD k),some (nD c2),none]=.ok b:=by have t:=cq (ao (f:=fC (ag (gv 0) ae) lenD) (f':=fun _=>Res.ok (D.int 0)) (r:=[some (IN ns),some (nD k),some (nD c2),none]) (b:=nD 0) (bQ (ah (d:=IN ns) rfl am) (ki _ _)) rfl (pK ns.length 0));cases ns with
 |nil=>exact⟨false,zK t⟩
 |cons a ns=>rw[decide_eq_true (by simp)]at t;obtain⟨c3,h3⟩:=lZ (f:=f2 (gv 0) (ci 0) aC) (f':=fun _=>Res.ok (D.int 2)) (r:=[some (IN (a::ns)),some (nD k),some (nD c2),none]) ⟨a,ao (a:=IN (a::ns)) (b:=.int 0) rfl rfl (ixA_L0 _ _)⟩ rfl (by decide);exact⟨_,(sE t).trans (cq (ao h3 (b:=nD 0) rfl (mX c3 0)))⟩
 obtain⟨b,hb⟩:=kq;cases b with
|true=>exact⟨c2,bn ((gU hb).trans (bn (bx (d:=nD c2) rfl)))⟩
|false=>rw[aq ((bK (s2:=au) hb).trans (e_skip _))];refine zS (lZ (kR (Fm (lZ (kR (pA (pA (pA ⟨(c2:Int),rfl⟩ (kR (b:=(k:Int)) (kR (b:=(k:Int)) ⟨7,rfl⟩ rfl (by omega)) rfl (by omega))) (kR (b:=(k:Int)) ⟨13,rfl⟩ rfl (by omega))) ⟨5,rfl⟩) rfl (by decide)) rfl (by decide))) rfl (by decide)) rfl (by decide)) fun c3=>?_;obtain⟨c4,h4⟩:=lZ (f:=(f2 (f2 (f2 (f2 (gv 3) (ci 1) addA) (ci 40692) br) (ci 2147483629) bg) (ci 39373) br)) (f':=fun _=>Res.ok (D.int 999999937)) (r:=[some (IN ns),some (nD k),some (nD c2),some (nD c3)]) (kR (Fm (lZ (kR (pA ⟨(c3:Int),rfl⟩ ⟨1,rfl⟩) rfl (by decide)) rfl (by decide))) rfl (by decide)) rfl (by decide);exact⟨c4,bn (bx h4)⟩
theorem Ms{row:List Nat}{i:Int}{x:Nat}:ca (row.map nD) i (nD x)=(ca row i x).map nD:=by unfold ca;rw[m_,L_,p_,XQ,XR]
theorem Nf{row:List Nat}{i:Int}{x:Nat}:(ca row i x).Perm (x::row):=by unfold ca;refine UR.trans ?_;rw[Vl]
theorem C3(m:Nat):∀(j i c:Nat)(row:List Nat)(x:Option D),row.Perm (a_ i)->i+j<=60 ->∃(c':Nat)(row':List Nat)(x':Option D),row'.Perm (a_ (i+j))/\aE (az 3) Ey ((Rb i j).map nD) [some (nD c),some (nD m),some (LN row),x]=.nx [some (nD c'),some (nD m),some (LN row'),x']
|0,i,c,row,x,hp,_=>⟨c,row,x,hp,cU⟩
|j+1,i,c,row,x,hp,hl=>by
  have hlen:row.length=i:=by rw[hp.length_eq];simp
  obtain⟨c',row',x',h1,h2⟩:=C3 m j (i+1) (c/(i+1)) (ca row ((c%(i+1):Nat):Int) i) (some (nD i)) (by refine Nf.trans ?_;rw[QZ];exact(List.Perm.cons i hp).trans (Sd i _).symm) (by omega);refine⟨c',row',x',by rw[show i+(j+1)=i+1+j by omega];exact h1,?_⟩;rw[<-h2];have hmod:c%(i+1)<i+1:=SF _ (by omega);refine cL (r1:=[some (nD c),some (nD m),some (LN row),some (nD i)]) rfl ?_;refine(aq (ii (d:=LN row) (ds:=[nD (c%(i+1)),nD i]) (d':=LN (ca row ((c%(i+1):Nat):Int) i)) rfl rfl (ah (ao (a:=nD c) (b:=nD (i+1)) rfl (ao (a:=nD i) (b:=nD 1) rfl rfl (iw i 1)) (nA (by omega))) (ah (d:=nD i) rfl am)) ?_)).trans ?_
  .show(if _ then some (D.lst (ca _ _ _))else none)=_;rw[if_pos ⟨by rw[m_,Qf];omega,by omega,by omega⟩,Ms]
  .exact aq (aR (d:=nD (c/(i+1))) (ao (a:=nD c) (b:=nD (i+1)) rfl (ao (a:=nD i) (b:=nD 1) rfl rfl (iw i 1)) (uP (by omega) (by omega))))
theorem Cu(c m:Nat)(hm:m<=60):∃row:List Nat,row.Perm (a_ m)/\kr [nD c,nD m]=.ok (TN row):=by obtain⟨c',row',x',h1,h2⟩:=C3 m m 0 c [] none (by simp) (by omega);rw[QJ]at h1;rw[<-Qq]at h2;refine⟨row',h1,bG (B:=wG) (n:=4) ?_⟩;unfold wG;refine(aq (aR (d:=LN []) (fI am (by simp)))).trans ?_;refine(aq ((cV (ds:=(a_ m).map nD) (fK (ah (d:=nD m) rfl am) (fJ (by omega)))).trans h2)).trans ?_;exact bn (bx (bQ (ah (d:=LN row') rfl am) rfl))
end Law
namespace Law
open PySem PyProof.Rows L2 DL
theorem zR(a b:Nat):eqs (nD a) (nD b)=decide (a=b):=by show(((a:Nat):Int)==(b:Int))=_;rw[P6,beq_iff_eq,decide_eq_true_iff];exact R6
theorem BC(k:Nat):∀l:List Nat,k∈l->ka (nD k) (l.map nD)=some (l.idxOf k)
|[],h=>by cases h
|a::l,h=>by
  show(if eqs (nD a) (nD k)=true then some 0 else(ka (nD k) (l.map nD)).map (· + 1))=_;rw[zR];by_cases e:a=k
  .rw[if_pos (by simpa using e)];subst e;simp
  .rw[if_neg (by simpa using e),BC k l ((q_.mp h).resolve_left fun z=>e z.symm)];have hf:(a==k)=false:=by simpa using e
   rw[WO,hf];rfl
theorem BA(k:Nat):∀l:List Nat,(l.map nD).eraseIdx (l.idxOf k)=(l.erase k).map nD
|[]=>rfl
|a::l=>by
  by_cases e:a=k
  .subst e;simp
  .rw[WO,List.erase_cons_tail (by simpa using e)];have:(a==k)=false:=by simpa using e
   rw[this];show nD a::(l.map nD).eraseIdx (l.idxOf k)=_;rw[BA k l];rfl
theorem Jy{k:Nat}{l:List Nat}(h:k∈l):remD (LN l) [nD k]=some (LN (l.erase k)):=by show(if (l.map nD).all isInt=true then(ka (nD k) (l.map nD)).map fun j=>D.lst ((l.map nD).eraseIdx j)else none)=_;rw[if_pos (by rw[Qs];intro x hx;obtain⟨y,_,rfl⟩:=A_.mp hx;rfl),BC k l h];show some (D.lst _)=some (D.lst _);rw[BA]
theorem sv{T:String}{fo:FE}{fl:ak->Res (List D)}{k:D->List D->Option D}{r:ak}{d d':D}{ds:List D}(h1:fo r=.ok d)(ht:rY T d=true)(h2:fl r=.ok ds)(h3:k d ds=some d'):fM T fo fl k r=.ok d':=by unfold fM;rw[h1,bind_ok,if_pos ht,h2,bind_ok,h3];rfl
theorem Bx(fst:D)(n m:Nat):∀(l:List Nat)(y:Option D),(∀x∈l,x<m) ->∃y',aE (az 3) Fe (l.map nD) [some fst,some (nD n),some (nD m),y]=.nx [some fst,some (nD n),some (nD m),y']
|[],y,_=>⟨y,cU⟩
|h::l,y,hl=>by
  obtain⟨y',ih⟩:=Bx fst n m l (some (nD h)) fun x hx=>hl x (f_ _ hx);refine⟨y',?_⟩;rw[<-ih];have c:decide (h<m)=true:=decide_eq_true (hl h g_);have t3:(a9 (jz (ci 0) (gv 3) (gv 2) iN gG)) [some fst,some (nD n),some (nD m),some (nD h)]=.ok true:=by rw[<-c];exact cq (uJ (y:=nD h) (w:=nD m) rfl rfl (Ab h) rfl (nb h m))
  refine cL (r1:=[some fst,some (nD n),some (nD m),some (nD h)]) rfl ((aq (bK ?_)).trans rfl);rw[cQ (eO (b:=true) (dk (jq (a:=nD h) (d:=.bl true) rfl rfl) rfl)),cQ (dk (jq (a:=nD h) (d:=.bl false) rfl rfl) rfl)];exact eO t3
theorem qt:∀l:List Nat,eY (l.map nD)=some (l.map fun k:Nat=>(k:Int))
|[]=>rfl
|k::l=>by show(eY (l.map nD)).map _=_;rw[qt l];rfl
theorem E9:∀(ns acc:List Int),(acc++ns).Nodup->(ns.foldl VU acc).length=acc.length+ns.length
|[],acc,_=>rfl
|k::ns,acc,h=>by
  have hk:k∉acc:=fun z=>(Qx.mp h).2.2 k z k g_ rfl;have e:VU acc k=acc++[k]:=by unfold VU;rw[if_neg (by simpa using hk)]
  rw[R3,e,E9 ns (acc++[k]) (by simpa using h)];simp;omega
theorem Oe{l:List Nat}{m:Nat}(hn:l.Nodup)(hm:∀x∈l,x<m)(h8:l.length<=60):rQ [TN l,nD l.length,nD m]=.ok (.bl true):=by
 refine bG (B:=yb) (n:=4) ?_;unfold yb;obtain⟨y',hl⟩:=Bx (TN l) l.length m l none hm;refine(aq (r':=[some (TN l),some (nD l.length),some (nD m),none]) ((bK ?_).trans rfl)).trans ?_
 .rw[cQ (eO (b:=true) (dk (jq (a:=TN l) (d:=.bl true) rfl rfl) rfl))];have e:=nc l.length l.length;rw[decide_eq_true rfl]at e;exact cq (ao (a:=nD l.length) (b:=nD l.length) (bQ (ah (d:=TN l) rfl am) (mq _ _)) rfl e)
 .refine(aq ((cV (ds:=l.map nD) rfl).trans hl)).trans ?_;refine bn (bx (ao (a:=nD l.length) (b:=nD l.length) (jq (a:=TN l) rfl ?_) rfl (n4 _)));show(eY (l.map nD)).bind _=_;rw[qt];show(if _ then some (D.int ((fU (l.map fun k:Nat=>(k:Int))).length:Int))else none)=_;have hnd:(l.map fun k:Nat=>(k:Int)).Nodup:=by rw[List.nodup_iff_pairwise_ne,List.pairwise_map];exact List.Pairwise.imp (fun h z=>h (R6.mp z)) hn
  have e:(fU (l.map fun k:Nat=>(k:Int))).length=l.length:=by have:=E9 (l.map fun k:Nat=>(k:Int)) [] (by simpa using hnd);unfold fU;rw[this];simp
  rw[if_pos (by rw[m_];unfold RQ;omega),e]
theorem KJ{l:List Nat}{i:Nat}(h:i<=l.length):oS (LN l) (some (i:Int)) none=some (LN (l.drop i)):=by show some (D.lst (dP (l.map nD) (some (i:Int)) none))=_;unfold dP;rw[HT.gF,HT.fg,m_,WP h];rw[Ta (by simp)];show some (D.lst _)=some (D.lst ((l.drop i).map nD));rw[XR]
theorem nP{f:FE}{r:ak}{i:Int}(h:f r=.ok (.int i)):j9 f r=.ok (some i):=by unfold j9;rw[h];rfl
theorem An{fa:FE}{fl fh:FP}{r:ak}{d d':D}{lo hi:Option Int}(h1:fa r=.ok d)(h2:fl r=.ok lo)(h3:fh r=.ok hi)(h4:oS d lo hi=some d'):mS fa fl fh r=.ok d':=by unfold mS;rw[h1,bind_ok,h2,bind_ok,h3,bind_ok,h4];rfl
theorem tD{ds:List D}{i:Nat}{v:D}(h:i<ds.length):cH (.lst ds) (nD i) v=some (.lst (ds.set i v)):=by show(gT ds.length (i:Int)).map _=_;unfold gT;rw[if_pos (R1 i),if_pos (by omega)];simp
theorem fW{nl:Nat}{cap:List Nat}{fi:FI}{ft:FT}{fe:FE}{r:ak}{α:Type}{l:List α}(e:α->D)(g:α->D)(h1:fi r=.ok (l.map e))(hl:l.length<=1000)(h:∀a∈l,∃r1,ft (e a) (bi nl cap r)=some r1/\fe r1=.ok (g a)):cD nl cap fi ft (fun _=>Res.ok true) fe r=.ok (.lst (l.map g)):=by
 have:=mn (q:=fun _=>Res.ok true) e (fun _=>true) g h1 hl fun a ha=>by obtain⟨r1,q1,q2⟩:=h a ha;exact⟨r1,q1,rfl,fun _=>q2⟩
 rw[this,DA]
end Law
section
set_option exponentiation.threshold 3000
namespace Law
open PySem PyProof.Rows L2 DL Fq
abbrev FR(x:Int×Nat):D:=.tup [.int x.1,nD x.2]
abbrev TF(l:List (Int×Nat)):D:=.tup (l.map FR)
theorem Ks:lV=2^2000:=rfl
theorem sZ{a k:Nat}(h:a<2^k)(hk:k<=2000):a<lV:=by rw[Ks];exact G_ h (Sa (by omega) hk)
theorem gN{a b:Int}{k l:Nat}(h1:a.natAbs<2^k)(h2:b.natAbs<2^l)(hk:k<=2000)(hl:l<=2000):cy (.int a) (.int b)=some (.int (a*b)):=by rw[cy,intsC_int,if_pos ⟨sZ h1 hk,sZ h2 hl⟩]
theorem qu{a:Int}{b k:Nat}(h0:0<b)(h1:b<2^k)(hk:k<=2000):kN (.int a) (nD b)=some (.int (a/(b:Int))):=by rw[kN,intsC_int,if_pos ⟨by omega,by rw[J_];exact sZ h1 hk⟩]
theorem z7(b:Nat):neD (nD b) (.int 0)=some (.bl (! decide (b=0))):=nc b 0
theorem Lo{m:List Md}:∀(k n:Nat)(a:Int)(b:Nat)(x:Option D),b<2^k->2*k+1<=n ->∃(a':Int)(y:Option D),dF m oI oG n [some (.int a),some (nD b),x]=.nx [some (.int a'),some (nD 0),y]/\a'.natAbs=QH a b:=by
 have z0:∀(n:Nat)(a:Int)(x:Option D),1<=n->∃(a':Int)(y:Option D),dF m oI oG n [some (.int a),some (nD 0),x]=.nx [some (.int a'),some (nD 0),y]/\a'.natAbs=QH a 0:=by
  intro n a x hn;obtain⟨n,rfl⟩:∃k,n=k+1:=⟨n-1,by omega⟩
  exact⟨a,x,vA (cq (ao (a:=nD 0) (b:=.int 0) rfl rfl (z7 0))),by simp⟩
 have st:∀(n:Nat)(a:Int)(b:Nat)(x:Option D),0<b->dF m oI oG (n+1) [some (.int a),some (nD b),x]=dF m oI oG n [some (nD b),some (nD (a%(b:Int)).toNat),some (nD (a%(b:Int)).toNat)]:=by
  intro n a b x hb;have hne:=z7 b;rw[decide_eq_false (by omega)]at hne;refine vB (cq (ao (a:=nD b) (b:=.int 0) rfl rfl hne)) ?_;refine(aq (aR (d:=nD (a%(b:Int)).toNat) (ao (a:=.int a) (b:=nD b) rfl rfl ?_))).trans ?_
  .rw[pY (by omega)];show some (D.int _)=some (D.int _);rw[T6 (TZ _ (by omega))]
  refine(aq (aR (d:=nD b) rfl)).trans ?_;exact aq (aR (d:=nD (a%(b:Int)).toNat) rfl)
 have hr:∀(a:Int)(b:Nat),0<b->(((a%(b:Int)).toNat:Nat):Int)=a%(b:Int)/\(a%(b:Int)).toNat<b:=by intro a b hb;have h1:=TZ a (show(b:Int)≠0 by omega);have h2:=VV a (show(0:Int)<b by omega);exact⟨T6 h1,by omega⟩
 intro k
 induction k with
|zero=>
  intro n a b x hb hn;have:b=0:=by have:(2:Nat)^0=1:=rfl;omega
  subst this;exact z0 n a x (by omega)
|succ k ih=>
  intro n a b x hb hn;by_cases h0:b=0
  .subst h0;exact z0 n a x (by omega)
  .have hbp:0<b:=by omega
   obtain⟨n,rfl⟩:∃j,n=j+2:=⟨n-2,by omega⟩
   obtain⟨r1,r2⟩:=hr a b hbp;have e1:=st (n+1) a b x hbp;generalize(a%(b:Int)).toNat=r at r1 r2 e1;rw[e1,CP a b,<-r1];by_cases hz:r=0
   .subst hz;exact z0 (n+1) b _ (by omega)
   .obtain⟨s1,s2⟩:=hr (b:Int) r (by omega);have e2:=st n (b:Int) r (some (nD r)) (by omega);have hs:((b:Int)%(r:Int)).toNat=b%r:=by omega
    rw[hs]at s1 s2 e2;rw[e2,CP (b:Int) r,<-s1];refine ih n (r:Int) (b%r) _ ?_ (by omega);have h3:b%r<r:=SF _ (by omega);have h4:b%r<=b-r:=by have:=Nat.mod_eq_sub_mod (show r<=b by omega);rw[this];exact Nat.mod_le _ _
    rw[Td]at hb;omega
theorem xq{a:Int}{b k:Nat}(hb:b<2^k)(hk:k<=499):mG [.int a,nD b]=.ok (nD (QH a b)):=by obtain⟨a',y,h1,h2⟩:=Lo (m:=bq) k 1000 a b none hb (by omega);refine bG (B:=xV) (n:=3) ?_;unfold xV;refine(aq h1).trans (bn (bx (bQ (ah (d:=.int a') rfl am) ?_)));show some (D.int (if a'<0 then-a' else a'))=some (D.int _);rw[<-h2];split <;> congr 2 <;> omega
theorem t8{t:Int}{b k:Nat}(h0:0<b)(hb:b<2^k)(hk:k<=499):ko [.int t,nD b]=.ok (FR (low t b)):=by
 refine bG (B:=wF) (n:=3) ?_;unfold wF;have hg:=qo t h0;have hgb:QH t b<2^k:=by have h1:QH t b∣b:=SN.mp (Ri t b);have:=VI h0 h1;omega
 refine(aq (aR (aI (ah (d:=.int t) rfl (ah (d:=nD b) rfl am)) (xq hb hk)))).trans ?_;refine bn (bx (iy (ah (ao (a:=.int t) (b:=nD (QH t b)) rfl rfl (qu hg hgb (by omega))) (ah (ao (a:=nD b) (b:=nD (QH t b)) rfl rfl (qu hg hgb (by omega))) am)) (by simp)))
theorem gA(x:Int×Nat):aC (FR x) (.int 0)=some (.int x.1):=rfl
theorem gK(x:Int×Nat):aC (FR x) (.int 1)=some (nD x.2):=j5 (i:=1) rfl
section
variable{k l:Nat}{a b:Int×Nat}
theorem NB(ha:Bd k a)(hb:Bd l b)(hl:k+l<=498):li [FR a,FR b]=.ok (FR (kM a b)):=by
 refine bG (B:=wW) (n:=2) ?_;unfold wW;have i0:=gA a;have i1:=gK a;have j0:=gA b;have j1:=gK b;refine bn (bx (aI (ah (ao (ao (ao (a:=FR a) rfl rfl i0) (ao (a:=FR b) rfl rfl j1) (gN ha.top (by rw[J_];exact hb.bot) (by omega) (by omega))) (ao (ao (a:=FR b) rfl rfl j0) (ao (a:=FR a) rfl rfl i1) (gN hb.top (by rw[J_];exact ha.bot) (by omega) (by omega))) rfl)
  (ah (d:=nD (a.2*b.2)) (ao (ao (a:=FR a) rfl rfl i1) (ao (a:=FR b) rfl rfl j1) ?_) am)) ?_))
 .rw[gN (k:=k) (l:=l) (by rw[J_];exact ha.bot) (by rw[J_];exact hb.bot) (by omega) (by omega)];show some (D.int _)=some (D.int _);rw[K_]
 .exact t8 (jD ha hb).1 (jD ha hb).2 (by omega)
theorem LK(ha:Bd k a)(hc:QH a.1 (a.2:Nat)=1)(hk:k<=499):rL [FR a]=.ok (.bl true):=by
 refine bG (B:=yf) (n:=2) ?_;unfold yf;refine(aq ((bK ?_).trans (e_skip _))).trans ?_
 .rw[cQ (eO (b:=true) (dk (jq (a:=FR a) (d:=.bl true) rfl rfl) rfl))];exact cq (ao (a:=nD 2) (b:=nD 2) (bQ (ah (d:=FR a) rfl am) rfl) rfl (nc 2 2))
 have stp:∀(i:Int),Fc [some (FR a),some (.int i)]=.nx [some (FR a),some (.int i)]:=by intro i;refine aq ((bK ?_).trans (e_skip _));rw[cQ (eO (b:=true) (dk (jq (a:=.int i) (d:=.bl true) rfl rfl) rfl))];exact dk (jq (a:=.int i) (d:=.bl false) rfl rfl) rfl
 refine(aq ((cV (gC (d:=FR a) rfl rfl)).trans ((cL (r1:=[some (FR a),some (.int a.1)]) rfl (stp a.1)).trans ((cL (r1:=[some (FR a),some (nD a.2)]) rfl (stp a.2)).trans cU)))).trans ?_;have hp:=ha.pos;have hg:=pK a.2 0;rw[decide_eq_true hp]at hg;refine bn (bx ?_);rw[pW (ao (ao (a:=FR a) rfl rfl (gK a)) (b:=nD 0) rfl hg)];refine ao (a:=nD 1) (b:=nD 1) (aI (ah (ao (a:=FR a) rfl rfl (gA a)) (ah (ao (a:=FR a) rfl rfl (gK a)) am)) ?_) rfl (n4 1);have:=xq (a:=a.1) ha.bot hk;rw[hc]at this;exact this
end
theorem Kx{B:FS}{n:Nat}{ds:List D}{d:D}(h:B (aN n ds)=.rt d):ay true (B (aN n ds))=.ok d:=by rw[h];rfl
theorem BB{fa fb:FE}{r:ak}{d e:D}{ds es:List D}(h1:fa r=.ok d)(h2:fb r=.ok e)(h3:bJ d=some ds)(h4:bJ e=some es):gW fa fb r=.ok (S_ (fun a b=>D.tup [a,b]) ds es):=by unfold gW;rw[h1,bind_ok,h2,bind_ok,h3,opt_some,bind_ok,h4,opt_some,bind_ok]
theorem zM{α:Type}(p:α->Bool):∀l:List α,jp (l.map fun x=>D.bl (p x))=some (l.map p)
|[]=>rfl
|x::l=>by show(jp (l.map fun x=>D.bl (p x))).map _=_;rw[zM p l];rfl
theorem GM{α:Type}(p:α->Bool)(l:List α):allD [.lst (l.map fun x=>D.bl (p x))]=some (.bl (l.all p)):=by show(jp (l.map fun x=>D.bl (p x))).map _=_;rw[zM];show some (D.bl ((l.map p).all id))=_;rw[List.all_map];rfl
theorem Dp(i:Int):kt [.int i]=.ok (.bl true):=rfl
theorem Ji{a:Int}{b k:Nat}(hb:b<2^k)(hk:k<=499):rM [.int a,nD b]=.ok (nD (QH a b)):=xq hb hk
theorem mI{t:Int}{b k:Nat}(h0:0<b)(hb:b<2^k)(hk:k<=499):e8 [.int t,nD b]=.ok (FR (low t b)):=by
 refine bG (B:=wH) (n:=3) ?_;unfold wH;have hg:=qo t h0;have hgb:QH t b<2^k:=by have h1:QH t b∣b:=SN.mp (Ri t b);have:=VI h0 h1;omega
 refine(aq ((bK ?_).trans (e_skip _))).trans ?_
 .rw[cQ (eO (b:=true) (dk (aI (ah (d:=.int t) rfl am) (Dp t)) rfl)),cQ (eO (b:=true) (dk (aI (ah (d:=nD b) rfl am) (Dp b)) rfl))];have:=mX b 0;rw[decide_eq_false (by omega)]at this;exact cq (ao (a:=nD b) (b:=nD 0) rfl rfl this)
 refine(aq (aR (aI (ah (d:=.int t) rfl (ah (d:=nD b) rfl am)) (Ji hb hk)))).trans ?_;refine(aq ((bK ?_).trans (e_skip _))).trans ?_
 .have:=nb b 0;rw[decide_eq_false (by omega)]at this;exact cq (ao (a:=nD b) (b:=nD 0) rfl rfl this)
 refine bn (bx (iy (ah (ao (a:=.int t) (b:=nD (QH t b)) rfl rfl (qu hg hgb (by omega))) (ah (ao (a:=nD b) (b:=nD (QH t b)) rfl rfl (qu hg hgb (by omega))) am)) (by simp)))
end Law
end
section
set_option exponentiation.threshold 3000
namespace Law
open PySem PyProof.Rows L2 DL Fq Bk
theorem kn{s1 s2:FK}{r r':ak}(h:s1 r=.nx r'):cg s1 s2 r=s2 r':=by unfold cg;rw[h]
theorem kW{s1 s2:FK}{r r':ak}{d:D}(h:s1 r=.rt d r'):cg s1 s2 r=.rt d r':=by unfold cg;rw[h]
theorem iX{α:Type}{a:α}{k:α->OutK}:jd (.ok a) k=k a:=rfl
theorem CK{f:FE}{r:ak}{d:D}(h:f r=.ok d):gj f r=.rt d r:=by unfold gj;rw[h,iX]
theorem sy{p:FQ}{s1 s2:FK}{r:ak}(h:p r=.ok true):mR p s1 s2 r=s1 r:=by unfold mR;rw[h,iX,if_pos rfl]
theorem Gk{p:FQ}{s1 s2:FK}{r:ak}(h:p r=.ok false):mR p s1 s2 r=s2 r:=by unfold mR;rw[h,iX,if_neg j_]
theorem CC{i:Nat}{fk fv:FE}{r:ak}{d k v d':D}(h1:r[i]? = some (some d))(h2:fv r=.ok v)(h3:fk r=.ok k)(h4:cH d k v=some d'):DL.putK i fk fv r=.nx (r.set i (some d')):=by unfold DL.putK;rw[h2,iX];simp only[h1,h3,iX,h4]
theorem FF{p:FQ}{fa fb:FE}{i1 i2:Nat}{F:ip}{s1:FK}{r:ak}(h:p r=.ok true):mO p fa fb i1 i2 F s1 r=s1 r:=by unfold mO;rw[h,iX,if_pos rfl]
theorem FD{p:FQ}{fa fb:FE}{i1 i2:Nat}{F:ip}{s1:FK}{r:ak}{da db d1 d2:D}{t:Bool×D×D}(h:p r=.ok false)(ha:fa r=.ok da)(hb:fb r=.ok db)(h1:r[i1]? = some (some d1))(h2:r[i2]? = some (some d2))(hF:F [da,db,d1,d2]=some t):mO p fa fb i1 i2 F s1 r=if t.1=true then s1 ((r.set i1 (some t.2.1)).set i2 (some t.2.2))else .nx ((r.set i1 (some t.2.1)).set i2 (some t.2.2)):=by unfold mO;rw[h,iX,if_neg j_,ha,iX,hb,iX];simp only[h1,h2,hF]
theorem BE{i:Nat}{b:FK}{d:D}{ds:List D}{r r':ak}(h:b (r.set i (some d))=.nx r'):cR i b (d::ds) r=cR i b ds r':=by
 conv=>lhs;unfold cR
 simp only[h]
theorem BF{i:Nat}{b:FK}{d v:D}{ds:List D}{r r':ak}(h:b (r.set i (some d))=.rt v r'):cR i b (d::ds) r=.rt v r':=by
 conv=>lhs;unfold cR
 simp only[h]
abbrev TD(T:List Nat):D:=.dic (T.map fun t=>(kI t,D.bl true))
abbrev LE(n:Nat)(E:Nat->List Nat):D:=.lst ((a_ n).map fun h=>LN (E h))
theorem Ax(T:List Nat)(k:Nat):((T.map fun t=>(kI t,D.bl true)).any fun kv=>decide (kv.1=kI k))=decide (k∈T):=by
 rw[T_,P6,Tt,decide_eq_true_iff];constructor
 .rintro⟨p,h1,h2⟩
  simp only[Rr,decide_eq_true_eq]at h2;exact ny h2▸h1
 .intro h;exact⟨k,h,by simp⟩
theorem Im(T:List Nat)(k:Nat):du (nD k) (TD T)=some (.bl (! decide (k∈T))):=by rw[<-Ax];rfl
theorem Ik(K:List (Nat×Nat))(k:Nat):du (nD k) (KD K)=some (.bl (! decide (k∈K.map (·.1)))):=by rw[<-pb];rfl
theorem IJ{T:List Nat}{k:Nat}(h:k∉T)(hl:T.length<=1000):cH (TD T) (nD k) (.bl true)=some (TD (T++[k])):=by show(if (T.map fun t=>(kI t,D.bl true)).length<sizeLine then some (D.dic (cx _ (kI k) (D.bl true)))else none)=_;rw[if_pos (by rw[m_,Qf];omega)];unfold cx;rw[Ax,decide_eq_false h,if_neg j_];show _=some (D.dic (TM _ (T++[k])));rw[L_];rfl
theorem AJ{K:List (Nat×Nat)}{t g:Nat}(nd:(K.map (·.1)).Nodup)(h:(t,g)∈K):aC (KD K) (nD t)=some (nD g):=by
 have hc:∀x,∃g,∀g',(x,g')∈K->g'=g:=fun x=>by
  by_cases e:∃g,(x,g)∈K
  .obtain⟨g,hg⟩:=e;exact⟨g,fun g' h'=>uS nd h' hg⟩
  .exact⟨0,fun g' h'=>absurd ⟨g',h'⟩ e⟩
 obtain⟨f,hf⟩:=Rj hc;have:=n6 (kvs:=K) (h:=t) (f:=f) (fun p hp=>hf p.1 p.2 hp) (A_.mpr ⟨_,h,rfl⟩);rw[hf t g h];exact nj this
theorem A6{K:List (Nat×Nat)}{x h:Nat}(nd:(K.map (·.1)).Nodup):zt K x h (putN K x h):=by
 refine⟨Ca nd,fun u g=>?_⟩;unfold putN;by_cases hx:x∈K.map (·.1)
 .rw[if_pos hx,A_];constructor
  .rintro⟨p,hp,e⟩
   by_cases z:p.1=x
   .rw[if_pos z]at e;exact .inl ⟨(congrArg Xc e).symm.trans z,(congrArg Wj e).symm⟩
   .rw[if_neg z]at e;subst e;exact .inr ⟨z,hp⟩
  .rintro(⟨rfl,rfl⟩|⟨z,m⟩)
   .obtain⟨p,hp,e⟩:=A_.mp hx;exact⟨p,hp,by rw[if_pos e,e]⟩
   .exact⟨(u,g),m,if_neg z⟩
 .rw[if_neg hx,List.mem_append];constructor
  .rintro(m|m)
   .exact .inr ⟨fun e=>hx (A_.mpr ⟨(u,g),m,e⟩),m⟩
   .have:=y_.mp m;exact .inl ⟨congrArg Xc this,congrArg Wj this⟩
  .rintro(⟨rfl,rfl⟩|⟨_,m⟩)
   .exact .inr (y_.mpr rfl)
   .exact .inl m
section
variable{n:Nat}{E:Nat->List Nat}
theorem Kok.len{K:List (Nat×Nat)}(ok:Kok n E K)(hE:∀g,g<n->∀t∈E g,t<n):K.length<=n:=by
 have:=Rg.jt (m:=a_ n) ok.nd fun t ht=>by obtain⟨p,hp,rfl⟩:=A_.mp ht;obtain⟨h1,h2⟩:=ok.ed p.1 p.2 hp;exact r_.mpr (hE _ h1 _ h2)
 simpa using this
theorem Gq{h:Nat}(hh:h<n):aC (LE n E) (nD h)=some (LN (E h)):=by refine j4 ?_;rw[n_,PM hh];rfl
theorem Ln(hE:∀g,g<n->∀t∈E g,t<n)(hn:n<=7):∀(m h:Nat)(T:List Nat)(K:List (Nat×Nat)),h<n->Kok n E K->mU T K->Nh T K h->T.Nodup->(∀t∈T,t<n)->n+1<=T.length+m ->∃(b:Bool)(T':List Nat)(K':List (Nat×Nat)),eQ m [LE n E,nD h,TD T,KD K]=some (b,TD T',KD K')/\T'.Nodup/\(∀t∈T',t<n)/\(∀t∈T,t∈T')/\(b=false->K'=K/\(∀t∈E h,t∈T')/\Fl E T K T')/\(b=true->Sc n E T K h K'):=by
 intro m
 induction m with
|zero=>intro h T K hh ok inj nh nd lt hm;have:=Rg.jt (m:=a_ n) nd fun t ht=>r_.mpr (lt t ht);simp at this;omega
|succ m ih=>
  intro h T K hh ok inj nh nd lt hm;have kl:=Kok.len ok hE;have loop:∀(L T1:List Nat)(x:Option D),(∀t∈L,t∈E h)->T1.Nodup->(∀t∈T1,t<n)->(∀t∈T,t∈T1)->Fl E T K T1 ->(∃(T':List Nat)(x':Option D),cR 4 (jF (eQ m)) (L.map nD) [some (LE n E),some (nD h),some (TD T1),some (KD K),x]=.nx [some (LE n E),some (nD h),some (TD T'),some (KD K),x']/\T'.Nodup/\(∀t∈T',t<n)/\(∀t∈T1,t∈T')/\(∀t∈L,t∈T')/\Fl E T K T') \/(∃(T':List Nat)(K':List (Nat×Nat))(x':Option D),cR 4 (jF (eQ m)) (L.map nD) [some (LE n E),some (nD h),some (TD T1),some (KD K),x]=.rt (.bl true) [some (LE n E),some (nD h),some (TD T'),some (KD K'),x']/\T'.Nodup/\(∀t∈T',t<n)/\(∀t∈T1,t∈T')/\Sc n E T K h K'):=by
   intro L
   induction L with
  |nil=>exact fun T1 x _ h1 h2 h3 h4=>.inl ⟨T1,x,rfl,h1,h2,fun _ z=>z,fun _ z=>(nomatch z),h4⟩
  |cons t L ihL=>
    intro T1 x hL n1 l1 s1 f1;have htE:=hL t g_;have tl:=Rg.jt (m:=a_ n) n1 fun t ht=>r_.mpr (l1 t ht);rw[Qw]at tl;have nt:=Im T1 t;by_cases ht:t∈T1
    .rw[decide_eq_true ht]at nt;have st:jF (eQ m) [some (LE n E),some (nD h),some (TD T1),some (KD K),some (nD t)]=.nx [some (LE n E),some (nD h),some (TD T1),some (KD K),some (nD t)]:=kn ((Gk (cq (ao (a:=nD t) (b:=TD T1) rfl rfl nt))).trans rfl);have e0:=BE (i:=4) (ds:=L.map nD) (r:=[some (LE n E),some (nD h),some (TD T1),some (KD K),x]) (d:=nD t) st;rcases ihL T1 (some (nD t)) (fun u hu=>hL u (f_ _ hu)) n1 l1 s1 f1 with⟨T',x',e,a1,a2,a3,a4,a5⟩|⟨T',K',x',e,a1,a2,a3,a4⟩
     .exact .inl ⟨T',x',e0.trans e,a1,a2,a3,fun u hu=>by
       rcases q_.mp hu with rfl|hu
       .exact a3 u ht
       .exact a4 u hu,a5⟩
     .exact .inr ⟨T',K',x',e0.trans e,a1,a2,a3,a4⟩
    .rw[decide_eq_false ht]at nt;have n2:(T1++[t]).Nodup:=Qx.mpr ⟨n1,by simp,fun a ha b hb e=>ht (by rw[y_.mp hb]at e;exact e▸ha)⟩;have l2:∀u∈T1++[t],u<n:=fun u hu=>by
      rcases Qk.mp hu with z|z
      .exact l1 u z
      .rw[y_.mp z];exact hE h hh t htE
     have htT:t∉T:=fun z=>ht (s1 t z);have nk:=Ik K t;have hput:DL.putK 2 (gv 4) (fun _=>Res.ok (D.bl true)) [some (LE n E),some (nD h),some (TD T1),some (KD K),some (nD t)]=.nx [some (LE n E),some (nD h),some (TD (T1++[t])),some (KD K),some (nD t)]:=CC (d:=TD T1) (k:=nD t) rfl rfl rfl (IJ ht (by omega));have fin:∀(T':List Nat)(K1:List (Nat×Nat)),K1.length<=1000->(cg (DL.putK 3 (gv 4) (gv 1)) (cg (gj (fun _=>Res.ok (D.bl true))) jn)) [some (LE n E),some (nD h),some (TD T'),some (KD K1),some (nD t)]=.rt (.bl true) [some (LE n E),some (nD h),some (TD T'),some (KD (putN K1 t h)),some (nD t)]:=fun T' K1 hl=>(kn (CC (d:=KD K1) (k:=nD t) (v:=nD h) rfl rfl rfl (tm hl))).trans (kW (CK rfl));by_cases hk:t∈K.map (·.1)
     .rw[decide_eq_true hk]at nk;obtain⟨p,hp,ep⟩:=A_.mp hk;have hg:(t,p.2)∈K:=by rw[<-ep];exact hp
      have gn:=(ok.ed t p.2 hg).1;obtain⟨b,T',K',e,a1,a2,a3,a4,a5⟩:=ih p.2 (T1++[t]) K gn ok (fun u v g hu hv=>inj u v g (fun z=>hu (PU _ (s1 u z))) (fun z=>hv (PU _ (s1 v z)))) (fun u hu m=>hu (by have:=inj u t p.2 (fun z=>hu (PU _ (s1 u z))) htT m hg;rw[this];exact PV _ (y_.mpr rfl))) n2 l2 (by have:=Rg.jt (m:=T1) nd s1;rw[PN];simp;omega);have hor:=FD (p:=a9 (f2 (gv 4) (gv 3) du)) (fa:=gv 0) (fb:=f2 (gv 3) (gv 4) aC) (i1:=2) (i2:=3) (s1:=cg (DL.putK 3 (gv 4) (gv 1)) (cg (gj (fun _=>Res.ok (D.bl true))) jn)) (r:=[some (LE n E),some (nD h),some (TD (T1++[t])),some (KD K),some (nD t)]) (cq (ao (a:=nD t) (b:=KD K) rfl rfl nk)) (da:=LE n E) rfl (ao (a:=KD K) (b:=nD t) rfl rfl (AJ ok.nd hg)) rfl rfl e;cases b with
     |true=>have S:=a5 rfl;rw[if_pos rfl]at hor;have kl':=Kok.len S.ok hE;have st:jF (eQ m) [some (LE n E),some (nD h),some (TD T1),some (KD K),some (nD t)]=.rt (.bl true) [some (LE n E),some (nD h),some (TD T'),some (KD (putN K' t h)),some (nD t)]:=kW ((sy (cq (ao (a:=nD t) (b:=TD T1) rfl rfl nt))).trans ((kn hput).trans (kW (hor.trans (fin T' K' (by omega))))));refine .inr ⟨T',putN K' t h,some (nD t),BF (i:=4) (ds:=L.map nD) (r:=[some (LE n E),some (nD h),some (TD T1),some (KD K),x]) (d:=nD t) st,a1,a2,fun u hu=>a3 u (PU _ hu),?_⟩;exact KG ok inj nh htT (PV _ (y_.mpr rfl)) (fun u hu=>PU _ (s1 u hu)) hg S hh htE (A6 S.ok.nd)
     |false=>
       obtain⟨rfl,b1,b2⟩:=a4 rfl;rw[if_neg j_]at hor;have st:jF (eQ m) [some (LE n E),some (nD h),some (TD T1),some (KD K'),some (nD t)]=.nx [some (LE n E),some (nD h),some (TD T'),some (KD K'),some (nD t)]:=kn ((sy (cq (ao (a:=nD t) (b:=TD T1) rfl rfl nt))).trans ((kn hput).trans (kn hor)));have e0:=BE (i:=4) (ds:=L.map nD) (r:=[some (LE n E),some (nD h),some (TD T1),some (KD K'),x]) (d:=nD t) st;have f2:Fl E T K' T':=fun u hu hT=>by
        by_cases z1:u∈T1
        .obtain⟨g,m1,m2⟩:=f1 u z1 hT;exact⟨g,m1,fun v hv=>a3 v (PU _ (m2 v hv))⟩
        .by_cases z2:u=t
         .subst z2;exact⟨p.2,hg,b1⟩
         .exact b2 u hu fun z=>by
           rcases Qk.mp z with z|z
           .exact z1 z
           .exact z2 (y_.mp z)
       rcases ihL T' (some (nD t)) (fun u hu=>hL u (f_ _ hu)) a1 a2 (fun u hu=>a3 u (PU _ (s1 u hu))) f2 with⟨T3,x',e,c1,c2,c3,c4,c5⟩|⟨T3,K3,x',e,c1,c2,c3,c4⟩
       .exact .inl ⟨T3,x',e0.trans e,c1,c2,fun u hu=>c3 u (a3 u (PU _ hu)),fun u hu=>by
         rcases q_.mp hu with rfl|hu
         .exact c3 u (a3 u (PV _ (y_.mpr rfl)))
         .exact c4 u hu,c5⟩
       .exact .inr ⟨T3,K3,x',e0.trans e,c1,c2,fun u hu=>c3 u (a3 u (PU _ hu)),c4⟩
     .rw[decide_eq_false hk]at nk;have st:jF (eQ m) [some (LE n E),some (nD h),some (TD T1),some (KD K),some (nD t)]=.rt (.bl true) [some (LE n E),some (nD h),some (TD (T1++[t])),some (KD (putN K t h)),some (nD t)]:=kW ((sy (cq (ao (a:=nD t) (b:=TD T1) rfl rfl nt))).trans ((kn hput).trans (kW ((FF (cq (ao (a:=nD t) (b:=KD K) rfl rfl nk))).trans (fin (T1++[t]) K (by omega))))));refine .inr ⟨T1++[t],putN K t h,some (nD t),BF (i:=4) (ds:=L.map nD) (r:=[some (LE n E),some (nD h),some (TD T1),some (KD K),x]) (d:=nD t) st,n2,l2,fun u hu=>PU _ hu,?_⟩;exact KB ok inj nh htT (fun g m=>hk (A_.mpr ⟨_,m,rfl⟩)) hh htE (A6 ok.nd)
  have hloop:pM (aG bJ (f2 (gv 0) (gv 1) aC)) 4 (jF (eQ m)) [some (LE n E),some (nD h),some (TD T),some (KD K),none]=cR 4 (jF (eQ m)) ((E h).map nD) [some (LE n E),some (nD h),some (TD T),some (KD K),none]:=by unfold pM;rw[gC (d:=LN (E h)) (ao (a:=LE n E) (b:=nD h) rfl rfl (Gq hh)) rfl,iX]
  rcases loop (E h) T none (fun _ z=>z) nd lt (fun _ z=>z) (fun t ht hT=>absurd ht hT)with⟨T',x',e,a1,a2,a3,a4,a5⟩|⟨T',K',x',e,a1,a2,a3,a4⟩
  .refine⟨false,T',K,?_,a1,a2,a3,fun _=>⟨rfl,a4,a5⟩,fun z=>(nomatch z)⟩;have:kz (eQ m) [some (LE n E),some (nD h),some (TD T),some (KD K),none]=.rt (.bl false) [some (LE n E),some (nD h),some (TD T'),some (KD K),x']:=by unfold kz;exact(kn (hloop.trans e)).trans (kW (CK rfl))
   show gq 2 3 (kz (eQ m) [some (LE n E),some (nD h),some (TD T),some (KD K),none])=_;rw[this];rfl
  .refine⟨true,T',K',?_,a1,a2,a3,fun z=>(nomatch z),fun _=>a4⟩;have:kz (eQ m) [some (LE n E),some (nD h),some (TD T),some (KD K),none]=.rt (.bl true) [some (LE n E),some (nD h),some (TD T'),some (KD K'),x']:=by unfold kz;exact kW (hloop.trans e)
   show gq 2 3 (kz (eQ m) [some (LE n E),some (nD h),some (TD T),some (KD K),none])=_;rw[this];rfl
end
end Law
end
section
set_option exponentiation.threshold 3000
namespace Law
open PySem PyProof.Rows L2 DL Fq Bk
section
variable{k l:Nat}{a b:Int×Nat}
theorem C5(ha:Bd k a)(hb:Bd l b)(hl:k+l<=498):i6 [FR a,FR b]=.ok (FR (kM a b)):=by
 refine bG (B:=sV) (n:=2) ?_;unfold sV;have i0:=gA a;have i1:=gK a;have j0:=gA b;have j1:=gK b;refine bn (bx (aI (ah (ao (ao (ao (a:=FR a) rfl rfl i0) (ao (a:=FR b) rfl rfl j1) (gN ha.top (by rw[J_];exact hb.bot) (by omega) (by omega))) (ao (ao (a:=FR b) rfl rfl j0) (ao (a:=FR a) rfl rfl i1) (gN hb.top (by rw[J_];exact ha.bot) (by omega) (by omega))) rfl)
  (ah (d:=nD (a.2*b.2)) (ao (ao (a:=FR a) rfl rfl i1) (ao (a:=FR b) rfl rfl j1) ?_) am)) ?_))
 .rw[gN (k:=k) (l:=l) (by rw[J_];exact ha.bot) (by rw[J_];exact hb.bot) (by omega) (by omega)];show some (D.int _)=some (D.int _);rw[K_]
 .exact mI (jD ha hb).1 (jD ha hb).2 (by omega)
theorem Dm(ha:Bd k a)(hb:Bd l b)(hl:k+l<=498):jA [FR a,FR b]=.ok (FR (tf a b)):=by
 refine bG (B:=uC) (n:=2) ?_;unfold uC;have i0:=gA a;have i1:=gK a;have j0:=gA b;have j1:=gK b;refine bn (bx (aI (ah (ao (ao (ao (a:=FR a) rfl rfl i0) (ao (a:=FR b) rfl rfl j1) (gN ha.top (by rw[J_];exact hb.bot) (by omega) (by omega))) (ao (ao (a:=FR b) rfl rfl j0) (ao (a:=FR a) rfl rfl i1) (gN hb.top (by rw[J_];exact ha.bot) (by omega) (by omega))) rfl)
  (ah (d:=nD (a.2*b.2)) (ao (ao (a:=FR a) rfl rfl i1) (ao (a:=FR b) rfl rfl j1) ?_) am)) ?_))
 .rw[gN (k:=k) (l:=l) (by rw[J_];exact ha.bot) (by rw[J_];exact hb.bot) (by omega) (by omega)];show some (D.int _)=some (D.int _);rw[K_]
 .exact mI (jD ha hb).1 (jD ha hb).2 (by omega)
theorem C4(ha:Bd k a)(hb:Bd l b)(hk:k<=2000)(hl:l<=2000):iZ [FR a,FR b]=.ok (.bl (l6 a b)):=by refine bG (B:=sU) (n:=2) ?_;unfold sU;have i0:=gA a;have i1:=gK a;have j0:=gA b;have j1:=gK b;exact bn (bx (ao (ao (ao (a:=FR a) rfl rfl i0) (ao (a:=FR b) rfl rfl j1) (gN ha.top (by rw[J_];exact hb.bot) (by omega) (by omega))) (ao (ao (a:=FR b) rfl rfl j0) (ao (a:=FR a) rfl rfl i1) (gN hb.top (by rw[J_];exact ha.bot) (by omega) (by omega))) rfl))
end
theorem M6{N:Nat}(hN:0<N)(a b:Int):tf (low a N) (low b N)=low (a-b) N:=by
 have h1:(low a N).1*(N:Int)=a*((low a N).2:Int):=fY a N;have h2:(low b N).1*(N:Int)=b*((low b N).2:Int):=fY b N;have p1:=fL a hN;have p2:=fL b hN;refine ik (Qp p1 p2) hN ?_;generalize low a N=p at *;generalize low b N=q at *;rw[K_,Vx,Vx];have e1:p.1*(q.2:Int)*(N:Int)=(p.1*(N:Int))*(q.2:Int):=by simp only[z_,PF,H_]
 have e2:q.1*(p.2:Int)*(N:Int)=(q.1*(N:Int))*(p.2:Int):=by simp only[z_,PF,H_]
 rw[e1,e2,h1,h2];simp only[z_,PF,H_]
theorem Ki{S a b:Nat}(hS:0<S)(h:low ((a:Nat):Int) S=low ((b:Nat):Int) S):a=b:=by have h1:(low (a:Int) S).1*(S:Int)=(a:Int)*((low (a:Int) S).2:Int):=fY _ S;have h2:(low (b:Int) S).1*(S:Int)=(b:Int)*((low (b:Int) S).2:Int):=fY _ S;have p:=fL (a:Int) hS;rw[<-h]at h2;rw[h1]at h2;have:=QU (by omega) h2;omega
abbrev lo(N c:Nat):Int×Nat:=low (c:Int) N
abbrev Qn(N c:Nat):D:=FR (lo N c)
structure Nn(N:Nat):Prop where
 pos:0<N
 lt:N<2^100
section
variable{N:Nat}(hN:Nn N)
include hN
theorem jj{c:Nat}(hc:c<=N):Bd 100 (lo N c):=Bd.low hN.pos hN.lt (by rw[J_];exact Q3 hc hN.lt)
theorem gs:lo N 0=(0,1):=Gv hN.pos
theorem yZ:lo N N=(1,1):=by rw[<-iM 1];exact ik hN.pos (by decide) (by simp)
theorem HW{a b:Nat}(ha:a<=N)(hb:b<=N):i6 [Qn N a,Qn N b]=.ok (Qn N (a+b)):=by have:=C5 (jj hN ha) (jj hN hb) (by omega);rw[CU hN.pos,<-R4]at this;exact this
theorem Kl{a b:Nat}(ha:a<=N)(hb:b<=a):jA [Qn N a,Qn N b]=.ok (Qn N (a-b)):=by have:=Dm (jj hN ha) (jj hN (PQ hb ha)) (by omega);rw[M6 hN.pos,<-Vf hb]at this;exact this
theorem AS{a b:Nat}(ha:a<=N)(hb:b<=N):iZ [Qn N a,Qn N b]=.ok (.bl (decide (a<b))):=by
 have:=C4 (jj hN ha) (jj hN hb) (by omega) (by omega);rw[L0 hN.pos hN.pos]at this;have e:decide ((a:Int)*(N:Int)<(b:Int)*(N:Int))=decide (a<b):=by have hp:=hN.pos;rw[P6,decide_eq_true_iff,decide_eq_true_iff,<-K_,<-K_,U7];exact⟨fun h=>Nat.lt_of_mul_lt_mul_right h,fun h=>(Nat.mul_lt_mul_right hp).mpr h⟩
 rw[e]at this;exact this
theorem Ic{a:Nat}(ha:a<=N):iZ [.tup [.int 0,.int 1],Qn N a]=.ok (.bl (decide (0<a))):=by have:=AS hN (Qa N) ha;rw[show Qn N 0=.tup [.int 0,.int 1]by show FR (lo N 0)=_;rw[gs hN];rfl]at this;exact this
theorem Ea{d0:D}:∀(l:List Nat)(s:Nat)(x:Option D),s+l.sum<=N->∃y,aE (az 2) Dq (l.map (Qn N)) [some d0,some (Qn N s),x]=.nx [some d0,some (Qn N (s+l.sum)),y]
|[],s,x,_=>⟨x,cU⟩
|c::l,s,x,h=>by rw[PL]at h;obtain⟨y,ih⟩:=Ea l (s+c) (some (Qn N c)) (by omega);refine⟨y,?_⟩;rw[p_,PL,<-XS,<-ih];refine cL (r1:=[some d0,some (Qn N s),some (Qn N c)]) rfl ?_;exact aq (aR (aI (ah (d:=Qn N s) rfl (ah (d:=Qn N c) rfl am)) (HW hN (by omega) (by omega))))
theorem NF{d0:D}{l:List Nat}(h:l.sum<=N)(hd:bJ d0=some (l.map (Qn N))):nR [d0]=.ok (Qn N l.sum):=by obtain⟨y,e⟩:=Ea hN (d0:=d0) l 0 none (by omega);rw[QJ]at e;refine bG (B:=uE) (n:=3) ?_;unfold uE;refine(aq (aR (d:=Qn N 0) (by show Res.ok (D.tup [D.int 0,D.int 1])=_;rw[show Qn N 0=.tup [.int 0,.int 1]by show FR (lo N 0)=_;rw[gs hN];rfl]))).trans ?_;refine(aq ((cV (gC (d:=d0) rfl hd)).trans e)).trans ?_;exact bn (bx (d:=Qn N l.sum) rfl)
theorem DZ{d0:D}:∀(l:List Nat)(m:Nat)(x:Option D),m<=N->(∀y∈l,y<=N)->∃x',aE (az 2) DI (l.map (Qn N)) [some d0,some (Qn N m),x]=.nx [some d0,some (Qn N (l.foldl (fun m y=>if y<m then y else m) m)),x']
|[],m,x,_,_=>⟨x,cU⟩
|y::l,m,x,hm,hl=>by
  have hy:=hl y g_;obtain⟨x',ih⟩:=DZ (d0:=d0) l (if y<m then y else m) (some (Qn N y)) (by split <;> assumption) (fun z hz=>hl z (f_ _ hz));refine⟨x',?_⟩;rw[p_,R3,<-ih];refine cL (r1:=[some d0,some (Qn N m),some (Qn N y)]) rfl ?_;have t:=AS hN hy hm;by_cases h:y<m
  .rw[decide_eq_true h]at t;rw[if_pos h];exact aq ((gU (dk (aI (ah (d:=Qn N y) rfl (ah (d:=Qn N m) rfl am)) t) rfl)).trans (aq (aR (d:=Qn N y) rfl)))
  .rw[decide_eq_false h]at t;rw[if_neg h];exact aq ((bK (dk (aI (ah (d:=Qn N y) rfl (ah (d:=Qn N m) rfl am)) t) rfl)).trans (e_skip _))
theorem Dl{l:List Nat}(h:l≠[])(hl:∀y∈l,y<=N):kT [.lst (l.map (Qn N))]=.ok (Qn N (Et.cm l)):=by cases l with
|nil=>exact absurd rfl h
|cons x l=>obtain⟨x',e⟩:=DZ hN (d0:=.lst ((x::l).map (Qn N))) (x::l) x none (hl x g_) hl;rw[R3,if_neg (Q5 x)]at e;refine bG (B:=uB) (n:=3) ?_;unfold uB;refine(aq (aR (d:=Qn N x) (ao (a:=.lst ((x::l).map (Qn N))) (b:=.int 0) rfl rfl (ixA_L0 _ _)))).trans ?_;refine(aq ((cV (gC (d:=.lst ((x::l).map (Qn N))) rfl rfl)).trans e)).trans ?_;exact bn (bx (d:=Qn N (Et.cm (x::l))) rfl)
end
def wr:Bool->List D->D
|true,ds=>.tup ds
|false,ds=>.lst ds
theorem me(t:Bool)(ds:List D):bJ (wr t ds)=some ds:=by cases t <;> rfl
theorem zE{t:Bool}{ds:List D}{i:Nat}{d:D}(h:ds[i]? = some d):aC (wr t ds) (nD i)=some d:=by
 cases t
 .exact j4 h
 .exact j5 h
theorem AR(t:Bool)(ds:List D):lenD [wr t ds]=some (nD ds.length):=by cases t <;> rfl
abbrev bW(t:Bool)(n N:Nat)(A:Nat->Nat->Nat)(i:Nat):D:=wr t ((a_ n).map fun j=>Qn N (A i j))
abbrev bb(t:Bool)(n N:Nat)(A:Nat->Nat->Nat):D:=wr t ((a_ n).map fun i=>bW t n N A i)
section
variable{t:Bool}{n N s:Nat}{A:Nat->Nat->Nat}
theorem AC(i:Nat):cb 0 ((a_ n).map fun j=>Qn N (A i j))=(a_ n).map fun j=>D.tup [nD j,Qn N (A i j)]:=by
 refine QS fun j=>?_;rw[nX,n_,n_];by_cases h:j<n
 .rw[PM h];simp only[QY,QJ]
 .rw[P3 (by simp;omega)];rfl
theorem qm{f:FE}{r:ak}{d:D}{ds:List D}(h:f r=.ok d)(h2:bJ d=some ds):dy f r=.ok (cb 0 ds):=by unfold dy;rw[h,bind_ok,h2,opt_some,bind_ok]
def Eo(n:Nat)(A:Nat->Nat->Nat)(i:Nat):List Nat:=(a_ n).filter fun j=>decide (0<A i j)
theorem pP{i j:Nat}:j∈Eo n A i↔j<n/\0<A i j:=by unfold Eo;rw[List.mem_filter,r_,decide_eq_true_iff]
theorem zD{i:Nat}(hi:i<n):aC (bb t n N A) (nD i)=some (bW t n N A i):=zE (by rw[n_,PM hi];rfl)
theorem zC{i j:Nat}(hj:j<n):aC (bW t n N A i) (nD j)=some (Qn N (A i j)):=zE (by rw[n_,PM hj];rfl)
theorem Dc(hN:Nn N)(hA:∀i j,i<n->j<n->A i j<=N)(hn:n<=7){d0:D}{x3 x4 x5 x6:Option D}:∀(j i:Nat)(x:Option D),i+j=n ->∃x',aE (az 2) E3 ((Rb i j).map fun i=>bW t n N A i) [some d0,some (.lst ((a_ i).map fun h=>LN (Eo n A h))),x,x3,x4,x5,x6]=.nx [some d0,some (LE n (Eo n A)),x',x3,x4,x5,x6]
|0,i,x,h=>by
  have:i=n:=by omega
  subst this;exact⟨x,cU⟩
|j+1,i,x,h=>by
  have hi:i<n:=by omega
  obtain⟨x',ih⟩:=Dc hN hA hn (d0:=d0) (x3:=x3) (x4:=x4) (x5:=x5) (x6:=x6) j (i+1) (some (bW t n N A i)) (by omega);refine⟨x',?_⟩;rw[<-ih,Q4,p_];refine cL (r1:=[some d0,some (.lst ((a_ i).map fun h=>LN (Eo n A h))),some (bW t n N A i),x3,x4,x5,x6]) rfl ?_;have hc:=mn (nl:=2) (cap:=[]) (fi:=dy (gv 2)) (ft:=dg (bh (az 0) (bh (az 1) dc))) (q:=bd (aA (ag (fun _=>Res.ok (D.tup [D.int 0,D.int 1])) (ag (gv 1) ae)) [] iZ)) (fe:=gv 0) (r:=[some d0,some (.lst ((a_ i).map fun h=>LN (Eo n A h))),some (bW t n N A i),x3,x4,x5,x6]) (l:=a_ n) (fun j=>D.tup [nD j,Qn N (A i j)]) (fun j=>decide (0<A i j)) nD (by rw[<-AC];exact qm (d:=bW t n N A i) rfl (me _ _)) (by simp;omega) fun j hj=>⟨[some (nD j),some (Qn N (A i j))],rfl,dk (aI (ah (d:=.tup [.int 0,.int 1]) rfl (ah (d:=Qn N (A i j)) rfl am)) (Ic hN (hA i j hi (r_.mp hj)))) rfl,fun _=>rfl⟩
  have em:(a_ (i+1)).map (fun h=>LN (Eo n A h))=(a_ i).map (fun h=>LN (Eo n A h))++[LN (Eo n A i)]:=by rw[QZ,L_];rfl
  rw[em];exact aq (ii (d:=.lst ((a_ i).map fun h=>LN (Eo n A h))) (ds:=[LN (Eo n A i)]) rfl rfl (ah hc am) (i8 (by simp;omega)))
theorem J9{m:List Md}{fa fb:FE}{i:Nat}{F:ip}{r:ak}{da db d2:D}{t:Bool×D×D}(ha:fa r=.ok da)(hb:fb r=.ok db)(h:r[i]? = some (some d2))(hF:F [da,db,.dic [],d2]=some t):pB m fa fb i F r=.nx (r.set i (some t.2.2)):=by unfold pB;rw[ha,onE_ok,hb,onE_ok];simp only[h,hF]
theorem CL(hn:n<=7)(d:DS n A s)(hs:0<s){d0:D}{x2 x5 x6:Option D}:∀(j i:Nat)(K:List (Nat×Nat))(x:Option D),i+j=n->Kps n (Eo n A) i K ->∃(K':List (Nat×Nat))(x':Option D),Kps n (Eo n A) n K'/\aE (az 4) E4 ((Rb i j).map nD) [some d0,some (LE n (Eo n A)),x2,some (KD K),x,x5,x6]=.nx [some d0,some (LE n (Eo n A)),x2,some (KD K'),x',x5,x6]
|0,i,K,x,h,k=>by
  have:i=n:=by omega
  subst this;exact⟨K,x,k,cU⟩
|j+1,i,K,x,h,k=>by
  have hi:i<n:=by omega
  have hE:∀g,g<n->∀t∈Eo n A g,t<n:=fun g _ t ht=>(pP.mp ht).1;obtain⟨b,T',K',e,a1,a2,a3,a4,a5⟩:=Ln hE hn 9 i [] K hi k.ok k.inj k.nh Uo (fun _ z=>(nomatch z)) (by simp;omega);have hb:b=true:=by cases b with
  |true=>rfl
  |false=>obtain⟨_,b1,b2⟩:=a4 rfl;exact(JF d hs (fun i j _ hj pos=>pP.mpr ⟨hj,pos⟩) k.ok k.inj k.nh hi a1 a2 b1 b2).elim
  obtain⟨K2,x',k2,e2⟩:=CL hn d hs (d0:=d0) (x2:=x2) (x5:=x5) (x6:=x6) j (i+1) K' (some (nD i)) (by omega) (k.next (a5 hb));refine⟨K2,x',k2,?_⟩;rw[<-e2,Q4,p_];refine cL (r1:=[some d0,some (LE n (Eo n A)),x2,some (KD K),some (nD i),x5,x6]) rfl ?_;exact aq (J9 (da:=LE n (Eo n A)) (db:=nD i) (d2:=KD K) rfl rfl rfl e)
theorem CM{d0 d1 d3:D}{K:List (Nat×Nat)}(hd3:∀p∈K,aC d3 (nD p.1)=some (nD p.2))(hl:K.length<=1000){x2 x4:Option D}:∀(L G:List (Nat×Nat))(x:Option D),(∀p∈L,p∈K)->G.length+L.length<=1000->((G++L.map fun p=>(p.2,p.1)).map (·.1)).Nodup ->∃x',aE (az 6) E5 (L.map fun p=>nD p.1) [some d0,some d1,x2,some d3,x4,some (KD G),x]=.nx [some d0,some d1,x2,some d3,x4,some (KD (G++L.map fun p=>(p.2,p.1))),x']
|[],G,x,_,_,_=>⟨x,by rw[show G++([]:List (Nat×Nat)).map (fun p=>(p.2,p.1))=G from QC G];exact cU⟩
|p::L,G,x,hL,hg,nd=>by
  have e0:G++(p::L).map (fun p=>(p.2,p.1))=(G++[(p.2,p.1)])++L.map fun p=>(p.2,p.1):=by simp
  rw[e0]at nd;rw[C_]at hg;obtain⟨x',ih⟩:=CM hd3 hl (d0:=d0) (d1:=d1) (x2:=x2) (x4:=x4) L (G++[(p.2,p.1)]) (some (nD p.1)) (fun q hq=>hL q (f_ _ hq)) (by rw[PN];simp;omega) nd;refine⟨x',?_⟩;rw[e0,<-ih,p_];refine cL (r1:=[some d0,some d1,x2,some d3,x4,some (KD G),some (nD p.1)]) rfl ?_;have hnew:p.2∉G.map (·.1):=by rw[L_,L_]at nd;have:=(Qx.mp (Qx.mp nd).1).2.2;exact fun z=>this p.2 z p.2 (by simp) rfl
  have hput:putN G p.2 p.1=G++[(p.2,p.1)]:=by unfold putN;rw[if_neg hnew]
  have:=tm (kvs:=G) (k:=p.2) (v:=p.1) (by omega);rw[hput]at this;exact aq (jw (d:=KD G) (k:=nD p.2) (v:=nD p.1) rfl rfl (ao (a:=d3) (b:=nD p.1) rfl rfl (hd3 p (hL p g_))) this)
theorem K0{G:List (Nat×Nat)}{f:Nat->Nat}(hl:G.length=n)(hn:n<=7)(hf:∀p∈G,p.2=f p.1)(hk:∀h,h∈G.map (·.1)↔h<n):lq [KD G]=.ok (TN ((a_ n).map f)):=by
 refine bG (B:=oq) (n:=1) ?_;unfold oq;have hlen:lenD [KD G]=some (nD n):=by rw[CS,hl]
 have hc:=fW (nl:=1) (cap:=[0]) (fi:=bL bB (ag (fC (ag (gv 0) ae) lenD) ae)) (ft:=az 0) (fe:=f2 (gv 1) (gv 0) aC) (r:=[some (KD G)]) (l:=a_ n) nD (fun h=>nD (f h)) (fK (ah (d:=nD n) (bQ (ah (d:=KD G) rfl am) hlen) am) (fJ (by omega))) (by simp;omega) fun h hh=>⟨[some (nD h),some (KD G)],rfl,ao (a:=KD G) (b:=nD h) rfl rfl (nj (n6 (f:=f) hf ((hk h).mpr (r_.mp hh))))⟩
 refine bn (bx (bQ (ah hc am) ?_));rw[e_tupL];show some (D.tup _)=some (D.tup (TM nD _));rw[M_];rfl
theorem Jg(hN:Nn N)(hn1:1<=n)(hn:n<=7)(d:DS n A s)(hs:0<s)(hsN:s<=N):∃dl:List Nat,dl.Perm (a_ n)/\(∀i,i<n->0<A i (dA dl i))/\rO [bb t n N A]=.ok (TN dl):=by
 have hA:∀i j,i<n->j<n->A i j<=N:=fun i j hi hj=>PQ (d.le hi hj) hsN;obtain⟨x2,e0⟩:=Dc (t:=t) hN hA hn (d0:=bb t n N A) (x3:=none) (x4:=none) (x5:=none) (x6:=none) n 0 none (by omega);obtain⟨K,x4,k,e1⟩:=CL hn d hs (d0:=bb t n N A) (x2:=x2) (x5:=none) (x6:=none) n 0 [] none (by omega) IH;rw[<-Qq]at e0 e1;have hE:∀g,g<n->∀t∈Eo n A g,t<n:=fun g _ t ht=>(pP.mp ht).1;obtain⟨f,f1,f2,f3,f4,f5⟩:=k.all hE;have kl:=Kok.len k.ok hE;obtain⟨x6,e2⟩:=CM (d0:=bb t n N A) (d1:=LE n (Eo n A)) (d3:=KD K) (K:=K) (fun p hp=>AJ k.ok.nd hp) (by omega) (x2:=x2) (x4:=x4) K [] none (fun _ z=>z) (by simp;omega) (by rw[Ro,M_];exact f4);rw[Ro]at e2;have gl:(K.map fun p=>(p.2,p.1)).length=n:=by have h1:=Rg.jt (l:=a_ n) (m:=K.map (·.2)) Qi fun x hx=>(f5 x).mpr (r_.mp hx);simp at h1 ⊢;omega
 have hd:=K0 (G:=K.map fun p=>(p.2,p.1)) (f:=f) gl hn (fun p hp=>by obtain⟨q,hq,rfl⟩:=A_.mp hp;exact f1 q hq) (fun h=>by rw[M_];exact f5 h);refine⟨(a_ n).map f,f3,fun i hi=>?_,?_⟩
 .have:dA ((a_ n).map f) i=f i:=by unfold dA;rw[n_,PM hi];rfl
  rw[this];exact(pP.mp (f2 i hi)).2
 .refine bG (B:=x8) (n:=7) ?_;unfold x8;refine(aq (aR (d:=.lst []) (fI am (by simp)))).trans ?_;refine(aq ((cV (gC (d:=bb t n N A) rfl (me _ _))).trans e0)).trans ?_;refine(aq (aR (d:=KD []) rfl)).trans ?_;have hlen:lenD [bb t n N A]=some (nD n):=by rw[AR,m_,Qw]
  refine(aq ((cV (fK (ah (d:=nD n) (bQ (ah (d:=bb t n N A) rfl am) hlen) am) (fJ (by omega)))).trans e1)).trans ?_;refine(aq (aR (d:=KD []) rfl)).trans ?_;have hk:aG ix (gv 3) [some (bb t n N A),some (LE n (Eo n A)),x2,some (KD K),x4,some (KD []),none]=.ok (K.map fun p=>nD p.1):=by show Res.ok ((K.map fun p=>(kI p.1,nD p.2)).map fun kv=>_)=_;rw[M_];rfl
  refine(aq ((cV hk).trans e2)).trans ?_;generalize K.map (fun p=>(p.2,p.1))=G at hd;exact bn (bx (aI (ah (d:=KD G) rfl am) hd))
end
end Law
end
section
set_option exponentiation.threshold 3000
namespace Law
open PySem PyProof.Rows L2 DL Fq Bk
theorem AD(a b:Int×Nat):fA (FR a) (FR b)=some (decide (a=b)):=by
 have h:∀(q:Int×Nat),∀d∈[D.int q.1,nD q.2],bT 59 d:=fun q d hd=>by simp at hd;rcases hd with rfl|rfl <;> trivial
 rw[CN rfl (nQ.mpr (h a)) (nQ.mpr (h b))];unfold lK;simp only[aU,zfP,SD,UE];rw[SV,P6,decide_eq_true_iff,Prod.ext_iff];simp;omega
theorem Br(a b:Int×Nat):neD (FR a) (FR b)=some (.bl (! decide (a=b))):=by unfold neD;rw[AD];rfl
theorem Hr(a b:Int×Nat):eqD (FR a) (FR b)=some (.bl (decide (a=b))):=by unfold eqD;rw[AD];rfl
abbrev pN(N:Nat)(q:Nat×List Nat):D:=.tup [Qn N q.1,TN q.2]
abbrev bP(N:Nat)(ps:List (Nat×List Nat)):D:=.lst (ps.map (pN N))
section
variable{t:Bool}{n N s p:Nat}{A A0:Nat->Nat->Nat}{dl:List Nat}
theorem Bn(hd:dl.Perm (a_ n)):S_ (fun a b=>D.tup [a,b]) ((a_ n).map fun i=>bW t n N A i) (dl.map nD)=(a_ n).map fun i=>D.tup [bW t n N A i,nD (dA dl i)]:=by
 refine QS fun i=>?_;rw[Ti,n_,n_,n_];by_cases h:i<n
 .rw[PM h,sT (hW hd h).1];rfl
 .rw[P3 (by simp;omega)];rfl
theorem Cs(hN:Nn N)(hn:n<=7)(hA:∀i j,i<n->j<n->A i j<=N)(hp:∀i,i<n->p<=A i (dA dl i)){d0 d2:D}:∀(j i:Nat)(x4 x5:Option D),i+j=n ->∃(y4 y5:Option D),aE (dg (bh (az 4) (bh (az 5) dc))) Eb ((Rb i j).map fun i=>D.tup [bW t n N A i,nD (dA dl i)]) [some d0,some (Qn N p),some d2,some (.lst ((a_ i).map fun i=>bW false n N (taken A p dl) i)),x4,x5]=.nx [some d0,some (Qn N p),some d2,some (bb false n N (taken A p dl)),y4,y5]
|0,i,x4,x5,h=>by
  have:i=n:=by omega
  subst this;exact⟨x4,x5,cU⟩
|j+1,i,x4,x5,h=>by
  have hi:i<n:=by omega
  obtain⟨y4,y5,ih⟩:=Cs hN hn hA hp (d0:=d0) (d2:=d2) j (i+1) (some (bW t n N A i)) (some (nD (dA dl i))) (by omega);refine⟨y4,y5,?_⟩;rw[<-ih,Q4,p_];refine cL (r1:=[some d0,some (Qn N p),some d2,some (.lst ((a_ i).map fun i=>bW false n N (taken A p dl) i)),some (bW t n N A i),some (nD (dA dl i))]) rfl ?_;have hc:=fW (nl:=2) (cap:=[5,1]) (fi:=dy (gv 4)) (ft:=dg (bh (az 0) (bh (az 1) dc))) (fe:=kD (a9 (f2 (gv 0) (gv 2) eqD)) (aA (ag (gv 1) (ag (gv 3) ae)) [] jA) (gv 1)) (r:=[some d0,some (Qn N p),some d2,some (.lst ((a_ i).map fun i=>bW false n N (taken A p dl) i)),some (bW t n N A i),some (nD (dA dl i))]) (l:=a_ n) (fun j=>D.tup [nD j,Qn N (A i j)]) (fun j=>Qn N (taken A p dl i j)) (by rw[<-AC];exact qm (d:=bW t n N A i) rfl (me _ _)) (by simp;omega) fun j hj=>⟨[some (nD j),some (Qn N (A i j)),some (nD (dA dl i)),some (Qn N p)],rfl,by
   have hj:=r_.mp hj;have te:=mX j (dA dl i);by_cases e:j=dA dl i
   .rw[decide_eq_true e]at te;rw[Gg (cq (ao (a:=nD j) (b:=nD (dA dl i)) rfl rfl te))];have ht:taken A p dl i j=A i j-p:=by unfold taken;rw[if_pos e]
    rw[ht];exact aI (ah (d:=Qn N (A i j)) rfl (ah (d:=Qn N p) rfl am)) (Kl hN (hA i j hi hj) (by rw[e];exact hp i hi))
   .rw[decide_eq_false e]at te;rw[Gf (cq (ao (a:=nD j) (b:=nD (dA dl i)) rfl rfl te))];have ht:taken A p dl i j=A i j:=by unfold taken;rw[if_neg e]
    rw[ht];rfl⟩
  have em:(a_ (i+1)).map (fun i=>bW false n N (taken A p dl) i)=(a_ i).map (fun i=>bW false n N (taken A p dl) i)++[bW false n N (taken A p dl) i]:=by rw[QZ,L_];rfl
  rw[em];exact aq (ii (d:=.lst ((a_ i).map fun i=>bW false n N (taken A p dl) i)) (ds:=[bW false n N (taken A p dl) i]) rfl rfl (ah hc am) (i8 (by simp;omega)))
theorem Oh(hN:Nn N)(hn:n<=7)(hA:∀i j,i<n->j<n->A i j<=N)(hd:dl.Perm (a_ n))(hp:∀i,i<n->p<=A i (dA dl i)):qI [bb t n N A,Qn N p,TN dl]=.ok (bb false n N (taken A p dl)):=by obtain⟨y4,y5,e⟩:=Cs (t:=t) hN hn hA hp (d0:=bb t n N A) (d2:=TN dl) n 0 none none (by omega);rw[<-Qq]at e;refine bG (B:=vY) (n:=6) ?_;unfold vY;refine(aq (aR (d:=.lst []) (fI am (by simp)))).trans ?_;have hz:=BB (fa:=gv 0) (fb:=gv 2) (r:=[some (bb t n N A),some (Qn N p),some (TN dl),some (.lst []),none,none]) (d:=bb t n N A) (e:=TN dl) rfl rfl (me _ _) rfl;rw[Bn hd]at hz;refine(aq ((cV hz).trans e)).trans ?_;exact bn (bx (d:=bb false n N (taken A p dl)) rfl)
theorem DV(hN:Nn N)(hn1:1<=n)(hn:n<=7){d0:D}:∀(m:Nat)(t:Bool)(A:Nat->Nat->Nat)(s:Nat)(ps:List (Nat×List Nat))(x3 x4:Option D),Pg n N A0 A s ps->(n-1)*(n-1)+2<=ps.length+m ->∃(A':Nat->Nat->Nat)(ps':List (Nat×List Nat))(x1 y3 y4:Option D),Pg n N A0 A' 0 ps'/\dF gR xG DK m [some d0,some (bb t n N A),some (bP N ps),x3,x4]=.nx [some d0,x1,some (bP N ps'),y3,y4]
|0,t,A,s,ps,x3,x4,P,hm=>by have:=P.few;omega
|m+1,t,A,s,ps,x3,x4,P,hm=>by
  have hsN:s<=N:=by have:=P.sum;omega
  have hA:∀i j,i<n->j<n->A i j<=N:=fun i j hi hj=>PQ (P.ds.le hi hj) hsN;have hsum:((a_ n).map fun j=>A 0 j).sum=s:=by rw[qf];exact P.ds.row 0 (by omega)
  have htot:nR [bW t n N A 0]=.ok (Qn N s):=by have:=NF hN (d0:=bW t n N A 0) (l:=(a_ n).map fun j=>A 0 j) (by omega) (by rw[me,M_];rfl);rw[hsum]at this;exact this
  have hne:=Br (lo N s) (0,1);have test:∀b,neD (FR (lo N s)) (FR (0,1))=some (.bl b)->xG [some d0,some (bb t n N A),some (bP N ps),x3,x4]=.ok b:=fun b hb=>cq (ao (b:=.tup [.int 0,.int 1]) (aI (ah (d:=bW t n N A 0) (ao (a:=bb t n N A) (b:=nD 0) rfl rfl (zD (by omega))) am) htot) rfl hb);by_cases h0:s=0
  .subst h0;rw[gs hN,decide_eq_true rfl]at hne;rw[gs hN]at test;exact⟨A,ps,some (bb t n N A),x3,x4,P,vA (test _ hne)⟩
  .have hs:0<s:=by omega
   rw[decide_eq_false (fun z=>h0 (Ki hN.pos (z.trans (gs hN).symm)))]at hne;obtain⟨dl,p1,p2,p3⟩:=Jg (t:=t) hN hn1 hn P.ds hs hsN;have hl:(a_ n).map (fun i=>A i (dA dl i))≠[]:=by intro z;have:=congrArg Q_ z;simp at this;omega
   have hle:=fun i (hi:i<n)=>Et.fu (l:=(a_ n).map fun i=>A i (dA dl i)) (y:=A i (dA dl i)) (A_.mpr ⟨i,r_.mpr hi,rfl⟩);obtain⟨a,ha,ea⟩:=A_.mp (Et.dY hl);have ha:=r_.mp ha;have hleast:=Dl hN hl (fun y hy=>by obtain⟨i,hi,rfl⟩:=A_.mp hy;have hi:=r_.mp hi;exact hA i _ hi (hW p1 hi).2);generalize Et.cm ((a_ n).map fun i=>A i (dA dl i))=p at hle ea hleast;obtain⟨P',_,_⟩:=P.step hn1 hs p1 p2 hle ha ea.symm;have hlt:=P.lt hn1 hs;have h36:(n-1)*(n-1)<=36:=Se (show n-1<=6 by omega) (show n-1<=6 by omega);obtain⟨A',ps',x1,y3,y4,P2,e⟩:=DV hN hn1 hn (d0:=d0) m false (taken A p dl) (s-p) (ps++[(p,dl)]) (some (TN dl)) (some (Qn N p)) P' (by rw[PN];simp;omega);refine⟨A',ps',x1,y3,y4,P2,(vB (test _ hne) ?_).trans e⟩;refine(aq (aR (aI (ah (d:=bb t n N A) rfl am) p3))).trans ?_;have hz:=BB (fa:=gv 1) (fb:=gv 3) (r:=[some d0,some (bb t n N A),some (bP N ps),some (TN dl),x4]) (d:=bb t n N A) (e:=TN dl) rfl rfl (me _ _) rfl;rw[Bn p1]at hz;have hc:=fW (nl:=2) (cap:=[]) (fi:=gW (gv 1) (gv 3)) (ft:=dg (bh (az 0) (bh (az 1) dc))) (fe:=f2 (gv 0) (gv 1) aC) (r:=[some d0,some (bb t n N A),some (bP N ps),some (TN dl),x4]) (l:=a_ n) (fun i=>D.tup [bW t n N A i,nD (dA dl i)]) (fun i=>Qn N (A i (dA dl i))) hz (by simp;omega) fun i hi=>⟨[some (bW t n N A i),some (nD (dA dl i))],rfl,ao (a:=bW t n N A i) (b:=nD (dA dl i)) rfl rfl (zC (hW p1 (r_.mp hi)).2)⟩
   rw[show(a_ n).map (fun i=>Qn N (A i (dA dl i)))=((a_ n).map fun i=>A i (dA dl i)).map (Qn N)by rw[M_];rfl]at hc;refine(aq (aR (aI (ah hc am) hleast))).trans ?_;rw[show bP N (ps++[(p,dl)])=.lst (ps.map (pN N)++[pN N (p,dl)])by show D.lst (TM (pN N) _)=_;rw[L_];rfl];refine(aq (ii (d:=bP N ps) (ds:=[pN N (p,dl)]) rfl rfl (ah (iy (ah (d:=Qn N p) rfl (ah (d:=TN dl) rfl am)) (by simp)) am) (i8 (by simp;omega)))).trans ?_;exact aq (aR (aI (ah (d:=bb t n N A) rfl (ah (d:=Qn N p) rfl (ah (d:=TN dl) rfl am))) (Oh hN hn hA p1 hle)))
theorem xt(hN:Nn N)(hn1:1<=n)(hn:n<=7)(D0:DS n A0 N)(t:Bool):∃(A':Nat->Nat->Nat)(ps:List (Nat×List Nat)),Pg n N A0 A' 0 ps/\mz [bb t n N A0]=.ok (bP N ps):=by have h36:(n-1)*(n-1)<=36:=Se (show n-1<=6 by omega) (show n-1<=6 by omega);obtain⟨A',ps,x1,y3,y4,P,e⟩:=DV hN hn1 hn (d0:=bb t n N A0) 64 t A0 N [] none none (Pg.start D0) (by simp;omega);refine⟨A',ps,P,bG (B:=vH) (n:=5) ?_⟩;unfold vH;refine(aq (aR (d:=bb t n N A0) rfl)).trans ?_;refine(aq (aR (d:=.lst []) (fI am (by simp)))).trans ?_;refine(aq e).trans ?_;exact bn (bx (d:=bP N ps) rfl)
end
end Law
end
section
set_option exponentiation.threshold 3000
namespace Law
open PySem PyProof.Rows L2 DL Fq Bk
theorem zc{n x:Nat}{f:Nat->D}(h:x<n):aC (.lst ((a_ n).map f)) (nD x)=some (f x):=by refine j4 ?_;rw[n_,PM h];rfl
theorem F6{n x:Nat}{v:D}{f:Nat->D}(h:x<n):cH (.lst ((a_ n).map f)) (nD x) v=some (.lst ((a_ n).map fun y=>if y=x then v else f y)):=by
 rw[tD (by simpa using h)];show some (D.lst _)=some (D.lst _);congr 2;refine QS fun i=>?_;by_cases hi:i<n
 .by_cases e:x=i
  .subst e;rw[o_ (by simpa using h),n_,PM h];simp
  .rw[c_ e,n_,n_,PM hi];simp[Rs e]
 .rw[P3 (by simp;omega),P3 (by simp;omega)]
theorem F7(l:List Nat):sumD [LN l]=some (nD l.sum):=by
 have sum_cast:∀l:List Nat,(l.map fun k:Nat=>(k:Int)).sum=((l.sum:Nat):Int):=fun l=>by induction l with
 |nil=>rfl
 |cons k l ih=>rw[p_,PL,ih,PL,R4]
 show(eY (l.map nD)).map _=_;rw[qt];show some (D.int _)=_;rw[sum_cast]
theorem Bh:∀l:List Nat,(∀x∈l,1<=x/\x<=60)->l.sum<=60*l.length/\l.length<=l.sum
|[],_=>by simp
|x::l,h=>by have h1:=h x g_;have:=Bh l fun y hy=>h y (f_ _ hy);rw[PL,C_];omega
theorem zb{d:List Nat}{h:Nat}(hh:h<d.length):aC (TN d) (nD h)=some (nD (dA d h)):=by refine j5 ?_;rw[n_,sT hh];rfl
theorem n9(q:Nat×List Nat)(ps:List (Nat×List Nat))(h x:Nat):aF (q::ps) h x=(if x=dA q.2 h then q.1 else 0)+aF ps h x:=by
 unfold aF;by_cases e:x=dA q.2 h
 .rw[QD,if_pos (by simpa using e.symm),if_pos e];simp
 .rw[QD,if_neg (by simpa using fun z=>e z.symm),if_neg e];simp
theorem pV{n:Nat}:∀{ps:List (Nat×List Nat)},(∀q∈ps,q.2.Perm (a_ n))->DS n (aF ps) (ps.map (·.1)).sum
|[],_=>⟨fun i _=>kY fun j _=>by simp[aF],fun j _=>kY fun i _=>by simp[aF]⟩
|q::ps,h=>by
  have ih:=pV (n:=n) fun r hr=>h r (f_ _ hr);have hq:=h q g_;rw[p_,PL];constructor
  .intro i hi;have e:sm n (aF (q::ps) i)=sm n (fun j=>if j=dA q.2 i then(fun _=>q.1) j else 0)+sm n (aF ps i):=by rw[<-jx];exact gD fun j _=>n9 q ps i j
   rw[e,sm_if (hW hq hi).2,ih.row i hi]
  .intro j hj;obtain⟨a,ha,rfl⟩:=BY hq hj;have e:sm n (fun i=>aF (q::ps) i (dA q.2 a))=sm n (fun i=>if i=a then(fun _=>q.1) i else 0)+sm n (fun i=>aF ps i (dA q.2 a)):=by
    rw[<-jx];refine gD fun i hi=>?_;rw[n9];by_cases z:i=a
    .subst z;rw[if_pos rfl,if_pos rfl]
    .rw[if_neg z,if_neg fun w=>z (Az hq hi ha w.symm)]
   rw[e,sm_if ha,ih.col _ hj]
structure Pz(n N:Nat)(ps:List (Nat×List Nat)):Prop where
 n1:1<=n
 n7:n<=7
 N0:Nn N
 sum:(ps.map (·.1)).sum=N
 ok:∀q∈ps,q.2.Perm (a_ n)
 few:ps.length<=900
section
variable{n N:Nat}{ps:List (Nat×List Nat)}
theorem Pz.ne(P:Pz n N ps):ps≠[]:=by
 rintro rfl
 have:=P.sum;have:=P.N0.pos;simp at *;omega
theorem Cf(hN:Nn N){a b:Nat}(ha:a<=N)(hb:b<=N):li [Qn N a,Qn N b]=.ok (Qn N (a+b)):=by have:=NB (jj hN ha) (jj hN hb) (by omega);rw[CU hN.pos,<-R4]at this;exact this
abbrev kG(n N:Nat)(q:Nat->Nat):D:=.lst ((a_ n).map fun x=>Qn N (q x))
theorem CV(hN:Nn N){d0 d1 d2:D}{h:Nat}(hh:h<n):∀(ps:List (Nat×List Nat))(s:Nat)(q:Nat->Nat)(x5 x6:Option D),(∀p∈ps,p.2.Perm (a_ n))->(∀x,q x<=s)->s+(ps.map (·.1)).sum<=N ->∃(y5 y6:Option D),aE (dg (bh (az 5) (bh (az 6) dc))) EZ (ps.map (pN N)) [some d0,some d1,some d2,some (nD h),some (kG n N q),x5,x6]=.nx [some d0,some d1,some d2,some (nD h),some (kG n N fun x=>q x+aF ps h x),y5,y6]
|[],s,q,x5,x6,_,hq,hk=>⟨x5,x6,cU⟩
|p::ps,s,q,x5,x6,hp,hq,hk=>by
  rw[p_,PL]at hk;have b2:=hp p g_;obtain⟨hhl,hg⟩:=hW b2 hh;have hix:=zb hhl;obtain⟨y5,y6,e2⟩:=CV hN (d0:=d0) (d1:=d1) (d2:=d2) hh ps (s+p.1) (fun y=>if y=dA p.2 h then q y+p.1 else q y) (some (Qn N p.1)) (some (TN p.2)) (fun r hr=>hp r (f_ _ hr)) (fun x=>by have:=hq x;show(if x=dA p.2 h then _ else _)<=_;split <;> omega) (by omega);refine⟨y5,y6,?_⟩;have er:(fun x=>q x+aF (p::ps) h x)=fun x=>(if x=dA p.2 h then q x+p.1 else q x)+aF ps h x:=by funext x;rw[n9];split <;> omega
  rw[p_,er,<-e2];refine cL (r1:=[some d0,some d1,some d2,some (nD h),some (kG n N q),some (Qn N p.1),some (TN p.2)]) rfl ?_;have es:=F6 (n:=n) (f:=fun x=>Qn N (q x)) (v:=Qn N (q (dA p.2 h)+p.1)) hg;have ef:((a_ n).map fun y=>if y=dA p.2 h then Qn N (q (dA p.2 h)+p.1)else Qn N (q y))=(a_ n).map fun y=>Qn N (if y=dA p.2 h then q y+p.1 else q y):=by
   refine PY fun y _=>?_;by_cases e:y=dA p.2 h
   .rw[if_pos e,if_pos e,e]
   .rw[if_neg e,if_neg e]
  rw[ef]at es;have hqs:=hq (dA p.2 h);exact aq (jw (d:=kG n N q) (k:=nD (dA p.2 h)) rfl (aI (ah (ao (a:=kG n N q) rfl (ao (a:=TN p.2) (b:=nD h) rfl rfl hix) (zc hg)) (ah (d:=Qn N p.1) rfl am)) (Cf hN (by omega) (by omega))) (ao (a:=TN p.2) (b:=nD h) rfl rfl hix) es)
theorem CW(P:Pz n N ps):∀(j i:Nat)(x3 x4 x5 x6:Option D),i+j=n ->∃(y3 y4 y5 y6:Option D),aE (az 3) E1 ((Rb i j).map nD) [some (bP N ps),some (nD n),some (.lst ((a_ i).map fun h=>bW true n N (aF ps) h)),x3,x4,x5,x6]=.nx [some (bP N ps),some (nD n),some (.lst ((a_ n).map fun h=>bW true n N (aF ps) h)),y3,y4,y5,y6]
|0,i,x3,x4,x5,x6,h=>by
  have:i=n:=by omega
  subst this;exact⟨x3,x4,x5,x6,cU⟩
|j+1,i,x3,x4,x5,x6,h=>by
  have hi:i<n:=by omega
  have hn:=P.n7;obtain⟨y5,y6,e2⟩:=CV P.N0 (d0:=bP N ps) (d1:=nD n) (d2:=.lst ((a_ i).map fun h=>bW true n N (aF ps) h)) hi ps 0 (fun _=>0) x5 x6 P.ok (fun _=>u_ _) (by have:=P.sum;omega);have ez:(fun x=>0+aF ps i x)=aF ps i:=by funext x;omega
  rw[ez]at e2;obtain⟨z3,z4,z5,z6,i2⟩:=CW P j (i+1) (some (nD i)) (some (kG n N (aF ps i))) y5 y6 (by omega);refine⟨z3,z4,z5,z6,?_⟩;rw[<-i2,Q4,p_];refine cL (r1:=[some (bP N ps),some (nD n),some (.lst ((a_ i).map fun h=>bW true n N (aF ps) h)),some (nD i),x4,x5,x6]) rfl ?_;refine(aq (aR (d:=kG n N fun _=>0) (fW (l:=a_ n) nD (fun _=>Qn N 0) (fK (ah (d:=nD n) rfl am) (fJ (by omega))) (by simp;omega) fun x _=>⟨[some (nD x)],rfl,by show _=Res.ok (FR (lo N 0));rw[gs P.N0];exact iy (ah (d:=.int 0) rfl (ah (d:=.int 1) rfl am)) (by simp)⟩))).trans ?_;refine(aq ((cV (gC (d:=bP N ps) rfl rfl)).trans e2)).trans ?_;rw[show(a_ (i+1)).map (fun h=>bW true n N (aF ps) h)=(a_ i).map (fun h=>bW true n N (aF ps) h)++[bW true n N (aF ps) i]by rw[QZ,L_];rfl];exact aq (ii (d:=.lst ((a_ i).map fun h=>bW true n N (aF ps) h)) (ds:=[bW true n N (aF ps) i]) rfl rfl (ah (bQ (ah (d:=kG n N (aF ps i)) rfl am) (e_tupL _)) am) (i8 (by simp;omega)))
theorem xr(P:Pz n N ps):lp [bP N ps,nD n]=.ok (bb true n N (aF ps)):=by have hn:=P.n7;obtain⟨y3,y4,y5,y6,e2⟩:=CW P n 0 none none none none (by omega);rw[<-Qq]at e2;refine bG (B:=xH) (n:=7) ?_;unfold xH;refine(aq (aR (d:=.lst []) (fI am (by simp)))).trans ?_;refine(aq ((cV (fK (ah (d:=nD n) rfl am) (fJ (by omega)))).trans e2)).trans ?_;exact bn (bx (bQ (ah (d:=.lst ((a_ n).map fun h=>bW true n N (aF ps) h)) rfl am) (e_tupL _)))
end
theorem B2(ns:List Int)(at' n many:Nat){ws:List Nat}(hw:ws.length=many)(hb:∀x∈ws,1<=x/\x<=60)(hs0:0<ws.sum)(hs:ws.sum<=720)(hat:at'<=60)(hn:n<=60):∀(j i:Nat)(ps:List (Nat×List Nat))(x:Option D),i+j=many->many<=12->ps.map (·.1)=ws.take i->(∀p∈ps,p.2.Perm (a_ n)) ->∃(ps':List (Nat×List Nat))(y:Option D),ps'.map (·.1)=ws/\(∀p∈ps',p.2.Perm (a_ n))/\aE (az 7) ER ((Rb i j).map nD) [some (IN ns),some (nD at'),some (nD n),some (nD many),some (LN ws),some (nD ws.sum),some (bP ws.sum ps),x]=.nx [some (IN ns),some (nD at'),some (nD n),some (nD many),some (LN ws),some (nD ws.sum),some (bP ws.sum ps'),y]
|0,i,ps,x,h,_,hl,hp=>⟨ps,x,by rw[hl,Ta (by omega)],hp,cU⟩
|j+1,i,ps,x,h,h12,hl,hp=>by
  have hi:i<ws.length:=by omega
  have hwi:=hb ws[i] (Qc _);obtain⟨c,hc⟩:=qy ns (at'+2*i+1) (by omega);obtain⟨row,r1,r2⟩:=Cu c n hn;have pl:ps.length=i:=by have:=congrArg Q_ hl;rw[m_,Q2]at this;omega
  obtain⟨ps',y,e1,e2,e3⟩:=B2 ns at' n many hw hb hs0 hs hat hn j (i+1) (ps++[(ws[i],row)]) (some (nD i)) (by omega) h12 (by rw[L_,hl,List.take_succ,i_ hi];rfl) (fun p hpp=>by
   rcases Qk.mp hpp with z|z
   .exact hp p z
   .rw[y_.mp z];exact r1)
  refine⟨ps',y,e1,e2,?_⟩;rw[<-e3,Q4,p_];refine cL (r1:=[some (IN ns),some (nD at'),some (nD n),some (nD many),some (LN ws),some (nD ws.sum),some (bP ws.sum ps),some (nD i)]) rfl ?_;rw[show bP ws.sum (ps++[(ws[i],row)])=.lst (ps.map (pN ws.sum)++[pN ws.sum (ws[i],row)])by show D.lst (TM _ _)=_;rw[L_];rfl];have m2:br (.int 2) (nD i)=some (nD (2*i)):=by rw[mf (.inl ⟨by decide,by decide⟩)];show some (D.int _)=some (D.int _);rw[K_];rfl
  have hix:aC (LN ws) (nD i)=some (.int (ws[i]:Int)):=j4 (by rw[n_,i_ hi];rfl);exact aq (ii (d:=bP ws.sum ps) (ds:=[pN ws.sum (ws[i],row)]) rfl rfl (ah (iy (ah (aI (ah (ao (a:=LN ws) (b:=nD i) rfl rfl hix) (ah (d:=nD ws.sum) rfl am)) (t8 (k:=10) hs0 (by show ws.sum<1024;omega) (by omega))) (ah (aI (ah (aI (ah (d:=IN ns) rfl (ah (ao (b:=nD 1) (ao (a:=nD at') rfl (ao (b:=nD i) rfl rfl m2) (iw _ _)) rfl (iw _ 1)) am)) hc) (ah (d:=nD n) rfl am)) r2) am)) (by simp)) am) (i8 (by simp;omega)))
theorem NE(ns:List Int)(at' n many:Nat)(hat:at'<=60)(hn1:1<=n)(hn:n<=7)(h1:1<=many)(h12:many<=12):∃(N:Nat)(ps:List (Nat×List Nat)),N<=720/\Pz n N ps/\qU [IN ns,nD at',nD n,nD many]=.ok (bP N ps):=by
 have hc:∀k:Nat,∃c:Nat,k<=60->fO [IN ns,nD (at'+2*k)]=.ok (nD c):=by
  intro k;by_cases hk:k<=60
  .obtain⟨c,hc⟩:=qy ns (at'+2*k) (by omega);exact⟨c,fun _=>hc⟩
  .exact⟨0,fun z=>absurd z hk⟩
 obtain⟨g,hg⟩:=Rj hc;have hb:∀x∈(a_ many).map (fun k=>1+g k%60),1<=x/\x<=60:=fun x hx=>by obtain⟨k,_,rfl⟩:=A_.mp hx;have:=SF (g k) (show 60>0 by omega);omega
 have hsum:=Bh _ hb;have hlen:((a_ many).map fun k=>1+g k%60).length=many:=by simp
 rw[hlen]at hsum;obtain⟨ps,y,e1,e2,e3⟩:=B2 ns at' n many hlen hb (by omega) (by omega) hat (by omega) many 0 [] none (by omega) h12 rfl (fun _ h=>by cases h);rw[<-Qq]at e3;have pl:ps.length=many:=by have:=congrArg Q_ e1;rw[m_]at this;omega
 refine⟨_,ps,?_,⟨hn1,hn,⟨?_,?_⟩,congrArg List.sum e1,e2,by omega⟩,bG (B:=xI) (n:=8) ?_⟩
 .omega
 .omega
 .exact Q3 (show _<=720 by omega) (by decide)
 unfold xI;refine(aq (aR (d:=LN ((a_ many).map fun k=>1+g k%60)) ?_)).trans ?_
 .have hcc:=fW (nl:=1) (cap:=[0,1]) (fi:=bL bB (ag (gv 3) ae)) (ft:=az 0) (fe:=f2 (ci 1) (f2 (aA (ag (gv 1) (ag (f2 (gv 2) (f2 (ci 2) (gv 0) br) addA) ae)) [] fO) (ci 60) bg) addA) (r:=[some (IN ns),some (nD at'),some (nD n),some (nD many),none,none,none,none]) (l:=a_ many) nD (fun k=>nD (1+g k%60)) (fK (ah (d:=nD many) rfl am) (fJ (by omega))) (by simp;omega) fun k hk=>⟨[some (nD k),some (IN ns),some (nD at')],rfl,?_⟩
  .refine hcc.trans ?_;show Res.ok (D.lst _)=Res.ok (D.lst _);rw[M_];rfl
  .have hk':=r_.mp hk;have m2:br (.int 2) (nD k)=some (nD (2*k)):=by rw[mf (.inl ⟨by decide,by decide⟩)];show some (D.int _)=some (D.int _);rw[K_];rfl
   exact ao (a:=nD 1) rfl (ao (b:=nD 60) (aI (ah (d:=IN ns) rfl (ah (ao (a:=nD at') rfl (ao (b:=nD k) rfl rfl m2) (iw _ _)) am)) (hg k (by omega))) rfl (nA (by omega))) (iw 1 _)
 refine(aq (aR (bQ (ah (d:=LN ((a_ many).map fun k=>1+g k%60)) rfl am) (F7 _)))).trans ?_;refine(aq (aR (d:=.lst []) (fI am (by simp)))).trans ?_;refine(aq ((cV (fK (ah (d:=nD many) rfl am) (fJ (by omega)))).trans e3)).trans ?_;exact bn (bx (d:=bP _ ps) rfl)
end Law
end
section
set_option exponentiation.threshold 3000
namespace Law
open PySem PyProof.Rows L2 DL Fq Bk
def Nm:Nat->D->Prop
|_,.int _=>True
|k+1,.tup ds=>∀d∈ds,Nm k d
|k+1,.lst ds=>∀d∈ds,Nm k d
|_,_=>False
theorem vL{k:Nat}(ih:∀d,Nm k d->SD (aU d) (aU d)=true):∀ds:List D,(∀d∈ds,Nm k d)->UE (zfP ds) (zfP ds)=true
|[],_=>by simp[zfP,UE]
|d::ds,h=>by have h1:=ih d (h d g_);have h2:=vL ih ds fun x hx=>h x (f_ _ hx);simp only[zfP,UE,h1,h2,XH]
theorem Ir:∀(k:Nat)(d:D),Nm k d->SD (aU d) (aU d)=true:=by
 intro k
 induction k with
|zero=>intro d h;cases d <;> simp_all [Nm,aU,SD]
|succ k ih=>intro d h;cases d with
 |int i=>simp[aU,SD]
 |tup ds=>simp only[aU,SD];exact vL ih ds h
 |lst ds=>simp only[aU,SD];exact vL ih ds h
 |_=>simp[Nm]at h
theorem Bs:∀(k:Nat)(d:D),Nm k d->bT k d:=by
 intro k
 induction k with
|zero=>intro d h;cases d <;> simp_all [Nm,bT]
|succ k ih=>intro d h;cases d with
 |int i=>trivial
 |tup ds=>exact nQ.mpr fun x hx=>ih x (h x hx)
 |lst ds=>exact uY.mpr fun x hx=>ih x (h x hx)
 |_=>simp[Nm]at h
theorem Ip{d:D}(h:Nm 60 d)(hs:kb d d=false):fA d d=some true:=by rw[CN hs (Bs 60 d h) (Bs 60 d h)];unfold lK;rw[Ir 60 d h]
theorem Iq{d:D}(h:Nm 60 d)(hs:kb d d=false):eqD d d=some (.bl true):=by unfold eqD;rw[Ip h hs];rfl
theorem Gz{k:Nat}(q:Int×Nat):Nm (k+1) (FR q):=by intro d hd;simp at hd;rcases hd with rfl|rfl <;> (cases k <;> trivial)
theorem GA(n N:Nat)(A:Nat->Nat->Nat):Nm 60 (bb true n N A):=by intro d hd;obtain⟨h,_,rfl⟩:=A_.mp hd;intro e he;obtain⟨q,_,rfl⟩:=A_.mp he;exact Gz _
theorem Ac(a b:Nat):iN (nD a) (nD b)=some (.bl (decide (a<=b))):=by show some (D.bl (decide ((a:Int)<=(b:Int))))=_;simp only[Int.ofNat_le]
theorem IK{a b:Nat}(h:b<=a):iE (nD a) (nD b)=some (nD (a-b)):=by show some (D.int ((a:Int)-(b:Int)))=_;rw[<-Vf h]
theorem Cq:∀l:List (List Nat),jo (l.map TN)=some (l.map fun r=>r.map fun k:Nat=>(k:Int))
|[]=>rfl
|r::l=>by show(eY (r.map nD)).bind _=_;rw[qt];show(jo (l.map TN)).map _=_;rw[Cq l];rfl
theorem KI{l:List (List Nat)}(hn:l.Nodup)(hl:l.length<=76):pG [.lst (l.map TN)]=some (nD l.length):=by
 show(jo (l.map TN)).bind _=_;rw[Cq];show(if _ then _ else _)=_;have hc:∀a b:List Nat,(a.map fun k:Nat=>(k:Int))=(b.map fun k:Nat=>(k:Int))->a=b:=fun a=>by induction a with
 |nil=>intro b h;cases b with
  |nil=>rfl
  |cons x b=>cases h
 |cons x a ih=>intro b h;cases b with
  |nil=>cases h
  |cons y b=>rw[p_,p_,List.cons.injEq]at h;rw[R6.mp h.1,ih b h.2]
 rw[if_pos ⟨RK.mpr (hn.imp fun{a b} w z=>w (hc a b z)),by simpa using hl⟩,m_]
theorem LZ{t:Bool}{n N:Nat}{A B:Nat->Nat->Nat}(h:∀i j,i<n->j<n->A i j=B i j):bb t n N A=bb t n N B:=by show wr t _=wr t _;congr 1;refine PY fun i hi=>?_;show wr t _=wr t _;congr 1;refine PY fun j hj=>?_;rw[h i j (r_.mp hi) (r_.mp hj)]
theorem AT{N c:Nat}(hN:Nn N)(hc:0<c):0<(lo N c).1:=by
 have h1:(lo N c).1*(N:Int)=(c:Int)*((lo N c).2:Int):=fY _ N;have p1:=fL (c:Int) hN.pos;have h2:(0:Int)<(c:Int)*((lo N c).2:Int):=by rw[<-K_];exact Int.ofNat_lt.mpr (Qp hc p1)
 rw[<-h1]at h2;have:=hN.pos;exact Int.pos_of_mul_pos_left h2 (by omega)
end Law
end
section
set_option exponentiation.threshold 3000
namespace Law
open PySem PyProof.Rows L2 DL Fq
abbrev QF(z:Nat):D:=FR (Qd (z:Int))
section
variable{k l:Nat}{a b:Int×Nat}
theorem Do(ha:Bd k a)(hb:Bd l b)(hl:k+l<=498):jB [FR a,FR b]=.ok (FR (tu a b)):=by
 refine bG (B:=uD) (n:=2) ?_;unfold uD;have i0:=gA a;have i1:=gK a;have j0:=gA b;have j1:=gK b;refine bn (bx (aI (ah (ao (ao (a:=FR a) rfl rfl i0) (ao (a:=FR b) rfl rfl j0) (gN ha.top hb.top (by omega) (by omega)))
  (ah (d:=nD (a.2*b.2)) (ao (ao (a:=FR a) rfl rfl i1) (ao (a:=FR b) rfl rfl j1) ?_) am)) ?_))
 .rw[gN (k:=k) (l:=l) (by rw[J_];exact ha.bot) (by rw[J_];exact hb.bot) (by omega) (by omega)];show some (D.int _)=some (D.int _);rw[K_]
 .exact mI (jD ha hb).1 (jD ha hb).2 (by omega)
end
theorem rp{a b:Nat}(ha:a<=DD)(hb:b<=DD):i6 [QF a,QF b]=.ok (QF (a+b)):=by have:=C5 (j8 ha) (j8 hb) (by omega);rw[Kn,<-R4]at this;exact this
theorem rm{a b:Nat}(ha:a<=DD)(hb:b<=a):jA [QF a,QF b]=.ok (QF (a-b)):=by have:=Dm (j8 ha) (j8 (PQ hb ha)) (by omega);rw[K5,<-Vf hb]at this;exact this
theorem zj{c:Nat}(h:c<=7):Bd 3 ((c:Int),1):=⟨by show 0<1;decide,by show 1<8;decide,by rw[J_];show c<8;omega⟩
theorem zk{c:Nat}(h0:0<c)(h:c<=7):Bd 3 ((1:Int),c):=⟨h0,by show c<8;omega,by show 1<8;decide⟩
theorem rt{c a:Nat}(hc:c<=7)(ha:a<=DD):jB [FR ((c:Int),1),QF a]=.ok (QF (c*a)):=by have:=Do (zj hc) (j8 ha) (by omega);rw[K6,<-K_]at this;exact this
theorem rd{c a:Nat}(h0:0<c)(hc:c<=7)(ha:a<=DD)(hd:c∣a):jB [QF a,FR ((1:Int),c)]=.ok (QF (a/c)):=by have:=Do (j8 ha) (zk h0 hc) (by omega);rw[Hg h0 hd]at this;exact this
theorem rl{a b:Nat}(ha:a<=DD)(hb:b<=DD):iZ [QF a,QF b]=.ok (.bl (decide (a<b))):=by have:=C4 (j8 ha) (j8 hb) (by omega) (by omega);rw[Km]at this;rw[this];simp only[U7]
theorem Px{c:Nat}(h0:0<c)(hc:c<=7):e8 [.int 1,nD c]=.ok (FR ((1:Int),c)):=by have:=mI (t:=1) (b:=c) (k:=3) h0 (by show c<8;omega) (by omega);rw[Gw]at this;exact this
theorem Pw(c:Nat):e8 [nD c,.int 1]=.ok (FR ((c:Int),1)):=by have:=mI (t:=(c:Int)) (b:=1) (k:=1) (by decide) (by decide) (by omega);rw[iM]at this;exact this
theorem yY:Nn DD:=⟨by unfold DD;decide,by unfold DD;decide⟩
theorem NS{l:List Nat}(h:l≠[])(hl:∀y∈l,y<=DD):kT [.lst (l.map QF)]=.ok (QF (Et.cm l)):=Dl yY h hl
abbrev LD(T:List Nat)(a:Nat->Nat):D:=.dic (T.map fun x=>(kI x,QF (a x)))
theorem AI(f:Nat->D):∀{T:List Nat}{x:Nat},x∈T->bc (T.map fun x=>(kI x,f x)) (kI x)=some (f x)
|[],_,h=>by cases h
|y::T,x,h=>by
  by_cases e:y=x
  .subst e;simp[bc,P7]
  .have hne:¬ kI y=kI x:=fun z=>e (ny z);have ih:=AI f (T:=T) (x:=x) ((q_.mp h).resolve_left fun z=>e z.symm);have e1:bc ((y::T).map fun x=>(kI x,f x)) (kI x)=bc (T.map fun x=>(kI x,f x)) (kI x):=by simp only[bc,p_,P7];rw[decide_eq_false hne]
   rw[e1];exact ih
theorem na{T:List Nat}{a:Nat->Nat}{x:Nat}(h:x∈T):aC (LD T a) (nD x)=some (QF (a x)):=nj (AI (fun x=>QF (a x)) h)
theorem AN(f:Nat->D)(T:List Nat)(x:Nat):cC (T.map fun x=>(kI x,f x)) (kI x)=decide (x∈T):=by
 have:=tj (T.map fun y=>(y,f y)) x;rw[M_,M_]at this;have e:TM ((fun p:Nat×D=>p.1)∘fun y=>(y,f y)) T=T:=by have:((fun p:Nat×D=>p.1)∘fun y=>(y,f y))=id:=rfl;rw[this,List.map_id]
 rw[e]at this;exact this
theorem Gn(T:List Nat)(a:Nat->Nat)(x:Nat):il (nD x) (LD T a)=some (.bl (decide (x∈T))):=by show(VX _ ((dw (nD x)).map (cC (T.map fun x=>(kI x,QF (a x))))))=_;show some (D.bl (cC (T.map fun x=>(kI x,QF (a x))) (kI x)))=_;rw[AN]
theorem Il(T:List Nat)(a:Nat->Nat)(x:Nat):du (nD x) (LD T a)=some (.bl (! decide (x∈T))):=by show(VX _ ((dw (nD x)).map (cC (T.map fun x=>(kI x,QF (a x))))))=_;show some (D.bl (! cC (T.map fun x=>(kI x,QF (a x))) (kI x)))=_;rw[AN]
theorem tR(T:List Nat)(f:Nat->D):ix (.dic (T.map fun x=>(kI x,f x)))=some (T.map nD):=by show some ((T.map fun x=>(kI x,f x)).map fun kv=>lI kv.1)=_;rw[M_];rfl
theorem tT{f:FE}{r:ak}{d:D}{ds:List D}(h:f r=.ok d)(h2:ix d=some ds):aG ix f r=.ok ds:=by unfold aG;rw[h,bind_ok,h2];rfl
theorem tq{T:List Nat}{f:Nat->D}{x:Nat}(h:x∉T)(hl:T.length<=1000):cH (.dic (T.map fun x=>(kI x,f x))) (nD x) (f x)=some (.dic ((T++[x]).map fun x=>(kI x,f x))):=by
 show(if (T.map fun x=>(kI x,f x)).length<sizeLine then some (D.dic (cx _ (kI x) (f x)))else none)=_;rw[if_pos (by rw[m_,Qf];omega)];have:=C1 (T.map fun y=>(y,f y)) x (f x) (by rw[M_];simpa[Ut]using h);rw[M_]at this;show some (D.dic (cx (T.map fun x=>(kI x,f x)) (kI x) (f x)))=_;have e:cx (T.map fun x=>(kI x,f x)) (kI x) (f x)=(T++[x]).map fun x=>(kI x,f x):=by refine Vy this ?_;rw[L_,M_,L_];rfl
 rw[e]
theorem Nz{row T:List Nat}{a:Nat->Nat}(h:∃x∈row,x∈T)(hl:row.length<=1000):ja [TN row,LD T a]=.ok (nD (Rg.best row T)):=by
 refine bG (B:=oE) (n:=2) ?_;unfold oE;have hc:(cD 1 [1] (aG bJ (gv 0)) (az 0) (a9 (f2 (gv 0) (gv 1) il)) (gv 0)) [some (TN row),some (LD T a)]=.ok (LN (row.filter fun x=>decide (x∈T))):=by
  refine mn nD (fun x=>decide (x∈T)) nD (l:=row) rfl hl fun x _=>⟨[some (nD x),some (LD T a)],rfl,?_,fun _=>rfl⟩
  exact cq (ao (a:=nD x) (b:=LD T a) rfl rfl (Gn _ _ _))
 have hb:∃t,(row.filter fun x=>decide (x∈T))=Rg.best row T::t:=by unfold Rg.best;rw[xm];cases e:row.filter fun x=>decide (x∈T)with
 |nil=>obtain⟨x,h1,h2⟩:=h;have:x∈row.filter fun x=>decide (x∈T):=QB.mpr ⟨h1,by simpa using h2⟩;rw[e]at this;cases this
 |cons a t=>exact⟨t,rfl⟩
 obtain⟨t,ht⟩:=hb;rw[ht]at hc;exact bn (bx (ao hc (b:=.int 0) rfl (ixA_L0 _ _)))
theorem uK(l:List Nat)(t:Nat):kQ (LN l) [nD t]=some (nD (l.count t)):=by
 show(if di (nD t)=true/\(l.map nD).all di=true then some (D.int (((l.map nD).countP fun z=>eqs z (nD t):Nat):Int))else none)=_;rw[if_pos ⟨rfl,zT l⟩,WJ];show some (D.int ((l.countP ((fun z=>eqs z (nD t))∘nD):Nat):Int))=some (D.int ((l.count t:Nat):Int));have:(fun z=>eqs z (nD t))∘nD=fun z=>z==t:=by funext z;show eqs (nD z) (nD t)=_;rw[zR];by_cases h:z=t <;> simp[h]
 rw[this];rfl
theorem Ij(a:Nat):neD (QF a) (.tup [.int 0,.int 1])=some (.bl (decide (a≠0))):=by
 have:=Br (Qd (a:Int)) (0,1);rw[<-j3]at this;have e:decide (Qd (a:Int)=Qd 0)=decide (a=0):=by
  rw[P6,decide_eq_true_iff,decide_eq_true_iff];constructor
  .intro h;have:=Hh h;omega
  .rintro rfl;rfl
 rw[e]at this;rw[j3]at this;refine Vy this ?_;simp
end Law
end
section
set_option exponentiation.threshold 3000
namespace Law
open PySem PyProof.Rows L2 DL Fq
structure Sq(rows:List (List Nat))(n:Nat):Prop where
 n1:1<=n
 n7:n<=7
 rl:rows.length=n
 rp:∀row∈rows,row.Perm (a_ n)
section
variable{rows:List (List Nat)}{n:Nat}
theorem Sq.row(R:Sq rows n){h:Nat}(hh:h<n):(Wr rows h).Perm (a_ n):=by unfold Wr;rw[i_ (by rw[R.rl];exact hh)];exact R.rp _ (Qc _)
theorem Sq.rw(R:Sq rows n):Et.Rw (Wr rows) n:=⟨R.n1,R.n7,fun h x hh hx=>(R.row hh).mem_iff.mpr (r_.mpr hx)⟩
theorem Sq.len(R:Sq rows n):lenD [WD rows]=some (nD n):=by rw[mq,R.rl]
theorem Sq.things(R:Sq rows n):gE [WD rows]=.ok (nD n):=by cases e:rows with
|nil=>have:=R.rl;have:=R.n1;rw[e]at *;simp at *;omega
|cons r rest=>rw[D8,(R.rp r (by rw[e];exact g_)).length_eq,Qw]
theorem Sq.at(R:Sq rows n){h:Nat}(hh:h<n):aC (WD rows) (nD h)=some (TN (Wr rows h)):=j5 (Ba (by rw[R.rl];exact hh))
theorem Sq.map(R:Sq rows n):rows=(a_ n).map (Wr rows):=by
 refine QS fun i=>?_;rw[n_];by_cases hi:i<n
 .rw[PM hi,i_ (by rw[R.rl];exact hi)];unfold Wr;rw[QY,i_ (by rw[R.rl];exact hi)];rfl
 .rw[P3 (by rw[R.rl];omega),P3 (by simp;omega)];rfl
end
theorem LO{T ts:List Nat}{a:Nat->Nat}(hne:ts≠[])(hl:ts.length<=7)(h:∀x∈ts,x∈T/\ts.count x∣a x/\a x<=DD):rR [LD T a,LN ts]=.ok (QF (Et.cm (ts.map fun x=>a x/ts.count x))):=by
 refine bG (B:=yr) (n:=2) ?_;unfold yr;have hc:(cD 1 [0,1] (aG bJ (gv 1)) (az 0) (fun _=>Res.ok true) (aA (ag (f2 (gv 1) (gv 0) aC) (ag (aA (ag (ci 1) (ag (fM "list" (gv 2) (ag (gv 0) ae) kQ) ae)) [] e8) ae)) [] jB)) [some (LD T a),some (LN ts)]=.ok (.lst ((ts.map fun x=>a x/ts.count x).map QF)):=by
  rw[M_];refine fW (l:=ts) nD (fun x=>QF (a x/ts.count x)) rfl (by omega) fun x hx=>⟨[some (nD x),some (LD T a),some (LN ts)],rfl,?_⟩
  obtain⟨h1,h2,h3⟩:=h x hx;have h4:0<ts.count x:=V3.mpr hx;have h5:ts.count x<=7:=PQ TQ hl;exact aI (ah (ao (a:=LD T a) (b:=nD x) rfl rfl (na h1)) (ah (aI (ah (d:=.int 1) rfl (ah (sv (d:=LN ts) rfl rfl (ah (d:=nD x) rfl am) (uK ts x)) am)) (Px h4 h5)) am)) (rd h4 h5 h3 h2)
 refine bn (bx (aI (ah hc am) (NS (by simpa using hne) fun y hy=>?_)));obtain⟨x,hx,rfl⟩:=A_.mp hy;exact PQ (Vd _ _) (h x hx).2.2
theorem Cc{T ts:List Nat}{a:Nat->Nat}{s:Nat}(hs:s<=DD)(hts:ts.length<=7)(hT:T.length<=60)(ha:∀x∈T,a x<=DD)(hm:∀x,ts.count x*s<=a x):∀(l done:List Nat)(x4 x5:Option D),(done++l).Nodup->(∀x∈done++l,x∈T)->done.length+l.length<=60 ->∃y4 y5,aE (az 4) EV (l.map nD) [some (LD T a),some (LN ts),some (QF s),some (LD done fun x=>a x-ts.count x*s),x4,x5]=.nx [some (LD T a),some (LN ts),some (QF s),some (LD (done++l) fun x=>a x-ts.count x*s),y4,y5]
|[],done,x4,x5,_,_,_=>⟨x4,x5,by rw[QC];exact cU⟩
|x::l,done,x4,x5,hn,hin,hl=>by have hx:x∈T:=hin x (by simp);have hxd:x∉done:=fun z=>(Qx.mp hn).2.2 x z x g_ rfl;have h5:ts.count x<=7:=PQ TQ hts;obtain⟨y4,y5,ih⟩:=Cc hs hts hT ha hm l (done++[x]) (some (nD x)) (some (FR ((ts.count x:Int),1))) (by simpa using hn) (by simpa using hin) (by simp at hl ⊢;omega);refine⟨y4,y5,?_⟩;rw[Qv,RC]at ih;rw[p_,<-ih];refine cL (r1:=[some (LD T a),some (LN ts),some (QF s),some (LD done fun x=>a x-ts.count x*s),some (nD x),x5]) rfl ?_;refine(aq (aR (aI (ah (sv (d:=LN ts) rfl rfl (ah (d:=nD x) rfl am) (uK ts x)) (ah (d:=.int 1) rfl am)) (Pw _)))).trans ?_;exact aq (jw (d:=LD done fun x=>a x-ts.count x*s) (k:=nD x) (v:=QF (a x-ts.count x*s)) rfl (aI (ah (ao (a:=LD T a) (b:=nD x) rfl rfl (na hx)) (ah (aI (ah (d:=FR ((ts.count x:Int),1)) rfl (ah (d:=QF s) rfl am)) (rt h5 hs)) am)) (rm (ha x hx) (hm x))) rfl (tq (f:=fun x=>QF (a x-ts.count x*s)) hxd (by omega)))
theorem NK{T ts:List Nat}{a:Nat->Nat}{s:Nat}(hn:T.Nodup)(hs:s<=DD)(hts:ts.length<=7)(hT:T.length<=60)(ha:∀x∈T,a x<=DD)(hm:∀x,ts.count x*s<=a x):qW [LD T a,LN ts,QF s]=.ok (LD T fun x=>a x-ts.count x*s):=by obtain⟨y4,y5,e⟩:=Cc hs hts hT ha hm T [] none none (by simpa using hn) (by simp) (by simpa using hT);rw[Ro]at e;refine bG (B:=xL) (n:=6) ?_;unfold xL;refine(aq (aR (d:=LD [] fun x=>a x-ts.count x*s) rfl)).trans ?_;refine(aq ((cV (tT (d:=LD T a) rfl (tR T _))).trans e)).trans ?_;exact bn (bx (d:=LD T fun x=>a x-ts.count x*s) rfl)
theorem tY{T:List Nat}{a:Nat->Nat}:∀(l done:List Nat)(x2:Option D),(done++l).Nodup->(∀x∈l,x∈T)->done.length+l.length<=60 ->∃y2,aE (az 2) EC (l.map nD) [some (LD T a),some (LD done a),x2]=.nx [some (LD T a),some (LD (done++l.filter fun x=>decide (a x≠0)) a),y2]
|[],done,x2,_,_,_=>⟨x2,by rw[List.filter_nil,QC];exact cU⟩
|x::l,done,x2,hn,hin,hl=>by
  have hx:x∈T:=hin x (by simp);have hxd:x∉done:=fun z=>(Qx.mp hn).2.2 x z x g_ rfl;have t:=Ij (a x);by_cases h:a x=0
  .rw[decide_eq_false (fun z=>z h)]at t;obtain⟨y2,ih⟩:=tY (T:=T) (a:=a) l done (some (nD x)) (hn.sublist (XT (List.sublist_cons_self x l) done)) (fun z hz=>hin z (f_ _ hz)) (by simp at hl;omega);refine⟨y2,?_⟩;rw[p_,QD,if_neg (by simpa using h),<-ih];refine cL (r1:=[some (LD T a),some (LD done a),some (nD x)]) rfl ?_;exact aq ((bK (cq (ao (ao (a:=LD T a) (b:=nD x) rfl rfl (na hx)) rfl t))).trans (e_skip _))
  .rw[decide_eq_true h]at t;obtain⟨y2,ih⟩:=tY (T:=T) (a:=a) l (done++[x]) (some (nD x)) (by simpa using hn) (fun z hz=>hin z (f_ _ hz)) (by simp at hl ⊢;omega);refine⟨y2,?_⟩;rw[Qv,RC]at ih;rw[p_,QD,if_pos (by simpa using h),<-ih];refine cL (r1:=[some (LD T a),some (LD done a),some (nD x)]) rfl ?_;refine aq ((gU (cq (ao (ao (a:=LD T a) (b:=nD x) rfl rfl (na hx)) rfl t))).trans ?_);exact aq (jw (d:=LD done a) (k:=nD x) (v:=QF (a x)) rfl (ao (a:=LD T a) (b:=nD x) rfl rfl (na hx)) rfl (tq (f:=fun x=>QF (a x)) hxd (by omega)))
theorem Of{T:List Nat}{a:Nat->Nat}(hn:T.Nodup)(hT:T.length<=60):qS [LD T a]=.ok (LD (T.filter fun x=>decide (a x≠0)) a):=by obtain⟨y2,e⟩:=tY (T:=T) (a:=a) T [] none (by simpa using hn) (fun _ h=>h) (by simpa using hT);rw[Ro]at e;refine Kx (B:=xw) (n:=3) ?_;unfold xw;refine(aq (aR (d:=LD [] a) rfl)).trans ?_;refine(aq ((cV (tT (d:=LD T a) rfl (tR T _))).trans e)).trans ?_;exact bn (bx (d:=LD (T.filter fun x=>decide (a x≠0)) a) rfl)
abbrev mD(p:List Nat×Nat×List Nat):D:=.tup [LN p.1,QF p.2.1,TN p.2.2]
abbrev LM(ms:List (List Nat×Nat×List Nat)):D:=.lst (ms.map mD)
section
variable{rows:List (List Nat)}{n:Nat}
theorem Hv(T:List Nat)(a:Nat->Nat):fZ (LD T a)=some (! T.isEmpty):=by show some (!(T.map fun x=>(kI x,QF (a x))).isEmpty)=_;rw[List.isEmpty_map]
theorem D4(R:Sq rows n):∀(k:Nat)(T:List Nat)(a:Nat->Nat)(ms:List (List Nat×Nat×List Nat))(x2 x4 x5 x6:Option D),Et.Ok n T a->(∀x∈T,a x<=DD)->T.length<k->T.length<=7->ms.length+T.length<=60 ->∃d1 y2 y4 y5 y6,dF iI EG EB k [some (WD rows),some (LD T a),x2,some (LM ms),x4,x5,x6]=.nx [some (WD rows),d1,y2,some (LM (ms++Et.dz (Wr rows) n k T a)),y4,y5,y6]
|0,T,a,ms,x2,x4,x5,x6,_,_,hk,_,_=>absurd hk (by omega)
|k+1,T,a,ms,x2,x4,x5,x6,S,ha,hk,h7,hms=>by
  by_cases hT:T=[]
  .subst hT;refine⟨some (LD [] a),x2,x4,x5,x6,?_⟩;have e:Et.dz (Wr rows) n (k+1) [] a=[]:=rfl;rw[e,QC];exact vA (dk (d:=LD [] a) rfl rfl)
  .have RW:=R.rw;have hn1:=R.n1;have hn7:=R.n7;have e:Et.dz (Wr rows) n (k+1) T a=(Et.tgs (Wr rows) n T,Et.cW (Wr rows) n T a,T.filter fun x=>decide (x∉Et.ck (Wr rows) n T a))::Et.dz (Wr rows) n k (Et.ck (Wr rows) n T a) (Et.cE (Wr rows) n T a):=by show(if T=[]then[]else _)=_;rw[if_neg hT]
   have hlt:=Et.eB RW S hT;have hts:(Et.tgs (Wr rows) n T).length=n:=Et.cG;have hin:∀x∈Et.tgs (Wr rows) n T,x∈T:=fun x hx=>Et.bV RW S hT hx;have hsp:Et.cW (Wr rows) n T a<=DD:=by obtain⟨x,h1,h2⟩:=Et.gb (T:=T) (a:=a) RW;rw[h2];exact PQ (Vd _ _) (ha x (hin x h1))
   obtain⟨d1,y2,y4,y5,y6,ih⟩:=D4 R k (Et.ck (Wr rows) n T a) (Et.cE (Wr rows) n T a) (ms++[(Et.tgs (Wr rows) n T,Et.cW (Wr rows) n T a,T.filter fun x=>decide (x∉Et.ck (Wr rows) n T a))]) x2 (some (LN (Et.tgs (Wr rows) n T))) (some (QF (Et.cW (Wr rows) n T a))) (some (LD T (Et.cE (Wr rows) n T a))) (S.next RW hT) (fun x hx=>PQ (Nat.sub_le _ _) (ha x (QB.mp hx).1)) (by omega) (by omega) (by simp;omega);refine⟨d1,y2,y4,y5,y6,?_⟩;rw[Qv,RC,<-e]at ih;refine Vy ?_ ih;refine vB (dk (d:=LD T a) rfl (by rw[Hv];cases T with|nil=>exact absurd rfl hT|cons _ _=>rfl)) ?_;have htg:cD 1 [1] (aG bJ (gv 0)) (az 0) (fun _=>Res.ok true) (aA (ag (gv 0) (ag (gv 1) ae)) [] ja) [some (WD rows),some (LD T a),x2,some (LM ms),x4,x5,x6]=.ok (LN (Et.tgs (Wr rows) n T)):=by
    have hc:=fW (nl:=1) (cap:=[1]) (fi:=aG bJ (gv 0)) (ft:=az 0) (fe:=aA (ag (gv 0) (ag (gv 1) ae)) [] ja) (r:=[some (WD rows),some (LD T a),x2,some (LM ms),x4,x5,x6]) (l:=a_ n) (fun h=>TN (Wr rows h)) (fun h=>nD (Rg.best (Wr rows h) T)) (by
     refine gC (d:=WD rows) rfl ?_;show some (rows.map TN)=_
     conv=>lhs;rw[R.map]
     rw[M_];rfl) (by simp;omega) fun h hh=>⟨[some (TN (Wr rows h)),some (LD T a)],rfl,?_⟩
    .rw[hc];show Res.ok (D.lst _)=Res.ok (D.lst ((Et.tgs (Wr rows) n T).map nD));unfold Et.tgs;rw[M_];rfl
    .have hh':=r_.mp hh;have hp:=Sr.mpr hT;refine aI (ah (d:=TN (Wr rows h)) rfl (ah (d:=LD T a) rfl am)) (Nz ⟨T[0],RW.has h _ hh' (S.lt _ (Qc _)),Qc _⟩ ?_);rw[(R.row hh').length_eq];simp;omega
   refine(aq (aR htg)).trans ?_;refine(aq (aR (d:=QF (Et.cW (Wr rows) n T a)) (aI (ah (d:=LD T a) rfl (ah (d:=LN (Et.tgs (Wr rows) n T)) rfl am)) (LO (by intro z;have:=congrArg Q_ z;rw[hts]at this;simp at this;omega) (by omega) fun x hx=>⟨hin x hx,(Et.eG RW S hT hx).1,ha x (hin x hx)⟩)))).trans ?_;refine(aq (aR (d:=LD T (Et.cE (Wr rows) n T a)) (aI (ah (d:=LD T a) rfl (ah (d:=LN (Et.tgs (Wr rows) n T)) rfl (ah (d:=QF (Et.cW (Wr rows) n T a)) rfl am))) (NK S.nd hsp (by omega) (by omega) ha (fun x=>Et.eh x))))).trans ?_;refine(aq (aR (d:=LD (Et.ck (Wr rows) n T a) (Et.cE (Wr rows) n T a)) ?_)).trans ?_
   .show iL _ _=_;unfold iL;rw[aI (ah (d:=LD T (Et.cE (Wr rows) n T a)) rfl am) (Of S.nd (by omega))];rfl
   have em:LM (ms++[(Et.tgs (Wr rows) n T,Et.cW (Wr rows) n T a,T.filter fun x=>decide (x∉Et.ck (Wr rows) n T a))])=.lst (ms.map mD++[mD (Et.tgs (Wr rows) n T,Et.cW (Wr rows) n T a,T.filter fun x=>decide (x∉Et.ck (Wr rows) n T a))]):=by show D.lst (TM mD _)=_;rw[L_];rfl
   rw[em];refine aq (ii (d:=LM ms) (ds:=[mD (Et.tgs (Wr rows) n T,Et.cW (Wr rows) n T a,T.filter fun x=>decide (x∉Et.ck (Wr rows) n T a))]) rfl rfl (ah (iy (ah (d:=LN (Et.tgs (Wr rows) n T)) rfl (ah (d:=QF (Et.cW (Wr rows) n T a)) rfl (ah (bQ (ah (mn (l:=T) nD (fun x=>decide (x∉Et.ck (Wr rows) n T a)) nD (tT (d:=LD T (Et.cE (Wr rows) n T a)) rfl (tR T _)) (by omega) fun x hx=>⟨[some (nD x),some (LD (Et.ck (Wr rows) n T a) (Et.cE (Wr rows) n T a))],rfl,?_,fun _=>rfl⟩) am) rfl) am))) (by simp)) am) (i8 (by rw[m_];omega)));have:=Il (Et.ck (Wr rows) n T a) (Et.cE (Wr rows) n T a) x;have e2:(! decide (x∈Et.ck (Wr rows) n T a))=decide (x∉Et.ck (Wr rows) n T a):=by simp
   rw[e2]at this;exact cq (ao (a:=nD x) (b:=LD (Et.ck (Wr rows) n T a) (Et.cE (Wr rows) n T a)) rfl rfl this)
def dW(rows:List (List Nat))(n:Nat):List (List Nat×Nat×List Nat):=Et.dz (Wr rows) n 64 (a_ n) fun _=>DD
theorem DG(d0:D):∀(j i:Nat)(x2:Option D),i+j<=60->∃y2,aE (az 2) EA ((Rb i j).map nD) [some d0,some (LD (a_ i) fun _=>DD),x2,none,none,none,none]=.nx [some d0,some (LD (a_ (i+j)) fun _=>DD),y2,none,none,none,none]
|0,i,x2,_=>⟨x2,cU⟩
|j+1,i,x2,h=>by
  obtain⟨y2,ih⟩:=DG d0 j (i+1) (some (nD i)) (by omega);refine⟨y2,?_⟩;rw[show i+(j+1)=i+1+j by omega,<-ih,Q4,p_];refine cL (r1:=[some d0,some (LD (a_ i) fun _=>DD),some (nD i),none,none,none,none]) rfl ?_;rw[QZ];have e1:(.tup [.int 1,.int 1]:D)=QF DD:=by show _=FR (Qd (DD:Int));rw[zr];rfl
  exact aq (jw (d:=LD (a_ i) fun _=>DD) (k:=nD i) (v:=QF DD) rfl (by rw[<-e1]) rfl (tq (f:=fun _=>QF DD) (by simp) (by simp;omega)))
theorem NC(R:Sq rows n):qR [WD rows]=.ok (LM (dW rows n)):=by have hn7:=R.n7;obtain⟨y2,h1⟩:=DG (WD rows) n 0 none (by omega);rw[QJ,<-Qq]at h1;obtain⟨d1,z2,z4,z5,z6,h2⟩:=D4 R 64 (a_ n) (fun _=>DD) [] y2 none none none (Et.Ok.init R.rw) (fun _ _=>u_ _) (by simp;omega) (by simpa using hn7) (by simp;omega);rw[Ro]at h2;refine bG (B:=xv) (n:=7) ?_;unfold xv;refine(aq (aR (d:=LD (a_ 0) fun _=>DD) rfl)).trans ?_;refine(aq ((cV (fK (ah (aI (ah (d:=WD rows) rfl am) R.things) am) (fJ (by omega)))).trans h1)).trans ?_;refine(aq (aR (d:=LM []) (fI am (by simp)))).trans ?_;refine(aq h2).trans ?_;exact bn (bx (d:=LM (dW rows n)) rfl)
end
end Law
end
section
set_option exponentiation.threshold 3000
namespace Law
open PySem PyProof.Rows L2 DL Fq
abbrev SL(n:Nat)(s:Nat->Nat):D:=.lst ((a_ n).map fun x=>QF (s x))
theorem Gr{n x:Nat}{s:Nat->Nat}(h:x<n):aC (SL n s) (nD x)=some (QF (s x)):=by refine j4 ?_;rw[n_,PM h];rfl
theorem Jx{n x v:Nat}{s:Nat->Nat}(h:x<n):cH (SL n s) (nD x) (QF v)=some (SL n fun y=>if y=x then v else s y):=by
 rw[tD (by simpa using h)];show some (D.lst _)=some (D.lst _);congr 2;refine QS fun i=>?_;by_cases hi:i<n
 .by_cases e:x=i
  .subst e;rw[o_ (by simpa using h),n_,PM h];simp
  .rw[c_ e,n_,n_,PM hi];simp[Rs e]
 .rw[P3 (by simp;omega),P3 (by simp;omega)]
theorem CA{d0 d2:D}{n h:Nat}(hh:h<n):∀(ms:List (List Nat×Nat×List Nat))(s:Nat->Nat)(x4 x5 x6 x7:Option D),(∀p∈ms,p.1.length=n/\∀t∈p.1,t<n)->(∀x,s x+Et.jI ms<=DD) ->∃y4 y5 y6 y7,aE (dg (bh (az 4) (bh (az 5) (bh (az 6) dc)))) EL (ms.map mD) [some d0,some (nD h),some d2,some (SL n s),x4,x5,x6,x7]=.nx [some d0,some (nD h),some d2,some (SL n fun x=>s x+Et.shr ms h x),y4,y5,y6,y7]
|[],s,x4,x5,x6,x7,_,_=>⟨x4,x5,x6,x7,cU⟩
|p::ms,s,x4,x5,x6,x7,hp,hs=>by
  obtain⟨h1,h2⟩:=hp p g_;have hhl:h<p.1.length:=by omega
  have ht:p.1.getD h 0<n:=by rw[E_,i_ hhl];exact h2 _ (Qc _)
  have hb:=hs (p.1.getD h 0);rw[Et.cf]at hb;obtain⟨y4,y5,y6,y7,ih⟩:=CA (d0:=d0) (d2:=d2) hh ms (fun y=>if y=p.1.getD h 0 then s (p.1.getD h 0)+p.2.1 else s y) (some (LN p.1)) (some (QF p.2.1)) (some (TN p.2.2)) (some (nD (p.1.getD h 0))) (fun q hq=>hp q (f_ _ hq)) (fun x=>by
   have:=hs x;rw[Et.cf]at this;show(if x=p.1.getD h 0 then _ else _)+_<=_;by_cases e:x=p.1.getD h 0
   .rw[if_pos e];omega
   .rw[if_neg e];omega)
  refine⟨y4,y5,y6,y7,?_⟩;have ef:(fun x=>s x+Et.shr (p::ms) h x)=fun x=>(if x=p.1.getD h 0 then s (p.1.getD h 0)+p.2.1 else s x)+Et.shr ms h x:=by
   funext x;rw[Et.dq];by_cases e:x=p.1.getD h 0
   .rw[if_pos e,if_pos e.symm,e];omega
   .rw[if_neg e,if_neg (Rs e)];omega
  rw[ef,p_,<-ih];refine cL (r1:=[some d0,some (nD h),some d2,some (SL n s),some (LN p.1),some (QF p.2.1),some (TN p.2.2),x7]) rfl ?_;refine(aq (aR (d:=nD (p.1.getD h 0)) (ao (a:=LN p.1) (b:=nD h) rfl rfl (j4 ?_)))).trans ?_
  .rw[n_,i_ hhl,E_,i_ hhl];rfl
  exact aq (jw (d:=SL n s) (k:=nD (p.1.getD h 0)) (v:=QF (s (p.1.getD h 0)+p.2.1)) rfl (aI (ah (ao (a:=SL n s) (b:=nD (p.1.getD h 0)) rfl rfl (Gr ht)) (ah (d:=QF p.2.1) rfl am)) (rp (by omega) (by omega))) rfl (Jx ht))
section
variable{rows:List (List Nat)}{n:Nat}
theorem AB(R:Sq rows n):∀(k:Nat)(T:List Nat)(a:Nat->Nat),Et.Ok n T a->∀p∈Et.dz (Wr rows) n k T a,p.1.length=n/\∀t∈p.1,t<n
|0,T,a,S,p,hp=>by cases hp
|k+1,T,a,S,p,hp=>by
  by_cases hT:T=[]
  .subst hT;cases hp
  .have e:Et.dz (Wr rows) n (k+1) T a=(Et.tgs (Wr rows) n T,Et.cW (Wr rows) n T a,T.filter fun x=>decide (x∉Et.ck (Wr rows) n T a))::Et.dz (Wr rows) n k (Et.ck (Wr rows) n T a) (Et.cE (Wr rows) n T a):=by show(if T=[]then[]else _)=_;rw[if_neg hT]
   rw[e]at hp;rcases q_.mp hp with rfl|hp
   .exact⟨Et.cG,fun t ht=>S.lt t (Et.bV R.rw S hT ht)⟩
   .exact AB R k _ _ (S.next R.rw hT) p hp
theorem Bz(R:Sq rows n):∀(k:Nat)(T:List Nat)(a:Nat->Nat),Et.Ok n T a->(Et.dz (Wr rows) n k T a).length<=T.length
|0,T,a,S=>by show 0<=_;omega
|k+1,T,a,S=>by
  by_cases hT:T=[]
  .subst hT;exact u_ _
  .have e:Et.dz (Wr rows) n (k+1) T a=(Et.tgs (Wr rows) n T,Et.cW (Wr rows) n T a,T.filter fun x=>decide (x∉Et.ck (Wr rows) n T a))::Et.dz (Wr rows) n k (Et.ck (Wr rows) n T a) (Et.cE (Wr rows) n T a):=by show(if T=[]then[]else _)=_;rw[if_neg hT]
   have:=Bz R k _ _ (S.next R.rw hT);have hlt:=Et.eB R.rw S hT;rw[e,C_];omega
theorem Ii(R:Sq rows n):∀p∈dW rows n,p.1.length=n/\∀t∈p.1,t<n:=AB R 64 _ _ (Et.Ok.init R.rw)
theorem tX(R:Sq rows n):Et.jI (dW rows n)=DD:=Et.jV R.rw (by have:=R.n7;omega)
theorem JE(R:Sq rows n):(dW rows n).length<=7:=by have:=Bz R 64 _ _ (Et.Ok.init R.rw);have:=R.n7;unfold dW;simp at *;omega
def tbN(rows:List (List Nat))(n h x:Nat):Nat:=Et.shr (dW rows n) h x
def mM(rows:List (List Nat))(n h:Nat):List (Int×Nat):=(a_ n).map fun x=>Qd ((tbN rows n h x:Nat):Int)
theorem FN(n:Nat):(I_ n [FR (0,1)]).flatten=(a_ n).map fun _=>QF 0:=by
 have e:QF 0=FR (0,1):=by show FR (Qd ((0:Nat):Int))=_;rw[show((0:Nat):Int)=0 from rfl,j3]
 rw[e]
 induction n with
|zero=>rfl
|succ n ih=>rw[List.replicate_succ',List.flatten_append,ih,QZ,L_];rfl
theorem KW(ds:List D)(k:Int):jM (.lst ds) (.int k)=if-(2^62)<=k/\k<2^62/\ds.length*k.toNat<=sizeLine then some (.lst ((I_ k.toNat ds).flatten))else none:=rfl
theorem NU(R:Sq rows n){h:Nat}(hh:h<n):rg [WD rows,nD h,LM (dW rows n)]=.ok (TF (mM rows n h)):=by
 have hn7:=R.n7;obtain⟨y4,y5,y6,y7,e⟩:=CA (d0:=WD rows) (d2:=LM (dW rows n)) hh (dW rows n) (fun _=>0) none none none none (Ii R) (fun _=>by rw[tX R];omega);refine bG (B:=wZ) (n:=8) ?_;unfold wZ;refine(aq (aR (d:=SL n fun _=>0) (ao (a:=.lst [FR (0,1)]) (b:=nD n) (fI (ah (d:=FR (0,1)) rfl am) (by simp)) (aI (ah (d:=WD rows) rfl am) R.things) ?_))).trans ?_
 .rw[KW,if_pos ⟨by omega,by omega,by rw[Qf,QP,Th];omega⟩,QP,FN]
 refine(aq ((cV (gC (d:=LM (dW rows n)) rfl rfl)).trans e)).trans ?_;refine bn (bx (bQ (ah (d:=SL n fun x=>0+Et.shr (dW rows n) h x) rfl am) ?_));rw[e_tupL];show some (D.tup _)=some (D.tup ((mM rows n h).map FR));unfold mM tbN;rw[M_];congr 2;refine PY fun x _=>?_;show QF (0+Et.shr (dW rows n) h x)=_;rw[QJ];rfl
theorem Ce{d0:D}:∀(ms:List (List Nat×Nat×List Nat))(lg:List D)(s:Nat)(x3 x4 x5:Option D),s+Et.jI ms<=DD->lg.length+ms.length<=100 ->∃lg' s' y3 y4 y5,aE (dg (bh (az 3) (bh (az 4) (bh (az 5) dc)))) DJ (ms.map mD) [some d0,some (.lst lg),some (QF s),x3,x4,x5]=.nx [some d0,some (.lst lg'),some (QF s'),y3,y4,y5]
|[],lg,s,x3,x4,x5,_,_=>⟨lg,s,x3,x4,x5,cU⟩
|p::ms,lg,s,x3,x4,x5,hs,hl=>by rw[Et.cf]at hs;rw[C_]at hl;obtain⟨lg',s',y3,y4,y5,ih⟩:=Ce (d0:=d0) ms (lg++[.tup [QF (s+p.2.1),TN p.2.2]]) (s+p.2.1) (some (LN p.1)) (some (QF p.2.1)) (some (TN p.2.2)) (by omega) (by simp;omega);refine⟨lg',s',y3,y4,y5,?_⟩;rw[p_,<-ih];refine cL (r1:=[some d0,some (.lst lg),some (QF s),some (LN p.1),some (QF p.2.1),some (TN p.2.2)]) rfl ?_;refine(aq (aR (d:=QF (s+p.2.1)) (aI (ah (d:=QF s) rfl (ah (d:=QF p.2.1) rfl am)) (rp (by omega) (by omega))))).trans ?_;exact aq (ii (d:=.lst lg) (ds:=[.tup [QF (s+p.2.1),TN p.2.2]]) rfl rfl (ah (iy (ah (d:=QF (s+p.2.1)) rfl (ah (d:=TN p.2.2) rfl am)) (by simp)) am) (i8 (by omega)))
theorem Kv(R:Sq rows n):∃d,qq [LM (dW rows n)]=.ok d:=by
 obtain⟨lg',s',y3,y4,y5,e⟩:=Ce (d0:=LM (dW rows n)) (dW rows n) [] 0 none none none (by rw[tX R];omega) (by have:=JE R;simp;omega);have e0:QF 0=.tup [.int 0,.int 1]:=by show FR (Qd ((0:Nat):Int))=_;rw[show((0:Nat):Int)=0 from rfl,j3];rfl
 refine⟨.lst lg',bG (B:=vG) (n:=6) ?_⟩;unfold vG;refine(aq (aR (d:=.lst []) (fI am (by simp)))).trans ?_;refine(aq (aR (d:=QF 0) (by rw[e0]))).trans ?_;refine(aq ((cV (gC (d:=LM (dW rows n)) rfl rfl)).trans e)).trans ?_;exact bn (bx (d:=.lst lg') rfl)
abbrev lN(l:List (List (Int×Nat))):D:=.tup (l.map TF)
def tbl(rows:List (List Nat))(n:Nat):List (List (Int×Nat)):=(a_ n).map (mM rows n)
theorem NV(R:Sq rows n):re [WD rows]=.ok (.bl true):=by refine bG (B:=wX) (n:=1) ?_;unfold wX;exact bn (bx (ao (a:=nD n) (b:=nD n) (aI (ah (d:=WD rows) rfl am) R.things) (bQ (ah (d:=WD rows) rfl am) R.len) (n4 n)))
theorem NT(R:Sq rows n):rX [WD rows]=.ok .non:=by
 show ay false (rW (aN 1 [WD rows]))=_;have:rW (aN 1 [WD rows])=.nx [some (WD rows)]:=by unfold rW;exact aq ((bK (eO (b:=true) (dk (aI (ah (d:=WD rows) rfl am) (NV R)) rfl))).trans (e_skip _))
 rw[this];rfl
theorem By{m:List Md}{f:FE}{r:ak}{d:D}(h:f r=.ok d):mV m f r=.nx r:=by unfold mV;rw[h];rfl
theorem NA(R:Sq rows n):∃d,qh [WD rows]=.ok (.tup [lN (tbl rows n),d]):=by
 have hn7:=R.n7;obtain⟨d,hd⟩:=Kv R;refine⟨d,bG (B:=uA) (n:=3) ?_⟩;unfold uA;refine(aq (By (aI (ah (d:=WD rows) rfl am) (NT R)))).trans ?_;refine(aq (aR (aI (ah (d:=WD rows) rfl am) (NC R)))).trans ?_;refine(aq (aR (d:=lN (tbl rows n)) (bQ (ah (fW (l:=a_ n) nD (fun h=>TF (mM rows n h)) (fK (ah (bQ (ah (d:=WD rows) rfl am) R.len) am) (fJ (by omega))) (by simp;omega) fun h hh=>⟨[some (nD h),some (WD rows),some (LM (dW rows n))],rfl,aI (ah (d:=WD rows) rfl (ah (d:=nD h) rfl (ah (d:=LM (dW rows n)) rfl am))) (NU R (r_.mp hh))⟩) am) ?_))).trans ?_
 .rw[e_tupL];show some (D.tup _)=some (D.tup ((tbl rows n).map TF));unfold tbl;rw[M_];rfl
 exact bn (bx (iy (ah (d:=lN (tbl rows n)) rfl (ah (aI (ah (d:=LM (dW rows n)) rfl am) hd) am)) (by simp)))
theorem IR(R:Sq rows n){h:Nat}(hh:h<n):((a_ n).map fun x=>tbN rows n h x).sum=DD:=by have:=(Et.dh R.rw 64 (a_ n) (fun _=>DD) (Et.Ok.init R.rw) (by have:=R.n7;simp;omega)).2.2 h hh;rw[<-tX R];exact this
theorem IQ(R:Sq rows n){x:Nat}(hx:x<n):((a_ n).map fun h=>tbN rows n h x).sum=DD:=by have:=(Et.dh R.rw 64 (a_ n) (fun _=>DD) (Et.Ok.init R.rw) (by have:=R.n7;simp;omega)).1 x;rw[if_pos (r_.mpr hx)]at this;exact this
end
end Law
end
namespace Law
open PySem PyProof.Rows L2 DL
structure Rws(rows:List (List Nat))(n m:Nat):Prop where
 n1:1<=n
 n7:n<=7
 nm:n<=m
 m8:m<=8
 rl:rows.length=n
 rp:∀row∈rows,row.Perm (a_ m)
section
variable{rows:List (List Nat)}{n m:Nat}
theorem Rws.row(R:Rws rows n m){h:Nat}(hh:h<n):(Wr rows h).Perm (a_ m):=by unfold Wr;rw[i_ (by rw[R.rl];exact hh)];exact R.rp _ (Qc _)
theorem Rws.has(R:Rws rows n m){h x:Nat}(hh:h<n)(hx:x<m):x∈Wr rows h:=(R.row hh).mem_iff.mpr (r_.mpr hx)
theorem Rws.one(R:Rws rows n m){h:Nat}{T:List Nat}(hh:h<n)(hT:0<T.length)(hm:∀x∈T,x<m):∃x∈Wr rows h,x∈T:=⟨T[0],R.has hh (hm _ (Qc _)),Qc _⟩
theorem Rws.best(R:Rws rows n m){h:Nat}{T:List Nat}(hh:h<n)(hT:0<T.length)(hm:∀x∈T,x<m):ja [TN (Wr rows h),LN T]=.ok (nD (Rg.best (Wr rows h) T)):=LJ (R.one hh hT hm) (by rw[(R.row hh).length_eq];have:=R.m8;simp;omega)
theorem Rws.inT(R:Rws rows n m){h:Nat}{T:List Nat}(hh:h<n)(hT:0<T.length)(hm:∀x∈T,x<m):Rg.best (Wr rows h) T∈T:=Rg.tN (R.one hh hT hm)
theorem Rws.at0(R:Rws rows n m):∃r rest,rows=r::rest/\r.length=m:=by cases e:rows with
|nil=>have:=R.rl;have:=R.n1;rw[e]at *;simp at *;omega
|cons r rest=>exact⟨r,rest,rfl,by rw[(R.rp r (by rw[e];exact g_)).length_eq];simp⟩
theorem Rws.things(R:Rws rows n m):gE [WD rows]=.ok (nD m):=by obtain⟨r,rest,e,hl⟩:=R.at0;rw[e,D8,hl]
theorem Rws.len(R:Rws rows n m):lenD [WD rows]=some (nD n):=by rw[mq,R.rl]
theorem BS(R:Rws rows n m)(d:Nat->Nat)(od:Option D):∀(o L T:List Nat)(kvs:List (Nat×Nat))(y:Option D),Rg.lO (Wr rows) d o T->GI d kvs L->(∀h∈L++o,h<n)->o.length<=T.length->(∀x∈T,x<m) ->∃kvs' T' y',GI d kvs' (L++o)/\aE (az 4) Ez (o.map nD) [some (WD rows),od,some (LN T),some (KD kvs),y]=.nx [some (WD rows),od,some (LN T'),some (KD kvs'),y']
|[],L,T,kvs,y,_,g,_,_,_=>⟨kvs,T,y,by rw[QC];exact g,cU⟩
|h::o,L,T,kvs,y,s,g,hL,hl,hT=>by
  have hh:h<n:=hL h (by simp);have hp:0<T.length:=by simp at hl;omega
  have hb:=R.best hh hp hT;have hin:=R.inT hh hp hT;rw[s.1]at hb hin;obtain⟨kvs',T',y',g',ih⟩:=BS R d od o (L++[h]) (T.erase (d h)) (putN kvs h (d h)) (some (nD h)) s.2 (g.put h) (by simpa using hL) (by rw[Q9 hin];simp at hl;omega) (fun x hx=>hT x (Tj hx));refine⟨kvs',T',y',by simpa using g',?_⟩;rw[<-ih];have hk:=g.len (line:=a_ n) fun x hx=>r_.mpr (hL x (PU _ hx));have hn7:=R.n7;refine cL (r1:=[some (WD rows),od,some (LN T),some (KD kvs),some (nD h)]) rfl ?_;refine(aq (jw (d:=KD kvs) (k:=nD h) (v:=nD (d h)) rfl (aI (ah (ao (a:=WD rows) (b:=nD h) rfl rfl (j5 (Ba (by rw[R.rl];exact hh)))) (ah (d:=LN T) rfl am)) hb) rfl (tm (by simp at hk;omega)))).trans ?_;exact aq (ii (d:=LN T) (ds:=[nD (d h)]) rfl rfl (ah (ao (a:=KD (putN kvs h (d h))) (b:=nD h) rfl rfl (nj (n6 (g.put h).val (((g.put h).key h).mpr (by simp))))) am) (Jy hin))
theorem Os(R:Rws rows n m){d:Nat->Nat}{o:List Nat}(hp:o.Perm (a_ n))(s:Rg.lO (Wr rows) d o (a_ m)):oi [WD rows,LN o]=.ok (TN ((a_ n).map d)):=by
 have hn7:=R.n7;have hm8:=R.m8;have hnm:=R.nm;have hlt:∀h∈o,h<n:=fun h hh=>r_.mp (hp.mem_iff.mp hh);have hlen:o.length=n:=by rw[hp.length_eq];simp
 obtain⟨kvs',T',y',g,hl⟩:=BS R d (some (LN o)) o [] (a_ m) [] none s (GI.nil d) (by simpa using hlt) (by simp;omega) (fun x hx=>r_.mp hx);refine bG (B:=qO) (n:=5) ?_;unfold qO;refine(aq (aR (d:=LN (a_ m)) (bQ (ah (aI (ah (d:=WD rows) rfl am) R.things) am) (Kk (by omega))))).trans ?_;refine(aq (r':=[some (WD rows),some (LN o),some (LN (a_ m)),some (KD []),none]) rfl).trans ?_;refine(aq ((cV (ds:=o.map nD) (gC (aI (ah (d:=WD rows) rfl (ah (d:=LN o) rfl am)) (ND (hp.nodup_iff.mpr Qi) (by rw[R.rl];exact hlt) (by rw[R.rl];exact hlen) (by rw[R.rl];omega))) rfl)).trans hl)).trans ?_;exact bn (bx (aI (ah (d:=KD kvs') rfl am) (OW g (fun x=>by rw[Ro,hp.mem_iff];exact r_) (by omega))))
end
theorem Jt{l:List Nat}{i:Nat}(h:i<=l.length):oS (LN l) none (some (i:Int))=some (LN (l.take i)):=by show some (D.lst (dP (l.map nD) none (some (i:Int))))=_;unfold dP;rw[HT.gF,HT.fg,m_,WP h,List.drop_zero,Nat.sub_zero];show some (D.lst _)=some (D.lst ((l.take i).map nD));rw[XQ]
theorem Aw{a b:List Nat}(h:a.length+b.length<=2000):addE (LN a) (LN b)=some (LN (a++b)):=by show(if (a.map nD).length+(b.map nD).length<=sizeLine then some (D.lst (a.map nD++b.map nD))else none)=some (D.lst ((a++b).map nD));rw[if_pos (by rw[m_,m_,Qf];omega),L_]
def fc:Nat->Nat
|0=>1
|i+1=>fc i*(i+1)
theorem sw{i:Nat}(h:i<=5):fc i<=120:=by match i,h with
|0,_=>decide
|1,_=>decide
|2,_=>decide
|3,_=>decide
|4,_=>decide
|5,_=>decide
theorem sQ:∀i,0<fc i
|0=>by decide
|i+1=>Qp (sQ i) (by omega)
theorem NR{i:Nat}{row:List Nat}(hp:row.Perm (a_ i))(at':Nat):(row.take at'++[i]++row.drop at').Perm (a_ (i+1)):=by
 have h1:(row.take at'++[i]++row.drop at').Perm (i::row):=by rw[Qv,RC];refine UR.trans ?_;rw[Vl]
 refine h1.trans ?_;rw[QZ];exact(List.Perm.cons i hp).trans (Sd i _).symm
theorem LW{i:Nat}{r:List Nat}(h:r.Perm (a_ (i+1))):∃(row:List Nat)(a:Nat),row.Perm (a_ i)/\a<=i/\r=row.take a++[i]++row.drop a:=by
 have hi:i∈r:=h.mem_iff.mpr (r_.mpr (by omega));obtain⟨A,B,rfl⟩:=List.append_of_mem hi;refine⟨A++B,A.length,?_,?_,?_⟩
 .have h1:(i::(A++B)).Perm (i::a_ i):=by refine UR.symm.trans (h.trans ?_);rw[QZ];exact Sd i _
  exact h1.cons_inv
 .have:=h.length_eq;simp at this;omega
 .rw[List.take_left,List.drop_left];simp
abbrev LL(l:List (List Nat)):D:=.lst (l.map LN)
theorem pe(kd fnd:Option D){i:Nat}{row:List Nat}(hp:row.Perm (a_ i))(hi:i<=10):∀(l:List Nat)(lg:List (List Nat))(y:Option D),(∀a∈l,a<=i)->lg.length+l.length<=200 ->∃(lg':List (List Nat))(y':Option D),lg'.length=lg.length+l.length/\(∀r∈lg',r∈lg\/r.Perm (a_ (i+1)))/\(∀r∈lg,r∈lg')/\(∀a∈l,row.take a++[i]++row.drop a∈lg') /\aE (az 5) ES (l.map nD) [kd,fnd,some (nD i),some (LL lg),some (LN row),y]=.nx [kd,fnd,some (nD i),some (LL lg'),some (LN row),y']
|[],lg,y,_,_=>⟨lg,y,rfl,fun r hr=>.inl hr,fun r hr=>hr,fun _ h=>(nomatch h),cU⟩
|a::l,lg,y,ha,hl=>by
  have hlen:row.length=i:=by rw[hp.length_eq];simp
  obtain⟨lg',y',h1,h2,h4,h5,h3⟩:=pe kd fnd hp hi l (lg++[row.take a++[i]++row.drop a]) (some (nD a)) (fun x hx=>ha x (f_ _ hx)) (by simp at hl ⊢;omega);refine⟨lg',y',by rw[h1];simp;omega,fun r hr=>?_,fun r hr=>h4 r (PU _ hr),fun b hb=>(q_.mp hb).elim (fun e=>by subst e;exact h4 _ (PV _ (y_.mpr rfl))) (h5 b),Vy ?_ h3⟩
  .rcases h2 r hr with z|z
   .rcases Qk.mp z with z|z
    .exact .inl z
    .rw[y_.mp z];exact .inr (NR hp a)
   .exact .inr z
  .have ha':=ha a g_;refine cL (r1:=[kd,fnd,some (nD i),some (LL lg),some (LN row),some (nD a)]) rfl ?_;refine(aq (ii (d:=LL lg) (ds:=[LN (row.take a++[i]++row.drop a)]) (d':=LL (lg++[row.take a++[i]++row.drop a])) rfl rfl (ah (ao (a:=LN (row.take a++[i])) (b:=LN (row.drop a)) (ao (a:=LN (row.take a)) (b:=LN [i]) (An (d:=LN row) rfl rfl (nP (i:=(a:Int)) rfl) (Jt (by omega))) (fI (ah (d:=nD i) rfl am) (by simp)) (Aw (by simp;omega))) (An (d:=LN row) rfl (nP (i:=(a:Int)) rfl) rfl (KJ (by omega))) (Aw (by simp;omega))) am) ?_)).trans rfl;rw[i8 (by simp at hl ⊢;omega)];show some (D.lst _)=some (D.lst _);rw[L_];rfl
theorem pd(kd fnd:Option D){i:Nat}(hi:i<=10):∀(l:List (List Nat))(lg:List (List Nat))(x y:Option D),(∀r∈l,r.Perm (a_ i))->(∀r∈lg,r.Perm (a_ (i+1)))->lg.length+l.length*(i+1)<=200 ->∃(lg':List (List Nat))(x' y':Option D),lg'.length=lg.length+l.length*(i+1)/\(∀r∈lg',r.Perm (a_ (i+1)))/\(∀r∈lg,r∈lg')/\(∀row∈l,∀a,a<=i->row.take a++[i]++row.drop a∈lg') /\aE (az 4) ET (l.map LN) [kd,fnd,some (nD i),some (LL lg),x,y]=.nx [kd,fnd,some (nD i),some (LL lg'),x',y']
|[],lg,x,y,_,hg,_=>⟨lg,x,y,by simp,hg,fun _ h=>h,fun _ h=>(nomatch h),cU⟩
|row::l,lg,x,y,hp,hg,hl=>by
  have hr:=hp row g_;have hlen:row.length=i:=by rw[hr.length_eq];simp
  have hm:(row::l).length*(i+1)=l.length*(i+1)+(i+1):=by rw[C_,X5]
  obtain⟨lg1,y1,h1,h2,h4,h5,h3⟩:=pe kd fnd hr hi (a_ (i+1)) lg y (fun a ha=>by have:=r_.mp ha;omega) (by simp;omega);rw[Qw]at h1;obtain⟨lg',x',y',i1,i2,i4,i5,i3⟩:=pd kd fnd hi l lg1 (some (LN row)) y1 (fun r hr=>hp r (f_ _ hr)) (fun r hr=>(h2 r hr).elim (hg r) id) (by omega);refine⟨lg',x',y',by omega,i2,fun r hr=>i4 r (h4 r hr),fun r hr b hb=>(q_.mp hr).elim (fun e=>by subst e;exact i4 _ (h5 b (r_.mpr (by omega)))) fun h=>i5 r h b hb,Vy ?_ i3⟩;refine cL (r1:=[kd,fnd,some (nD i),some (LL lg),some (LN row),y]) rfl (aq ((cV (ds:=(a_ (i+1)).map nD) (fK (ah (ao (a:=nD i) (b:=nD 1) rfl rfl (iw i 1)) am) (fJ (by omega)))).trans h3))
theorem pc(kd:Option D):∀(j i:Nat)(fnd:List (List Nat))(x2 x3 x4 x5:Option D),i+j<=5->fnd.length=fc i->(∀r∈fnd,r.Perm (a_ i))->(∀r:List Nat,r.Perm (a_ i)->r∈fnd) ->∃(fnd':List (List Nat))(y2 y3 y4 y5:Option D),fnd'.length=fc (i+j)/\(∀r∈fnd',r.Perm (a_ (i+j)))/\(∀r:List Nat,r.Perm (a_ (i+j))->r∈fnd') /\aE (az 2) EU ((Rb i j).map nD) [kd,some (LL fnd),x2,x3,x4,x5]=.nx [kd,some (LL fnd'),y2,y3,y4,y5]
|0,i,fnd,x2,x3,x4,x5,_,hl,hp,hc=>⟨fnd,x2,x3,x4,x5,hl,hp,hc,cU⟩
|j+1,i,fnd,x2,x3,x4,x5,hj,hl,hp,hc=>by have hb:fc (i+1)<=120:=sw (by omega);have hfc:fc (i+1)=fc i*(i+1):=rfl;obtain⟨lg,z4,z5,h1,h2,_,h5,h3⟩:=pd kd (some (LL fnd)) (i:=i) (by omega) fnd [] x4 x5 hp (fun r hr=>(nomatch hr)) (by rw[hl,<-hfc];simp;omega);obtain⟨fnd',y2,y3,y4,y5,i1,i2,i4,i3⟩:=pc kd j (i+1) lg (some (nD i)) (some (LL lg)) z4 z5 (by omega) (by rw[h1,hl,hfc];simp) h2 (fun r hr=>by obtain⟨row,b,p1,p2,p3⟩:=LW hr;rw[p3];exact h5 row (hc row p1) b p2);refine⟨fnd',y2,y3,y4,y5,by rw[show i+(j+1)=i+1+j by omega];exact i1,by rw[show i+(j+1)=i+1+j by omega];exact i2,by rw[show i+(j+1)=i+1+j by omega];exact i4,Vy ?_ i3⟩;refine cL (r1:=[kd,some (LL fnd),some (nD i),x3,x4,x5]) rfl ?_;refine(aq (aR (d:=LL []) (fI am (by simp)))).trans ?_;refine(aq ((cV (ds:=fnd.map LN) rfl).trans h3)).trans ?_;exact aq (aR (d:=LL lg) rfl)
theorem KZ{k:Nat}(hk:k<=5):∃rs:List (List Nat),(∀r:List Nat,r∈rs↔r.Perm (a_ k))/\rs.length=fc k/\ou [nD k]=.ok (LL rs):=by obtain⟨fnd,y2,y3,y4,y5,h1,h2,h4,h3⟩:=pc (some (nD k)) k 0 [[]] none none none none (by omega) rfl (fun r hr=>by rw[y_.mp hr];simp) (fun r hr=>by rw[List.perm_nil.mp (show r.Perm []from hr)];exact y_.mpr rfl);rw[QJ]at h1 h2 h4;rw[<-Qq]at h3;refine⟨fnd,fun r=>⟨h2 r,h4 r⟩,h1,bG (B:=xJ) (n:=6) ?_⟩;unfold xJ;refine(aq (aR (d:=LL [[]]) (fI (ah (fI am (by simp)) am) (by simp)))).trans ?_;refine(aq ((cV (ds:=(a_ k).map nD) (fK (ah (d:=nD k) rfl am) (fJ (by omega)))).trans h3)).trans ?_;exact bn (bx (d:=LL fnd) rfl)
end Law
section
set_option exponentiation.threshold 3000
namespace Law
open PySem PyProof.Rows L2 DL Fq
abbrev kH(l:List (List (Int×Nat))):D:=.lst (l.map TF)
def col(dls:List (List Nat))(i:Nat):List Nat:=dls.map fun dl=>dl.getD i 0
def shr(dls:List (List Nat))(m h:Nat):List (Int×Nat):=(a_ m).map fun t=>low (((col dls h).count t:Nat):Int) dls.length
theorem Cw{dls:List (List Nat)}{n m:Nat}(hN:0<dls.length)(hN2:dls.length<=120)(hd:∀dl∈dls,dl.length=n)(hm:m<=60):∀(j i:Nat)(tb:List (List (Int×Nat)))(x y:Option D),i+j<=n->n<=60->tb.length=i ->∃x' y',aE (az 3) EK ((Rb i j).map nD) [some (.lst (dls.map TN)),some (nD m),some (kH tb),x,y]=.nx [some (.lst (dls.map TN)),some (nD m),some (kH (tb++(Rb i j).map (shr dls m))),x',y']
|0,i,tb,x,y,_,_,_=>⟨x,y,by rw[show(Rb i 0).map (shr dls m)=[]from rfl,QC];exact cU⟩
|j+1,i,tb,x,y,hij,hn,hl=>by
  obtain⟨x',y',ih⟩:=Cw hN hN2 hd hm j (i+1) (tb++[shr dls m i]) (some (nD i)) (some (LN (col dls i))) (by omega) hn (by simp[hl]);refine⟨x',y',?_⟩;rw[Qv,RC]at ih;rw[Q4,p_,p_,<-ih];refine cL (r1:=[some (.lst (dls.map TN)),some (nD m),some (kH tb),some (nD i),y]) rfl ?_;refine(aq (aR (d:=LN (col dls i)) ?_)).trans ?_
  .have:=fW (nl:=1) (cap:=[3]) (fi:=aG bJ (gv 0)) (ft:=az 0) (fe:=f2 (gv 0) (gv 1) aC) (r:=[some (.lst (dls.map TN)),some (nD m),some (kH tb),some (nD i),y]) (l:=dls) TN (fun dl=>nD (dl.getD i 0)) rfl (by omega) fun dl hdl=>⟨[some (TN dl),some (nD i)],rfl,ao (a:=TN dl) (b:=nD i) rfl rfl (j5 ?_)⟩
   .rw[this];show Res.ok (D.lst _)=Res.ok (D.lst _);unfold col;rw[M_];rfl
   .have hi:i<dl.length:=by rw[hd dl hdl];omega
    rw[n_,i_ hi,E_,i_ hi];rfl
  have ef:kH (tb++[shr dls m i])=D.lst (tb.map TF++[TF (shr dls m i)]):=by show D.lst ((tb++[shr dls m i]).map TF)=_;rw[L_];rfl
  rw[ef];refine aq (ii (d:=kH tb) (ds:=[TF (shr dls m i)]) rfl rfl (ah (bQ (ah (fW (l:=a_ m) nD (fun t=>FR (low (((col dls i).count t:Nat):Int) dls.length)) (fK (ah (d:=nD m) rfl am) (fJ (by omega))) (by simp;omega) fun t ht=>⟨[some (nD t),some (.lst (dls.map TN)),some (LN (col dls i))],rfl,?_⟩) am) ?_) am) (i8 (by rw[m_];omega)))
  .exact aI (ah (sv (d:=LN (col dls i)) rfl rfl (ah (d:=nD t) rfl am) (uK (col dls i) t)) (ah (bQ (ah (d:=.lst (dls.map TN)) rfl am) (ki _ _)) am)) (mI (t:=(((col dls i).count t:Nat):Int)) (k:=7) hN (by omega) (by omega))
  .rw[e_tupL];show some (D.tup _)=some (D.tup ((shr dls m i).map FR));unfold shr;rw[M_];rfl
theorem OF{dls:List (List Nat)}{n m:Nat}(hN:0<dls.length)(hN2:dls.length<=120)(hd:∀dl∈dls,dl.length=n)(hm:m<=60)(hn:n<=60):rf [.lst (dls.map TN),nD m]=.ok (lN ((a_ n).map (shr dls m))):=by obtain⟨x',y',h⟩:=Cw hN hN2 hd hm n 0 [] none none (by omega) hn rfl;rw[<-Qq,Ro]at h;refine bG (B:=wY) (n:=5) ?_;unfold wY;refine(aq (aR (d:=kH []) (fI am (by simp)))).trans ?_;cases hx:dls with
|nil=>rw[hx]at hN;simp at hN
|cons d0 rest=>have h0:d0.length=n:=hd d0 (by rw[hx];exact g_);rw[<-hx];refine(aq ((cV (ds:=(a_ n).map nD) (fK (ah (bQ (ah (ao (a:=.lst (dls.map TN)) (b:=.int 0) (d:=TN d0) rfl rfl (by rw[hx];exact ixA_L0 _ _)) am) (by rw[mq,h0])) am) (fJ (by omega)))).trans h)).trans ?_;exact bn (bx (bQ (ah (d:=kH ((a_ n).map (shr dls m))) rfl am) rfl))
section
variable{rows:List (List Nat)}{n m:Nat}
def gz(rows:List (List Nat))(n m:Nat)(o:List Nat):List Nat:=(a_ n).map (Rg.gO (Wr rows) o (a_ m))
theorem JD(R:Rws rows n m){o:List Nat}(hp:o.Perm (a_ n)):oi [WD rows,LN o]=.ok (TN (gz rows n m o)):=Os R hp (Rg.sr o (a_ m) (hp.nodup_iff.mpr Qi))
theorem Og(R:Rws rows n m)(h5:n<=5):rV [WD rows]=.ok .non:=by
 show ay false (rT (aN 1 [WD rows]))=_;have:rT (aN 1 [WD rows])=.nx [some (WD rows)]:=by unfold rT;have hg:=pK n 5;rw[decide_eq_false (by omega)]at hg;exact aq ((bK (cq (ao (b:=nD 5) (bQ (ah (d:=WD rows) rfl am) R.len) rfl hg))).trans (e_skip _))
 rw[this];rfl
def lH(rs:List (List Nat))(rows:List (List Nat))(n m:Nat):List (List (Int×Nat)):=(a_ n).map (shr (rs.map (gz rows n m)) m)
theorem Kw(R:Rws rows n m)(h5:n<=5){rs:List (List Nat)}(h1:∀r∈rs,r.Perm (a_ n))(h2:rs.length=fc n)(h3:ou [nD n]=.ok (LL rs)):mZ [WD rows]=.ok (lN (lH rs rows n m)):=by
 have hfc:=sw h5;have hfp:=sQ n;have hm8:=R.m8;refine bG (B:=so) (n:=2) ?_;unfold so;refine(aq (By (aI (ah (d:=WD rows) rfl am) (Og R h5)))).trans ?_;refine(aq (aR (fW (l:=rs) LN (fun o=>TN (gz rows n m o)) (gC (aI (ah (bQ (ah (d:=WD rows) rfl am) R.len) am) h3) rfl) (by omega) fun o ho=>⟨[some (LN o),some (WD rows)],rfl,aI (ah (d:=WD rows) rfl (ah (d:=LN o) rfl am)) (JD R (h1 o ho))⟩))).trans ?_;have e:rs.map (fun o=>TN (gz rows n m o))=(rs.map (gz rows n m)).map TN:=by rw[M_];rfl
 rw[e];refine bn (bx (aI (ah (d:=.lst ((rs.map (gz rows n m)).map TN)) rfl (ah (aI (ah (d:=WD rows) rfl am) R.things) am)) (OF (by rw[m_];omega) (by rw[m_];omega) (fun dl hdl=>?_) (by omega) (by omega))));obtain⟨o,_,rfl⟩:=A_.mp hdl;unfold gz;simp
end
end Law
end
section
set_option exponentiation.threshold 3000
namespace Law
open PySem PyProof.Rows L2 DL Fq
theorem Mq{α β:Type}(f:α->β)(l:List α)(lo hi st:Option Int):eJ (l.map f) lo hi st=(eJ l lo hi st).map f:=by unfold eJ;rw[m_,VY];congr 1;funext i;rw[n_]
theorem HV(ns:List Int){a:Int}(ha:0<=a):(eJ ns (some a) (some 64) (some 27)).length<=100:=by
 unfold eJ;refine PQ (List.length_filterMap_le _ _) ?_;have h1:0<=(sliceBounds (some a) (some 64) (some 27) ns.length).1:=by simp only[sliceBounds,UN];split <;> omega
 have h2:(sliceBounds (some a) (some 64) (some 27) ns.length).2.1<=64:=by simp only[sliceBounds,UN];split <;> omega
 have h3:(sliceBounds (some a) (some 64) (some 27) ns.length).2.2=27:=rfl;generalize sliceBounds (some a) (some 64) (some 27) ns.length=p at h1 h2 h3;obtain⟨p1,p2,p3⟩:=p;simp only at h1 h2 h3;subst h3;unfold sliceRange;simp only[m_,Qw];split <;> split <;> omega
theorem Jr{fa:FE}{fl fh fs:FP}{r:ak}{d d':D}{lo hi st:Option Int}(h1:fa r=.ok d)(h2:fl r=.ok lo)(h3:fh r=.ok hi)(h4:fs r=.ok st)(h5:yN d lo hi st=some d'):jU fa fl fh fs r=.ok d':=by unfold jU;rw[h1,bind_ok,h2,bind_ok,h3,bind_ok,h4,bind_ok,h5];rfl
theorem zh{a b:List D}(h:a.length+b.length<=1000):catL (.lst a) (.lst b)=some (.lst (a++b)):=by show(if a.length+b.length<=sizeLine then some (D.lst (a++b))else none)=_;rw[if_pos (by rw[Qf];omega)]
theorem Dr{d0 d1 d2 d3:D}:∀(ps:List Int)(i:Nat)(t:Int)(x5 x6:Option D),i+ps.length<=1000 ->∃(t':Int)(y5 y6:Option D),aE (dg (bh (az 5) (bh (az 6) dc))) Ew (cb i (ps.map D.int)) [some d0,some d1,some d2,some d3,some (.int t),x5,x6]=.nx [some d0,some d1,some d2,some d3,some (.int t'),y5,y6]
|[],i,t,x5,x6,_=>⟨t,x5,x6,cU⟩
|p::ps,i,t,x5,x6,h=>by
  rw[C_]at h;have hp:gp (.int 10) (.int 30)=some (.int (10^30)):=by show iq fE _ _ _=_;rw[intsC_int,if_pos (by unfold fE;decide)];rfl
  obtain⟨t',y5,y6,ih⟩:=Dr (d0:=d0) (d1:=d1) (d2:=d2) (d3:=d3) ps (i+1) (t+((i:Int)+1)*(p%(10^30))) (some (.int i)) (some (.int p)) (by omega);refine⟨t',y5,y6,?_⟩;rw[p_,show cb i (D.int p::ps.map D.int)=D.tup [.int i,.int p]::cb (i+1) (ps.map D.int)from rfl,<-ih];refine cL (r1:=[some d0,some d1,some d2,some d3,some (.int t),some (.int i),some (.int p)]) rfl ?_;exact aq (aR (d:=.int (t+((i:Int)+1)*(p%(10^30)))) (ao (a:=.int t) rfl (ao (ao (a:=.int i) (b:=.int 1) rfl rfl rfl) (ao (a:=.int p) rfl (ao (a:=.int 10) (b:=.int 30) rfl rfl hp) (pY (by decide))) (mf (.inl ⟨by omega,by omega⟩))) rfl))
theorem Ds(ns:List Int):∀(j i:Nat)(found:List Int)(x3 x4 x5 x6:Option D),found.length+j<=100->i+j<=100 ->∃(found':List Int)(y3 y4 y5 y6:Option D),found'.length=found.length+j/\aE (az 3) Ex ((Rb i j).map nD) [some (IN ns),some (nD 27),some (IN found),x3,x4,x5,x6]=.nx [some (IN ns),some (nD 27),some (IN found'),y3,y4,y5,y6]
|0,i,found,x3,x4,x5,x6,_,_=>⟨found,x3,x4,x5,x6,rfl,cU⟩
|j+1,i,found,x3,x4,x5,x6,hf,hi=>by
  have hl:=HV ns (a:=1+(i:Int)) (by omega);obtain⟨t,y5,y6,e1⟩:=Dr (d0:=IN ns) (d1:=nD 27) (d2:=IN found) (d3:=nD i) (eJ ns (some (1+(i:Int))) (some 64) (some 27)) 0 0 x5 x6 (by omega);obtain⟨found',z3,z4,z5,z6,l,e2⟩:=Ds ns j (i+1) (found++[t]) (some (nD i)) (some (.int t)) y5 y6 (by simp;omega) (by omega);refine⟨found',z3,z4,z5,z6,by rw[l];simp;omega,?_⟩;rw[Q4,p_,<-e2];refine cL (r1:=[some (IN ns),some (nD 27),some (IN found),some (nD i),x4,x5,x6]) rfl ?_;refine(aq (aR (d:=.int 0) rfl)).trans ?_;have es:yN (IN ns) (some (1+(i:Int))) (some 64) (some 27)=some (IN (eJ ns (some (1+(i:Int))) (some 64) (some 27))):=by show(if (some 27:Option Int)=some 0 then none else some (D.lst (eJ (ns.map D.int) (some (1+(i:Int))) (some 64) (some 27))))=_;rw[if_neg (by decide),Mq]
  refine(aq ((cV (qm (Jr (d:=IN ns) rfl (nP (i:=1+(i:Int)) rfl) (nP (i:=64) rfl) (nP (i:=27) rfl) es) rfl)).trans e1)).trans ?_;have ef:IN (found++[t])=D.lst (found.map D.int++[D.int t]):=by show D.lst ((found++[t]).map D.int)=_;rw[L_];rfl
  rw[ef];exact aq (ii (d:=IN found) (ds:=[.int t]) rfl rfl (ah (d:=.int t) rfl am) (i8 (by simp;omega)))
theorem Ny(ns:List Int):∃cs:List Int,cs.length=27/\qQ [IN ns,nD 27]=.ok (IN cs):=by obtain⟨cs,y3,y4,y5,y6,l,e⟩:=Ds ns 27 0 [] none none none none (by simp) (by omega);rw[<-Qq]at e;refine⟨cs,by simpa using l,bG (B:=wE) (n:=7) ?_⟩;unfold wE;refine(aq (aR (d:=IN []) (fI am (by simp)))).trans ?_;refine(aq ((cV (fK (ah (d:=nD 27) rfl am) (fJ (by omega)))).trans e)).trans ?_;exact bn (bx (d:=IN cs) rfl)
end Law
end
section
set_option exponentiation.threshold 3000
namespace Law
open PySem PyProof.Rows L2 DL Fq Bk
theorem Cg:∀{ps:List (Nat×List Nat)}{q:Nat×List Nat}{h:Nat},q∈ps->q.1<=aF ps h (dA q.2 h)
|[],_,_,hq=>by cases hq
|r::ps,q,h,hq=>by
  rw[n9];rcases q_.mp hq with rfl|hq
  .rw[if_pos rfl];omega
  .have:=Cg (h:=h) hq;omega
section
variable{n N:Nat}{A0 A':Nat->Nat->Nat}{ps:List (Nat×List Nat)}
theorem su(hN:Nn N)(hn1:1<=n)(hn:n<=7)(P:Pg n N A0 A' 0 ps):Pz n N ps:=⟨hn1,hn,hN,P.done.2,fun q hq=>(P.pos q hq).2,by have:=P.few;have h36:(n-1)*(n-1)<=36:=Se (show n-1<=6 by omega) (show n-1<=6 by omega);omega⟩
theorem Ge{d:List Nat}(hd:d.Perm (a_ n)):cb 0 (d.map nD)=(a_ n).map fun h=>D.tup [nD h,nD (dA d h)]:=by
 refine QS fun i=>?_;rw[nX,n_,n_];by_cases h:i<n
 .rw[PM h,sT (hW hd h).1];simp only[QY,QJ]
 .rw[P3 (by rw[hd.length_eq];simp;omega),P3 (by simp;omega)];rfl
theorem CD(hN:Nn N)(hn:n<=7){d0:D}:∀(l:List (Nat×List Nat))(s:Nat)(x:Option D),(∀q∈l,0<q.1/\q.2.Perm (a_ n)/\∀h,h<n->0<A0 h (dA q.2 h))->s+(l.map (·.1)).sum<=N ->∃x',aE (az 4) Ff (l.map (pN N)) [some d0,some (bb true n N A0),some (nD n),some (Qn N s),x]=.nx [some d0,some (bb true n N A0),some (nD n),some (Qn N (s+(l.map (·.1)).sum)),x']
|[],s,x,_,_=>⟨x,cU⟩
|q::l,s,x,hl,hs=>by
  rw[p_,PL]at hs;obtain⟨q1,q2,q3⟩:=hl q g_;obtain⟨x',ih⟩:=CD hN hn (d0:=d0) l (s+q.1) (some (pN N q)) (fun r hr=>hl r (f_ _ hr)) (by omega);refine⟨x',?_⟩;rw[p_,p_,PL,<-XS,<-ih];refine cL (r1:=[some d0,some (bb true n N A0),some (nD n),some (Qn N s),some (pN N q)]) rfl ?_;have i0:aC (pN N q) (.int 0)=some (Qn N q.1):=ixA_T0 _ _;have i1:aC (pN N q) (.int 1)=some (TN q.2):=j5 (i:=1) rfl;have hl2:lenD [pN N q]=some (nD 2):=rfl;have hne:=nc 2 2;rw[decide_eq_true rfl]at hne;have htop:iN (.int (lo N q.1).1) (.int 0)=some (.bl false):=by show some (D.bl (decide ((lo N q.1).1<=0)))=_;rw[decide_eq_false (by have:=AT hN q1;omega)]
  refine(aq ((bK ?_).trans (e_skip _))).trans ?_
  .rw[cQ (eO (b:=true) (dk (jq (a:=pN N q) (d:=.bl true) rfl rfl) rfl)),cQ (cq (ao (b:=nD 2) (bQ (ah (d:=pN N q) rfl am) hl2) rfl hne)),cQ (eO (b:=true) (dk (aI (ah (ao (a:=pN N q) (b:=.int 0) rfl rfl i0) am) (LK (jj hN (show q.1<=N by omega)) (tV _ hN.pos) (by omega))) rfl))];exact cq (ao (b:=.int 0) (ao (b:=.int 0) (ao (a:=pN N q) (b:=.int 0) rfl rfl i0) rfl (gA _)) rfl htop)
  have hdl:=Oe (l:=q.2) (m:=n) (q2.nodup_iff.mpr Qi) (fun x hx=>r_.mp (q2.mem_iff.mp hx)) (by rw[q2.length_eq];simp;omega);rw[show q.2.length=n by rw[q2.length_eq];simp]at hdl;refine(aq ((bK ?_).trans (e_skip _))).trans ?_
  .exact eO (b:=true) (dk (aI (ah (ao (a:=pN N q) (b:=.int 1) rfl rfl i1) (ah (d:=nD n) rfl (ah (d:=nD n) rfl am))) hdl) rfl)
  refine(aq ((bK ?_).trans (e_skip _))).trans ?_
  .refine eO (b:=true) (dk (d:=.bl true) (bQ (ah (fW (l:=a_ n) (fun h=>D.tup [nD h,nD (dA q.2 h)]) (fun _=>.bl true) (by rw[<-Ge q2];exact qm (d:=TN q.2) (ao (a:=pN N q) (b:=.int 1) rfl rfl i1) rfl) (by simp;omega) fun h hh=>⟨[some (nD h),some (nD (dA q.2 h)),some (bb true n N A0)],rfl,?_⟩) am) ?_) rfl)
   .have hh:=r_.mp hh;refine ao (b:=.int 0) (ao (b:=.int 0) (ao (b:=nD (dA q.2 h)) (ao (a:=bb true n N A0) (b:=nD h) rfl rfl (zD hh)) rfl (zC (hW q2 hh).2)) rfl (gA _)) rfl ?_;show some (D.bl (decide (0<(lo N (A0 h (dA q.2 h))).1)))=_;rw[decide_eq_true (AT hN (q3 h hh))]
   .have:=GM (fun _:Nat=>true) (a_ n);rw[List.all_eq_true.mpr (fun _ _=>rfl)]at this;exact this
  exact aq (aR (aI (ah (d:=Qn N s) rfl (ah (ao (a:=pN N q) (b:=.int 0) rfl rfl i0) am)) (Cf hN (by omega) (by omega))))
theorem tw(hN:Nn N)(hn1:1<=n)(hn:n<=7)(P:Pg n N A0 A' 0 ps):mK [bP N ps,bb true n N A0]=.ok (.bl true):=by
 have Z:=su hN hn1 hn P;have h36:(n-1)*(n-1)<=36:=Se (show n-1<=6 by omega) (show n-1<=6 by omega);have few:=P.few;obtain⟨x',e⟩:=CD (A0:=A0) hN hn (d0:=bP N ps) ps 0 none (fun q hq=>⟨(P.pos q hq).1,(P.pos q hq).2,fun h hh=>by have h1:=Cg (h:=h) hq;have h2:=(P.pos q hq).1;rw[P.done.1 h _ hh (hW (P.pos q hq).2 hh).2];omega⟩) (by have:=Z.sum;omega);rw[QJ,Z.sum]at e;refine bG (B:=yc) (n:=5) ?_;unfold yc;refine(aq (aR (d:=nD n) (bQ (ah (d:=bb true n N A0) rfl am) (by rw[AR,m_,Qw])))).trans ?_;have hlen:lenD [bP N ps]=some (nD ps.length):=ki _ _;have p1:1<=ps.length:=by cases hp:ps with
 |nil=>exact absurd hp Z.ne
 |cons a b=>simp
 refine(aq ((bK ?_).trans (e_skip _))).trans ?_
 .rw[cQ (eO (b:=true) (dk (jq (a:=bP N ps) (d:=.bl true) rfl rfl) rfl))];have l1:=Ac 1 ps.length;rw[decide_eq_true p1]at l1;have l2:=Ac ps.length ((n-1)*(n-1)+1);rw[decide_eq_true few]at l2;have hs:=IK (a:=n) (b:=1) hn1;have hm:br (nD (n-1)) (nD (n-1))=some (nD ((n-1)*(n-1))):=by rw[mf (.inl ⟨by omega,by omega⟩)];show some (D.int _)=some (D.int _);rw[K_]
  exact eO (cq (uJ (x:=nD 1) (y:=nD ps.length) (w:=nD ((n-1)*(n-1)+1)) rfl (bQ (ah (d:=bP N ps) rfl am) hlen) l1 (ao (b:=nD 1) (ao (ao (a:=nD n) (b:=nD 1) rfl rfl hs) (ao (a:=nD n) (b:=nD 1) rfl rfl hs) hm) rfl (iw _ _)) l2))
 refine(aq (aR (d:=Qn N 0) (by show _=Res.ok (FR (lo N 0));rw[gs hN];exact iy (ah (d:=.int 0) rfl (ah (d:=.int 1) rfl am)) (by simp)))).trans ?_;refine(aq ((cV (gC (d:=bP N ps) rfl rfl)).trans e)).trans ?_;refine(aq ((bK ?_).trans (e_skip _))).trans ?_
 .have hc:=fW (nl:=2) (cap:=[]) (fi:=aG bJ (gv 0)) (ft:=dg (bh (az 0) (bh (az 1) dc))) (fe:=gv 1) (r:=[some (bP N ps),some (bb true n N A0),some (nD n),some (Qn N N),x']) (l:=ps) (pN N) (fun q=>TN q.2) (gC (d:=bP N ps) rfl rfl) (by omega) fun q _=>⟨[some (Qn N q.1),some (TN q.2)],rfl,rfl⟩
  rw[show ps.map (fun q=>TN q.2)=(ps.map (·.2)).map TN by rw[M_];rfl]at hc;have hset:=KI (l:=ps.map (·.2)) P.nd (by rw[m_];omega);rw[m_]at hset;have hne:=nc ps.length ps.length;rw[decide_eq_true rfl]at hne;exact cq (ao (bQ (ah hc am) hset) (bQ (ah (d:=bP N ps) rfl am) hlen) hne)
 have h11:=Hr (lo N N) (1,1);rw[decide_eq_true (yZ hN)]at h11;refine bn (bx ?_);rw[pW (ao (a:=Qn N N) (b:=FR (1,1)) rfl (iy (ah (d:=.int 1) rfl (ah (d:=.int 1) rfl am)) (by simp)) h11)];have hm:=xr Z;rw[<-LZ (A:=A0) P.done.1]at hm;exact ao (b:=bb true n N A0) (aI (ah (d:=bP N ps) rfl (ah (d:=nD n) rfl am)) hm) rfl (Iq (GA n N A0) rfl)
end
theorem Ho{rows:List (List Nat)}{n:Nat}(R:Sq rows n):lN (tbl rows n)=bb true n DD (tbN rows n)/\DS n (tbN rows n) DD:=by
 refine⟨?_,⟨fun i hi=>?_,fun j hj=>?_⟩⟩
 .show D.tup _=D.tup _;unfold tbl;rw[M_];congr 1;refine PY fun h _=>?_;show D.tup _=D.tup _;unfold mM;rw[M_];rfl
 .rw[<-qf];exact IR R hi
 .rw[<-qf];exact IQ R hj
theorem Ch:∀(dls:List (List Nat))(h x:Nat),aF (dls.map fun d=>(1,d)) h x=(col dls h).count x
|[],_,_=>rfl
|d::dls,h,x=>by
  rw[p_,n9,Ch dls h x];show _=((d.getD h 0)::col dls h).count x;have e:dA d h=d.getD h 0:=by unfold dA;rw[E_]
  rw[WM,e];by_cases z:x=d.getD h 0
  .rw[if_pos z,if_pos (by rw[z];simp)];omega
  .rw[if_neg z,if_neg (by simpa using fun w=>z w.symm)];omega
theorem sum_one:∀(dls:List (List Nat)),((dls.map fun d=>((1:Nat),d)).map (·.1)).sum=dls.length
|[]=>rfl
|d::dls=>by rw[p_,p_,PL,sum_one dls,C_];omega
theorem Nx{rows:List (List Nat)}{n:Nat}(R:Rws rows n n){o:List Nat}(hp:o.Perm (a_ n)):(gz rows n n o).Perm (a_ n):=by
 have nd:=hp.nodup_iff.mpr Qi;obtain⟨h1,h2⟩:=Rg.AU (Rg.sr (W:=Wr rows) o (a_ n) nd) Qi (by rw[hp.length_eq];omega) (fun h hh x hx=>R.has (r_.mp (hp.mem_iff.mp hh)) (r_.mp hx));unfold gz;refine Rg.t0 ?_ ?_ (by simp)
 .refine RK.mpr ((RA.mp Qi).imp fun{a b} w z=>w.2.2 ?_);exact h2 a (hp.mem_iff.mpr w.1) b (hp.mem_iff.mpr w.2.1) nd z
 .intro x hx;obtain⟨h,hh,rfl⟩:=A_.mp hx;exact h1 h (hp.mem_iff.mpr hh)
theorem Ie{rows:List (List Nat)}{n:Nat}(R:Rws rows n n){rs:List (List Nat)}(h1:∀r∈rs,r.Perm (a_ n)):lN (lH rs rows n n)=bb true n rs.length (fun h x=>(col (rs.map (gz rows n n)) h).count x)/\DS n (fun h x=>(col (rs.map (gz rows n n)) h).count x) rs.length:=by
 constructor
 .show D.tup _=D.tup _;unfold lH;rw[M_];congr 1;refine PY fun h _=>?_;show D.tup _=D.tup _;unfold shr;rw[M_,m_];rfl
 .have:=pV (n:=n) (ps:=(rs.map (gz rows n n)).map fun d=>(1,d)) fun q hq=>by obtain⟨d,hd,rfl⟩:=A_.mp hq;obtain⟨o,ho,rfl⟩:=A_.mp hd;exact Nx R (h1 o ho)
  rw[sum_one,m_]at this;have e:aF ((rs.map (gz rows n n)).map fun d=>(1,d))=fun h x=>(col (rs.map (gz rows n n)) h).count x:=by funext h x;exact Ch _ h x
  rw[e]at this;exact this
theorem Kh{N:Nat}(hN:0<N)(c:Nat):low (lo N c).1 (2*(lo N c).2)=lo (2*N) c:=by
 have h1:(lo N c).1*(N:Int)=(c:Int)*((lo N c).2:Int):=fY _ N;have p1:=fL (c:Int) hN;refine ik (Qp (by decide) p1) (by omega) ?_;generalize lo N c=p at *;rw[K_,K_];have e1:p.1*(((2:Nat):Int)*(N:Int))=(p.1*(N:Int))*((2:Nat):Int):=by simp only[z_,PF,H_]
 rw[e1,h1];simp only[z_,PF,H_]
theorem D7{n N:Nat}{ps:List (Nat×List Nat)}(P:Pz n N ps):oy [bP N ps]=.ok (bP (2*N) ps):=by
 have few:=P.few;refine bG (B:=xW) (n:=1) ?_;unfold xW;refine bn (bx (fW (l:=ps) (pN N) (pN (2*N)) (gC (d:=bP N ps) rfl rfl) (by omega) fun q hq=>⟨[some (Qn N q.1),some (TN q.2)],rfl,?_⟩));have hb:(lo N q.1).2<=N:=Bo _ _;have hp:=fL (q.1:Int) P.N0.pos;have m2:br (.int 2) (nD (lo N q.1).2)=some (nD (2*(lo N q.1).2)):=by rw[mf (.inl ⟨by decide,by decide⟩)];show some (D.int _)=some (D.int _);rw[K_];rfl
 have hr:=t8 (t:=(lo N q.1).1) (b:=2*(lo N q.1).2) (k:=101) (Qp (by decide) hp) (by have:=P.N0.lt;rw[Td];omega) (by omega);rw[Kh P.N0.pos]at hr;exact iy (ah (aI (ah (ao (a:=Qn N q.1) (b:=.int 0) rfl rfl (gA _)) (ah (ao (a:=.int 2) rfl (ao (a:=Qn N q.1) (b:=.int 1) rfl rfl (gK _)) m2) am)) hr) (ah (d:=TN q.2) rfl am)) (by simp)
theorem C8{N M:Nat}(hN:0<N)(hM:0<M)(ps:List (Nat×List Nat)):ps.map (pN N)=(ps.map fun q=>(q.1*M,q.2)).map (pN (N*M)):=by rw[M_];refine PY fun q _=>?_;show D.tup _=D.tup _;have:lo N q.1=lo (N*M) (q.1*M):=Ig hN (Qp hN hM) (by rw[UD,Q8 M N]);rw[show Qn N q.1=Qn (N*M) (q.1*M)from congrArg FR this]
theorem wM(M:Nat):∀ps:List (Nat×List Nat),((ps.map fun q=>(q.1*M,q.2)).map (·.1)).sum=(ps.map (·.1)).sum*M
|[]=>by simp
|q::ps=>by rw[p_,p_,PL,wM M ps,p_,PL,SR]
theorem zi{n N M:Nat}{ps qs:List (Nat×List Nat)}(P:Pz n N ps)(Q:Pz n M qs)(h36:ps.length<=40)(h36':qs.length<=40)(hl:2*(N*M)<2^100):∃rs,Pz n (2*(N*M)) rs/\addA (bP (2*N) ps) (bP (2*M) qs)=some (bP (2*(N*M)) rs):=by
 have n0:=P.N0.pos;have m0:=Q.N0.pos;have nm:=Qp n0 m0;refine⟨(ps.map fun q=>(q.1*M,q.2))++qs.map fun q=>(q.1*N,q.2),⟨P.n1,P.n7,⟨by omega,hl⟩,?_,fun q hq=>?_,?_⟩,?_⟩
 .rw[L_,T0,wM,wM,P.sum,Q.sum,Q8 M N];omega
 .rcases Qk.mp hq with z|z
  .obtain⟨r,hr,rfl⟩:=A_.mp z;exact P.ok r hr
  .obtain⟨r,hr,rfl⟩:=A_.mp z;exact Q.ok r hr
 .rw[PN,m_,m_];omega
 .show(if (ps.map (pN (2*N))).length+(qs.map (pN (2*M))).length<=sizeLine then some (D.lst (ps.map (pN (2*N))++qs.map (pN (2*M))))else none)=some (D.lst (TM _ _));rw[if_pos (by rw[m_,m_,Qf];omega),L_];have e1:=C8 (N:=2*N) (M:=M) (by omega) m0 ps;have e2:=C8 (N:=2*M) (M:=N) (by omega) n0 qs;rw[UD]at e1;rw[UD,Q8 M N]at e2;rw[e1,e2]
theorem main(ns:List Int)(_:ns.length<=63):sg [.lst (ns.map .int)]=.ok (.bl true):=by
 obtain⟨cs,hcs,e0⟩:=Ny ns;have hcat:catL (IN [0]) (IN cs)=some (IN (0::cs)):=zh (by simp;omega);obtain⟨ms,hms⟩:∃ms:List Int,cA bX (a9 (f2 (fC (ag (gv 0) ae) lenD) (ci 0) je)) (aa (putF bX 1 (ci 0) (f2 (gv 0) (ci 0) aC)) au) au [some (IN ns),some (IN (0::cs)),none,none,none,none,none,none,none]=.nx [some (IN ns),some (IN ms),none,none,none,none,none,none,none]:=by have hg:=pK ns.length 0;have hl:lenD [IN ns]=some (nD ns.length):=ki _ _;cases ns with
 |nil=>exact⟨0::cs,(bK (cq (ao (b:=nD 0) (bQ (ah (d:=IN []) rfl am) hl) rfl hg))).trans rfl⟩
 |cons a l=>refine⟨a::cs,(gU (cq (ao (b:=nD 0) (bQ (ah (d:=IN (a::l)) rfl am) hl) rfl (hg.trans (by rw[decide_eq_true (by simp)]))))).trans ?_⟩;exact aq (jw (d:=IN (0::cs)) (k:=nD 0) (v:=.int a) rfl (ao (a:=IN (a::l)) (b:=.int 0) rfl rfl (ixA_L0 _ _)) rfl (tD (by simp)))
 obtain⟨c,hc⟩:=qy ms 1 (by omega);have hn7:c%7<7:=SF _ (by omega);have hm9:c/7%9<9:=SF _ (by omega);obtain⟨n,hn⟩:∃n,n=1+c%7:=⟨_,rfl⟩
 have hn1:1<=n:=by omega
 have hn8:n<=7:=by omega
 have hrow:∀h:Nat,∃row:List Nat,h<=60->row.Perm (a_ n)/\∃c',fO [IN ms,nD (2+h)]=.ok (nD c')/\kr [nD c',nD n]=.ok (TN row):=fun h=>by
  by_cases hh:h<=60
  .obtain⟨c',hc'⟩:=qy ms (2+h) (by omega);obtain⟨row,r1,r2⟩:=Cu c' n (by omega);exact⟨row,fun _=>⟨r1,c',hc',r2⟩⟩
  .exact⟨[],fun z=>absurd z hh⟩
 obtain⟨g,hg⟩:=Rj hrow;have hw:(fC (ag (cD 1 [2,1] (bL bB (ag (gv 2) ae)) (az 0) (fun _=>Res.ok true) (aA (ag (aA (ag (gv 2) (ag (f2 (ci 2) (gv 0) addA) ae)) [] fO) (ag (gv 1) ae)) [] kr)) ae) tupD) [some (IN ns),some (IN ms),some (nD n),none,none,none,none,none,none]=.ok (WD ((a_ n).map g)):=by
  refine bQ (ah (fW (l:=a_ n) nD (fun h=>TN (g h)) (fK (ah (d:=nD n) rfl am) (fJ (by omega))) (by simp;omega) fun h hh=>⟨[some (nD h),some (nD n),some (IN ms)],rfl,?_⟩) am) ?_
  .have hh:=r_.mp hh;obtain⟨_,c',h1,h2⟩:=hg h (by omega);exact aI (ah (aI (ah (d:=IN ms) rfl (ah (ao (a:=nD 2) (b:=nD h) rfl rfl (iw _ _)) am)) h1) (ah (d:=nD n) rfl am)) h2
  .rw[e_tupL];show some (D.tup _)=some (D.tup (TM TN _));rw[M_];rfl
 have hrows:∀row∈(a_ n).map g,row.Perm (a_ n):=fun row hr=>by obtain⟨h,hh,rfl⟩:=A_.mp hr;exact(hg h (by have:=r_.mp hh;omega)).1
 have R:Sq ((a_ n).map g) n:=⟨hn1,hn8,by simp,hrows⟩
 have R2:Rws ((a_ n).map g) n n:=⟨hn1,hn8,u_ _,by omega,by simp,hrows⟩
 generalize(a_ n).map g=rows at hw R R2;obtain⟨N,ps0,hN7,Z0,e1⟩:=NE ms 9 n (1+c/7%9) (by omega) hn1 hn8 (by omega) (by omega);have D1:DS n (aF ps0) N:=Z0.sum▸pV Z0.ok;have e2:=xr Z0;obtain⟨dl,e3⟩:=NA R;obtain⟨eT,D2⟩:=Ho R;rw[eT]at e3;obtain⟨M,B,hM,hMD,DB,x5,e4⟩:∃(M:Nat)(B:Nat->Nat->Nat),Nn M/\M<=DD/\DS n B M/\∃x5,x5=bb true n M B/\cA bX (dO (a9 (f2 (gv 2) (ci 6) gG)) (a9 (f2 (f2 (f2 (aA (ag (gv 1) (ag (ci 1) ae)) [] fO) (ci 63) js) (ci 2) bg) (ci 0) eqD))) (aa (ap bX 5 (aA (ag (gv 3) ae) [] mZ)) au) au [some (IN ns),some (IN ms),some (nD n),some (WD rows),some (bb true n N (aF ps0)),some (bb true n DD (tbN rows n)),none,none,none]=.nx [some (IN ns),some (IN ms),some (nD n),some (WD rows),some (bb true n N (aF ps0)),some x5,none,none,none]:=by
  have t6:=nb n 6;have tc:=mX (c/63%2) 0;have hf2:(a9 (f2 (f2 (f2 (aA (ag (gv 1) (ag (ci 1) ae)) [] fO) (ci 63) js) (ci 2) bg) (ci 0) eqD)) [some (IN ns),some (IN ms),some (nD n),some (WD rows),some (bb true n N (aF ps0)),some (bb true n DD (tbN rows n)),none,none,none]=.ok (decide (c/63%2=0)):=cq (ao (b:=nD 0) (ao (b:=nD 2) (ao (b:=nD 63) (aI (ah (d:=IN ms) rfl (ah (d:=nD 1) rfl am)) hc) rfl (uP (by omega) (by omega))) rfl (nA (by omega))) rfl tc);have hf1:∀b,decide (n<6)=b->(a9 (f2 (gv 2) (ci 6) gG)) [some (IN ns),some (IN ms),some (nD n),some (WD rows),some (bb true n N (aF ps0)),some (bb true n DD (tbN rows n)),none,none,none]=.ok b:=fun b hb=>cq (ao (a:=nD n) (b:=nD 6) rfl rfl (t6.trans (by rw[hb])));by_cases h6:n<6
  .by_cases h2:c/63%2=0
   .obtain⟨rs,a1,a2,a3⟩:=KZ (k:=n) (by omega);have hl:=Kw R2 (by omega) (fun r hr=>(a1 r).mp hr) a2 a3;obtain⟨lT,D3⟩:=Ie R2 (rs:=rs) fun r hr=>(a1 r).mp hr;rw[lT]at hl;have f0:=sQ n;have f1:=sw (i:=n) (by omega);refine⟨_,_,⟨by omega,Q3 (show rs.length<=120 by omega) (by decide)⟩,PQ (show rs.length<=120 by omega) (by unfold DD;decide),D3,_,rfl,?_⟩;rw[decide_eq_true h2]at hf2;refine(gU ?_).trans (aq (aR (aI (ah (d:=WD rows) rfl am) hl)));rw[sE (hf1 true (decide_eq_true h6))];exact hf2
   .rw[decide_eq_false h2]at hf2;refine⟨DD,_,yY,u_ _,D2,_,rfl,(bK ?_).trans rfl⟩;rw[sE (hf1 true (decide_eq_true h6))];exact hf2
  .refine⟨DD,_,yY,u_ _,D2,_,rfl,(bK ?_).trans rfl⟩;exact zK (hf1 false (decide_eq_false h6))
 obtain⟨rfl,e4⟩:=e4;obtain⟨A1,ps,P1,f1⟩:=xt Z0.N0 hn1 hn8 D1 true;obtain⟨A2,qs,P2,f2'⟩:=xt hM hn1 hn8 DB true;have w1:=tw Z0.N0 hn1 hn8 P1;have w2:=tw hM hn1 hn8 P2;have Z1:=su Z0.N0 hn1 hn8 P1;have Z2:=su hM hn1 hn8 P2;have h36:(n-1)*(n-1)<=36:=Se (show n-1<=6 by omega) (show n-1<=6 by omega);obtain⟨rs,Z3,eb⟩:=zi Z1 Z2 (by have:=P1.few;omega) (by have:=P2.few;omega) (by
  have:N*M<=720*DD:=Se hN7 hMD;have:2*(N*M)<=2*(720*DD):=by omega
  exact Q3 this (by unfold DD;decide))
 have e5:=xr Z3;have D5:DS n (aF rs) (2*(N*M)):=Z3.sum▸pV Z3.ok;obtain⟨A5,us,P5,f5⟩:=xt Z3.N0 hn1 hn8 D5 true;have w5:=tw Z3.N0 hn1 hn8 P5;refine bG (B:=pD) (n:=9) ?_;unfold pD;refine(aq (aR (ao (a:=IN [0]) (b:=IN cs) (fI (ah (d:=.int 0) rfl am) (by simp)) (aI (ah (d:=IN ns) rfl (ah (d:=nD 27) rfl am)) e0) hcat))).trans ?_;refine(aq hms).trans ?_;refine(aq (aR (d:=nD n) (ao (a:=nD 1) rfl (ao (b:=nD 7) (aI (ah (d:=IN ms) rfl (ah (d:=nD 1) rfl am)) hc) rfl (nA (by omega))) (by rw[iw,hn])))).trans ?_;refine(aq (aR hw)).trans ?_;refine(aq (aR (aI (ah (aI (ah (d:=IN ms) rfl (ah (d:=nD 9) rfl (ah (d:=nD n) rfl (ah (d:=nD (1+c/7%9)) (ao (a:=nD 1) rfl (ao (b:=nD 9) (ao (b:=nD 7) (aI (ah (d:=IN ms) rfl (ah (d:=nD 1) rfl am)) hc) rfl (uP (by omega) (by omega))) rfl (nA (by omega))) (iw _ _)) am)))) e1) (ah (d:=nD n) rfl am)) e2))).trans ?_;refine(aq (aR (ao (b:=.int 0) (aI (ah (d:=WD rows) rfl am) e3) rfl (ixA_T0 _ _)))).trans ?_;refine(aq e4).trans ?_;refine(aq (aR (aI (ah (d:=bb true n N (aF ps0)) rfl am) f1))).trans ?_;refine(aq (aR (aI (ah (d:=bb true n M B) rfl am) f2'))).trans ?_;refine(aq ((bK ?_).trans (e_skip _))).trans ?_
 .rw[cQ (eO (b:=true) (dk (aI (ah (d:=bP N ps) rfl (ah (d:=bb true n N (aF ps0)) rfl am)) w1) rfl))];exact eO (b:=true) (dk (aI (ah (d:=bP M qs) rfl (ah (d:=bb true n M B) rfl am)) w2) rfl)
 refine(aq (aR (aI (ah (ao (aI (ah (d:=bP N ps) rfl am) (D7 Z1)) (aI (ah (d:=bP M qs) rfl am) (D7 Z2)) eb) (ah (d:=nD n) rfl am)) e5))).trans ?_;exact bn (bx (aI (ah (aI (ah (d:=bb true n (2*(N*M)) (aF rs)) rfl am) f5) (ah (d:=bb true n (2*(N*M)) (aF rs)) rfl am)) w5))
end Law
end
open PySem PySem.W PyProof.Rows
abbrev P0:=TU.prog
namespace PySem.W.Fast
def tw5899938896091858603:=0
def tw17644863159294542227:=0
def tw8624557477239026432:=0
def tw11888180346666626798:=0
def tw18384597428892738978:=0
def tw10277665926267008002:=0
def tw15112392840202803764:=0
def tw1487762485365697664:=0
def tw4417920126892147945:=0
def tw15624838149009006506:=0
def tw826703924259760287:=0
def tw821319502088430590:=0
def tw13107111013685726815:=0
def tw5013158589543495111:=0
def tw8134382038688831473:=0
def tw6016419299672509279:=0
def tw988172548018916335:=0
def tw9173597829486551698:=0
def tw701733050408431102:=0
def tw2130950492326841142:=0
def tw9952619649110156216:=0
def tw13577082064930382934:=0
def tw14411634905891993086:=0
def tw4137508679093333886:=0
def tw15573678041848664500:=0
def tw10431677656931174151:=0
def tw14301296872476240476:=0
def tw14319594372546696971:=0
def tw2279304378128914239:=0
def tw16109167336448208783:=0
def tw16662855059434802541:=0
def tw17346103574026660476:=0
def tw17983008368371895838:=0
def tw15647603336292116494:=0
def tw7738980581608515280:=0
def tw11364044212559305827:=0
def tw6097827398051551166:=0
def tw16748594023591531423:=0
def tw15891211558478147921:=0
def tw2079612712404803287:=0
def tw16943105027459895786:=0
def tw15326668088983751767:=0
def tw6400521547034963159:=0
def tw8430519679638083830:=0
def tw1280467836165186494:=0
def tw12735455544330408944:=0
def tw13096100532397269779:=0
def tw2096155115775438411:=0
def tw12461967590904772044:=0
def tw18254118437292661843:=0
def tw7293758418580182553:=0
def tw10399369031676716653:=0
def tw6577473258116012184:=0
def tw4424904847075885478:=0
def tw17246341071676911878:=0
def tw15766280659105333024:=0
def tw1159488009606731123:=0
def tw11770381362026479007:=0
def tw14518395438923252137:=0
def tw10371827980017862119:=0
def tw17401068439614557764:=0
def tw6415559859927765742:=0
def tw10437069407353377036:=0
def tw4149596533692488499:=0
def tw10675098663978636615:=0
def tw4867291515510281878:=0
def tw773297028582591671:=0
def tw6374072435170127458:=0
def tw9582315225262745419:=0
def tw9386149018425290607:=0
def tw17676843278921789875:=0
def tw376882760850948902:=0
def tw11843619173622972077:=0
def tw329044017918821676:=0
def tw8594620679855042320:=0
def tw10162153855514851965:=0
def tw10273589603419432170:=0
def tw3654643401989808016:=0
def tw3343724992819095660:=0
def tw14338002851949368410:=0
def tw7550541663040153980:=0
def tw13680820682844825905:=0
def tw14144700060541265067:=0
def tw9330734055548224012:=0
def tw15082763091662256911:=0
def tw5586914072511188249:=0
def tw15473117718489653750:=0
def tw10699933080951304417:=0
def tw4174497616053087063:=0
def tw3606907183034539555:=0
def tw8383113117985405461:=0
def tw14087806984465037681:=0
def tw13356018059034539773:=0
def tw4355367515178490208:=0
def tw2440327588595109736:=0
def tw12207305319911706063:=0
def tw6615153333430712455:=0
def tw5249210883437036395:=0
def tw2934836702816776533:=0
def tw1560812448424040731:=0
def tw11331049651803690469:=0
def tw3809934708209662972:=0
def tw6541541145973155612:=0
def tw9321072853081192741:=0
def tw14557626315764998355:=0
def tw5383880553825030116:=0
def tw16657831700638545821:=0
def tw858814489647027018:=0
def tw3522656243262188715:=0
def tw898347324386566905:=0
def tw2681451028289463468:=0
def tw13873153999714696745:=0
def tw3016862012431878233:=0
def tw860564994029733389:=0
def tw9774276308852209814:=0
def tw10024739289759027843:=0
def tw1779211154877591895:=0
def tw9377900085294008061:=0
def tw12883005114096078139:=0
def tw14053376854957061423:=0
def tw1636594322581905300:=0
def tw14686459202905612772:=0
def tw13906829627432500554:=0
def tw10612290051244061286:=0
def tw5047289871019687341:=0
def tw7597305809826549699:=0
def tw5099171721742226367:=0
def tw16527930153660302843:=0
def tw15771750154731177037:=0
def tw17167330384240763622:=0
def tw13014498787206473916:=0
def tw17574984100471983010:=0
def tw15232355923798060560:=0
def tw6842984967416238160:=0
def tw7278528794719949671:=0
def tw1288080944475037117:=0
def tw17763825661426627125:=0
def tw6492929103637866450:=0
def tw7395297765601833315:=0
def tw12758360674986327010:=0
def tw8098697350228956327:=0
def tw3376520659406963022:=0
def tw375784089645327866:=0
def tw6007064032279732470:=0
def tw9552031227935454193:=0
def tw11870583974467841728:=0
def tw4269899888943253648:=0
def tw18254969711877413546:=0
def tw8040054409298043288:=0
def tw11800406625601862506:=0
def tw1964976827088484176:=0
def tw8746462842101906922:=0
def tw16563367988836932704:=0
def tw5343321331051603254:=0
def tw13695106450050351273:=0
def tw14783888202115607032:=0
def tw2516092393556751838:=0
def tw16129807535844436568:=0
def tw5778796137765983918:=0
def tw5974971837053934204:=0
def tw15519601342481953182:=0
def tw5778695162206496478:=0
def tw16286454451052624708:=0
def tw3257002883941348228:=0
def tw16176191723050593358:=0
def tw9628843922974806510:=0
def tw12186848887692734401:=0
def tw11460564069771489527:=0
def tw16203837769639438773:=0
def tw4501185173113182328:=0
def tw5152419997751724882:=0
def tw12377275825423453451:=0
def tw1036354774367083258:=0
def tw8343667210984000217:=0
def tw11430527781400107737:=0
def tw16896815850713430773:=0
def tw9569290591009921523:=0
def tw3384653266280506775:=0
def tw939887065659008033:=0
def tw13259100735785003435:=0
def tw16585638362196051058:=0
def tw10151949206578888193:=0
def tw7488531971574653517:=0
def tw12298457533974980271:=0
def tw957832289228023169:=0
def tw10396092283059547505:=0
def tw14022134360637582346:=0
def tw1069099732708583012:=0
def tw4685133948919886587:=0
def tw9703069627174551948:=0
def tw10491598922888668542:=0
def tw8803308064979847812:=0
def tw7396242540437212503:=0
def tw16697915045881244158:=0
def tw8136364116502359874:=0
def tw11769290889589879413:=0
def tw17993708240276521228:=0
def tw7064769084826374826:=0
def tw7459139175880633273:=0
def tw16315115063509700220:=0
def tw17204781491279041260:=0
def tw18442939107285626134:=0
def tw9887915783381917546:=0
def tw5912507085660393479:=0
def tw11051893683112271645:=0
def tw10498666130136258715:=0
def tw17345646517727889039:=0
def tw11409189396252321516:=0
def tw11594376286342648516:=0
def tw7527791998942471388:=0
def tw9439794211340703160:=0
def tw7689062581653784213:=0
def tw3807758124231662946:=0
def tw11944149020838827496:=0
def tw11997107672338405294:=0
def tw9113562517082321219:=0
def tw8179439877580802763:=0
def tw9551322167899338474:=0
def tw2611134196964714733:=0
def tw7367124748760044702:=0
def tw1536343677100404787:=0
def tw6592031457375125112:=0
def tw6139759086112023163:=0
def tw12703704458217492662:=0
def tw10445624947134643537:=0
def tw3360364229265132606:=0
def tw5809115141074148544:=0
def tw13624357316929020709:=0
def tw16316784305658542929:=0
def tw14703523052194219014:=0
def tw3124195886142910677:=0
def tw16012402441231019347:=0
def tw2191662757559424338:=0
end PySem.W.Fast
set_option maxRecDepth 100000 in
set_option maxHeartbeats 0 in
theorem PySem.Challenge.cw_ringtrade_k39_whole_any_table_parted_holds : PySem.Challenge.rw_ringtrade_k39_whole_any_table_parted.Holds := by
 w_on; o_law; k_head; (case hw=>w_witness2)
 k_fill
 refine DL.FA (l:=PySem.Challenge.rw_ringtrade_k39_whole_any_table_parted) (k:=13) (x := "_law_script") (F:=Law.sg) rfl rfl ⟨rfl,by decide,by decide,rfl⟩ (fun w h Y=>PySem.W.kIn_of Y) Law.main ?C
 intro w mg fa h KX G hmg
 have T:Law.Txt (L2.aD KX) mg:=by
  dsimp only [L2.aD]
  refine ⟨?uq,?ur,?ut,?uu,?uv,?uw,?ux,?uy,?uz,?u0,?u1,?u2,?u3,?u4,?u5,?u6⟩
  case uq|ur|ut|uu|uv|uw|ux|uy|uz|u0|u1|u2|u3=>(refine' PySem.W.mg_none_of KX G ?_; k_is)
  case u4=>(refine' DL.GF KX G ?z; case z=>k_is)
  case u5=>(refine' DL.zx KX G ?u7 ?u8; (case u7=>k_is); (case u8=>k_is))
  case u6=>(refine' DL.zx KX G ?u9 ?va; (case u9=>k_is); (case va=>k_is))
 have vb:DL.DefAt (L2.aD KX) mg "_law_common" Law.xQ:=by
  dsimp only [L2.aD]
  refine' DL.bv KX G ?a ?l ?c ?k
  case a|l|c|k=>k_is
 have vc:DL.DefAt (L2.aD KX) mg "_law_low" Law.wO:=by
  dsimp only [L2.aD]
  refine' DL.bv KX G ?a ?l ?c ?k
  case a|l|c|k=>k_is
 have vd:DL.DefAt (L2.aD KX) mg "_law_plus" Law.wA:=by
  dsimp only [L2.aD]
  refine' DL.bv KX G ?a ?l ?c ?k
  case a|l|c|k=>k_is
 have ve:DL.DefAt (L2.aD KX) mg "_law_mixed" Law.oA:=by
  dsimp only [L2.aD]
  refine' DL.bv KX G ?a ?l ?c ?k
  case a|l|c|k=>k_is
 have vf:DL.DefAt (L2.aD KX) mg "greatest_divisor" Law.yl:=by
  dsimp only [L2.aD]
  refine' DL.bv KX G ?a ?l ?c ?k
  case a|l|c|k=>k_is
 have vg:DL.DefAt (L2.aD KX) mg "is_whole" Law.wJ:=by
  dsimp only [L2.aD]
  refine' DL.bv KX G ?a ?l ?c ?k
  case a|l|c|k=>k_is
 have vh:DL.DefAt (L2.aD KX) mg "fraction" Law.wR:=by
  dsimp only [L2.aD]
  refine' DL.bv KX G ?a ?l ?c ?k
  case a|l|c|k=>k_is
 have vi:DL.DefAt (L2.aD KX) mg "plus" Law.tH:=by
  dsimp only [L2.aD]
  refine' DL.bv KX G ?a ?l ?c ?k
  case a|l|c|k=>k_is
 have vj:DL.DefAt (L2.aD KX) mg "total" Law.uW:=by
  dsimp only [L2.aD]
  refine' DL.bv KX G ?a ?l ?c ?k
  case a|l|c|k=>k_is
 have vk:DL.DefAt (L2.aD KX) mg "dealing_of" Law.oC:=by
  dsimp only [L2.aD]
  refine' DL.bv KX G ?a ?l ?c ?k
  case a|l|c|k=>k_is
 have vl:DL.DefAt (L2.aD KX) mg "finds_a_thing" Law.rB:=by
  dsimp only [L2.aD]
  refine' DL.bv KX G ?a ?l ?c ?k
  case a|l|c|k=>k_is
 have vm:DL.DefAt (L2.aD KX) mg "less" Law.tF:=by
  dsimp only [L2.aD]
  refine' DL.bv KX G ?a ?l ?c ?k
  case a|l|c|k=>k_is
 have vn:DL.DefAt (L2.aD KX) mg "dealing_within" Law.oF:=by
  dsimp only [L2.aD]
  refine' DL.bv KX G ?a ?l ?c ?k
  case a|l|c|k=>k_is
 have vo:DL.DefAt (L2.aD KX) mg "least" Law.uT:=by
  dsimp only [L2.aD]
  refine' DL.bv KX G ?a ?l ?c ?k
  case a|l|c|k=>k_is
 have vp:DL.DefAt (L2.aD KX) mg "minus" Law.uU:=by
  dsimp only [L2.aD]
  refine' DL.bv KX G ?a ?l ?c ?k
  case a|l|c|k=>k_is
 have vq:DL.DefAt (L2.aD KX) mg "without" Law.n5:=by
  dsimp only [L2.aD]
  refine' DL.bv KX G ?a ?l ?c ?k
  case a|l|c|k=>k_is
 have vr:DL.DefAt (L2.aD KX) mg "parted" Law.nU:=by
  dsimp only [L2.aD]
  refine' DL.bv KX G ?a ?l ?c ?k
  case a|l|c|k=>k_is
 have vs:DL.DefAt (L2.aD KX) mg "_law_is_dealing" Law.ym:=by
  dsimp only [L2.aD]
  refine' DL.bv KX G ?a ?l ?c ?k
  case a|l|c|k=>k_is
 have vt:DL.DefAt (L2.aD KX) mg "_law_is_fraction" Law.yk:=by
  dsimp only [L2.aD]
  refine' DL.bv KX G ?a ?l ?c ?k
  case a|l|c|k=>k_is
 have vu:DL.DefAt (L2.aD KX) mg "_law_parts_well" Law.ls:=by
  dsimp only [L2.aD]
  refine' DL.bv KX G ?a ?l ?c ?k
  case a|l|c|k=>k_is
 have vv:DL.DefAt (L2.aD KX) mg "_law_all" Law.wN:=by
  dsimp only [L2.aD]
  refine' DL.bv KX G ?a ?l ?c ?k
  case a|l|c|k=>k_is
 have vw:DL.DefAt (L2.aD KX) mg "_law_cell" Law.vZ:=by
  dsimp only [L2.aD]
  refine' DL.bv KX G ?a ?l ?c ?k
  case a|l|c|k=>k_is
 have vx:DL.DefAt (L2.aD KX) mg "_law_row" Law.wP:=by
  dsimp only [L2.aD]
  refine' DL.bv KX G ?a ?l ?c ?k
  case a|l|c|k=>k_is
 have vy:DL.DefAt (L2.aD KX) mg "_law_parts" Law.oB:=by
  dsimp only [L2.aD]
  refine' DL.bv KX G ?a ?l ?c ?k
  case a|l|c|k=>k_is
 have vz:DL.DefAt (L2.aD KX) mg "things_in" Law.wD:=by
  dsimp only [L2.aD]
  refine' DL.bv KX G ?a ?l ?c ?k
  case a|l|c|k=>k_is
 have v0:DL.DefAt (L2.aD KX) mg "is_square" Law.wB:=by
  dsimp only [L2.aD]
  refine' DL.bv KX G ?a ?l ?c ?k
  case a|l|c|k=>k_is
 have v1:DL.DefAt (L2.aD KX) mg "refuse_unless_square" Law.yu:=by
  dsimp only [L2.aD]
  refine' DL.bv KX G ?a ?l ?c ?k
  case a|l|c|k=>k_is
 have v2:DL.DefAt (L2.aD KX) mg "times" Law.uV:=by
  dsimp only [L2.aD]
  refine' DL.bv KX G ?a ?l ?c ?k
  case a|l|c|k=>k_is
 have v3:DL.DefAt (L2.aD KX) mg "time_until_one_is_gone" Law.oK:=by
  dsimp only [L2.aD]
  refine' DL.bv KX G ?a ?l ?c ?k
  case a|l|c|k=>k_is
 have v4:DL.DefAt (L2.aD KX) mg "left_after" Law.wV:=by
  dsimp only [L2.aD]
  refine' DL.bv KX G ?a ?l ?c ?k
  case a|l|c|k=>k_is
 have v5:DL.DefAt (L2.aD KX) mg "not_gone" Law.wK:=by
  dsimp only [L2.aD]
  refine' DL.bv KX G ?a ?l ?c ?k
  case a|l|c|k=>k_is
 have v6:DL.DefAt (L2.aD KX) mg "best_left" Law.oD:=by
  dsimp only [L2.aD]
  refine' DL.bv KX G ?a ?l ?c ?k
  case a|l|c|k=>k_is
 have v7:DL.DefAt (L2.aD KX) mg "meals_of" Law.k6:=by
  dsimp only [L2.aD]
  refine' DL.bv KX G ?a ?l ?c ?k
  case a|l|c|k=>k_is
 have v8:DL.DefAt (L2.aD KX) mg "log_of" Law.vR:=by
  dsimp only [L2.aD]
  refine' DL.bv KX G ?a ?l ?c ?k
  case a|l|c|k=>k_is
 have v9:DL.DefAt (L2.aD KX) mg "shares_of" Law.wC:=by
  dsimp only [L2.aD]
  refine' DL.bv KX G ?a ?l ?c ?k
  case a|l|c|k=>k_is
 have wa:DL.DefAt (L2.aD KX) mg "eaten" Law.nS:=by
  dsimp only [L2.aD]
  refine' DL.bv KX G ?a ?l ?c ?k
  case a|l|c|k=>k_is
 have wb:DL.DefAt (L2.aD KX) mg "refuse_too_many_for_lots" Law.yp:=by
  dsimp only [L2.aD]
  refine' DL.bv KX G ?a ?l ?c ?k
  case a|l|c|k=>k_is
 have wc:DL.DefAt (L2.aD KX) mg "shares_in" Law.lh:=by
  dsimp only [L2.aD]
  refine' DL.bv KX G ?a ?l ?c ?k
  case a|l|c|k=>k_is
 have wd:DL.DefAt (L2.aD KX) mg "is_below" Law.wS:=by
  dsimp only [L2.aD]
  refine' DL.bv KX G ?a ?l ?c ?k
  case a|l|c|k=>k_is
 have we:DL.DefAt (L2.aD KX) mg "first_wrong" Law.xR:=by
  dsimp only [L2.aD]
  refine' DL.bv KX G ?a ?l ?c ?k
  case a|l|c|k=>k_is
 have wf:DL.DefAt (L2.aD KX) mg "are_unlike" Law.wU:=by
  dsimp only [L2.aD]
  refine' DL.bv KX G ?a ?l ?c ?k
  case a|l|c|k=>k_is
 have wg:DL.DefAt (L2.aD KX) mg "has_each_once" Law.xU:=by
  dsimp only [L2.aD]
  refine' DL.bv KX G ?a ?l ?c ?k
  case a|l|c|k=>k_is
 have wh:DL.DefAtD (L2.aD KX) mg "order_of" Law.wL [Value.none]:=by
  dsimp only [L2.aD]
  refine' DL.zy KX G ?a ?l ?t ?c ?k
  case a|l|t|c|k=>k_is
 have wi:DL.DefAtD (L2.aD KX) mg "by_order" Law.wQ [Value.none]:=by
  dsimp only [L2.aD]
  refine' DL.zy KX G ?a ?l ?t ?c ?k
  case a|l|t|c|k=>k_is
 have wj:DL.DefAt (L2.aD KX) mg "all_orders" Law.wT:=by
  dsimp only [L2.aD]
  refine' DL.bv KX G ?a ?l ?c ?k
  case a|l|c|k=>k_is
 have wk:DL.DefAt (L2.aD KX) mg "lot" Law.nw:=by
  dsimp only [L2.aD]
  refine' DL.bv KX G ?a ?l ?c ?k
  case a|l|c|k=>k_is
 have wl:DL.DefAt (L2.aD KX) mg "_law_halved" Law.ox:=by
  dsimp only [L2.aD]
  refine' DL.bv KX G ?a ?l ?c ?k
  case a|l|c|k=>k_is
 have wm:DL.DefAt (L2.aD KX) mg "law" Law.nv:=by
  dsimp only [L2.aD]
  refine' DL.bv KX G ?a ?l ?c ?k
  case a|l|c|k=>k_is
 refine DL.GG hmg wm (fun _ _ _ _ _ _ us hl=>match us,hl with | [_],_=>rfl) fun f fd Fn base=>?_
 have ue:=Law.MO (P:=P0) (w:=w) (base:=base) T vb
 have uc:=Law.JJ (P:=P0) (w:=w) (base:=base) T vc ue
 have uf:=Law.Lu (P:=P0) (w:=w) (base:=base) T vd uc
 have ug:=Law.L8 (P:=P0) (w:=w) (base:=base) T ve uf
 have wn:=Law.Oc (P:=P0) (w:=w) (base:=base) T vf
 have uh:=Law.JO (P:=P0) (w:=w) (base:=base) T vg
 have ua:=Law.JM (P:=P0) (w:=w) (base:=base) T vh uh wn
 have ud:=Law.FB (P:=P0) (w:=w) (base:=base) T vi ua
 have wo:=Law.HB (P:=P0) (w:=w) (base:=base) T vj ud
 have ui:=Law.Mc (P:=P0) (w:=w) (base:=base) T vk
 have wp:=Law.Nr (P:=P0) (w:=w) (base:=base) T vl
 have uj:=Law.GD (P:=P0) (w:=w) (base:=base) T vm
 have wq:=Law.NO (P:=P0) (w:=w) (base:=base) T vn uj wp ui
 have uk:=Law.Hy (P:=P0) (w:=w) (base:=base) T vo uj
 have ul:=Law.Hz (P:=P0) (w:=w) (base:=base) T vp ua
 have wr:=Law.Jf (P:=P0) (w:=w) (base:=base) T vq ul
 have ws:=Law.Iy (P:=P0) (w:=w) (base:=base) T vr wo wq uk wr
 have wt:=Law.NL (P:=P0) (w:=w) (base:=base) T vs
 have wu:=Law.Ob (P:=P0) (w:=w) (base:=base) T vt ue
 have wv:=Law.NM (P:=P0) (w:=w) (base:=base) T vu wu wt uf ug
 have ww:=Law.JI (P:=P0) (w:=w) (base:=base) T vv
 have um:=Law.Ls (P:=P0) (w:=w) (base:=base) T vw
 have un:=Law.JK (P:=P0) (w:=w) (base:=base) T vx
 have wx:=Law.L9 (P:=P0) (w:=w) (base:=base) T vy um un uc
 have ub:=Law.Lr (P:=P0) (w:=w) (base:=base) T vz
 have wy:=Law.Lw (P:=P0) (w:=w) (base:=base) T v0 ub
 have wz:=Law.OE (P:=P0) (w:=w) (base:=base) T v1 wy
 have uo:=Law.HA (P:=P0) (w:=w) (base:=base) T v2 ua
 have w0:=Law.OU (P:=P0) (w:=w) (base:=base) T v3 ua uo uk
 have w1:=Law.Me (P:=P0) (w:=w) (base:=base) T v4 ua uo ul
 have w2:=Law.JQ (P:=P0) (w:=w) (base:=base) T v5
 have up:=Law.Lv (P:=P0) (w:=w) (base:=base) T v6
 have w3:=Law.JP (P:=P0) (w:=w) (base:=base) T v7 ub up w0 w1 w2
 have w4:=Law.Ix (P:=P0) (w:=w) (base:=base) T v8 ud
 have w5:=Law.Lq (P:=P0) (w:=w) (base:=base) T v9 ub ud
 have w6:=Law.Hx (P:=P0) (w:=w) (base:=base) T wa wz w3 w5 w4
 have w7:=Law.OR (P:=P0) (w:=w) (base:=base) T wb
 have w8:=Law.Lp (P:=P0) (w:=w) (base:=base) T wc ua
 have w9:=Law.JN (P:=P0) (w:=w) (base:=base) T wd uh
 have xa:=Law.MQ (P:=P0) (w:=w) (base:=base) T we w9
 have xb:=Law.Mb (P:=P0) (w:=w) (base:=base) T wf xa
 have xc:=Law.Nt (P:=P0) (w:=w) (base:=base) T wg xb
 have xd:=Law.JR (P:=P0) (w:=w) (base:=base) T wh xc
 have xe:=Law.JL (P:=P0) (w:=w) (base:=base) T wi ub xd up ui
 have xf:=Law.Ma (P:=P0) (w:=w) (base:=base) T wj
 have xg:=Law.GK (P:=P0) (w:=w) (base:=base) T wk w7 xf xe ub w8
 have xh:=Law.MP (P:=P0) (w:=w) (base:=base) T wl uc
 exact Law.GJ T Fn ww um un wx ug w6 xg ws wv xh
end
